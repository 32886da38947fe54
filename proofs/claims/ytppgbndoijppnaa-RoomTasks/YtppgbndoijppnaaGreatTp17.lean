/-
  Lemmas: RTold, RFits, RReg.
-/
import Derived.Test.YtppgbndoijppnaaGreatTp10
import Derived.Test.YtppgbndoijppnaaGreatTp12
import Derived.Test.YtppgbndoijppnaaGreatTp09
import Derived.Test.YtppgbndoijppnaaGreatTp11
namespace Go.Proofs.YtppgbndoijppnaaGreat
set_option maxHeartbeats 8000000
open Go.RowKit
set_option linter.unusedVariables false
set_option linter.unusedSimpArgs false
set_option linter.unnecessarySimpa false
set_option maxRecDepth 20000
section
open Beg
variable {K : Kd} {rep : List Value → K.σ → Prop} {P : Par} {blk : Rl → Nat} {c : Rl → Option Row} {st : St K} {un : Nat → Bool} {capw : Nat} {sv : Value} {w : World} {base B : Nat} {aoh aos : Option Addr} {caph caps : Nat} {sh : Shp} {la : Int}
end
section
section
variable {w : World} {B : Nat} {ao aos : Option Addr} {nh cap ns caps : Nat} {jn : Nat → Nat} {jb : Nat → Nat → Jb}
end
end
section
namespace Reg
structure Tab where
 pv : Nat → Option (Nat × Value)
 kc : Nat
 sc : Nat
 vc : Value
 al : Nat → Option (Nat × TypeId × List Value)
 so : Nat → Option (Nat × List Value)
 D : Nat → Prop
structure Tab.Ok (t : Tab) : Prop where
 pvD : ∀ i d v, t.pv i = some (d, v) → t.D d ∧ d ≠ t.sc ∧ i ≠ t.kc
 scD : t.D t.sc
 alD : ∀ i s ty z, t.al i = some (s, ty, z) → t.D s ∧ s ≠ t.sc ∧ i ≠ t.kc
 pp : ∀ i j d v d' v', t.pv i = some (d, v) → t.pv j = some (d', v') → i ≠ j → d ≠ d'
 pa : ∀ i j d v s ty z, t.pv i = some (d, v) → t.al j = some (s, ty, z) → d ≠ s ∧ i ≠ j
 aa : ∀ i j s ty z s' ty' z', t.al i = some (s, ty, z) → t.al j = some (s', ty', z') → i ≠ j → s ≠ s'
 ps : ∀ i j d v y, t.pv i = some (d, v) → t.so j = some y → i ≠ j
 as_ : ∀ i j x y, t.al i = some x → t.so j = some y → i ≠ j
 cs : ∀ j y, t.so j = some y → j ≠ t.kc
 soA : ∀ i j l, t.so i = some (j, l) → ∃ s ty z, t.al j = some (s, ty, z) ∧ z.length = l.length
 s1 : ∀ i i' j l l', t.so i = some (j, l) → t.so i' = some (j, l') → i = i'
structure In (t : Tab) (WI : Bool → World → Prop) (w0 : World) (gw : Nat) (a0 : Act) (L : Nat → Bool) (a : Act) (w : World) (bk : Nat → Nat) : Prop where
 sz : a.tmps.size = a0.tmps.size
 df : a.defers = a0.defers
 fix : ∀ k, ¬ t.D k → a.eval (.tmp k) = a0.eval (.tmp k)
 pure : ∀ i d v, t.pv i = some (d, v) → L i = true → a.eval (.tmp d) = v
 call : L t.kc = true → a.eval (.tmp t.sc) = t.vc
 world : WI (L t.kc) w
 tch : Touch w0 w (fun k => k = gw)
 al : ∀ i s ty z, t.al i = some (s, ty, z) → L i = true → a.eval (.tmp s) = .pointer (some ⟨bk i, 0, none⟩) ∧ w0.heap.size ≤ bk i ∧ bk i < w.heap.size ∧ w.there (bk i) 0 z.length
 inj : ∀ i j x y, t.al i = some x → t.al j = some y → L i = true → L j = true → i ≠ j → bk i ≠ bk j
 so : ∀ i j l, t.so i = some (j, l) → L i = true → L j = true ∧ w.rangeAt (bk j) 0 l
variable {t : Tab} {WI : Bool → World → Prop} {w0 w w' : World} {gw : Nat} {a0 a : Act} {L : Nat → Bool} {bk : Nat → Nat}
theorem In.read (h : In t WI w0 gw a0 L a w bk) (T : t.Ok) {i d : Nat} {v : Value} (hi : t.pv i = some (d, v)) (hd : d < a0.tmps.size) : In t WI w0 gw a0 (upd L i true) (a.put (some d) v) w bk := by
 obtain ⟨hD, hsc, hkc⟩ := T.pvD i d v hi
 have e : ∀ k : Nat, k ≠ d → (a.put (some d) v).eval (.tmp k) = a.eval (.tmp k) := fun k hk => put_other hk
 have uk : upd L i true t.kc = L t.kc := upd_other _ _ (Ne.symm hkc)
 refine ⟨by rw [put_size]; exact h.sz, by rw [put_defs]; exact h.df, fun k hk => ?_, fun j d' v' hj hL => ?_, fun hL => ?_, by rw [uk]; exact h.world, h.tch, fun j s ty z hj hL => ?_, fun j j' x y hj hj' hL hL' => ?_, fun j j' l hj hL => ?_⟩
 ·rw [e k (fun he => hk (he ▸ hD))]; exact h.fix k hk
 ·by_cases hij : j = i
  ·subst hij
   rw [hi] at hj; cases hj
   exact put_eval (by rw [h.sz]; exact hd)
  ·rw [upd_other _ _ hij] at hL
   rw [e d' (T.pp j i d' v' d v hj hi hij)]
   exact h.pure j d' v' hj hL
 ·rw [uk] at hL
  rw [e _ (Ne.symm hsc)]; exact h.call hL
 ·obtain ⟨h1, h2⟩ := T.pa i j d v s ty z hi hj
  rw [upd_other _ _ (Ne.symm h2)] at hL
  rw [e _ (Ne.symm h1)]; exact h.al j s ty z hj hL
 ·rw [upd_other _ _ (Ne.symm (T.pa i j d v x.1 x.2.1 x.2.2 hi hj).2)] at hL
  rw [upd_other _ _ (Ne.symm (T.pa i j' d v y.1 y.2.1 y.2.2 hi hj').2)] at hL'
  exact h.inj j j' x y hj hj' hL hL'
 ·rw [upd_other _ _ (Ne.symm (T.ps i j d v _ hi hj))] at hL
  obtain ⟨s, ty, z, ha, _⟩ := T.soA j j' l hj
  rw [upd_other _ _ (Ne.symm (T.pa i j' d v s ty z hi ha).2)]
  exact h.so j j' l hj hL
theorem In.stored (h : In t WI w0 gw a0 L a w bk) (T : t.Ok) {i j : Nat} {l : List Value} (hL0 : L i = false) (hi : t.so i = some (j, l)) (hLj : L j = true) (hg : gw < w0.heap.size) (hS : ∀ b w k vs, WI b w → w0.heap.size ≤ k → WI b (w.setCells k 0 vs)) :
  In t WI w0 gw a0 (upd L i true) (a.put none undef) (w.setCells (bk j) 0 l) bk := by
 have hp : a.put none undef = a := rfl
 rw [hp]
 obtain ⟨s, ty, z, ha, hz⟩ := T.soA i j l hi
 obtain ⟨q1, q2, q3, q4⟩ := h.al j s ty z ha hLj
 have tt := touch_setCells (bk j) l 0 w
 have uk : upd L i true t.kc = L t.kc := upd_other _ _ (Ne.symm (T.cs i _ hi))
 refine ⟨h.sz, h.df, h.fix, fun j' d' v' hj hL => ?_, fun hL => ?_, by rw [uk]; exact hS _ _ _ _ h.world q2, h.tch.trans' tt (fun k hk h => absurd hk (by omega)), fun j' s' ty' z' hj hL => ?_, fun j1 j2 x y hj hj' hL hL' => ?_, fun j1 j2 l' hj hL => ?_⟩
 ·rw [upd_other _ _ (T.ps j' i d' v' _ hj hi)] at hL
  exact h.pure j' d' v' hj hL
 ·rw [uk] at hL; exact h.call hL
 ·rw [upd_other _ _ (T.as_ j' i _ _ hj hi)] at hL
  obtain ⟨p1, p2, p3, p4⟩ := h.al j' s' ty' z' hj hL
  exact ⟨p1, p2, Nat.lt_of_lt_of_le p3 tt.size, World.there_setCells p4 _ _ _⟩
 ·rw [upd_other _ _ (T.as_ j1 i _ _ hj hi)] at hL
  rw [upd_other _ _ (T.as_ j2 i _ _ hj' hi)] at hL'
  exact h.inj j1 j2 x y hj hj' hL hL'
 ·by_cases hji : j1 = i
  ·subst hji
   rw [hi] at hj; cases hj
   exact ⟨by rw [upd_other _ _ (T.as_ _ _ _ _ ha hi)]; exact hLj, World.rangeAt_setCells_same _ _ _ _ (by rw [← hz]; exact q4)⟩
  ·rw [upd_other _ _ hji] at hL
   obtain ⟨hL2, hr⟩ := h.so j1 j2 l' hj hL
   obtain ⟨s2, ty2, z2, ha2, hz2⟩ := T.soA j1 j2 l' hj
   refine ⟨by rw [upd_other _ _ (T.as_ j2 i _ _ ha2 hi)]; exact hL2, World.rangeAt_setCells_apart hr _ _ _ (.inl ?_)⟩
   have hjj : j2 ≠ j := by rintro rfl; exact hji (T.s1 j1 i j2 l' l hj hi)
   exact h.inj j2 j _ _ ha2 ha hL2 hLj hjj
end Reg
end
end Go.Proofs.YtppgbndoijppnaaGreat
