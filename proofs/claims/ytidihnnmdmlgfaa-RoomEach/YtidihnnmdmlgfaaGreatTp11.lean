/-
  Lemmas: RTold, RFits, RReg, Made, Run0, NewRun.
-/
import Derived.Test.YtidihnnmdmlgfaaGreatTp08
import Derived.Test.YtidihnnmdmlgfaaGreatTp09
import Derived.Test.YtidihnnmdmlgfaaGreatTp07
import Derived.Deep.QuietTactic
import Derived.BigQuiet
import Derived.Deep.Cut
namespace Go.Proofs.YtidihnnmdmlgfaaGreat
set_option maxHeartbeats 8000000
open Go.RowKit
set_option linter.unusedVariables false
set_option linter.unusedSimpArgs false
set_option linter.unnecessarySimpa false
set_option maxRecDepth 20000
section
open Beg
variable {K : Kd} {rep : List Value → K.σ → Prop} {P : Par} {blk : Rl → Nat} {c : Rl → Option Row} {st : St K} {un : Nat → Bool} {capw : Nat} {sv : Value} {w : World} {base B : Nat} {aoh aos : Option Addr} {caph caps : Nat} {sh : Shp} {la : Int}
end
section
section
variable {w : World} {B : Nat} {ao aos : Option Addr} {nh cap ns caps : Nat} {jn : Nat → Nat} {jb : Nat → Nat → Jb}
end
end
section
namespace Reg
structure Tab where
  pv : Nat → Option (Nat × Value)
  kc : Nat
  sc : Nat
  vc : Value
  al : Nat → Option (Nat × TypeId × List Value)
  so : Nat → Option (Nat × List Value)
  D : Nat → Prop
structure Tab.Ok (t : Tab) : Prop where
  pvD : ∀ i d v, t.pv i = some (d, v) → t.D d ∧ d ≠ t.sc ∧ i ≠ t.kc
  scD : t.D t.sc
  alD : ∀ i s ty z, t.al i = some (s, ty, z) → t.D s ∧ s ≠ t.sc ∧ i ≠ t.kc
  pp : ∀ i j d v d' v', t.pv i = some (d, v) → t.pv j = some (d', v') → i ≠ j → d ≠ d'
  pa : ∀ i j d v s ty z, t.pv i = some (d, v) → t.al j = some (s, ty, z) → d ≠ s ∧ i ≠ j
  aa : ∀ i j s ty z s' ty' z', t.al i = some (s, ty, z) → t.al j = some (s', ty', z') → i ≠ j → s ≠ s'
  ps : ∀ i j d v y, t.pv i = some (d, v) → t.so j = some y → i ≠ j
  as_ : ∀ i j x y, t.al i = some x → t.so j = some y → i ≠ j
  cs : ∀ j y, t.so j = some y → j ≠ t.kc
  soA : ∀ i j l, t.so i = some (j, l) → ∃ s ty z, t.al j = some (s, ty, z) ∧ z.length = l.length
  s1 : ∀ i i' j l l', t.so i = some (j, l) → t.so i' = some (j, l') → i = i'
structure In (t : Tab) (WI : Bool → World → Prop) (w0 : World) (gw : Nat) (a0 : Act) (L : Nat → Bool) (a : Act) (w : World) (bk : Nat → Nat) : Prop where
  sz : a.tmps.size = a0.tmps.size
  df : a.defers = a0.defers
  fix : ∀ k, ¬ t.D k → a.eval (.tmp k) = a0.eval (.tmp k)
  pure : ∀ i d v, t.pv i = some (d, v) → L i = true → a.eval (.tmp d) = v
  call : L t.kc = true → a.eval (.tmp t.sc) = t.vc
  world : WI (L t.kc) w
  tch : Touch w0 w (fun k => k = gw)
  al : ∀ i s ty z, t.al i = some (s, ty, z) → L i = true → a.eval (.tmp s) = .pointer (some ⟨bk i, 0, none⟩) ∧ w0.heap.size ≤ bk i ∧ bk i < w.heap.size ∧ w.there (bk i) 0 z.length
  inj : ∀ i j x y, t.al i = some x → t.al j = some y → L i = true → L j = true → i ≠ j → bk i ≠ bk j
  so : ∀ i j l, t.so i = some (j, l) → L i = true → L j = true ∧ w.rangeAt (bk j) 0 l
variable {t : Tab} {WI : Bool → World → Prop} {w0 w w' : World} {gw : Nat} {a0 a : Act} {L : Nat → Bool} {bk : Nat → Nat}
theorem In.read (h : In t WI w0 gw a0 L a w bk) (T : t.Ok) {i d : Nat} {v : Value} (hi : t.pv i = some (d, v)) (hd : d < a0.tmps.size) : In t WI w0 gw a0 (upd L i true) (a.put (some d) v) w bk := by
  obtain ⟨hD, hsc, hkc⟩ := T.pvD i d v hi
  have e : ∀ k : Nat, k ≠ d → (a.put (some d) v).eval (.tmp k) = a.eval (.tmp k) := fun k hk => put_other hk
  have uk : upd L i true t.kc = L t.kc := upd_other _ _ (Ne.symm hkc)
  refine ⟨by rw [put_size]; exact h.sz, by rw [put_defs]; exact h.df, fun k hk => ?_, fun j d' v' hj hL => ?_, fun hL => ?_, by rw [uk]; exact h.world, h.tch, fun j s ty z hj hL => ?_, fun j j' x y hj hj' hL hL' => ?_, fun j j' l hj hL => ?_⟩
  · rw [e k (fun he => hk (he ▸ hD))]; exact h.fix k hk
  · by_cases hij : j = i
    · subst hij
      rw [hi] at hj; cases hj
      exact put_eval (by rw [h.sz]; exact hd)
    · rw [upd_other _ _ hij] at hL
      rw [e d' (T.pp j i d' v' d v hj hi hij)]
      exact h.pure j d' v' hj hL
  · rw [uk] at hL
    rw [e _ (Ne.symm hsc)]; exact h.call hL
  · obtain ⟨h1, h2⟩ := T.pa i j d v s ty z hi hj
    rw [upd_other _ _ (Ne.symm h2)] at hL
    rw [e _ (Ne.symm h1)]; exact h.al j s ty z hj hL
  · rw [upd_other _ _ (Ne.symm (T.pa i j d v x.1 x.2.1 x.2.2 hi hj).2)] at hL
    rw [upd_other _ _ (Ne.symm (T.pa i j' d v y.1 y.2.1 y.2.2 hi hj').2)] at hL'
    exact h.inj j j' x y hj hj' hL hL'
  · rw [upd_other _ _ (Ne.symm (T.ps i j d v _ hi hj))] at hL
    obtain ⟨s, ty, z, ha, _⟩ := T.soA j j' l hj
    rw [upd_other _ _ (Ne.symm (T.pa i j' d v s ty z hi ha).2)]
    exact h.so j j' l hj hL
theorem there_touch {S : Nat → Prop} {b n : Nat} (h : w.there b 0 n) (ht : Touch w w' S) (hl : b < w.heap.size) (hs : ¬ S b) : w'.there b 0 n := there_block h (ht.block b hl hs)
theorem In.called (h : In t WI w0 gw a0 L a w bk) (T : t.Ok) (hL0 : L t.kc = false) (hs : t.sc < a0.tmps.size) (hg : gw < w0.heap.size) (hW : WI true w') (ht : Touch w w' (fun k => k = gw)) : In t WI w0 gw a0 (upd L t.kc true) (a.put (some t.sc) t.vc) w' bk := by
  have e : ∀ k : Nat, k ≠ t.sc → (a.put (some t.sc) t.vc).eval (.tmp k) = a.eval (.tmp k) := fun k hk => put_other hk
  refine ⟨by rw [put_size]; exact h.sz, by rw [put_defs]; exact h.df, fun k hk => ?_, fun j d' v' hj hL => ?_, fun _ => put_eval (by rw [h.sz]; exact hs), by rw [upd_same]; exact hW, h.tch.trans' ht (fun _ _ h => h), fun j s ty z hj hL => ?_, fun j j' x y hj hj' hL hL' => ?_, fun j j' l hj hL => ?_⟩
  · rw [e k (fun he => hk (he ▸ T.scD))]; exact h.fix k hk
  · obtain ⟨h1, h2, h3⟩ := T.pvD j d' v' hj
    rw [upd_other _ _ h3] at hL
    rw [e _ h2]; exact h.pure j d' v' hj hL
  · obtain ⟨h1, h2, h3⟩ := T.alD j s ty z hj
    rw [upd_other _ _ h3] at hL
    obtain ⟨q1, q2, q3, q4⟩ := h.al j s ty z hj hL
    rw [e _ h2]
    exact ⟨q1, q2, Nat.lt_of_lt_of_le q3 ht.size, there_touch q4 ht q3 (by omega)⟩
  · rw [upd_other _ _ (T.alD j x.1 x.2.1 x.2.2 hj).2.2] at hL
    rw [upd_other _ _ (T.alD j' y.1 y.2.1 y.2.2 hj').2.2] at hL'
    exact h.inj j j' x y hj hj' hL hL'
  · rw [upd_other _ _ (T.cs j _ hj)] at hL
    obtain ⟨s, ty, z, ha, _⟩ := T.soA j j' l hj
    obtain ⟨hLj, hr⟩ := h.so j j' l hj hL
    obtain ⟨q1, q2, q3, q4⟩ := h.al j' s ty z ha hLj
    exact ⟨by rw [upd_other _ _ (T.alD j' s ty z ha).2.2]; exact hLj, rangeAt_block hr (ht.block _ q3 (by omega))⟩
theorem In.made (h : In t WI w0 gw a0 L a w bk) (T : t.Ok) {i s : Nat} {ty : TypeId} {z : List Value} (hL0 : L i = false) (hi : t.al i = some (s, ty, z)) (hs : s < a0.tmps.size) (hA : ∀ b w o, WI b w → WI b (w.alloc o)) :
    In t WI w0 gw a0 (upd L i true) (a.put (some s) (.pointer (some ⟨w.heap.size, 0, none⟩))) (w.alloc (.cells z.toArray ty)) (upd bk i w.heap.size) := by
  obtain ⟨hD, hsc, hkc⟩ := T.alD i s ty z hi
  have e : ∀ k : Nat, k ≠ s → (a.put (some s) (.pointer (some ⟨w.heap.size, 0, none⟩))).eval (.tmp k) = a.eval (.tmp k) := fun k hk => put_other hk
  have uk : upd L i true t.kc = L t.kc := upd_other _ _ (Ne.symm hkc)
  have hsz := h.tch.size
  refine ⟨by rw [put_size]; exact h.sz, by rw [put_defs]; exact h.df, fun k hk => ?_, fun j d' v' hj hL => ?_, fun hL => ?_, by rw [uk]; exact hA _ _ _ h.world, h.tch.alloc _, fun j s' ty' z' hj hL => ?_, fun j j' x y hj hj' hL hL' hne => ?_, fun j j' l hj hL => ?_⟩
  · rw [e k (fun he => hk (he ▸ hD))]; exact h.fix k hk
  · obtain ⟨h1, h2⟩ := T.pa j i d' v' s ty z hj hi
    rw [upd_other _ _ h2] at hL
    rw [e _ h1]; exact h.pure j d' v' hj hL
  · rw [uk] at hL
    rw [e _ (Ne.symm hsc)]; exact h.call hL
  · by_cases hij : j = i
    · subst hij
      rw [hi] at hj; cases hj
      rw [upd_same]
      exact ⟨put_eval (by rw [h.sz]; exact hs), hsz, by simp, there_alloc_new⟩
    · rw [upd_other _ _ hij] at hL
      obtain ⟨q1, q2, q3, q4⟩ := h.al j s' ty' z' hj hL
      rw [upd_other _ _ hij, e _ (T.aa j i s' ty' z' s ty z hj hi hij)]
      exact ⟨q1, q2, by simp; omega, World.there_alloc q4 _⟩
  · have key : ∀ j x, t.al j = some x → upd L i true j = true → j ≠ i → bk j < w.heap.size := fun j x hj hL hji => by
      rw [upd_other _ _ hji] at hL
      exact (h.al j x.1 x.2.1 x.2.2 hj hL).2.2.1
    by_cases hji : j = i
    · subst hji
      rw [upd_same, upd_other _ _ (Ne.symm hne)]
      have := key j' y hj' hL' (Ne.symm hne); omega
    · by_cases hji' : j' = i
      · subst hji'
        rw [upd_same, upd_other _ _ hji]
        have := key j x hj hL hji; omega
      · rw [upd_other _ _ hji, upd_other _ _ hji']
        rw [upd_other _ _ hji] at hL
        rw [upd_other _ _ hji'] at hL'
        exact h.inj j j' x y hj hj' hL hL' hne
  · rw [upd_other _ _ (Ne.symm (T.as_ i j _ _ hi hj))] at hL
    obtain ⟨hLj, hr⟩ := h.so j j' l hj hL
    by_cases hji : j' = i
    · subst hji
      rw [hL0] at hLj; cases hLj
    · exact ⟨by rw [upd_other _ _ hji]; exact hLj, by rw [upd_other _ _ hji]; exact World.rangeAt_alloc hr _⟩
theorem In.stored (h : In t WI w0 gw a0 L a w bk) (T : t.Ok) {i j : Nat} {l : List Value} (hL0 : L i = false) (hi : t.so i = some (j, l)) (hLj : L j = true) (hg : gw < w0.heap.size) (hS : ∀ b w k vs, WI b w → w0.heap.size ≤ k → WI b (w.setCells k 0 vs)) :
    In t WI w0 gw a0 (upd L i true) (a.put none undef) (w.setCells (bk j) 0 l) bk := by
  have hp : a.put none undef = a := rfl
  rw [hp]
  obtain ⟨s, ty, z, ha, hz⟩ := T.soA i j l hi
  obtain ⟨q1, q2, q3, q4⟩ := h.al j s ty z ha hLj
  have tt := touch_setCells (bk j) l 0 w
  have uk : upd L i true t.kc = L t.kc := upd_other _ _ (Ne.symm (T.cs i _ hi))
  refine ⟨h.sz, h.df, h.fix, fun j' d' v' hj hL => ?_, fun hL => ?_, by rw [uk]; exact hS _ _ _ _ h.world q2, h.tch.trans' tt (fun k hk h => absurd hk (by omega)), fun j' s' ty' z' hj hL => ?_, fun j1 j2 x y hj hj' hL hL' => ?_, fun j1 j2 l' hj hL => ?_⟩
  · rw [upd_other _ _ (T.ps j' i d' v' _ hj hi)] at hL
    exact h.pure j' d' v' hj hL
  · rw [uk] at hL; exact h.call hL
  · rw [upd_other _ _ (T.as_ j' i _ _ hj hi)] at hL
    obtain ⟨p1, p2, p3, p4⟩ := h.al j' s' ty' z' hj hL
    exact ⟨p1, p2, Nat.lt_of_lt_of_le p3 tt.size, World.there_setCells p4 _ _ _⟩
  · rw [upd_other _ _ (T.as_ j1 i _ _ hj hi)] at hL
    rw [upd_other _ _ (T.as_ j2 i _ _ hj' hi)] at hL'
    exact h.inj j1 j2 x y hj hj' hL hL'
  · by_cases hji : j1 = i
    · subst hji
      rw [hi] at hj; cases hj
      exact ⟨by rw [upd_other _ _ (T.as_ _ _ _ _ ha hi)]; exact hLj, World.rangeAt_setCells_same _ _ _ _ (by rw [← hz]; exact q4)⟩
    · rw [upd_other _ _ hji] at hL
      obtain ⟨hL2, hr⟩ := h.so j1 j2 l' hj hL
      obtain ⟨s2, ty2, z2, ha2, hz2⟩ := T.soA j1 j2 l' hj
      refine ⟨by rw [upd_other _ _ (T.as_ j2 i _ _ ha2 hi)]; exact hL2, World.rangeAt_setCells_apart hr _ _ _ (.inl ?_)⟩
      have hjj : j2 ≠ j := by rintro rfl; exact hji (T.s1 j1 i j2 l' l hj hi)
      exact h.inj j2 j _ _ ha2 ha hL2 hLj hjj
theorem region {P : Program} {id : Nat} {ops : Array Oper} {Q : Exit → Act → World → Prop} (hm : P.follows .mixedOrders = true) (T : t.Ok) (hg : ∀ (i : Nat) (o : Oper), ops[i]? = some o → o.guard = none) (hback : ∀ (i : Nat) (o : Oper), ops[i]? = some o → ∀ e ∈ o.after, Region.binds .any e = true → e.on < i)
    (hgw : gw < w0.heap.size) (hA : ∀ b w o, WI b w → WI b (w.alloc o)) (hS : ∀ b w k vs, WI b w → w0.heap.size ≤ k → WI b (w.setCells k 0 vs))
    (hD : ∀ k, t.D k → k < a0.tmps.size) (h0 : WI false { w0 with drawn := w0.drawn + 1 })
    (kinds : ∀ (i : Nat) (o : Oper), ops[i]? = some o →
      (∃ d v, t.pv i = some (d, v) ∧ o.dst = some d ∧ ∀ L a w bk, In t WI w0 gw a0 L a w bk → (∀ e ∈ o.after, Region.binds .any e = true → L e.on = true) → (execOp a.eval o).run P w = .ok (.value v) w) ∨
      (i = t.kc ∧ o.dst = some t.sc ∧ ∀ L a w bk (K : Act → World → Prop), In t WI w0 gw a0 L a w bk → L i = false → (∀ e ∈ o.after, Region.binds .any e = true → L e.on = true) → (∀ w', WI true w' → Touch w w' (fun k => k = gw) → K (a.put (some t.sc) t.vc) w') → o.wp P a w K Q) ∨
      (∃ s ty z, t.al i = some (s, ty, z) ∧ o.dst = some s ∧ ∀ (ev : Operand → Value) w, (execOp ev o).run P w = .ok (.value (.pointer (some ⟨w.heap.size, 0, none⟩))) (w.alloc (.cells z.toArray ty))) ∨
      (∃ j l s ty z x y, t.so i = some (j, l) ∧ t.al j = some (s, ty, z) ∧ o.dst = none ∧ o.op = .store ty (.tmp x) (.tmp y) ∧ x = s ∧ (P.info? ty).map (·.size) = some l.length ∧ (∀ u ∈ l, u.oneCell' = true) ∧ ∀ L a w bk, In t WI w0 gw a0 L a w bk → (∀ e ∈ o.after, Region.binds .any e = true → L e.on = true) → L j = true ∧ a.eval (.tmp y) = .agg l.toArray))
    (fin : ∀ L a w bk, In t WI w0 gw a0 L a w bk → (∀ i, i < ops.size → L i = true) → Q .normal a w) :
    (Code.region id ops true).wp P Q a0 w0 := by
  refine region_inv hm hg hback (fun L a w => ∃ bk, In t WI w0 gw a0 L a w bk) ?_ (fun L a w ⟨bk, h⟩ hall => fin L a w bk h hall) ?_
  · rintro L a w i o ⟨bk, h⟩ ho hL hd
    rcases kinds i o ho with ⟨d, v, hi, hdst, hrun⟩ | ⟨hi, hdst, hcall⟩ | ⟨s, ty, z, hi, hdst, hrun⟩ | ⟨j, l, s, ty, z, x, y, hi, ha, hdst, hop, hx, hsz, hone, hev⟩
    · refine wp_value (hrun L a w bk h hd) ⟨bk, ?_⟩
      rw [hdst]
      exact h.read T hi (hD d (T.pvD i d v hi).1)
    · subst hi
      refine hcall L a w bk _ h hL hd (fun w' hW ht => ⟨bk, ?_⟩)
      exact h.called T hL (hD _ T.scD) hgw hW ht
    · refine wp_value (hrun a.eval w) ⟨upd bk i w.heap.size, ?_⟩
      rw [hdst]
      exact h.made T hL hi (hD s (T.alD i s ty z hi).1) hA
    · obtain ⟨hLj, hy⟩ := hev L a w bk h hd
      obtain ⟨q1, q2, q3, q4⟩ := h.al j s ty z ha hLj
      obtain ⟨s2, ty2, z2, ha2, hz2⟩ := T.soA i j l hi
      rw [ha] at ha2; cases ha2
      subst hx
      refine wp_store_mid ty (.tmp x) (.tmp y) hop (bk j) 0 l.toArray q1 hy (by simpa [hz2] using q4) (by simpa using hsz) (all_oneCell_toArray hone) ⟨bk, ?_⟩
      rw [hdst]
      exact h.stored T hL hi hLj hgw hS
  · exact ⟨fun _ => 0, rfl, rfl, fun _ _ => rfl, fun _ _ _ _ h => (by cases h), fun h => (by cases h), h0, ⟨rfl, rfl, rfl, Nat.le_refl _, fun _ _ _ => rfl⟩, fun _ _ _ _ _ h => (by cases h), fun _ _ _ _ _ _ h => (by cases h), fun _ _ _ _ h => (by cases h)⟩
end Reg
end
section
def ifs (K : Kd) (P : Par) (blk : Rl → Nat) (h : Nat) : Nat → List Value
  | 0 => []
  | k + 1 => ifs K P blk h k ++ [.iface (K.tid (P.jb h k)) (.pointer (some ⟨blk (.task h k 0), 0, none⟩))]
theorem ifs_length (K : Kd) (P : Par) (blk : Rl → Nat) (h k : Nat) : (ifs K P blk h k).length = k * 1 := by
  induction k with
  | zero => rfl
  | succ k ih => simp [ifs, ih]
theorem ifs_congr {K : Kd} {P : Par} {blk blk' : Rl → Nat} {h k : Nat} (e : ∀ j, j < k → blk' (.task h j 0) = blk (.task h j 0)) : ifs K P blk' h k = ifs K P blk h k := by
  induction k with
  | zero => rfl
  | succ k ih => simp only [ifs]; rw [ih (fun j hj => e j (by omega)), e k (by omega)]
theorem ifs_get {K : Kd} {P : Par} {blk : Rl → Nat} {h k j : Nat} (hj : j < k) : (ifs K P blk h k)[j]? = some (.iface (K.tid (P.jb h j)) (.pointer (some ⟨blk (.task h j 0), 0, none⟩))) := by
  induction k with
  | zero => omega
  | succ k ih =>
    simp only [ifs]
    by_cases e : j = k
    · subst e
      rw [List.getElem?_append_right (by rw [ifs_length]; omega), ifs_length]
      simp
    · rw [List.getElem?_append_left (by rw [ifs_length]; omega)]
      exact ih (by omega)
def mUp (jn : Nat → Nat) (i j : Nat) : Nat → Nat := fun h => if h < i then jn h else if h = i then j else 0
theorem mUp_next (jn : Nat → Nat) (i : Nat) : mUp jn i (jn i) = mUp jn (i + 1) 0 := by
  funext h
  unfold mUp
  by_cases h1 : h < i
  · rw [if_pos h1, if_pos (by omega)]
  · by_cases h2 : h = i
    · rw [if_neg h1, if_pos h2, if_pos (by omega), h2]
    · rw [if_neg h1, if_neg h2, if_neg (by omega)]; split <;> rfl
theorem mUp_self (jn : Nat → Nat) (i j : Nat) : mUp jn i j i = j := by unfold mUp; rw [if_neg (by omega), if_pos rfl]
theorem mUp_succ (jn : Nat → Nat) (i j h : Nat) (hne : h ≠ i) : mUp jn i (j + 1) h = mUp jn i j h := by unfold mUp; rw [if_neg hne, if_neg hne]
theorem mUp_all (jn : Nat → Nat) (n h : Nat) (hh : h < n) : mUp jn n 0 h = jn h := by unfold mUp; rw [if_pos hh]
structure Made (K : Kd) (P : Par) (blk0 : Rl → Nat) (c0 : Rl → Option Row) (blk : Rl → Nat) (c : Rl → Option Row) (m : Nat → Nat) : Prop where
  mem : c .mem = c0 .mem
  words : c .words = c0 .words
  bm : blk .mem = blk0 .mem
  bw : blk .words = blk0 .words
  free : c .run = none ∧ c .going = none ∧ c .answers = none ∧ c .steps = none ∧ ∀ h, c (.arow h) = none
  tasks : ∃ T, c .tasks = some ⟨119, P.nh, T⟩ ∧ ∀ h, h < P.nh → Grows blk c (.trow h) 71 1 (m h) (ifs K P blk h (m h)) (T h)
  task : ∀ h, h < P.nh → ∀ j, j < m h → K.lies (P.jb h j) (fun i => blk (.task h j i)) (K.init h (P.jb h j)) (fun i => c (.task h j i))
def FirstErr (K : Kd) (P : Par) (e : Int) : Prop :=
  ∃ H J, H < P.nh ∧ J < P.jn H ∧ K.err H (P.jb H J) = e ∧ e ≠ 0 ∧ (∀ h, h < H → ∀ j, j < P.jn h → K.err h (P.jb h j) = 0) ∧ ∀ j, j < J → K.err H (P.jb H j) = 0
def AllOk (K : Kd) (P : Par) : Prop := ∀ h, h < P.nh → ∀ j, j < P.jn h → K.err h (P.jb h j) = 0
theorem FirstErr.one {K : Kd} {P : Par} {e e' : Int} (h : FirstErr K P e) (h' : FirstErr K P e') : e = e' := by
  obtain ⟨H, J, h1, h2, h3, h4, h5, h6⟩ := h
  obtain ⟨H', J', h1', h2', h3', h4', h5', h6'⟩ := h'
  rcases Nat.lt_trichotomy H H' with l | rfl | l
  · exact absurd (h5' H l J h2) (by rw [h3]; exact h4)
  · rcases Nat.lt_trichotomy J J' with l | rfl | l
    · exact absurd (h6' J l) (by rw [h3]; exact h4)
    · rw [← h3, ← h3']
    · exact absurd (h6 J' l) (by rw [h3']; exact h4')
  · exact absurd (h5 H' l J' h2') (by rw [h3']; exact h4')
theorem FirstErr.not {K : Kd} {P : Par} {e : Int} (h : FirstErr K P e) : ¬ AllOk K P := fun ha => by
  obtain ⟨H, J, h1, h2, h3, h4, _⟩ := h
  exact h4 (by rw [← h3]; exact ha H h1 J h2)
variable {K : Kd} {P : Par} {blk0 blk blk' : Rl → Nat} {c0 c c' : Rl → Option Row} {m : Nat → Nat} {w w' : World} {base : Nat}
theorem Made.more {i j nb2 cap : Nat} {nb : Nat → Nat} {R : Nat → Option Row} {F : Nat → Value} {T : Nat → Value} {v : Value} {jn : Nat → Nat} (M : Made K P blk0 c0 blk c (mUp jn i j)) (hi : i < P.nh) (hR : K.lies (P.jb i j) nb (K.init i (P.jb i j)) R)
    (eT : c .tasks = some ⟨119, P.nh, T⟩)
    (hv : v = .slice (some ⟨nb2, 0, none⟩) (j + 1) cap) (hp : Pre F (ifs K P (updT blk i j nb) i (j + 1))) (hc1 : j + 1 ≤ cap) (hc2 : cap ≤ maxLen) :
    Made K P blk0 c0 (upd (updT blk i j nb) (.trow i) nb2)
      (upd (upd (updT c i j R) (.trow i) (some ⟨71, cap * 1, F⟩)) .tasks (some ⟨119, P.nh, fun k => if k = i then v else T k⟩)) (mUp jn i (j + 1)) := by
  refine ⟨by simpa [upd, updT] using M.mem, by simpa [upd, updT] using M.words, by simpa [upd, updT] using M.bm, by simpa [upd, updT] using M.bw, ?_, ⟨fun k => if k = i then v else T k, by simp [upd, updT], fun h hh => ?_⟩, fun h hh k hk => ?_⟩
  · obtain ⟨f1, f2, f3, f4, f5⟩ := M.free
    exact ⟨by simpa [upd, updT] using f1, by simpa [upd, updT] using f2, by simpa [upd, updT] using f3, by simpa [upd, updT] using f4, fun h => by simpa [upd, updT] using f5 h⟩
  · obtain ⟨T0, eT0, hT0⟩ := M.tasks
    obtain rfl : T = T0 := by rw [eT] at eT0; cases eT0; rfl
    show Grows _ _ _ _ _ _ _ (if h = i then v else T h)
    by_cases e : h = i
    · subst e
      rw [mUp_self, if_pos rfl]
      refine .inr ⟨cap, F, by simpa [upd, updT] using hv, by simp [upd, updT], hc1, hc2, ?_⟩
      rw [ifs_congr (blk := updT blk h j nb) (fun k hk => by simp [upd, updT])]
      exact hp
    · rw [mUp_succ _ _ _ _ e]
      rw [if_neg e]
      have := hT0 h hh
      rw [ifs_congr (blk := blk) (fun k hk => by simp [upd, updT, e])]
      exact this.congr (by simp [upd, updT, e]) (by simp [upd, updT, e])
  · by_cases e : h = i
    · subst e
      rw [mUp_self] at hk
      by_cases ek : k = j
      · subst ek; simpa [upd, updT] using hR
      · have := M.task h hh k (by rw [mUp_self]; omega)
        simpa [upd, updT, ek] using this
    · rw [mUp_succ _ _ _ _ e] at hk
      have := M.task h hh k hk
      simpa [upd, updT, e] using this
end
section
variable {K : Kd} {w : World} {base B : Nat} {P : Par} {blk : Rl → Nat} {c : Rl → Option Row} {st : St K}
theorem Good.seesGoing (G : Good K P blk c st) (H : Has w base blk c) : SeesB w w.heap.size (some ⟨blk .going, 0, none⟩) P.nh (st.going P) := by
  obtain ⟨Gf, eG, hG⟩ := G.going
  intro j hj
  refine ⟨blk .going, 0, rfl, H.lt eG, ?_⟩
  have := H.cell eG (i := j) hj
  simp only [hG j hj] at this
  simpa using this
theorem ended_any (G : Good K P blk c st) (H : Has w base blk c) :
    Calls Tryz.prog 36 #[.pointer (some ⟨blk .run, 0, none⟩)] w fun e w' => e = .returned (.bool (decide (cnt (st.going P) P.nh = 0))) ∧ w' = w := by
  have hs := G.seesGoing H
  obtain ⟨sv, RF, eR, R0, R1, R2, R3, R4, GS⟩ := G.run
  have r1 := H.cell eR (i := 1) (by simp)
  simp only [R1] at r1
  have hn := G.hands
  have hcl := cnt_le (st.going P) P.nh
  obtain ⟨b, hb⟩ : ∃ b, decide (cnt (st.going P) P.nh = 0) = b := ⟨_, rfl⟩
  rw [hb]
  have HS := hide hs
  have HB := hide hb
  clear H G GS hs hb
  go_enter Tryz.func36, Tryz.ntmps36
  go_wp2_with (go_at_call 52; refine (count_any HS.out (by omega)).mono ?_; rintro e w' ⟨rfl, hw⟩; obtain rfl := hw.symm)
  go_ret
  refine ⟨?_, rfl⟩
  rw [← HB.out]
  show Ending.returned (Value.bool ((cnt (st.going P) P.nh : Int) == 0)) = _
  congr 2
  rw [Bool.eq_iff_iff]
  simp
theorem pick_any {ao : Option Addr} {cap : Nat} (G : Good K P blk c st) (H : Has w base blk c) (S : SeesI w B ao P.ns P.sched) :
    Calls Tryz.prog 33 #[.pointer (some ⟨blk .run, 0, none⟩), .slice ao P.ns cap] w fun e w' => e = .returned (.int .i64 (st.turn P)) ∧ ∃ m, w' = w.drewN m := by
  have hs := G.seesGoing H
  obtain ⟨sv, RF, eR, R0, R1, R2, R3, R4, GS⟩ := G.run
  have r1 := H.cell eR (i := 1) (by simp)
  have r2 := H.cell eR (i := 2) (by simp)
  have r3 := H.cell eR (i := 3) (by simp)
  simp only [R1] at r1
  simp only [R2] at r2
  simp only [R3] at r3
  obtain ⟨sa, scap, rfl⟩ : ∃ sa scap, sv = .slice sa st.k scap := by
    rcases GS with ⟨h0, rfl, _⟩ | ⟨cap', F, rfl, _⟩
    · rw [h0]; exact ⟨none, 0, rfl⟩
    · exact ⟨_, _, rfl⟩
  have hn := G.hands
  have hl := G.lastOk
  have HS := hide hs
  obtain ⟨t, ht⟩ : ∃ t, st.turn P = t := ⟨_, rfl⟩
  rw [ht]
  unfold St.turn at ht
  clear H G GS hs
  by_cases hk : st.k < P.ns
  · rw [if_pos hk] at ht
    obtain ⟨b, off, rfl, hbl, hcc⟩ := S _ hk
    have hkn : (st.k : Int) < (P.ns : Int) := by omega
    subst ht
    go_enter Tryz.func33, Tryz.ntmps33
    go_wp2_with fail
    go_quiet ((go_at_call 48; exact Calls.quiet_of_same (next_any (show SeesB (w.drewN _) _ _ _ _ from HS.out) (by omega) _)))
    go_wp2_with fail
    go_ret
    exact ⟨rfl, _, rfl⟩
  · rw [if_neg hk] at ht
    have hkn : ¬ (st.k : Int) < (P.ns : Int) := by omega
    subst ht
    go_enter Tryz.func33, Tryz.ntmps33
    go_wp2_with fail
    go_quiet ((go_at_call 49; exact Calls.quiet_of_same (behind_any (show SeesB (w.drewN _) _ _ _ _ from HS.out) (by omega) _ hl.1 hl.2)))
    go_wp2_with fail
    go_ret
    exact ⟨rfl, _, rfl⟩
end
section
theorem info4 : (Tryz.prog.info? 4).map (fun i => (i.zero.map Value.cells, i.size, i.bytes)) = some (some #[.bool false], 1, 1) := by kernel_rfl
theorem info52 : (Tryz.prog.info? 37).map (fun i => (i.zero.map Value.cells, i.size, i.bytes)) = some (some #[.slice none 0 0], 1, 24) := by kernel_rfl
variable {K : Kd} {w : World} {base B : Nat} {P : Par} {blk0 blk : Rl → Nat} {c0 c : Rl → Option Row} {f : Nat → Int}
def runRow (blk : Rl → Nat) (nh : Nat) (bg ba : Nat) : Nat → Value := fun j => match j with
  | 0 => .slice (some ⟨blk .tasks, 0, none⟩) nh nh
  | 1 => .slice (some ⟨bg, 0, none⟩) nh nh
  | 2 => .int .i64 (-1)
  | 3 => .slice none 0 0
  | _ => .slice (some ⟨ba, 0, none⟩) nh nh
theorem Has.alloc1 {ι : Type} [DecidableEq ι] {w : World} {base : Nat} {blk : ι → Nat} {c : ι → Option Row} (h : Has w base blk c) (hb : base ≤ w.heap.size) (r : ι) (t : TypeId) (n : Nat) (f : Nat → Value) (arr : Array Value) (hrow : (w.alloc (.cells arr t)).rowIs w.heap.size t n f) {nb : Nat} (e : nb = w.heap.size) :
    Has (w.alloc (.cells arr t)) base (upd blk r nb) (upd c r (some ⟨t, n, f⟩)) := by
  subst e
  exact h.add r w.heap.size ⟨t, n, f⟩ hb (Nat.le_refl _) (S := fun _ => False) ((Touch.refl w _).alloc _) (fun _ _ _ _ => id) hrow
theorem upd_comm {ι α : Type} [DecidableEq ι] (g : ι → α) {r r' : ι} (x x' : α) (h : r ≠ r') : upd (upd g r x) r' x' = upd (upd g r' x') r x := by
  funext k
  unfold upd
  by_cases h1 : k = r
  · subst h1; simp [h]
  · by_cases h2 : k = r'
    · subst h2; simp [h1]
    · simp [h1, h2]
theorem good_st0 (M : Made K P blk0 c0 blk c (mUp P.jn P.nh 0)) (hK : K.Ok) (e0 : c0 .mem = some ⟨110, 1, fun _ => .slice (some ⟨blk0 .words, 0, none⟩) P.n P.n⟩) (e1 : c0 .words = some ⟨115, P.n, fun i => .int .u64 (f i)⟩)
    (hm : P.n ≤ 4096) (hw : ∀ i, i < P.n → 0 ≤ f i ∧ f i ≤ 18446744073709551615) (hn : P.nh ≤ 8) (hj : ∀ h, h < P.nh → P.jn h ≤ 256) (hjw : ∀ h, h < P.nh → ∀ j, j < P.jn h → K.fine (P.jb h j)) {bg ba br : Nat} {Gf : Nat → Value} (hG : ∀ i, i < P.nh → Gf i = .bool (decide (0 < P.jn i))) :
    Good K P (upd (upd (upd blk .going bg) .answers ba) .run br) (upd (upd (upd c .going (some ⟨4, P.nh, Gf⟩)) .answers (some ⟨37, P.nh, fun _ => .slice none 0 0⟩)) .run (some ⟨87, 5, runRow blk P.nh bg ba⟩)) (st0 K P f) := by
  obtain ⟨f1, f2, f3, f4, f5⟩ := M.free
  obtain ⟨T, eT, hT⟩ := M.tasks
  refine ⟨by simpa [upd, M.mem, M.bw] using e0, by simpa [upd, M.words, st0] using e1, hm, hw, ?_, ?_, ?_, ?_, ?_, ?_, fun h hh => Nat.zero_le _, hj, hn, ?_, hjw, ?_⟩
  · refine ⟨.slice none 0 0, runRow blk P.nh bg ba, by simp [upd], by simp [runRow, upd], by simp [runRow, upd], by simp [runRow, st0], rfl, by simp [runRow, upd], .inl ⟨rfl, rfl, by simpa [upd] using f4⟩⟩
  · refine ⟨T, by simpa [upd] using eT, fun h hh => ?_⟩
    have := hT h hh
    rw [mUp_all _ _ _ hh] at this
    show (0 < P.jn h → ∃ cap, P.jn h - 0 ≤ cap ∧ T h = .slice (some ⟨_, 0, none⟩) (P.jn h - 0) cap) ∧ (0 = P.jn h → ∃ ao cap, T h = .slice ao 0 cap)
    rcases this with ⟨h0, hv, _⟩ | ⟨cap, F, hv, hc, hle, _⟩
    · exact ⟨fun h1 => by omega, fun _ => ⟨none, 0, hv⟩⟩
    · refine ⟨fun _ => ⟨cap, by omega, ?_⟩, fun h0 => ⟨_, cap, by rw [hv, ← h0]⟩⟩
      rw [hv, Nat.sub_zero]
      simp [upd]
  · exact ⟨Gf, by simp [upd], hG⟩
  · refine ⟨_, by simp [upd], fun h hh => .inl ⟨rfl, rfl, by simpa [upd] using f5 h⟩⟩
  · intro h hh hp
    have := hT h hh
    rw [mUp_all _ _ _ hh] at this
    rcases this with ⟨h0, _⟩ | ⟨cap, F, hv, hc, hle, _, hpre⟩
    · omega
    · refine ⟨cap * 1, F, by simpa [upd] using hc, by omega, fun j hj => ?_⟩
      rw [hpre j _ (ifs_get hj)]
      simp [upd]
  · intro h hh j h1 h2
    have := M.task h hh j (by rw [mUp_all _ _ _ hh]; exact h2)
    have e : (if j = (st0 K P f).done h then (st0 K P f).cur h else K.init h (P.jb h j)) = K.init h (P.jb h j) := by
      split
      · rename_i e; simp only [st0] at e ⊢; rw [e]
      · rfl
    rw [e]
    simpa [upd] using this
  · intro h hh hd
    exact hK.init _ _ (hjw h hh 0 hd)
  · simp only [st0]; omega
theorem newRun_any (H : Has w base blk c) (M : Made K P blk0 c0 blk c (mUp P.jn P.nh 0)) (hb : base ≤ w.heap.size) (hK : K.Ok) (e0 : c0 .mem = some ⟨110, 1, fun _ => .slice (some ⟨blk0 .words, 0, none⟩) P.n P.n⟩) (e1 : c0 .words = some ⟨115, P.n, fun i => .int .u64 (f i)⟩)
    (hm : P.n ≤ 4096) (hw : ∀ i, i < P.n → 0 ≤ f i ∧ f i ≤ 18446744073709551615) (hn : P.nh ≤ 8) (hj : ∀ h, h < P.nh → P.jn h ≤ 256) (hjw : ∀ h, h < P.nh → ∀ j, j < P.jn h → K.fine (P.jb h j)) :
    Calls Tryz.prog 32 #[.slice (some ⟨blk .tasks, 0, none⟩) P.nh P.nh] w fun e w' => ∃ blk' c', e = .returned (.pointer (some ⟨blk' .run, 0, none⟩)) ∧ Has w' base blk' c' ∧ Good K P blk' c' (st0 K P f) ∧ blk' .mem = blk0 .mem ∧ Below base w w' := by
  have hmk1 := run_make_z (P := Tryz.prog) 45 4 _ 1 1 Tryz.underlying45 info4 P.nh (by omega) (by omega)
  have hmk2 := run_make_z (P := Tryz.prog) 33 37 _ 1 24 Tryz.underlying33 info52 P.nh (by omega) (by omega)
  simp only [Nat.mul_one] at hmk1 hmk2
  obtain ⟨T, eT, hT⟩ := M.tasks
  have HH := hide H
  have HM := hide M
  have HT := hide hT
  have HJ := hide hj
  clear H M hT hj
  go_enter Tryz.func32, Tryz.ntmps32
  go_wp2_with fail
  go_cut [3] from 6 (fun s3 wx => ∃ bg ba br, s3 = .pointer (some ⟨br, 0, none⟩) ∧ Has wx base (upd (upd (upd blk .going bg) .answers ba) .run br) (upd (upd (upd c .going (some ⟨4, P.nh, fun _ => .bool false⟩)) .answers (some ⟨37, P.nh, fun _ => .slice none 0 0⟩)) .run (some ⟨87, 5, runRow blk P.nh bg ba⟩)) ∧ Below base w wx)
  case first =>
    go_region
    all_goals go_wp2_with fail
    all_goals go_meet
    · case rel =>
        refine ⟨w.heap.size, w.heap.size + 1, w.heap.size + 1 + 1, rfl, ?_, ((((Below.refl base w).alloc hb _).alloc (by simp; omega) _).alloc (by simp; omega) _).drew⟩
        refine Has.drew ?_
        refine Has.alloc1 ?_ (by simp; omega) Rl.run 87 5 _ _ ?_ (by simp)
        · refine Has.alloc1 ?_ (by simp; omega) Rl.answers 37 P.nh _ _ ?_ (by simp)
          · exact HH.out.alloc1 hb Rl.going 4 P.nh _ _ (World.rowIs_made w _ P.nh 4) rfl
          · exact World.rowIs_made _ _ P.nh 37
        · refine rowIs_cells _ 87 _ 5 rfl (fun i hi => ?_)
          match i, hi with
          | 0, _ | 1, _ | 2, _ | 3, _ | 4, _ => rfl
    · case rel =>
        refine ⟨w.heap.size + 1, w.heap.size, w.heap.size + 1 + 1, rfl, ?_, ((((Below.refl base w).alloc hb _).alloc (by simp; omega) _).alloc (by simp; omega) _).drew⟩
        refine Has.drew ?_
        rw [upd_comm (r := Rl.going) (r' := Rl.answers) blk _ _ (by simp), upd_comm (r := Rl.going) (r' := Rl.answers) c _ _ (by simp)]
        refine Has.alloc1 ?_ (by simp; omega) Rl.run 87 5 _ _ ?_ (by simp)
        · refine Has.alloc1 ?_ (by simp; omega) Rl.going 4 P.nh _ _ ?_ (by simp)
          · exact HH.out.alloc1 hb Rl.answers 37 P.nh _ _ (World.rowIs_made w _ P.nh 37) rfl
          · exact World.rowIs_made _ _ P.nh 4
        · refine rowIs_cells _ 87 _ 5 rfl (fun i hi => ?_)
          match i, hi with
          | 0, _ | 1, _ | 2, _ | 3, _ | 4, _ => rfl
  case rest =>
    obtain ⟨bg, ba, br, rfl, H1, B1⟩ := hcut
    have HH1 := hide H1
    have BB1 := hide B1
    clear H1 B1
    go_wp2_with fail
    go_loopw [17] (fun i wr => ∃ k Gf, k ≤ P.nh ∧ i = .int .i64 (k : Nat) ∧ Has wr base (upd (upd (upd blk .going bg) .answers ba) .run br) (upd (upd (upd c .going (some ⟨4, P.nh, Gf⟩)) .answers (some ⟨37, P.nh, fun _ => .slice none 0 0⟩)) .run (some ⟨87, 5, runRow blk P.nh bg ba⟩)) ∧ Below base w wr ∧ ∀ i, i < k → Gf i = .bool (decide (0 < P.jn i))) (fun i _ => P.nh - (intOf i).toNat)
    case atStart => exact ⟨0, _, Nat.zero_le _, rfl, HH1.out, BB1.out, fun i hi => by omega⟩
    case round =>
      obtain ⟨k, Gf, hk, rfl, H2, B2, hG⟩ := hrel
      by_cases hlt : k < P.nh
      · have hkn : (k : Int) < (P.nh : Int) := by omega
        have eR := upd_same (upd (upd c .going (some ⟨4, P.nh, Gf⟩)) .answers (some ⟨37, P.nh, fun _ => .slice none 0 0⟩)) Rl.run (some ⟨87, 5, runRow blk P.nh bg ba⟩)
        have eG : (upd (upd (upd c .going (some ⟨4, P.nh, Gf⟩)) .answers (some ⟨37, P.nh, fun _ => .slice none 0 0⟩)) .run (some ⟨87, 5, runRow blk P.nh bg ba⟩)) .going = some ⟨4, P.nh, Gf⟩ := by simp [upd]
        have eT' : (upd (upd (upd c .going (some ⟨4, P.nh, Gf⟩)) .answers (some ⟨37, P.nh, fun _ => .slice none 0 0⟩)) .run (some ⟨87, 5, runRow blk P.nh bg ba⟩)) .tasks = some ⟨119, P.nh, T⟩ := by simpa [upd] using eT
        have r1 : wr.cell? ⟨br, 1, none⟩ = some (.slice (some ⟨bg, 0, none⟩) P.nh P.nh) := by have := H2.cell eR (i := 1) (by simp); simpa [upd, runRow] using this
        obtain ⟨g0v, g0⟩ : ∃ v, wr.cell? ⟨bg, k, none⟩ = some v := ⟨_, by have := H2.cell eG (i := k) hlt; simpa [upd] using this⟩
        have fg0 : wr.frozen? ⟨bg, k, none⟩ = false := by have := H2.frozen eG k; simpa [upd] using this
        have hTk := HT.out k hlt
        rw [mUp_all _ _ _ hlt] at hTk
        obtain ⟨ta, tcap, hTk'⟩ : ∃ ta tcap, T k = .slice ta (P.jn k) tcap := by
          rcases hTk with ⟨h0, hv, _⟩ | ⟨cap, F, hv, _⟩
          · exact ⟨none, 0, by rw [hv, h0]⟩
          · exact ⟨_, _, hv⟩
        have t0 : wr.cell? ⟨blk .tasks, k, none⟩ = some (.slice ta (P.jn k) tcap) := by have := H2.cell eT' (i := k) hlt; simpa [upd, hTk'] using this
        have FIN : Hid (∀ bv, bv = decide (0 < P.jn k) → ∃ Gf', Has (wr.setCell ⟨bg, k, none⟩ (.bool bv)) base (upd (upd (upd blk .going bg) .answers ba) .run br) (upd (upd (upd c .going (some ⟨4, P.nh, Gf'⟩)) .answers (some ⟨37, P.nh, fun _ => .slice none 0 0⟩)) .run (some ⟨87, 5, runRow blk P.nh bg ba⟩)) ∧ Below base w (wr.setCell ⟨bg, k, none⟩ (.bool bv)) ∧ ∀ i, i < k + 1 → Gf' i = .bool (decide (0 < P.jn i))) := by
          intro bv hbv
          have H3 := H2.set .going eG k (.bool bv)
          have eb : (upd (upd (upd blk .going bg) .answers ba) .run br) .going = bg := by simp [upd]
          rw [eb] at H3
          have ec : upd (upd (upd (upd c .going (some ⟨4, P.nh, Gf⟩)) .answers (some ⟨37, P.nh, fun _ => .slice none 0 0⟩)) .run (some ⟨87, 5, runRow blk P.nh bg ba⟩)) .going (some ⟨4, P.nh, fun j => if j = k then .bool bv else Gf j⟩) =
              upd (upd (upd c .going (some ⟨4, P.nh, fun j => if j = k then .bool bv else Gf j⟩)) .answers (some ⟨37, P.nh, fun _ => .slice none 0 0⟩)) .run (some ⟨87, 5, runRow blk P.nh bg ba⟩) := by
            funext r
            cases r <;> simp [upd]
          rw [ec] at H3
          refine ⟨_, H3, B2.setCell (p := ⟨bg, k, none⟩) (by have := H2.new _ _ eG; rwa [eb] at this) _, fun i hi => ?_⟩
          show (if i = k then Value.bool bv else Gf i) = _
          split
          · rename_i e; rw [e, hbv]
          · exact hG i (by omega)
        clear H2 B2 hG hTk eR eG eT'
        by_cases hp : 0 < P.jn k
        · have hp' : (0 : Int) < (P.jn k : Int) := by omega
          go_wp2_with fail
          go_roundw
          case rel =>
            obtain ⟨Gf', x1, x2, x3⟩ := FIN.out true (by simp [hp])
            exact ⟨k + 1, Gf', by omega, by go_num, x1, x2, x3⟩
          case measure => simp [intOf]; omega
        · have hp' : P.jn k = 0 := by omega
          rw [hp'] at t0
          go_wp2_with fail
          go_roundw
          case rel =>
            obtain ⟨Gf', x1, x2, x3⟩ := FIN.out false (by simp [hp'])
            exact ⟨k + 1, Gf', by omega, by go_num, x1, x2, x3⟩
          case measure => simp [intOf]; omega
      · obtain rfl : k = P.nh := by omega
        have FG := hide (good_st0 (bg := bg) (ba := ba) (br := br) HM.out hK e0 e1 hm hw hn HJ.out hjw hG)
        have HH2 := hide H2
        have BB2 := hide B2
        have hbm := HM.out.bm
        clear H2 B2 hG
        go_wp2_with fail
        go_ret
        exact ⟨_, _, by simp [upd], HH2.out, FG.out, by simpa [upd] using hbm, BB2.out⟩
end
end Go.Proofs.YtidihnnmdmlgfaaGreat
