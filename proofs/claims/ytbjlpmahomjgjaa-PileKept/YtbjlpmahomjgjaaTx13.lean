/-
  Lemmas: PileT, RunW, PileS, PileKA, PileKB, RH.
-/
import Derived.Test.YtbjlpmahomjgjaaTx12
import Derived.Test.YtbjlpmahomjgjaaTp20
import Derived.Test.YtbjlpmahomjgjaaTx10
import Derived.Test.YtbjlpmahomjgjaaTp05
import Derived.Test.YtbjlpmahomjgjaaTp03
import Derived.Test.YtbjlpmahomjgjaaTx01
import Derived.BigRegion
set_option linter.unusedVariables false
set_option linter.unusedSimpArgs false
set_option maxRecDepth 20000
namespace Go.Proofs.Ytbjlpmahomjgjaa
open Go.RowKit
namespace Pile
variable {w : World} {ao aoh aos : Option Addr} {cap caph caps : Nat} {P : Par} {most : Int} {sh : Shp}

/-- What a run that is told leaves to read. -/
def Ran (r : Nat) (P : Par) (most : Int) (w' : World) (e : Ending) : Prop :=
  (∃ er, ¬ er = 0 ∧ e = .returned (errVal er)) ∨
  (AllOk kPile P ∧ P.nh ≤ 8 ∧ (∀ h, h < P.nh → P.jn h ≤ 256) ∧ most.toNat ≤ 65536 ∧ ∃ sa sc wa wc aa ac, e = .returned (.tuple #[.agg #[.slice sa (runSt P (st0 kPile P (pfr r)) most.toNat).k sc, .slice wa P.n wc, .bool (decide (cnt ((runSt P (st0 kPile P (pfr r)) most.toNat).going P) P.nh = 0))], .slice aa P.nh ac, .int .i64 0]) ∧
    SeesS w' w'.heap.size sa (runSt P (st0 kPile P (pfr r)) most.toNat).k (runSt P (st0 kPile P (pfr r)) most.toNat).s ∧ Sees w' w'.heap.size wa P.n (runSt P (st0 kPile P (pfr r)) most.toNat).f ∧ SeesA w' w'.heap.size aa P.nh (runSt P (st0 kPile P (pfr r)) most.toNat).done (runSt P (st0 kPile P (pfr r)) most.toNat).ans)

theorem play_told {r : Nat} (h1 : 1 ≤ r) (h2 : r ≤ 64) (hsh : sh.f = r) (hn : P.n = 2 + 2 * r) (S : Sees w w.heap.size ao P.n (pfr r)) (SH : SeesH w w.heap.size aoh P.nh P.jn P.jb) (hn63 : P.nh ≤ 9223372036854775807) (SI : SeesI w w.heap.size aos P.ns P.sched) (hjw : ∀ h, h < P.nh → ∀ j, j < P.jn h → (P.jb h j).wf) :
    Calls Try.prog 25 #[sh.val, .slice ao P.n cap, .slice aoh P.nh caph, .slice aos P.ns caps, .int .i64 most] w fun e w' => Below w.heap.size w w' ∧ Ran r P most w' e := by
  refine (play_all (want := 2 + 2 * r) (by omega) (by omega) (by omega) S (fun i _ => pfr_bounds h2 i) SH hn63 SI hjw).mono fun e w' h => ?_
  refine ⟨h.1, ?_⟩
  rcases h.2 with ⟨er, hle, he⟩ | ⟨hn', hF, hok, v, he, blk, c, g, sv, hv, H, G, GS, R, hg, hne⟩
  · refine .inl ⟨er, ?_, he⟩
    rcases hle with ⟨_, rfl⟩ | ⟨_, h⟩
    · decide
    · exact h.ne
  · obtain ⟨sa, sc, rfl⟩ := GS.isSlice'
    subst hv
    refine .inr ⟨hok, by rcases Nat.lt_or_ge 8 P.nh with l | l; exact absurd (.inl l) hF.2.1; exact l, fun h hh => G.jobs h hh, by have := hF.2.2.2; omega, sa, sc, _, _, _, _, he, GS.seesS H, R.sees, seesA_of G.answers H⟩
end Pile
end Go.Proofs.Ytbjlpmahomjgjaa

namespace Go.Proofs.Ytbjlpmahomjgjaa

theorem wordsOf_bounds {n : Nat} {f : Nat → Int} (hf : ∀ i, i < n → 0 ≤ f i ∧ f i ≤ 18446744073709551615) {q : Stp} (hq : 0 ≤ q.put ∧ q.put ≤ 18446744073709551615) : ∀ i, i < n → 0 ≤ wordsOf n f q i ∧ wordsOf n f q i ≤ 18446744073709551615 := by
  intro i hi
  unfold wordsOf
  split
  · rename_i h
    unfold putF
    split
    · unfold stepOf
      rw [if_pos h]
      exact putBy_bounds (hf _ (by omega)) hq
    · exact hf i hi
  · exact hf i hi

theorem stepOf_had {n : Nat} {f : Nat → Int} (hf : ∀ i, i < n → 0 ≤ f i ∧ f i ≤ 18446744073709551615) (q : Stp) : 0 ≤ (stepOf n f q).had ∧ (stepOf n f q).had ≤ 18446744073709551615 := by
  unfold stepOf
  split
  · rename_i h
    exact hf _ (by omega)
  · exact ⟨Int.le_refl 0, by show (0 : Int) ≤ 18446744073709551615; decide⟩

/-- What a run keeps: its words are words, the task under way of a hand that goes on is one of its job's. -/
structure WR {K : Kd} (P : Par) (st : St K) : Prop where
  word : ∀ i, i < P.n → 0 ≤ st.f i ∧ st.f i ≤ 18446744073709551615
  wf : ∀ h, h < P.nh → st.done h < P.jn h → K.wf (P.jb h (st.done h)) (st.cur h)

theorem WR.step {K : Kd} {P : Par} {st : St K} (ok : K.Ok) (hput : ∀ j s, K.wf j s → 0 ≤ (K.req s).put ∧ (K.req s).put ≤ 18446744073709551615) (hfine : ∀ h, h < P.nh → ∀ j, j < P.jn h → K.fine (P.jb h j)) (W : WR P st) {h : Nat} (hh : h < P.nh) (hd : st.done h < P.jn h) : WR P (stepSt P st h) := by
  have w0 := W.wf h hh hd
  refine ⟨wordsOf_bounds W.word (hput _ _ w0), fun h' hh' hd' => ?_⟩
  by_cases e : h' = h
  · subst e
    by_cases he : K.ends (st.cur h') (stepOf P.n st.f (K.req (st.cur h'))) = true
    · have ed : (stepSt P st h').done = upd st.done h' (st.done h' + 1) := if_pos he
      have ec : (stepSt P st h').cur h' = K.init h' (P.jb h' (st.done h' + 1)) := by
        show upd st.cur h' _ h' = _
        rw [upd_same, if_pos he]
      rw [ed, upd_same] at hd' ⊢
      rw [ec]
      exact ok.init _ _ (hfine h' hh _ hd')
    · have ed : (stepSt P st h').done = st.done := if_neg he
      have ec : (stepSt P st h').cur h' = K.next (st.cur h') (stepOf P.n st.f (K.req (st.cur h'))) := by
        show upd st.cur h' _ h' = _
        rw [upd_same, if_neg he]
      rw [ed, ec]
      exact ok.next _ _ _ _ W.word w0
  · have ec : (stepSt P st h).cur h' = st.cur h' := upd_other _ _ e
    have ed : (stepSt P st h).done h' = st.done h' := by
      by_cases he : K.ends (st.cur h) (stepOf P.n st.f (K.req (st.cur h))) = true
      · have ed : (stepSt P st h).done = upd st.done h (st.done h + 1) := if_pos he
        rw [ed]; exact upd_other _ _ e
      · have ed : (stepSt P st h).done = st.done := if_neg he
        rw [ed]
    rw [ed] at hd' ⊢
    rw [ec]
    exact W.wf h' hh' hd'

theorem wr_run {K : Kd} {P : Par} {f : Nat → Int} (ok : K.Ok) (hput : ∀ j s, K.wf j s → 0 ≤ (K.req s).put ∧ (K.req s).put ≤ 18446744073709551615) (hfine : ∀ h, h < P.nh → ∀ j, j < P.jn h → K.fine (P.jb h j)) (hf : ∀ i, i < P.n → 0 ≤ f i ∧ f i ≤ 18446744073709551615) : ∀ m, WR P (runSt P (st0 K P f) m)
  | 0 => ⟨hf, fun h hh hd => ok.init _ _ (hfine h hh _ hd)⟩
  | m + 1 => by
    have W := wr_run ok hput hfine hf m
    rcases run_succ_cases P (st0 K P f) rfl m with ⟨e, _⟩ | ⟨h, ht, hh, hd, hk, e⟩
    · rw [e]; exact W
    · rw [e]; exact W.step ok hput hfine hh hd

/-- An answer that a run has told is still told at its end. -/
theorem told_later {K : Kd} (P : Par) (s : St K) (h0 : s.k = 0) {i m : Nat} (him : i ≤ m) (h' : Nat) : (runSt P s i).done h' ≤ (runSt P s m).done h' ∧ ∀ j, j < (runSt P s i).done h' → (runSt P s m).ans h' j = (runSt P s i).ans h' j := by
  obtain ⟨d, rfl⟩ : ∃ d, m = i + d := ⟨m - i, by omega⟩
  exact stays P s h0 i h' d
end Go.Proofs.Ytbjlpmahomjgjaa

namespace Go.Proofs.Ytbjlpmahomjgjaa
open Go.RowKit
namespace Pile

theorem preq_put {s : PiS} (H : Wf s) : 0 ≤ (preq s).put ∧ (preq s).put ≤ 18446744073709551615 := by
  have b1 := bump_lo s.head (idx s.low)
  have b2 := bump_hi s.head (idx s.low)
  have b3 := bump_lo s.head s.place
  have b4 := bump_hi s.head s.place
  have i1 := idx_lo s.head
  have i2 := idx_hi s.head
  have hh : 0 ≤ s.j.h ∧ s.j.h ≤ 18446744073709551615 := H.h
  unfold preq
  repeat' split
  all_goals (simp only; omega)

/-- What the law's round meets: the hand, its job, the step, what comes of it. -/
structure OS (r : Nat) (P : Par) (M i : Nat) (ly : List Int) (pv : Nat → Int) (h : Nat) (j : Jb) (x : Stp) (l' : Nat → List Nat) (ly' : List Int) (pv' : Nat → Int) (e : Bool) (a : Ans) : Prop where
  hh : h < P.nh
  hd : (runSt P (st0 kPile P (pfr r)) i).done h < P.jn h
  ej : P.jb h ((runSt P (st0 kPile P (pfr r)) i).done h) = j
  kind : j.kind = 1 ∨ j.kind = 2
  wf : j.wf
  ex : (runSt P (st0 kPile P (pfr r)) M).s i = x
  hand : x.hand = h
  had : 0 ≤ x.had ∧ x.had ≤ 18446744073709551615
  pr : PR r P (runSt P (st0 kPile P (pfr r)) (i + 1)) l' ly' pv'
  sc : SC h j x ly ly' pv pv' e a
  e1 : e = true → (runSt P (st0 kPile P (pfr r)) (i + 1)).done = upd (runSt P (st0 kPile P (pfr r)) i).done h ((runSt P (st0 kPile P (pfr r)) i).done h + 1) ∧ (runSt P (st0 kPile P (pfr r)) i).done h < (runSt P (st0 kPile P (pfr r)) M).done h ∧ (runSt P (st0 kPile P (pfr r)) M).ans h ((runSt P (st0 kPile P (pfr r)) i).done h) = a
  e0 : e = false → (runSt P (st0 kPile P (pfr r)) (i + 1)).done = (runSt P (st0 kPile P (pfr r)) i).done

theorem order_step {r : Nat} {P : Par} (h2 : r ≤ 64) (hn : P.n = 2 + 2 * r) (hok : AllOk kPile P) (hjw : ∀ h, h < P.nh → ∀ j, j < P.jn h → (P.jb h j).wf) {M i : Nat} (hM : M ≤ 65536) (hi : i < (runSt P (st0 kPile P (pfr r)) M).k) {l : Nat → List Nat} {ly : List Int} {pv : Nat → Int} (Q : PR r P (runSt P (st0 kPile P (pfr r)) i) l ly pv) :
    ∃ h j x l' ly' pv' e a, OS r P M i ly pv h j x l' ly' pv' e a := by
  obtain ⟨hk, ⟨h, ht, hh, hd, hrun⟩, hs⟩ := hist P (st0 kPile P (pfr r)) rfl M i hi
  have hkM := (runSt_k P (st0 kPile P (pfr r)) rfl M).1
  have hfine : ∀ h, h < P.nh → ∀ j, j < P.jn h → kPile.fine (P.jb h j) := fun h hh j hj => ⟨hjw h hh j hj, _, hok h hh j hj⟩
  have W := wr_run (K := kPile) (P := P) (f := pfr r) isKind.ok (fun j s hw => preq_put hw.2) hfine (fun i _ => pfr_bounds h2 i) i
  obtain ⟨l', ly', pv', e, a, Q', S, E1, E0⟩ := Q.go hh hd hn (by rw [hk]; omega) (by omega) hok
  have hx := step_hand (P := P) (f := pfr r) (m := i) (h := h)
  rw [← hrun] at Q' S E1 E0 hx
  rw [hk] at S hx
  have ex : (runSt P (st0 kPile P (pfr r)) (i + 1)).s i = stepOf P.n (runSt P (st0 kPile P (pfr r)) i).f (kPile.req ((runSt P (st0 kPile P (pfr r)) i).cur h)) := by
    rw [hrun]
    show upd _ (runSt P (st0 kPile P (pfr r)) i).k _ i = _
    rw [hk, upd_same]
  have fc := fine_cases (hfine h hh _ hd)
  refine ⟨h, P.jb h ((runSt P (st0 kPile P (pfr r)) i).done h), (runSt P (st0 kPile P (pfr r)) (i + 1)).s i, l', ly', pv', e, a, hh, hd, rfl, fc.1, fc.2, hs, hx, by rw [ex]; exact stepOf_had W.word _, Q', S, fun he => ?_, E0⟩
  obtain ⟨d1, d2⟩ := E1 he
  obtain ⟨t1, t2⟩ := told_later P (st0 kPile P (pfr r)) rfl (i := i + 1) (m := M) (by omega) h
  have hdn : (runSt P (st0 kPile P (pfr r)) (i + 1)).done h = (runSt P (st0 kPile P (pfr r)) i).done h + 1 := by rw [d1, upd_same]
  exact ⟨d1, by omega, (t2 _ (by omega)).trans d2⟩
end Pile
end Go.Proofs.Ytbjlpmahomjgjaa

namespace Go.Proofs.Ytbjlpmahomjgjaa
open Go.RowKit
namespace PKept

/-- The places of a list, from a head's index on. -/
def Ln (f : Nat → Int) : Int → List Nat → Prop
  | p, [] => p = 0
  | p, q :: l => p = (q : Int) ∧ 1 ≤ q ∧ Ln f (f (2 * q) % 4294967296) l
theorem Ln.nil {f : Nat → Int} {p : Int} {l : List Nat} (h : Ln f p l) (hp : p = 0) : l = [] := by
  cases l with
  | nil => rfl
  | cons q l => obtain ⟨h1, h2, _⟩ := h; omega
theorem Ln.cons {f : Nat → Int} {p : Int} {l : List Nat} (h : Ln f p l) (hp : ¬ p = 0) : ∃ (q : Nat) (l' : List Nat), l = q :: l' ∧ p = (q : Int) ∧ 1 ≤ q ∧ Ln f (f (2 * q) % 4294967296) l' := by
  cases l with
  | nil => exact absurd h hp
  | cons q l => exact ⟨q, l, rfl, h⟩

def lenV : Value → Nat
  | .slice _ n _ => n
  | _ => 0
/-- Places as cells. -/
def pc (l : List Nat) : List Value := l.map fun (q : Nat) => Value.int .i64 (q : Int)
theorem pc_len (l : List Nat) : (pc l).length = l.length := by simp [pc]
theorem pc_more (l : List Nat) (q : Nat) : pc (l ++ [q]) = pc l ++ [.int .i64 (q : Int)] := by simp [pc]
theorem own_slice {w : World} {base : Nat} {e : TypeId} {size : Nat} {v : Value} {n : Nat} {xs : List Value} (h : w.ownsRow base e size v n xs) : ∃ ao cp, v = .slice ao n cp := by
  obtain ⟨hl, ⟨rfl, rfl⟩ | ⟨g, cap, cur, rfl, _⟩⟩ := h
  · exact ⟨_, _, rfl⟩
  · exact ⟨_, _, rfl⟩
theorem infoNe : ∃ i, Try.prog.info? 3 = some i ∧ i.zero = some (.int .i64 0) ∧ i.size = 1 ∧ i.bytes = 8 := by
  have h : (Try.prog.info? 3).map (fun i => (i.zero, i.size, i.bytes)) = some (some (.int .i64 0), 1, 8) := by kernel_rfl
  cases hp : Try.prog.info? 3 with
  | none => rw [hp] at h; cases h
  | some i => rw [hp] at h; simp at h; exact ⟨i, rfl, h.1, h.2.1, h.2.2⟩
theorem grown_below {B : Nat} {w wr w1 : World} {v : Value} {o : Obj} {e : TypeId} {n : Nat} {xs : List Value} (HB : Below B w wr) (hB : B ≤ wr.heap.size) (HO : wr.ownsRow B e 1 v n xs) (G : (wr.alloc o).grownBy w1 v.ownBlock) : Below B w w1 := by
  have HA : Below B w (wr.alloc o) := HB.alloc hB o
  refine ⟨G.os.trans HA.os, G.tape.trans HA.tape, G.output.trans HA.output, Nat.le_trans HA.size G.size, fun k hk => ?_⟩
  refine (G.block k (by simp; omega) (fun e => ?_)).trans (HA.block k hk)
  have := (HO.lt k e.symm).1
  omega

set_option maxHeartbeats 4000000 in
theorem along_any {w : World} {ao : Option Addr} {n cap r : Nat} {f : Nat → Int} {hd : Int} {l : List Nat} (S : Sees w w.heap.size ao n f) (hhd : 0 ≤ hd ∧ hd ≤ 18446744073709551615) (hf : ∀ i, i < n → 0 ≤ f i ∧ f i ≤ 18446744073709551615) (C : Ln f (hd % 4294967296) l) (hl : l.length ≤ r) (hq : ∀ q, q ∈ l → 2 * q < n) (hr : r ≤ 64) (hn : n ≤ 130) :
    Calls Try.prog 48 #[.slice ao n cap, .int .u64 hd, .int .i64 (r : Int)] w fun e w' => ∃ v, e = .returned v ∧ w'.ownsRow w.heap.size 3 1 v l.length (pc l) ∧ Below w.heap.size w w' := by
  obtain ⟨iN, hiN, hzN, hsN, hyN⟩ := infoNe
  have HS := hide S
  have HF := hide hf
  have HC := hide C
  have HQ := hide hq
  have HL := hide (And.intro hl (And.intro hr hn))
  have IX := hide (index_any hd hhd.1 (by omega))
  clear S hf C hq hl hr hn hhd
  go_enter Try.func48, Try.ntmps48
  go_wp2_with fail
  refine (IX.out _).mono ?_
  rintro e w' ⟨rfl, hw'⟩
  obtain rfl := hw'.symm
  go_wp2_with fail
  go_loopw [7, 8] (fun vo vi wr => ∃ (dn rest : List Nat) (p : Int), l = dn ++ rest ∧ vi = .int .i64 p ∧ Ln f p rest ∧ wr.ownsRow w.heap.size 3 1 vo dn.length (pc dn) ∧ Below w.heap.size w wr) (fun vo _ _ => l.length - lenV vo)
  case atStart => exact ⟨[], l, _, rfl, rfl, HC.out, by exact World.ownsRow_nil _ _ _ _, Below.refl _ _⟩
  case round =>
    obtain ⟨dn, rest, p, hdr, rfl, C1, O1, B1⟩ := hrel
    have HO := hide O1
    have HB := hide B1
    by_cases hp : p = 0
    · subst hp
      have e0 := C1.nil rfl
      subst e0
      rw [List.append_nil] at hdr
      subst hdr
      clear O1 B1 C1
      go_wp2_with fail
      go_ret
      exact ⟨_, rfl, HO.out, HB.out⟩
    · obtain ⟨q, rest', rfl, hpq, hq1, C2⟩ := C1.cons hp
      subst hpq
      have HC2 := hide C2
      have hlen : dn.length + 1 + rest'.length = l.length := by rw [hdr]; simp; omega
      have HLN := hide hlen
      have h2q : 2 * q < n := HQ.out q (by rw [hdr]; simp)
      have c1 : wrap64 (2 * (q : Int)) = 2 * (q : Int) := by have := HL.out; unfold wrap64; omega
      have c2 : ¬ (n : Int) ≤ 2 * (q : Int) := by omega
      have c3 : 2 * (q : Int) < (n : Int) := by omega
      obtain ⟨b, off, rfl, hb, hc⟩ := (HS.out.below HB.out (Nat.le_refl _)) (2 * q) h2q
      have lr := HB.out.size
      obtain ⟨ao', cp, rfl⟩ := own_slice O1
      have c4 : (dn.length : Int) ≤ (r : Int) := by have := HL.out; omega
      have IX2 := hide (index_any (f (2 * q)) (HF.out (2 * q) h2q).1 (by have := (HF.out (2 * q) h2q).2; omega))
      have mx : dn.length + 1 ≤ maxLen := by have := HL.out; unfold maxLen; omega
      have my : (dn.length + 1) * 8 ≤ 140737488355328 := by have := HL.out; omega
      clear O1 B1 C1 C2 hlen
      go_wp2_with (first
        | (at_builtin
           refine wpList_append_opt rfl (.tmp 19) (.tmp 21) 26 rfl w.heap.size 3 iN (.int .i64 0) 1 8 Try.underlying26 hiN hzN hsN hyN rfl (by decide) (.slice ao' dn.length cp) dn.length (pc dn) rfl (HO.out.alloc _) (some ⟨wr.heap.size, 0, none⟩) 1 1 [.int .i64 (q : Int)] rfl (fun h => by cases h) rfl (fun ad had j u hu => by cases had; rw [Go.WideShapes.add_plain]; match j, hu with | 0, hu => injection hu with hu; subst hu; simp) (by simp [Value.oneCell']) mx my (by simp; omega) ?_
           intro v1 w1 hown hgrow _
           have O2 := hide hown
           have B2 := hide (grown_below HB.out HB.out.size HO.out hgrow)
           have hc1 : w1.cell? ⟨b, off + 2 * q, none⟩ = some (.int .u64 (f (2 * q))) := (((HB.out.cell (p := ⟨b, off + 2 * q, none⟩) hb).symm.trans hc).symm ▸ (B2.out.cell (p := ⟨b, off + 2 * q, none⟩) hb))
           clear hown hgrow hc)
        | (go_at_call 70
           refine (IX2.out _).mono ?_
           rintro e w' ⟨rfl, hw'⟩
           obtain rfl := hw'.symm))
      go_roundw
      case rel =>
        refine ⟨dn ++ [q], rest', _, by rw [hdr]; simp, rfl, ?_, ?_, B2.out⟩
        · exact HC2.out
        · rw [pc_more, List.length_append]; exact O2.out
      case measure =>
        obtain ⟨ao2, cp2, rfl⟩ := own_slice O2.out
        show l.length - (dn.length + 1) < l.length - dn.length
        have := HLN.out
        omega
end PKept
end Go.Proofs.Ytbjlpmahomjgjaa

namespace Go.Proofs.Ytbjlpmahomjgjaa
open Go.RowKit
namespace PKept

/-- Words as cells. -/
def wc (l : List Int) : List Value := l.map fun x => Value.int .u64 x
theorem wc_len (l : List Int) : (wc l).length = l.length := by simp [wc]
theorem wc_more (l : List Int) (x : Int) : wc (l ++ [x]) = wc l ++ [.int .u64 x] := by simp [wc]
theorem wc_get {l : List Int} {j : Nat} {x : Int} (h : l[j]? = some x) : (wc l)[j]? = some (.int .u64 x) := by simp [wc, h]

/-- Two that change places, the one of them the last. -/
theorem swap_perm {L : List Int} {i m : Nat} {x y : Int} (hm : L.length = m + 1) (hi : L[i]? = some x) (hy : L[m]? = some y) : ∃ L1, (L.set i y).set m x = L1 ++ [x] ∧ (L1 ++ [x]).Perm L := by
  have hil : i < L.length := (List.getElem?_eq_some_iff.1 hi).1
  have hml : m < L.length := by omega
  have ex : L[i] = x := (List.getElem?_eq_some_iff.1 hi).2
  have ey : L[m] = y := (List.getElem?_eq_some_iff.1 hy).2
  have P := List.set_set_perm hil hml
  rw [ex, ey] at P
  have e : (L.set i y).set m x = ((L.set i y).set m x).take m ++ [x] := by
    apply List.ext_getElem?
    intro j
    rcases Nat.lt_trichotomy j m with h | h | h
    · rw [List.getElem?_append_left (by simp; omega), List.getElem?_take, if_pos h]
    · subst h
      rw [List.getElem?_append_right (by simp; omega)]
      simp [hml]
      rw [show j - min j L.length = 0 by omega]
      rfl
    · rw [List.getElem?_eq_none (by simp; omega), List.getElem?_eq_none (by simp; omega)]
  exact ⟨_, e, e ▸ P⟩

/-- The row behind the change. -/
theorem swap_row {w : World} {base g cap n i m : Nat} {F : Nat → Value} {L : List Int} {x y : Int} (R : w.rowIs g 42 (cap * 1) F) (hp : Pre F (wc L)) (hn : n ≤ cap) (hc : cap ≤ maxLen) (hb : base ≤ g) (hL : L.length = n) (hm : L.length = m + 1) (hi : L[i]? = some x) (hy : L[m]? = some y) :
    ((w.setCell ⟨g, i, none⟩ (.int .u64 y)).setCell ⟨g, m, none⟩ (.int .u64 x)).ownsRow base 42 1 (.slice (some ⟨g, 0, none⟩) n cap) n (wc ((L.set i y).set m x)) := by
  refine owns_of_row (n := n) ((R.set i (.int .u64 y)).set m (.int .u64 x)) (fun q u hq => ?_) (by simp [wc, hL]) hn hc hb
  have hil : i < L.length := (List.getElem?_eq_some_iff.1 hi).1
  simp only [wc, List.getElem?_map, List.getElem?_set] at hq
  by_cases e1 : q = m
  · subst e1
    simp only [if_true, List.length_set] at hq
    rw [if_pos (by omega)] at hq
    simp at hq
    simp [hq]
  · simp only [if_neg (Ne.symm e1), if_neg e1] at hq ⊢
    by_cases e2 : q = i
    · subst e2
      simp only [if_true] at hq
      rw [if_pos hil] at hq
      simp at hq
      simp [hq]
    · simp only [if_neg (Ne.symm e2), if_neg e2] at hq ⊢
      exact hp q u (by simpa [wc] using hq)

set_option maxHeartbeats 4000000 in
theorem take_any {w : World} {base n : Nat} {v : Value} {L : List Int} {x : Int} (O : w.ownsRow base 42 1 v n (wc L)) (hx : x ∈ L) (hn : n ≤ 4096) :
    Calls Try.prog 49 #[v, .int .u64 x] w fun e w' => e = .returned (.bool true) ∧ ∃ L1, (L1 ++ [x]).Perm L ∧ w'.ownsRow base 42 1 v n (wc (L1 ++ [x])) ∧ Touch w w' (fun b => some b = v.ownBlock) := by
  have hL : L.length = n := by have := O.1; rw [wc_len] at this; omega
  obtain ⟨m, hm⟩ : ∃ m, L.length = m + 1 := ⟨L.length - 1, by have := List.length_pos_of_mem hx; omega⟩
  obtain ⟨g, cap, F, rfl, hb, R, hp, hcap, hmax⟩ := row_of_owns O (by omega)
  have cell : ∀ j y, L[j]? = some y → w.cell? ⟨g, j, none⟩ = some (.int .u64 y) := fun j y hj => by
    have hjl := (List.getElem?_eq_some_iff.1 hj).1
    rw [R.cell (i := j) (by omega)]
    exact congrArg some (hp j _ (wc_get hj))
  obtain ⟨y, hy⟩ : ∃ y, L[m]? = some y := ⟨_, List.getElem?_eq_getElem (by omega)⟩
  have HSW := hide (fun i (hi : L[i]? = some x) => And.intro (swap_perm hm hi hy) (swap_row (base := base) R hp hcap hmax hb hL hm hi hy))
  have HCE := hide cell
  have HY := hide hy
  have HX := hide hx
  have lg := R.lt
  have HFZ := hide (fun i => R.frozen i)
  have H3 := hide (fun i => show ((w.setCell ⟨g, i, none⟩ (.int .u64 y)).drew).cell? ⟨g, m, none⟩ = some (.int .u64 y) ∧ ((w.setCell ⟨g, i, none⟩ (.int .u64 y)).drew).frozen? ⟨g, m, none⟩ = false from by
    have R1 := (R.set i (.int .u64 y)).drew
    refine ⟨?_, R1.frozen m⟩
    rw [R1.cell (i := m) (by omega)]
    by_cases e : m = i
    · rw [if_pos e]
    · rw [if_neg e]; exact congrArg some (hp m _ (wc_get hy)))
  obtain rfl : n = m + 1 := by omega
  clear O R hp hcap hmax hb cell hy hx
  go_enter Try.func49, Try.ntmps49
  go_wp2_with fail
  go_loopw [5] (fun vi wr => wr = w ∧ ∃ i : Nat, i ≤ m + 1 ∧ vi = .int .i64 (i : Int) ∧ ∀ j, j < i → ¬ L[j]? = some x) (fun vi _ => m + 1 - (intOf vi).toNat)
  case atStart => exact ⟨rfl, 0, Nat.zero_le _, rfl, fun j hj => absurd hj (Nat.not_lt_zero j)⟩
  case round =>
    obtain ⟨e1, i, hi, rfl, hno⟩ := hrel
    subst e1
    have hlt : i < m + 1 := by
      rcases Nat.lt_or_ge i (m + 1) with l | l
      · exact l
      · exfalso
        obtain ⟨j, hj, e⟩ := List.getElem_of_mem HX.out
        exact hno j (by omega) (by rw [List.getElem?_eq_getElem hj, e])
    have hlt' : (i : Int) < ((m + 1 : Nat) : Int) := by omega
    obtain ⟨z, hz⟩ : ∃ z, L[i]? = some z := ⟨_, List.getElem?_eq_getElem (by omega)⟩
    have c0 := HCE.out i z hz
    have HNO := hide hno
    clear hno
    by_cases hzx : z = x
    · subst hzx
      have c1 := HCE.out m y HY.out
      have HZ := hide (HSW.out i hz)
      have f0 := HFZ.out i
      have f1 := HFZ.out m
      obtain ⟨d0, d1⟩ := H3.out i
      have c2 : wrap64 (((m + 1 : Nat) : Int) - 1) = (m : Int) := by unfold wrap64; omega
      have hlm : (m : Int) < ((m + 1 : Nat) : Int) := by omega
      clear hz
      go_wp2_with fail
      go_region
      go_wp2_with fail
      go_ret
      obtain ⟨⟨L1, e1, e2⟩, e3⟩ := HZ.out
      rw [e1] at e3
      have t0 : Touch wr (wr.setCell ⟨g, i, none⟩ (.int .u64 y)) (fun b => some b = (Value.slice (some ⟨g, 0, none⟩) (m + 1) cap).ownBlock) := Touch.setCell (S := fun b => some b = (Value.slice (some ⟨g, 0, none⟩) (m + 1) cap).ownBlock) (Touch.refl wr (fun b => some b = (Value.slice (some ⟨g, 0, none⟩) (m + 1) cap).ownBlock)) ⟨g, i, none⟩ (.inl (by simp [Value.ownBlock])) (.int .u64 y)
      have t : Touch wr ((wr.setCell ⟨g, i, none⟩ (.int .u64 y)).setCell ⟨g, m, none⟩ (.int .u64 z)) (fun b => some b = (Value.slice (some ⟨g, 0, none⟩) (m + 1) cap).ownBlock) := Touch.setCell (S := fun b => some b = (Value.slice (some ⟨g, 0, none⟩) (m + 1) cap).ownBlock) t0 ⟨g, m, none⟩ (.inl (by simp [Value.ownBlock])) (.int .u64 z)
      exact ⟨rfl, L1, e2, e3, t.os, t.tape, t.output, t.size, t.block⟩
    · have HZ := hide hz
      clear hz
      go_wp2_with fail
      go_roundw
      case rel =>
        refine ⟨by first | rfl | trivial, i + 1, hlt, by simp, fun j hj => ?_⟩
        rcases Nat.lt_or_ge j i with l | l
        · exact HNO.out j l
        · obtain rfl : j = i := by omega
          rw [HZ.out]
          exact fun h => hzx (Option.some.inj h)
      case measure => simp [intOf]; omega
end PKept
end Go.Proofs.Ytbjlpmahomjgjaa

namespace Go.Proofs.Ytbjlpmahomjgjaa
open Go.RowKit

namespace RH
open RetN (pv D)

structure In (ks : List (Nat × Nat)) (vals : Nat → Value) (xs : List Nat) (WI : (Nat → Bool) → (Nat → Value) → World → Prop) (a0 : Act) (L : Nat → Bool) (a : Act) (w : World) : Prop where
  sz : a.tmps.size = a0.tmps.size
  df : a.defers = a0.defers
  fix : ∀ k, ¬ D ks k → xs.contains k = false → a.eval (.tmp k) = a0.eval (.tmp k)
  pure : ∀ i d v, pv ks vals i = some (d, v) → L i = true → a.eval (.tmp d) = v
  world : WI L (fun k => a.eval (.tmp k)) w

inductive Does (P : Program) (Q : Exit → Act → World → Prop) (ks : List (Nat × Nat)) (vals : Nat → Value) (xs : List Nat) (WI : (Nat → Bool) → (Nat → Value) → World → Prop) (a0 : Act) (i : Nat) (o : Oper) : Prop where
  | mk (dst : o.dst = Reg.look ks i) (wp : ∀ L a w (K : Act → World → Prop), In ks vals xs WI a0 L a w → L i = false → (∀ e ∈ o.after, Region.binds .any e = true → L e.on = true) → (∀ w' v, (∀ d, o.dst = some d → v = vals i) → WI (upd L i true) (fun k => a.eval (.tmp k)) w' → K (a.put o.dst v) w') → o.wp P a w K Q)
  | own (x : Nat) (dst : o.dst = some x) (hx : xs.contains x = true) (no : Reg.look ks i = none) (wp : ∀ L a w (K : Act → World → Prop), In ks vals xs WI a0 L a w → L i = false → (∀ e ∈ o.after, Region.binds .any e = true → L e.on = true) → (∀ w' v, WI (upd L i true) (fun k => if k = x then v else a.eval (.tmp k)) w' → K (a.put (some x) v) w') → o.wp P a w K Q)

theorem region {P : Program} {id : Nat} {ops : Array Oper} {Q : Exit → Act → World → Prop} {ks : List (Nat × Nat)} {vals : Nat → Value} {xs : List Nat} {WI : (Nat → Bool) → (Nat → Value) → World → Prop} {w0 : World} {a0 : Act}
    (hm : P.follows .mixedOrders = true) (hg : ∀ (i : Nat) (o : Oper), ops[i]? = some o → o.guard = none) (hback : ∀ (i : Nat) (o : Oper), ops[i]? = some o → ∀ e ∈ o.after, Region.binds .any e = true → e.on < i)
    (hgood : (ks.all fun p => (ks.all fun q => p.1 == q.1 || p.2 != q.2) && !xs.contains p.2) = true) (hD : ∀ k, D ks k → k < a0.tmps.size) (hX : ∀ k, xs.contains k = true → k < a0.tmps.size)
    (hloc : ∀ L s s' w, (∀ k, xs.contains k = true → s k = s' k) → WI L s w → WI L s' w) (hW0 : ∀ s, WI (fun _ => false) s { w0 with drawn := w0.drawn + 1 })
    (does : ∀ (i : Nat) (o : Oper), ops[i]? = some o → Does P Q ks vals xs WI a0 i o)
    (fin : ∀ L a w, In ks vals xs WI a0 L a w → (∀ i, i < ops.size → L i = true) → Q .normal a w) :
    (Code.region id ops true).wp P Q a0 w0 := by
  simp only [List.all_eq_true, bne_iff_ne, Bool.or_eq_true, beq_iff_eq, Bool.and_eq_true, Bool.not_eq_true'] at hgood
  have pvm : ∀ {i d v}, pv ks vals i = some (d, v) → (i, d) ∈ ks := fun {i d v} h => by
    obtain ⟨d', h1, h2⟩ := Option.map_eq_some_iff.1 h
    cases h2; exact Reg.look_mem h1
  refine region_inv hm hg hback (fun L a w => In ks vals xs WI a0 L a w) ?step (fun L a w h hall => fin L a w h hall) ?start
  case start => exact ⟨rfl, rfl, fun _ _ _ => rfl, fun _ _ _ _ h => (by cases h), hW0 _⟩
  case step =>
    rintro L a w i o h ho hL hd
    have none_ok : ∀ {j d' v'}, Reg.look ks i = none → pv ks vals j = some (d', v') → upd L i true j = true → L j = true := fun {j d' v'} hlk hj hLj => by
      have hji : j ≠ i := fun e => by
        subst e
        obtain ⟨d'', h1, _⟩ := Option.map_eq_some_iff.1 hj
        rw [hlk] at h1; cases h1
      rwa [upd_other _ _ hji] at hLj
    rcases does i o ho with ⟨hdst, hwp⟩ | ⟨x, hdst, hx, hno, hwp⟩
    · refine hwp L a w _ h hL hd (fun w' v hv hW => ?_)
      cases hlk : Reg.look ks i with
      | none =>
        rw [hdst, hlk]
        exact ⟨h.sz, h.df, h.fix, fun j d' v' hj hLj => h.pure j d' v' hj (none_ok hlk hj hLj), hW⟩
      | some d =>
        have hv' := hv d (hdst.trans hlk)
        subst hv'
        rw [hdst, hlk]
        have hm' : (i, d) ∈ ks := Reg.look_mem hlk
        have hDd : D ks d := by simp only [D, List.any_eq_true, beq_iff_eq]; exact ⟨_, hm', rfl⟩
        have e : ∀ k : Nat, k ≠ d → (a.put (some d) (vals i)).eval (.tmp k) = a.eval (.tmp k) := fun k hk => put_other hk
        refine ⟨by rw [put_size]; exact h.sz, by rw [put_defs]; exact h.df, fun k hk hkx => ?_, fun j d' v' hj hLj => ?_, hloc _ _ _ _ (fun k hk => (e k (fun he => by subst he; rw [(hgood _ hm').2] at hk; cases hk)).symm) hW⟩
        · rw [e k (fun he => hk (he ▸ hDd))]; exact h.fix k hk hkx
        · by_cases hij : j = i
          · subst hij
            rw [pv, hlk] at hj
            cases hj
            exact put_eval (by rw [h.sz]; exact hD _ hDd)
          · rw [upd_other _ _ hij] at hLj
            have : d' ≠ d := by
              rcases (hgood _ hm').1 _ (pvm hj) with e1 | e1
              · exact absurd e1.symm hij
              · exact Ne.symm e1
            rw [e d' this]
            exact h.pure j d' v' hj hLj
    · refine hwp L a w _ h hL hd (fun w' v hW => ?_)
      have e : ∀ k : Nat, k ≠ x → (a.put (some x) v).eval (.tmp k) = a.eval (.tmp k) := fun k hk => put_other hk
      have ex : (a.put (some x) v).eval (.tmp x) = v := put_eval (by rw [h.sz]; exact hX x hx)
      refine ⟨by rw [put_size]; exact h.sz, by rw [put_defs]; exact h.df, fun k hk hkx => by rw [e k (fun he => by subst he; rw [hx] at hkx; cases hkx)]; exact h.fix k hk hkx, fun j d' v' hj hLj => ?_, hloc _ _ _ _ (fun k hk => ?_) hW⟩
      · rw [e d' (fun he => by subst he; have := (hgood _ (pvm hj)).2; rw [hx] at this; cases this)]
        exact h.pure j d' v' hj (none_ok hno hj hLj)
      · by_cases he : k = x
        · subst he; simp [ex]
        · simp [he, e k he]

section
variable {P : Program} {Q : Exit → Act → World → Prop} {ks : List (Nat × Nat)} {vals : Nat → Value} {xs : List Nat} {WI : (Nat → Bool) → (Nat → Value) → World → Prop} {a0 : Act} {i : Nat} {o : Oper}
theorem Does.read (hd : o.dst = Reg.look ks i) (hW : ∀ L s w, WI L s w → WI (upd L i true) s w) (h : ∀ L a w, In ks vals xs WI a0 L a w → (∀ e ∈ o.after, Region.binds .any e = true → L e.on = true) → (execOp a.eval o).run P w = .ok (.value (vals i)) w) : Does P Q ks vals xs WI a0 i o :=
  .mk hd fun L a w K hI _ hdep hk => wp_value (h L a w hI hdep) (hk w _ (fun _ _ => rfl) (hW L _ w hI.world))
/-- A call whose answer the invariant tells. -/
theorem Does.call {x : Nat} {f : FuncId} {args : Array Value} (hd : o.dst = some x) (hx : xs.contains x = true) (hn : Reg.look ks i = none) (h : ∀ L a w, In ks vals xs WI a0 L a w → (∀ e ∈ o.after, Region.binds .any e = true → L e.on = true) → (execOp a.eval o).run P w = .ok (.enter f args) w)
    (hc : ∀ L s w, WI L s w → L i = false → Calls P f args w fun e w' => ∃ v, e = .returned v ∧ WI (upd L i true) (fun k => if k = x then v else s k) w') : Does P Q ks vals xs WI a0 i o :=
  .own x hd hx hn fun L a w K hI hL hdep hk => wp_call (h L a w hI hdep) ((hc L _ w hI.world hL).mono (by rintro e w' ⟨v, rfl, hw⟩; exact ⟨_, rfl, by rw [hd]; exact hk _ _ hw⟩))
/-- A slot of the invariant's, told anew in another. -/
theorem Does.copy {x y : Nat} (hd : o.dst = some x) (hx : xs.contains x = true) (hn : Reg.look ks i = none) (ho : o.op = .assign (.tmp y)) (hP : ∀ (ev : Operand → Value) (w : World), (execOp ev o).run P w = .ok (.value (ev (.tmp y))) w)
    (hw : ∀ L s w, WI L s w → L i = false → (∀ e ∈ o.after, Region.binds .any e = true → L e.on = true) → WI (upd L i true) (fun k => if k = x then s y else s k) w) : Does P Q ks vals xs WI a0 i o :=
  .own x hd hx hn fun L a w K hI hL hdep hk => wp_value (hP a.eval w) (by rw [hd]; exact hk _ _ (hw L _ w hI.world hL hdep))
end
end RH
end Go.Proofs.Ytbjlpmahomjgjaa
