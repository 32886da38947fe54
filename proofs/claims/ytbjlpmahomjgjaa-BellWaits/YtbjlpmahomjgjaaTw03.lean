/-
  Lemmas: HistG, BellX, BellG, BellV.
-/
import Derived.Test.YtbjlpmahomjgjaaTp13
import Derived.Test.YtbjlpmahomjgjaaTw02
import Derived.Test.YtbjlpmahomjgjaaTp26
set_option linter.unusedVariables false
set_option linter.unusedSimpArgs false
set_option maxRecDepth 20000
namespace Go.Proofs.Ytbjlpmahomjgjaa

variable {K : Kd} {P : Par} {f : Nat → Int}

theorem run_succ_cases (P : Par) (s : St K) (h0 : s.k = 0) (m : Nat) : (runSt P s (m + 1) = runSt P s m ∧ (runSt P s m).turn P < 0) ∨
    ∃ h : Nat, (runSt P s m).turn P = h ∧ h < P.nh ∧ (runSt P s m).done h < P.jn h ∧ (runSt P s m).k = m ∧ runSt P s (m + 1) = stepSt P (runSt P s m) h := by
  rcases turn_ok P (runSt P s m) with ⟨ht, _⟩ | ⟨h, ht, hh, hd⟩
  · left
    refine ⟨?_, by rw [ht]; decide⟩
    show (if _ then _ else _) = _
    rw [if_pos (by rw [ht]; decide)]
  · right
    refine ⟨h, ht, hh, hd, ?_, runSt_step ht⟩
    have hk := runSt_k P s h0 m
    rcases Nat.lt_or_ge (runSt P s m).k m with l | l
    · have := hk.2 l; rw [ht] at this; omega
    · omega

/-- Each step of a run. -/
theorem hist (P : Par) (s : St K) (h0 : s.k = 0) : ∀ m i, i < (runSt P s m).k → (runSt P s i).k = i ∧ (∃ h : Nat, (runSt P s i).turn P = h ∧ h < P.nh ∧ (runSt P s i).done h < P.jn h ∧ runSt P s (i + 1) = stepSt P (runSt P s i) h) ∧ (runSt P s m).s i = (runSt P s (i + 1)).s i
  | 0, i, hi => by have : (runSt P s 0).k = 0 := h0; omega
  | m + 1, i, hi => by
    rcases run_succ_cases P s h0 m with ⟨e, _⟩ | ⟨h, ht, hh, hd, hk, e⟩
    · rw [e] at hi ⊢
      exact hist P s h0 m i hi
    · have hk1 : (runSt P s (m + 1)).k = m + 1 := by rw [e]; show (runSt P s m).k + 1 = _; rw [hk]
      rw [hk1] at hi
      by_cases him : i = m
      · subst him
        exact ⟨hk, ⟨h, ht, hh, hd, e⟩, rfl⟩
      · obtain ⟨a, b, c⟩ := hist P s h0 m i (by rw [hk]; omega)
        refine ⟨a, b, ?_⟩
        rw [← c, e]
        show upd (runSt P s m).s (runSt P s m).k _ i = _
        rw [upd_other _ _ (by omega)]

theorem step_done (P : Par) (st : St K) (h h' : Nat) : st.done h' ≤ (stepSt P st h).done h' ∧ ∀ j, j < st.done h' → (stepSt P st h).ans h' j = st.ans h' j := by
  simp only [stepSt]
  split
  · by_cases e : h' = h
    · subst e
      rw [upd_same, upd_same]
      exact ⟨by omega, fun j hj => upd_other _ _ (by omega)⟩
    · rw [upd_other _ _ e, upd_other _ _ e]
      exact ⟨Nat.le_refl _, fun _ _ => rfl⟩
  · exact ⟨Nat.le_refl _, fun _ _ => rfl⟩

/-- What was told stays told. -/
theorem stays (P : Par) (s : St K) (h0 : s.k = 0) (i h' : Nat) : ∀ d, (runSt P s i).done h' ≤ (runSt P s (i + d)).done h' ∧ ∀ j, j < (runSt P s i).done h' → (runSt P s (i + d)).ans h' j = (runSt P s i).ans h' j
  | 0 => ⟨Nat.le_refl _, fun _ _ => rfl⟩
  | d + 1 => by
    obtain ⟨a, b⟩ := stays P s h0 i h' d
    rcases run_succ_cases P s h0 (i + d) with ⟨e, _⟩ | ⟨h, ht, hh, hd, hk, e⟩
    · rw [show i + (d + 1) = i + d + 1 by omega, e]
      exact ⟨a, b⟩
    · rw [show i + (d + 1) = i + d + 1 by omega, e]
      obtain ⟨x, y⟩ := step_done P (runSt P s (i + d)) h h'
      exact ⟨by omega, fun j hj => (y j (by omega)).trans (b j hj)⟩

/-- A run as long as its steps is the whole run. -/
theorem run_at_k (P : Par) (s : St K) (h0 : s.k = 0) (m : Nat) : runSt P s (runSt P s m).k = runSt P s m := by
  obtain ⟨h1, h2⟩ := runSt_k P s h0 m
  rcases Nat.lt_or_ge (runSt P s m).k m with l | l
  · -- the first time that none goes on
    induction m with
    | zero => omega
    | succ m ih =>
      rcases run_succ_cases P s h0 m with ⟨e, ht⟩ | ⟨h, ht, hh, hd, hk, e⟩
      · rw [e]
        obtain ⟨h1', h2'⟩ := runSt_k P s h0 m
        rcases Nat.lt_or_ge (runSt P s m).k m with l' | l'
        · exact ih h1' h2' l'
        · rw [show (runSt P s m).k = m by omega]
      · have : (runSt P s (m + 1)).k = m + 1 := by rw [e]; show (runSt P s m).k + 1 = _; rw [hk]
        omega
  · rw [show (runSt P s m).k = m by omega]

end Go.Proofs.Ytbjlpmahomjgjaa

namespace Go.Proofs.Ytbjlpmahomjgjaa
open Go.RowKit
namespace Bell

abbrev rn (P : Par) (m : Nat) : St (kBell P.nh) := runSt P (st0 (kBell P.nh) P (fun _ => 0)) m
def addsAt (P : Par) (i q : Nat) : Nat := adds (rn P i).cur (rn P i).done q
def doneAt (P : Par) (i q : Nat) : Nat := (rn P i).done q

/-- The ways a step can be. -/
inductive Way (x : Stp) (d a : Nat) : Bool → Prop where
  | look (h1 : x.act = 1) (h2 : x.at_ = 1) (h : a = d) : Way x d a false
  | spin (h1 : x.act = 1) (h2 : x.at_ = 1) (h : d < a) (e : x.had = d) : Way x d a false
  | goes (h1 : x.act = 1) (h2 : x.at_ = 1) (h : d < a) (e : ¬ x.had = d) : Way x d a true
  | add (h1 : x.act = 4) (h2 : x.at_ = 0) : Way x d a false
  | clear (h1 : x.act = 2) (h2 : x.at_ = 0) : Way x d a false
  | lets (h1 : x.act = 2) (h2 : x.at_ = 1) : Way x d a true

structure LawStep (P : Par) (i h : Nat) (x : Stp) (E : Bool) : Prop where
  lt : h < P.nh
  hand : x.hand = h
  way : Way x (doneAt P i h) (addsAt P i h) E
  had : 0 ≤ x.had ∧ x.had ≤ 18446744073709551615
  add : ∀ q, addsAt P (i + 1) q = addsAt P i q + (if q = h ∧ x.act = 4 then 1 else 0)
  dn : ∀ q, doneAt P (i + 1) q = doneAt P i q + (if q = h ∧ E = true then 1 else 0)
  all : E = true → ∀ q, q < P.nh → doneAt P (i + 1) h ≤ addsAt P (i + 1) q

theorem kinds {n : Nat} {f : Nat → Int} {cur : Nat → BeS} {d : Nat → Nat} {R h : Nat} (H : BI n (f 1) (f 0) cur d R) (hh : h < n) (hhand : (cur h).hand = h) :
    Way (stepOf 2 f (breq n (cur h))) (d h) (adds cur d h) (bends n (cur h) (stepOf 2 f (breq n (cur h)))) := by
  have L := step2 (f := f) (hand := h) (act := 1) (at_ := 1) (had := 0) (put := 0) (ok := true) (by decide) (by decide)
  have A := step2 (f := f) (hand := h) (act := 4) (at_ := 0) (had := 0) (put := 1) (ok := true) (by decide) (by decide)
  have C := step2 (f := f) (hand := h) (act := 2) (at_ := 0) (had := 0) (put := 0) (ok := true) (by decide) (by decide)
  have G := step2 (f := f) (hand := h) (act := 2) (at_ := 1) (had := 0) (put := u64 ((cur h).mine + 1)) (ok := true) (by decide) (by decide)
  have wt : ((cur h).st = 2 ∧ ¬ (cur h).rung = n) ∨ (cur h).st = 5 → (cur h).mine = d h → Way (stepOf 2 f (breq n (cur h))) (d h) (adds cur d h) (bends n (cur h) (stepOf 2 f (breq n (cur h)))) := fun s m => by
    have e4 : breq n (cur h) = ⟨h, 1, 1, 0, 0, true⟩ := by rcases s with s | s <;> simp [breq, s, hhand]
    have ha : adds cur d h = d h + 1 := by rcases s with s | s <;> simp [adds, s]
    rw [e4, ha]
    have hx : (stepOf 2 f ⟨h, 1, 1, 0, 0, true⟩).had = f 1 := L.2.2.2.1
    have e5 : bends n (cur h) (stepOf 2 f ⟨h, 1, 1, 0, 0, true⟩) = !(f 1 == (cur h).mine) := by rcases s with s | s <;> simp [bends, s, hx]
    rw [e5]
    by_cases g : f 1 = (cur h).mine
    · rw [show (!(f 1 == (cur h).mine)) = false from by simp [g]]
      exact .spin L.2.1 L.2.2.1 (by omega) (by rw [hx, g, m])
    · rw [show (!(f 1 == (cur h).mine)) = true from by simp [g]]
      exact .goes L.2.1 L.2.2.1 (by omega) (by rw [hx, ← m]; exact g)
  rcases H.ok h hh with ⟨s, _⟩ | ⟨s, _⟩ | ⟨s, m, q, e⟩ | ⟨s, m, q, e⟩ | ⟨s, m, e⟩ | ⟨s, m, e⟩
  · have e4 : breq n (cur h) = ⟨h, 1, 1, 0, 0, true⟩ := by simp [breq, s, hhand]
    rw [e4, show bends n (cur h) (stepOf 2 f ⟨h, 1, 1, 0, 0, true⟩) = false from by simp [bends, s]]
    exact .look L.2.1 L.2.2.1 (by simp [adds, s])
  · have e4 : breq n (cur h) = ⟨h, 4, 0, 0, 1, true⟩ := by simp [breq, s, hhand]
    rw [e4, show bends n (cur h) (stepOf 2 f ⟨h, 4, 0, 0, 1, true⟩) = false from by simp [bends, s]]
    exact .add A.2.1 A.2.2.1
  · exact wt (.inl ⟨s, q⟩) m
  · have e4 : breq n (cur h) = ⟨h, 2, 0, 0, 0, true⟩ := by simp [breq, s, q, hhand]
    rw [e4, show bends n (cur h) (stepOf 2 f ⟨h, 2, 0, 0, 0, true⟩) = false from by simp [bends, s, q]]
    exact .clear C.2.1 C.2.2.1
  · have e4 : breq n (cur h) = ⟨h, 2, 1, 0, u64 ((cur h).mine + 1), true⟩ := by simp [breq, s, hhand]
    rw [e4, show bends n (cur h) (stepOf 2 f ⟨h, 2, 1, 0, u64 ((cur h).mine + 1), true⟩) = true from by simp [bends, s]]
    exact .lets G.2.1 G.2.2.1
  · exact wt (.inr s) m

/-- The words of a run are words. -/
theorem rn_f (P : Par) : ∀ i j, 0 ≤ (rn P i).f j ∧ (rn P i).f j ≤ 18446744073709551615
  | 0, j => ⟨Int.le_refl 0, by show (0 : Int) ≤ 18446744073709551615; decide⟩
  | i + 1, j => by
    have ih := rn_f P i
    rcases run_succ_cases P (st0 (kBell P.nh) P (fun _ => 0)) rfl i with ⟨e, _⟩ | ⟨h, _, _, _, _, e⟩
    · show 0 ≤ (runSt P (st0 (kBell P.nh) P (fun _ => 0)) (i + 1)).f j ∧ (runSt P (st0 (kBell P.nh) P (fun _ => 0)) (i + 1)).f j ≤ _
      rw [e]; exact ih j
    · show 0 ≤ (runSt P (st0 (kBell P.nh) P (fun _ => 0)) (i + 1)).f j ∧ (runSt P (st0 (kBell P.nh) P (fun _ => 0)) (i + 1)).f j ≤ _
      rw [e]
      show 0 ≤ wordsOf P.n (rn P i).f (breq P.nh ((rn P i).cur h)) j ∧ wordsOf P.n (rn P i).f (breq P.nh ((rn P i).cur h)) j ≤ _
      unfold wordsOf
      split
      · rename_i hc
        unfold putF
        split
        · unfold stepOf
          rw [if_pos hc]
          exact putBy_bounds (ih _) breq_put
        · exact ih j
      · exact ih j

variable {P : Par}
theorem law_step (hn : P.n = 2) (h1 : 1 ≤ P.nh) (h8 : P.nh ≤ 8) (hj : ∀ h, h < P.nh → P.jn h ≤ 256) {m i : Nat} (hi : i < (rn P m).k) : ∃ h E, LawStep P i h ((rn P m).s i) E := by
  obtain ⟨hk, ⟨h, _, hh, hg, e⟩, es⟩ := hist P (st0 (kBell P.nh) P (fun _ => 0)) rfl m i hi
  obtain ⟨R, H⟩ := run_i P hn h1 h8 hj i
  obtain ⟨R', H', hR, S⟩ := H.step hn h8 hj hh hg
  have ex : (rn P m).s i = stepOf P.n (rn P i).f (breq P.nh ((rn P i).cur h)) := by
    show (runSt P (st0 (kBell P.nh) P (fun _ => 0)) m).s i = _
    rw [es, e]
    show upd (runSt P (st0 (kBell P.nh) P (fun _ => 0)) i).s (runSt P (st0 (kBell P.nh) P (fun _ => 0)) i).k _ i = _
    rw [hk, upd_same]
    rfl
  have K := kinds H.bi hh (H.own h hh)
  rw [← hn] at K
  rw [ex]
  refine ⟨h, bends P.nh ((rn P i).cur h) (stepOf P.n (rn P i).f (breq P.nh ((rn P i).cur h))), hh, S.hand, K, ?_, fun q => ?_, fun q => ?_, fun he q hq => ?_⟩
  · rw [hn]
    unfold stepOf
    split
    · exact rn_f P i _
    · exact ⟨Int.le_refl 0, by show (0 : Int) ≤ 18446744073709551615; decide⟩
  · have := S.add q
    unfold addsAt rn
    rw [e]
    exact this
  · unfold doneAt rn
    rw [e]
    show (if bends P.nh ((rn P i).cur h) (stepOf P.n (rn P i).f (breq P.nh ((rn P i).cur h))) = true then upd (rn P i).done h ((rn P i).done h + 1) else (rn P i).done) q = _
    split
    · rename_i he
      by_cases eq : q = h
      · subst eq; rw [upd_same]; simp [he]
      · rw [upd_other _ _ eq]; simp [eq]
    · rename_i he
      simp [he]
  · have a1 := H'.bi.adds_of hq
    have a2 := H'.bi.adds_of hh
    unfold doneAt addsAt rn
    rw [e]
    omega

/-- Just one of a row. -/
theorem cnt_one {g : Nat → Bool} {l n : Nat} (hl : l < n) (h1 : g l = true) (h2 : ∀ q, q < n → q ≠ l → g q = false) : cnt g n = 1 := by
  have h0 : cnt (fun q => if q = l then false else g q) n = 0 := cnt_none fun i hi => by
    by_cases e : i = l
    · simp [e]
    · simp [e, h2 i hi e]
  have := cnt_on (g := fun q => if q = l then false else g q) (g' := g) (h := l) (by simp) h1 (fun j e => by simp [e]) n hl
  omega

/-- The answers of round r: one at most let go, just one if all have ended. -/
theorem one_lets (hn : P.n = 2) (h1 : 1 ≤ P.nh) (h8 : P.nh ≤ 8) (hj : ∀ h, h < P.nh → P.jn h ≤ 256) (m r : Nat) :
    cnt (fun h => decide (r < (rn P m).done h) && ((rn P m).ans h r).ok) P.nh ≤ 1 ∧ (cnt (fun h => decide (r < (rn P m).done h)) P.nh = P.nh → cnt (fun h => decide (r < (rn P m).done h) && ((rn P m).ans h r).ok) P.nh = 1) := by
  obtain ⟨R, H⟩ := run_i P hn h1 h8 hj m
  by_cases hr : r < R
  · obtain ⟨l, hl, a, b, c⟩ := H.one r hr
    have := cnt_one (g := fun h => decide (r < (rn P m).done h) && ((rn P m).ans h r).ok) hl (by simp [a, b]) (fun q hq e => by
      cases hd : decide (r < (rn P m).done q) with
      | false => simp
      | true => have := c q hq e (by simpa using hd); simp [this])
    exact ⟨by omega, fun _ => this⟩
  · have hz : ∀ q, q < P.nh → decide (r < (rn P m).done q) = false := fun q hq => by have h9 : (rn P m).done q ≤ R := (H.bi.adds_of hq).2.2.1; exact decide_eq_false (by omega)
    have h0 : cnt (fun h => decide (r < (rn P m).done h) && ((rn P m).ans h r).ok) P.nh = 0 := cnt_none fun i hi => by simp only [hz i hi]; rfl
    have h0' : cnt (fun h => decide (r < (rn P m).done h)) P.nh = 0 := cnt_none fun i hi => hz i hi
    exact ⟨by omega, fun h => by omega⟩
theorem tells (hn : P.n = 2) (h1 : 1 ≤ P.nh) (h8 : P.nh ≤ 8) (hj : ∀ h, h < P.nh → P.jn h ≤ 256) (m : Nat) {h r : Nat} (hh : h < P.nh) (hr : r < (rn P m).done h) : ((rn P m).ans h r).val = r := by
  obtain ⟨R, H⟩ := run_i P hn h1 h8 hj m
  exact H.val h hh r hr
end Bell
end Go.Proofs.Ytbjlpmahomjgjaa

namespace Go.Proofs.Ytbjlpmahomjgjaa
open Go.RowKit
namespace Bell
open KV

theorem up_wrap' {k : Nat} (h : (k : Int) ≤ 9223372036854775805) : wrap64 ((k : Int) + 1) = ((k + 1 : Nat) : Int) := by unfold wrap64; omega
theorem meas_up' {k n : Nat} (h : k < n) : n - (intOf (.int .i64 ((k + 1 : Nat) : Int))).toNat < n - (intOf (.int .i64 (k : Int))).toNat := by
  show n - ((k + 1 : Nat) : Int).toNat < n - (k : Int).toNat
  omega
def rj : Jb := ⟨1, 0, 0, 0, 0⟩
/-- Behind h hands: the row of lists F, each of them there. -/
structure RI (n k g h : Nat) (F : Nat → Value) (w : World) : Prop where
  row : w.rowIs g 43 n F
  old : ∀ q, q < h → ∃ ao cp, F q = .slice ao k cp ∧ SeesJ w w.heap.size ao k (fun _ => rj) ∧ ∀ ad, ao = some ad → ad.block ≠ g
  new : ∀ q, h ≤ q → F q = .slice none 0 0

theorem RI.keep {n k g h : Nat} {F : Nat → Value} {w w' : World} {v : Value} (H : RI n k g h F w) (hh : h < n) (hr : w'.rowIs g 43 n (fun j => if j = h then v else F j)) (ht : Touch w w' (fun q => q = g)) {ao : Option Addr} {cp : Nat} (hv : v = .slice ao k cp) (hs : SeesJ w' w'.heap.size ao k (fun _ => rj)) (hg : ∀ ad, ao = some ad → ad.block ≠ g) :
    RI n k g (h + 1) (fun j => if j = h then v else F j) w' := by
  refine ⟨hr, fun q hq => ?_, fun q hq => ?_⟩
  · by_cases e : q = h
    · subst e
      exact ⟨ao, cp, by rw [if_pos rfl]; exact hv, hs, hg⟩
    · obtain ⟨ao', cp', e1, e2, e3⟩ := H.old q (by omega)
      refine ⟨ao', cp', by rw [if_neg e]; exact e1, fun i hi => ?_, e3⟩
      obtain ⟨b, off, eb, hb, hc⟩ := e2 i hi
      have hne : ¬ b = g := fun e' => e3 _ eb e'
      exact ⟨b, off, eb, Nat.lt_of_lt_of_le hb ht.size, fun x hx => (World.cell?_of_block (a := ⟨b, off + i * 5 + x, none⟩) (ht.block b hb hne)).trans (hc x hx)⟩
  · rw [if_neg (by omega)]
    exact H.new q (by omega)

theorem RI.sees {n k g : Nat} {F : Nat → Value} {w : World} (H : RI n k g n F w) : SeesH w w.heap.size (some ⟨g, 0, none⟩) n (fun _ => k) (fun _ _ => rj) := fun q hq => by
  obtain ⟨ao, cp, e, hs, _⟩ := H.old q hq
  refine ⟨g, 0, ao, cp, rfl, H.row.lt, ?_, hs⟩
  rw [Nat.zero_add, H.row.cell (i := q) hq, e]

/-- A list of one's own of k Rings. -/
theorem sees_own {w : World} {B k : Nat} {v : Value} (h : w.ownsRow B 45 5 v k (jobCells (fun _ => rj) k)) : ∃ ao cp, v = .slice ao k cp ∧ SeesJ w w.heap.size ao k (fun _ => rj) ∧ ∀ ad, ao = some ad → B ≤ ad.block := by
  rcases Nat.eq_zero_or_pos k with e | e
  · subst e
    obtain ⟨_, hv | ⟨g, cap, cur, rfl, hb, _⟩⟩ := h
    · exact ⟨none, 0, hv.1, fun i hi => absurd hi (Nat.not_lt_zero i), fun ad h => by cases h⟩
    · exact ⟨_, cap, rfl, fun i hi => absurd hi (Nat.not_lt_zero i), fun ad h => by cases h; exact hb⟩
  · obtain ⟨g, cap, F, rfl, hb, hr, hp, hc, _⟩ := row_of_owns h e
    refine ⟨_, cap, rfl, fun i hi => ⟨g, 0, rfl, hr.lt, fun q hq => ?_⟩, fun ad h => by cases h; exact hb⟩
    rw [Nat.zero_add, hr.cell (i := i * 5 + q) (by omega)]
    exact congrArg some (hp _ _ (jobCells_get (fun _ => rj) k i q hi hq))

set_option maxHeartbeats 8000000 in
theorem rings_any (w : World) (n k : Nat) (h1 : 1 ≤ n) (h8 : n ≤ 8) (hk : k ≤ 20) : Calls Try.prog 28 #[.int .i64 (n : Int), .int .i64 (k : Int)] w fun e w' => ∃ g, e = .returned (.slice (some ⟨g, 0, none⟩) n n) ∧ SeesH w' w'.heap.size (some ⟨g, 0, none⟩) n (fun _ => k) (fun _ _ => rj) ∧ Below w.heap.size w w' := by
  obtain ⟨iJ, hiJ, hzJ, hsJ, hyJ⟩ := KV.infoJ
  have hmk := run_make_z (P := Try.prog) 25 43 _ 1 24 Try.underlying25 infoS n (by omega) (by omega)
  simp only [Nat.mul_one] at hmk
  obtain ⟨W0, hW0⟩ : ∃ W0, w.alloc (.cells (madeCells #[.slice none 0 0] n) 43) = W0 := ⟨_, rfl⟩
  obtain ⟨g, hg⟩ : ∃ g, w.heap.size = g := ⟨_, rfl⟩
  have I0 := hide (show RI n k g 0 (fun _ => .slice none 0 0) W0 from ⟨by rw [← hW0, ← hg]; exact World.rowIs_made w _ n _, fun q hq => absurd hq (Nat.not_lt_zero q), fun _ _ => rfl⟩)
  have B0 := hide (show Below g w W0 from by rw [← hW0, ← hg]; exact (Below.refl _ w).alloc (Nat.le_refl _) _)
  have NB := hide (And.intro h1 (And.intro h8 hk))
  clear h1 h8 hk
  go_enter Try.func28, Try.ntmps28
  go_wp2_with fail
  clear hmk hW0
  go_loopw [6] (fun i wy => ∃ h F, h ≤ n ∧ i = .int .i64 ((h : Nat) : Int) ∧ RI n k g h F wy ∧ Below g w wy) (fun i _ => n - (intOf i).toNat)
  case atStart => exact ⟨0, _, Nat.zero_le _, rfl, I0.out, B0.out⟩
  case round =>
    obtain ⟨h, F, hh, rfl, I1, B1⟩ := hrel
    clear I0 B0
    have HI := hide I1
    have HB := hide B1
    by_cases hlt : h < n
    · have hlt' : (h : Int) < n := by omega
      obtain ⟨wA, hwA⟩ : ∃ x, x = wr := ⟨_, rfl⟩
      subst hwA
      have HGK3 := hide (And.intro (up_wrap' (k := h) (by have := NB.out; omega)) (meas_up' hlt))
      have lg := I1.row.lt
      clear I1 B1 hh
      go_wp2_with fail
      go_loopw [7] (fun i wy => ∃ j v, j ≤ k ∧ i = .int .i64 ((j : Nat) : Int) ∧ wy.ownsRow wA.heap.size 45 5 v j (jobCells (fun _ => rj) j) ∧ wy.rowIs g 43 n (fun q => if q = h then v else F q) ∧ Touch wA wy (fun q => q = g)) (fun i _ => k - (intOf i).toNat)
      case atStart =>
        refine ⟨0, .slice none 0 0, Nat.zero_le _, rfl, World.ownsRow_nil _ _ _ _, ?_, Touch.refl _ _⟩
        refine World.rowIs.congr HI.out.row (fun i hi => ?_)
        by_cases e : i = h
        · subst e; rw [if_pos rfl]; exact HI.out.new i (Nat.le_refl _)
        · rw [if_neg e]
      case round =>
        obtain ⟨j, v, hj, rfl, OW, RW, TW⟩ := hrel
        have HO := hide OW
        have HRW := hide RW
        have HT := hide TW
        have lr := TW.size
        by_cases hlt2 : j < k
        · have hlt3 : (j : Int) < k := by omega
          have HGK := hide (And.intro (up_wrap' (k := j) (by have := NB.out; omega)) (meas_up' hlt2))
          have cg : wr.cell? ⟨g, h, none⟩ = some v := by have := RW.cell (i := h) hlt; rwa [if_pos rfl] at this
          have lgr : g < wr.heap.size := by omega
          clear OW RW TW hj
          go_wp2_with (at_builtin
                       refine wpList_append_opt rfl (.tmp 25) (.tmp 27) 43 rfl wA.heap.size 45 iJ (.agg #[.int .i64 0, .int .i64 0, .int .i64 0, .int .i64 0, .int .u64 0]) 5 40 Try.underlying43 hiJ hzJ hsJ hyJ rfl (by decide) v j (jobCells (fun _ => rj) j) rfl (HO.out.alloc _) (some ⟨wr.heap.size, 0, none⟩) 1 1 [.int .i64 1, .int .i64 0, .int .i64 0, .int .i64 0, .int .u64 0] rfl (fun h => by cases h) rfl (fun ad had q u hu => by cases had; rw [Go.WideShapes.add_plain]; match q, hu with | 0, hu => injection hu with hu; subst hu; simp | 1, hu => injection hu with hu; subst hu; simp | 2, hu => injection hu with hu; subst hu; simp | 3, hu => injection hu with hu; subst hu; simp | 4, hu => injection hu with hu; subst hu; simp) (by simp [Value.oneCell']) (by have := NB.out; unfold maxLen; omega) (by have := NB.out; omega) (by simp; omega) ?_
                       intro v1 w1 hown hgrow _
                       have TT := hide (show Touch wA w1 (fun q => q = g) from HT.out.trans' (Touch.trans' (S := fun q => some q = v.ownBlock) ((Touch.refl wr _).alloc _) (Touch.of_grown hgrow) (fun k _ h => h.symm ▸ rfl)) (fun q hq hS => by have := (HO.out.lt q hS.symm).1; omega))
                       have RG1 := hide (show w1.rowIs g 43 n (fun q => if q = h then v else F q) from (HRW.out.alloc _).of_block (hgrow.block g (by simp; omega) (fun e => by have := (HO.out.lt g e.symm).1; omega)))
                       have c1 : w1.cell? ⟨g, h, none⟩ = some v := (by have := RG1.out.cell (i := h) hlt; rwa [if_pos rfl] at this)
                       have f1 := RG1.out.frozen h
                       have lg1 := RG1.out.lt
                       have HO1 := hide (show w1.ownsRow wA.heap.size 45 5 v1 (j + 1) (jobCells (fun _ => rj) (j + 1)) from hown)
                       obtain ⟨b1, cp1, F1, rfl, -, -, -, -, -⟩ := row_of_owns hown (by omega)
                       clear hown hgrow cg)
          go_roundw
          case rel =>
            refine ⟨j + 1, .slice (some ⟨b1, 0, none⟩) (j + 1) cp1, hlt2, congrArg (Value.int .i64) HGK.out.1, ?_, ?_, ?_⟩
            · exact ownsRow_setCell_below HO1.out (a := ⟨g, h, none⟩) lg _
            · refine World.rowIs.congr (RG1.out.set h _) (fun i hi => ?_)
              by_cases e : i = h
              · subst e; simp
              · simp [e]
            · exact Touch.setCell TT.out ⟨g, h, none⟩ (.inl rfl) _
          case measure => rw [HGK.out.1]; exact HGK.out.2
        · have hlt3 : ¬ (j : Int) < k := by omega
          obtain rfl : k = j := by omega
          obtain ⟨ao, cp, ev, hs, hb⟩ := sees_own OW
          have HK := hide (HI.out.keep hlt RW TW ev hs (fun ad e => by have := hb ad e; omega))
          clear OW RW TW hs hb
          go_wp2_with fail
          go_roundw
          case rel =>
            refine ⟨h + 1, _, hlt, congrArg (Value.int .i64) HGK3.out.1, HK.out, ?_⟩
            exact HB.out.trans (HT.out.below (fun q hq => by omega) (by omega))
          case measure => rw [HGK3.out.1]; exact HGK3.out.2
    · have hlt' : ¬ (h : Int) < n := by omega
      obtain rfl : n = h := by omega
      clear I1 B1
      go_wp2_with fail
      go_ret
      exact ⟨g, rfl, HI.out.sees, by first | exact HB.out | (rw [hg]; exact HB.out)⟩
end Bell
end Go.Proofs.Ytbjlpmahomjgjaa

namespace Go.Proofs.Ytbjlpmahomjgjaa
open Go.RowKit
namespace Bell

/-- n hands with k Rings each. -/
def PB (n k ns : Nat) (sched : Nat → Int) : Par := ⟨2, n, fun _ => k, fun _ _ => rj, ns, sched⟩

theorem play_rings {w : World} {n k ns gw gh caps : Nat} {aos : Option Addr} {sched : Nat → Int} {mm : Int} (h1 : 1 ≤ n) (h8 : n ≤ 8) (hk : k ≤ 20) (hs : ns ≤ 20000) (hm : 0 ≤ mm ∧ mm ≤ 65536)
    (SW : w.rowIs gw 42 2 (fun _ => .int .u64 0)) (SH : SeesH w w.heap.size (some ⟨gh, 0, none⟩) n (fun _ => k) (fun _ _ => rj)) (SI : SeesI w w.heap.size aos ns sched) :
    Calls Try.prog 11 #[(⟨0, 0, 0, 0, 0, n⟩ : Shp).val, .slice (some ⟨gw, 0, none⟩) 2 2, .slice (some ⟨gh, 0, none⟩) n n, .slice aos ns caps, .int .i64 mm] w fun e w' => Below w.heap.size w w' ∧ ∃ sa sc wa aa,
      e = .returned (.tuple #[.agg #[.slice sa (rn (PB n k ns sched) mm.toNat).k sc, .slice wa 2 2, .bool (decide (cnt ((rn (PB n k ns sched) mm.toNat).going (PB n k ns sched)) n = 0))], .slice aa n n, .int .i64 0]) ∧
      SeesS w' w'.heap.size sa (rn (PB n k ns sched) mm.toNat).k (rn (PB n k ns sched) mm.toNat).s ∧ SeesA w' w'.heap.size aa n (rn (PB n k ns sched) mm.toNat).done (rn (PB n k ns sched) mm.toNat).ans := by
  refine (play_all (sh := ⟨0, 0, 0, 0, 0, n⟩) (P := PB n k ns sched) (f := fun _ => 0) (most := mm) (want := 2) (by show (1 : Int) ≤ n; omega) (by show (n : Int) ≤ 8; omega) rfl ?_ (fun i _ => by constructor <;> decide) SH (by show n ≤ _; omega) SI (fun h _ j _ => ?_)).mono ?_
  · intro j hj
    have hj' : j < 2 := hj
    refine ⟨gw, 0, rfl, SW.lt, ?_⟩
    have := SW.cell (i := j) hj'
    simpa using this
  · exact ⟨by show (0 : Int) ≤ 0; decide, by show (0 : Int) ≤ 18446744073709551615; decide⟩
  · rintro e w' ⟨hb, hcase⟩
    refine ⟨hb, ?_⟩
    rcases hcase with ⟨er, hle, rfl⟩ | ⟨_, hF, hok, v, rfl, blk, c, g', sv, rfl, H, G, GS, R, hg, hne⟩
    · refine absurd ⟨?_, ?_⟩ (show ¬ (Fine (PB n k ns sched) mm ∧ AllOk (kBell n) (PB n k ns sched)) from by rcases hle with ⟨h, _⟩ | ⟨_, h⟩; exact absurd rfl h; exact h.not)
      · refine ⟨by show 2 ≤ 4096; omega, ?_, by show ns ≤ 65536; omega, hm.1, hm.2⟩
        rintro (h | ⟨h, hh, h2⟩)
        · have : 8 < n := h
          omega
        · have : 256 < k := h2
          omega
      · intro h hh j hj
        rfl
    · obtain ⟨sa, sc, rfl⟩ := GS.isSlice'
      exact ⟨sa, sc, some ⟨g', 0, none⟩, some ⟨blk .answers, 0, none⟩, rfl, GS.seesS H, seesA_of G.answers H⟩
end Bell
end Go.Proofs.Ytbjlpmahomjgjaa
