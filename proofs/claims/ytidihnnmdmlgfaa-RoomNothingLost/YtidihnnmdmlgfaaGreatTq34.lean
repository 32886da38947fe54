/-
  Lemmas: RoomN.
-/
import Derived.Test.YtidihnnmdmlgfaaGreatTq32
import Derived.Test.YtidihnnmdmlgfaaGreatTq33
import Derived.Test.YtidihnnmdmlgfaaGreatTq12
import Derived.Test.YtidihnnmdmlgfaaGreatTq23
namespace Go.Proofs.YtidihnnmdmlgfaaGreat
set_option maxHeartbeats 8000000
open Go.RowKit
set_option linter.unusedVariables false
set_option linter.unusedSimpArgs false
set_option maxRecDepth 20000
section
namespace Rom
open Hp
def base0 (sh : Shp) : Int := 8 + sh.c + sh.c * sh.d + sh.e
def all0 (sh : Shp) : Int := base0 sh + sh.a * (3 + sh.b)
def At (sh : Shp) (p : Int) : Prop := p = 1 ∨ p = 4 ∨ p = 5 ∨ (base0 sh ≤ p ∧ p < all0 sh)
theorem in_obj {sh : Shp} (h5 : Shape.R5 sh.a sh.b sh.c sh.d sh.e) {i k : Int} (ht : there sh i) (hk : 0 ≤ k ∧ k < 3 + sh.b) : base0 sh ≤ base0 sh + (i - 1) * (3 + sh.b) + k ∧ base0 sh + (i - 1) * (3 + sh.b) + k < all0 sh := by
  obtain ⟨⟨a1, a2⟩, ⟨b1, b2⟩, _⟩ := h5
  obtain ⟨h1, h2⟩ := ht
  have p1 : 0 ≤ (i - 1) * (3 + sh.b) := Int.mul_nonneg (by omega) (by omega)
  have p2 : (i - 1) * (3 + sh.b) ≤ (sh.a - 1) * (3 + sh.b) := Int.mul_le_mul_of_nonneg_right (by omega) (by omega)
  have p3 : (sh.a - 1) * (3 + sh.b) = sh.a * (3 + sh.b) - (3 + sh.b) := by rw [Int.sub_mul, Int.one_mul]
  unfold all0
  omega
def OkT (sh : Shp) (x : Stp) : Prop := At sh x.at_ ∧ (x.at_ = 1 → x.act = 5 → x.ok = true → x.put / 4294967296 = (x.had / 4294967296 + 1) % 4294967296)
theorem err_there {sh : Shp} {h : Int} {j : Jb} (he : rerr false sh h j = 0) (hk : ¬ j.kind = 1) : there sh j.a := by
  simp only [rerr, if_neg (show ¬ false = true by decide), if_neg hk] at he
  by_cases h2 : j.kind = 2
  · rw [if_pos h2] at he
    by_cases ht : there sh j.a
    · exact ht
    · rw [if_neg ht] at he
      cases he
  · rw [if_neg h2] at he
    cases he
def wfSt (sh : Shp) (P : Par) (st : St (kRom false sh)) : Prop := (∀ i, i < P.n → 0 ≤ st.f i ∧ st.f i ≤ 18446744073709551615) ∧ ∀ h, h < P.nh → st.done h < P.jn h → (st.cur h).j = P.jb h (st.done h) ∧ Wf sh (st.cur h)
theorem words_bd {n : Nat} {f : Nat → Int} (hf : ∀ i, i < n → 0 ≤ f i ∧ f i ≤ 18446744073709551615) {s : Stp} (hs : 0 ≤ s.put ∧ s.put ≤ 18446744073709551615) : ∀ i, i < n → 0 ≤ wordsOf n f s i ∧ wordsOf n f s i ≤ 18446744073709551615 := by
  intro i hi
  unfold wordsOf
  split
  · rename_i h
    unfold putF
    split
    · unfold stepOf
      rw [if_pos h]
      exact putBy_bounds (hf _ (by omega)) hs
    · exact hf i hi
  · exact hf i hi
theorem wf_run {sh : Shp} (h5 : Shape.R5 sh.a sh.b sh.c sh.d sh.e) {P : Par} {f : Nat → Int} (hf : ∀ i, i < P.n → 0 ≤ f i ∧ f i ≤ 18446744073709551615) (hjw : ∀ h, h < P.nh → ∀ j, j < P.jn h → (P.jb h j).wf) (hok : AllOk (kRom false sh) P) : ∀ m, wfSt sh P (runSt P (st0 (kRom false sh) P f) m) := by
  have ini : ∀ h, h < P.nh → ∀ j, j < P.jn h → Wf sh (rinit sh h (P.jb h j)) := fun h hh j hj => wf_init sh h (hjw h hh j hj) (err_ab (any := false) (h := h) h5.1.2 (hok h hh j hj))
  intro m
  induction m with
  | zero => exact ⟨hf, fun h hh hd => ⟨rfl, ini h hh 0 hd⟩⟩
  | succ m ih =>
    rcases run_succ_cases P (st0 (kRom false sh) P f) rfl m with ⟨e, _⟩ | ⟨h, e1, e2, e3, _, e⟩
    · rw [e]; exact ih
    · rw [e]
      generalize runSt P (st0 (kRom false sh) P f) m = st at ih e3 ⊢
      obtain ⟨i1, i2⟩ := ih
      obtain ⟨hj, hw⟩ := i2 h e2 e3
      refine ⟨words_bd i1 (rreq_put hw), fun h' hh' hd' => ?_⟩
      by_cases hx : h' = h
      · subst hx
        cases hen : rends sh (st.cur h') (stepOf P.n st.f (rreq sh (st.cur h'))) with
        | true =>
          have d1 : (stepSt P st h').done h' = st.done h' + 1 := by simp [stepSt, kRom, hen, upd]
          have c1 : (stepSt P st h').cur h' = rinit sh h' (P.jb h' (st.done h' + 1)) := by simp [stepSt, kRom, hen, upd]
          rw [d1] at hd'
          rw [d1, c1]
          exact ⟨rfl, ini h' hh' _ hd'⟩
        | false =>
          have d1 : (stepSt P st h').done h' = st.done h' := by simp [stepSt, kRom, hen]
          have c1 : (stepSt P st h').cur h' = rnext sh (st.cur h') (stepOf P.n st.f (rreq sh (st.cur h'))) := by simp [stepSt, kRom, hen, upd]
          rw [d1, c1]
          exact ⟨(rnext_j _ _ _).trans hj, rnext_wf h5.2.1 hw (had_bounds i1 _) (by rw [hen]; decide)⟩
      · have d1 : (stepSt P st h).done h' = st.done h' := by
          simp only [stepSt]
          split
          · exact upd_other _ _ hx
          · rfl
        have c1 : (stepSt P st h).cur h' = st.cur h' := by simp only [stepSt]; exact upd_other _ _ hx
        rw [d1] at hd'
        rw [d1, c1]
        exact i2 h' hh' hd'
end Rom
end
end Go.Proofs.YtidihnnmdmlgfaaGreat
