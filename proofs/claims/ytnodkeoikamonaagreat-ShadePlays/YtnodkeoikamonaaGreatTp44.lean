/-
  Lemmas: L16Nums.
-/
import Derived.Test.YtnodkeoikamonaaGreatTp05
import Derived.Test.YtnodkeoikamonaaGreatTp43
import Derived.Test.YtnodkeoikamonaaGreatTp08
/-
  A schedule in new memory with a marked number behind it.
-/
namespace Go.Proofs.YtnodkeoikamonaaGreat
open Go.RowKit
set_option linter.unusedVariables false
set_option linter.unusedSimpArgs false
set_option linter.unnecessarySimpa false
set_option maxRecDepth 20000
namespace L16
variable {w : World} {ao : Option Addr} {cap n : Nat} {s : Nat → Int}
def numCells (n : Nat) (s : Nat → Int) : List Value := (List.range n).map (fun i => Value.int .i64 (s i))
theorem numCells_one (n : Nat) (s : Nat → Int) : ∀ u ∈ numCells n s, u.oneCell' = true := by
  intro u hu
  simp only [numCells, List.mem_map] at hu
  obtain ⟨i, _, rfl⟩ := hu
  rfl
def markI (n : Nat) (s : Nat → Int) : Nat → Int := fun i => if i < n then s i else -777
theorem markI_cells (n : Nat) (s : Nat → Int) : numCells n s ++ [.int .i64 (-777)] = numCells (n + 1) (markI n s) := by
  apply List.ext_getElem?
  intro i
  by_cases hi : i < n
  · rw [List.getElem?_append_left (by simpa [numCells] using hi)]
    have h2 : i < n + 1 := by omega
    simp [numCells, hi, h2, markI]
  · rw [List.getElem?_append_right (by simp [numCells]; omega)]
    by_cases he : i = n
    · subst he; simp [numCells, markI]
    · have h2 : ¬ i < n + 1 := by omega
      have h3 : ¬ i - n = 0 := by omega
      simp [numCells, h2, h3]
theorem info3e : ∃ i, Tryz.prog.info? 3 = some i ∧ i.zero = some (.int .i64 0) ∧ i.size = 1 ∧ i.bytes = 8 := by
  have h : (Tryz.prog.info? 3).map (fun i => (i.zero, i.size, i.bytes)) = some (some (.int .i64 0), 1, 8) := by kernel_rfl
  obtain ⟨i, h1, h2⟩ := Option.map_eq_some_iff.1 h
  injection h2 with h2 h3
  injection h3 with h3 h4
  exact ⟨i, h1, h2, h3, h4⟩
theorem _root_.Go.Proofs.YtnodkeoikamonaaGreat.SeesI.news {B : Nat} (h : SeesI w B ao n s) : ∀ ad, ao = some ad → ∀ j u, (numCells n s)[j]? = some u → w.cell? (ad.add j) = some u := by
  intro ad hao j u hu
  have hj : j < n := by have := (List.getElem?_eq_some_iff.1 hu).1; simpa [numCells] using this
  obtain ⟨b, off, he, hbl, hcc⟩ := h j hj
  rw [hao] at he
  cases he
  have : u = .int .i64 (s j) := by simp [numCells, hj] at hu; exact hu.symm
  subst this
  rw [Go.WideShapes.add_plain]
  exact hcc
theorem _root_.Go.Proofs.YtnodkeoikamonaaGreat.SeesI.alloc (h : SeesI w w.heap.size ao n s) (o : Obj) : SeesI (w.alloc o) w.heap.size ao n s := h.below ((Below.refl _ w).alloc (Nat.le_refl _) o) (Nat.le_refl _)
theorem owned_some {base n size : Nat} {e : TypeId} {v : Value} {xs : List Value} (h : w.ownsRow base e size v n xs) (hv : ¬ v = .slice none 0 0) : ∃ g cap, v = .slice (some ⟨g, 0, none⟩) n cap ∧ base ≤ g ∧ n ≤ cap := by
  obtain ⟨hl, ⟨rfl, _⟩ | ⟨g, cap, cur, rfl, hb, hg, hc, hm, hsz, ht⟩⟩ := h
  · exact absurd rfl hv
  · exact ⟨g, cap, rfl, hb, hc⟩
theorem seesI_of {base n g cap : Nat} (h : w.ownsRow base 3 1 (.slice (some ⟨g, 0, none⟩) n cap) n (numCells n s)) : SeesI w w.heap.size (some ⟨g, 0, none⟩) n s := fun j hj => by
  refine ⟨g, 0, rfl, (h.lt g rfl).2, ?_⟩
  rw [Nat.zero_add, h.cellAt j (by omega)]
  simp [numCells, hj]
set_option maxHeartbeats 4000000 in
theorem numbers_any (S : SeesI w w.heap.size ao n s) (hnil : ao = none → n = 0 ∧ cap = 0) (hb : (n + 1) * 8 ≤ 140737488355328) :
    Calls Tryz.prog 9 #[.slice ao n cap] w fun e w' => ∃ g c, e = .returned (.slice (some ⟨g, 0, none⟩) n c) ∧ n < c ∧ SeesI w' w'.heap.size (some ⟨g, 0, none⟩) (n + 1) (markI n s) ∧ w.heap.size ≤ g ∧ Below w.heap.size w w' := by
  have HS := hide S
  have HN := hide hnil
  clear S hnil
  obtain ⟨i3, hi3, hz3, hs3, hy3⟩ := info3e
  have hlen : (n : Int) ≤ 9223372036854775807 := by omega
  go_enter Tryz.func9, Tryz.ntmps9
  go_wp2_with (first
    | (at_builtin; refine wpList_append_opt rfl (.tmp 3) (.tmp 4) 26 rfl w.heap.size 3 i3 (.int .i64 0) 1 8 Tryz.underlying26 hi3 hz3 hs3 hy3 rfl (by decide) (.slice (some ⟨w.heap.size, 0, none⟩) 0 0) 0 [] rfl (by have := World.ownsRow_lit (base := w.heap.size) (e := 3) (size := 1) w #[] 0 (by simp) (by unfold maxLen; omega) rfl; simpa using this) ao n cap (numCells n s) rfl HN.out (by simp [numCells]) (SeesI.news (HS.out.alloc _)) (numCells_one n s) (by unfold maxLen; omega) (by omega) (by simp) ?_; intro v4 w4 hown4 hgrow4 hnn; rw [Nat.zero_add, List.nil_append] at hown4; obtain ⟨g4, c4, rfl, hg4, _⟩ := owned_some hown4 (fun he => by have := hnn he; cases this); have B4 := hide (show Below w.heap.size w w4 from ((Below.refl _ w).alloc (Nat.le_refl _) (.cells #[] 3)).grown hgrow4 (by simp) (by simp [Value.ownBlock])); have O4 := hide hown4; clear hown4 hgrow4 hnn)
    | (at_builtin; refine wpList_append_opt rfl (.tmp 5) (.tmp 6) 26 rfl w.heap.size 3 i3 (.int .i64 0) 1 8 Tryz.underlying26 hi3 hz3 hs3 hy3 rfl (by decide) (.slice (some ⟨g4, 0, none⟩) n c4) n (numCells n s) rfl (O4.out.alloc _) (some ⟨w4.heap.size, 0, none⟩) 1 1 [.int .i64 (-777)] rfl (fun h => by cases h) rfl (fun ad had q u hu => by cases had; match q, hu with | 0, hu => injection hu with hu; subst hu; first | (rw [Go.WideShapes.add_plain]; simp) | rfl) (by simp [Value.oneCell']) (by unfold maxLen; omega) (by omega) (by have := B4.out.size; simp; omega) ?_; intro v5 w5 hown5 hgrow5 hnn5; rw [markI_cells] at hown5; obtain ⟨g5, c5, rfl, hg5, hc5⟩ := owned_some hown5 (fun he => by have := hnn5 he; cases this); have R5 := hide (seesI_of hown5); have B5 := hide (show Below w.heap.size w w5 from B4.out.trans ((((Below.refl _ w4).alloc (Nat.le_refl _) _).mono B4.out.size).trans (grown_below (r := g4) (by simpa [Value.ownBlock] using hgrow5) (by have := B4.out.size; simp; omega) hg4))); clear hown5 hgrow5 hnn5))
  go_ret
  exact ⟨g5, c5, rfl, hc5, R5.out, hg5, B5.out⟩
end L16
end Go.Proofs.YtnodkeoikamonaaGreat
