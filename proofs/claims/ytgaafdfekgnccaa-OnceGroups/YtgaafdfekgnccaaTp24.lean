/-
  Lemmas: OgG, OnceD.
-/
import Derived.Test.YtgaafdfekgnccaaTp23
import Derived.Test.YtgaafdfekgnccaaTp07
import Derived.Test.YtgaafdfekgnccaaTp05
/-
  A new group; the law's numbers and keys as they come in.
-/
namespace Go.Proofs.Ytgaafdfekgnccaa
namespace Og
open Go.ChangeShapes Go.WideShapes Go.ChangeAt Go.RowKit Go.Deep
set_option linter.unusedVariables false
set_option linter.unusedSimpArgs false
set_option maxRecDepth 100000

theorem info_once : (Try.prog.info? 68).map (fun i => (i.zero.map Value.cells, i.size, i.bytes)) = some (some #[.int .u32 0, .int .i32 0, .int .u32 0], 3, 12) := by kernel_rfl

/-- What NewGroup makes. -/
def grouped (w : World) (n : Nat) : World :=
  (w.alloc (.cells (madeCells #[.int .u32 0, .int .i32 0, .int .u32 0] (n * 3)) 68)).alloc (.cells #[.slice (some ⟨w.heap.size, 0, none⟩) n n] 56)

theorem group_bad (w : World) (keys : Int) (hk : keys < 1 ∨ 64 < keys) :
    Calls Try.prog 7 #[.int .i64 keys] w fun e w' => e = .returned (.tuple #[.pointer none, .int .i64 2]) ∧ w' = w := by
  by_cases h1 : keys < 1
  · go_enter Try.func7, Try.ntmps7
    go_wp2
    refine bodyPost_ret (v := .tuple #[.pointer none, .int .i64 2]) (by simp [results, Try.results7, go_sem]) rfl ⟨rfl, rfl⟩
  · have h2 : 64 < keys := by omega
    go_enter Try.func7, Try.ntmps7
    go_wp2
    refine bodyPost_ret (v := .tuple #[.pointer none, .int .i64 2]) (by simp [results, Try.results7, go_sem]) rfl ⟨rfl, rfl⟩

theorem group_good (w : World) (n : Nat) (h1 : 1 ≤ n) (h2 : n ≤ 64) :
    Calls Try.prog 7 #[.int .i64 n] w fun e w' => e = .returned (.tuple #[.pointer (some ⟨w.heap.size + 1, 0, none⟩), .int .i64 0]) ∧ w' = grouped w n := by
  have hmk := run_make_z (P := Try.prog) 54 68 _ 3 12 Try.underlying54 info_once n (by omega) (by omega)
  have h3 : ¬ ((n : Int) < 1) := by omega
  have h4 : ¬ ((n : Int) > 64) := by omega
  go_enter Try.func7, Try.ntmps7
  go_wp2
  refine bodyPost_ret (v := .tuple #[.pointer (some ⟨w.heap.size + 1, 0, none⟩), .int .i64 0]) (by simp [results, Try.results7, go_sem]) rfl ⟨rfl, rfl⟩

theorem grouped_below (w : World) (n : Nat) : Below w.heap.size w (grouped w n) := by
  unfold grouped
  exact ((Below.refl _ w).alloc (Nat.le_refl _) _).alloc (by simp) _
theorem grouped_size (w : World) (n : Nat) : (grouped w n).heap.size = w.heap.size + 2 := by unfold grouped; simp
theorem grouped_keys (w : World) (n : Nat) : (grouped w n).rowIs w.heap.size 68 (n * 3) (Kf (fun _ => false)) := by
  unfold grouped
  refine ((rowIs_madeN w _ _ _).alloc _).congr (fun i hi => ?_)
  have h : i % 3 = 0 ∨ i % 3 = 1 ∨ i % 3 = 2 := by omega
  rcases h with h | h | h <;> simp [Kf, h]
theorem grouped_g (w : World) (n : Nat) : (grouped w n).cell? ⟨w.heap.size + 1, 0, none⟩ = some (.slice (some ⟨w.heap.size, 0, none⟩) n n) := by
  unfold grouped
  exact (rowIs_one _ _ _).cell' (by simp) (by simp)

/-- Lists of keys, as the law reads them. -/
def SeesC (w : World) (B : Nat) (ao : Option Addr) (n : Nat) (ln : Nat → Nat) (ks : Nat → Nat → Int) : Prop :=
  ∀ h, h < n → ∃ b off ao' c', ao = some ⟨b, off, none⟩ ∧ b < B ∧ w.cell? ⟨b, off + h, none⟩ = some (.slice ao' (ln h) c') ∧ SeesI w B ao' (ln h) (ks h) ∧ ln h ≤ maxLen

theorem nc_ints : Try.prog.cellsOf 31 = 1 := by kernel_rfl

section
variable {H : Type} {enc : TypeId × Value → H} {W : World} {base : Nat} {v : Value} {d : DataW H} {p : List MemPlace}

theorem open_inner {fuel : Nat} {cs : List Value} {x : DataW H × List MemPlace} (hl : cs.length = 1) (hf : DataW.trod enc Try.prog W 0 (fun _ => true) true fuel 31 cs = some x) :
    ∃ (ao : Option Addr) (n cap : Nat) (s : Nat → Int), cs = [.slice ao n cap] ∧ n ≤ maxLen ∧ SeesI W W.heap.size ao n s := by
  have lt8 : ∀ y ∈ x.2, y.block < W.heap.size := DataW.trod_lt fuel _ _ _ hf
  rcases open_ints Try.underlying31 Try.underlying3 ncells3 hf with ⟨hcs, hx⟩ | ⟨a, len, cap', zs, hcs, _, hlc, hm, hz, hx, hcell, hwz⟩
  · exact ⟨none, 0, 0, fun _ => 0, by simpa using hcs, Nat.zero_le _, fun j hj => absurd hj (Nat.not_lt_zero _)⟩
  · subst hx
    simp at hz
    refine ⟨some a, len, cap', fun i => zs.getD i 0, by simpa using hcs, by omega, fun j hj => ?_⟩
    obtain ⟨b, off, rfl, hc⟩ := ints_at hcell (by omega)
    refine ⟨b, off, rfl, ?_, hc j (by omega)⟩
    have := lt8 (MemPlace.cell b off) (by simp only [MemPlace.row]; exact List.mem_map.2 ⟨0, List.mem_range.2 (by omega), rfl⟩)
    exact this

theorem open_calls (hv : Value.okWide Try.prog W .any base 22 v) (h : DataW.Trod enc Try.prog W 0 (fun _ => true) true 22 v d p) :
    ∃ (ao : Option Addr) (n cap : Nat) (ln : Nat → Nat) (ks : Nat → Nat → Int), v = .slice ao n cap ∧ n ≤ maxLen ∧ SeesC W W.heap.size ao n ln ks := by
  obtain ⟨fuel, hf⟩ := h
  have lt8 : ∀ x ∈ p, x.block < W.heap.size := DataW.trod_lt fuel _ _ _ hf
  obtain ⟨ao, n, cap, rfl⟩ := okWide_slice Try.underlying22 hv
  rcases open_slice Try.underlying22 hf with ⟨hcs, hx⟩ | ⟨a, len, cap', m, fu, D, Pl, hcs, _, hlc, hm, hmm, hx, hel⟩
  · simp [Value.cells] at hcs
    obtain ⟨rfl, rfl, rfl⟩ := hcs
    exact ⟨none, 0, 0, fun _ => 0, fun _ _ => 0, rfl, Nat.zero_le _, fun j hj => absurd hj (Nat.not_lt_zero _)⟩
  · simp [Value.cells] at hcs hmm
    obtain ⟨rfl, rfl, rfl⟩ := hcs
    obtain ⟨rfl, rfl⟩ := Prod.mk.inj hx
    rw [nc_ints] at hel lt8
    have each : ∀ i, i < m → ∃ y : Nat × (Nat → Int), ∃ ao' c', W.cell? (a.add i) = some (.slice ao' y.1 c') ∧ SeesI W W.heap.size ao' y.1 y.2 ∧ y.1 ≤ maxLen := by
      intro i hi
      obtain ⟨cs', h1, h2⟩ := hel i hi
      obtain ⟨_, hlen, hcell⟩ := World.cells?_some h1
      obtain ⟨ao', n', c', s, rfl, hn', hj⟩ := open_inner hlen h2
      have e := hcell 0 (by simp)
      rw [add_add] at e
      exact ⟨(n', s), ao', c', by simpa using e, hj, hn'⟩
    obtain ⟨q, hq⟩ := choose_lt each
    refine ⟨some a, n, cap, fun i => (q i).1, fun i => (q i).2, rfl, by omega, fun j hj => ?_⟩
    obtain ⟨ao0, c0', e0, _⟩ := hq 0 (by omega)
    obtain ⟨ao', c', e, hs, hl⟩ := hq j (by omega)
    obtain ⟨b, off, spot⟩ := a
    have hspot : spot = none := by simpa [Addr.add] using World.cell?_spot e0
    subst hspot
    refine ⟨b, off, ao', c', rfl, ?_, ?_, hs, hl⟩
    · have := lt8 (MemPlace.cell b off) (List.mem_append_left _ (by simp only [MemPlace.row]; exact List.mem_map.2 ⟨0, List.mem_range.2 (by omega), rfl⟩))
      exact this
    · rw [Go.WideShapes.add_plain] at e
      exact e
end
end Og
end Go.Proofs.Ytgaafdfekgnccaa

/-
  The tasks of once as plain states: the act that comes next, what comes of it, when it ends.
-/
namespace Go.Proofs.Ytgaafdfekgnccaa
open Go.RowKit
set_option linter.unusedVariables false
set_option linter.unusedSimpArgs false
namespace Once

structure OnS where
  hand : Int
  j : Jb
  st : Int
  told : Ans

def oerr (room : Int) (j : Jb) : Int := if j.kind < 1 ∨ 3 < j.kind then 200 else if j.a < 0 ∨ room ≤ j.a then 2 else 0
def oreq (room : Int) (s : OnS) : Stp :=
  if s.j.kind = 3 then ⟨s.hand, 1, s.j.a, 0, 0, true⟩ else if s.st = 0 then ⟨s.hand, 5, s.j.a, 0, 1, true⟩ else if s.st = 1 then ⟨s.hand, 4, room + s.j.a, 0, 1, true⟩ else if s.st = 2 then ⟨s.hand, 2, s.j.a, 0, 2, true⟩ else ⟨s.hand, 1, s.j.a, 0, 0, true⟩
def oends (s : OnS) (x : Stp) : Bool := if s.j.kind = 3 then true else if s.st = 0 then false else if s.st = 1 then false else if s.st = 2 then true else x.had == 2
def onext (s : OnS) (x : Stp) : OnS :=
  if s.j.kind = 3 then { s with told := ⟨x.had == 2, x.had⟩ } else if s.st = 0 then { s with st := if x.ok = true then s.j.kind else 3 } else if s.st = 1 then { s with st := 2 } else if s.st = 2 then { s with told := ⟨s.j.kind == 1, 1⟩ }
  else if x.had = 2 then { s with told := ⟨true, 0⟩ } else s
end Once
end Go.Proofs.Ytgaafdfekgnccaa
