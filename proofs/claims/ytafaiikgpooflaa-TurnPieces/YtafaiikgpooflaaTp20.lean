/-
  Lemmas: WkK.
-/
import Derived.Test.YtafaiikgpooflaaTp10
import Derived.Test.YtafaiikgpooflaaTp19
import Derived.Deep.RegionHeld
/-
  turn's acts and the statement's walkers as kinds of tasks.
-/
namespace Go.Proofs.Ytafaiikgpooflaa
open Go.RowKit
set_option linter.unusedVariables false
set_option linter.unusedSimpArgs false
set_option maxRecDepth 20000
namespace AcK

structure ActS where
  hand : Int
  j : Jb
  told : Ans
def aerr (j : Jb) : Int := if j.kind < 1 ∨ 5 < j.kind then 200 else 0
def ainit (h : Int) (j : Jb) : ActS := ⟨h, j, ⟨false, 0⟩⟩
def areq (s : ActS) : Stp := ⟨s.hand, s.j.kind, s.j.a, s.j.b % 18446744073709551616, s.j.h, true⟩
def anext (s : ActS) (r : Stp) : ActS := ⟨s.hand, s.j, ⟨r.ok, r.had⟩⟩
def acell (s : ActS) (i : Nat) : Value := match i with | 0 => .int .i64 s.hand | 1 => .int .i64 s.j.kind | 2 => .int .i64 s.j.a | 3 => .int .i64 s.j.b | 4 => .int .i64 s.j.c | 5 => .int .u64 s.j.h | 6 => .bool s.told.ok | _ => .int .u64 s.told.val
def kAct : Kd where
  σ := ActS
  err _ j := aerr j
  init := ainit
  req := areq
  next := anext
  ends _ _ := true
  tell s := s.told
  tid _ := 117
  t _ := 119
  n _ := 8
  fs _ := 74
  fa _ := 73
  cell _ := acell
  wf _ s := s.j.wf

theorem make_act (w : World) (hand : Int) (j : Jb) (h : aerr j = 0) :
    Calls Try.prog 33 #[.func (.func 30) #[] #[], .int .i64 hand, j.val] w fun e w' => ∃ b, e = .returned (.tuple #[.iface 117 (.pointer (some ⟨b, 0, none⟩)), .int .i64 0]) ∧
      w'.rowIs b 119 8 (acell (ainit hand j)) ∧ w.heap.size ≤ b ∧ w.grownBy w' none := by
  obtain ⟨kind, a, b, c, hh⟩ := j
  have hk : 1 ≤ kind ∧ kind ≤ 5 := by simp only [aerr] at h; split at h; cases h; omega
  unfold Jb.val
  have hf := func_nil 30
  have hi := iface_nil 117
  go_enter Try.func33, Try.ntmps33
  go_wp2
  go_ret2
  refine ⟨w.heap.size + 2, rfl, ?_, by omega, grown_alloc (grown_alloc (grown_alloc (grown_refl _ _) _) _) _⟩
  have := rowIs_cells (w := (w.alloc (.cells #[.int .i64 kind, .int .i64 a, .int .i64 b, .int .i64 c, .int .u64 hh] 50)).alloc (.cells #[.int .i64 kind, .int .i64 a, .int .i64 b, .int .i64 c, .int .u64 hh] 50))
    #[.int .i64 hand, .int .i64 kind, .int .i64 a, .int .i64 b, .int .i64 c, .int .u64 hh, .bool false, .int .u64 0] 119 (acell (ainit hand ⟨kind, a, b, c, hh⟩)) 8 rfl (fun i hi => by
      match i, hi with
      | 0, _ | 1, _ | 2, _ | 3, _ | 4, _ | 5, _ | 6, _ | 7, _ => rfl)
  simpa using this

theorem make_act_err (w : World) (hand : Int) (j : Jb) (h : ¬ aerr j = 0) :
    Calls Try.prog 33 #[.func (.func 30) #[] #[], .int .i64 hand, j.val] w fun e w' => e = .returned (.tuple #[.nilIface, .int .i64 (aerr j)]) ∧ w.grownBy w' none := by
  obtain ⟨kind, a, b, c, hh⟩ := j
  have hk : kind < 1 ∨ 5 < kind := by simp only [aerr] at h; omega
  have he : aerr ⟨kind, a, b, c, hh⟩ = 200 := by simp only [aerr]; rw [if_pos hk]
  rw [he]
  unfold Jb.val
  have hf := func_nil 30
  rcases hk with hk | hk
  all_goals go_enter Try.func33, Try.ntmps33
  all_goals go_wp2
  all_goals go_ret2
  all_goals exact ⟨rfl, grown_alloc (grown_alloc (grown_refl _ _) _) _⟩

theorem act_answer {w : World} {b : Nat} {s : ActS} (h : w.rowIs b 119 8 (acell s)) :
    Calls Try.prog 73 #[.pointer (some ⟨b, 0, none⟩)] w fun e w' => e = .returned s.told.value ∧ w.grownBy w' none := by
  obtain ⟨hand, j, ⟨ok, val⟩⟩ := s
  have h6 : w.cell? ⟨b, 6, none⟩ = some (.bool ok) := h.cell (i := 6) (by omega)
  have h7 : w.cell? ⟨b, 7, none⟩ = some (.int .u64 val) := h.cell (i := 7) (by omega)
  have hl := h.lt
  go_enter Try.func73, Try.ntmps73
  go_wp2
  go_light
  refine bodyPost_ret (v := Ans.value ⟨ok, val⟩) ?_ rfl ⟨rfl, grown_alloc (grown_refl _ _) _⟩
  simp [results, Try.results73, go_sem, Ans.value]

theorem act_next_cell (s : ActS) (x : Stp) (i : Nat) (hi : i < 8) : (fun j => if j = 7 then Value.int .u64 x.had else (fun j => if j = 6 then Value.bool x.ok else acell s j) j) i = acell (anext s x) i := by
  match i, hi with
  | 0, _ | 1, _ | 2, _ | 3, _ | 4, _ | 5, _ | 6, _ | 7, _ => rfl

set_option maxHeartbeats 4000000 in
theorem act_step {w : World} {b bm bw n : Nat} {f : Nat → Int} {s : ActS} (h : w.rowIs b 119 8 (acell s)) (hm : IsMem w bm bw n f) (h1 : b ≠ bm) (h2 : b ≠ bw) (hw : s.j.wf) :
    Calls Try.prog 74 #[.pointer (some ⟨b, 0, none⟩), .pointer (some ⟨bm, 0, none⟩)] w fun e w' => e = .returned (.tuple #[(stepOf n f (areq s)).val, .int .i64 1]) ∧
      w'.rowIs b 119 8 (acell (anext s (stepOf n f (areq s)))) ∧ IsMem w' bm bw n (wordsOf n f (areq s)) ∧ Touch w w' (fun k => k = b ∨ k = bw) := by
  obtain ⟨hand, ⟨kind, a, bb, c, hh⟩, ⟨ok, val⟩⟩ := s
  have c0 : w.cell? ⟨b, 0, none⟩ = some (.int .i64 hand) := h.cell (i := 0) (by omega)
  have c1 : w.cell? ⟨b, 1, none⟩ = some (.int .i64 kind) := h.cell (i := 1) (by omega)
  have c2 : w.cell? ⟨b, 2, none⟩ = some (.int .i64 a) := h.cell (i := 2) (by omega)
  have c3 : w.cell? ⟨b, 3, none⟩ = some (.int .i64 bb) := h.cell (i := 3) (by omega)
  have c5 : w.cell? ⟨b, 5, none⟩ = some (.int .u64 hh) := h.cell (i := 5) (by omega)
  have hl := h.lt
  have hbb : IntKind.u64.wrap bb = bb % 18446744073709551616 := wrap_u64 bb
  have lw := hm.row.lt
  have lm := hm.head.lt
  have hn1 : w.heap.size + 1 ≠ b := by omega
  have M := hide hm
  have R := hide h
  have HW := hide hw
  clear hm h hw
  obtain ⟨x, hx⟩ : ∃ x, stepOf n f (areq ⟨hand, ⟨kind, a, bb, c, hh⟩, ⟨ok, val⟩⟩) = x := ⟨_, rfl⟩
  rw [hx]
  have HX : Hid (stepOf n f ⟨hand, kind, a, bb % 18446744073709551616, hh, true⟩ = x) := hx
  clear hx
  obtain ⟨f', hf'⟩ : ∃ f', wordsOf n f (areq ⟨hand, ⟨kind, a, bb, c, hh⟩, ⟨ok, val⟩⟩) = f' := ⟨_, rfl⟩
  rw [hf']
  have HF : Hid (wordsOf n f ⟨hand, kind, a, bb % 18446744073709551616, hh, true⟩ = f') := hf'
  clear hf'
  go_enter Try.func74, Try.ntmps74
  go_wp2_with fail
  go_region_held (fun w' => w'.cell? ⟨b, 0, none⟩ = some (.int .i64 hand) ∧ w'.cell? ⟨b, 1, none⟩ = some (.int .i64 kind) ∧ w'.cell? ⟨b, 2, none⟩ = some (.int .i64 a) ∧ w'.cell? ⟨b, 3, none⟩ = some (.int .i64 bb) ∧ w'.cell? ⟨b, 5, none⟩ = some (.int .u64 hh)) (go_keep)
    (first | (go_at_call 64; refine (do_mem (((M.out.alloc _).alloc _).drew) ⟨hand, kind, a, bb % 18446744073709551616, hh, true⟩ HW.out).mono ?_; rintro e w1 ⟨rfl, hm1, hg1⟩; rw [HX.out]; rw [HF.out] at hm1; simp only [Stp.val]; have M1 := hide hm1; have s1 := hg1.size; simp only [World.size_alloc, World.size_drew] at s1; have hn2 : w1.heap.size ≠ b := (by omega); have R1 := hide (((R.out.alloc _).alloc _).drew.of_block (hg1.block b (by simp; omega) (by simp [h2]))); have RR := hide (((row0 w).alloc _).drew.of_block (hg1.block w.heap.size (by simp; omega) (by simp; omega))); have RZ := hide ((row0n w _).drew.of_block (hg1.block (w.heap.size + 1) (by simp) (by simp; omega))); have T1 := hide ((((Touch.refl w (fun k => k = b ∨ k = bw)).alloc _).alloc _).drew.trans' (Touch.of_grown hg1) (fun k _ h => .inr (by simpa using h))); have d0 : w1.cell? ⟨b, 0, none⟩ = some (.int .i64 hand) := R1.out.cell (i := 0) (by omega); have d1 : w1.cell? ⟨b, 1, none⟩ = some (.int .i64 kind) := R1.out.cell (i := 1) (by omega); have d2 : w1.cell? ⟨b, 2, none⟩ = some (.int .i64 a) := R1.out.cell (i := 2) (by omega); have d3 : w1.cell? ⟨b, 3, none⟩ = some (.int .i64 bb) := R1.out.cell (i := 3) (by omega); have d5 : w1.cell? ⟨b, 5, none⟩ = some (.int .u64 hh) := R1.out.cell (i := 5) (by omega); have z0 : w1.cell? ⟨w.heap.size + 1, 0, none⟩ = some (.int .i64 0) := RZ.out.cell (i := 0) (by omega); have zf0 := RZ.out.frozen 0; have z1 : w1.cell? ⟨w.heap.size + 1, 1, none⟩ = some (.int .i64 0) := RZ.out.cell (i := 1) (by omega); have zf1 := RZ.out.frozen 1; have z2 : w1.cell? ⟨w.heap.size + 1, 2, none⟩ = some (.int .i64 0) := RZ.out.cell (i := 2) (by omega); have zf2 := RZ.out.frozen 2; have z3 : w1.cell? ⟨w.heap.size + 1, 3, none⟩ = some (.int .u64 0) := RZ.out.cell (i := 3) (by omega); have zf3 := RZ.out.frozen 3; have z4 : w1.cell? ⟨w.heap.size + 1, 4, none⟩ = some (.int .u64 0) := RZ.out.cell (i := 4) (by omega); have zf4 := RZ.out.frozen 4; have z5 : w1.cell? ⟨w.heap.size + 1, 5, none⟩ = some (.bool false) := RZ.out.cell (i := 5) (by omega); have zf5 := RZ.out.frozen 5; clear hm1 hg1) | (go_at_call 64; refine (do_mem ((M.out.alloc _).drew) ⟨hand, kind, a, bb % 18446744073709551616, hh, true⟩ HW.out).mono ?_; rintro e w1 ⟨rfl, hm1, hg1⟩; rw [HX.out]; rw [HF.out] at hm1; simp only [Stp.val]; have M1 := hide hm1; have s1 := hg1.size; simp only [World.size_alloc, World.size_drew] at s1; have hn2 : w1.heap.size ≠ b := (by omega); have R1 := hide ((R.out.alloc _).drew.of_block (hg1.block b (by simp; omega) (by simp [h2]))); have RR := hide ((row0 w).drew.of_block (hg1.block w.heap.size (by simp) (by simp; omega))); have T1 := hide (((Touch.refl w (fun k => k = b ∨ k = bw)).alloc _).drew.trans' (Touch.of_grown hg1) (fun k _ h => .inr (by simpa using h))); have d0 : w1.cell? ⟨b, 0, none⟩ = some (.int .i64 hand) := R1.out.cell (i := 0) (by omega); have d1 : w1.cell? ⟨b, 1, none⟩ = some (.int .i64 kind) := R1.out.cell (i := 1) (by omega); have d2 : w1.cell? ⟨b, 2, none⟩ = some (.int .i64 a) := R1.out.cell (i := 2) (by omega); have d3 : w1.cell? ⟨b, 3, none⟩ = some (.int .i64 bb) := R1.out.cell (i := 3) (by omega); have d5 : w1.cell? ⟨b, 5, none⟩ = some (.int .u64 hh) := R1.out.cell (i := 5) (by omega); clear hm1 hg1))
  all_goals have l1 : b < w1.heap.size := by omega
  all_goals have l2 : w.heap.size < w1.heap.size := by omega
  all_goals have hn3 : w.heap.size ≠ b := by omega
  all_goals clear c0 c1 c2 c3 c5 d0 d1 d2 d3 d5
  all_goals have d6 : w1.cell? ⟨b, 6, none⟩ = some (.bool ok) := R1.out.cell (i := 6) (by omega)
  all_goals have d7 : w1.cell? ⟨b, 7, none⟩ = some (.int .u64 val) := R1.out.cell (i := 7) (by omega)
  all_goals have df6 := R1.out.frozen 6
  all_goals have df7 := R1.out.frozen 7
  all_goals have r0 : w1.cell? ⟨w.heap.size, 0, none⟩ = some (.int .i64 0) := RR.out.cell (i := 0) (by omega)
  all_goals have rf0 := RR.out.frozen 0
  all_goals have r1 : w1.cell? ⟨w.heap.size, 1, none⟩ = some (.int .i64 0) := RR.out.cell (i := 1) (by omega)
  all_goals have rf1 := RR.out.frozen 1
  all_goals have r2 : w1.cell? ⟨w.heap.size, 2, none⟩ = some (.int .i64 0) := RR.out.cell (i := 2) (by omega)
  all_goals have rf2 := RR.out.frozen 2
  all_goals have r3 : w1.cell? ⟨w.heap.size, 3, none⟩ = some (.int .u64 0) := RR.out.cell (i := 3) (by omega)
  all_goals have rf3 := RR.out.frozen 3
  all_goals have r4 : w1.cell? ⟨w.heap.size, 4, none⟩ = some (.int .u64 0) := RR.out.cell (i := 4) (by omega)
  all_goals have rf4 := RR.out.frozen 4
  all_goals have r5 : w1.cell? ⟨w.heap.size, 5, none⟩ = some (.bool false) := RR.out.cell (i := 5) (by omega)
  all_goals have rf5 := RR.out.frozen 5
  all_goals go_wp2_with fail
  all_goals go_light
  all_goals
    refine bodyPost_ret (v := .tuple #[x.val, .int .i64 1]) ?res rfl ⟨rfl, ?row, ?mem, ?tch⟩
    case row =>
      refine World.rowIs.congr ?_ (fun i hi => act_next_cell _ x i hi)
      try with_reducible apply World.rowIs.alloc
      repeat (with_reducible refine World.rowIs.setOther ?_ ?side _; case side => (simp; omega))
      with_reducible refine World.rowIs.set ?_ 7 _
      with_reducible refine World.rowIs.set ?_ 6 _
      repeat (with_reducible refine World.rowIs.setOther ?_ ?side _; case side => (simp; omega))
      exact R1.out
    case mem =>
      try with_reducible apply IsMem.alloc
      repeat ((with_reducible refine IsMem.setOther ?_ ?_ ?_ _); rotate_left; (simp; omega); (simp; omega))
      exact M1.out
    case tch =>
      try with_reducible apply Touch.alloc
      repeat (with_reducible refine Touch.setCell ?_ _ ?side _; case side => simp)
      exact T1.out
    case res => simp [results, Try.results74, go_sem, Stp.val, *]

theorem isKind : IsKind kAct := IsKindO.to
  { ok := ⟨fun h j hf => hf.1, fun j s n f _ h => h⟩
    step := fun {w b bm bw n f s j} hf hw h hm h1 h2 => act_step h hm h1 h2 hw
    ans := fun {w b s j} hf hw h => act_answer h
    mstep := fun j hf b w => by kernel_rfl
    mans := fun j hf b w => by kernel_rfl
    cstep := fun j hf args w => by kernel_rfl
    cans := fun j hf args w => by kernel_rfl }

theorem makes (w : World) : MakesAt kAct (.func (.func 30) #[] #[]) w := fun hand j _ _ _ => ⟨fun h => make_act w hand j h, fun h => make_act_err w hand j h⟩

end AcK

namespace WkK
structure WkS where
  hand : Int
  at_ : Int
  left : Int
  h : Int
  sum : Int
def werr (j : Jb) : Int := if j.kind = 1 then 0 else if j.kind = 2 then 200 else 77
def winit (h : Int) (j : Jb) : WkS := ⟨h, j.a, j.b, j.h, 0⟩
def wreq (s : WkS) : Stp := ⟨s.hand, 4, s.at_, 0, s.h, true⟩
def wnext (s : WkS) (r : Stp) : WkS := ⟨s.hand, wrap64 (s.at_ + 1), wrap64 (s.left - 1), s.h, (s.sum + r.had) % 18446744073709551616⟩
def wends (s : WkS) (_ : Stp) : Bool := decide (wrap64 (s.left - 1) ≤ 0)
def wtell (s : WkS) : Ans := ⟨true, s.sum⟩
def wcell (s : WkS) (i : Nat) : Value := match i with | 0 => .int .i64 s.hand | 1 => .int .i64 s.at_ | 2 => .int .i64 s.left | 3 => .int .u64 s.h | _ => .int .u64 s.sum
def kWk : Kd where
  σ := WkS
  err _ j := werr j
  init := winit
  req := wreq
  next := wnext
  ends := wends
  tell := wtell
  tid _ := 71
  t _ := 73
  n _ := 5
  fs _ := 63
  fa _ := 62
  cell _ := wcell
  wf _ s := 0 ≤ s.h ∧ s.h ≤ 18446744073709551615

theorem make_wk (w : World) (hand : Int) (j : Jb) (h : werr j = 0) :
    Calls Try.prog 33 #[.func (.func 7) #[] #[], .int .i64 hand, j.val] w fun e w' => ∃ b, e = .returned (.tuple #[.iface 71 (.pointer (some ⟨b, 0, none⟩)), .int .i64 0]) ∧
      w'.rowIs b 73 5 (wcell (winit hand j)) ∧ w.heap.size ≤ b ∧ w.grownBy w' none := by
  obtain ⟨kind, a, b, c, hh⟩ := j
  obtain rfl : kind = 1 := by simp only [werr] at h; split at h; assumption; split at h <;> cases h
  unfold Jb.val
  have hf := func_nil 7
  have hi := iface_nil 71
  go_enter Try.func33, Try.ntmps33
  go_wp2
  go_ret2
  refine ⟨w.heap.size + 2, rfl, ?_, by omega, grown_alloc (grown_alloc (grown_alloc (grown_refl _ _) _) _) _⟩
  have := rowIs_cells (w := (w.alloc (.cells #[.int .i64 1, .int .i64 a, .int .i64 b, .int .i64 c, .int .u64 hh] 50)).alloc (.cells #[.int .i64 1, .int .i64 a, .int .i64 b, .int .i64 c, .int .u64 hh] 50))
    #[.int .i64 hand, .int .i64 a, .int .i64 b, .int .u64 hh, .int .u64 0] 73 (wcell (winit hand ⟨1, a, b, c, hh⟩)) 5 rfl (fun i hi => by
      match i, hi with
      | 0, _ | 1, _ | 2, _ | 3, _ | 4, _ => rfl)
  simpa using this

theorem make_wk_err (w : World) (hand : Int) (j : Jb) (h : ¬ werr j = 0) :
    Calls Try.prog 33 #[.func (.func 7) #[] #[], .int .i64 hand, j.val] w fun e w' => e = .returned (.tuple #[.nilIface, .int .i64 (werr j)]) ∧ w.grownBy w' none := by
  obtain ⟨kind, a, b, c, hh⟩ := j
  have hf := func_nil 7
  have hi := iface_none
  have hk : ¬ kind = 1 := fun e => h (by simp [werr, e])
  by_cases h2 : kind = 2
  · subst h2
    have he : werr ⟨2, a, b, c, hh⟩ = 200 := by simp [werr]
    rw [he]
    unfold Jb.val
    go_enter Try.func33, Try.ntmps33
    go_wp2
    go_ret2
    exact ⟨rfl, grown_alloc (grown_alloc (grown_refl _ _) _) _⟩
  · have he : werr ⟨kind, a, b, c, hh⟩ = 77 := by simp [werr, hk, h2]
    rw [he]
    unfold Jb.val
    go_enter Try.func33, Try.ntmps33
    go_wp2
    go_ret2
    exact ⟨rfl, grown_alloc (grown_alloc (grown_refl _ _) _) _⟩

theorem wk_answer {w : World} {b : Nat} {s : WkS} (h : w.rowIs b 73 5 (wcell s)) :
    Calls Try.prog 62 #[.pointer (some ⟨b, 0, none⟩)] w fun e w' => e = .returned (wtell s).value ∧ w.grownBy w' none := by
  obtain ⟨hand, at_, left, hh, sum⟩ := s
  have h4 : w.cell? ⟨b, 4, none⟩ = some (.int .u64 sum) := h.cell (i := 4) (by omega)
  have hl := h.lt
  go_enter Try.func62, Try.ntmps62
  go_wp2
  go_light
  refine bodyPost_ret (v := Ans.value ⟨true, sum⟩) ?_ rfl ⟨rfl, grown_alloc (grown_refl _ _) _⟩
  simp [results, Try.results62, go_sem, Ans.value]

theorem wk_next_cell (s : WkS) (x : Stp) (i : Nat) (hi : i < 5) :
    (fun j => if j = 2 then Value.int .i64 (wrap64 (s.left - 1)) else (fun j => if j = 1 then Value.int .i64 (wrap64 (s.at_ + 1)) else (fun j => if j = 4 then Value.int .u64 ((s.sum + x.had) % 18446744073709551616) else wcell s j) j) j) i = wcell (wnext s x) i := by
  match i, hi with
  | 0, _ | 1, _ | 2, _ | 3, _ | 4, _ => rfl

set_option maxHeartbeats 4000000 in
theorem wk_step {w : World} {b bm bw n : Nat} {f : Nat → Int} {s : WkS} (h : w.rowIs b 73 5 (wcell s)) (hm : IsMem w bm bw n f) (h1 : b ≠ bm) (h2 : b ≠ bw) (hw : 0 ≤ s.h ∧ s.h ≤ 18446744073709551615) :
    Calls Try.prog 63 #[.pointer (some ⟨b, 0, none⟩), .pointer (some ⟨bm, 0, none⟩)] w fun e w' => e = .returned (.tuple #[(stepOf n f (wreq s)).val, .int .i64 (if wends s (stepOf n f (wreq s)) = true then 1 else 0)]) ∧
      w'.rowIs b 73 5 (wcell (wnext s (stepOf n f (wreq s)))) ∧ IsMem w' bm bw n (wordsOf n f (wreq s)) ∧ Touch w w' (fun k => k = b ∨ k = bw) := by
  obtain ⟨hand, at_, left, hh, sum⟩ := s
  obtain ⟨v, hv⟩ : ∃ v : Int, v = if wends ⟨hand, at_, left, hh, sum⟩ (stepOf n f (wreq ⟨hand, at_, left, hh, sum⟩)) = true then 1 else 0 := ⟨_, rfl⟩
  rw [← hv]
  have hends : wends ⟨hand, at_, left, hh, sum⟩ (stepOf n f (wreq ⟨hand, at_, left, hh, sum⟩)) = decide (wrap64 (left - 1) ≤ 0) := rfl
  rw [hends] at hv
  clear hends
  have HV := hide hv
  clear hv
  have c0 : w.cell? ⟨b, 0, none⟩ = some (.int .i64 hand) := h.cell (i := 0) (by omega)
  have c1 : w.cell? ⟨b, 1, none⟩ = some (.int .i64 at_) := h.cell (i := 1) (by omega)
  have c3 : w.cell? ⟨b, 3, none⟩ = some (.int .u64 hh) := h.cell (i := 3) (by omega)
  have hl := h.lt
  have lw := hm.row.lt
  have lm := hm.head.lt
  have hn1 : w.heap.size + 1 ≠ b := by omega
  have M := hide hm
  have R := hide h
  have HW : Hid (0 ≤ hh ∧ hh ≤ 18446744073709551615) := hw
  clear hm h hw
  obtain ⟨x, hx⟩ : ∃ x, stepOf n f (wreq ⟨hand, at_, left, hh, sum⟩) = x := ⟨_, rfl⟩
  rw [hx]
  have HX : Hid (stepOf n f ⟨hand, 4, at_, 0, hh, true⟩ = x) := hx
  clear hx
  obtain ⟨f', hf'⟩ : ∃ f', wordsOf n f (wreq ⟨hand, at_, left, hh, sum⟩) = f' := ⟨_, rfl⟩
  rw [hf']
  have HF : Hid (wordsOf n f ⟨hand, 4, at_, 0, hh, true⟩ = f') := hf'
  clear hf'
  have hws : IntKind.u64.wrap (sum + x.had) = (sum + x.had) % 18446744073709551616 := wrap_u64 _
  go_enter Try.func63, Try.ntmps63
  go_wp2_with fail
  go_region_held (fun w' => w'.cell? ⟨b, 0, none⟩ = some (.int .i64 hand) ∧ w'.cell? ⟨b, 1, none⟩ = some (.int .i64 at_) ∧ w'.cell? ⟨b, 3, none⟩ = some (.int .u64 hh)) (go_keep)
    (first | (go_at_call 64; refine (do_mem (((M.out.alloc _).alloc _).drew) ⟨hand, 4, at_, 0, hh, true⟩ HW.out).mono ?_; rintro e w1 ⟨rfl, hm1, hg1⟩; rw [HX.out]; rw [HF.out] at hm1; simp only [Stp.val]; have M1 := hide hm1; have s1 := hg1.size; simp only [World.size_alloc, World.size_drew] at s1; have hn2 : w1.heap.size ≠ b := (by omega); have R1 := hide (((R.out.alloc _).alloc _).drew.of_block (hg1.block b (by simp; omega) (by simp [h2]))); have RR := hide (((row0 w).alloc _).drew.of_block (hg1.block w.heap.size (by simp; omega) (by simp; omega))); have RZ := hide ((row0n w _).drew.of_block (hg1.block (w.heap.size + 1) (by simp) (by simp; omega))); have T1 := hide ((((Touch.refl w (fun k => k = b ∨ k = bw)).alloc _).alloc _).drew.trans' (Touch.of_grown hg1) (fun k _ h => .inr (by simpa using h))); have d0 : w1.cell? ⟨b, 0, none⟩ = some (.int .i64 hand) := R1.out.cell (i := 0) (by omega); have d1 : w1.cell? ⟨b, 1, none⟩ = some (.int .i64 at_) := R1.out.cell (i := 1) (by omega); have d3 : w1.cell? ⟨b, 3, none⟩ = some (.int .u64 hh) := R1.out.cell (i := 3) (by omega); have z0 : w1.cell? ⟨w.heap.size + 1, 0, none⟩ = some (.int .i64 0) := RZ.out.cell (i := 0) (by omega); have zf0 := RZ.out.frozen 0; have z1 : w1.cell? ⟨w.heap.size + 1, 1, none⟩ = some (.int .i64 0) := RZ.out.cell (i := 1) (by omega); have zf1 := RZ.out.frozen 1; have z2 : w1.cell? ⟨w.heap.size + 1, 2, none⟩ = some (.int .i64 0) := RZ.out.cell (i := 2) (by omega); have zf2 := RZ.out.frozen 2; have z3 : w1.cell? ⟨w.heap.size + 1, 3, none⟩ = some (.int .u64 0) := RZ.out.cell (i := 3) (by omega); have zf3 := RZ.out.frozen 3; have z4 : w1.cell? ⟨w.heap.size + 1, 4, none⟩ = some (.int .u64 0) := RZ.out.cell (i := 4) (by omega); have zf4 := RZ.out.frozen 4; have z5 : w1.cell? ⟨w.heap.size + 1, 5, none⟩ = some (.bool false) := RZ.out.cell (i := 5) (by omega); have zf5 := RZ.out.frozen 5; clear hm1 hg1) | (go_at_call 64; refine (do_mem ((M.out.alloc _).drew) ⟨hand, 4, at_, 0, hh, true⟩ HW.out).mono ?_; rintro e w1 ⟨rfl, hm1, hg1⟩; rw [HX.out]; rw [HF.out] at hm1; simp only [Stp.val]; have M1 := hide hm1; have s1 := hg1.size; simp only [World.size_alloc, World.size_drew] at s1; have hn2 : w1.heap.size ≠ b := (by omega); have R1 := hide ((R.out.alloc _).drew.of_block (hg1.block b (by simp; omega) (by simp [h2]))); have RR := hide ((row0 w).drew.of_block (hg1.block w.heap.size (by simp) (by simp; omega))); have T1 := hide (((Touch.refl w (fun k => k = b ∨ k = bw)).alloc _).drew.trans' (Touch.of_grown hg1) (fun k _ h => .inr (by simpa using h))); have d0 : w1.cell? ⟨b, 0, none⟩ = some (.int .i64 hand) := R1.out.cell (i := 0) (by omega); have d1 : w1.cell? ⟨b, 1, none⟩ = some (.int .i64 at_) := R1.out.cell (i := 1) (by omega); have d3 : w1.cell? ⟨b, 3, none⟩ = some (.int .u64 hh) := R1.out.cell (i := 3) (by omega); clear hm1 hg1))
  all_goals have l1 : b < w1.heap.size := by omega
  all_goals have l2 : w.heap.size < w1.heap.size := by omega
  all_goals have hn3 : w.heap.size ≠ b := by omega
  all_goals clear c0 c1 c3 d0 d3
  all_goals have d2 : w1.cell? ⟨b, 2, none⟩ = some (.int .i64 left) := R1.out.cell (i := 2) (by omega)
  all_goals have d4 : w1.cell? ⟨b, 4, none⟩ = some (.int .u64 sum) := R1.out.cell (i := 4) (by omega)
  all_goals have df1 := R1.out.frozen 1
  all_goals have df2 := R1.out.frozen 2
  all_goals have df4 := R1.out.frozen 4
  all_goals have r0 : w1.cell? ⟨w.heap.size, 0, none⟩ = some (.int .i64 0) := RR.out.cell (i := 0) (by omega)
  all_goals have rf0 := RR.out.frozen 0
  all_goals have r1 : w1.cell? ⟨w.heap.size, 1, none⟩ = some (.int .i64 0) := RR.out.cell (i := 1) (by omega)
  all_goals have rf1 := RR.out.frozen 1
  all_goals have r2 : w1.cell? ⟨w.heap.size, 2, none⟩ = some (.int .i64 0) := RR.out.cell (i := 2) (by omega)
  all_goals have rf2 := RR.out.frozen 2
  all_goals have r3 : w1.cell? ⟨w.heap.size, 3, none⟩ = some (.int .u64 0) := RR.out.cell (i := 3) (by omega)
  all_goals have rf3 := RR.out.frozen 3
  all_goals have r4 : w1.cell? ⟨w.heap.size, 4, none⟩ = some (.int .u64 0) := RR.out.cell (i := 4) (by omega)
  all_goals have rf4 := RR.out.frozen 4
  all_goals have r5 : w1.cell? ⟨w.heap.size, 5, none⟩ = some (.bool false) := RR.out.cell (i := 5) (by omega)
  all_goals have rf5 := RR.out.frozen 5
  all_goals go_wp2_with fail
  all_goals go_region
  all_goals go_wp2_with fail
  all_goals go_light
  all_goals have hv := HV.out
  all_goals (first | (rw [if_neg (by simp; omega)] at hv) | (rw [if_pos (by simp; omega)] at hv))
  all_goals subst hv
  all_goals clear HV
  all_goals
    first | refine bodyPost_ret (v := .tuple #[x.val, .int .i64 0]) ?res rfl ⟨rfl, ?row, ?mem, ?tch⟩ | refine bodyPost_ret (v := .tuple #[x.val, .int .i64 1]) ?res rfl ⟨rfl, ?row, ?mem, ?tch⟩
    case row =>
      refine World.rowIs.congr ?_ (fun i hi => wk_next_cell _ x i hi)
      repeat (first | (with_reducible apply World.rowIs.alloc) | (with_reducible apply World.rowIs.drew) | (with_reducible refine World.rowIs.setOther ?_ ?side _; case side => (simp; omega)))
      with_reducible refine World.rowIs.set ?_ 2 _
      repeat (with_reducible apply World.rowIs.drew)
      with_reducible refine World.rowIs.set ?_ 1 _
      repeat (with_reducible apply World.rowIs.drew)
      with_reducible refine World.rowIs.set ?_ 4 _
      repeat (first | (with_reducible apply World.rowIs.alloc) | (with_reducible apply World.rowIs.drew) | (with_reducible refine World.rowIs.setOther ?_ ?side _; case side => (simp; omega)))
      with_reducible exact R1.out
    case mem =>
      repeat (first | (with_reducible apply IsMem.alloc) | (with_reducible apply IsMem.drew) | ((with_reducible refine IsMem.setOther ?_ ?_ ?_ _); rotate_left; (simp; omega); (simp; omega)))
      with_reducible exact M1.out
    case tch =>
      repeat (first | (with_reducible apply Touch.alloc) | (with_reducible apply Touch.drew) | (with_reducible refine Touch.setCell ?_ _ ?side _; case side => simp))
      with_reducible exact T1.out
    case res => simp [results, Try.results63, go_sem, Stp.val, *]

theorem isKind : IsKind kWk := IsKindO.to
  { ok := ⟨fun h j hf => hf.1, fun j s n f _ h => h⟩
    step := fun {w b bm bw n f s j} hf hw h hm h1 h2 => wk_step h hm h1 h2 hw
    ans := fun {w b s j} hf hw h => wk_answer h
    mstep := fun j hf b w => by kernel_rfl
    mans := fun j hf b w => by kernel_rfl
    cstep := fun j hf args w => by kernel_rfl
    cans := fun j hf args w => by kernel_rfl }
theorem makes (w : World) : MakesAt kWk (.func (.func 7) #[] #[]) w := fun hand j _ _ _ => ⟨fun h => make_wk w hand j h, fun h => make_wk_err w hand j h⟩
end WkK
end Go.Proofs.Ytafaiikgpooflaa
