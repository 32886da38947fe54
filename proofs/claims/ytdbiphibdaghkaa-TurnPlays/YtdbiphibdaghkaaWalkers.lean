/-
  The statement's walkers: what makeTask, Step and Answer do with them.
-/
import Derived.Test.YtdbiphibdaghkaaKinds
namespace Go.Proofs.Ytdbiphibdaghkaa
open Go.RowKit
set_option linter.unusedVariables false
set_option linter.unusedSimpArgs false
set_option maxRecDepth 20000

structure WkS where
  hand : Int
  at_ : Int
  left : Int
  h : Int
  sum : Int
def kWk : Kd where
  σ := WkS
  err j := if j.kind = 1 then 0 else if j.kind = 2 then 200 else 77
  init h j := ⟨h, j.a, j.b, j.h, 0⟩
  req s := ⟨s.hand, 4, s.at_, 0, s.h, true⟩
  next s r := ⟨s.hand, wrap64 (s.at_ + 1), wrap64 (s.left - 1), s.h, (s.sum + r.had) % 18446744073709551616⟩
  ends s _ := decide (wrap64 (s.left - 1) ≤ 0)
  tell s := ⟨true, s.sum⟩
  tid := 115
  t := 117
  n := 5
  cell s i := match i with | 0 => .int .i64 s.hand | 1 => .int .i64 s.at_ | 2 => .int .i64 s.left | 3 => .int .u64 s.h | _ => .int .u64 s.sum
  wf s := 0 ≤ s.h ∧ s.h ≤ 18446744073709551615

theorem make_wk (w : World) (hand : Int) (j : Jb) (h : kWk.err j = 0) :
    Calls Try.prog 69 #[.func (.func 15) #[] #[], .int .i64 hand, j.val] w fun e w' => ∃ b, e = .returned (.tuple #[.iface 115 (.pointer (some ⟨b, 0, none⟩)), .int .i64 0]) ∧
      w'.rowIs b 117 5 (kWk.cell (kWk.init hand j)) ∧ w.heap.size ≤ b ∧ w.grownBy w' none := by
  obtain ⟨kind, a, b, c, hh⟩ := j
  obtain rfl : kind = 1 := by simp only [kWk] at h; split at h; assumption; split at h <;> cases h
  unfold Jb.val
  have hf := func_nil 15
  have hi := iface_nil 115
  go_enter Try.func69, Try.ntmps69
  go_wp2
  go_ret2
  refine ⟨w.heap.size + 2, rfl, ?_, by omega, grown_alloc (grown_alloc (grown_alloc (grown_refl _ _) _) _) _⟩
  have := rowIs_cells (w := (w.alloc (.cells #[.int .i64 1, .int .i64 a, .int .i64 b, .int .i64 c, .int .u64 hh] 54)).alloc (.cells #[.int .i64 1, .int .i64 a, .int .i64 b, .int .i64 c, .int .u64 hh] 54))
    #[.int .i64 hand, .int .i64 a, .int .i64 b, .int .u64 hh, .int .u64 0] 117 (kWk.cell (kWk.init hand ⟨1, a, b, c, hh⟩)) 5 rfl (fun i hi => by
      match i, hi with
      | 0, _ | 1, _ | 2, _ | 3, _ | 4, _ => rfl)
  simpa using this

theorem make_wk_err (w : World) (hand : Int) (j : Jb) (h : ¬ kWk.err j = 0) :
    Calls Try.prog 69 #[.func (.func 15) #[] #[], .int .i64 hand, j.val] w fun e w' => e = .returned (.tuple #[.nilIface, .int .i64 (kWk.err j)]) ∧ w.grownBy w' none := by
  obtain ⟨kind, a, b, c, hh⟩ := j
  have hf := func_nil 15
  have hi := iface_none
  have hk : ¬ kind = 1 := fun e => h (by simp [kWk, e])
  by_cases h2 : kind = 2
  · subst h2
    have he : kWk.err ⟨2, a, b, c, hh⟩ = 200 := by simp [kWk]
    rw [he]
    unfold Jb.val
    go_enter Try.func69, Try.ntmps69
    go_wp2
    go_ret2
    exact ⟨rfl, grown_alloc (grown_alloc (grown_refl _ _) _) _⟩
  · have he : kWk.err ⟨kind, a, b, c, hh⟩ = 77 := by simp [kWk, hk, h2]
    rw [he]
    unfold Jb.val
    go_enter Try.func69, Try.ntmps69
    go_wp2
    go_ret2
    exact ⟨rfl, grown_alloc (grown_alloc (grown_refl _ _) _) _⟩

theorem wk_answer {w : World} {b : Nat} {s : WkS} (h : w.rowIs b 117 5 (kWk.cell s)) :
    Calls Try.prog 121 #[.pointer (some ⟨b, 0, none⟩)] w fun e w' => e = .returned (kWk.tell s).value ∧ w.grownBy w' none := by
  obtain ⟨hand, at_, left, hh, sum⟩ := s
  have h4 : w.cell? ⟨b, 4, none⟩ = some (.int .u64 sum) := h.cell (i := 4) (by omega)
  have hl := h.lt
  go_enter Try.func121, Try.ntmps121
  go_wp2
  go_light
  refine bodyPost_ret (v := Ans.value ⟨true, sum⟩) ?_ rfl ⟨rfl, grown_alloc (grown_refl _ _) _⟩
  simp [results, Try.results121, go_sem, Ans.value]

theorem wk_next_cell (s : kWk.σ) (x : Stp) (i : Nat) (hi : i < 5) :
    (fun j => if j = 2 then Value.int .i64 (wrap64 (s.left - 1)) else (fun j => if j = 1 then Value.int .i64 (wrap64 (s.at_ + 1)) else (fun j => if j = 4 then Value.int .u64 ((s.sum + x.had) % 18446744073709551616) else kWk.cell s j) j) j) i = kWk.cell (kWk.next s x) i := by
  match i, hi with
  | 0, _ | 1, _ | 2, _ | 3, _ | 4, _ => rfl

set_option maxHeartbeats 4000000 in
theorem wk_step {w : World} {b bm bw n : Nat} {f : Nat → Int} {s : WkS} (h : w.rowIs b 117 5 (kWk.cell s)) (hm : IsMem w bm bw n f) (h1 : b ≠ bm) (h2 : b ≠ bw) (hw : kWk.wf s) :
    Calls Try.prog 122 #[.pointer (some ⟨b, 0, none⟩), .pointer (some ⟨bm, 0, none⟩)] w fun e w' => e = .returned (.tuple #[(stepOf n f (kWk.req s)).val, .int .i64 (if kWk.ends s (stepOf n f (kWk.req s)) = true then 1 else 0)]) ∧
      w'.rowIs b 117 5 (kWk.cell (kWk.next s (stepOf n f (kWk.req s)))) ∧ IsMem w' bm bw n (wordsOf n f (kWk.req s)) ∧ Touch w w' (fun k => k = b ∨ k = bw) := by
  obtain ⟨hand, at_, left, hh, sum⟩ := s
  obtain ⟨v, hv⟩ : ∃ v : Int, v = if kWk.ends ⟨hand, at_, left, hh, sum⟩ (stepOf n f (kWk.req ⟨hand, at_, left, hh, sum⟩)) = true then 1 else 0 := ⟨_, rfl⟩
  rw [← hv]
  have hends : kWk.ends ⟨hand, at_, left, hh, sum⟩ (stepOf n f (kWk.req ⟨hand, at_, left, hh, sum⟩)) = decide (wrap64 (left - 1) ≤ 0) := rfl
  rw [hends] at hv
  clear hends
  have HV := hide hv
  clear hv
  have c0 : w.cell? ⟨b, 0, none⟩ = some (.int .i64 hand) := h.cell (i := 0) (by omega)
  have c1 : w.cell? ⟨b, 1, none⟩ = some (.int .i64 at_) := h.cell (i := 1) (by omega)
  have c3 : w.cell? ⟨b, 3, none⟩ = some (.int .u64 hh) := h.cell (i := 3) (by omega)
  have hl := h.lt
  have lw := hm.row.lt
  have lm := hm.head.lt
  have hn1 : w.heap.size + 1 ≠ b := by omega
  have M := hide hm
  have R := hide h
  have HW : Hid (0 ≤ hh ∧ hh ≤ 18446744073709551615) := hw
  clear hm h hw
  obtain ⟨x, hx⟩ : ∃ x, stepOf n f (kWk.req ⟨hand, at_, left, hh, sum⟩) = x := ⟨_, rfl⟩
  rw [hx]
  have HX : Hid (stepOf n f ⟨hand, 4, at_, 0, hh, true⟩ = x) := hx
  clear hx
  obtain ⟨f', hf'⟩ : ∃ f', wordsOf n f (kWk.req ⟨hand, at_, left, hh, sum⟩) = f' := ⟨_, rfl⟩
  rw [hf']
  have HF : Hid (wordsOf n f ⟨hand, 4, at_, 0, hh, true⟩ = f') := hf'
  clear hf'
  have hws : IntKind.u64.wrap (sum + x.had) = (sum + x.had) % 18446744073709551616 := wrap_u64 _
  go_enter Try.func122, Try.ntmps122
  go_wp2_with fail
  go_region_held (fun w' => w'.cell? ⟨b, 0, none⟩ = some (.int .i64 hand) ∧ w'.cell? ⟨b, 1, none⟩ = some (.int .i64 at_) ∧ w'.cell? ⟨b, 3, none⟩ = some (.int .u64 hh)) (go_keep)
    (first | (go_at_call 123; refine (do_mem (((M.out.alloc _).alloc _).drew) ⟨hand, 4, at_, 0, hh, true⟩ HW.out).mono ?_; rintro e w1 ⟨rfl, hm1, hg1⟩; rw [HX.out]; rw [HF.out] at hm1; simp only [Stp.val]; have M1 := hide hm1; have s1 := hg1.size; simp only [World.size_alloc, World.size_drew] at s1; have hn2 : w1.heap.size ≠ b := (by omega); have R1 := hide (((R.out.alloc _).alloc _).drew.of_block (hg1.block b (by simp; omega) (by simp [h2]))); have RR := hide (((row0 w).alloc _).drew.of_block (hg1.block w.heap.size (by simp; omega) (by simp; omega))); have RZ := hide ((row0n w _).drew.of_block (hg1.block (w.heap.size + 1) (by simp) (by simp; omega))); have T1 := hide ((((Touch.refl w (fun k => k = b ∨ k = bw)).alloc _).alloc _).drew.trans' (Touch.of_grown hg1) (fun k _ h => .inr (by simpa using h))); have d0 : w1.cell? ⟨b, 0, none⟩ = some (.int .i64 hand) := R1.out.cell (i := 0) (by omega); have d1 : w1.cell? ⟨b, 1, none⟩ = some (.int .i64 at_) := R1.out.cell (i := 1) (by omega); have d3 : w1.cell? ⟨b, 3, none⟩ = some (.int .u64 hh) := R1.out.cell (i := 3) (by omega); have z0 : w1.cell? ⟨w.heap.size + 1, 0, none⟩ = some (.int .i64 0) := RZ.out.cell (i := 0) (by omega); have zf0 := RZ.out.frozen 0; have z1 : w1.cell? ⟨w.heap.size + 1, 1, none⟩ = some (.int .i64 0) := RZ.out.cell (i := 1) (by omega); have zf1 := RZ.out.frozen 1; have z2 : w1.cell? ⟨w.heap.size + 1, 2, none⟩ = some (.int .i64 0) := RZ.out.cell (i := 2) (by omega); have zf2 := RZ.out.frozen 2; have z3 : w1.cell? ⟨w.heap.size + 1, 3, none⟩ = some (.int .u64 0) := RZ.out.cell (i := 3) (by omega); have zf3 := RZ.out.frozen 3; have z4 : w1.cell? ⟨w.heap.size + 1, 4, none⟩ = some (.int .u64 0) := RZ.out.cell (i := 4) (by omega); have zf4 := RZ.out.frozen 4; have z5 : w1.cell? ⟨w.heap.size + 1, 5, none⟩ = some (.bool false) := RZ.out.cell (i := 5) (by omega); have zf5 := RZ.out.frozen 5; clear hm1 hg1) | (go_at_call 123; refine (do_mem ((M.out.alloc _).drew) ⟨hand, 4, at_, 0, hh, true⟩ HW.out).mono ?_; rintro e w1 ⟨rfl, hm1, hg1⟩; rw [HX.out]; rw [HF.out] at hm1; simp only [Stp.val]; have M1 := hide hm1; have s1 := hg1.size; simp only [World.size_alloc, World.size_drew] at s1; have hn2 : w1.heap.size ≠ b := (by omega); have R1 := hide ((R.out.alloc _).drew.of_block (hg1.block b (by simp; omega) (by simp [h2]))); have RR := hide ((row0 w).drew.of_block (hg1.block w.heap.size (by simp) (by simp; omega))); have T1 := hide (((Touch.refl w (fun k => k = b ∨ k = bw)).alloc _).drew.trans' (Touch.of_grown hg1) (fun k _ h => .inr (by simpa using h))); have d0 : w1.cell? ⟨b, 0, none⟩ = some (.int .i64 hand) := R1.out.cell (i := 0) (by omega); have d1 : w1.cell? ⟨b, 1, none⟩ = some (.int .i64 at_) := R1.out.cell (i := 1) (by omega); have d3 : w1.cell? ⟨b, 3, none⟩ = some (.int .u64 hh) := R1.out.cell (i := 3) (by omega); clear hm1 hg1))
  all_goals have l1 : b < w1.heap.size := by omega
  all_goals have l2 : w.heap.size < w1.heap.size := by omega
  all_goals have hn3 : w.heap.size ≠ b := by omega
  all_goals clear c0 c1 c3 d0 d3
  all_goals have d2 : w1.cell? ⟨b, 2, none⟩ = some (.int .i64 left) := R1.out.cell (i := 2) (by omega)
  all_goals have d4 : w1.cell? ⟨b, 4, none⟩ = some (.int .u64 sum) := R1.out.cell (i := 4) (by omega)
  all_goals have df1 := R1.out.frozen 1
  all_goals have df2 := R1.out.frozen 2
  all_goals have df4 := R1.out.frozen 4
  all_goals have r0 : w1.cell? ⟨w.heap.size, 0, none⟩ = some (.int .i64 0) := RR.out.cell (i := 0) (by omega)
  all_goals have rf0 := RR.out.frozen 0
  all_goals have r1 : w1.cell? ⟨w.heap.size, 1, none⟩ = some (.int .i64 0) := RR.out.cell (i := 1) (by omega)
  all_goals have rf1 := RR.out.frozen 1
  all_goals have r2 : w1.cell? ⟨w.heap.size, 2, none⟩ = some (.int .i64 0) := RR.out.cell (i := 2) (by omega)
  all_goals have rf2 := RR.out.frozen 2
  all_goals have r3 : w1.cell? ⟨w.heap.size, 3, none⟩ = some (.int .u64 0) := RR.out.cell (i := 3) (by omega)
  all_goals have rf3 := RR.out.frozen 3
  all_goals have r4 : w1.cell? ⟨w.heap.size, 4, none⟩ = some (.int .u64 0) := RR.out.cell (i := 4) (by omega)
  all_goals have rf4 := RR.out.frozen 4
  all_goals have r5 : w1.cell? ⟨w.heap.size, 5, none⟩ = some (.bool false) := RR.out.cell (i := 5) (by omega)
  all_goals have rf5 := RR.out.frozen 5
  all_goals go_wp2_with fail
  all_goals go_region
  all_goals go_wp2_with fail
  all_goals go_light
  all_goals have hv := HV.out
  all_goals (first | (rw [if_neg (by simp; omega)] at hv) | (rw [if_pos (by simp; omega)] at hv))
  all_goals subst hv
  all_goals clear HV
  all_goals
    first | refine bodyPost_ret (v := .tuple #[x.val, .int .i64 0]) ?res rfl ⟨rfl, ?row, ?mem, ?tch⟩ | refine bodyPost_ret (v := .tuple #[x.val, .int .i64 1]) ?res rfl ⟨rfl, ?row, ?mem, ?tch⟩
    case row =>
      refine World.rowIs.congr ?_ (fun i hi => wk_next_cell _ x i hi)
      repeat (first | (with_reducible apply World.rowIs.alloc) | (with_reducible apply World.rowIs.drew) | (with_reducible refine World.rowIs.setOther ?_ ?side _; case side => (simp; omega)))
      with_reducible refine World.rowIs.set ?_ 2 _
      repeat (with_reducible apply World.rowIs.drew)
      with_reducible refine World.rowIs.set ?_ 1 _
      repeat (with_reducible apply World.rowIs.drew)
      with_reducible refine World.rowIs.set ?_ 4 _
      repeat (first | (with_reducible apply World.rowIs.alloc) | (with_reducible apply World.rowIs.drew) | (with_reducible refine World.rowIs.setOther ?_ ?side _; case side => (simp; omega)))
      with_reducible exact R1.out
    case mem =>
      repeat (first | (with_reducible apply IsMem.alloc) | (with_reducible apply IsMem.drew) | ((with_reducible refine IsMem.setOther ?_ ?_ ?_ _); rotate_left; (simp; omega); (simp; omega)))
      with_reducible exact M1.out
    case tch =>
      repeat (first | (with_reducible apply Touch.alloc) | (with_reducible apply Touch.drew) | (with_reducible refine Touch.setCell ?_ _ ?side _; case side => simp))
      with_reducible exact T1.out
    case res => simp [results, Try.results122, go_sem, Stp.val, *]

end Go.Proofs.Ytdbiphibdaghkaa
