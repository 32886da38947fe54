/-
  Jobs, answers, kinds of tasks; the two kinds of this layer: acts, and the statement's walkers: what makeTask, Step and Answer do with each.
-/
import Derived.Test.YtdbiphibdaghkaaOwn
import Derived.Test.YtdbiphibdaghkaaDo
import Derived.Test.YtdbiphibdaghkaaRef
import Derived.Deep.RegionHeld
namespace Go.Proofs.Ytdbiphibdaghkaa
open Go.RowKit
set_option linter.unusedVariables false
set_option linter.unusedSimpArgs false
set_option maxRecDepth 20000

structure Jb where
  kind : Int
  a : Int
  b : Int
  c : Int
  h : Int
def Jb.val (j : Jb) : Value := .agg #[.int .i64 j.kind, .int .i64 j.a, .int .i64 j.b, .int .i64 j.c, .int .u64 j.h]
def Jb.cell (j : Jb) (i : Nat) : Value := match i with | 0 => .int .i64 j.kind | 1 => .int .i64 j.a | 2 => .int .i64 j.b | 3 => .int .i64 j.c | _ => .int .u64 j.h
def Jb.wf (j : Jb) : Prop := 0 ≤ j.h ∧ j.h ≤ 18446744073709551615

structure Ans where
  ok : Bool
  val : Int
def Ans.value (x : Ans) : Value := .agg #[.bool x.ok, .int .u64 x.val]
def Ans.cells (x : Ans) : List Value := [.bool x.ok, .int .u64 x.val]

/-- A kind of tasks: what makes one, what act it does next, what comes of the step, when it ends, what it tells; and how it lies in memory. -/
structure Kd where
  σ : Type
  err : Jb → Int
  init : Int → Jb → σ
  req : σ → Stp
  next : σ → Stp → σ
  ends : σ → Stp → Bool
  tell : σ → Ans
  tid : TypeId
  t : TypeId
  n : Nat
  cell : σ → Nat → Value
  wf : σ → Prop

/-! Acts. -/
structure ActS where
  hand : Int
  j : Jb
  told : Ans
def kAct : Kd where
  σ := ActS
  err j := if j.kind < 1 ∨ 5 < j.kind then 200 else 0
  init h j := ⟨h, j, ⟨false, 0⟩⟩
  req s := ⟨s.hand, s.j.kind, s.j.a, s.j.b % 18446744073709551616, s.j.h, true⟩
  next s r := ⟨s.hand, s.j, ⟨r.ok, r.had⟩⟩
  ends _ _ := true
  tell s := s.told
  tid := 142
  t := 144
  n := 8
  cell s i := match i with | 0 => .int .i64 s.hand | 1 => .int .i64 s.j.kind | 2 => .int .i64 s.j.a | 3 => .int .i64 s.j.b | 4 => .int .i64 s.j.c | 5 => .int .u64 s.j.h | 6 => .bool s.told.ok | _ => .int .u64 s.told.val
  wf s := s.j.wf

theorem rowIs_cells {w : World} (vs : Array Value) (t : TypeId) (f : Nat → Value) (n : Nat) (hn : vs.size = n) (hc : ∀ i, i < n → vs[i]? = some (f i)) : (w.alloc (.cells vs t)).rowIs w.heap.size t n f := by
  subst hn
  exact World.rowIs_alloc w vs t f hc

theorem func_nil (f : FuncId) (w : World) : (binOp .eql 100 (.func (.func f) #[] #[]) .nilFunc).run Try.prog w = .ok (.bool false) w := by kernel_rfl
theorem iface_nil (t : TypeId) (v : Value) (w : World) : (binOp .eql 83 (.iface t v) .nilIface).run Try.prog w = .ok (.bool false) w := by kernel_rfl
theorem iface_none (w : World) : (binOp .eql 83 .nilIface .nilIface).run Try.prog w = .ok (.bool true) w := by kernel_rfl

theorem make_act (w : World) (hand : Int) (j : Jb) (h : kAct.err j = 0) :
    Calls Try.prog 69 #[.func (.func 41) #[] #[], .int .i64 hand, j.val] w fun e w' => ∃ b, e = .returned (.tuple #[.iface 142 (.pointer (some ⟨b, 0, none⟩)), .int .i64 0]) ∧
      w'.rowIs b 144 8 (kAct.cell (kAct.init hand j)) ∧ w.heap.size ≤ b ∧ w.grownBy w' none := by
  obtain ⟨kind, a, b, c, hh⟩ := j
  have hk : 1 ≤ kind ∧ kind ≤ 5 := by simp only [kAct] at h; split at h; cases h; omega
  unfold Jb.val
  have hf := func_nil 41
  have hi := iface_nil 142
  go_enter Try.func69, Try.ntmps69
  go_wp2
  go_ret2
  refine ⟨w.heap.size + 2, rfl, ?_, by omega, grown_alloc (grown_alloc (grown_alloc (grown_refl _ _) _) _) _⟩
  have := rowIs_cells (w := (w.alloc (.cells #[.int .i64 kind, .int .i64 a, .int .i64 b, .int .i64 c, .int .u64 hh] 54)).alloc (.cells #[.int .i64 kind, .int .i64 a, .int .i64 b, .int .i64 c, .int .u64 hh] 54))
    #[.int .i64 hand, .int .i64 kind, .int .i64 a, .int .i64 b, .int .i64 c, .int .u64 hh, .bool false, .int .u64 0] 144 (kAct.cell (kAct.init hand ⟨kind, a, b, c, hh⟩)) 8 rfl (fun i hi => by
      match i, hi with
      | 0, _ | 1, _ | 2, _ | 3, _ | 4, _ | 5, _ | 6, _ | 7, _ => rfl)
  simpa using this

theorem make_act_err (w : World) (hand : Int) (j : Jb) (h : ¬ kAct.err j = 0) :
    Calls Try.prog 69 #[.func (.func 41) #[] #[], .int .i64 hand, j.val] w fun e w' => e = .returned (.tuple #[.nilIface, .int .i64 (kAct.err j)]) ∧ w.grownBy w' none := by
  obtain ⟨kind, a, b, c, hh⟩ := j
  have hk : kind < 1 ∨ 5 < kind := by simp only [kAct] at h; omega
  have he : kAct.err ⟨kind, a, b, c, hh⟩ = 200 := by simp only [kAct]; rw [if_pos hk]
  rw [he]
  unfold Jb.val
  have hf := func_nil 41
  rcases hk with hk | hk
  all_goals go_enter Try.func69, Try.ntmps69
  all_goals go_wp2
  all_goals go_ret2
  all_goals exact ⟨rfl, grown_alloc (grown_alloc (grown_refl _ _) _) _⟩

theorem act_answer {w : World} {b : Nat} {s : ActS} (h : w.rowIs b 144 8 (kAct.cell s)) :
    Calls Try.prog 137 #[.pointer (some ⟨b, 0, none⟩)] w fun e w' => e = .returned s.told.value ∧ w.grownBy w' none := by
  obtain ⟨hand, j, ⟨ok, val⟩⟩ := s
  have h6 : w.cell? ⟨b, 6, none⟩ = some (.bool ok) := h.cell (i := 6) (by omega)
  have h7 : w.cell? ⟨b, 7, none⟩ = some (.int .u64 val) := h.cell (i := 7) (by omega)
  have hl := h.lt
  go_enter Try.func137, Try.ntmps137
  go_wp2
  go_light
  refine bodyPost_ret (v := Ans.value ⟨ok, val⟩) ?_ rfl ⟨rfl, grown_alloc (grown_refl _ _) _⟩
  simp [results, Try.results137, go_sem, Ans.value]

def zcell : Nat → Value := fun i => match i with | 0 => .int .i64 0 | 1 => .int .i64 0 | 2 => .int .i64 0 | 3 => .int .u64 0 | 4 => .int .u64 0 | _ => .bool false
theorem row0 (w : World) : (w.alloc (.cells #[.int .i64 0, .int .i64 0, .int .i64 0, .int .u64 0, .int .u64 0, .bool false] 46)).rowIs w.heap.size 46 6 zcell :=
  rowIs_cells _ 46 zcell 6 rfl (fun i hi => by
    match i, hi with
    | 0, _ | 1, _ | 2, _ | 3, _ | 4, _ | 5, _ => rfl)
theorem row0n (w : World) (o : Obj) : ((w.alloc o).alloc (.cells #[.int .i64 0, .int .i64 0, .int .i64 0, .int .u64 0, .int .u64 0, .bool false] 46)).rowIs (w.heap.size + 1) 46 6 zcell := by
  have := row0 (w.alloc o)
  simpa using this

theorem act_next_cell (s : kAct.σ) (x : Stp) (i : Nat) (hi : i < 8) : (fun j => if j = 7 then Value.int .u64 x.had else (fun j => if j = 6 then Value.bool x.ok else kAct.cell s j) j) i = kAct.cell (kAct.next s x) i := by
  match i, hi with
  | 0, _ | 1, _ | 2, _ | 3, _ | 4, _ | 5, _ | 6, _ | 7, _ => rfl

set_option maxHeartbeats 4000000 in
theorem act_step {w : World} {b bm bw n : Nat} {f : Nat → Int} {s : ActS} (h : w.rowIs b 144 8 (kAct.cell s)) (hm : IsMem w bm bw n f) (h1 : b ≠ bm) (h2 : b ≠ bw) (hw : s.j.wf) :
    Calls Try.prog 138 #[.pointer (some ⟨b, 0, none⟩), .pointer (some ⟨bm, 0, none⟩)] w fun e w' => e = .returned (.tuple #[(stepOf n f (kAct.req s)).val, .int .i64 1]) ∧
      w'.rowIs b 144 8 (kAct.cell (kAct.next s (stepOf n f (kAct.req s)))) ∧ IsMem w' bm bw n (wordsOf n f (kAct.req s)) ∧ Touch w w' (fun k => k = b ∨ k = bw) := by
  obtain ⟨hand, ⟨kind, a, bb, c, hh⟩, ⟨ok, val⟩⟩ := s
  have c0 : w.cell? ⟨b, 0, none⟩ = some (.int .i64 hand) := h.cell (i := 0) (by omega)
  have c1 : w.cell? ⟨b, 1, none⟩ = some (.int .i64 kind) := h.cell (i := 1) (by omega)
  have c2 : w.cell? ⟨b, 2, none⟩ = some (.int .i64 a) := h.cell (i := 2) (by omega)
  have c3 : w.cell? ⟨b, 3, none⟩ = some (.int .i64 bb) := h.cell (i := 3) (by omega)
  have c5 : w.cell? ⟨b, 5, none⟩ = some (.int .u64 hh) := h.cell (i := 5) (by omega)
  have hl := h.lt
  have hbb : IntKind.u64.wrap bb = bb % 18446744073709551616 := wrap_u64 bb
  have lw := hm.row.lt
  have lm := hm.head.lt
  have hn1 : w.heap.size + 1 ≠ b := by omega
  have M := hide hm
  have R := hide h
  have HW := hide hw
  clear hm h hw
  obtain ⟨x, hx⟩ : ∃ x, stepOf n f (kAct.req ⟨hand, ⟨kind, a, bb, c, hh⟩, ⟨ok, val⟩⟩) = x := ⟨_, rfl⟩
  rw [hx]
  have HX : Hid (stepOf n f ⟨hand, kind, a, bb % 18446744073709551616, hh, true⟩ = x) := hx
  clear hx
  obtain ⟨f', hf'⟩ : ∃ f', wordsOf n f (kAct.req ⟨hand, ⟨kind, a, bb, c, hh⟩, ⟨ok, val⟩⟩) = f' := ⟨_, rfl⟩
  rw [hf']
  have HF : Hid (wordsOf n f ⟨hand, kind, a, bb % 18446744073709551616, hh, true⟩ = f') := hf'
  clear hf'
  go_enter Try.func138, Try.ntmps138
  go_wp2_with fail
  go_region_held (fun w' => w'.cell? ⟨b, 0, none⟩ = some (.int .i64 hand) ∧ w'.cell? ⟨b, 1, none⟩ = some (.int .i64 kind) ∧ w'.cell? ⟨b, 2, none⟩ = some (.int .i64 a) ∧ w'.cell? ⟨b, 3, none⟩ = some (.int .i64 bb) ∧ w'.cell? ⟨b, 5, none⟩ = some (.int .u64 hh)) (go_keep)
    (first | (go_at_call 123; refine (do_mem (((M.out.alloc _).alloc _).drew) ⟨hand, kind, a, bb % 18446744073709551616, hh, true⟩ HW.out).mono ?_; rintro e w1 ⟨rfl, hm1, hg1⟩; rw [HX.out]; rw [HF.out] at hm1; simp only [Stp.val]; have M1 := hide hm1; have s1 := hg1.size; simp only [World.size_alloc, World.size_drew] at s1; have hn2 : w1.heap.size ≠ b := (by omega); have R1 := hide (((R.out.alloc _).alloc _).drew.of_block (hg1.block b (by simp; omega) (by simp [h2]))); have RR := hide (((row0 w).alloc _).drew.of_block (hg1.block w.heap.size (by simp; omega) (by simp; omega))); have RZ := hide ((row0n w _).drew.of_block (hg1.block (w.heap.size + 1) (by simp) (by simp; omega))); have T1 := hide ((((Touch.refl w (fun k => k = b ∨ k = bw)).alloc _).alloc _).drew.trans' (Touch.of_grown hg1) (fun k _ h => .inr (by simpa using h))); have d0 : w1.cell? ⟨b, 0, none⟩ = some (.int .i64 hand) := R1.out.cell (i := 0) (by omega); have d1 : w1.cell? ⟨b, 1, none⟩ = some (.int .i64 kind) := R1.out.cell (i := 1) (by omega); have d2 : w1.cell? ⟨b, 2, none⟩ = some (.int .i64 a) := R1.out.cell (i := 2) (by omega); have d3 : w1.cell? ⟨b, 3, none⟩ = some (.int .i64 bb) := R1.out.cell (i := 3) (by omega); have d5 : w1.cell? ⟨b, 5, none⟩ = some (.int .u64 hh) := R1.out.cell (i := 5) (by omega); have z0 : w1.cell? ⟨w.heap.size + 1, 0, none⟩ = some (.int .i64 0) := RZ.out.cell (i := 0) (by omega); have zf0 := RZ.out.frozen 0; have z1 : w1.cell? ⟨w.heap.size + 1, 1, none⟩ = some (.int .i64 0) := RZ.out.cell (i := 1) (by omega); have zf1 := RZ.out.frozen 1; have z2 : w1.cell? ⟨w.heap.size + 1, 2, none⟩ = some (.int .i64 0) := RZ.out.cell (i := 2) (by omega); have zf2 := RZ.out.frozen 2; have z3 : w1.cell? ⟨w.heap.size + 1, 3, none⟩ = some (.int .u64 0) := RZ.out.cell (i := 3) (by omega); have zf3 := RZ.out.frozen 3; have z4 : w1.cell? ⟨w.heap.size + 1, 4, none⟩ = some (.int .u64 0) := RZ.out.cell (i := 4) (by omega); have zf4 := RZ.out.frozen 4; have z5 : w1.cell? ⟨w.heap.size + 1, 5, none⟩ = some (.bool false) := RZ.out.cell (i := 5) (by omega); have zf5 := RZ.out.frozen 5; clear hm1 hg1) | (go_at_call 123; refine (do_mem ((M.out.alloc _).drew) ⟨hand, kind, a, bb % 18446744073709551616, hh, true⟩ HW.out).mono ?_; rintro e w1 ⟨rfl, hm1, hg1⟩; rw [HX.out]; rw [HF.out] at hm1; simp only [Stp.val]; have M1 := hide hm1; have s1 := hg1.size; simp only [World.size_alloc, World.size_drew] at s1; have hn2 : w1.heap.size ≠ b := (by omega); have R1 := hide ((R.out.alloc _).drew.of_block (hg1.block b (by simp; omega) (by simp [h2]))); have RR := hide ((row0 w).drew.of_block (hg1.block w.heap.size (by simp) (by simp; omega))); have T1 := hide (((Touch.refl w (fun k => k = b ∨ k = bw)).alloc _).drew.trans' (Touch.of_grown hg1) (fun k _ h => .inr (by simpa using h))); have d0 : w1.cell? ⟨b, 0, none⟩ = some (.int .i64 hand) := R1.out.cell (i := 0) (by omega); have d1 : w1.cell? ⟨b, 1, none⟩ = some (.int .i64 kind) := R1.out.cell (i := 1) (by omega); have d2 : w1.cell? ⟨b, 2, none⟩ = some (.int .i64 a) := R1.out.cell (i := 2) (by omega); have d3 : w1.cell? ⟨b, 3, none⟩ = some (.int .i64 bb) := R1.out.cell (i := 3) (by omega); have d5 : w1.cell? ⟨b, 5, none⟩ = some (.int .u64 hh) := R1.out.cell (i := 5) (by omega); clear hm1 hg1))
  all_goals have l1 : b < w1.heap.size := by omega
  all_goals have l2 : w.heap.size < w1.heap.size := by omega
  all_goals have hn3 : w.heap.size ≠ b := by omega
  all_goals clear c0 c1 c2 c3 c5 d0 d1 d2 d3 d5
  all_goals have d6 : w1.cell? ⟨b, 6, none⟩ = some (.bool ok) := R1.out.cell (i := 6) (by omega)
  all_goals have d7 : w1.cell? ⟨b, 7, none⟩ = some (.int .u64 val) := R1.out.cell (i := 7) (by omega)
  all_goals have df6 := R1.out.frozen 6
  all_goals have df7 := R1.out.frozen 7
  all_goals have r0 : w1.cell? ⟨w.heap.size, 0, none⟩ = some (.int .i64 0) := RR.out.cell (i := 0) (by omega)
  all_goals have rf0 := RR.out.frozen 0
  all_goals have r1 : w1.cell? ⟨w.heap.size, 1, none⟩ = some (.int .i64 0) := RR.out.cell (i := 1) (by omega)
  all_goals have rf1 := RR.out.frozen 1
  all_goals have r2 : w1.cell? ⟨w.heap.size, 2, none⟩ = some (.int .i64 0) := RR.out.cell (i := 2) (by omega)
  all_goals have rf2 := RR.out.frozen 2
  all_goals have r3 : w1.cell? ⟨w.heap.size, 3, none⟩ = some (.int .u64 0) := RR.out.cell (i := 3) (by omega)
  all_goals have rf3 := RR.out.frozen 3
  all_goals have r4 : w1.cell? ⟨w.heap.size, 4, none⟩ = some (.int .u64 0) := RR.out.cell (i := 4) (by omega)
  all_goals have rf4 := RR.out.frozen 4
  all_goals have r5 : w1.cell? ⟨w.heap.size, 5, none⟩ = some (.bool false) := RR.out.cell (i := 5) (by omega)
  all_goals have rf5 := RR.out.frozen 5
  all_goals go_wp2_with fail
  all_goals go_light
  all_goals
    refine bodyPost_ret (v := .tuple #[x.val, .int .i64 1]) ?res rfl ⟨rfl, ?row, ?mem, ?tch⟩
    case row =>
      refine World.rowIs.congr ?_ (fun i hi => act_next_cell _ x i hi)
      try with_reducible apply World.rowIs.alloc
      repeat (with_reducible refine World.rowIs.setOther ?_ ?side _; case side => (simp; omega))
      with_reducible refine World.rowIs.set ?_ 7 _
      with_reducible refine World.rowIs.set ?_ 6 _
      repeat (with_reducible refine World.rowIs.setOther ?_ ?side _; case side => (simp; omega))
      exact R1.out
    case mem =>
      try with_reducible apply IsMem.alloc
      repeat ((with_reducible refine IsMem.setOther ?_ ?_ ?_ _); rotate_left; (simp; omega); (simp; omega))
      exact M1.out
    case tch =>
      try with_reducible apply Touch.alloc
      repeat (with_reducible refine Touch.setCell ?_ _ ?side _; case side => simp)
      exact T1.out
    case res => simp [results, Try.results138, go_sem, Stp.val, *]

end Go.Proofs.Ytdbiphibdaghkaa
