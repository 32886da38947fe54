/-
  Lemmas: TallyK.
-/
import Derived.Test.YtmkkkknalldckaaTr22
import Derived.Test.YtmkkkknalldckaaTr23
/-
  The tally's kind of tasks: what each does is what its abstract task says.
-/
namespace Go.Proofs.Ytmkkkknalldckaa
open Go.RowKit
set_option linter.unusedVariables false
set_option linter.unusedSimpArgs false
set_option maxRecDepth 20000
namespace Tally

structure TaS where
  hand : Int
  j : Jb
  st : Int
  sn : Int
  told : Ans

def terr (room : Int) (j : Jb) : Int := if j.kind < 1 ∨ 3 < j.kind then 200 else if j.kind = 2 then 0 else if j.a < 0 ∨ room ≤ j.a then 2 else 0
def treq (room : Int) (s : TaS) : Stp :=
  if s.j.kind = 1 then ⟨s.hand, 4, s.j.a, 0, s.j.h, true⟩ else if s.j.kind = 2 then ⟨s.hand, 1, s.st, 0, 0, true⟩ else if s.st = 0 then ⟨s.hand, 1, room + s.j.a, 0, 0, true⟩ else ⟨s.hand, 5, room + s.j.a, s.sn, s.j.h, true⟩
def tends (room : Int) (s : TaS) (x : Stp) : Bool :=
  if s.j.kind = 1 then true else if s.j.kind = 2 then decide (¬ wrap64 (s.st + 1) < room) else if s.st = 0 then decide (s.j.h ≤ x.had) else x.ok
def tnext (room : Int) (s : TaS) (x : Stp) : TaS :=
  if s.j.kind = 1 then { s with told := ⟨true, x.put⟩ }
  else if s.j.kind = 2 then { s with st := wrap64 (s.st + 1), sn := (s.sn + x.had) % 18446744073709551616, told := if wrap64 (s.st + 1) < room then s.told else ⟨true, (s.sn + x.had) % 18446744073709551616⟩ }
  else if s.st = 0 then (if s.j.h ≤ x.had then { s with told := ⟨false, x.had⟩ } else { s with st := 1, sn := x.had })
  else if x.ok = true then { s with told := ⟨true, s.j.h⟩ } else { s with st := 0 }
def tcell (room : Int) (s : TaS) : Nat → Value :=
  if s.j.kind = 1 then cntC s.hand s.j.a s.j.h s.told else if s.j.kind = 2 then sumC s.hand room s.st s.sn s.told else mstC s.hand (room + s.j.a) s.j.h s.sn (decide (s.st ≠ 0)) s.told
def tpick {α : Type} (j : Jb) (x y z : α) : α := if j.kind = 1 then x else if j.kind = 2 then y else z

def kTally (room : Int) : Kd where
  σ := TaS
  err _ := terr room
  init h j := ⟨h, j, 0, 0, ⟨false, 0⟩⟩
  req := treq room
  next := tnext room
  ends := tends room
  tell s := s.told
  tid j := tpick j 97 94 100
  t j := tpick j 99 96 102
  n j := tpick j 5 6 7
  fs j := tpick j 83 72 85
  fa j := tpick j 82 71 84
  cell := fun _ => tcell room
  wf j s := s.j = j

theorem pick1 {α : Type} {j : Jb} (h : j.kind = 1) (x y z : α) : tpick j x y z = x := by simp [tpick, h]
theorem pick2 {α : Type} {j : Jb} (h : j.kind = 2) (x y z : α) : tpick j x y z = y := by simp [tpick, h]
theorem pick3 {α : Type} {j : Jb} (h1 : ¬ j.kind = 1) (h2 : ¬ j.kind = 2) (x y z : α) : tpick j x y z = z := by simp [tpick, h1, h2]

set_option maxHeartbeats 4000000 in
/-- raising.Step: one of its two. -/
theorem mst_raise {w : World} {b bm bw n : Nat} {f f' : Nat → Int} {x : Stp} {v : Int} {hand at_ hh sn : Int} {t : Ans} {C' : Nat → Value} (h : w.rowIs b 102 7 (mstC hand at_ hh sn true t)) (hm : IsMem w bm bw n f) (h1 : b ≠ bm) (h2 : b ≠ bw)
    (hc : ∀ w1 : World, w1.rowIs b 102 7 (mstC hand at_ hh sn true t) → IsMem w1 bm bw n f → Calls Try.prog 86 #[.pointer (some ⟨b, 0, none⟩), .pointer (some ⟨bm, 0, none⟩)] w1 fun e w' => e = .returned (.tuple #[x.val, .int .i64 v]) ∧ w'.rowIs b 102 7 C' ∧ IsMem w' bm bw n f' ∧ Touch w1 w' (fun k => k = b ∨ k = bw)) :
    Calls Try.prog 85 #[.pointer (some ⟨b, 0, none⟩), .pointer (some ⟨bm, 0, none⟩)] w fun e w' => e = .returned (.tuple #[x.val, .int .i64 v]) ∧ w'.rowIs b 102 7 C' ∧ IsMem w' bm bw n f' ∧ Touch w w' (fun k => k = b ∨ k = bw) := by
  have c4 : w.cell? ⟨b, 4, none⟩ = some (.bool true) := h.cell (i := 4) (by omega)
  have hl := h.lt
  have lw := hm.row.lt
  have lm0 := hm.head.lt
  have K0 := hide (hc (w.alloc (.cells #[.int .i64 0, .int .i64 0, .int .i64 0, .int .u64 0, .int .u64 0, .bool false] 38)) (h.alloc _) (hm.alloc _))
  have RW := hide (row0 w)
  clear h hm hc
  go_enter Try.func85, Try.ntmps85
  go_wp2_with fail
  refine K0.out.mono ?_
  rintro e w1 ⟨rfl, row1, mem1, t1⟩
  simp only [Stp.val]
  have s1 := t1.size
  simp only [World.size_alloc] at s1
  have RR := hide (RW.out.of_block (t1.block w.heap.size (by simp) (by omega)))
  have R1 := hide row1
  have M1 := hide mem1
  have T1 := hide (((Touch.refl w (fun k => k = b ∨ k = bw)).alloc (.cells #[.int .i64 0, .int .i64 0, .int .i64 0, .int .u64 0, .int .u64 0, .bool false] 38)).trans t1)
  have l2 : w.heap.size < w1.heap.size := by omega
  have hn3 : w.heap.size ≠ b := by omega
  have lm := mem1.head.lt
  have hn4 : w.heap.size ≠ bw := by omega
  clear row1 mem1 t1 c4
  have r0 : w1.cell? ⟨w.heap.size, 0, none⟩ = some (.int .i64 0) := RR.out.cell (i := 0) (by omega)
  have rf0 := RR.out.frozen 0
  have r1 : w1.cell? ⟨w.heap.size, 1, none⟩ = some (.int .i64 0) := RR.out.cell (i := 1) (by omega)
  have rf1 := RR.out.frozen 1
  have r2 : w1.cell? ⟨w.heap.size, 2, none⟩ = some (.int .i64 0) := RR.out.cell (i := 2) (by omega)
  have rf2 := RR.out.frozen 2
  have r3 : w1.cell? ⟨w.heap.size, 3, none⟩ = some (.int .u64 0) := RR.out.cell (i := 3) (by omega)
  have rf3 := RR.out.frozen 3
  have r4 : w1.cell? ⟨w.heap.size, 4, none⟩ = some (.int .u64 0) := RR.out.cell (i := 4) (by omega)
  have rf4 := RR.out.frozen 4
  have r5 : w1.cell? ⟨w.heap.size, 5, none⟩ = some (.bool false) := RR.out.cell (i := 5) (by omega)
  have rf5 := RR.out.frozen 5
  go_wp2_with fail
  try (go_region; all_goals go_wp2_with fail)
  all_goals go_light
  all_goals
    refine bodyPost_ret (v := .tuple #[x.val, .int .i64 v]) ?res rfl ⟨rfl, ?row, ?mem, ?tch⟩
    case row =>
      repeat (first | (with_reducible apply World.rowIs.alloc) | (with_reducible apply World.rowIs.drew) | (with_reducible refine World.rowIs.setOther ?_ ?side _; case side => (simp; omega)))
      with_reducible exact R1.out
    case mem =>
      repeat (first | (with_reducible apply IsMem.alloc) | (with_reducible apply IsMem.drew) | ((with_reducible refine IsMem.setOther ?_ ?_ ?_ _); rotate_left; (simp; omega); (simp; omega)))
      with_reducible exact M1.out
    case tch =>
      repeat (first | (with_reducible apply Touch.alloc) | (with_reducible apply Touch.drew) | (with_reducible refine Touch.setCell ?_ _ ?side _; case side => simp))
      with_reducible exact T1.out
    case res => simp [results, Try.results85, go_sem, Stp.val, *]
set_option maxHeartbeats 4000000 in
/-- raising.Step: one of its two. -/
theorem mst_look {w : World} {b bm bw n : Nat} {f f' : Nat → Int} {x : Stp} {v : Int} {hand at_ hh sn : Int} {t : Ans} {C' : Nat → Value} (h : w.rowIs b 102 7 (mstC hand at_ hh sn false t)) (hm : IsMem w bm bw n f) (h1 : b ≠ bm) (h2 : b ≠ bw)
    (hc : ∀ w1 : World, w1.rowIs b 102 7 (mstC hand at_ hh sn false t) → IsMem w1 bm bw n f → Calls Try.prog 87 #[.pointer (some ⟨b, 0, none⟩), .pointer (some ⟨bm, 0, none⟩)] w1 fun e w' => e = .returned (.tuple #[x.val, .int .i64 v]) ∧ w'.rowIs b 102 7 C' ∧ IsMem w' bm bw n f' ∧ Touch w1 w' (fun k => k = b ∨ k = bw)) :
    Calls Try.prog 85 #[.pointer (some ⟨b, 0, none⟩), .pointer (some ⟨bm, 0, none⟩)] w fun e w' => e = .returned (.tuple #[x.val, .int .i64 v]) ∧ w'.rowIs b 102 7 C' ∧ IsMem w' bm bw n f' ∧ Touch w w' (fun k => k = b ∨ k = bw) := by
  have c4 : w.cell? ⟨b, 4, none⟩ = some (.bool false) := h.cell (i := 4) (by omega)
  have hl := h.lt
  have lw := hm.row.lt
  have lm0 := hm.head.lt
  have K0 := hide (hc (w.alloc (.cells #[.int .i64 0, .int .i64 0, .int .i64 0, .int .u64 0, .int .u64 0, .bool false] 38)) (h.alloc _) (hm.alloc _))
  have RW := hide (row0 w)
  clear h hm hc
  go_enter Try.func85, Try.ntmps85
  go_wp2_with fail
  refine K0.out.mono ?_
  rintro e w1 ⟨rfl, row1, mem1, t1⟩
  simp only [Stp.val]
  have s1 := t1.size
  simp only [World.size_alloc] at s1
  have RR := hide (RW.out.of_block (t1.block w.heap.size (by simp) (by omega)))
  have R1 := hide row1
  have M1 := hide mem1
  have T1 := hide (((Touch.refl w (fun k => k = b ∨ k = bw)).alloc (.cells #[.int .i64 0, .int .i64 0, .int .i64 0, .int .u64 0, .int .u64 0, .bool false] 38)).trans t1)
  have l2 : w.heap.size < w1.heap.size := by omega
  have hn3 : w.heap.size ≠ b := by omega
  have lm := mem1.head.lt
  have hn4 : w.heap.size ≠ bw := by omega
  clear row1 mem1 t1 c4
  have r0 : w1.cell? ⟨w.heap.size, 0, none⟩ = some (.int .i64 0) := RR.out.cell (i := 0) (by omega)
  have rf0 := RR.out.frozen 0
  have r1 : w1.cell? ⟨w.heap.size, 1, none⟩ = some (.int .i64 0) := RR.out.cell (i := 1) (by omega)
  have rf1 := RR.out.frozen 1
  have r2 : w1.cell? ⟨w.heap.size, 2, none⟩ = some (.int .i64 0) := RR.out.cell (i := 2) (by omega)
  have rf2 := RR.out.frozen 2
  have r3 : w1.cell? ⟨w.heap.size, 3, none⟩ = some (.int .u64 0) := RR.out.cell (i := 3) (by omega)
  have rf3 := RR.out.frozen 3
  have r4 : w1.cell? ⟨w.heap.size, 4, none⟩ = some (.int .u64 0) := RR.out.cell (i := 4) (by omega)
  have rf4 := RR.out.frozen 4
  have r5 : w1.cell? ⟨w.heap.size, 5, none⟩ = some (.bool false) := RR.out.cell (i := 5) (by omega)
  have rf5 := RR.out.frozen 5
  go_wp2_with fail
  try (go_region; all_goals go_wp2_with fail)
  all_goals go_light
  all_goals
    refine bodyPost_ret (v := .tuple #[x.val, .int .i64 v]) ?res rfl ⟨rfl, ?row, ?mem, ?tch⟩
    case row =>
      repeat (first | (with_reducible apply World.rowIs.alloc) | (with_reducible apply World.rowIs.drew) | (with_reducible refine World.rowIs.setOther ?_ ?side _; case side => (simp; omega)))
      with_reducible exact R1.out
    case mem =>
      repeat (first | (with_reducible apply IsMem.alloc) | (with_reducible apply IsMem.drew) | ((with_reducible refine IsMem.setOther ?_ ?_ ?_ _); rotate_left; (simp; omega); (simp; omega)))
      with_reducible exact M1.out
    case tch =>
      repeat (first | (with_reducible apply Touch.alloc) | (with_reducible apply Touch.drew) | (with_reducible refine Touch.setCell ?_ _ ?side _; case side => simp))
      with_reducible exact T1.out
    case res => simp [results, Try.results85, go_sem, Stp.val, *]

theorem fine_cases {room : Int} {j : Jb} (h : (kTally room).fine j) : (j.kind = 1 ∧ 0 ≤ j.a ∧ j.a < room) ∨ j.kind = 2 ∨ (j.kind = 3 ∧ 0 ≤ j.a ∧ j.a < room) := by
  have h2 : terr room j = 0 := h.2.choose_spec
  unfold terr at h2
  split at h2
  · cases h2
  · split at h2
    · exact .inr (.inl (by assumption))
    · split at h2
      · cases h2
      · omega

theorem tnext_j (room : Int) (s : TaS) (x : Stp) : (tnext room s x).j = s.j := by
  unfold tnext
  split
  · rfl
  · split
    · rfl
    · split
      · split <;> rfl
      · split <;> rfl

theorem step_any (room : Int) {w : World} {b bm bw n : Nat} {f : Nat → Int} {s : TaS} {j : Jb} (hf : (kTally room).fine j) (hj : s.j = j) (h : w.rowIs b ((kTally room).t j) ((kTally room).n j) (tcell room s)) (hm : IsMem w bm bw n f) (h1 : b ≠ bm) (h2 : b ≠ bw) :
    Calls Try.prog ((kTally room).fs j) #[.pointer (some ⟨b, 0, none⟩), .pointer (some ⟨bm, 0, none⟩)] w fun e w' => e = .returned (.tuple #[(stepOf n f (treq room s)).val, .int .i64 (if tends room s (stepOf n f (treq room s)) = true then 1 else 0)]) ∧
      w'.rowIs b ((kTally room).t j) ((kTally room).n j) (tcell room (tnext room s (stepOf n f (treq room s)))) ∧ IsMem w' bm bw n (wordsOf n f (treq room s)) ∧ Touch w w' (fun k => k = b ∨ k = bw) := by
  have hw := hf.1
  subst hj
  obtain ⟨x, hx⟩ : ∃ x, stepOf n f (treq room s) = x := ⟨_, rfl⟩
  obtain ⟨f', hf'⟩ : ∃ f', wordsOf n f (treq room s) = f' := ⟨_, rfl⟩
  rw [hx, hf']
  rcases fine_cases hf with ⟨hk, _⟩ | hk | ⟨hk, _⟩
  · have e1 : (kTally room).t s.j = 99 := pick1 hk _ _ _
    have e2 : (kTally room).n s.j = 5 := pick1 hk _ _ _
    have e3 : (kTally room).fs s.j = 83 := pick1 hk _ _ _
    have e4 : treq room s = ⟨s.hand, 4, s.j.a, 0, s.j.h, true⟩ := by simp [treq, hk]
    have e5 : tends room s x = true := by simp [tends, hk]
    have e6 : tcell room s = cntC s.hand s.j.a s.j.h s.told := by simp [tcell, hk]
    have e7 : tcell room (tnext room s x) = cntC s.hand s.j.a s.j.h ⟨true, x.put⟩ := by simp [tcell, tnext, hk]
    rw [e1, e2, e6] at h
    rw [e1, e2, e3, e5, e7, if_pos rfl]
    rw [e4] at hx hf'
    exact cnt_step h hm h1 h2 hw hx hf'
  · have e1 : (kTally room).t s.j = 96 := pick2 hk _ _ _
    have e2 : (kTally room).n s.j = 6 := pick2 hk _ _ _
    have e3 : (kTally room).fs s.j = 72 := pick2 hk _ _ _
    have e4 : treq room s = ⟨s.hand, 1, s.st, 0, 0, true⟩ := by simp [treq, hk]
    have e6 : tcell room s = sumC s.hand room s.st s.sn s.told := by simp [tcell, hk]
    rw [e1, e2, e6] at h
    rw [e4] at hx hf'
    by_cases hlt : wrap64 (s.st + 1) < room
    · have e5 : tends room s x = false := by simp [tends, hk, hlt]
      have e7 : tcell room (tnext room s x) = sumC s.hand room (wrap64 (s.st + 1)) ((s.sn + x.had) % 18446744073709551616) s.told := by simp [tcell, tnext, hk, hlt]
      rw [e1, e2, e3, e5, e7, if_neg (by decide)]
      exact sum_goes h hm h1 h2 hlt hx hf'
    · have e5 : tends room s x = true := by simp [tends, hk]; omega
      have e7 : tcell room (tnext room s x) = sumC s.hand room (wrap64 (s.st + 1)) ((s.sn + x.had) % 18446744073709551616) ⟨true, (s.sn + x.had) % 18446744073709551616⟩ := by simp [tcell, tnext, hk, hlt]
      rw [e1, e2, e3, e5, e7, if_pos rfl]
      exact sum_ends h hm h1 h2 hlt hx hf'
  · have k1 : ¬ s.j.kind = 1 := by omega
    have k2 : ¬ s.j.kind = 2 := by omega
    have e1 : (kTally room).t s.j = 102 := pick3 k1 k2 _ _ _
    have e2 : (kTally room).n s.j = 7 := pick3 k1 k2 _ _ _
    have e3 : (kTally room).fs s.j = 85 := pick3 k1 k2 _ _ _
    by_cases h0 : s.st = 0
    · have e4 : treq room s = ⟨s.hand, 1, room + s.j.a, 0, 0, true⟩ := by simp [treq, k1, k2, h0]
      have e6 : tcell room s = mstC s.hand (room + s.j.a) s.j.h s.sn false s.told := by simp [tcell, k1, k2, h0]
      rw [e1, e2, e6] at h
      rw [e4] at hx hf'
      by_cases hge : s.j.h ≤ x.had
      · have e5 : tends room s x = true := by simp [tends, k1, k2, h0, hge]
        have e7 : tcell room (tnext room s x) = mstC s.hand (room + s.j.a) s.j.h s.sn false ⟨false, x.had⟩ := by simp [tcell, tnext, k1, k2, h0, hge]
        rw [e1, e2, e3, e5, e7, if_pos rfl]
        exact mst_look h hm h1 h2 (fun w1 r1 m1 => look_ends r1 m1 h1 h2 hge hx hf')
      · have e5 : tends room s x = false := by simp [tends, k1, k2, h0]; omega
        have e7 : tcell room (tnext room s x) = mstC s.hand (room + s.j.a) s.j.h x.had true s.told := by simp [tcell, tnext, k1, k2, h0, hge]
        rw [e1, e2, e3, e5, e7, if_neg (by decide)]
        exact mst_look h hm h1 h2 (fun w1 r1 m1 => look_goes r1 m1 h1 h2 hge hx hf')
    · have e4 : treq room s = ⟨s.hand, 5, room + s.j.a, s.sn, s.j.h, true⟩ := by simp [treq, k1, k2, h0]
      have e6 : tcell room s = mstC s.hand (room + s.j.a) s.j.h s.sn true s.told := by simp [tcell, k1, k2, h0]
      rw [e1, e2, e6] at h
      rw [e4] at hx hf'
      cases hok : x.ok with
      | true =>
        have e5 : tends room s x = true := by simp [tends, k1, k2, h0, hok]
        have e7 : tcell room (tnext room s x) = mstC s.hand (room + s.j.a) s.j.h s.sn true ⟨true, s.j.h⟩ := by simp [tcell, tnext, k1, k2, h0, hok]
        rw [e1, e2, e3, e5, e7, if_pos rfl]
        exact mst_raise h hm h1 h2 (fun w1 r1 m1 => raise_ends r1 m1 h1 h2 hw hok hx hf')
      | false =>
        have e5 : tends room s x = false := by simp [tends, k1, k2, h0, hok]
        have e7 : tcell room (tnext room s x) = mstC s.hand (room + s.j.a) s.j.h s.sn false s.told := by simp [tcell, tnext, k1, k2, h0, hok]
        rw [e1, e2, e3, e5, e7, if_neg (by decide)]
        exact mst_raise h hm h1 h2 (fun w1 r1 m1 => raise_goes r1 m1 h1 h2 hw hok hx hf')

theorem ans_any (room : Int) {w : World} {b : Nat} {s : TaS} {j : Jb} (hf : (kTally room).fine j) (hj : s.j = j) (h : w.rowIs b ((kTally room).t j) ((kTally room).n j) (tcell room s)) :
    Calls Try.prog ((kTally room).fa j) #[.pointer (some ⟨b, 0, none⟩)] w fun e w' => e = .returned s.told.value ∧ w.grownBy w' none := by
  subst hj
  rcases fine_cases hf with ⟨hk, _⟩ | hk | ⟨hk, _⟩
  · rw [show (kTally room).t s.j = 99 from pick1 hk _ _ _, show (kTally room).n s.j = 5 from pick1 hk _ _ _, show tcell room s = cntC s.hand s.j.a s.j.h s.told by simp [tcell, hk]] at h
    rw [show (kTally room).fa s.j = 82 from pick1 hk _ _ _]
    exact cnt_ans h
  · rw [show (kTally room).t s.j = 96 from pick2 hk _ _ _, show (kTally room).n s.j = 6 from pick2 hk _ _ _, show tcell room s = sumC s.hand room s.st s.sn s.told by simp [tcell, hk]] at h
    rw [show (kTally room).fa s.j = 71 from pick2 hk _ _ _]
    exact sum_ans h
  · have k1 : ¬ s.j.kind = 1 := by omega
    have k2 : ¬ s.j.kind = 2 := by omega
    rw [show (kTally room).t s.j = 102 from pick3 k1 k2 _ _ _, show (kTally room).n s.j = 7 from pick3 k1 k2 _ _ _, show tcell room s = mstC s.hand (room + s.j.a) s.j.h s.sn (decide (s.st ≠ 0)) s.told by simp [tcell, k1, k2]] at h
    rw [show (kTally room).fa s.j = 84 from pick3 k1 k2 _ _ _]
    exact mst_ans h

theorem ms1 (b : Nat) (w : World) : (method 268 97 (.pointer (some ⟨b, 0, none⟩)) "Step").run Try.prog w = .ok (83, .pointer (some ⟨b, 0, none⟩)) w := by kernel_rfl
theorem ms2 (b : Nat) (w : World) : (method 268 94 (.pointer (some ⟨b, 0, none⟩)) "Step").run Try.prog w = .ok (72, .pointer (some ⟨b, 0, none⟩)) w := by kernel_rfl
theorem ms3 (b : Nat) (w : World) : (method 268 100 (.pointer (some ⟨b, 0, none⟩)) "Step").run Try.prog w = .ok (85, .pointer (some ⟨b, 0, none⟩)) w := by kernel_rfl
theorem ma1 (b : Nat) (w : World) : (method 268 97 (.pointer (some ⟨b, 0, none⟩)) "Answer").run Try.prog w = .ok (82, .pointer (some ⟨b, 0, none⟩)) w := by kernel_rfl
theorem ma2 (b : Nat) (w : World) : (method 268 94 (.pointer (some ⟨b, 0, none⟩)) "Answer").run Try.prog w = .ok (71, .pointer (some ⟨b, 0, none⟩)) w := by kernel_rfl
theorem ma3 (b : Nat) (w : World) : (method 268 100 (.pointer (some ⟨b, 0, none⟩)) "Answer").run Try.prog w = .ok (84, .pointer (some ⟨b, 0, none⟩)) w := by kernel_rfl
theorem cs1 (args : Array Value) (w : World) : (callFunc 83 args).run Try.prog w = .ok (.enter 83 args) w := by simp [go_sem]
theorem cs2 (args : Array Value) (w : World) : (callFunc 72 args).run Try.prog w = .ok (.enter 72 args) w := by simp [go_sem]
theorem cs3 (args : Array Value) (w : World) : (callFunc 85 args).run Try.prog w = .ok (.enter 85 args) w := by simp [go_sem]
theorem ca1 (args : Array Value) (w : World) : (callFunc 82 args).run Try.prog w = .ok (.enter 82 args) w := by simp [go_sem]
theorem ca2 (args : Array Value) (w : World) : (callFunc 71 args).run Try.prog w = .ok (.enter 71 args) w := by simp [go_sem]
theorem ca3 (args : Array Value) (w : World) : (callFunc 84 args).run Try.prog w = .ok (.enter 84 args) w := by simp [go_sem]

theorem pick_any {α : Type} {room : Int} {j : Jb} (h : (kTally room).fine j) (p : α → Prop) (x y z : α) (hx : p x) (hy : p y) (hz : p z) : p (tpick j x y z) := by
  unfold tpick
  split
  · exact hx
  · split
    · exact hy
    · exact hz

theorem isKindO (room : Int) : IsKindO (kTally room) where
  ok := ⟨fun h j hj => rfl, fun j s n f _ hs => (tnext_j room s _).trans hs⟩
  step := fun hf hj h hm h1 h2 => step_any room hf hj h hm h1 h2
  ans := fun hf hj h => ans_any room hf hj h
  mstep := fun j hf b w => by
    rcases fine_cases hf with ⟨hk, _⟩ | hk | ⟨hk, _⟩
    · rw [show (kTally room).tid j = 97 from pick1 hk _ _ _, show (kTally room).fs j = 83 from pick1 hk _ _ _]; exact ms1 b w
    · rw [show (kTally room).tid j = 94 from pick2 hk _ _ _, show (kTally room).fs j = 72 from pick2 hk _ _ _]; exact ms2 b w
    · rw [show (kTally room).tid j = 100 from pick3 (by omega) (by omega) _ _ _, show (kTally room).fs j = 85 from pick3 (by omega) (by omega) _ _ _]; exact ms3 b w
  mans := fun j hf b w => by
    rcases fine_cases hf with ⟨hk, _⟩ | hk | ⟨hk, _⟩
    · rw [show (kTally room).tid j = 97 from pick1 hk _ _ _, show (kTally room).fa j = 82 from pick1 hk _ _ _]; exact ma1 b w
    · rw [show (kTally room).tid j = 94 from pick2 hk _ _ _, show (kTally room).fa j = 71 from pick2 hk _ _ _]; exact ma2 b w
    · rw [show (kTally room).tid j = 100 from pick3 (by omega) (by omega) _ _ _, show (kTally room).fa j = 84 from pick3 (by omega) (by omega) _ _ _]; exact ma3 b w
  cstep := fun j hf args w => pick_any hf (fun F => (callFunc F args).run Try.prog w = .ok (.enter F args) w) _ _ _ (cs1 args w) (cs2 args w) (cs3 args w)
  cans := fun j hf args w => pick_any hf (fun F => (callFunc F args).run Try.prog w = .ok (.enter F args) w) _ _ _ (ca1 args w) (ca2 args w) (ca3 args w)
theorem isKind (room : Int) : IsKind (kTally room) := (isKindO room).to
end Tally
end Go.Proofs.Ytmkkkknalldckaa
