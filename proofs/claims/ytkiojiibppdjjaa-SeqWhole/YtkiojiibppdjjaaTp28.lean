/-
  Lemmas: SeqG, SeqK.
-/
import Derived.Test.YtkiojiibppdjjaaTp26
import Derived.Test.YtkiojiibppdjjaaTp27
import Derived.Test.YtkiojiibppdjjaaTp25
/-
  The tasks of a record with a version: a Read, its Step.
-/
namespace Go.Proofs.Ytkiojiibppdjjaa
open Go.RowKit
set_option linter.unusedVariables false
set_option linter.unusedSimpArgs false
set_option maxRecDepth 20000
namespace Seq

set_option maxHeartbeats 4000000 in
theorem rs0 {w : World} {b bm bw n : Nat} {f f' : Nat → Int} {x : Stp} {hand last at_ seen fov : Int} {fok : Bool} {t : Ans} {C' : Nat → Value} (h : w.rowIs b 103 9 (rdC hand last 0 at_ seen ⟨fok, fov⟩ t)) (hm : IsMem w bm bw n f) (h1 : b ≠ bm) (h2 : b ≠ bw)
    (hc : ∀ w1 : World, w1.rowIs b 103 9 (rdC hand last 0 at_ seen ⟨fok, fov⟩ t) → IsMem w1 bm bw n f → Calls Try.prog 106 #[.pointer (some ⟨b, 0, none⟩), .pointer (some ⟨bm, 0, none⟩)] w1 fun e w' => e = .returned (x.val) ∧ w'.rowIs b 103 9 C' ∧ IsMem w' bm bw n f' ∧ Touch w1 w' (fun k => k = b ∨ k = bw)) :
    Calls Try.prog 105 #[.pointer (some ⟨b, 0, none⟩), .pointer (some ⟨bm, 0, none⟩)] w fun e w' => e = .returned (.tuple #[x.val, .int .i64 0]) ∧ w'.rowIs b 103 9 C' ∧ IsMem w' bm bw n f' ∧ Touch w w' (fun k => k = b ∨ k = bw) := by
  have c2 : w.cell? ⟨b, 2, none⟩ = some (.int .i64 0) := h.cell (i := 2) (by omega)
  have hl := h.lt
  have lw := hm.row.lt
  have lm0 := hm.head.lt
  have K0 := hide (hc (w.alloc (.cells #[.int .i64 0, .int .i64 0, .int .i64 0, .int .u64 0, .int .u64 0, .bool false] 77)) (h.alloc _) (hm.alloc _))
  have RW := hide (row0 w)
  clear h hm hc
  go_enter Try.func105, Try.ntmps105
  go_wp2_with fail
  refine K0.out.mono ?_
  rintro e w1 ⟨rfl, row1, mem1, t1⟩
  simp only [Stp.val]
  have s1 := t1.size
  simp only [World.size_alloc] at s1
  have RR := hide (RW.out.of_block (t1.block w.heap.size (by simp) (by omega)))
  have R1 := hide row1
  have M1 := hide mem1
  have T1 := hide (((Touch.refl w (fun k => k = b ∨ k = bw)).alloc (.cells #[.int .i64 0, .int .i64 0, .int .i64 0, .int .u64 0, .int .u64 0, .bool false] 77)).trans t1)
  have l2 : w.heap.size < w1.heap.size := by omega
  have hn3 : w.heap.size ≠ b := by omega
  have hn4 : w.heap.size ≠ bw := by omega
  clear row1 mem1 t1 c2
  obtain ⟨⟨r0, rf0⟩, ⟨r1, rf1⟩, ⟨r2, rf2⟩, ⟨r3, rf3⟩, ⟨r4, rf4⟩, r5, rf5⟩ := res_facts RR.out
  go_wp2_with fail
  go_light
  refine bodyPost_ret (v := .tuple #[x.val, .int .i64 0]) ?res rfl ⟨rfl, ?row, ?mem, ?tch⟩
  case row =>
    repeat (first | (with_reducible apply World.rowIs.alloc) | (with_reducible apply World.rowIs.drew) | (with_reducible refine World.rowIs.setOther ?_ ?side _; case side => (simp; omega)))
    with_reducible exact R1.out
  case mem =>
    repeat (first | (with_reducible apply IsMem.alloc) | (with_reducible apply IsMem.drew) | ((with_reducible refine IsMem.setOther ?_ ?_ ?_ _); rotate_left; (simp; omega); (simp; omega)))
    with_reducible exact M1.out
  case tch =>
    repeat (first | (with_reducible apply Touch.alloc) | (with_reducible apply Touch.drew) | (with_reducible refine Touch.setCell ?_ _ ?side _; case side => (first | (simp; done) | (simp; omega))))
    with_reducible exact T1.out
  case res => simp [results, Try.results105, go_sem, Stp.val, *]

set_option maxHeartbeats 4000000 in
theorem rs2 {w : World} {b bm bw n : Nat} {f f' : Nat → Int} {x : Stp} {hand last at_ seen fov : Int} {fok : Bool} {t : Ans} {C' : Nat → Value} (h : w.rowIs b 103 9 (rdC hand last 2 at_ seen ⟨fok, fov⟩ t)) (hm : IsMem w bm bw n f) (h1 : b ≠ bm) (h2 : b ≠ bw)
    (hc : ∀ w1 : World, w1.rowIs b 103 9 (rdC hand last 2 at_ seen ⟨fok, fov⟩ t) → IsMem w1 bm bw n f → Calls Try.prog 107 #[.pointer (some ⟨b, 0, none⟩), .pointer (some ⟨bm, 0, none⟩)] w1 fun e w' => e = .returned (x.val) ∧ w'.rowIs b 103 9 C' ∧ IsMem w' bm bw n f' ∧ Touch w1 w' (fun k => k = b ∨ k = bw)) :
    Calls Try.prog 105 #[.pointer (some ⟨b, 0, none⟩), .pointer (some ⟨bm, 0, none⟩)] w fun e w' => e = .returned (.tuple #[x.val, .int .i64 0]) ∧ w'.rowIs b 103 9 C' ∧ IsMem w' bm bw n f' ∧ Touch w w' (fun k => k = b ∨ k = bw) := by
  have c2 : w.cell? ⟨b, 2, none⟩ = some (.int .i64 2) := h.cell (i := 2) (by omega)
  have hl := h.lt
  have lw := hm.row.lt
  have lm0 := hm.head.lt
  have K0 := hide (hc (w.alloc (.cells #[.int .i64 0, .int .i64 0, .int .i64 0, .int .u64 0, .int .u64 0, .bool false] 77)) (h.alloc _) (hm.alloc _))
  have RW := hide (row0 w)
  clear h hm hc
  go_enter Try.func105, Try.ntmps105
  go_wp2_with fail
  refine K0.out.mono ?_
  rintro e w1 ⟨rfl, row1, mem1, t1⟩
  simp only [Stp.val]
  have s1 := t1.size
  simp only [World.size_alloc] at s1
  have RR := hide (RW.out.of_block (t1.block w.heap.size (by simp) (by omega)))
  have R1 := hide row1
  have M1 := hide mem1
  have T1 := hide (((Touch.refl w (fun k => k = b ∨ k = bw)).alloc (.cells #[.int .i64 0, .int .i64 0, .int .i64 0, .int .u64 0, .int .u64 0, .bool false] 77)).trans t1)
  have l2 : w.heap.size < w1.heap.size := by omega
  have hn3 : w.heap.size ≠ b := by omega
  have hn4 : w.heap.size ≠ bw := by omega
  clear row1 mem1 t1 c2
  obtain ⟨⟨r0, rf0⟩, ⟨r1, rf1⟩, ⟨r2, rf2⟩, ⟨r3, rf3⟩, ⟨r4, rf4⟩, r5, rf5⟩ := res_facts RR.out
  go_wp2_with fail
  go_light
  refine bodyPost_ret (v := .tuple #[x.val, .int .i64 0]) ?res rfl ⟨rfl, ?row, ?mem, ?tch⟩
  case row =>
    repeat (first | (with_reducible apply World.rowIs.alloc) | (with_reducible apply World.rowIs.drew) | (with_reducible refine World.rowIs.setOther ?_ ?side _; case side => (simp; omega)))
    with_reducible exact R1.out
  case mem =>
    repeat (first | (with_reducible apply IsMem.alloc) | (with_reducible apply IsMem.drew) | ((with_reducible refine IsMem.setOther ?_ ?_ ?_ _); rotate_left; (simp; omega); (simp; omega)))
    with_reducible exact M1.out
  case tch =>
    repeat (first | (with_reducible apply Touch.alloc) | (with_reducible apply Touch.drew) | (with_reducible refine Touch.setCell ?_ _ ?side _; case side => (first | (simp; done) | (simp; omega))))
    with_reducible exact T1.out
  case res => simp [results, Try.results105, go_sem, Stp.val, *]

set_option maxHeartbeats 4000000 in
theorem rs3 {w : World} {b bm bw n : Nat} {f f' : Nat → Int} {x : Stp} {v : Int} {hand last at_ seen fov : Int} {fok : Bool} {t : Ans} {C' : Nat → Value} (h : w.rowIs b 103 9 (rdC hand last 3 at_ seen ⟨fok, fov⟩ t)) (hm : IsMem w bm bw n f) (h1 : b ≠ bm) (h2 : b ≠ bw)
    (hc : ∀ w1 : World, w1.rowIs b 103 9 (rdC hand last 3 at_ seen ⟨fok, fov⟩ t) → IsMem w1 bm bw n f → Calls Try.prog 108 #[.pointer (some ⟨b, 0, none⟩), .pointer (some ⟨bm, 0, none⟩)] w1 fun e w' => e = .returned (.tuple #[x.val, .int .i64 v]) ∧ w'.rowIs b 103 9 C' ∧ IsMem w' bm bw n f' ∧ Touch w1 w' (fun k => k = b ∨ k = bw)) :
    Calls Try.prog 105 #[.pointer (some ⟨b, 0, none⟩), .pointer (some ⟨bm, 0, none⟩)] w fun e w' => e = .returned (.tuple #[x.val, .int .i64 v]) ∧ w'.rowIs b 103 9 C' ∧ IsMem w' bm bw n f' ∧ Touch w w' (fun k => k = b ∨ k = bw) := by
  have c2 : w.cell? ⟨b, 2, none⟩ = some (.int .i64 3) := h.cell (i := 2) (by omega)
  have hl := h.lt
  have lw := hm.row.lt
  have lm0 := hm.head.lt
  have K0 := hide (hc (w.alloc (.cells #[.int .i64 0, .int .i64 0, .int .i64 0, .int .u64 0, .int .u64 0, .bool false] 77)) (h.alloc _) (hm.alloc _))
  have RW := hide (row0 w)
  clear h hm hc
  go_enter Try.func105, Try.ntmps105
  go_wp2_with fail
  refine K0.out.mono ?_
  rintro e w1 ⟨rfl, row1, mem1, t1⟩
  simp only [Stp.val]
  have s1 := t1.size
  simp only [World.size_alloc] at s1
  have RR := hide (RW.out.of_block (t1.block w.heap.size (by simp) (by omega)))
  have R1 := hide row1
  have M1 := hide mem1
  have T1 := hide (((Touch.refl w (fun k => k = b ∨ k = bw)).alloc (.cells #[.int .i64 0, .int .i64 0, .int .i64 0, .int .u64 0, .int .u64 0, .bool false] 77)).trans t1)
  have l2 : w.heap.size < w1.heap.size := by omega
  have hn3 : w.heap.size ≠ b := by omega
  have hn4 : w.heap.size ≠ bw := by omega
  clear row1 mem1 t1 c2
  obtain ⟨⟨r0, rf0⟩, ⟨r1, rf1⟩, ⟨r2, rf2⟩, ⟨r3, rf3⟩, ⟨r4, rf4⟩, r5, rf5⟩ := res_facts RR.out
  go_wp2_with fail
  go_light
  refine bodyPost_ret (v := .tuple #[x.val, .int .i64 v]) ?res rfl ⟨rfl, ?row, ?mem, ?tch⟩
  case row =>
    repeat (first | (with_reducible apply World.rowIs.alloc) | (with_reducible apply World.rowIs.drew) | (with_reducible refine World.rowIs.setOther ?_ ?side _; case side => (simp; omega)))
    with_reducible exact R1.out
  case mem =>
    repeat (first | (with_reducible apply IsMem.alloc) | (with_reducible apply IsMem.drew) | ((with_reducible refine IsMem.setOther ?_ ?_ ?_ _); rotate_left; (simp; omega); (simp; omega)))
    with_reducible exact M1.out
  case tch =>
    repeat (first | (with_reducible apply Touch.alloc) | (with_reducible apply Touch.drew) | (with_reducible refine Touch.setCell ?_ _ ?side _; case side => (first | (simp; done) | (simp; omega))))
    with_reducible exact T1.out
  case res => simp [results, Try.results105, go_sem, Stp.val, *]

end Seq
end Go.Proofs.Ytkiojiibppdjjaa

/-
  The tasks of a record with a version: their kind: what each does is what its abstract task says.
-/
namespace Go.Proofs.Ytkiojiibppdjjaa
open Go.RowKit
set_option linter.unusedVariables false
set_option linter.unusedSimpArgs false
set_option maxRecDepth 20000
namespace Seq

set_option maxHeartbeats 4000000 in
theorem step_any {r : Int} (hr : 1 ≤ r ∧ r ≤ 64) {w : World} {b bm bw n : Nat} {f : Nat → Int} {s : SeS} {j : Jb} (hj : s.j = j ∧ Wf r s) (h : w.rowIs b ((kSeq r).t j) ((kSeq r).n j) (scell r s)) (hm : IsMem w bm bw n f) (h1 : b ≠ bm) (h2 : b ≠ bw) :
    Calls Try.prog ((kSeq r).fs j) #[.pointer (some ⟨b, 0, none⟩), .pointer (some ⟨bm, 0, none⟩)] w fun e w' => e = .returned (.tuple #[(stepOf n f (sreq s)).val, .int .i64 (if sends s (stepOf n f (sreq s)) = true then 1 else 0)]) ∧
      w'.rowIs b ((kSeq r).t j) ((kSeq r).n j) (scell r (snext r s (stepOf n f (sreq s)))) ∧ IsMem w' bm bw n (wordsOf n f (sreq s)) ∧ Touch w w' (fun k => k = b ∨ k = bw) := by
  obtain ⟨rfl, H⟩ := hj
  have hxh := had_bounds hm.word (sreq s)
  obtain ⟨x, hx⟩ : ∃ x, stepOf n f (sreq s) = x := ⟨_, rfl⟩
  obtain ⟨f', hf'⟩ : ∃ f', wordsOf n f (sreq s) = f' := ⟨_, rfl⟩
  rw [hx] at hxh
  rw [hx, hf']
  obtain ⟨hst, hh, hat, hat3, hver⟩ := H
  obtain ⟨hand, ⟨kind, ja, jb, jc, jh⟩, st, at_, ver, ⟨fok, fov⟩, ⟨ok, tv⟩⟩ := s
  simp only at hst hh hat hat3 hver hx hf' h ⊢
  rcases hst with ⟨rfl, rfl, hst⟩ | ⟨rfl, hst⟩
  rotate_left
  have ec : scell r ⟨hand, ⟨2, ja, jb, jc, jh⟩, st, at_, ver, ⟨fok, fov⟩, ⟨ok, tv⟩⟩ = rdC hand r st at_ ver ⟨fok, fov⟩ ⟨ok, tv⟩ := rfl
  rw [ec] at h
  rotate_left
  have ec : scell r ⟨0, ⟨1, ja, jb, jc, jh⟩, st, at_, ver, ⟨fok, fov⟩, ⟨ok, tv⟩⟩ = wrC r st at_ ver jh ⟨ok, tv⟩ := rfl
  rw [ec] at h
  all_goals (simp only [show ∀ a b c d, (kSeq r).t ⟨1, a, b, c, d⟩ = 100 from fun _ _ _ _ => rfl, show ∀ a b c d, (kSeq r).fs ⟨1, a, b, c, d⟩ = 92 from fun _ _ _ _ => rfl, show ∀ a b c d, (kSeq r).n ⟨1, a, b, c, d⟩ = 7 from fun _ _ _ _ => rfl, show ∀ a b c d, (kSeq r).t ⟨2, a, b, c, d⟩ = 103 from fun _ _ _ _ => rfl, show ∀ a b c d, (kSeq r).fs ⟨2, a, b, c, d⟩ = 105 from fun _ _ _ _ => rfl, show ∀ a b c d, (kSeq r).n ⟨2, a, b, c, d⟩ = 9 from fun _ _ _ _ => rfl] at h ⊢)
  · rcases hst with rfl | rfl | rfl | rfl
    · have e4 : sreq ⟨0, ⟨1, ja, jb, jc, jh⟩, 0, at_, ver, ⟨fok, fov⟩, ⟨ok, tv⟩⟩ = ⟨0, 1, 0, 0, 0, true⟩ := by simp [sreq]
      rw [e4] at hx hf'
      have e5 : sends ⟨0, ⟨1, ja, jb, jc, jh⟩, 0, at_, ver, ⟨fok, fov⟩, ⟨ok, tv⟩⟩ x = false := by simp [sends]
      have e7 : scell r (snext r ⟨0, ⟨1, ja, jb, jc, jh⟩, 0, at_, ver, ⟨fok, fov⟩, ⟨ok, tv⟩⟩ x) = wrC r 1 at_ x.had jh ⟨ok, tv⟩ := by simp [scell, snext]
      rw [e5, e7]
      first | rw [if_pos rfl] | rw [if_neg (by decide)]
      exact ws0 h hm h1 h2 hx hf'
    · have e4 : sreq ⟨0, ⟨1, ja, jb, jc, jh⟩, 1, at_, ver, ⟨fok, fov⟩, ⟨ok, tv⟩⟩ = ⟨0, 2, 0, 0, u64 (ver + 1), true⟩ := by simp [sreq]
      rw [e4] at hx hf'
      have e5 : sends ⟨0, ⟨1, ja, jb, jc, jh⟩, 1, at_, ver, ⟨fok, fov⟩, ⟨ok, tv⟩⟩ x = false := by simp [sends]
      have e7 : scell r (snext r ⟨0, ⟨1, ja, jb, jc, jh⟩, 1, at_, ver, ⟨fok, fov⟩, ⟨ok, tv⟩⟩ x) = wrC r 2 1 ver jh ⟨ok, tv⟩ := by simp [scell, snext]
      rw [e5, e7]
      first | rw [if_pos rfl] | rw [if_neg (by decide)]
      exact ws1 h hm h1 h2 rfl hx hf'
    · have e4 : sreq ⟨0, ⟨1, ja, jb, jc, jh⟩, 2, at_, ver, ⟨fok, fov⟩, ⟨ok, tv⟩⟩ = ⟨0, 2, at_, 0, jh, true⟩ := by simp [sreq]
      rw [e4] at hx hf'
      by_cases a1 : r < at_ + 1
      ·
        have e5 : sends ⟨0, ⟨1, ja, jb, jc, jh⟩, 2, at_, ver, ⟨fok, fov⟩, ⟨ok, tv⟩⟩ x = false := by simp [sends, a1]
        have e7 : scell r (snext r ⟨0, ⟨1, ja, jb, jc, jh⟩, 2, at_, ver, ⟨fok, fov⟩, ⟨ok, tv⟩⟩ x) = wrC r 3 (at_ + 1) ver jh ⟨ok, tv⟩ := by simp [scell, snext, a1]
        rw [e5, e7]
        first | rw [if_pos rfl] | rw [if_neg (by decide)]
        exact ws2 h hm h1 h2 (fun w1 r1 m1 => w_touch_last r1 m1 h1 h2 ⟨(hat rfl).1, by have := (hat rfl).2; omega⟩ hh a1 hx hf')
      ·
        have e5 : sends ⟨0, ⟨1, ja, jb, jc, jh⟩, 2, at_, ver, ⟨fok, fov⟩, ⟨ok, tv⟩⟩ x = false := by simp [sends, a1]
        have e7 : scell r (snext r ⟨0, ⟨1, ja, jb, jc, jh⟩, 2, at_, ver, ⟨fok, fov⟩, ⟨ok, tv⟩⟩ x) = wrC r 2 (at_ + 1) ver jh ⟨ok, tv⟩ := by simp [scell, snext, a1]
        rw [e5, e7]
        first | rw [if_pos rfl] | rw [if_neg (by decide)]
        exact ws2 h hm h1 h2 (fun w1 r1 m1 => w_touch_more r1 m1 h1 h2 ⟨(hat rfl).1, by have := (hat rfl).2; omega⟩ hh a1 hx hf')
    · have e4 : sreq ⟨0, ⟨1, ja, jb, jc, jh⟩, 3, at_, ver, ⟨fok, fov⟩, ⟨ok, tv⟩⟩ = ⟨0, 2, 0, 0, u64 (ver + 2), true⟩ := by simp [sreq]
      rw [e4] at hx hf'
      have e5 : sends ⟨0, ⟨1, ja, jb, jc, jh⟩, 3, at_, ver, ⟨fok, fov⟩, ⟨ok, tv⟩⟩ x = true := by simp [sends]
      have e7 : scell r (snext r ⟨0, ⟨1, ja, jb, jc, jh⟩, 3, at_, ver, ⟨fok, fov⟩, ⟨ok, tv⟩⟩ x) = wrC r 3 at_ ver jh ⟨true, u64 (ver + 2)⟩ := by simp [scell, snext]
      rw [e5, e7]
      first | rw [if_pos rfl] | rw [if_neg (by decide)]
      exact ws3 h hm h1 h2 rfl hx hf'
  · rcases hst with rfl | rfl | rfl
    · have e4 : sreq ⟨hand, ⟨2, ja, jb, jc, jh⟩, 0, at_, ver, ⟨fok, fov⟩, ⟨ok, tv⟩⟩ = ⟨hand, 1, 0, 0, 0, true⟩ := by simp [sreq]
      rw [e4] at hx hf'
      by_cases a1 : x.had % 2 = 0
      ·
        have e5 : sends ⟨hand, ⟨2, ja, jb, jc, jh⟩, 0, at_, ver, ⟨fok, fov⟩, ⟨ok, tv⟩⟩ x = false := by simp [sends, a1]
        have e7 : scell r (snext r ⟨hand, ⟨2, ja, jb, jc, jh⟩, 0, at_, ver, ⟨fok, fov⟩, ⟨ok, tv⟩⟩ x) = rdC hand r 2 1 x.had ⟨fok, fov⟩ ⟨ok, tv⟩ := by simp [scell, snext, a1]
        rw [e5, e7]
        first | rw [if_pos rfl] | rw [if_neg (by decide)]
        exact rs0 h hm h1 h2 (fun w1 r1 m1 => r_look_even r1 m1 h1 h2 hxh a1 hx hf')
      ·
        have e5 : sends ⟨hand, ⟨2, ja, jb, jc, jh⟩, 0, at_, ver, ⟨fok, fov⟩, ⟨ok, tv⟩⟩ x = false := by simp [sends, a1]
        have e7 : scell r (snext r ⟨hand, ⟨2, ja, jb, jc, jh⟩, 0, at_, ver, ⟨fok, fov⟩, ⟨ok, tv⟩⟩ x) = rdC hand r 0 at_ ver ⟨fok, fov⟩ ⟨ok, tv⟩ := by simp [scell, snext, a1]
        rw [e5, e7]
        first | rw [if_pos rfl] | rw [if_neg (by decide)]
        exact rs0 h hm h1 h2 (fun w1 r1 m1 => r_look_odd r1 m1 h1 h2 hxh a1 hx hf')
    · have e4 : sreq ⟨hand, ⟨2, ja, jb, jc, jh⟩, 2, at_, ver, ⟨fok, fov⟩, ⟨ok, tv⟩⟩ = ⟨hand, 1, at_, 0, 0, true⟩ := by simp [sreq]
      rw [e4] at hx hf'
      have e5 : sends ⟨hand, ⟨2, ja, jb, jc, jh⟩, 2, at_, ver, ⟨fok, fov⟩, ⟨ok, tv⟩⟩ x = false := by simp [sends]
      rw [e5, if_neg (by decide)]
      have hat' : 1 ≤ at_ ∧ at_ ≤ 64 := ⟨(hat rfl).1, by have := (hat rfl).2; omega⟩
      by_cases a0 : at_ = 1
      · subst a0
        by_cases a1 : r < 2
        · have e7 : scell r (snext r ⟨hand, ⟨2, ja, jb, jc, jh⟩, 2, 1, ver, ⟨fok, fov⟩, ⟨ok, tv⟩⟩ x) = rdC hand r 3 2 ver ⟨true, x.had⟩ ⟨ok, tv⟩ := by simp [scell, snext, fnx, a1]
          rw [e7]
          exact rs2 h hm h1 h2 (fun w1 r1 m1 => r_t1_last r1 m1 h1 h2 a1 hx hf')
        · have e7 : scell r (snext r ⟨hand, ⟨2, ja, jb, jc, jh⟩, 2, 1, ver, ⟨fok, fov⟩, ⟨ok, tv⟩⟩ x) = rdC hand r 2 2 ver ⟨true, x.had⟩ ⟨ok, tv⟩ := by simp [scell, snext, fnx, a1]
          rw [e7]
          exact rs2 h hm h1 h2 (fun w1 r1 m1 => r_t1_more r1 m1 h1 h2 a1 hx hf')
      · by_cases a2 : x.had = fov
        · subst a2
          by_cases a1 : r < at_ + 1
          · have e7 : scell r (snext r ⟨hand, ⟨2, ja, jb, jc, jh⟩, 2, at_, ver, ⟨fok, x.had⟩, ⟨ok, tv⟩⟩ x) = rdC hand r 3 (at_ + 1) ver ⟨fok, x.had⟩ ⟨ok, tv⟩ := by simp [scell, snext, fnx, a0, a1]
            rw [e7]
            exact rs2 h hm h1 h2 (fun w1 r1 m1 => r_ts_last r1 m1 h1 h2 hat' a0 a1 hx hf')
          · have e7 : scell r (snext r ⟨hand, ⟨2, ja, jb, jc, jh⟩, 2, at_, ver, ⟨fok, x.had⟩, ⟨ok, tv⟩⟩ x) = rdC hand r 2 (at_ + 1) ver ⟨fok, x.had⟩ ⟨ok, tv⟩ := by simp [scell, snext, fnx, a0, a1]
            rw [e7]
            exact rs2 h hm h1 h2 (fun w1 r1 m1 => r_ts_more r1 m1 h1 h2 hat' a0 a1 hx hf')
        · skip
          by_cases a1 : r < at_ + 1
          · have e7 : scell r (snext r ⟨hand, ⟨2, ja, jb, jc, jh⟩, 2, at_, ver, ⟨fok, fov⟩, ⟨ok, tv⟩⟩ x) = rdC hand r 3 (at_ + 1) ver ⟨false, fov⟩ ⟨ok, tv⟩ := by simp [scell, snext, fnx, a0, a1, a2]
            rw [e7]
            exact rs2 h hm h1 h2 (fun w1 r1 m1 => r_tn_last r1 m1 h1 h2 hat' a0 a2 a1 hx hf')
          · have e7 : scell r (snext r ⟨hand, ⟨2, ja, jb, jc, jh⟩, 2, at_, ver, ⟨fok, fov⟩, ⟨ok, tv⟩⟩ x) = rdC hand r 2 (at_ + 1) ver ⟨false, fov⟩ ⟨ok, tv⟩ := by simp [scell, snext, fnx, a0, a1, a2]
            rw [e7]
            exact rs2 h hm h1 h2 (fun w1 r1 m1 => r_tn_more r1 m1 h1 h2 hat' a0 a2 a1 hx hf')
    · have e4 : sreq ⟨hand, ⟨2, ja, jb, jc, jh⟩, 3, at_, ver, ⟨fok, fov⟩, ⟨ok, tv⟩⟩ = ⟨hand, 1, 0, 0, 0, true⟩ := by simp [sreq]
      rw [e4] at hx hf'
      by_cases a1 : x.had = ver
      · subst a1
        have e5 : sends ⟨hand, ⟨2, ja, jb, jc, jh⟩, 3, at_, x.had, ⟨fok, fov⟩, ⟨ok, tv⟩⟩ x = true := by simp [sends]
        have e7 : scell r (snext r ⟨hand, ⟨2, ja, jb, jc, jh⟩, 3, at_, x.had, ⟨fok, fov⟩, ⟨ok, tv⟩⟩ x) = rdC hand r 3 at_ x.had ⟨fok, fov⟩ ⟨fok, fov⟩ := by simp [scell, snext]
        rw [e5, e7, if_pos rfl]
        exact rs3 h hm h1 h2 (fun w1 r1 m1 => r_finish_same r1 m1 h1 h2 hx hf')
      · have e5 : sends ⟨hand, ⟨2, ja, jb, jc, jh⟩, 3, at_, ver, ⟨fok, fov⟩, ⟨ok, tv⟩⟩ x = false := by simp [sends, a1]
        have e7 : scell r (snext r ⟨hand, ⟨2, ja, jb, jc, jh⟩, 3, at_, ver, ⟨fok, fov⟩, ⟨ok, tv⟩⟩ x) = rdC hand r 0 at_ ver ⟨fok, fov⟩ ⟨ok, tv⟩ := by simp [scell, snext, a1]
        rw [e5, e7, if_neg (by decide)]
        exact rs3 h hm h1 h2 (fun w1 r1 m1 => r_finish_other r1 m1 h1 h2 a1 hx hf')

theorem w_ans {w : World} {b : Nat} {last st at_ was value : Int} {t : Ans} (h : w.rowIs b 100 7 (wrC last st at_ was value t)) :
    Calls Try.prog 91 #[.pointer (some ⟨b, 0, none⟩)] w fun e w' => e = .returned t.value ∧ w.grownBy w' none := by
  obtain ⟨ok, val⟩ := t
  have h6 : w.cell? ⟨b, 5, none⟩ = some (.bool ok) := h.cell (i := 5) (by omega)
  have h7 : w.cell? ⟨b, 6, none⟩ = some (.int .u64 val) := h.cell (i := 6) (by omega)
  have hl := h.lt
  go_enter Try.func91, Try.ntmps91
  go_wp2
  go_light
  refine bodyPost_ret (v := Ans.value ⟨ok, val⟩) ?_ rfl ⟨rfl, grown_alloc (grown_refl _ _) _⟩
  simp [results, Try.results91, go_sem, Ans.value]

theorem r_ans {w : World} {b : Nat} {hand last st at_ seen fov : Int} {fok : Bool} {t : Ans} (h : w.rowIs b 103 9 (rdC hand last st at_ seen ⟨fok, fov⟩ t)) :
    Calls Try.prog 104 #[.pointer (some ⟨b, 0, none⟩)] w fun e w' => e = .returned t.value ∧ w.grownBy w' none := by
  obtain ⟨ok, val⟩ := t
  have h6 : w.cell? ⟨b, 7, none⟩ = some (.bool ok) := h.cell (i := 7) (by omega)
  have h7 : w.cell? ⟨b, 8, none⟩ = some (.int .u64 val) := h.cell (i := 8) (by omega)
  have hl := h.lt
  go_enter Try.func104, Try.ntmps104
  go_wp2
  go_light
  refine bodyPost_ret (v := Ans.value ⟨ok, val⟩) ?_ rfl ⟨rfl, grown_alloc (grown_refl _ _) _⟩
  simp [results, Try.results104, go_sem, Ans.value]

theorem ms1 (b : Nat) (w : World) : (method 303 98 (.pointer (some ⟨b, 0, none⟩)) "Step").run Try.prog w = .ok (92, .pointer (some ⟨b, 0, none⟩)) w := by kernel_rfl
theorem ma1 (b : Nat) (w : World) : (method 303 98 (.pointer (some ⟨b, 0, none⟩)) "Answer").run Try.prog w = .ok (91, .pointer (some ⟨b, 0, none⟩)) w := by kernel_rfl
theorem cs1 (args : Array Value) (w : World) : (callFunc 92 args).run Try.prog w = .ok (.enter 92 args) w := by simp [go_sem]
theorem ca1 (args : Array Value) (w : World) : (callFunc 91 args).run Try.prog w = .ok (.enter 91 args) w := by simp [go_sem]
theorem ms2 (b : Nat) (w : World) : (method 303 101 (.pointer (some ⟨b, 0, none⟩)) "Step").run Try.prog w = .ok (105, .pointer (some ⟨b, 0, none⟩)) w := by kernel_rfl
theorem ma2 (b : Nat) (w : World) : (method 303 101 (.pointer (some ⟨b, 0, none⟩)) "Answer").run Try.prog w = .ok (104, .pointer (some ⟨b, 0, none⟩)) w := by kernel_rfl
theorem cs2 (args : Array Value) (w : World) : (callFunc 105 args).run Try.prog w = .ok (.enter 105 args) w := by simp [go_sem]
theorem ca2 (args : Array Value) (w : World) : (callFunc 104 args).run Try.prog w = .ok (.enter 104 args) w := by simp [go_sem]
theorem fine_two {r : Int} {j : Jb} (h : (kSeq r).fine j) (p : Jb → Prop) (h1 : ∀ a b c d, p ⟨1, a, b, c, d⟩) (h2 : ∀ a b c d, p ⟨2, a, b, c, d⟩) : p j := by
  obtain ⟨kind, a, b, c, d⟩ := j
  have hk := (fine_cases h).1
  simp only at hk
  rcases hk with rfl | rfl
  · exact h1 a b c d
  · exact h2 a b c d
theorem ans_any {r : Int} {w : World} {b : Nat} {s : SeS} {j : Jb} (hf : (kSeq r).fine j) (hj : s.j = j) (h : w.rowIs b ((kSeq r).t j) ((kSeq r).n j) (scell r s)) :
    Calls Try.prog ((kSeq r).fa j) #[.pointer (some ⟨b, 0, none⟩)] w fun e w' => e = .returned s.told.value ∧ w.grownBy w' none := by
  subst hj
  have hk := (fine_cases hf).1
  obtain ⟨hand, ⟨kind, ja, jb, jc, jh⟩, st, at_, ver, ⟨fok, fov⟩, t⟩ := s
  simp only at hk
  rcases hk with rfl | rfl
  · exact w_ans h
  · exact r_ans h

theorem isKind {r : Int} (hr : 1 ≤ r ∧ r ≤ 64) : IsKind (kSeq r) where
  ok := ⟨fun h j hj => ⟨rfl, wf_init r h hj⟩, fun j s n f hf hs => ⟨(snext_j r s _).trans hs.1, snext_wf hr.1 hs.2 (had_bounds hf _)⟩⟩
  step := fun hf hj h hm h1 h2 => step_any hr hj h hm h1 h2
  ans := fun hf hj h => ans_any hf hj.1 h
  mstep := fun j hf b w => fine_two hf (fun j => (method 303 ((kSeq r).tid j) (.pointer (some ⟨b, 0, none⟩)) "Step").run Try.prog w = .ok ((kSeq r).fs j, .pointer (some ⟨b, 0, none⟩)) w) (fun _ _ _ _ => ms1 b w) (fun _ _ _ _ => ms2 b w)
  mans := fun j hf b w => fine_two hf (fun j => (method 303 ((kSeq r).tid j) (.pointer (some ⟨b, 0, none⟩)) "Answer").run Try.prog w = .ok ((kSeq r).fa j, .pointer (some ⟨b, 0, none⟩)) w) (fun _ _ _ _ => ma1 b w) (fun _ _ _ _ => ma2 b w)
  cstep := fun j hf args w => fine_two hf (fun j => (callFunc ((kSeq r).fs j) args).run Try.prog w = .ok (.enter ((kSeq r).fs j) args) w) (fun _ _ _ _ => cs1 args w) (fun _ _ _ _ => cs2 args w)
  cans := fun j hf args w => fine_two hf (fun j => (callFunc ((kSeq r).fa j) args).run Try.prog w = .ok (.enter ((kSeq r).fa j) args) w) (fun _ _ _ _ => ca1 args w) (fun _ _ _ _ => ca2 args w)

end Seq
end Go.Proofs.Ytkiojiibppdjjaa
