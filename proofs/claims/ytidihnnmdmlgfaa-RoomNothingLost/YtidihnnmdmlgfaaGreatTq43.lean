/-
  Lemmas: RoomF.
-/
import Derived.Test.YtidihnnmdmlgfaaGreatTq40
import Derived.Test.YtidihnnmdmlgfaaGreatTq42
namespace Go.Proofs.YtidihnnmdmlgfaaGreat
set_option maxHeartbeats 8000000
open Go.RowKit
set_option linter.unusedVariables false
set_option linter.unusedSimpArgs false
set_option maxRecDepth 20000
section
namespace Rom
open Hp
theorem leave_next {w : World} {b bm bw n : Nat} {f f' : Nat → Int} {x : Stp} {sh : Shp} {hand : Int} {fn v2 v3 : Value} {t : Ans} {ix sl gn : Int} (h_ : w.rowIs b 105 15 (gC sh hand fn v2 v3 t ix sl gn)) (hm : IsMem w bm bw n f) (h1 : b ≠ bm) (h2 : b ≠ bw) (h5 : Shape.R5 sh.a sh.b sh.c sh.d sh.e) (hn : 0 ≤ gn ∧ gn ≤ 4294967295) (hq : ¬ gn = 4294967295)
    (hx : stepOf n f ⟨hand, 2, headAt sh ix, 0, hd 0 (gn + 1), true⟩ = x) (hf' : wordsOf n f ⟨hand, 2, headAt sh ix, 0, hd 0 (gn + 1), true⟩ = f') :
    Calls Tryz.prog 73 #[.pointer (some ⟨b, 0, none⟩), .pointer (some ⟨bm, 0, none⟩)] w fun e w' => e = .returned (.tuple #[x.val, .int .i64 0]) ∧
      ∃ B R, w'.rowIs b 105 15 (alongC b (gC sh hand fn v2 v3 t ix sl gn) (Ls.tid (lj ix)) 86 (B 0)) ∧ (Ls.kList sh).Lies w' (lj ix) B R (Ls.init sh hand (lj ix)) ∧ (∀ i x, R i = some x → w.heap.size ≤ B i) ∧ IsMem w' bm bw n f' ∧ Touch w w' (fun k => k = b ∨ k = bw) := by
  have hl := h_.lt
  have lw := hm.row.lt
  have lm := hm.head.lt
  have hn3 : w.heap.size ≠ b := by omega
  have hn4 : w.heap.size ≠ bw := by omega
  have hn5 : w.heap.size ≠ bm := by omega
  obtain ⟨W1, hW1⟩ : ∃ W1, w.alloc (.cells #[.int .i64 0, .int .i64 0, .int .i64 0, .int .u64 0, .int .u64 0, .bool false] 122) = W1 := ⟨_, rfl⟩
  have R := hide (show W1.rowIs b 105 15 (gC sh hand fn v2 v3 t ix sl gn) from by rw [← hW1]; exact h_.alloc _)
  have M := hide (show IsMem W1 bm bw n f from by rw [← hW1]; exact hm.alloc _)
  have RZ := hide (show W1.rowIs w.heap.size 122 6 zcell from by rw [← hW1]; exact row0 w)
  have T0 := hide (show Touch w W1 (fun k => k = b ∨ k = bw) from by rw [← hW1]; exact (Touch.refl w _).alloc _)
  have sz : W1.heap.size = w.heap.size + 1 := by rw [← hW1]; simp
  have lW1 : b < W1.heap.size := by omega
  obtain ⟨⟨e0, ef0⟩, ⟨e1, ef1⟩, ⟨e2, ef2⟩, ⟨e3, ef3⟩, ⟨e4, ef4⟩, ⟨e5, ef5⟩, ⟨e6, ef6⟩, ⟨e7, ef7⟩, ⟨e8, ef8⟩, ⟨e9, ef9⟩, ⟨e10, ef10⟩, ⟨e11, ef11⟩, ⟨e12, ef12⟩, ⟨e13, ef13⟩, e14, ef14⟩ := g_facts R.out
  obtain ⟨dS, hdS1, hdS2⟩ := row46
  have HD := hide (And.intro hdS1 hdS2)
  obtain ⟨dG, hdG1, hdG2⟩ := rowSh
  have HDS := hide (And.intro hdG1 hdG2)
  have HX := hide hx
  have HF := hide hf'
  have HW : Hid (0 ≤ (⟨hand, 2, headAt sh ix, 0, hd 0 (gn + 1), true⟩ : Stp).put ∧ (⟨hand, 2, headAt sh ix, 0, hd 0 (gn + 1), true⟩ : Stp).put ≤ 18446744073709551615) := ⟨hd_lo _ _, by have := hd_hi 0 (gn + 1); show hd 0 (gn + 1) ≤ _; omega⟩
  have H5 := hide h5
  have G1 := hide (show IntKind.u64.wrap (gn + 1) = gn + 1 from by rw [IntKind.wrap_u64]; omega)
  have hq2 : (gn == 4294967295) = false := by simpa using hq
  clear hm h_ hx hf' hdS1 hdS2 hdG1 hdG2 h5 hn
  go_enter Tryz.func73, Tryz.ntmps73
  go_wp2_with fail
  clear hW1 e0 ef0 e1 ef1 e2 ef2 e3 ef3 e4 ef4 e5 ef5 e6 ef6 e7 ef7 e8 ef8 e9 ef9 e10 ef10 e11 ef11 e12 ef12 e13 ef13 e14 ef14
  clear hq hq2
  have RW1 := R
  have MW1 := M
  have QW1 := RZ
  have TW1 := T0
  have lb0 : b < W1.heap.size := by omega
  have lbm : bm < W1.heap.size := by omega
  have lbw : bw < W1.heap.size := by omega
  have lrb : w.heap.size < W1.heap.size := by omega
  refine LtH.region2 (ks := [(0, 20), (1, 21), (2, 22), (3, 23), (4, 24), (5, 25), (6, 26), (8, 28), (9, 29), (10, 30), (11, 31), (12, 32), (13, 33), (14, 34), (15, 35), (16, 36), (17, 37), (19, 39), (20, 40), (21, 41), (22, 42), (24, 44), (25, 45)]) (vals := fun iv => match iv with | 0 => .pointer (some ⟨b, 0, none⟩) | 1 => .pointer (some ⟨bm, 0, none⟩) | 2 => .pointer (some ⟨b, 0, none⟩) | 3 => .pointer (some ⟨b, 0, none⟩) | 4 => .pointer (some ⟨b, 14, none⟩) | 5 => .int .u64 gn | 6 => .int .u64 (gn + 1) | 8 => .pointer (some ⟨b, 0, none⟩) | 9 => .pointer (some ⟨b, 0, none⟩) | 10 => .pointer (some ⟨b, 0, none⟩) | 11 => .pointer (some ⟨b, 0, none⟩) | 12 => .pointer (some ⟨b, 0, none⟩) | 13 => .pointer (some ⟨b, 6, none⟩) | 14 => sh.val | 15 => .pointer (some ⟨b, 0, none⟩) | 16 => .pointer (some ⟨b, 0, none⟩) | 17 => .pointer (some ⟨b, 0, none⟩) | 19 => .pointer (some ⟨b, 0, none⟩) | 20 => .pointer (some ⟨b, 0, none⟩) | 21 => .pointer (some ⟨b, 12, none⟩) | 22 => .int .i64 ix | 24 => .pointer (some ⟨b, 0, none⟩) | 25 => .func (.func 86) #[.pointer (some ⟨b, 0, none⟩)] #[] | _ => undef)
    (xs := [27, 38, 43, 46, 5]) (WI := LtE.WI [7, 18, 23, 26, 27, 28] [] (GS b 105 15 (gC sh hand fn v2 v3 t ix sl gn) bm bw n f f' x w.heap.size sh hand (lj ix) 86 W1 (fun s => s 27 = x.val) 38 43 46)) (by kernel_rfl) ?Agd ?Abk rfl ?Add ?Axx ?Alc ?Ast ?Ado ?Afi
  case Agd =>
    intro iq oq ho
    have hiq : iq < 29 := by have := (Array.getElem?_eq_some_iff.1 ho).1; simpa using this
    match iq, hiq with
    | 0, _ | 1, _ | 2, _ | 3, _ | 4, _ | 5, _ | 6, _ | 7, _ | 8, _ | 9, _ | 10, _ | 11, _ | 12, _ | 13, _ | 14, _ | 15, _ | 16, _ | 17, _ | 18, _ | 19, _ | 20, _ | 21, _ | 22, _ | 23, _ | 24, _ | 25, _ | 26, _ | 27, _ | 28, _ => injection ho with ho; subst ho; rfl
  case Abk =>
    intro iq oq ho
    have hiq : iq < 29 := by have := (Array.getElem?_eq_some_iff.1 ho).1; simpa using this
    match iq, hiq with
    | 0, _ | 1, _ | 2, _ | 3, _ | 4, _ | 5, _ | 6, _ | 7, _ | 8, _ | 9, _ | 10, _ | 11, _ | 12, _ | 13, _ | 14, _ | 15, _ | 16, _ | 17, _ | 18, _ | 19, _ | 20, _ | 21, _ | 22, _ | 23, _ | 24, _ | 25, _ | 26, _ | 27, _ | 28, _ => injection ho with ho; subst ho; simp [Region.binds]
  case Add =>
    intro kq hk
    have hk2 : kq < 47 := by
      simp [Lt.D] at hk
      omega
    exact hk2
  case Axx =>
    intro kq hk
    have hk2 : kq < 47 := by
      simp at hk
      omega
    exact hk2
  case Alc =>
    rintro L s1 s2 w1' hx ⟨⟨n1, h1', h2', h3⟩, h4⟩
    exact ⟨⟨n1, h1', h2', GS.loc1 (fun k hk => hx k (by rcases hk with rfl | rfl | rfl | rfl | rfl <;> rfl)) h3⟩, h4⟩
  case Ast => exact LtE.WI.start (GS.start lb0 lbm lbw lrb h1 h2 hn3 hn5 hn4 RW1.out MW1.out QW1.out)
  case Ado =>
    intro iq oq ho
    have hiq : iq < 29 := by have := (Array.getElem?_eq_some_iff.1 ho).1; simpa using this
    match iq, hiq with
    | 0, _ => injection ho with ho; subst ho; exact LtE.read rfl rfl rfl (fun L a w' hI hL hq => Lt.ex_move rfl (hI.fix 0 (Lt.notD rfl) rfl))
    | 1, _ => injection ho with ho; subst ho; exact LtE.read rfl rfl rfl (fun L a w' hI hL hq => Lt.ex_move rfl (hI.fix 1 (Lt.notD rfl) rfl))
    | 2, _ => injection ho with ho; subst ho; exact LtE.read rfl rfl rfl (fun L a w' hI hL hq => Lt.ex_move rfl (hI.fix 0 (Lt.notD rfl) rfl))
    | 3, _ => injection ho with ho; subst ho; exact LtE.read rfl rfl rfl (fun L a w' hI hL hq => ex_nilc rfl (hI.pure 2 _ _ rfl (hq ⟨2, .data⟩ (by simp) rfl)))
    | 4, _ => injection ho with ho; subst ho; exact LtE.read rfl rfl rfl (fun L a w' hI hL hq => Lt.ex_field rfl (hI.pure 3 _ _ rfl (hq ⟨3, .data⟩ (by simp) rfl)) (fieldG4 w' b))
    | 5, _ => injection ho with ho; subst ho; exact LtE.read rfl rfl rfl (fun L a w' hI hL hq => Lt.ex_load rfl (hI.pure 4 _ _ rfl (hq ⟨4, .data⟩ (by simp) rfl)) (by simp [go_sem]) (by obtain ⟨n1, hn1⟩ := hI.world.any; exact hn1.cell (i := 14) (by omega) (by omega) (by omega) (by omega)))
    | 6, _ => injection ho with ho; subst ho; exact LtE.read rfl rfl rfl (fun L a w' hI hL hq => ex_addu rfl (hI.pure 5 _ _ rfl (hq ⟨5, .data⟩ (by simp) rfl)) rfl G1.out)
    | 7, _ => injection ho with ho; subst ho; exact LtE.call (m := 0) (args := fun s => #[.pointer (some ⟨b, 0, none⟩), .pointer (some ⟨bm, 0, none⟩), .int .u64 (gn + 1)]) (by decide) rfl rfl rfl rfl (fun L hq p hp e => by cases hp) (fun L hq m1 j1 e1 _ => absurd e1 (by omega)) (fun L a w' hI hq hS => Lt.call3 rfl (hI.pure 0 _ _ rfl (hq ⟨0, .data⟩ (by simp) rfl)) (hI.pure 1 _ _ rfl (hq ⟨1, .data⟩ (by simp) rfl)) (hI.pure 6 _ _ rfl (hq ⟨6, .data⟩ (by simp) rfl)) rfl (by simp [go_sem])) (fun s w' hS => (put_any (y := gn + 1) H5.out (hS.row (by omega)) hS.mem h1 h2 HX.out HF.out).mono (by rintro e w3 ⟨rfl, r3, m3, t3⟩; exact ⟨_, rfl, GS.act lb0 lbm lbw lrb h1 h2 hn3 hn5 hn4 hS r3 m3 t3 (by simp)⟩))
    | 8, _ => injection ho with ho; subst ho; exact LtE.read rfl rfl rfl (fun L a w' hI hL hq => Lt.ex_move rfl (hI.fix 0 (Lt.notD rfl) rfl))
    | 9, _ => injection ho with ho; subst ho; exact LtE.read rfl rfl rfl (fun L a w' hI hL hq => ex_nilc rfl (hI.pure 8 _ _ rfl (hq ⟨8, .data⟩ (by simp) rfl)))
    | 10, _ => injection ho with ho; subst ho; exact LtE.read rfl rfl rfl (fun L a w' hI hL hq => Lt.ex_field rfl (hI.pure 9 _ _ rfl (hq ⟨9, .data⟩ (by simp) rfl)) (fieldG0 w' b))
    | 11, _ => injection ho with ho; subst ho; exact LtE.read rfl rfl rfl (fun L a w' hI hL hq => Lt.ex_move rfl (hI.fix 0 (Lt.notD rfl) rfl))
    | 12, _ => injection ho with ho; subst ho; exact LtE.read rfl rfl rfl (fun L a w' hI hL hq => ex_nilc rfl (hI.pure 11 _ _ rfl (hq ⟨11, .data⟩ (by simp) rfl)))
    | 13, _ => injection ho with ho; subst ho; exact LtE.read rfl rfl rfl (fun L a w' hI hL hq => Lt.ex_field rfl (hI.pure 12 _ _ rfl (hq ⟨12, .data⟩ (by simp) rfl)) (fieldG1 w' b))
    | 14, _ => injection ho with ho; subst ho; exact LtE.read rfl rfl rfl (fun L a w' hI hL hq => Lt.ex_load_row (cs := [.int .i64 sh.a, .int .i64 sh.b, .int .i64 sh.c, .int .i64 sh.d, .int .i64 sh.e, .int .i64 sh.f]) rfl (hI.pure 13 _ _ rfl (hq ⟨13, .data⟩ (by simp) rfl)) (by obtain ⟨n1, hn1⟩ := hI.world.any; exact hn1.shape (by omega) rfl rfl rfl rfl rfl rfl) (by kernel_rfl) (by kernel_rfl))
    | 15, _ => injection ho with ho; subst ho; exact LtE.read rfl rfl rfl (fun L a w' hI hL hq => Lt.ex_move rfl (hI.fix 0 (Lt.notD rfl) rfl))
    | 16, _ => injection ho with ho; subst ho; exact LtE.read rfl rfl rfl (fun L a w' hI hL hq => ex_nilc rfl (hI.pure 15 _ _ rfl (hq ⟨15, .data⟩ (by simp) rfl)))
    | 17, _ => injection ho with ho; subst ho; exact LtE.read rfl rfl rfl (fun L a w' hI hL hq => Lt.ex_field rfl (hI.pure 16 _ _ rfl (hq ⟨16, .data⟩ (by simp) rfl)) (fieldG0 w' b))
    | 18, _ => injection ho with ho; subst ho; exact LtE.call (m := 1) (args := fun s => #[.pointer (some ⟨b, 0, none⟩)]) (by decide) rfl rfl rfl rfl (fun L hq p hp e => by cases hp) (fun L hq m1 j1 e1 hj => by (cases (show m1 = 0 from (by omega))); cases hj; first | exact hq ⟨7, .chain⟩ (by simp) rfl | exact hq ⟨7, .data⟩ (by simp) rfl | exact hq ⟨7, .call⟩ (by simp) rfl) (fun L a w' hI hq hS => Lt.call1 rfl (hI.pure 17 _ _ rfl (hq ⟨17, .data⟩ (by simp) rfl)) rfl (by simp [go_sem])) (fun s w' hS => (hand_any (hS.cell (i := 0) (by omega) (by omega) (by omega) (by omega)) (by have := hS.tch.size; omega)).mono (by rintro e w3 ⟨rfl, rfl⟩; exact ⟨_, rfl, GS.hand_ lb0 lbm lbw lrb h1 h2 hn3 hn5 hn4 hS (by have := hS.put (by omega); simpa using this) (by simp)⟩))
    | 19, _ => injection ho with ho; subst ho; exact LtE.read rfl rfl rfl (fun L a w' hI hL hq => Lt.ex_move rfl (hI.fix 0 (Lt.notD rfl) rfl))
    | 20, _ => injection ho with ho; subst ho; exact LtE.read rfl rfl rfl (fun L a w' hI hL hq => ex_nilc rfl (hI.pure 19 _ _ rfl (hq ⟨19, .data⟩ (by simp) rfl)))
    | 21, _ => injection ho with ho; subst ho; exact LtE.read rfl rfl rfl (fun L a w' hI hL hq => Lt.ex_field rfl (hI.pure 20 _ _ rfl (hq ⟨20, .data⟩ (by simp) rfl)) (fieldG2 w' b))
    | 22, _ => injection ho with ho; subst ho; exact LtE.read rfl rfl rfl (fun L a w' hI hL hq => Lt.ex_load rfl (hI.pure 21 _ _ rfl (hq ⟨21, .data⟩ (by simp) rfl)) (by simp [go_sem]) (by obtain ⟨n1, hn1⟩ := hI.world.any; exact hn1.cell (i := 12) (by omega) (by omega) (by omega) (by omega)))
    | 23, _ => injection ho with ho; subst ho; exact LtE.call (m := 2) (args := fun s => #[sh.val, s 38, .int .i64 1, .int .i64 ix]) (by decide) rfl rfl rfl rfl (fun L hq p hp e => by cases hp) (fun L hq m1 j1 e1 hj => by (cases (show m1 = 1 from (by omega))); cases hj; first | exact hq ⟨18, .chain⟩ (by simp) rfl | exact hq ⟨18, .data⟩ (by simp) rfl | exact hq ⟨18, .call⟩ (by simp) rfl) (fun L a w' hI hq hS => Lt.call4 rfl (hI.pure 14 _ _ rfl (hq ⟨14, .data⟩ (by simp) rfl)) rfl rfl (hI.pure 22 _ _ rfl (hq ⟨22, .data⟩ (by simp) rfl)) rfl (by simp [go_sem])) (fun s w' hS => (by have e1 := hS.hnd rfl; rw [e1]; exact (Ls.lay_new H5.out hand (lj ix) rfl w').mono (by rintro e w3 ⟨B, R, rfl, hl, hnw, hg⟩; exact ⟨_, rfl, GS.lay_ lb0 lbm lbw lrb h1 h2 hn3 hn5 hn4 hS hg hl hnw (by have := hS.put (by omega); simpa using this) (by simp)⟩)))
    | 24, _ => injection ho with ho; subst ho; exact LtE.read rfl rfl rfl (fun L a w' hI hL hq => Lt.ex_move rfl (hI.fix 0 (Lt.notD rfl) rfl))
    | 25, _ => injection ho with ho; subst ho; exact LtE.read rfl rfl rfl (fun L a w' hI hL hq => ex_func rfl (hI.pure 24 _ _ rfl (hq ⟨24, .data⟩ (by simp) rfl)))
    | 26, _ => injection ho with ho; subst ho; exact LtE.call (m := 3) (args := fun s => #[.pointer (some ⟨b, 0, none⟩), s 43, .func (.func 86) #[.pointer (some ⟨b, 0, none⟩)] #[]]) (by decide) rfl rfl rfl rfl (fun L hq p hp e => by cases hp) (fun L hq m1 j1 e1 hj => by (cases (show m1 = 2 from (by omega))); cases hj; first | exact hq ⟨23, .chain⟩ (by simp) rfl | exact hq ⟨23, .data⟩ (by simp) rfl | exact hq ⟨23, .call⟩ (by simp) rfl) (fun L a w' hI hq hS => Lt.call3 rfl (hI.pure 10 _ _ rfl (hq ⟨10, .data⟩ (by simp) rfl)) rfl (hI.pure 25 _ _ rfl (hq ⟨25, .data⟩ (by simp) rfl)) rfl (by simp [go_sem])) (fun s w' hS => (by obtain ⟨B, R, e1, hl, hnw, _⟩ := hS.lay (by omega); rw [e1 rfl]; exact (goAlong_any (hS.row (by omega)) (by omega)).mono (by rintro e w3 ⟨rfl, r3, t3⟩; exact ⟨_, rfl, GS.go_ lb0 lbm lbw lrb h1 h2 hn3 hn5 hn4 hS hl hnw r3 t3 (by have := hS.put (by omega); simpa using this) (by simp)⟩)))
    | 27, _ => injection ho with ho; subst ho; exact LtE.store (m := 4) (by decide) rfl rfl rfl (fun L hq p hp e => by cases hp) (fun L hq m1 j1 e1 hj => by (cases (show m1 = 3 from (by omega))); cases hj; first | exact hq ⟨26, .chain⟩ (by simp) rfl | exact hq ⟨26, .data⟩ (by simp) rfl | exact hq ⟨26, .call⟩ (by simp) rfl) (fun L a w' Kq hI hq hS hk => wp_store_mid _ _ _ rfl w.heap.size 0 x.cells.toArray (hI.fix 4 (Lt.notD rfl) rfl) (hS.put (by omega)) (by simpa [Stp.cells] using GS.thr lb0 lbm lbw lrb h1 h2 hn3 hn5 hn4 hS) (by kernel_rfl) (by simp [Stp.cells, Value.oneCell']) (hk _ _ (GS.sto_ lb0 lbm lbw lrb h1 h2 hn3 hn5 hn4 hS)))
    | 28, _ => injection ho with ho; subst ho; exact LtE.link (m := 5) (by decide) rfl rfl rfl rfl (fun L hq p hp e => by cases hp) (fun L hq m1 j1 e1 hj => by (cases (show m1 = 4 from (by omega))); cases hj; first | exact hq ⟨27, .chain⟩ (by simp) rfl | exact hq ⟨27, .data⟩ (by simp) rfl | exact hq ⟨27, .call⟩ (by simp) rfl) (fun L a w' Kq hI hq hS hk => Lt.wp_value (Lt.ex_assign rfl (hS.go (.inr rfl))) (hk _ _ (GS.fin_ hS (by have := hS.put (by omega); simpa using this) (by simp))))
  case Afi =>
    intro L a' w' hI hall
    have hd := hI.world.done (fun i hi => hall i (by simp at hi ⊢; omega))
    have e5 : a'.eval (.tmp 5) = .int .i64 0 := hd.fin (by simp)
    have hfr := LtH.frame hI [20, 21, 22, 23, 24, 25, 26, 27, 28, 29, 30, 31, 32, 33, 34, 35, 36, 37, 38, 39, 40, 41, 42, 43, 44, 45, 46, 5] rfl rfl (fun x hx => by simp at hx ⊢; omega)
    obtain ⟨t20, e20⟩ : ∃ t, a'.eval (.tmp 20) = t := ⟨_, rfl⟩
    obtain ⟨t21, e21⟩ : ∃ t, a'.eval (.tmp 21) = t := ⟨_, rfl⟩
    obtain ⟨t22, e22⟩ : ∃ t, a'.eval (.tmp 22) = t := ⟨_, rfl⟩
    obtain ⟨t23, e23⟩ : ∃ t, a'.eval (.tmp 23) = t := ⟨_, rfl⟩
    obtain ⟨t24, e24⟩ : ∃ t, a'.eval (.tmp 24) = t := ⟨_, rfl⟩
    obtain ⟨t25, e25⟩ : ∃ t, a'.eval (.tmp 25) = t := ⟨_, rfl⟩
    obtain ⟨t26, e26⟩ : ∃ t, a'.eval (.tmp 26) = t := ⟨_, rfl⟩
    obtain ⟨t27, e27⟩ : ∃ t, a'.eval (.tmp 27) = t := ⟨_, rfl⟩
    obtain ⟨t28, e28⟩ : ∃ t, a'.eval (.tmp 28) = t := ⟨_, rfl⟩
    obtain ⟨t29, e29⟩ : ∃ t, a'.eval (.tmp 29) = t := ⟨_, rfl⟩
    obtain ⟨t30, e30⟩ : ∃ t, a'.eval (.tmp 30) = t := ⟨_, rfl⟩
    obtain ⟨t31, e31⟩ : ∃ t, a'.eval (.tmp 31) = t := ⟨_, rfl⟩
    obtain ⟨t32, e32⟩ : ∃ t, a'.eval (.tmp 32) = t := ⟨_, rfl⟩
    obtain ⟨t33, e33⟩ : ∃ t, a'.eval (.tmp 33) = t := ⟨_, rfl⟩
    obtain ⟨t34, e34⟩ : ∃ t, a'.eval (.tmp 34) = t := ⟨_, rfl⟩
    obtain ⟨t35, e35⟩ : ∃ t, a'.eval (.tmp 35) = t := ⟨_, rfl⟩
    obtain ⟨t36, e36⟩ : ∃ t, a'.eval (.tmp 36) = t := ⟨_, rfl⟩
    obtain ⟨t37, e37⟩ : ∃ t, a'.eval (.tmp 37) = t := ⟨_, rfl⟩
    obtain ⟨t38, e38⟩ : ∃ t, a'.eval (.tmp 38) = t := ⟨_, rfl⟩
    obtain ⟨t39, e39⟩ : ∃ t, a'.eval (.tmp 39) = t := ⟨_, rfl⟩
    obtain ⟨t40, e40⟩ : ∃ t, a'.eval (.tmp 40) = t := ⟨_, rfl⟩
    obtain ⟨t41, e41⟩ : ∃ t, a'.eval (.tmp 41) = t := ⟨_, rfl⟩
    obtain ⟨t42, e42⟩ : ∃ t, a'.eval (.tmp 42) = t := ⟨_, rfl⟩
    obtain ⟨t43, e43⟩ : ∃ t, a'.eval (.tmp 43) = t := ⟨_, rfl⟩
    obtain ⟨t44, e44⟩ : ∃ t, a'.eval (.tmp 44) = t := ⟨_, rfl⟩
    obtain ⟨t45, e45⟩ : ∃ t, a'.eval (.tmp 45) = t := ⟨_, rfl⟩
    obtain ⟨t46, e46⟩ : ∃ t, a'.eval (.tmp 46) = t := ⟨_, rfl⟩
    rw [hfr]
    simp only [LtH.lay, List.foldl, e20, e21, e22, e23, e24, e25, e26, e27, e28, e29, e30, e31, e32, e33, e34, e35, e36, e37, e38, e39, e40, e41, e42, e43, e44, e45, e46, e5]
    have HDN := hide (And.intro hd.tch (And.intro hd.mem (hd.lay (by simp))))
    obtain ⟨c0, c1, c2, c3, c4, c5⟩ := stp6 (hd.sto (by simp))
    clear hfr hI hall hd e20 e21 e22 e23 e24 e25 e26 e27 e28 e29 e30 e31 e32 e33 e34 e35 e36 e37 e38 e39 e40 e41 e42 e43 e44 e45 e46 e5
    simp only [Act.put, List.setIfInBounds_toArray, List.set_cons_succ, List.set_cons_zero]
    go_wp2_with fail
    refine bodyPost_ret (v := .tuple #[x.val, .int .i64 0]) ?res rfl ⟨rfl, ?pst⟩
    case res => simp [results, Tryz.results73, go_sem, Stp.val, *]
    case pst =>
      obtain ⟨t, mm, B, R, _, hl, hnw, hr⟩ := HDN.out
      exact ⟨B, R, hr (by simp), hl, fun i x e => by have := hnw i x e; omega, by simpa using mm, TW1.out.trans' t (fun k hk h => by rcases h with h | h | h; exact .inl h; exact .inr h; omega)⟩
theorem drawn_no {w : World} {b : Nat} {v : Int} (hl : b < w.heap.size) : Calls Tryz.prog 41 #[.pointer (some ⟨b, 0, none⟩), .agg #[.bool false, .int .u64 v]] w fun e w' => e = .returned (.int .i64 1) ∧ Below w.heap.size w w' := by
  have RF := hide (fun w1 : World => refuse_any (.pointer (some ⟨b, 0, none⟩)) w1)
  have BB := hide ((Below.refl w.heap.size w).alloc (Nat.le_refl _) (.cells #[.bool false, .int .u64 v] 40))
  go_enter Tryz.func41, Tryz.ntmps41
  go_wp2_with (go_at_call 55; refine (RF.out _).mono ?_; rintro e wq ⟨rfl, hwq⟩; obtain rfl := hwq.symm)
  go_ret
  exact ⟨rfl, BB.out⟩
theorem drawn_yes {w : World} {b : Nat} {sh : Shp} {hand : Int} {fn v2 v3 : Value} {t : Ans} {fl : Bool} {c ix gn v : Int} (h_ : w.rowIs b 101 16 (mC sh hand fn v2 v3 t fl c ix gn)) (hv : 0 ≤ v ∧ v ≤ 9223372036854775807) :
    Calls Tryz.prog 41 #[.pointer (some ⟨b, 0, none⟩), .agg #[.bool true, .int .u64 v]] w fun e w' => e = .returned (.int .i64 0) ∧
      w'.rowIs b 101 16 (mC sh hand (.func (.func 57) #[.pointer (some ⟨b, 0, none⟩)] #[]) v2 v3 t fl c v gn) ∧ Touch w w' (fun k => k = b) := by
  have hl := h_.lt
  have g1 : wrap64 v = v := by unfold wrap64; omega
  have c14 := h_.cell (i := 14) (by omega)
  have f14 := h_.frozen 14
  have GO := hide (fun (w1 : World) (C : Nat → Value) (h1 : w1.rowIs b 101 16 C) => goOn_any 57 h1 (by omega))
  have R1 := hide ((h_.set 14 (.int .i64 v)).alloc (.cells #[.bool true, .int .u64 v] 40))
  have T1 := hide (((Touch.refl w (fun k => k = b)).setCell ⟨b, 14, none⟩ (.inl rfl) (.int .i64 v)).alloc (.cells #[.bool true, .int .u64 v] 40))
  clear h_ hv
  go_enter Tryz.func41, Tryz.ntmps41
  go_wp2_with fail
  refine (GO.out _ _ R1.out).mono ?_
  rintro e w1 ⟨rfl, r1, t1⟩
  have R2 := hide r1
  have T2 := hide t1
  clear r1 t1
  go_wp2_with fail
  go_ret
  refine ⟨rfl, R2.out.congr (fun i hi => ?_), T1.out.trans T2.out⟩
  match i, hi with
  | 0, _ | 1, _ | 2, _ | 3, _ | 4, _ | 5, _ | 6, _ | 7, _ | 8, _ | 9, _ | 10, _ | 11, _ | 12, _ | 13, _ | 14, _ | 15, _ => rfl
  | k + 16, hk => exact absurd hk (by omega)
theorem laid_any {w : World} {b : Nat} {sh : Shp} {hand : Int} {fn v2 v3 : Value} {t u : Ans} {ix sl gn : Int} (h_ : w.rowIs b 105 15 (gC sh hand fn v2 v3 t ix sl gn)) :
    Calls Tryz.prog 86 #[.pointer (some ⟨b, 0, none⟩), u.value] w fun e w' => e = .returned (.int .i64 0) ∧
      w'.rowIs b 105 15 (gC sh hand (.func (.func 83) #[.pointer (some ⟨b, 0, none⟩)] #[]) v2 v3 t ix sl gn) ∧ Touch w w' (fun k => k = b) := by
  have hl := h_.lt
  have R1 := hide (h_.alloc (.cells #[.bool u.ok, .int .u64 u.val] 40))
  have T1 := hide ((Touch.refl w (fun k => k = b)).alloc (.cells #[.bool u.ok, .int .u64 u.val] 40))
  obtain ⟨uo, uv⟩ := u
  simp only [Ans.value] at R1 T1 ⊢
  clear h_
  go_enter Tryz.func86, Tryz.ntmps86
  go_wp2_with fail
  refine (goOn_any 83 R1.out (by omega)).mono ?_
  rintro e w1 ⟨rfl, r1, t1⟩
  have R2 := hide r1
  have T2 := hide t1
  clear r1 t1
  go_wp2_with fail
  go_ret
  refine ⟨rfl, R2.out.congr (fun i hi => ?_), T1.out.trans T2.out⟩
  match i, hi with
  | 0, _ | 1, _ | 2, _ | 3, _ | 4, _ | 5, _ | 6, _ | 7, _ | 8, _ | 9, _ | 10, _ | 11, _ | 12, _ | 13, _ | 14, _ => rfl
end Rom
end
end Go.Proofs.YtidihnnmdmlgfaaGreat
