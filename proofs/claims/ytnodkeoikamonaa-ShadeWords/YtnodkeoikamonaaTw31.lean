/-
  Lemmas: ShadeS, ShadeK.
-/
import Derived.Test.YtnodkeoikamonaaTw27
import Derived.Test.YtnodkeoikamonaaTw28
import Derived.Test.YtnodkeoikamonaaTw30
/-
  Shading and pulling: Step, which calls what the task has put into its field, and Answer.
-/
namespace Go.Proofs.Ytnodkeoikamonaa
open Go.RowKit
set_option linter.unusedVariables false
set_option linter.unusedSimpArgs false
set_option maxRecDepth 20000
namespace Shd
set_option maxHeartbeats 4000000 in
theorem step_of {w : World} {b T nc bm bw n : Nat} {C C' : Nat → Value} {f f' : Nat → Int} {x : Stp} {en : Int} (F : FuncId) (hF : ∀ (args : Array Value) (w : World), (callFunc F args).run Try.prog w = .ok (.enter F args) w) (h : w.rowIs b T nc C) (hn : 1 < nc) (c1 : C 1 = (.func (.func F) #[.pointer (some ⟨b, 0, none⟩)] #[])) (hm : IsMem w bm bw n f)
    (KF : ∀ w1 : World, w1.rowIs b T nc C → IsMem w1 bm bw n f → Calls Try.prog F #[.pointer (some ⟨b, 0, none⟩), .pointer (some ⟨bm, 0, none⟩)] w1 fun e w' => e = .returned (.tuple #[x.val, .int .i64 en]) ∧ w'.rowIs b T nc C' ∧ IsMem w' bm bw n f' ∧ Touch w1 w' (fun k => k = b ∨ k = bw)) :
    Calls Try.prog 162 #[.pointer (some ⟨b, 0, none⟩), .pointer (some ⟨bm, 0, none⟩)] w fun e w' => e = .returned (.tuple #[x.val, .int .i64 en]) ∧ w'.rowIs b T nc C' ∧ IsMem w' bm bw n f' ∧ Touch w w' (fun k => k = b ∨ k = bw) := by
  have lw := hm.row.lt
  have lm := hm.head.lt
  have hl := h.lt
  have hA := h.alloc (.cells #[.int .i64 0, .int .i64 0, .int .i64 0, .int .u64 0, .int .u64 0, .bool false] 63)
  have K0 := hide (KF _ hA (hm.alloc (.cells #[.int .i64 0, .int .i64 0, .int .i64 0, .int .u64 0, .int .u64 0, .bool false] 63)))
  have RZ := hide (row0 w)
  have e1 := h.cell (i := 1) hn
  rw [c1] at e1
  have T0 := hide ((Touch.refl w (fun k => k = b ∨ k = bw)).alloc (.cells #[.int .i64 0, .int .i64 0, .int .i64 0, .int .u64 0, .int .u64 0, .bool false] 63))
  clear h hA hm KF c1
  go_enter Try.func162, Try.ntmps162
  go_wp2_with fail
  refine K0.out.mono ?_
  rintro e w1 ⟨rfl, hr1, hm1, ht1⟩
  simp only [Stp.val]
  have s1 := ht1.size
  simp only [World.size_alloc] at s1
  have RR := hide (RZ.out.of_block (ht1.block w.heap.size (by simp) (by omega)))
  have R1 := hide hr1
  have M1 := hide hm1
  have T1 := hide (T0.out.trans' ht1 (fun k _ e => e))
  clear hr1 hm1 ht1 K0 RZ T0 e1 hF
  have l2 : w.heap.size < w1.heap.size := by omega
  obtain ⟨⟨r0, rf0⟩, ⟨r1, rf1⟩, ⟨r2, rf2⟩, ⟨r3, rf3⟩, ⟨r4, rf4⟩, r5, rf5⟩ := res_facts RR.out
  go_wp2_with fail
  go_light
  refine bodyPost_ret (v := .tuple #[x.val, .int .i64 en]) ?res rfl ⟨rfl, ?row, ?mem, ?tch⟩
  case row =>
    repeat (with_reducible refine World.rowIs.setOther ?_ ?side _; case side => (simp; omega))
    with_reducible exact R1.out
  case mem =>
    repeat ((with_reducible refine IsMem.setOther ?_ ?_ ?_ _); rotate_left; (simp; omega); (simp; omega))
    with_reducible exact M1.out
  case tch =>
    repeat (with_reducible refine Touch.setCell ?_ _ ?side _; case side => (first | (simp; done) | (simp; omega)))
    with_reducible exact T1.out
  case res => simp [results, Try.results162, go_sem, Stp.val, *]
theorem ans_of {w : World} {b T nc : Nat} {C : Nat → Value} {t : Ans} (h : w.rowIs b T nc C) (hn : 4 < nc) (c3 : C 3 = .bool t.ok) (c4 : C 4 = .int .u64 t.val) :
    Calls Try.prog 161 #[.pointer (some ⟨b, 0, none⟩)] w fun e w' => e = .returned t.value ∧ w.grownBy w' none := by
  obtain ⟨ok, val⟩ := t
  have h6 := h.cell (i := 3) (by omega)
  have h7 := h.cell (i := 4) (by omega)
  rw [c3] at h6
  rw [c4] at h7
  have hl := h.lt
  clear h c3 c4
  go_enter Try.func161, Try.ntmps161
  go_wp2
  go_light
  refine bodyPost_ret (v := Ans.value ⟨ok, val⟩) ?_ rfl ⟨rfl, grown_alloc (grown_refl _ _) _⟩
  simp [results, Try.results161, go_sem, Ans.value]
end Shd
end Go.Proofs.Ytnodkeoikamonaa
/-
  Shading and pulling: their kind: what each task does is what its abstract task says.
-/
namespace Go.Proofs.Ytnodkeoikamonaa
open Go.RowKit
set_option linter.unusedVariables false
set_option linter.unusedSimpArgs false
set_option maxRecDepth 20000
namespace Shd
set_option maxHeartbeats 4000000 in
theorem step_any {any : Bool} {sh : Shp} (h5 : Shape.R5 sh.a sh.b sh.c sh.d sh.e) {w : World} {b bm bw n : Nat} {f : Nat → Int} {s : ShS} {j : Jb} (hj : s.j = j ∧ Wf sh s) (h : w.rowIs b ((kShd any sh).t j) ((kShd any sh).n j) (scell sh b s)) (hm : IsMem w bm bw n f) (h1 : b ≠ bm) (h2 : b ≠ bw) :
    Calls Try.prog 162 #[.pointer (some ⟨b, 0, none⟩), .pointer (some ⟨bm, 0, none⟩)] w fun e w' => e = .returned (.tuple #[(stepOf n f (sreq sh s)).val, .int .i64 (if sends sh s (stepOf n f (sreq sh s)) = true then 1 else 0)]) ∧
      w'.rowIs b ((kShd any sh).t j) ((kShd any sh).n j) (scell sh b (snext sh s (stepOf n f (sreq sh s)))) ∧ IsMem w' bm bw n (wordsOf n f (sreq sh s)) ∧ Touch w w' (fun k => k = b ∨ k = bw) := by
  obtain ⟨rfl, H⟩ := hj
  have hxh := had_bounds hm.word (sreq sh s)
  obtain ⟨x, hx⟩ : ∃ x, stepOf n f (sreq sh s) = x := ⟨_, rfl⟩
  obtain ⟨f', hf'⟩ : ∃ f', wordsOf n f (sreq sh s) = f' := ⟨_, rfl⟩
  rw [hx] at hxh
  rw [hx, hf']
  obtain ⟨hst, hh, hg, hv, hxi, hxb⟩ := H
  obtain ⟨hand, j, st, g, v, xi, xl, xb, told⟩ := s
  simp only at hst hh hg hv hxi hxb hx hf' h ⊢
  have ih0 := idx_lo j.h
  have ih1 := idx_hi j.h
  rcases hst with ⟨hk, hst⟩ | ⟨hk, hst⟩
  · simp only [kShd, pick1 hk] at h ⊢
    have sc : ∀ st' g' v' xi' xl' xb' t', scell sh b ⟨hand, j, st', g', v', xi', xl', xb', t'⟩ = pC sh hand (fnP b st') g' t' xi' xl' xb' := fun _ _ _ _ _ _ _ => by simp [scell, hk]
    rw [sc] at h
    rcases hst with rfl | rfl | rfl
    · have er : sreq sh ⟨hand, j, 0, g, v, xi, xl, xb, told⟩ = ⟨hand, 1, 2, 0, 0, true⟩ := by simp [sreq, hk]
      rw [er] at hx hf'
      by_cases ht : there sh (idx x.had)
      · have e1 : sends sh ⟨hand, j, 0, g, v, xi, xl, xb, told⟩ x = false := by simp [sends, hk, ht]
        have e2 : snext sh ⟨hand, j, 0, g, v, xi, xl, xb, told⟩ x = ⟨hand, j, 1, x.had, v, idx x.had, linkAt sh (idx x.had), xb, told⟩ := by simp [snext, hk, ht]
        rw [e1, e2, sc, if_neg (by decide)]
        exact step_of 75 (fun args w => by simp [go_sem]) h (by omega) rfl hm (fun w1 r1 m1 => find_yes r1 m1 h1 h2 h5 hxh ht hx hf')
      · have e1 : sends sh ⟨hand, j, 0, g, v, xi, xl, xb, told⟩ x = true := by simp [sends, hk, ht]
        have e2 : snext sh ⟨hand, j, 0, g, v, xi, xl, xb, told⟩ x = ⟨hand, j, 0, x.had, v, idx x.had, xl, xb, told⟩ := by simp [snext, hk, ht]
        rw [e1, e2, sc, if_pos rfl]
        exact step_of 75 (fun args w => by simp [go_sem]) h (by omega) rfl hm (fun w1 r1 m1 => find_no r1 m1 h1 h2 h5 hxh ht hx hf')
    · have er : sreq sh ⟨hand, j, 1, g, v, xi, xl, xb, told⟩ = ⟨hand, 1, xl, 0, 0, true⟩ := by simp [sreq, hk]
      rw [er] at hx hf'
      have e1 : sends sh ⟨hand, j, 1, g, v, xi, xl, xb, told⟩ x = false := by simp [sends, hk]
      have e2 : snext sh ⟨hand, j, 1, g, v, xi, xl, xb, told⟩ x = ⟨hand, j, 2, g, x.had, xi, xl, idx x.had, told⟩ := by simp [snext, hk]
      rw [e1, e2, sc, if_neg (by decide)]
      exact step_of 104 (fun args w => by simp [go_sem]) h (by omega) rfl hm (fun w1 r1 m1 => peek_any r1 m1 h1 h2 hxh hx hf')
    · have er : sreq sh ⟨hand, j, 2, g, v, xi, xl, xb, told⟩ = ⟨hand, 5, 2, g, bmp g xb, true⟩ := by simp [sreq, hk]
      rw [er] at hx hf'
      have hxi' : 0 ≤ xi ∧ xi < 4294967296 := by rw [(hxi hk (by simp)).1]; exact ⟨idx_lo _, idx_hi _⟩
      cases hok : x.ok with
      | true =>
        have e1 : sends sh ⟨hand, j, 2, g, v, xi, xl, xb, told⟩ x = true := by simp [sends, hk, hok]
        have e2 : snext sh ⟨hand, j, 2, g, v, xi, xl, xb, told⟩ x = ⟨hand, j, 2, g, v, xi, xl, xb, ⟨true, xi⟩⟩ := by simp [snext, hk, hok]
        rw [e1, e2, sc, if_pos rfl]
        exact step_of 123 (fun args w => by simp [go_sem]) h (by omega) rfl hm (fun w1 r1 m1 => take_yes r1 m1 h1 h2 hg hxi' hok hx hf')
      | false =>
        have e1 : sends sh ⟨hand, j, 2, g, v, xi, xl, xb, told⟩ x = false := by simp [sends, hk, hok]
        have e2 : snext sh ⟨hand, j, 2, g, v, xi, xl, xb, told⟩ x = ⟨hand, j, 0, g, v, xi, xl, xb, told⟩ := by simp [snext, hk, hok]
        rw [e1, e2, sc, if_neg (by decide)]
        exact step_of 123 (fun args w => by simp [go_sem]) h (by omega) rfl hm (fun w1 r1 m1 => take_no r1 m1 h1 h2 hg hxi' hok hx hf')
  · simp only [kShd, pick2 hk] at h ⊢
    have sc : ∀ st' g' v' xi' xl' xb' t', scell sh b ⟨hand, j, st', g', v', xi', xl', xb', t'⟩ = mC hand (fnM b st') g' t' (idx j.h) (j.h / 4294967296) (col j) (headAt sh (idx j.h)) (linkAt sh (idx j.h)) v' := fun _ _ _ _ _ _ _ => by simp [scell, hk]
    rw [sc] at h
    rcases hst with rfl | rfl | rfl | rfl | rfl
    · have er : sreq sh ⟨hand, j, 0, g, v, xi, xl, xb, told⟩ = ⟨hand, 1, headAt sh (idx j.h), 0, 0, true⟩ := by simp [sreq, hk]
      rw [er] at hx hf'
      cases hwh : whiteB x.had (j.h / 4294967296) (col j) with
      | true =>
        have e1 : sends sh ⟨hand, j, 0, g, v, xi, xl, xb, told⟩ x = false := by simp [sends, hk, hwh]
        have e2 : snext sh ⟨hand, j, 0, g, v, xi, xl, xb, told⟩ x = ⟨hand, j, 1, g, x.had, xi, xl, xb, told⟩ := by simp [snext, hk, hwh]
        rw [e1, e2, sc, if_neg (by decide)]
        exact step_of 78 (fun args w => by simp [go_sem]) h (by omega) rfl hm (fun w1 r1 m1 => look_yes r1 m1 h1 h2 hxh hwh hx hf')
      | false =>
        have e1 : sends sh ⟨hand, j, 0, g, v, xi, xl, xb, told⟩ x = true := by simp [sends, hk, hwh]
        have e2 : snext sh ⟨hand, j, 0, g, v, xi, xl, xb, told⟩ x = ⟨hand, j, 0, g, v, xi, xl, xb, told⟩ := by simp [snext, hk, hwh]
        rw [e1, e2, sc, if_pos rfl]
        exact step_of 78 (fun args w => by simp [go_sem]) h (by omega) rfl hm (fun w1 r1 m1 => look_no r1 m1 h1 h2 hxh hwh hx hf')
    · have er : sreq sh ⟨hand, j, 1, g, v, xi, xl, xb, told⟩ = ⟨hand, 5, headAt sh (idx j.h), v, xr v, true⟩ := by simp [sreq, hk]
      rw [er] at hx hf'
      have e1 : sends sh ⟨hand, j, 1, g, v, xi, xl, xb, told⟩ x = false := by simp [sends, hk]
      cases hok : x.ok with
      | true =>
        have e2 : snext sh ⟨hand, j, 1, g, v, xi, xl, xb, told⟩ x = ⟨hand, j, 2, g, v, xi, xl, xb, told⟩ := by simp [snext, hk, hok]
        rw [e1, e2, sc, if_neg (by decide)]
        exact step_of 108 (fun args w => by simp [go_sem]) h (by omega) rfl hm (fun w1 r1 m1 => paint_yes r1 m1 h1 h2 hv hok hx hf')
      | false =>
        have e2 : snext sh ⟨hand, j, 1, g, v, xi, xl, xb, told⟩ x = ⟨hand, j, 0, g, v, xi, xl, xb, told⟩ := by simp [snext, hk, hok]
        rw [e1, e2, sc, if_neg (by decide)]
        exact step_of 108 (fun args w => by simp [go_sem]) h (by omega) rfl hm (fun w1 r1 m1 => paint_no r1 m1 h1 h2 hv hok hx hf')
    · have er : sreq sh ⟨hand, j, 2, g, v, xi, xl, xb, told⟩ = ⟨hand, 1, 2, 0, 0, true⟩ := by simp [sreq, hk]
      rw [er] at hx hf'
      have e1 : sends sh ⟨hand, j, 2, g, v, xi, xl, xb, told⟩ x = false := by simp [sends, hk]
      have e2 : snext sh ⟨hand, j, 2, g, v, xi, xl, xb, told⟩ x = ⟨hand, j, 3, x.had, v, xi, xl, xb, told⟩ := by simp [snext, hk]
      rw [e1, e2, sc, if_neg (by decide)]
      exact step_of 127 (fun args w => by simp [go_sem]) h (by omega) rfl hm (fun w1 r1 m1 => meet_any r1 m1 h1 h2 hx hf')
    · have er : sreq sh ⟨hand, j, 3, g, v, xi, xl, xb, told⟩ = ⟨hand, 2, linkAt sh (idx j.h), 0, idx g, true⟩ := by simp [sreq, hk]
      rw [er] at hx hf'
      have e1 : sends sh ⟨hand, j, 3, g, v, xi, xl, xb, told⟩ x = false := by simp [sends, hk]
      have e2 : snext sh ⟨hand, j, 3, g, v, xi, xl, xb, told⟩ x = ⟨hand, j, 4, g, v, xi, xl, xb, told⟩ := by simp [snext, hk]
      rw [e1, e2, sc, if_neg (by decide)]
      exact step_of 136 (fun args w => by simp [go_sem]) h (by omega) rfl hm (fun w1 r1 m1 => tie_any r1 m1 h1 h2 hg hx hf')
    · have er : sreq sh ⟨hand, j, 4, g, v, xi, xl, xb, told⟩ = ⟨hand, 5, 2, g, bmp g (idx j.h), true⟩ := by simp [sreq, hk]
      rw [er] at hx hf'
      cases hok : x.ok with
      | true =>
        have e1 : sends sh ⟨hand, j, 4, g, v, xi, xl, xb, told⟩ x = true := by simp [sends, hk, hok]
        have e2 : snext sh ⟨hand, j, 4, g, v, xi, xl, xb, told⟩ x = ⟨hand, j, 4, g, v, xi, xl, xb, ⟨true, idx j.h⟩⟩ := by simp [snext, hk, hok]
        rw [e1, e2, sc, if_pos rfl]
        exact step_of 141 (fun args w => by simp [go_sem]) h (by omega) rfl hm (fun w1 r1 m1 => lay_yes r1 m1 h1 h2 hg ⟨ih0, ih1⟩ hok hx hf')
      | false =>
        have e1 : sends sh ⟨hand, j, 4, g, v, xi, xl, xb, told⟩ x = false := by simp [sends, hk, hok]
        have e2 : snext sh ⟨hand, j, 4, g, v, xi, xl, xb, told⟩ x = ⟨hand, j, 2, g, v, xi, xl, xb, told⟩ := by simp [snext, hk, hok]
        rw [e1, e2, sc, if_neg (by decide)]
        exact step_of 141 (fun args w => by simp [go_sem]) h (by omega) rfl hm (fun w1 r1 m1 => lay_no r1 m1 h1 h2 hg ⟨ih0, ih1⟩ hok hx hf')
theorem ans_any {any : Bool} {sh : Shp} {w : World} {b : Nat} {s : ShS} {j : Jb} (hj : s.j = j) (h : w.rowIs b ((kShd any sh).t j) ((kShd any sh).n j) (scell sh b s)) :
    Calls Try.prog 161 #[.pointer (some ⟨b, 0, none⟩)] w fun e w' => e = .returned s.told.value ∧ w.grownBy w' none := by
  subst hj
  by_cases hk : s.j.kind = 2
  · simp only [kShd, pick1 hk] at h
    rw [show scell sh b s = pC sh s.hand (fnP b s.st) s.g s.told s.xi s.xl s.xb from by simp [scell, hk]] at h
    exact ans_of h (by omega) rfl rfl
  · simp only [kShd, pick2 hk] at h
    rw [show scell sh b s = mC s.hand (fnM b s.st) s.g s.told (idx s.j.h) (s.j.h / 4294967296) (col s.j) (headAt sh (idx s.j.h)) (linkAt sh (idx s.j.h)) s.v from by simp [scell, hk]] at h
    exact ans_of h (by omega) rfl rfl
theorem ms1 (b : Nat) (w : World) : (method 320 140 (.pointer (some ⟨b, 0, none⟩)) "Step").run Try.prog w = .ok (162, .pointer (some ⟨b, 0, none⟩)) w := by kernel_rfl
theorem ma1 (b : Nat) (w : World) : (method 320 140 (.pointer (some ⟨b, 0, none⟩)) "Answer").run Try.prog w = .ok (161, .pointer (some ⟨b, 0, none⟩)) w := by kernel_rfl
theorem ms2 (b : Nat) (w : World) : (method 320 146 (.pointer (some ⟨b, 0, none⟩)) "Step").run Try.prog w = .ok (162, .pointer (some ⟨b, 0, none⟩)) w := by kernel_rfl
theorem ma2 (b : Nat) (w : World) : (method 320 146 (.pointer (some ⟨b, 0, none⟩)) "Answer").run Try.prog w = .ok (161, .pointer (some ⟨b, 0, none⟩)) w := by kernel_rfl
theorem cs1 (args : Array Value) (w : World) : (callFunc 162 args).run Try.prog w = .ok (.enter 162 args) w := by simp [go_sem]
theorem ca1 (args : Array Value) (w : World) : (callFunc 161 args).run Try.prog w = .ok (.enter 161 args) w := by simp [go_sem]
theorem isKind {any : Bool} {sh : Shp} (h5 : Shape.R5 sh.a sh.b sh.c sh.d sh.e) : IsKind (kShd any sh) where
  ok := ⟨fun h j hj => ⟨rfl, wf_init sh h hj.1⟩, fun j s n f hf hs he => ⟨(snext_j sh s _).trans hs.1, snext_wf hs.2 (had_bounds hf _) he⟩⟩
  step := fun hf hj h hm h1 h2 => step_any h5 hj h hm h1 h2
  ans := fun hf hj h => by
    obtain ⟨s0, n, f, h1, h2, rfl⟩ := hj
    exact ans_any ((snext_j _ _ _).trans h2.1) h
  mstep := fun j hf b w => by
    by_cases hk : j.kind = 2
    · simp only [kShd, pick1 hk]; exact ms1 b w
    · simp only [kShd, pick2 hk]; exact ms2 b w
  mans := fun j hf b w => by
    by_cases hk : j.kind = 2
    · simp only [kShd, pick1 hk]; exact ma1 b w
    · simp only [kShd, pick2 hk]; exact ma2 b w
  cstep := fun j hf args w => cs1 args w
  cans := fun j hf args w => ca1 args w
end Shd
end Go.Proofs.Ytnodkeoikamonaa
