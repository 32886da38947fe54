/-
  Lemmas: BellK, BellM, BellP.
-/
import Derived.Test.YtbjlpmahomjgjaaTp23
import Derived.Test.YtbjlpmahomjgjaaTp24
import Derived.Test.YtbjlpmahomjgjaaTp18
/-
  The tasks of a bell: the kind: what each does is what its abstract task says.
-/
namespace Go.Proofs.Ytbjlpmahomjgjaa
open Go.RowKit
set_option linter.unusedVariables false
set_option linter.unusedSimpArgs false
set_option maxRecDepth 20000
namespace Bell

theorem rg_ans {w : World} {b : Nat} {hand al st mine rung : Int} {t : Ans} (h : w.rowIs b 109 7 (rgC hand al st mine rung t)) : Calls Try.prog 116 #[.pointer (some ⟨b, 0, none⟩)] w fun e w' => e = .returned t.value ∧ w.grownBy w' none := by
  obtain ⟨ok, val⟩ := t
  have h6 : w.cell? ⟨b, 5, none⟩ = some (.bool ok) := h.cell (i := 5) (by omega)
  have h7 : w.cell? ⟨b, 6, none⟩ = some (.int .u64 val) := h.cell (i := 6) (by omega)
  have hl := h.lt
  go_enter Try.func116, Try.ntmps116
  go_wp2
  go_light
  refine bodyPost_ret (v := Ans.value ⟨ok, val⟩) ?_ rfl ⟨rfl, grown_alloc (grown_refl _ _) _⟩
  simp [results, Try.results116, go_sem, Ans.value]

theorem step_any (r : Int) {w : World} {b bm bw n : Nat} {f : Nat → Int} {s : BeS} (H : Wf s) (h : w.rowIs b 109 7 (bcell r s)) (hm : IsMem w bm bw n f) (h1 : b ≠ bm) (h2 : b ≠ bw) :
    Calls Try.prog 117 #[.pointer (some ⟨b, 0, none⟩), .pointer (some ⟨bm, 0, none⟩)] w fun e w' => e = .returned (.tuple #[(stepOf n f (breq r s)).val, .int .i64 (if bends r s (stepOf n f (breq r s)) = true then 1 else 0)]) ∧
      w'.rowIs b 109 7 (bcell r (bnext r s (stepOf n f (breq r s)))) ∧ IsMem w' bm bw n (wordsOf n f (breq r s)) ∧ Touch w w' (fun k => k = b ∨ k = bw) := by
  obtain ⟨x, hx⟩ : ∃ x, stepOf n f (breq r s) = x := ⟨_, rfl⟩
  obtain ⟨f', hf'⟩ : ∃ f', wordsOf n f (breq r s) = f' := ⟨_, rfl⟩
  rw [hx, hf']
  obtain ⟨hs, _, _, _⟩ := H
  obtain ⟨hand, j, st, mine, rung, t⟩ := s
  simp only at hs
  rcases hs with rfl | rfl | rfl | rfl | rfl
  · have e4 : breq r ⟨hand, j, 0, mine, rung, t⟩ = ⟨hand, 1, 1, 0, 0, true⟩ := by simp [breq]
    have e5 : bends r ⟨hand, j, 0, mine, rung, t⟩ x = false := by simp [bends]
    have e7 : bcell r (bnext r ⟨hand, j, 0, mine, rung, t⟩ x) = rgC hand r 1 x.had rung t := by simp [bcell, bnext]
    rw [e4] at hx hf'
    rw [e5, e7, if_neg (by decide)]
    exact look_goes h hm h1 h2 hx hf'
  · have e4 : breq r ⟨hand, j, 1, mine, rung, t⟩ = ⟨hand, 4, 0, 0, 1, true⟩ := by simp [breq]
    have e5 : bends r ⟨hand, j, 1, mine, rung, t⟩ x = false := by simp [bends]
    have e7 : bcell r (bnext r ⟨hand, j, 1, mine, rung, t⟩ x) = rgC hand r 2 mine (u64 (x.had + 1)) t := by simp [bcell, bnext]
    rw [e4] at hx hf'
    rw [e5, e7, if_neg (by decide)]
    exact count_goes h hm h1 h2 hx hf'
  · by_cases hq : rung = r
    · have e4 : breq r ⟨hand, j, 2, mine, rung, t⟩ = ⟨hand, 2, 0, 0, 0, true⟩ := by simp [breq, hq]
      have e5 : bends r ⟨hand, j, 2, mine, rung, t⟩ x = false := by simp [bends, hq]
      have e7 : bcell r (bnext r ⟨hand, j, 2, mine, rung, t⟩ x) = rgC hand r 4 mine rung t := by simp [bcell, bnext, hq]
      rw [e4] at hx hf'
      rw [e5, e7, if_neg (by decide)]
      exact clear_goes h hm h1 h2 hq hx hf'
    · by_cases hd : x.had = mine
      · have e4 : breq r ⟨hand, j, 2, mine, rung, t⟩ = ⟨hand, 1, 1, 0, 0, true⟩ := by simp [breq, hq, hd]
        have e5 : bends r ⟨hand, j, 2, mine, rung, t⟩ x = false := by simp [bends, hq, hd]
        have e7 : bcell r (bnext r ⟨hand, j, 2, mine, rung, t⟩ x) = rgC hand r 5 mine rung t := by simp [bcell, bnext, hq, hd]
        rw [e4] at hx hf'
        rw [e5, e7, if_neg (by decide)]
        exact part_goes h hm h1 h2 hq hd hx hf'
      · have e4 : breq r ⟨hand, j, 2, mine, rung, t⟩ = ⟨hand, 1, 1, 0, 0, true⟩ := by simp [breq, hq, hd]
        have e5 : bends r ⟨hand, j, 2, mine, rung, t⟩ x = true := by simp [bends, hq, hd]
        have e7 : bcell r (bnext r ⟨hand, j, 2, mine, rung, t⟩ x) = rgC hand r 5 mine rung ⟨false, mine⟩ := by simp [bcell, bnext, hq, hd]
        rw [e4] at hx hf'
        rw [e5, e7, if_pos rfl]
        exact part_ends h hm h1 h2 hq hd hx hf'
  · have e4 : breq r ⟨hand, j, 4, mine, rung, t⟩ = ⟨hand, 2, 1, 0, u64 (mine + 1), true⟩ := by simp [breq]
    have e5 : bends r ⟨hand, j, 4, mine, rung, t⟩ x = true := by simp [bends]
    have e7 : bcell r (bnext r ⟨hand, j, 4, mine, rung, t⟩ x) = rgC hand r 4 mine rung ⟨true, mine⟩ := by simp [bcell, bnext]
    rw [e4] at hx hf'
    rw [e5, e7, if_pos rfl]
    exact letgo_ends h hm h1 h2 hx hf'
  · by_cases hd : x.had = mine
    · have e4 : breq r ⟨hand, j, 5, mine, rung, t⟩ = ⟨hand, 1, 1, 0, 0, true⟩ := by simp [breq, hd]
      have e5 : bends r ⟨hand, j, 5, mine, rung, t⟩ x = false := by simp [bends, hd]
      have e7 : bcell r (bnext r ⟨hand, j, 5, mine, rung, t⟩ x) = rgC hand r 5 mine rung t := by simp [bcell, bnext, hd]
      rw [e4] at hx hf'
      rw [e5, e7, if_neg (by decide)]
      exact wait_goes h hm h1 h2 hd hx hf'
    · have e4 : breq r ⟨hand, j, 5, mine, rung, t⟩ = ⟨hand, 1, 1, 0, 0, true⟩ := by simp [breq, hd]
      have e5 : bends r ⟨hand, j, 5, mine, rung, t⟩ x = true := by simp [bends, hd]
      have e7 : bcell r (bnext r ⟨hand, j, 5, mine, rung, t⟩ x) = rgC hand r 5 mine rung ⟨false, mine⟩ := by simp [bcell, bnext, hd]
      rw [e4] at hx hf'
      rw [e5, e7, if_pos rfl]
      exact wait_ends h hm h1 h2 hd hx hf'


theorem ms (b : Nat) (w : World) : (method 305 107 (.pointer (some ⟨b, 0, none⟩)) "Step").run Try.prog w = .ok (117, .pointer (some ⟨b, 0, none⟩)) w := by kernel_rfl
theorem ma (b : Nat) (w : World) : (method 305 107 (.pointer (some ⟨b, 0, none⟩)) "Answer").run Try.prog w = .ok (116, .pointer (some ⟨b, 0, none⟩)) w := by kernel_rfl
theorem cs (args : Array Value) (w : World) : (callFunc 117 args).run Try.prog w = .ok (.enter 117 args) w := by simp [go_sem]
theorem ca (args : Array Value) (w : World) : (callFunc 116 args).run Try.prog w = .ok (.enter 116 args) w := by simp [go_sem]

theorem isKind (r : Int) : IsKind (kBell r) where
  ok := ⟨fun h j hj => ⟨rfl, wf_init r h hj⟩, fun j s n f hf ⟨hs, H⟩ => ⟨(bnext_j r s _).trans hs, bnext_wf H (had_bounds hf _)⟩⟩
  step := fun hf hj h hm h1 h2 => step_any r hj.2 h hm h1 h2
  ans := fun hf hj h => rg_ans h
  mstep := fun j hf b w => ms b w
  mans := fun j hf b w => ma b w
  cstep := fun j hf args w => cs args w
  cans := fun j hf args w => ca args w
end Bell
end Go.Proofs.Ytbjlpmahomjgjaa

/-
  The tasks of a bell: Task: what it makes, what it refuses.
-/
namespace Go.Proofs.Ytbjlpmahomjgjaa
open Go.RowKit
set_option linter.unusedVariables false
set_option linter.unusedSimpArgs false
set_option maxRecDepth 20000
namespace Bell

set_option maxHeartbeats 2000000 in
theorem room8_ok (w : World) (sh : Shp) (h1 : 1 ≤ sh.f) (h2 : sh.f ≤ 8) : Calls Try.prog 62 #[sh.val, .int .i64 8] w fun e w' => e = .returned (.int .i64 0) ∧ w.grownBy w' none := by
  obtain ⟨s0, s1, s2, s3, s4, s5⟩ := sh
  simp only [Shp.val] at h1 h2 ⊢
  have g1 : ¬ s5 < 1 := by omega
  have g2 : ¬ 8 < s5 := by omega
  go_enter Try.func62, Try.ntmps62
  go_wp2
  go_ret
  exact ⟨rfl, grown_alloc (grown_refl _ _) _⟩
set_option maxHeartbeats 2000000 in
theorem room8_bad (w : World) (sh : Shp) (h : sh.f < 1 ∨ 8 < sh.f) : Calls Try.prog 62 #[sh.val, .int .i64 8] w fun e w' => e = .returned (.int .i64 120) ∧ w.grownBy w' none := by
  obtain ⟨s0, s1, s2, s3, s4, s5⟩ := sh
  simp only [Shp.val] at h ⊢
  by_cases g1 : s5 < 1
  · go_enter Try.func62, Try.ntmps62
    go_wp2
    go_ret
    exact ⟨rfl, grown_alloc (grown_refl _ _) _⟩
  · have g2 : 8 < s5 := by omega
    go_enter Try.func62, Try.ntmps62
    go_wp2
    go_ret
    exact ⟨rfl, grown_alloc (grown_refl _ _) _⟩
theorem callTask (args : Array Value) (w : World) : (callFunc 33 args).run Try.prog w = .ok (.enter 33 args) w := by simp [go_sem]

set_option maxHeartbeats 4000000 in
theorem task1 (w : World) (sh : Shp) (hand a b c hh : Int) (h1 : 1 ≤ sh.f) (h2 : sh.f ≤ 8) (g1 : ¬ hand < 0) (g2 : ¬ 8 ≤ hand) :
    Calls Try.prog 33 #[sh.val, .int .i64 hand, (⟨1, a, b, c, hh⟩ : Jb).val] w fun e w' => ∃ bb, e = .returned (.tuple #[.iface 107 (.pointer (some ⟨bb, 0, none⟩)), .int .i64 0]) ∧
      w'.rowIs bb 109 7 (rgC hand sh.f 0 0 0 ⟨false, 0⟩) ∧ w.heap.size ≤ bb ∧ w.grownBy w' none := by
  obtain ⟨s0, s1, s2, s3, s4, s5⟩ := sh
  simp only [Shp.val, Jb.val] at h1 h2 ⊢
  have gw : IntKind.u64.wrap s5 = s5 := by rw [IntKind.wrap_u64]; omega
  go_enter Try.func33, Try.ntmps33
  go_wp2_with (go_at_call 62; refine (room8_ok _ ⟨s0, s1, s2, s3, s4, s5⟩ h1 h2).mono ?_; rintro e w1 ⟨rfl, hg1⟩; have HG := hide hg1; have sz1 := hg1.size; simp only [World.size_alloc] at sz1; have lj0 : w.heap.size < w1.heap.size := (by omega); have lj1 : w.heap.size + 1 < w1.heap.size := (by omega); have sh5 : w1.cell? ⟨w.heap.size, 5, none⟩ = some (.int .i64 s5) := hg1.cell (a := ⟨w.heap.size, 5, none⟩) (by simp) (by simp); have j0 : w1.cell? ⟨w.heap.size + 1, 0, none⟩ = some (.int .i64 1) := hg1.cell (a := ⟨w.heap.size + 1, 0, none⟩) (by simp) (by simp); clear hg1)
  go_ret2
  refine ⟨w1.heap.size, rfl, ?_, by omega, grown_alloc (grown_trans (grown_alloc (grown_alloc (grown_refl _ _) _) _) HG.out) _⟩
  exact rowIs_cells (w := w1) #[.int .i64 hand, .int .u64 s5, .int .i64 0, .int .u64 0, .int .u64 0, .bool false, .int .u64 0] 109 _ 7 rfl (fun i hi => by
      match i, hi with
      | 0, _ | 1, _ | 2, _ | 3, _ | 4, _ | 5, _ | 6, _ => rfl)
set_option maxHeartbeats 4000000 in
theorem task_kind (w : World) (sh : Shp) (hand kind a b c hh : Int) (h1 : 1 ≤ sh.f) (h2 : sh.f ≤ 8) (g1 : ¬ hand < 0) (g2 : ¬ 8 ≤ hand) (k1 : ¬ kind = 1) :
    Calls Try.prog 33 #[sh.val, .int .i64 hand, (⟨kind, a, b, c, hh⟩ : Jb).val] w fun e w' => e = .returned (.tuple #[.nilIface, .int .i64 200]) ∧ w.grownBy w' none := by
  obtain ⟨s0, s1, s2, s3, s4, s5⟩ := sh
  simp only [Shp.val, Jb.val] at h1 h2 ⊢
  have k1' : (kind != 1) = true := by simpa using k1
  go_enter Try.func33, Try.ntmps33
  go_wp2_with (go_at_call 62; refine (room8_ok _ ⟨s0, s1, s2, s3, s4, s5⟩ h1 h2).mono ?_; rintro e w1 ⟨rfl, hg1⟩; have HG := hide hg1; have sz1 := hg1.size; simp only [World.size_alloc] at sz1; have lj0 : w.heap.size < w1.heap.size := (by omega); have lj1 : w.heap.size + 1 < w1.heap.size := (by omega); have sh5 : w1.cell? ⟨w.heap.size, 5, none⟩ = some (.int .i64 s5) := hg1.cell (a := ⟨w.heap.size, 5, none⟩) (by simp) (by simp); have j0 : w1.cell? ⟨w.heap.size + 1, 0, none⟩ = some (.int .i64 kind) := hg1.cell (a := ⟨w.heap.size + 1, 0, none⟩) (by simp) (by simp); clear hg1)
  go_ret2
  exact ⟨rfl, grown_trans (grown_alloc (grown_alloc (grown_refl _ _) _) _) HG.out⟩

/-- What makeTask does with the bell's maker. -/
theorem makes {w : World} {tb sb : Nat} {sh : Shp} (h1 : 1 ≤ sh.f) (h2 : sh.f ≤ 8) (H : Boxes w tb sb 33 sh) : MakesAt (kBell sh.f) (mkOf tb sb) w := by
  intro hand j g1 g2 hw
  obtain ⟨kind, a, b, c, hh⟩ := j
  refine ⟨fun he => ?_, fun he => ?_⟩
  · have hk : kind = 1 := berr_kind he
    subst hk
    exact maker_ok callTask H (fun w1 => task1 w1 sh hand a b c hh h1 h2 (by omega) (by omega))
  · have k1 : ¬ kind = 1 := fun h => he (by show berr _ = 0; simp [berr, h])
    have e : berr ⟨kind, a, b, c, hh⟩ = 200 := by simp [berr, k1]
    have := maker_err (er := 200) callTask H (by decide) (fun w1 => task_kind w1 sh hand kind a b c hh h1 h2 (by omega) (by omega) k1)
    show Calls _ _ _ _ (fun e w' => e = .returned (.tuple #[.nilIface, .int .i64 (berr ⟨kind, a, b, c, hh⟩)]) ∧ _)
    rw [e]
    exact this
end Bell
end Go.Proofs.Ytbjlpmahomjgjaa

/-
  The bell's Size and Play, whatever they are given.
-/
namespace Go.Proofs.Ytbjlpmahomjgjaa
open Go.RowKit
set_option linter.unusedVariables false
set_option linter.unusedSimpArgs false
set_option maxRecDepth 20000
namespace Bell

theorem callSize (args : Array Value) (w : World) : (callFunc 32 args).run Try.prog w = .ok (.enter 32 args) w := by simp [go_sem]

theorem size_ok (w : World) (sh : Shp) (h1 : 1 ≤ sh.f) (h2 : sh.f ≤ 8) : Calls Try.prog 32 #[sh.val] w fun e w' => e = .returned (.tuple #[.int .i64 2, .int .i64 0]) ∧ w.grownBy w' none := by
  obtain ⟨s0, s1, s2, s3, s4, s5⟩ := sh
  simp only [Shp.val] at h1 h2 ⊢
  go_enter Try.func32, Try.ntmps32
  go_wp2_with (go_at_call 62; refine (room8_ok _ ⟨s0, s1, s2, s3, s4, s5⟩ h1 h2).mono ?_; rintro e w1 ⟨rfl, hg1⟩; have HG := hide hg1; have sh5 : w1.cell? ⟨w.heap.size, 5, none⟩ = some (.int .i64 s5) := hg1.cell (a := ⟨w.heap.size, 5, none⟩) (by simp) (by simp); clear hg1)
  go_ret2
  exact ⟨rfl, grown_trans (grown_alloc (grown_refl _ _) _) HG.out⟩
theorem size_bad (w : World) (sh : Shp) (h : sh.f < 1 ∨ 8 < sh.f) : Calls Try.prog 32 #[sh.val] w fun e w' => e = .returned (.tuple #[.int .i64 0, .int .i64 120]) ∧ w.grownBy w' none := by
  obtain ⟨s0, s1, s2, s3, s4, s5⟩ := sh
  simp only [Shp.val] at h ⊢
  go_enter Try.func32, Try.ntmps32
  go_wp2_with (go_at_call 62; refine (room8_bad _ ⟨s0, s1, s2, s3, s4, s5⟩ h).mono ?_; rintro e w1 ⟨rfl, hg1⟩; have HG := hide hg1; clear hg1)
  go_ret2
  exact ⟨rfl, grown_trans (grown_alloc (grown_refl _ _) _) HG.out⟩

variable {w : World} {ao aoh aos : Option Addr} {cap caph caps : Nat} {P : Par} {f : Nat → Int} {most : Int} {sh : Shp}

theorem play_any {R : Ending → World → Prop} {Q : Ending → World → Prop}
    (h : Calls Try.prog 31 #[.func (.func 32) #[] #[], .func (.func 33) #[] #[], sh.val, .slice ao P.n cap, .slice aoh P.nh caph, .slice aos P.ns caps, .int .i64 most]
      ((w.alloc (.cells #[.int .i64 sh.a, .int .i64 sh.b, .int .i64 sh.c, .int .i64 sh.d, .int .i64 sh.e, .int .i64 sh.f] 23)).alloc (.cells #[.slice none 0 0, .slice none 0 0, .bool false] 30)) Q)
    (hs : ∀ e w', Q e w' → Below (w.heap.size + 2) ((w.alloc (.cells #[.int .i64 sh.a, .int .i64 sh.b, .int .i64 sh.c, .int .i64 sh.d, .int .i64 sh.e, .int .i64 sh.f] 23)).alloc (.cells #[.slice none 0 0, .slice none 0 0, .bool false] 30)) w' ∧
      ∃ sa k sc wa n wc en aa m ac er, e = .returned (tv3 sa k sc wa n wc en aa m ac er) ∧ R e (((w'.setCell ⟨w.heap.size + 1, 0, none⟩ (.slice sa k sc)).setCell ⟨w.heap.size + 1, 1, none⟩ (.slice wa n wc)).setCell ⟨w.heap.size + 1, 2, none⟩ (.bool en))) :
    Calls Try.prog 11 #[sh.val, .slice ao P.n cap, .slice aoh P.nh caph, .slice aos P.ns caps, .int .i64 most] w R := by
  obtain ⟨s0, s1, s2, s3, s4, s5⟩ := sh
  simp only [Shp.val] at h hs ⊢
  have HH := hide h
  have HS := hide hs
  clear h hs
  go_enter Try.func11, Try.ntmps11
  go_wp2_with fail
  refine HH.out.mono ?_
  intro e w3 hq
  obtain ⟨hb, sa, k, sc, wa, n, wc, en, aa, m, ac, er, rfl, hR⟩ := HS.out e w3 hq
  have u0 := hb.cell (p := ⟨w.heap.size + 1, 0, none⟩) (by simp)
  have u1 := hb.cell (p := ⟨w.heap.size + 1, 1, none⟩) (by simp)
  have u2 := hb.cell (p := ⟨w.heap.size + 1, 2, none⟩) (by simp)
  have v0 := hb.frozen (p := ⟨w.heap.size + 1, 0, none⟩) (by simp)
  have v1 := hb.frozen (p := ⟨w.heap.size + 1, 1, none⟩) (by simp)
  have v2 := hb.frozen (p := ⟨w.heap.size + 1, 2, none⟩) (by simp)
  simp at u0 u1 u2 v0 v1 v2
  have HR := hide hR
  clear hb hR hq
  unfold tv3
  go_wp2_with fail
  go_light
  refine bodyPost_ret (v := tv3 sa k sc wa n wc en aa m ac er) ?_ rfl HR.out
  simp [results, Try.results11, go_sem, tv3, *]

theorem play_shape (h : sh.f < 1 ∨ 8 < sh.f) : Calls Try.prog 11 #[sh.val, .slice ao P.n cap, .slice aoh P.nh caph, .slice aos P.ns caps, .int .i64 most] w fun e w' => e = .returned (errVal 120) ∧ Below w.heap.size w w' := by
  have b0 : Below w.heap.size w ((w.alloc (.cells #[.int .i64 sh.a, .int .i64 sh.b, .int .i64 sh.c, .int .i64 sh.d, .int .i64 sh.e, .int .i64 sh.f] 23)).alloc (.cells #[.slice none 0 0, .slice none 0 0, .bool false] 30)) := ((Below.refl _ w).alloc (Nat.le_refl _) _).alloc (by simp) _
  refine play_any (lay_size_err (by decide) callSize (fun w' => size_bad w' sh h)) ?_
  rintro e w' ⟨rfl, hb⟩
  simp only [World.size_alloc] at hb
  refine ⟨hb, none, 0, 0, none, 0, 0, false, none, 0, 0, 120, rfl, rfl, ?_⟩
  exact (((b0.trans (hb.mono (by omega))).setCell (by simp) _).setCell (by simp) _).setCell (by simp) _

theorem play_all {want : Nat} (h1 : 1 ≤ sh.f) (h2 : sh.f ≤ 8) (hwant : (want : Int) = 2) (S : Sees w w.heap.size ao P.n f) (hf : ∀ i, i < P.n → 0 ≤ f i ∧ f i ≤ 18446744073709551615) (SH : SeesH w w.heap.size aoh P.nh P.jn P.jb) (hn63 : P.nh ≤ 9223372036854775807) (SI : SeesI w w.heap.size aos P.ns P.sched) (hjw : ∀ h, h < P.nh → ∀ j, j < P.jn h → (P.jb h j).wf) :
    Calls Try.prog 11 #[sh.val, .slice ao P.n cap, .slice aoh P.nh caph, .slice aos P.ns caps, .int .i64 most] w (LAll (kBell sh.f) want w P f most) := by
  have b0 : Below w.heap.size w ((w.alloc (.cells #[.int .i64 sh.a, .int .i64 sh.b, .int .i64 sh.c, .int .i64 sh.d, .int .i64 sh.e, .int .i64 sh.f] 23)).alloc (.cells #[.slice none 0 0, .slice none 0 0, .bool false] 30)) := ((Below.refl _ w).alloc (Nat.le_refl _) _).alloc (by simp) _
  have sz0 : ((w.alloc (.cells #[.int .i64 sh.a, .int .i64 sh.b, .int .i64 sh.c, .int .i64 sh.d, .int .i64 sh.e, .int .i64 sh.f] 23)).alloc (.cells #[.slice none 0 0, .slice none 0 0, .bool false] 30)).heap.size = w.heap.size + 2 := by simp
  refine play_any (lay_any (K := (kBell sh.f)) (want := want) callSize (fun w' => by rw [hwant]; exact size_ok w' sh h1 h2) (isKind sh.f) (fun w' tb sb H => makes h1 h2 H) ((S.below b0 (Nat.le_refl _)).mono (by omega)) hf ((SH.below b0 (Nat.le_refl _)).up (by omega)) hn63 ((SI.below b0 (Nat.le_refl _)).up (by omega)) hjw) ?_
  intro e w' hq
  obtain ⟨sa, k, sc, wa, n, wc, en, aa, m, ac, er, rfl⟩ := hq.shape
  have hb := hq.1
  rw [sz0] at hb
  exact ⟨hb, sa, k, sc, wa, n, wc, en, aa, m, ac, er, rfl, hq.up b0 (touch3 w' (w.heap.size + 1) (.slice sa k sc) (.slice wa n wc) (.bool en)) (by omega) (by omega)⟩

end Bell
end Go.Proofs.Ytbjlpmahomjgjaa
