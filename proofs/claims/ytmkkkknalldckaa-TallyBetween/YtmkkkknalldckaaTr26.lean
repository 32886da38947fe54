/-
  Lemmas: TallyP.
-/
import Derived.Test.YtmkkkknalldckaaTr25
import Derived.Test.YtmkkkknalldckaaTr11
/-
  The tally's Size, Fresh and Play, whatever they are given.
-/
namespace Go.Proofs.Ytmkkkknalldckaa
open Go.RowKit
set_option linter.unusedVariables false
set_option linter.unusedSimpArgs false
set_option maxRecDepth 20000
namespace Tally

theorem callSize (args : Array Value) (w : World) : (callFunc 12 args).run Try.prog w = .ok (.enter 12 args) w := by simp [go_sem]

theorem size_ok (w : World) (sh : Shp) (h1 : 1 ≤ sh.f) (h2 : sh.f ≤ 64) : Calls Try.prog 12 #[sh.val] w fun e w' => e = .returned (.tuple #[.int .i64 (2 * sh.f), .int .i64 0]) ∧ w.grownBy w' none := by
  obtain ⟨s0, s1, s2, s3, s4, s5⟩ := sh
  simp only [Shp.val] at h1 h2 ⊢
  have g3 : wrap64 (2 * s5) = 2 * s5 := by unfold wrap64; omega
  go_enter Try.func12, Try.ntmps12
  go_wp2_with (go_at_call 20; refine (room_ok _ ⟨s0, s1, s2, s3, s4, s5⟩ h1 h2).mono ?_; rintro e w1 ⟨rfl, hg1⟩; have HG := hide hg1; have sh5 : w1.cell? ⟨w.heap.size, 5, none⟩ = some (.int .i64 s5) := hg1.cell (a := ⟨w.heap.size, 5, none⟩) (by simp) (by simp); clear hg1)
  go_ret2
  exact ⟨rfl, grown_trans (grown_alloc (grown_refl _ _) _) HG.out⟩
theorem size_bad (w : World) (sh : Shp) (h : sh.f < 1 ∨ 64 < sh.f) : Calls Try.prog 12 #[sh.val] w fun e w' => e = .returned (.tuple #[.int .i64 0, .int .i64 120]) ∧ w.grownBy w' none := by
  obtain ⟨s0, s1, s2, s3, s4, s5⟩ := sh
  simp only [Shp.val] at h ⊢
  go_enter Try.func12, Try.ntmps12
  go_wp2_with (go_at_call 20; refine (room_bad _ ⟨s0, s1, s2, s3, s4, s5⟩ h).mono ?_; rintro e w1 ⟨rfl, hg1⟩; have HG := hide hg1; clear hg1)
  go_ret2
  exact ⟨rfl, grown_trans (grown_alloc (grown_refl _ _) _) HG.out⟩

variable {w : World} {ao aoh aos : Option Addr} {cap caph caps : Nat} {P : Par} {f : Nat → Int} {most : Int} {sh : Shp}

theorem play_any {R : Ending → World → Prop} {Q : Ending → World → Prop}
    (h : Calls Try.prog 16 #[.func (.func 12) #[] #[], .func (.func 17) #[] #[], sh.val, .slice ao P.n cap, .slice aoh P.nh caph, .slice aos P.ns caps, .int .i64 most]
      ((w.alloc (.cells #[.int .i64 sh.a, .int .i64 sh.b, .int .i64 sh.c, .int .i64 sh.d, .int .i64 sh.e, .int .i64 sh.f] 23)).alloc (.cells #[.slice none 0 0, .slice none 0 0, .bool false] 32)) Q)
    (hs : ∀ e w', Q e w' → Below (w.heap.size + 2) ((w.alloc (.cells #[.int .i64 sh.a, .int .i64 sh.b, .int .i64 sh.c, .int .i64 sh.d, .int .i64 sh.e, .int .i64 sh.f] 23)).alloc (.cells #[.slice none 0 0, .slice none 0 0, .bool false] 32)) w' ∧
      ∃ sa k sc wa n wc en aa m ac er, e = .returned (tv3 sa k sc wa n wc en aa m ac er) ∧ R e (((w'.setCell ⟨w.heap.size + 1, 0, none⟩ (.slice sa k sc)).setCell ⟨w.heap.size + 1, 1, none⟩ (.slice wa n wc)).setCell ⟨w.heap.size + 1, 2, none⟩ (.bool en))) :
    Calls Try.prog 9 #[sh.val, .slice ao P.n cap, .slice aoh P.nh caph, .slice aos P.ns caps, .int .i64 most] w R := by
  obtain ⟨s0, s1, s2, s3, s4, s5⟩ := sh
  simp only [Shp.val] at h hs ⊢
  have HH := hide h
  have HS := hide hs
  clear h hs
  go_enter Try.func9, Try.ntmps9
  go_wp2_with fail
  refine HH.out.mono ?_
  intro e w3 hq
  obtain ⟨hb, sa, k, sc, wa, n, wc, en, aa, m, ac, er, rfl, hR⟩ := HS.out e w3 hq
  have u0 := hb.cell (p := ⟨w.heap.size + 1, 0, none⟩) (by simp)
  have u1 := hb.cell (p := ⟨w.heap.size + 1, 1, none⟩) (by simp)
  have u2 := hb.cell (p := ⟨w.heap.size + 1, 2, none⟩) (by simp)
  have v0 := hb.frozen (p := ⟨w.heap.size + 1, 0, none⟩) (by simp)
  have v1 := hb.frozen (p := ⟨w.heap.size + 1, 1, none⟩) (by simp)
  have v2 := hb.frozen (p := ⟨w.heap.size + 1, 2, none⟩) (by simp)
  simp at u0 u1 u2 v0 v1 v2
  have HR := hide hR
  clear hb hR hq
  unfold tv3
  go_wp2_with fail
  go_light
  refine bodyPost_ret (v := tv3 sa k sc wa n wc en aa m ac er) ?_ rfl HR.out
  simp [results, Try.results9, go_sem, tv3, *]

theorem play_shape (h : sh.f < 1 ∨ 64 < sh.f) : Calls Try.prog 9 #[sh.val, .slice ao P.n cap, .slice aoh P.nh caph, .slice aos P.ns caps, .int .i64 most] w fun e w' => e = .returned (errVal 120) ∧ Below w.heap.size w w' := by
  have b0 : Below w.heap.size w ((w.alloc (.cells #[.int .i64 sh.a, .int .i64 sh.b, .int .i64 sh.c, .int .i64 sh.d, .int .i64 sh.e, .int .i64 sh.f] 23)).alloc (.cells #[.slice none 0 0, .slice none 0 0, .bool false] 32)) := ((Below.refl _ w).alloc (Nat.le_refl _) _).alloc (by simp) _
  refine play_any (lay_size_err (by decide) callSize (fun w' => size_bad w' sh h)) ?_
  rintro e w' ⟨rfl, hb⟩
  simp only [World.size_alloc] at hb
  refine ⟨hb, none, 0, 0, none, 0, 0, false, none, 0, 0, 120, rfl, rfl, ?_⟩
  exact (((b0.trans (hb.mono (by omega))).setCell (by simp) _).setCell (by simp) _).setCell (by simp) _

theorem play_all {want : Nat} (h1 : 1 ≤ sh.f) (h2 : sh.f ≤ 64) (hwant : (want : Int) = 2 * sh.f) (S : Sees w w.heap.size ao P.n f) (hf : ∀ i, i < P.n → 0 ≤ f i ∧ f i ≤ 18446744073709551615) (SH : SeesH w w.heap.size aoh P.nh P.jn P.jb) (hn63 : P.nh ≤ 9223372036854775807) (SI : SeesI w w.heap.size aos P.ns P.sched) (hjw : ∀ h, h < P.nh → ∀ j, j < P.jn h → (P.jb h j).wf) :
    Calls Try.prog 9 #[sh.val, .slice ao P.n cap, .slice aoh P.nh caph, .slice aos P.ns caps, .int .i64 most] w (LAll (kTally sh.f) want w P f most) := by
  have b0 : Below w.heap.size w ((w.alloc (.cells #[.int .i64 sh.a, .int .i64 sh.b, .int .i64 sh.c, .int .i64 sh.d, .int .i64 sh.e, .int .i64 sh.f] 23)).alloc (.cells #[.slice none 0 0, .slice none 0 0, .bool false] 32)) := ((Below.refl _ w).alloc (Nat.le_refl _) _).alloc (by simp) _
  have sz0 : ((w.alloc (.cells #[.int .i64 sh.a, .int .i64 sh.b, .int .i64 sh.c, .int .i64 sh.d, .int .i64 sh.e, .int .i64 sh.f] 23)).alloc (.cells #[.slice none 0 0, .slice none 0 0, .bool false] 32)).heap.size = w.heap.size + 2 := by simp
  refine play_any (lay_any (K := kTally sh.f) (want := want) callSize (fun w' => by rw [hwant]; exact size_ok w' sh h1 h2) (isKind sh.f) (fun w' tb sb H => makes h1 h2 H) ((S.below b0 (Nat.le_refl _)).mono (by omega)) hf ((SH.below b0 (Nat.le_refl _)).up (by omega)) hn63 ((SI.below b0 (Nat.le_refl _)).up (by omega)) hjw) ?_
  intro e w' hq
  obtain ⟨sa, k, sc, wa, n, wc, en, aa, m, ac, er, rfl⟩ := hq.shape
  have hb := hq.1
  rw [sz0] at hb
  exact ⟨hb, sa, k, sc, wa, n, wc, en, aa, m, ac, er, rfl, hq.up b0 (touch3 w' (w.heap.size + 1) (.slice sa k sc) (.slice wa n wc) (.bool en)) (by omega) (by omega)⟩

end Tally
end Go.Proofs.Ytmkkkknalldckaa
