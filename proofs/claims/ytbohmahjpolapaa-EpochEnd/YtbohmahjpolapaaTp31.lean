/-
  Lemmas: EpochP, EpochL.
-/
import Derived.Test.YtbohmahjpolapaaTp30
import Derived.Test.YtbohmahjpolapaaTp17
import Derived.Test.YtbohmahjpolapaaTp18
/-
  The epoch's Size, Fresh and Play, whatever they are given.
-/
namespace Go.Proofs.Ytbohmahjpolapaa
open Go.RowKit
set_option linter.unusedVariables false
set_option linter.unusedSimpArgs false
set_option maxRecDepth 20000
namespace Epoch

theorem callSize (args : Array Value) (w : World) : (callFunc 28 args).run Try.prog w = .ok (.enter 28 args) w := by simp [go_sem]

theorem size_ok (w : World) (sh : Shp) (h1 : 1 ≤ sh.f) (h2 : sh.f ≤ 64) : Calls Try.prog 28 #[sh.val] w fun e w' => e = .returned (.tuple #[.int .i64 (9 + sh.f), .int .i64 0]) ∧ w.grownBy w' none := by
  obtain ⟨s0, s1, s2, s3, s4, s5⟩ := sh
  simp only [Shp.val] at h1 h2 ⊢
  have g3 : wrap64 (9 + s5) = 9 + s5 := by unfold wrap64; omega
  go_enter Try.func28, Try.ntmps28
  go_wp2_with (go_at_call 48; refine (room_ok _ ⟨s0, s1, s2, s3, s4, s5⟩ h1 h2).mono ?_; rintro e w1 ⟨rfl, hg1⟩; have HG := hide hg1; have sh5 : w1.cell? ⟨w.heap.size, 5, none⟩ = some (.int .i64 s5) := hg1.cell (a := ⟨w.heap.size, 5, none⟩) (by simp) (by simp); clear hg1)
  go_ret2
  exact ⟨rfl, grown_trans (grown_alloc (grown_refl _ _) _) HG.out⟩
theorem size_bad (w : World) (sh : Shp) (h : sh.f < 1 ∨ 64 < sh.f) : Calls Try.prog 28 #[sh.val] w fun e w' => e = .returned (.tuple #[.int .i64 0, .int .i64 120]) ∧ w.grownBy w' none := by
  obtain ⟨s0, s1, s2, s3, s4, s5⟩ := sh
  simp only [Shp.val] at h ⊢
  go_enter Try.func28, Try.ntmps28
  go_wp2_with (go_at_call 48; refine (room_bad _ ⟨s0, s1, s2, s3, s4, s5⟩ h).mono ?_; rintro e w1 ⟨rfl, hg1⟩; have HG := hide hg1; clear hg1)
  go_ret2
  exact ⟨rfl, grown_trans (grown_alloc (grown_refl _ _) _) HG.out⟩

variable {w : World} {ao aoh aos : Option Addr} {cap caph caps : Nat} {P : Par} {f : Nat → Int} {most : Int} {sh : Shp}

theorem play_any {R : Ending → World → Prop} {Q : Ending → World → Prop}
    (h : Calls Try.prog 27 #[.func (.func 28) #[] #[], .func (.func 29) #[] #[], sh.val, .slice ao P.n cap, .slice aoh P.nh caph, .slice aos P.ns caps, .int .i64 most]
      ((w.alloc (.cells #[.int .i64 sh.a, .int .i64 sh.b, .int .i64 sh.c, .int .i64 sh.d, .int .i64 sh.e, .int .i64 sh.f] 23)).alloc (.cells #[.slice none 0 0, .slice none 0 0, .bool false] 32)) Q)
    (hs : ∀ e w', Q e w' → Below (w.heap.size + 2) ((w.alloc (.cells #[.int .i64 sh.a, .int .i64 sh.b, .int .i64 sh.c, .int .i64 sh.d, .int .i64 sh.e, .int .i64 sh.f] 23)).alloc (.cells #[.slice none 0 0, .slice none 0 0, .bool false] 32)) w' ∧
      ∃ sa k sc wa n wc en aa m ac er, e = .returned (tv3 sa k sc wa n wc en aa m ac er) ∧ R e (((w'.setCell ⟨w.heap.size + 1, 0, none⟩ (.slice sa k sc)).setCell ⟨w.heap.size + 1, 1, none⟩ (.slice wa n wc)).setCell ⟨w.heap.size + 1, 2, none⟩ (.bool en))) :
    Calls Try.prog 11 #[sh.val, .slice ao P.n cap, .slice aoh P.nh caph, .slice aos P.ns caps, .int .i64 most] w R := by
  obtain ⟨s0, s1, s2, s3, s4, s5⟩ := sh
  simp only [Shp.val] at h hs ⊢
  have HH := hide h
  have HS := hide hs
  clear h hs
  go_enter Try.func11, Try.ntmps11
  go_wp2_with fail
  refine HH.out.mono ?_
  intro e w3 hq
  obtain ⟨hb, sa, k, sc, wa, n, wc, en, aa, m, ac, er, rfl, hR⟩ := HS.out e w3 hq
  have u0 := hb.cell (p := ⟨w.heap.size + 1, 0, none⟩) (by simp)
  have u1 := hb.cell (p := ⟨w.heap.size + 1, 1, none⟩) (by simp)
  have u2 := hb.cell (p := ⟨w.heap.size + 1, 2, none⟩) (by simp)
  have v0 := hb.frozen (p := ⟨w.heap.size + 1, 0, none⟩) (by simp)
  have v1 := hb.frozen (p := ⟨w.heap.size + 1, 1, none⟩) (by simp)
  have v2 := hb.frozen (p := ⟨w.heap.size + 1, 2, none⟩) (by simp)
  simp at u0 u1 u2 v0 v1 v2
  have HR := hide hR
  clear hb hR hq
  unfold tv3
  go_wp2_with fail
  go_light
  refine bodyPost_ret (v := tv3 sa k sc wa n wc en aa m ac er) ?_ rfl HR.out
  simp [results, Try.results11, go_sem, tv3, *]

theorem play_shape (h : sh.f < 1 ∨ 64 < sh.f) : Calls Try.prog 11 #[sh.val, .slice ao P.n cap, .slice aoh P.nh caph, .slice aos P.ns caps, .int .i64 most] w fun e w' => e = .returned (errVal 120) ∧ Below w.heap.size w w' := by
  have b0 : Below w.heap.size w ((w.alloc (.cells #[.int .i64 sh.a, .int .i64 sh.b, .int .i64 sh.c, .int .i64 sh.d, .int .i64 sh.e, .int .i64 sh.f] 23)).alloc (.cells #[.slice none 0 0, .slice none 0 0, .bool false] 32)) := ((Below.refl _ w).alloc (Nat.le_refl _) _).alloc (by simp) _
  refine play_any (lay_size_err (by decide) callSize (fun w' => size_bad w' sh h)) ?_
  rintro e w' ⟨rfl, hb⟩
  simp only [World.size_alloc] at hb
  refine ⟨hb, none, 0, 0, none, 0, 0, false, none, 0, 0, 120, rfl, rfl, ?_⟩
  exact (((b0.trans (hb.mono (by omega))).setCell (by simp) _).setCell (by simp) _).setCell (by simp) _

theorem play_all {want : Nat} (h1 : 1 ≤ sh.f) (h2 : sh.f ≤ 64) (hwant : (want : Int) = 9 + sh.f) (S : Sees w w.heap.size ao P.n f) (hf : ∀ i, i < P.n → 0 ≤ f i ∧ f i ≤ 18446744073709551615) (SH : SeesH w w.heap.size aoh P.nh P.jn P.jb) (hn63 : P.nh ≤ 9223372036854775807) (SI : SeesI w w.heap.size aos P.ns P.sched) (hjw : ∀ h, h < P.nh → ∀ j, j < P.jn h → (P.jb h j).wf) :
    Calls Try.prog 11 #[sh.val, .slice ao P.n cap, .slice aoh P.nh caph, .slice aos P.ns caps, .int .i64 most] w (LAll (kEpoch sh.f) want w P f most) := by
  have b0 : Below w.heap.size w ((w.alloc (.cells #[.int .i64 sh.a, .int .i64 sh.b, .int .i64 sh.c, .int .i64 sh.d, .int .i64 sh.e, .int .i64 sh.f] 23)).alloc (.cells #[.slice none 0 0, .slice none 0 0, .bool false] 32)) := ((Below.refl _ w).alloc (Nat.le_refl _) _).alloc (by simp) _
  have sz0 : ((w.alloc (.cells #[.int .i64 sh.a, .int .i64 sh.b, .int .i64 sh.c, .int .i64 sh.d, .int .i64 sh.e, .int .i64 sh.f] 23)).alloc (.cells #[.slice none 0 0, .slice none 0 0, .bool false] 32)).heap.size = w.heap.size + 2 := by simp
  refine play_any (lay_any (K := kEpoch sh.f) (want := want) callSize (fun w' => by rw [hwant]; exact size_ok w' sh h1 h2) (isKind ⟨h1, h2⟩) (fun w' tb sb H => makes h1 h2 H) ((S.below b0 (Nat.le_refl _)).mono (by omega)) hf ((SH.below b0 (Nat.le_refl _)).up (by omega)) hn63 ((SI.below b0 (Nat.le_refl _)).up (by omega)) hjw) ?_
  intro e w' hq
  obtain ⟨sa, k, sc, wa, n, wc, en, aa, m, ac, er, rfl⟩ := hq.shape
  have hb := hq.1
  rw [sz0] at hb
  exact ⟨hb, sa, k, sc, wa, n, wc, en, aa, m, ac, er, rfl, hq.up b0 (touch3 w' (w.heap.size + 1) (.slice sa k sc) (.slice wa n wc) (.bool en)) (by omega) (by omega)⟩

end Epoch
end Go.Proofs.Ytbohmahjpolapaa

/-
  The epoch's Fresh, and the statements' own example through it.
-/
namespace Go.Proofs.Ytbohmahjpolapaa
open Go.RowKit
set_option linter.unusedVariables false
set_option linter.unusedSimpArgs false
set_option maxRecDepth 20000
namespace Epoch

set_option maxHeartbeats 2000000 in
theorem fresh_ok (w : World) (sh : Shp) (h1 : 1 ≤ sh.f) (h2 : sh.f ≤ 64) {want : Nat} (hwant : (want : Int) = 9 + sh.f) : Calls Try.prog 24 #[sh.val] w fun e w' => ∃ g, e = .returned (.tuple #[.slice (some ⟨g, 0, none⟩) want want, .int .i64 0]) ∧ IsRow w' g want want (fun _ => 0) ∧ w.heap.size ≤ g ∧ w.grownBy w' none := by
  have SZ := hide (fun w' : World => size_ok w' sh h1 h2)
  obtain ⟨s0, s1, s2, s3, s4, s5⟩ := sh
  simp only [Shp.val] at SZ h1 h2 hwant ⊢
  rw [← hwant] at SZ
  have hmk := run_make_z (P := Try.prog) 24 45 _ 1 8 Try.underlying24 info46 want (by omega) (by omega)
  simp only [Nat.mul_one] at hmk
  have hw4 : want ≤ 128 := by omega
  clear hwant
  go_enter Try.func24, Try.ntmps24
  go_wp2_with (go_at_call 28; refine (SZ.out _).mono ?_; rintro e w1 ⟨rfl, hg1⟩; have HG := hide hg1; have sz1 := hg1.size; simp only [World.size_alloc] at sz1; clear hg1)
  go_ret2
  exact ⟨w1.heap.size, rfl, ⟨Nat.le_refl _, by unfold maxLen; omega, ⟨_, World.rowIs_made w1 (.int .u64 0) want 45, fun i hi => rfl⟩, fun i hi => ⟨Int.le_refl 0, by show (0 : Int) ≤ 18446744073709551615; decide⟩⟩, by omega, grown_alloc (grown_trans (grown_alloc (grown_refl _ _) _) HG.out) _⟩
set_option maxHeartbeats 2000000 in
theorem fresh_bad (w : World) (sh : Shp) (h : sh.f < 1 ∨ 64 < sh.f) : Calls Try.prog 24 #[sh.val] w fun e w' => e = .returned (.tuple #[.slice none 0 0, .int .i64 120]) ∧ w.grownBy w' none := by
  have SZ := hide (fun w' : World => size_bad w' sh h)
  obtain ⟨s0, s1, s2, s3, s4, s5⟩ := sh
  simp only [Shp.val] at SZ h ⊢
  go_enter Try.func24, Try.ntmps24
  go_wp2_with (go_at_call 28; refine (SZ.out _).mono ?_; rintro e w1 ⟨rfl, hg1⟩; have HG := hide hg1; clear hg1)
  go_ret2
  exact ⟨rfl, grown_trans (grown_alloc (grown_refl _ _) _) HG.out⟩

namespace Exam
def P1 : Par := { n := 11, nh := 2, jn := fun h => if h = 0 then 1 else 3, jb := fun h j => if h = 0 then ⟨1, 0, 0, 0, 0⟩ else if j = 0 then ⟨3, 0, 0, 0, 0⟩ else ⟨4, 0, 0, 0, 0⟩, ns := 2, sched := fun _ => 0 }
def P2 : Par := { n := 11, nh := 2, jn := fun _ => 1, jb := fun h _ => if h = 0 then ⟨2, 0, 0, 0, 0⟩ else ⟨4, 0, 0, 0, 0⟩, ns := 1, sched := fun _ => 0 }
def s1 : St (kEpoch 2) := runSt P1 (st0 (kEpoch 2) P1 (fun _ => 0)) 200
def s2 : St (kEpoch 2) := runSt P2 (st0 (kEpoch 2) P2 s1.f) 200
theorem e1 : cnt (s1.going P1) P1.nh = 0 := by decide +kernel
theorem d1 : s1.done 1 = 3 := by decide +kernel
theorem a10 : (s1.ans 1 0).ok = true := by decide +kernel
theorem a11 : (s1.ans 1 1).val = 0 := by decide +kernel
theorem a12 : (s1.ans 1 2).val = 0 := by decide +kernel
theorem d2 : s2.done 1 = 1 := by decide +kernel
theorem a20 : (s2.ans 1 0).ok = true ∧ (s2.ans 1 0).val = 1 := by decide +kernel
theorem f1 : Fine P1 200 := ⟨by decide, by rintro (h | ⟨h, hh, h2⟩); exact absurd h (by decide); have h3 : 256 < (if h = 0 then 1 else 3) := h2; split at h3 <;> omega, by decide, by decide, by decide⟩
theorem f2 : Fine P2 200 := ⟨by decide, by rintro (h | ⟨h, hh, h2⟩); exact absurd h (by decide); have h3 : 256 < 1 := h2; omega, by decide, by decide, by decide⟩
theorem o1 : AllOk (kEpoch 2) P1 := by
  intro h hh j hj
  have : h < 2 := hh
  match h, this with
  | 0, _ =>
    have : j < 1 := hj
    match j, this with
    | 0, _ => decide
  | 1, _ =>
    have : j < 3 := hj
    match j, this with
    | 0, _ => decide
    | 1, _ => decide
    | 2, _ => decide
theorem o2 : AllOk (kEpoch 2) P2 := by
  intro h hh j hj
  have : h < 2 := hh
  match h, this with
  | 0, _ =>
    have : j < 1 := hj
    match j, this with
    | 0, _ => decide
  | 1, _ =>
    have : j < 1 := hj
    match j, this with
    | 0, _ => decide
end Exam

/-- What a run of the example tells. -/
theorem ex_told {P : Par} {f : Nat → Int} {w w' : World} {e : Ending} {s : St (kEpoch 2)} {d : Nat} (h : LAll (kEpoch 2) 11 w P f 200 e w') (hF : Fine P 200) (hok : AllOk (kEpoch 2) P) (hn : P.n = 11) (hnh : P.nh = 2) (hs : runSt P (st0 (kEpoch 2) P f) 200 = s) (hd : s.done 1 = d) (hd0 : 0 < d) :
    Below w.heap.size w w' ∧ ∃ sa ns sc g ba b1 cap en, e = .returned (.tuple #[.agg #[.slice sa ns sc, .slice (some ⟨g, 0, none⟩) 11 11, .bool en], .slice (some ⟨ba, 0, none⟩) 2 2, .int .i64 0]) ∧ en = decide (cnt (s.going P) P.nh = 0) ∧ IsRow w' g 11 11 s.f ∧ ba < w'.heap.size ∧ b1 < w'.heap.size ∧
      w'.cell? ⟨ba, 1, none⟩ = some (.slice (some ⟨b1, 0, none⟩) d cap) ∧ ∀ j, j < d → w'.cell? ⟨b1, j * 2, none⟩ = some (.bool (s.ans 1 j).ok) ∧ w'.cell? ⟨b1, j * 2 + 1, none⟩ = some (.int .u64 (s.ans 1 j).val) := by
  obtain ⟨hb, hcase⟩ := h
  rcases hcase with ⟨er, hle, rfl⟩ | ⟨_, _, _, v, rfl, blk, c, g', sv, rfl, H, G, GS, R, hg, hne⟩
  · exact absurd ⟨hF, hok⟩ (show ¬ (Fine P 200 ∧ AllOk (kEpoch 2) P) from by rcases hle with ⟨h, _⟩ | ⟨_, h⟩; exact absurd hn h; exact h.not)
  · have hs' : runSt P (st0 (kEpoch 2) P f) (Int.toNat 200) = s := hs
    rw [hs'] at G GS R ⊢
    obtain ⟨sa, sc, rfl⟩ := GS.isSlice
    obtain ⟨A, eA, hA⟩ := G.answers
    have a1 := hA 1 (by omega)
    rw [hd] at a1
    obtain ⟨b1, cap1, eA1, hbl1, _, hcs1⟩ := grows_cell a1 H (ansCells_length _ _) hd0
    have ah1 := H.cell eA (i := 1) (show 1 < P.nh by omega)
    simp only [eA1] at ah1
    rw [hn] at R
    refine ⟨hb, sa, _, sc, g', blk .answers, b1, cap1, _, by rw [hn, hnh], by rw [hnh], R, H.lt eA, hbl1, ah1, fun j hj => ⟨?_, ?_⟩⟩
    · have := hcs1 _ _ (ansCells_get (s.ans 1) d j 0 hj (by decide))
      simpa [Ans.cell] using this
    · have := hcs1 _ _ (ansCells_get (s.ans 1) d j 1 hj (by decide))
      simpa [Ans.cell] using this

theorem exam_play1 (v : World) {g : Nat} (R : IsRow v g 11 11 (fun _ => 0)) (hg : g < v.heap.size) : Calls Try.prog 11 #[(⟨0, 0, 0, 0, 0, 2⟩ : Shp).val, .slice (some ⟨g, 0, none⟩) 11 11, .slice (some ⟨v.heap.size + 1 + 1, 0, none⟩) 2 2, .slice (some ⟨v.heap.size + 1 + 1 + 1, 0, none⟩) 2 2, .int .i64 200]
    ((((v.alloc (.cells #[.int .i64 1, .int .i64 0, .int .i64 0, .int .i64 0, .int .u64 0] 50)).alloc (.cells #[.int .i64 3, .int .i64 0, .int .i64 0, .int .i64 0, .int .u64 0, .int .i64 4, .int .i64 0, .int .i64 0, .int .i64 0, .int .u64 0, .int .i64 4, .int .i64 0, .int .i64 0, .int .i64 0, .int .u64 0] 50)).alloc (.cells #[.slice (some ⟨v.heap.size, 0, none⟩) 1 1, .slice (some ⟨v.heap.size + 1, 0, none⟩) 3 3] 48)).alloc (.cells #[.int .i64 0, .int .i64 0] 3)) (LAll (kEpoch 2) 11 ((((v.alloc (.cells #[.int .i64 1, .int .i64 0, .int .i64 0, .int .i64 0, .int .u64 0] 50)).alloc (.cells #[.int .i64 3, .int .i64 0, .int .i64 0, .int .i64 0, .int .u64 0, .int .i64 4, .int .i64 0, .int .i64 0, .int .i64 0, .int .u64 0, .int .i64 4, .int .i64 0, .int .i64 0, .int .i64 0, .int .u64 0] 50)).alloc (.cells #[.slice (some ⟨v.heap.size, 0, none⟩) 1 1, .slice (some ⟨v.heap.size + 1, 0, none⟩) 3 3] 48)).alloc (.cells #[.int .i64 0, .int .i64 0] 3)) Exam.P1 (fun _ => 0) 200) := by
  have R1 := (((row_arr v #[.int .i64 1, .int .i64 0, .int .i64 0, .int .i64 0, .int .u64 0] 50).alloc (.cells #[.int .i64 3, .int .i64 0, .int .i64 0, .int .i64 0, .int .u64 0, .int .i64 4, .int .i64 0, .int .i64 0, .int .i64 0, .int .u64 0, .int .i64 4, .int .i64 0, .int .i64 0, .int .i64 0, .int .u64 0] 50)).alloc (.cells #[.slice (some ⟨v.heap.size, 0, none⟩) 1 1, .slice (some ⟨v.heap.size + 1, 0, none⟩) 3 3] 48)).alloc (.cells #[.int .i64 0, .int .i64 0] 3)
  have R2 := ((row_arr (v.alloc (.cells #[.int .i64 1, .int .i64 0, .int .i64 0, .int .i64 0, .int .u64 0] 50)) #[.int .i64 3, .int .i64 0, .int .i64 0, .int .i64 0, .int .u64 0, .int .i64 4, .int .i64 0, .int .i64 0, .int .i64 0, .int .u64 0, .int .i64 4, .int .i64 0, .int .i64 0, .int .i64 0, .int .u64 0] 50).alloc (.cells #[.slice (some ⟨v.heap.size, 0, none⟩) 1 1, .slice (some ⟨v.heap.size + 1, 0, none⟩) 3 3] 48)).alloc (.cells #[.int .i64 0, .int .i64 0] 3)
  have R3 := (row_arr ((v.alloc (.cells #[.int .i64 1, .int .i64 0, .int .i64 0, .int .i64 0, .int .u64 0] 50)).alloc (.cells #[.int .i64 3, .int .i64 0, .int .i64 0, .int .i64 0, .int .u64 0, .int .i64 4, .int .i64 0, .int .i64 0, .int .i64 0, .int .u64 0, .int .i64 4, .int .i64 0, .int .i64 0, .int .i64 0, .int .u64 0] 50)) #[.slice (some ⟨v.heap.size, 0, none⟩) 1 1, .slice (some ⟨v.heap.size + 1, 0, none⟩) 3 3] 48).alloc (.cells #[.int .i64 0, .int .i64 0] 3)
  have R4 := row_arr (((v.alloc (.cells #[.int .i64 1, .int .i64 0, .int .i64 0, .int .i64 0, .int .u64 0] 50)).alloc (.cells #[.int .i64 3, .int .i64 0, .int .i64 0, .int .i64 0, .int .u64 0, .int .i64 4, .int .i64 0, .int .i64 0, .int .i64 0, .int .u64 0, .int .i64 4, .int .i64 0, .int .i64 0, .int .i64 0, .int .u64 0] 50)).alloc (.cells #[.slice (some ⟨v.heap.size, 0, none⟩) 1 1, .slice (some ⟨v.heap.size + 1, 0, none⟩) 3 3] 48)) #[.int .i64 0, .int .i64 0] 3
  have B0 : Below v.heap.size v ((((v.alloc (.cells #[.int .i64 1, .int .i64 0, .int .i64 0, .int .i64 0, .int .u64 0] 50)).alloc (.cells #[.int .i64 3, .int .i64 0, .int .i64 0, .int .i64 0, .int .u64 0, .int .i64 4, .int .i64 0, .int .i64 0, .int .i64 0, .int .u64 0, .int .i64 4, .int .i64 0, .int .i64 0, .int .i64 0, .int .u64 0] 50)).alloc (.cells #[.slice (some ⟨v.heap.size, 0, none⟩) 1 1, .slice (some ⟨v.heap.size + 1, 0, none⟩) 3 3] 48)).alloc (.cells #[.int .i64 0, .int .i64 0] 3)) := ((((Below.refl _ v).alloc (Nat.le_refl _) _).alloc (by simp) _).alloc (by simp; omega) _).alloc (by simp; omega) _
  simp only [World.size_alloc] at R2 R3 R4
  refine play_all (sh := ⟨0, 0, 0, 0, 0, 2⟩) (P := Exam.P1) (f := (fun _ => 0)) (most := 200) (want := 11) (by decide) (by decide) (by decide) ?_ (fun i hi => R.2.2.2 i hi) ?_ (by decide) ?_ (fun h _ j _ => ?_)
  · intro j hj
    exact ⟨g, 0, rfl, by simp; omega, by rw [Nat.zero_add]; exact (B0.cell (p := ⟨g, j, none⟩) hg).trans (R.cell hj)⟩
  · intro h hh
    have : h < 2 := hh
    match h, this with
    | 0, _ =>
      refine ⟨v.heap.size + 1 + 1, 0, some ⟨v.heap.size, 0, none⟩, 1, rfl, R3.lt, R3.cell (i := 0) (by simp), ?_⟩
      intro i hi
      refine ⟨v.heap.size, 0, rfl, R1.lt, fun q hq => ?_⟩
      have : i < 1 := hi
      match i, this, q, hq with
      | 0, _, 0, _ => exact R1.cell (i := 0) (by decide)
      | 0, _, 1, _ => exact R1.cell (i := 1) (by decide)
      | 0, _, 2, _ => exact R1.cell (i := 2) (by decide)
      | 0, _, 3, _ => exact R1.cell (i := 3) (by decide)
      | 0, _, 4, _ => exact R1.cell (i := 4) (by decide)
    | 1, _ =>
      refine ⟨v.heap.size + 1 + 1, 0, some ⟨v.heap.size + 1, 0, none⟩, 3, rfl, R3.lt, R3.cell (i := 1) (by simp), ?_⟩
      intro i hi
      refine ⟨v.heap.size + 1, 0, rfl, R2.lt, fun q hq => ?_⟩
      have : i < 3 := hi
      match i, this, q, hq with
      | 0, _, 0, _ => exact R2.cell (i := 0) (by decide)
      | 0, _, 1, _ => exact R2.cell (i := 1) (by decide)
      | 0, _, 2, _ => exact R2.cell (i := 2) (by decide)
      | 0, _, 3, _ => exact R2.cell (i := 3) (by decide)
      | 0, _, 4, _ => exact R2.cell (i := 4) (by decide)
      | 1, _, 0, _ => exact R2.cell (i := 5) (by decide)
      | 1, _, 1, _ => exact R2.cell (i := 6) (by decide)
      | 1, _, 2, _ => exact R2.cell (i := 7) (by decide)
      | 1, _, 3, _ => exact R2.cell (i := 8) (by decide)
      | 1, _, 4, _ => exact R2.cell (i := 9) (by decide)
      | 2, _, 0, _ => exact R2.cell (i := 10) (by decide)
      | 2, _, 1, _ => exact R2.cell (i := 11) (by decide)
      | 2, _, 2, _ => exact R2.cell (i := 12) (by decide)
      | 2, _, 3, _ => exact R2.cell (i := 13) (by decide)
      | 2, _, 4, _ => exact R2.cell (i := 14) (by decide)
  · intro j hj
    refine ⟨v.heap.size + 1 + 1 + 1, 0, rfl, R4.lt, ?_⟩
    have : j < 2 := hj
    match j, this with
    | 0, _ => exact R4.cell (i := 0) (by decide)
    | 1, _ => exact R4.cell (i := 1) (by decide)
  · simp only [Exam.P1, Jb.wf]
    split
    · decide
    · split <;> decide

theorem exam_play2 (v : World) {g : Nat} (R : IsRow v g 11 11 Exam.s1.f) (hg : g < v.heap.size) : Calls Try.prog 11 #[(⟨0, 0, 0, 0, 0, 2⟩ : Shp).val, .slice (some ⟨g, 0, none⟩) 11 11, .slice (some ⟨v.heap.size + 1 + 1, 0, none⟩) 2 2, .slice (some ⟨v.heap.size + 1 + 1 + 1, 0, none⟩) 1 1, .int .i64 200]
    ((((v.alloc (.cells #[.int .i64 2, .int .i64 0, .int .i64 0, .int .i64 0, .int .u64 0] 50)).alloc (.cells #[.int .i64 4, .int .i64 0, .int .i64 0, .int .i64 0, .int .u64 0] 50)).alloc (.cells #[.slice (some ⟨v.heap.size, 0, none⟩) 1 1, .slice (some ⟨v.heap.size + 1, 0, none⟩) 1 1] 48)).alloc (.cells #[.int .i64 0] 3)) (LAll (kEpoch 2) 11 ((((v.alloc (.cells #[.int .i64 2, .int .i64 0, .int .i64 0, .int .i64 0, .int .u64 0] 50)).alloc (.cells #[.int .i64 4, .int .i64 0, .int .i64 0, .int .i64 0, .int .u64 0] 50)).alloc (.cells #[.slice (some ⟨v.heap.size, 0, none⟩) 1 1, .slice (some ⟨v.heap.size + 1, 0, none⟩) 1 1] 48)).alloc (.cells #[.int .i64 0] 3)) Exam.P2 Exam.s1.f 200) := by
  have R1 := (((row_arr v #[.int .i64 2, .int .i64 0, .int .i64 0, .int .i64 0, .int .u64 0] 50).alloc (.cells #[.int .i64 4, .int .i64 0, .int .i64 0, .int .i64 0, .int .u64 0] 50)).alloc (.cells #[.slice (some ⟨v.heap.size, 0, none⟩) 1 1, .slice (some ⟨v.heap.size + 1, 0, none⟩) 1 1] 48)).alloc (.cells #[.int .i64 0] 3)
  have R2 := ((row_arr (v.alloc (.cells #[.int .i64 2, .int .i64 0, .int .i64 0, .int .i64 0, .int .u64 0] 50)) #[.int .i64 4, .int .i64 0, .int .i64 0, .int .i64 0, .int .u64 0] 50).alloc (.cells #[.slice (some ⟨v.heap.size, 0, none⟩) 1 1, .slice (some ⟨v.heap.size + 1, 0, none⟩) 1 1] 48)).alloc (.cells #[.int .i64 0] 3)
  have R3 := (row_arr ((v.alloc (.cells #[.int .i64 2, .int .i64 0, .int .i64 0, .int .i64 0, .int .u64 0] 50)).alloc (.cells #[.int .i64 4, .int .i64 0, .int .i64 0, .int .i64 0, .int .u64 0] 50)) #[.slice (some ⟨v.heap.size, 0, none⟩) 1 1, .slice (some ⟨v.heap.size + 1, 0, none⟩) 1 1] 48).alloc (.cells #[.int .i64 0] 3)
  have R4 := row_arr (((v.alloc (.cells #[.int .i64 2, .int .i64 0, .int .i64 0, .int .i64 0, .int .u64 0] 50)).alloc (.cells #[.int .i64 4, .int .i64 0, .int .i64 0, .int .i64 0, .int .u64 0] 50)).alloc (.cells #[.slice (some ⟨v.heap.size, 0, none⟩) 1 1, .slice (some ⟨v.heap.size + 1, 0, none⟩) 1 1] 48)) #[.int .i64 0] 3
  have B0 : Below v.heap.size v ((((v.alloc (.cells #[.int .i64 2, .int .i64 0, .int .i64 0, .int .i64 0, .int .u64 0] 50)).alloc (.cells #[.int .i64 4, .int .i64 0, .int .i64 0, .int .i64 0, .int .u64 0] 50)).alloc (.cells #[.slice (some ⟨v.heap.size, 0, none⟩) 1 1, .slice (some ⟨v.heap.size + 1, 0, none⟩) 1 1] 48)).alloc (.cells #[.int .i64 0] 3)) := ((((Below.refl _ v).alloc (Nat.le_refl _) _).alloc (by simp) _).alloc (by simp; omega) _).alloc (by simp; omega) _
  simp only [World.size_alloc] at R2 R3 R4
  refine play_all (sh := ⟨0, 0, 0, 0, 0, 2⟩) (P := Exam.P2) (f := Exam.s1.f) (most := 200) (want := 11) (by decide) (by decide) (by decide) ?_ (fun i hi => R.2.2.2 i hi) ?_ (by decide) ?_ (fun h _ j _ => ?_)
  · intro j hj
    exact ⟨g, 0, rfl, by simp; omega, by rw [Nat.zero_add]; exact (B0.cell (p := ⟨g, j, none⟩) hg).trans (R.cell hj)⟩
  · intro h hh
    have : h < 2 := hh
    match h, this with
    | 0, _ =>
      refine ⟨v.heap.size + 1 + 1, 0, some ⟨v.heap.size, 0, none⟩, 1, rfl, R3.lt, R3.cell (i := 0) (by simp), ?_⟩
      intro i hi
      refine ⟨v.heap.size, 0, rfl, R1.lt, fun q hq => ?_⟩
      have : i < 1 := hi
      match i, this, q, hq with
      | 0, _, 0, _ => exact R1.cell (i := 0) (by decide)
      | 0, _, 1, _ => exact R1.cell (i := 1) (by decide)
      | 0, _, 2, _ => exact R1.cell (i := 2) (by decide)
      | 0, _, 3, _ => exact R1.cell (i := 3) (by decide)
      | 0, _, 4, _ => exact R1.cell (i := 4) (by decide)
    | 1, _ =>
      refine ⟨v.heap.size + 1 + 1, 0, some ⟨v.heap.size + 1, 0, none⟩, 1, rfl, R3.lt, R3.cell (i := 1) (by simp), ?_⟩
      intro i hi
      refine ⟨v.heap.size + 1, 0, rfl, R2.lt, fun q hq => ?_⟩
      have : i < 1 := hi
      match i, this, q, hq with
      | 0, _, 0, _ => exact R2.cell (i := 0) (by decide)
      | 0, _, 1, _ => exact R2.cell (i := 1) (by decide)
      | 0, _, 2, _ => exact R2.cell (i := 2) (by decide)
      | 0, _, 3, _ => exact R2.cell (i := 3) (by decide)
      | 0, _, 4, _ => exact R2.cell (i := 4) (by decide)
  · intro j hj
    refine ⟨v.heap.size + 1 + 1 + 1, 0, rfl, R4.lt, ?_⟩
    have : j < 1 := hj
    match j, this with
    | 0, _ => exact R4.cell (i := 0) (by decide)
  · simp only [Exam.P2, Jb.wf]
    split
    · decide
    · decide
end Epoch
end Go.Proofs.Ytbohmahjpolapaa
