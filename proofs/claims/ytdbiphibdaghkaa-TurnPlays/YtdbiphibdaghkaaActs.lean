/-
  Acts: Play with tasks of one act; and the chapter's example, run.
-/
import Derived.Test.YtdbiphibdaghkaaPlayA
import Derived.Test.YtdbiphibdaghkaaExam
namespace Go.Proofs.Ytdbiphibdaghkaa
namespace OfActs
open Go.RowKit
set_option linter.unusedVariables false
set_option linter.unusedSimpArgs false
set_option maxRecDepth 20000

theorem _root_.Go.Proofs.Ytdbiphibdaghkaa.Has.base_le {ι : Type} {w : World} {base base' : Nat} {blk : ι → Nat} {c : ι → Option Row} (h : Has w base blk c) (hb : base' ≤ base) : Has w base' blk c :=
  ⟨h.inj, h.row, fun r x e => Nat.le_trans hb (h.new r x e)⟩

variable {w : World} {ao aoh aos : Option Addr} {cap caph caps : Nat} {P : Par} {f : Nat → Int} {most : Int}

def RanB (w : World) (P : Par) (f : Nat → Int) (most : Nat) (e : Ending) (w' : World) : Prop :=
  Below w.heap.size w w' ∧ ((AllOk kAct P ∧ ∃ v, e = .returned v ∧ Told kAct P (runSt P (st0 kAct P f) most) w.heap.size v w') ∨ ∃ er, FirstErr kAct P er ∧ e = .returned (errVal er))

theorem acts_err {er : Int} (h : Calls Try.prog 14 #[.slice ao P.n cap, .slice aoh P.nh caph, .slice aos P.ns caps, .int .i64 most, .func (.func 41) #[] #[]] (w.alloc (.cells #[.slice none 0 0, .slice none 0 0, .bool false] 28)) fun e w' => e = .returned (errVal er) ∧ Below (w.alloc (.cells #[.slice none 0 0, .slice none 0 0, .bool false] 28)).heap.size (w.alloc (.cells #[.slice none 0 0, .slice none 0 0, .bool false] 28)) w') :
    Calls Try.prog 11 #[.slice ao P.n cap, .slice aoh P.nh caph, .slice aos P.ns caps, .int .i64 most] w fun e w' => e = .returned (errVal er) ∧ Below w.heap.size w w' := by
  have HH := hide h
  clear h
  go_enter Try.func11, Try.ntmps11
  go_wp2_with fail
  refine HH.out.mono ?_
  rintro e w1 ⟨rfl, hb⟩
  have z0 := hb.cell (p := ⟨w.heap.size, 0, none⟩) (by simp)
  have z1 := hb.cell (p := ⟨w.heap.size, 1, none⟩) (by simp)
  have z2 := hb.cell (p := ⟨w.heap.size, 2, none⟩) (by simp)
  have y0 := hb.frozen (p := ⟨w.heap.size, 0, none⟩) (by simp)
  have y1 := hb.frozen (p := ⟨w.heap.size, 1, none⟩) (by simp)
  have y2 := hb.frozen (p := ⟨w.heap.size, 2, none⟩) (by simp)
  simp at z0 z1 z2 y0 y1 y2
  have BB := hide (((Below.refl w.heap.size w).alloc (Nat.le_refl _) (.cells #[.slice none 0 0, .slice none 0 0, .bool false] 28)).trans (hb.mono (by simp)))
  clear hb
  unfold errVal
  go_wp2_with fail
  go_light
  refine bodyPost_ret (v := errVal er) ?_ rfl ⟨rfl, ((BB.out.setCell (Nat.le_refl _) _).setCell (Nat.le_refl _) _).setCell (Nat.le_refl _) _⟩
  simp [results, Try.results11, go_sem, errVal, *]

theorem acts_run {most : Nat} (h : Calls Try.prog 14 #[.slice ao P.n cap, .slice aoh P.nh caph, .slice aos P.ns caps, .int .i64 (most : Int), .func (.func 41) #[] #[]] (w.alloc (.cells #[.slice none 0 0, .slice none 0 0, .bool false] 28)) (Ran (w.alloc (.cells #[.slice none 0 0, .slice none 0 0, .bool false] 28)) P f most)) :
    Calls Try.prog 11 #[.slice ao P.n cap, .slice aoh P.nh caph, .slice aos P.ns caps, .int .i64 (most : Int)] w (RanB w P f most) := by
  have HH := hide h
  clear h
  go_enter Try.func11, Try.ntmps11
  go_wp2_with fail
  refine HH.out.mono ?_
  rintro e w1 ⟨hb, hcase⟩
  have z0 := hb.cell (p := ⟨w.heap.size, 0, none⟩) (by simp)
  have z1 := hb.cell (p := ⟨w.heap.size, 1, none⟩) (by simp)
  have z2 := hb.cell (p := ⟨w.heap.size, 2, none⟩) (by simp)
  have y0 := hb.frozen (p := ⟨w.heap.size, 0, none⟩) (by simp)
  have y1 := hb.frozen (p := ⟨w.heap.size, 1, none⟩) (by simp)
  have y2 := hb.frozen (p := ⟨w.heap.size, 2, none⟩) (by simp)
  simp at z0 z1 z2 y0 y1 y2
  have BB := hide (((Below.refl w.heap.size w).alloc (Nat.le_refl _) (.cells #[.slice none 0 0, .slice none 0 0, .bool false] 28)).trans (hb.mono (by simp)))
  clear hb
  rcases hcase with ⟨hok, v, rfl, blk, c, g, sv, rfl, H, G, GS, R, hg, hne⟩ | ⟨er, hfe, rfl⟩
  · obtain ⟨sa, sc, hsv⟩ := GS.isSlice
    subst hsv
    simp only [World.size_alloc] at H hg
    obtain ⟨b, hb⟩ : ∃ b, decide (cnt ((runSt P (st0 kAct P f) most).going P) P.nh = 0) = b := ⟨_, rfl⟩
    rw [hb]
    obtain ⟨k, hk⟩ : ∃ k, (runSt P (st0 kAct P f) most).k = k := ⟨_, rfl⟩
    rw [hk]
    have HH2 := hide H
    have GG := hide G
    have GGS := hide GS
    have RR := hide R
    have HNE := hide hne
    have HB2 := hide hb
    have HK := hide hk
    clear H G GS R hne hb hk
    go_wp2_with fail
    go_light
    have tt := touch3 w1 w.heap.size (.slice sa k sc) (.slice (some ⟨g, 0, none⟩) P.n P.n) (.bool b)
    refine bodyPost_ret (v := .tuple #[.agg #[.slice sa k sc, .slice (some ⟨g, 0, none⟩) P.n P.n, .bool b], .slice (some ⟨blk .answers, 0, none⟩) P.nh P.nh, .int .i64 0]) ?_ rfl ⟨BB.out.trans (tt.below (fun k hk => by omega) (by have := BB.out.size; omega)), .inl ⟨hok, _, rfl, blk, c, g, .slice sa k sc, by rw [HB2.out], ?_, GG.out, by have := GGS.out; rw [HK.out] at this ⊢; exact this, ?_, by omega, HNE.out⟩⟩
    · simp [results, Try.results11, go_sem, *]
    · exact ((HH2.out.touch tt (fun r x e he => by have := HH2.out.new r x e; omega))).base_le (by omega)
    · exact RR.out.block (tt.block g RR.out.lt (fun he => by omega))
  · unfold errVal
    go_wp2_with fail
    go_light
    refine bodyPost_ret (v := errVal er) ?_ rfl ⟨((BB.out.setCell (Nat.le_refl _) _).setCell (Nat.le_refl _) _).setCell (Nat.le_refl _) _, .inr ⟨er, hfe, rfl⟩⟩
    simp [results, Try.results11, go_sem, errVal, *]
end OfActs
end Go.Proofs.Ytdbiphibdaghkaa
