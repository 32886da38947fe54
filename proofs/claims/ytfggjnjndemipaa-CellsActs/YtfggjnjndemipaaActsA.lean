/-
  The law CellsActs, walked: any calls on one memory, by Do and by the acts' own methods.
-/
import Derived.Test.YtfggjnjndemipaaCalledAll
import Derived.Deep.RegionHeld
namespace Go.Proofs.Ytfggjnjndemipaa
namespace Acts
open Go.RowKit
open Scripts (drewN_below)
set_option linter.unusedVariables false
set_option linter.unusedSimpArgs false

theorem do_stp {w : World} {bm bw n : Nat} {f g : Nat → Int} (hm : IsMem w bm bw n f) (a x : Stp) (hv : a.wf) (hx : stepOf n f a = x) (hg : wordsOf n f a = g) :
    Calls Try.prog 16 #[.pointer (some ⟨bm, 0, none⟩), .int .i64 a.hand, .int .i64 a.act, .int .i64 a.at_, .int .u64 a.had, .int .u64 a.put] w
      fun e w' => e = .returned (.agg #[.int .i64 x.hand, .int .i64 x.act, .int .i64 x.at_, .int .u64 x.had, .int .u64 x.put, .bool x.ok]) ∧ IsMem w' bm bw n g ∧ w.grownBy w' (some bw) := by
  refine (do_mem hm a hv.2).mono ?_
  rintro e w' ⟨rfl, h1, h2⟩
  rw [hx]
  exact ⟨rfl, by rw [← hg]; exact h1, h2⟩
theorem called_stp {w : World} {bm bw n : Nat} {f g : Nat → Int} (hm : IsMem w bm bw n f) (a x : Stp) (hv : a.wf) (hx : stepOf n f a = x) (hg : wordsOf n f a = g) :
    Calls Try.prog 17 #[.pointer (some ⟨bm, 0, none⟩), .agg #[.int .i64 a.hand, .int .i64 a.act, .int .i64 a.at_, .int .u64 a.had, .int .u64 a.put, .bool a.ok], .agg #[.int .i64 x.hand, .int .i64 x.act, .int .i64 x.at_, .int .u64 x.had, .int .u64 x.put, .bool x.ok]] w
      fun e w' => e = .returned (.bool true) ∧ IsMem w' bm bw n g ∧ w.grownBy w' (some bw) := by
  have h := called_any hm a hv
  rw [hx, hg] at h
  exact h

/-- The six cells of a step in block q. -/
structure At6 (w : World) (q : Nat) (x : Stp) : Prop where
  lt : q < w.heap.size
  c0 : w.cell? ⟨q, 0, none⟩ = some (.int .i64 x.hand)
  c1 : w.cell? ⟨q, 1, none⟩ = some (.int .i64 x.act)
  c2 : w.cell? ⟨q, 2, none⟩ = some (.int .i64 x.at_)
  c3 : w.cell? ⟨q, 3, none⟩ = some (.int .u64 x.had)
  c4 : w.cell? ⟨q, 4, none⟩ = some (.int .u64 x.put)
  c5 : w.cell? ⟨q, 5, none⟩ = some (.bool x.ok)
theorem At6.new (w : World) (x : Stp) : At6 (w.alloc (.cells #[.int .i64 x.hand, .int .i64 x.act, .int .i64 x.at_, .int .u64 x.had, .int .u64 x.put, .bool x.ok] 38)) w.heap.size x :=
  ⟨by simp, by simp, by simp, by simp, by simp, by simp, by simp⟩
theorem At6.block {w w' : World} {q : Nat} {x : Stp} (h : At6 w q x) (hs : w.heap.size ≤ w'.heap.size) (e : w'.heap[q]? = w.heap[q]?) : At6 w' q x := by
  have k : ∀ i, w'.cell? ⟨q, i, none⟩ = w.cell? ⟨q, i, none⟩ := fun i => World.cell?_of_block (w := w) e
  exact ⟨by have := h.lt; omega, by rw [k]; exact h.c0, by rw [k]; exact h.c1, by rw [k]; exact h.c2, by rw [k]; exact h.c3, by rw [k]; exact h.c4, by rw [k]; exact h.c5⟩
theorem At6.grown {w w' : World} {q r : Nat} {x : Stp} (h : At6 w q x) (hg : w.grownBy w' (some r)) (hr : q ≠ r) : At6 w' q x := h.block hg.size (hg.block q h.lt (by simpa using hr))
theorem At6.alloc {w : World} {q : Nat} {x : Stp} (h : At6 w q x) (o : Obj) : At6 (w.alloc o) q x := h.block (by simp) (Below.heap_alloc _ _ _ h.lt)

set_option maxRecDepth 100000 in
set_option maxHeartbeats 6400000 in
theorem walk {w : World} {ao ao' : Option Addr} {n cap l cap' : Nat} {f : Nat → Int} {a : Nat → Stp} (h : Sees w w.heap.size ao n f) (hnil : ao = none → n = 0 ∧ cap = 0) (hf : ∀ i, i < n → 0 ≤ f i ∧ f i ≤ 18446744073709551615)
    (h' : SeesS w w.heap.size ao' l a) (hp : ∀ i, i < l → (a i).wf) (hl : l ≤ 9223372036854775807) :
    Calls Try.prog 4 #[.slice ao n cap, .slice ao' l cap'] w fun e w' => e = .returned (.bool true) ∧ Below w.heap.size w w' := by
  obtain ⟨i0, hi, hz0, hz1, hz2⟩ := info_parts info36z
  have H := hide h
  have H' := hide h'
  have HF := hide hf
  have HP := hide hp
  have HN := hide hnil
  clear h h' hf hp hnil
  go_enter Try.func4, Try.ntmps4
  go_wp2_with fail
  refine (alive_any _).mono ?_
  rintro e w1 ⟨rfl, hb1⟩
  have B1 := hide hb1
  have hs1 := hb1.size
  clear hb1
  by_cases hn : 4096 < n
  · have hgt : (4096 : Int) < (n : Int) := by omega
    go_wp2_with (go_at_call 14; refine (new_long hn).mono ?_; rintro e w' ⟨rfl, hw⟩; obtain rfl := hw.symm)
    go_ret
    exact ⟨by simp, B1.out⟩
  · go_wp2_with fail
    refine (new_mem ((H.out.below B1.out (Nat.le_refl _)).mono hs1) HF.out (by omega)).mono ?_
    rintro e w2 ⟨bm, bw, rfl, hm2, hb2, lm, lw⟩
    have B2 := hide (B1.out.trans (hb2.mono hs1))
    have hs2 := hb2.size
    have M2 := hide hm2
    clear hb2 hm2
    go_wp2_with fail
    refine (new_mem ((H.out.below B2.out (Nat.le_refl _)).mono B2.out.size) HF.out (by omega)).mono ?_
    rintro e w3 ⟨bn, bx, rfl, hn3, hb3, ln, lx⟩
    have lbm2 := M2.out.head.lt
    have lbw2 := M2.out.row.lt
    have M3 := hide (M2.out.below hb3)
    have N3 := hide hn3
    have B3 := hide (B2.out.trans (hb3.mono B2.out.size))
    have hs3 := hb3.size
    have lbn3 := hn3.head.lt
    have lbx3 := hn3.row.lt
    clear hb3 hn3 M2
    have hsw3 := B3.out.size
    go_wp2_with (at_builtin; refine wpList_append_opt rfl (.tmp 56) (.tmp 57) 22 rfl w3.heap.size 36 i0 (.int .u64 0) 1 8 Try.underlying22 hi hz0 hz1 hz2 rfl (by decide) (.slice (some ⟨w3.heap.size, 0, none⟩) 0 0) 0 [] rfl (World.ownsRow_lit _ #[] 0 (by omega) (by unfold maxLen; omega) rfl) ao n cap (wordCells n f) rfl HN.out (by simp [wordCells]) ((((H.out.below B3.out (Nat.le_refl _)).mono hsw3).alloc _).news) (wordCells_one n f) (by unfold maxLen; omega) (by omega) (by simp) ?_; intro v4 w4 hown4 hgrow4 hnn)
    obtain ⟨g, capg, rfl, hr4, hg4⟩ := owned_row (by simpa using hown4) (by intro e; have := hnn e; simp at this) HF.out
    have b4 : Below w3.heap.size w3 w4 := ((Below.refl _ w3).alloc (Nat.le_refl _) _).grown hgrow4 (by simp) (by intro k hk; simp [Value.ownBlock] at hk; omega)
    have B4 := hide (B3.out.trans (b4.mono hsw3))
    have R4 := hide hr4
    have M4 := hide (M3.out.below b4)
    have N4 := hide (N3.out.below b4)
    have hs4 := b4.size
    clear hown4 hgrow4 hnn hr4 b4 M3 N3
    go_loopw [10] (fun i wr => ∃ k : Nat, k ≤ l ∧ i = .int .i64 k ∧ IsRow wr g n capg (runW n f a k) ∧ IsMem wr bm bw n (runW n f a k) ∧ IsMem wr bn bx n (runW n f a k) ∧ Below w.heap.size w wr ∧ w4.heap.size ≤ wr.heap.size) (fun i _ => l - (intOf i).toNat)
    case atStart => exact ⟨0, Nat.zero_le _, rfl, R4.out, M4.out, N4.out, B4.out, Nat.le_refl _⟩
    case round =>
      obtain ⟨k, hk, rfl, hr, hm, hn', hb, hsr⟩ := hrel
      by_cases hgo : k < l ∧ k < 2000
      · obtain ⟨b, off, rfl, hbl, hcc⟩ := H'.out k hgo.1
        have hcx : ∀ i, i < 6 → wr.cell? ⟨b, off + k * 6 + i, none⟩ = some ((a k).cell i) := fun i hi => (hb.cell (p := ⟨b, off + k * 6 + i, none⟩) hbl).trans (hcc i hi)
        have p0 := hcx 0 (by omega)
        have p1 := hcx 1 (by omega)
        have p2 := hcx 2 (by omega)
        have p3 := hcx 3 (by omega)
        have p4 := hcx 4 (by omega)
        have p5 := hcx 5 (by omega)
        simp only [Stp.cell, Nat.add_zero] at p0 p1 p2 p3 p4 p5
        have hkl : (k : Int) < (l : Int) := by omega
        have hk2 : (k : Int) < 2000 := by omega
        clear hcc hcx
        have HR := hide hr
        have HM := hide hm
        have HX := hide hn'
        have HB := hide hb
        clear hr hm hn' hb
        go_wp2_with fail
        obtain ⟨x, hx⟩ : ∃ x, stepOf n (runW n f a k) (a k) = x := ⟨_, rfl⟩
        have lgr := HR.out.lt
        have lbm := HM.out.head.lt
        have lbw := HM.out.row.lt
        have lbn := HX.out.head.lt
        have lbx := HX.out.row.lt
        have hsw := HB.out.size
        have HWF := hide (HP.out k hgo.1)
        refine (ref_do (HR.out.alloc _) (a k) HWF.out.2).mono ?_
        rintro e w5 ⟨rfl, hr5, hg5⟩
        rw [hx]
        simp only [Stp.val]
        have A5 := hide ((At6.new wr (a k)).grown hg5 (by omega))
        have s5 := hg5.size
        simp only [World.size_alloc] at s5
        have M5 := hide (((HM.out.alloc (.cells #[.int .i64 (a k).hand, .int .i64 (a k).act, .int .i64 (a k).at_, .int .u64 (a k).had, .int .u64 (a k).put, .bool (a k).ok] 38)).grown hg5 (by simp; omega) (by simp; omega)))
        have X5 := hide (((HX.out.alloc (.cells #[.int .i64 (a k).hand, .int .i64 (a k).act, .int .i64 (a k).at_, .int .u64 (a k).had, .int .u64 (a k).put, .bool (a k).ok] 38)).grown hg5 (by simp; omega) (by simp; omega)))
        have B5 := hide ((HB.out.alloc hsw (.cells #[.int .i64 (a k).hand, .int .i64 (a k).act, .int .i64 (a k).at_, .int .u64 (a k).had, .int .u64 (a k).put, .bool (a k).ok] 38)).trans (grown_below hg5 (by simp; omega) (by omega)))
        have R5 := hide hr5
        have HXX := hide hx
        clear hx hr5 hg5 HR HM HX HB p0 p1 p2 p3 p4 p5
        obtain ⟨la, a0, a1, a2, a3, a4, a5⟩ := A5.out
        have hbmx : bm ≠ bx := by omega
        have hbwx : bw ≠ bx := by omega
        have hbnw : bn ≠ bw := by omega
        go_wp2_with fail
        go_region_held (fun w' => w'.cell? ⟨wr.heap.size, 0, none⟩ = some (.int .i64 (a k).hand) ∧ w'.cell? ⟨wr.heap.size, 1, none⟩ = some (.int .i64 (a k).act) ∧ w'.cell? ⟨wr.heap.size, 2, none⟩ = some (.int .i64 (a k).at_) ∧ w'.cell? ⟨wr.heap.size, 3, none⟩ = some (.int .u64 (a k).had) ∧ w'.cell? ⟨wr.heap.size, 4, none⟩ = some (.int .u64 (a k).put) ∧ w'.cell? ⟨wr.heap.size, 5, none⟩ = some (.bool (a k).ok) ∧ w'.cell? ⟨w5.heap.size, 0, none⟩ = some (.int .i64 x.hand) ∧ w'.cell? ⟨w5.heap.size, 1, none⟩ = some (.int .i64 x.act) ∧ w'.cell? ⟨w5.heap.size, 2, none⟩ = some (.int .i64 x.at_) ∧ w'.cell? ⟨w5.heap.size, 3, none⟩ = some (.int .u64 x.had) ∧ w'.cell? ⟨w5.heap.size, 4, none⟩ = some (.int .u64 x.put) ∧ w'.cell? ⟨w5.heap.size, 5, none⟩ = some (.bool x.ok)) (go_keep) (first | (go_at_call 16; refine (do_stp ((M5.out.alloc _).drew) (a k) x HWF.out HXX.out rfl).mono ?_; rintro e w7 ⟨rfl, hm7, hg7⟩; have A7 := ((A5.out.alloc (.cells #[.int .i64 x.hand, .int .i64 x.act, .int .i64 x.at_, .int .u64 x.had, .int .u64 x.put, .bool x.ok] 38)).block (w' := (w5.alloc (.cells #[.int .i64 x.hand, .int .i64 x.act, .int .i64 x.at_, .int .u64 x.had, .int .u64 x.put, .bool x.ok] 38)).drew) (Nat.le_refl _) rfl).grown hg7 (by omega); have T7 := ((At6.new w5 x).block (w' := (w5.alloc (.cells #[.int .i64 x.hand, .int .i64 x.act, .int .i64 x.at_, .int .u64 x.had, .int .u64 x.put, .bool x.ok] 38)).drew) (Nat.le_refl _) rfl).grown hg7 (by omega); have X7 := hide (((X5.out.alloc (.cells #[.int .i64 x.hand, .int .i64 x.act, .int .i64 x.at_, .int .u64 x.had, .int .u64 x.put, .bool x.ok] 38)).drew).grown hg7 (by simp; omega) (by simp; omega)); have R7 := hide (((R5.out.alloc (.cells #[.int .i64 x.hand, .int .i64 x.act, .int .i64 x.at_, .int .u64 x.had, .int .u64 x.put, .bool x.ok] 38)).block (w' := (w5.alloc (.cells #[.int .i64 x.hand, .int .i64 x.act, .int .i64 x.at_, .int .u64 x.had, .int .u64 x.put, .bool x.ok] 38)).drew) rfl).grown hg7 (by simp; omega)); have M7 := hide hm7; have s7 := hg7.size; have B7 := hide ((B5.out.alloc (by omega) (.cells #[.int .i64 x.hand, .int .i64 x.act, .int .i64 x.at_, .int .u64 x.had, .int .u64 x.put, .bool x.ok] 38)).drew.trans (grown_below hg7 (by simp; omega) (by omega))); simp at s7; have A77 := hide A7; have T77 := hide T7; obtain ⟨_, y0, y1, y2, y3, y4, y5⟩ := A7; obtain ⟨_, t0, t1, t2, t3, t4, t5⟩ := T7; clear hm7 hg7) | (go_at_call 17; refine (called_stp X7.out (a k) x HWF.out HXX.out rfl).mono ?_; rintro e w8 ⟨rfl, hn8, hg8⟩; have M8 := hide (M7.out.grown hg8 (by simp; omega) (by simp; omega)); have R8 := hide (R7.out.grown hg8 (by simp; omega)); have N8 := hide hn8; have B8 := hide (B7.out.trans (grown_below hg8 (by omega) (by omega))); have s8 := hg8.size; have A8 := A77.out.grown hg8 (by omega); have T8 := T77.out.grown hg8 (by omega); clear hn8 hg8 M7 R7 X7 B7 y0 y1 y2 y3 y4 y5 t0 t1 t2 t3 t4 t5; obtain ⟨_, y0, y1, y2, y3, y4, y5⟩ := A8; obtain ⟨_, t0, t1, t2, t3, t4, t5⟩ := T8))
        all_goals clear y0 y1 y2 y3 y4 y5 t0 t1 t2 t3 t4 t5
        all_goals have lm8 := M8.out.head.lt
        all_goals have hmost := M8.out.most
        all_goals by_cases hk20 : k < 20
        · have h20 : (k : Int) < 20 := by omega
          go_wp2_with fail
          refine (words_mem M8.out).mono ?_
          rintro e w9 ⟨g9, rfl, hr9, hb9, hg9⟩
          have R9 := hide (R8.out.below hb9)
          have Q9 := hide hr9
          have N9 := hide (N8.out.below hb9)
          have M9 := hide (M8.out.below hb9)
          have B9 := hide (B8.out.trans (hb9.mono B8.out.size))
          have s9 := hb9.size
          clear hr9 hb9 R8 N8 M8 B8
          go_wp2_with fail
          refine (same_words Q9.out.sees R9.out.sees (fun _ _ => rfl) (by omega)).mono ?_
          rintro e _ ⟨rfl, m1, rfl⟩
          go_wp2_with fail
          refine (words_mem (N9.out.drewN m1)).mono ?_
          rintro e w10 ⟨g10, rfl, hr10, hb10, hg10⟩
          have R10 := hide ((R9.out.block (w' := w9.drewN m1) rfl).below hb10)
          have Q10 := hide hr10
          have N10 := hide ((N9.out.drewN m1).below hb10)
          have M10 := hide ((M9.out.drewN m1).below hb10)
          have B10 := hide ((B9.out.trans ((drewN_below m1).mono B9.out.size)).trans (hb10.mono B9.out.size))
          have s10 : w9.heap.size ≤ w10.heap.size := hb10.size
          clear hr10 hb10 R9 N9 M9 B9 Q9
          go_wp2_with fail
          refine (same_words Q10.out.sees R10.out.sees (fun _ _ => rfl) (by omega)).mono ?_
          rintro e _ ⟨rfl, m2, rfl⟩
          go_wp2
          go_roundw
          case rel => exact ⟨k + 1, by omega, by go_num, R10.out.block rfl, M10.out.drewN m2, N10.out.drewN m2, ⟨B10.out.os, B10.out.tape, B10.out.output, B10.out.size, B10.out.block⟩, by simp; omega⟩
          case measure => simp [intOf]; omega
        · have h20 : ¬ ((k : Int) < 20) := by omega
          go_wp2
          go_roundw
          case rel => exact ⟨k + 1, by omega, by go_num, R8.out, M8.out, N8.out, B8.out, by omega⟩
          case measure => simp [intOf]; omega
      · have HR := hide hr
        have HM := hide hm
        have HX := hide hn'
        have HB := hide hb
        have hmost := hm.most
        clear hr hm hn' hb
        have htest : ¬ ((k : Int) < (l : Int)) ∨ ((k : Int) < (l : Int) ∧ ¬ ((k : Int) < 2000)) := by omega
        rcases htest with h1 | ⟨h1, h2⟩
        all_goals
          go_wp2_with fail
          refine (size_mem HM.out).mono ?_
          rintro e _ ⟨rfl, hw⟩
          obtain rfl := hw.symm
          go_wp2_with fail
          refine (size_mem HX.out).mono ?_
          rintro e _ ⟨rfl, hw⟩
          obtain rfl := hw.symm
          go_wp2_with fail
          refine (words_mem HM.out).mono ?_
          rintro e w9 ⟨g9, rfl, hr9, hb9, hg9⟩
          have R9 := hide (HR.out.below hb9)
          have Q9 := hide hr9
          have N9 := hide (HX.out.below hb9)
          have B9 := hide (HB.out.trans (hb9.mono HB.out.size))
          clear hr9 hb9 HR HX HM HB
          go_wp2_with fail
          refine (same_words Q9.out.sees R9.out.sees (fun _ _ => rfl) (by omega)).mono ?_
          rintro e _ ⟨rfl, m1, rfl⟩
          go_wp2_with fail
          refine (words_mem (N9.out.drewN m1)).mono ?_
          rintro e w10 ⟨g10, rfl, hr10, hb10, hg10⟩
          have R10 := hide ((R9.out.block (w' := w9.drewN m1) rfl).below hb10)
          have Q10 := hide hr10
          have B10 := hide ((B9.out.trans ((drewN_below m1).mono B9.out.size)).trans (hb10.mono B9.out.size))
          clear hr10 hb10 R9 N9 B9 Q9
          go_wp2_with fail
          refine (same_words Q10.out.sees R10.out.sees (fun _ _ => rfl) (by omega)).mono ?_
          rintro e _ ⟨rfl, m2, rfl⟩
          go_wp2
          go_ret
          exact ⟨rfl, ⟨B10.out.os, B10.out.tape, B10.out.output, B10.out.size, B10.out.block⟩⟩
end Acts
end Go.Proofs.Ytfggjnjndemipaa
