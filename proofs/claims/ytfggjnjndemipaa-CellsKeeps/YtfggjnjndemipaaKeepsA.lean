/-
  For the law CellsKeeps: Script's answer in one form, long or not; copies with spare room, and rows that are written over.
-/
import Derived.Test.YtfggjnjndemipaaScripts
namespace Go.Proofs.Ytfggjnjndemipaa
namespace Keeps
open Go.RowKit
set_option linter.unusedVariables false
set_option linter.unusedSimpArgs false

/-- A row of words in blocks from lo on. -/
def SeesF (w : World) (lo : Nat) (ao : Option Addr) (n : Nat) (f : Nat → Int) : Prop :=
  ∀ j, j < n → ∃ b off, ao = some ⟨b, off, none⟩ ∧ lo ≤ b ∧ b < w.heap.size ∧ w.cell? ⟨b, off + j, none⟩ = some (.int .u64 (f j))
def SeesSF (w : World) (lo : Nat) (ao : Option Addr) (n : Nat) (a : Nat → Stp) : Prop :=
  ∀ j, j < n → ∃ b off, ao = some ⟨b, off, none⟩ ∧ lo ≤ b ∧ b < w.heap.size ∧ ∀ i, i < 6 → w.cell? ⟨b, off + j * 6 + i, none⟩ = some ((a j).cell i)
theorem SeesF.sees {w : World} {lo : Nat} {ao : Option Addr} {n : Nat} {f : Nat → Int} (h : SeesF w lo ao n f) : Sees w w.heap.size ao n f :=
  fun j hj => by obtain ⟨b, off, e, _, hl, hc⟩ := h j hj; exact ⟨b, off, e, hl, hc⟩
theorem SeesSF.sees {w : World} {lo : Nat} {ao : Option Addr} {n : Nat} {a : Nat → Stp} (h : SeesSF w lo ao n a) : SeesS w w.heap.size ao n a :=
  fun j hj => by obtain ⟨b, off, e, _, hl, hc⟩ := h j hj; exact ⟨b, off, e, hl, hc⟩
theorem SeesF.grown {w w' : World} {lo g : Nat} {ao : Option Addr} {n : Nat} {f : Nat → Int} (h : SeesF w lo ao n f) (hg : w.grownBy w' (some g)) (hl : g < lo) : SeesF w' lo ao n f :=
  fun j hj => by obtain ⟨b, off, e, h1, h2, hc⟩ := h j hj; exact ⟨b, off, e, h1, Nat.lt_of_lt_of_le h2 hg.size, (World.cell?_of_block (w := w) (hg.block b h2 (by simp; omega))).trans hc⟩
theorem SeesSF.grown {w w' : World} {lo g : Nat} {ao : Option Addr} {n : Nat} {a : Nat → Stp} (h : SeesSF w lo ao n a) (hg : w.grownBy w' (some g)) (hl : g < lo) : SeesSF w' lo ao n a :=
  fun j hj => by obtain ⟨b, off, e, h1, h2, hc⟩ := h j hj; exact ⟨b, off, e, h1, Nat.lt_of_lt_of_le h2 hg.size, fun i hi => (World.cell?_of_block (w := w) (hg.block b h2 (by simp; omega))).trans (hc i hi)⟩
theorem SeesF.below {w w' : World} {lo : Nat} {ao : Option Addr} {n : Nat} {f : Nat → Int} (h : SeesF w lo ao n f) (hg : Below w.heap.size w w') : SeesF w' lo ao n f :=
  fun j hj => by obtain ⟨b, off, e, h1, h2, hc⟩ := h j hj; exact ⟨b, off, e, h1, Nat.lt_of_lt_of_le h2 hg.size, (hg.cell (p := ⟨b, off + j, none⟩) h2).trans hc⟩
theorem SeesSF.below {w w' : World} {lo : Nat} {ao : Option Addr} {n : Nat} {a : Nat → Stp} (h : SeesSF w lo ao n a) (hg : Below w.heap.size w w') : SeesSF w' lo ao n a :=
  fun j hj => by obtain ⟨b, off, e, h1, h2, hc⟩ := h j hj; exact ⟨b, off, e, h1, Nat.lt_of_lt_of_le h2 hg.size, fun i hi => (hg.cell (p := ⟨b, off + j * 6 + i, none⟩) h2).trans (hc i hi)⟩

def tooLong (n l : Nat) : Prop := 4096 < n ∨ 65536 < l
instance (n l : Nat) : Decidable (tooLong n l) := by unfold tooLong; infer_instance
def numS (n l : Nat) : Nat := if tooLong n l then 0 else l
def numW (n l : Nat) : Nat := if tooLong n l then 0 else n
def err (n l : Nat) : Int := if tooLong n l then 1 else 0

theorem script_uni {w : World} {ao ao' : Option Addr} {n cap l cap' : Nat} {f : Nat → Int} {a : Nat → Stp} (h : Sees w w.heap.size ao n f) (hf : ∀ i, i < n → 0 ≤ f i ∧ f i ≤ 18446744073709551615)
    (h' : SeesS w w.heap.size ao' l a) (hp : ∀ i, i < l → 0 ≤ (a i).put ∧ (a i).put ≤ 18446744073709551615) :
    Calls Try.prog 11 #[.slice ao n cap, .slice ao' l cap'] w fun e w' => ∃ aos caps aow capw, e = .returned (.tuple #[.slice aos (numS n l) caps, .slice aow (numW n l) capw, .int .i64 (err n l)]) ∧
      SeesSF w' w.heap.size aos (numS n l) (runS n f a) ∧ SeesF w' w.heap.size aow (numW n l) (runW n f a l) ∧ Below w.heap.size w w' := by
  by_cases hl : tooLong n l
  · refine (script_long h hf hl).mono ?_
    rintro e w' ⟨rfl, hb⟩
    exact ⟨none, 0, none, 0, by simp [numS, numW, err, hl], fun j hj => by simp [numS, hl] at hj, fun j hj => by simp [numW, hl] at hj, hb⟩
  · have hn : n ≤ 4096 := by unfold tooLong at hl; omega
    have hll : l ≤ 65536 := by unfold tooLong at hl; omega
    refine (script_any h hf hn h' hll hp).mono ?_
    rintro e w' ⟨gs, gw, rfl, hs, hr, hb, h1, h2⟩
    refine ⟨some ⟨gs, 0, none⟩, l, some ⟨gw, 0, none⟩, n, by simp [numS, numW, err, hl], fun j hj => ?_, fun j hj => ?_, hb⟩
    · obtain ⟨b, off, e, hl2, hc⟩ := hs.sees j (by simpa [numS, hl] using hj)
      cases e
      exact ⟨gs, 0, rfl, h1, hl2, hc⟩
    · obtain ⟨b, off, e, hl2, hc⟩ := hr.sees j (by simpa [numW, hl] using hj)
      cases e
      exact ⟨gw, 0, rfl, h2, hl2, hc⟩


theorem owned_low {w : World} {base k : Nat} {v : Value} {s : Nat → Stp} (h : w.ownsRow base 38 6 v k (stepCells s k)) :
    ∃ ao cap, v = .slice ao k cap ∧ SeesSF w base ao k s := by
  obtain ⟨hl, ⟨rfl, rfl⟩ | ⟨g, cap, cur, rfl, hb, hg, hc, hm, hsz, ht⟩⟩ := h
  · exact ⟨none, 0, rfl, fun j hj => absurd hj (Nat.not_lt_zero _)⟩
  · refine ⟨_, cap, rfl, fun j hj => ⟨g, 0, rfl, hb, ?_, fun i hi => ?_⟩⟩
    · by_cases hlt : g < w.heap.size
      · exact hlt
      · rw [Array.getElem?_eq_none (by omega)] at hg; cases hg
    · have := World.ownsRow.cellAt (base := base) (e := 38) (size := 6) (n := k) (cap := cap) ⟨hl, .inr ⟨g, cap, cur, rfl, hb, hg, hc, hm, hsz, ht⟩⟩ (j * 6 + i) (by omega)
      simp only [Nat.zero_add]
      rw [this]
      exact stepCells_get s k j i hj hi

set_option maxHeartbeats 1600000 in
theorem rscript_low {w : World} {ao ao' : Option Addr} {n cap l cap' : Nat} {f : Nat → Int} {a : Nat → Stp} (h : Sees w w.heap.size ao n f) (hnil : ao = none → n = 0 ∧ cap = 0) (hf : ∀ i, i < n → 0 ≤ f i ∧ f i ≤ 18446744073709551615) (hn : n ≤ 4096)
    (h' : SeesS w w.heap.size ao' l a) (hl : l ≤ 65536) (hp : ∀ i, i < l → 0 ≤ (a i).put ∧ (a i).put ≤ 18446744073709551615) :
    Calls Try.prog 10 #[.slice ao n cap, .slice ao' l cap'] w fun e w' => ∃ aos caps gw capw, e = .returned (.tuple #[.slice aos l caps, .slice (some ⟨gw, 0, none⟩) n capw, .int .i64 0]) ∧
      SeesSF w' w.heap.size aos l (runS n f a) ∧ IsRow w' gw n capw (runW n f a l) ∧ Below w.heap.size w w' ∧ w.heap.size ≤ gw := by
  obtain ⟨i0, hi, hz0, hz1, hz2⟩ := info_parts info36z
  obtain ⟨j0, hj, hy0, hy1, hy2⟩ := info_parts info38z
  have H := hide h
  have H' := hide h'
  have HF := hide hf
  have HP := hide hp
  have HN := hide hnil
  clear h h' hf hp hnil
  go_enter Try.func10, Try.ntmps10
  go_wp2_with (at_builtin; refine wpList_append_opt rfl (.tmp 18) (.tmp 19) 22 rfl w.heap.size 36 i0 (.int .u64 0) 1 8 Try.underlying22 hi hz0 hz1 hz2 rfl (by decide) (.slice (some ⟨w.heap.size, 0, none⟩) 0 0) 0 [] rfl (World.ownsRow_lit _ #[] 0 (by omega) (by unfold maxLen; omega) rfl) ao n cap (wordCells n f) rfl HN.out (by simp [wordCells]) ((H.out.alloc _).news) (wordCells_one n f) (by unfold maxLen; omega) (by omega) (by simp) ?_; intro v1 w1 hown1 hgrow1 hnn)
  obtain ⟨g, capg, rfl, hr1, hg1⟩ := owned_row (by simpa using hown1) (by intro e; have := hnn e; simp at this) HF.out
  have b1 : Below w.heap.size w w1 := ((Below.refl _ w).alloc (Nat.le_refl _) _).grown hgrow1 (by simp) (by intro k hk; simp [Value.ownBlock] at hk; omega)
  have R1 := hide hr1
  have B1 := hide b1
  clear hown1 hgrow1 hnn hr1 b1
  go_loopw [8, 9] (fun v i wr => ∃ k : Nat, k ≤ l ∧ i = .int .i64 k ∧ wr.ownsRow w.heap.size 38 6 v k (stepCells (runS n f a) k) ∧ IsRow wr g n capg (runW n f a k) ∧ Below w.heap.size w wr) (fun _ i _ => l - (intOf i).toNat)
  case atStart => exact ⟨0, Nat.zero_le _, rfl, World.ownsRow_nil _ _ _ _, R1.out, B1.out⟩
  case round =>
    obtain ⟨k, hk, rfl, hown, hr, hb⟩ := hrel
    by_cases hlt : k < l
    · obtain ⟨b, off, rfl, hbl, hcc⟩ := H'.out k hlt
      have hcx : ∀ i, i < 6 → wr.cell? ⟨b, off + k * 6 + i, none⟩ = some ((a k).cell i) := fun i hi => (hb.cell (p := ⟨b, off + k * 6 + i, none⟩) hbl).trans (hcc i hi)
      have p0 := hcx 0 (by omega)
      have p1 := hcx 1 (by omega)
      have p2 := hcx 2 (by omega)
      have p3 := hcx 3 (by omega)
      have p4 := hcx 4 (by omega)
      have p5 := hcx 5 (by omega)
      simp only [Stp.cell, Nat.add_zero] at p0 p1 p2 p3 p4 p5
      clear hcc hcx
      go_wp2_with fail
      refine (ref_do hr (a k) (HP.out k hlt)).mono ?_
      rintro e w2 ⟨rfl, hr2, hg2⟩
      obtain ⟨x, hx⟩ : ∃ x, x = stepOf n (runW n f a k) (a k) := ⟨_, rfl⟩
      rw [← hx]
      have HX : Hid (runS n f a k = x) := hx.symm
      clear hx
      simp only [Stp.val]
      have hown2 := owns_grown hown hr hg2
      have hb2 : Below w.heap.size w w2 := hb.trans (grown_below hg2 hb.size hg1)
      have HR2 := hide hr2
      have HB2 := hide hb2
      have HO2 := hide hown2
      clear hown hr hb p0 p1 p2 p3 p4 p5 hr2 hg2 hown2 hb2
      go_wp2_with (at_builtin; refine wpList_append_own _ rfl (.tmp 27) (.tmp 34) 23 rfl w.heap.size 38 j0 _ 6 48 Try.underlying23 hj hy0 hy1 hy2 rfl (by decide) _ k (stepCells (runS n f a) k) rfl (HO2.out.alloc _) ⟨w2.heap.size, 0, none⟩ 1 1 x.cells rfl rfl (step_new w2 x) (step_one x) (by unfold maxLen; omega) (by omega) (by have := HB2.out.size; simp; omega) ?_; intro v3 w3 hown3 hgrow3 _)
      have hr3 : IsRow w3 g n capg (runW n f a (k + 1)) := by
        refine (HR2.out.alloc (.cells #[.int .i64 x.hand, .int .i64 x.act, .int .i64 x.at_, .int .u64 x.had, .int .u64 x.put, .bool x.ok] 38)).grown hgrow3 ?_
        exact ne_own HO2.out HR2.out
      have hb3 : Below w.heap.size w w3 := (HB2.out.alloc HB2.out.size _).grown hgrow3 (by have := HB2.out.size; simp; omega) (fun q hq => (HO2.out.lt q hq).1)
      have ho3 : w3.ownsRow w.heap.size 38 6 v3 (k + 1) (stepCells (runS n f a) (k + 1)) := by
        simp only [stepCells]
        rw [HX.out]
        exact hown3
      have HR3 := hide hr3
      have HB3 := hide hb3
      have HO3 := hide ho3
      clear hr3 hb3 ho3 hown3 hgrow3
      go_wp2
      go_roundw
      case rel => exact ⟨k + 1, by omega, by go_num, HO3.out, HR3.out, HB3.out⟩
      case measure => simp [intOf]; omega
    · have hkl : k = l := by omega
      subst hkl
      obtain ⟨aos, caps, rfl, hss⟩ := owned_low hown
      go_wp2
      refine bodyPost_ret (v := .tuple #[.slice aos k caps, .slice (some ⟨g, 0, none⟩) n capg, .int .i64 0]) (by simp [results, Try.results10, go_sem]) rfl ⟨_, _, _, _, rfl, hss, hr, hb, hg1⟩

theorem rscript_uni {w : World} {ao ao' : Option Addr} {n cap l cap' : Nat} {f : Nat → Int} {a : Nat → Stp} (h : Sees w w.heap.size ao n f) (hnil : ao = none → n = 0 ∧ cap = 0) (hf : ∀ i, i < n → 0 ≤ f i ∧ f i ≤ 18446744073709551615)
    (h' : SeesS w w.heap.size ao' l a) (hp : ∀ i, i < l → 0 ≤ (a i).put ∧ (a i).put ≤ 18446744073709551615) :
    Calls Try.prog 10 #[.slice ao n cap, .slice ao' l cap'] w fun e w' => ∃ aos caps aow capw, e = .returned (.tuple #[.slice aos (numS n l) caps, .slice aow (numW n l) capw, .int .i64 (err n l)]) ∧
      SeesSF w' w.heap.size aos (numS n l) (runS n f a) ∧ SeesF w' w.heap.size aow (numW n l) (runW n f a l) ∧ Below w.heap.size w w' := by
  by_cases hl : tooLong n l
  · refine (rscript_long hl).mono ?_
    rintro e w' ⟨rfl, hw⟩
    obtain rfl := hw.symm
    exact ⟨none, 0, none, 0, by simp [numS, numW, err, hl], fun j hj => by simp [numS, hl] at hj, fun j hj => by simp [numW, hl] at hj, Below.refl _ _⟩
  · have hn : n ≤ 4096 := by unfold tooLong at hl; omega
    have hll : l ≤ 65536 := by unfold tooLong at hl; omega
    refine (rscript_low h hnil hf hn h' hll hp).mono ?_
    rintro e w' ⟨aos, caps, gw, capw, rfl, hs, hr, hb, h2⟩
    refine ⟨aos, caps, some ⟨gw, 0, none⟩, capw, by simp [numS, numW, err, hl], fun j hj => ?_, fun j hj => ?_, hb⟩
    · obtain ⟨b, off, e, h1, hl2, hc⟩ := hs j (by simpa [numS, hl] using hj)
      exact ⟨b, off, e, h1, hl2, hc⟩
    · obtain ⟨b, off, e, hl2, hc⟩ := hr.sees j (by simpa [numW, hl] using hj)
      cases e
      exact ⟨gw, 0, rfl, h2, hl2, hc⟩
end Keeps
end Go.Proofs.Ytfggjnjndemipaa
