/-
  The law CellsKeeps, walked: what is handed in stays, and is not kept; what is told is new.
-/
import Derived.Test.YtfggjnjndemipaaKeepsA
namespace Go.Proofs.Ytfggjnjndemipaa
namespace Keeps
open Go.RowKit
open Scripts (drewN_below)
set_option linter.unusedVariables false
set_option linter.unusedSimpArgs false

def newErr (n : Nat) : Int := if 4096 < n then 1 else 0
theorem new_uni {w : World} {ao : Option Addr} {n cap : Nat} {f : Nat → Int} (h : Sees w w.heap.size ao n f) (hf : ∀ i, i < n → 0 ≤ f i ∧ f i ≤ 18446744073709551615) :
    Calls Try.prog 14 #[.slice ao n cap] w fun e w' => ∃ p, e = .returned (.tuple #[.pointer p, .int .i64 (newErr n)]) ∧ Below w.heap.size w w' ∧ (4096 < n → p = none) ∧
      (n ≤ 4096 → ∃ bm bw, p = some ⟨bm, 0, none⟩ ∧ IsMem w' bm bw n f ∧ w.heap.size ≤ bm ∧ w.heap.size ≤ bw) := by
  by_cases hn : 4096 < n
  · refine (new_long hn).mono ?_
    rintro e w' ⟨rfl, hw⟩
    obtain rfl := hw.symm
    exact ⟨none, by simp [newErr, hn], Below.refl _ _, fun _ => rfl, fun h => absurd hn (by omega)⟩
  · refine (new_mem h hf (by omega)).mono ?_
    rintro e w' ⟨bm, bw, rfl, hm, hb, h1, h2⟩
    exact ⟨_, by simp [newErr, hn], hb, fun h => absurd h hn, fun _ => ⟨bm, bw, rfl, hm, h1, h2⟩⟩

theorem two_new (w : World) : ∀ j u, ([.int .u64 71, .int .u64 72] : List Value)[j]? = some u → (w.alloc (.cells #[.int .u64 71, .int .u64 72] 36)).cell? (Addr.add ⟨w.heap.size, 0, none⟩ j) = some u := by
  intro j u hu
  have hj : j < 2 := by have := (List.getElem?_eq_some_iff.1 hu).1; simpa using this
  rw [Go.WideShapes.add_plain]
  match j, hj with
  | 0, _ => simpa using hu
  | 1, _ => simpa using hu

def fullF (n : Nat) (f : Nat → Int) : Nat → Int := fun i => if i < n then f i else if i = n then 71 else 72
theorem full_cells (n : Nat) (f : Nat → Int) : wordCells n f ++ [.int .u64 71, .int .u64 72] = wordCells (n + 2) (fullF n f) := by
  have e1 : wordCells n f = wordCells n (fullF n f) := by
    unfold wordCells
    refine List.map_congr_left fun i hi => ?_
    simp [fullF, List.mem_range.1 hi]
  have e2 : wordCells (n + 2) (fullF n f) = wordCells n (fullF n f) ++ [.int .u64 (fullF n f n), .int .u64 (fullF n f (n + 1))] := by
    simp [wordCells, List.range_succ]
  rw [e1, e2]
  simp [fullF]
  omega
theorem fullF_ok {n : Nat} {f : Nat → Int} (hf : ∀ i, i < n → 0 ≤ f i ∧ f i ≤ 18446744073709551615) : ∀ i, i < n + 2 → 0 ≤ fullF n f i ∧ fullF n f i ≤ 18446744073709551615 := by
  intro i _
  unfold fullF
  split
  · exact hf i (by assumption)
  · split <;> omega

def s73 : Stp := ⟨73, 0, 0, 0, 0, false⟩
def fullS (l : Nat) (a : Nat → Stp) : Nat → Stp := fun i => if i < l then a i else s73
theorem stepCells_congr {s t : Nat → Stp} {k : Nat} (h : ∀ i, i < k → s i = t i) : stepCells s k = stepCells t k := by
  induction k with
  | zero => rfl
  | succ k ih => simp only [stepCells]; rw [ih (fun i hi => h i (by omega)), h k (by omega)]
theorem fullS_cells (l : Nat) (a : Nat → Stp) : stepCells a l ++ s73.cells = stepCells (fullS l a) (l + 1) := by
  simp only [stepCells]
  rw [stepCells_congr (s := fullS l a) (t := a) (fun i hi => by simp [fullS, hi])]
  simp [fullS]
theorem stepCells_one (s : Nat → Stp) (k : Nat) : ∀ u ∈ stepCells s k, u.oneCell' = true := by
  induction k with
  | zero => intro u hu; simp [stepCells] at hu
  | succ k ih =>
    intro u hu
    simp only [stepCells, List.mem_append] at hu
    rcases hu with hu | hu
    · exact ih u hu
    · exact step_one _ u hu
theorem SeesS.news {w : World} {B : Nat} {ao : Option Addr} {n : Nat} {a : Nat → Stp} (h : SeesS w B ao n a) : ∀ ad, ao = some ad → ∀ j u, (stepCells a n)[j]? = some u → w.cell? (ad.add j) = some u := by
  intro ad hao j u hu
  have hj : j < n * 6 := by have := (List.getElem?_eq_some_iff.1 hu).1; rwa [stepCells_length] at this
  have hq : j / 6 < n := by omega
  obtain ⟨b, off, he, hbl, hcc⟩ := h (j / 6) hq
  rw [hao] at he
  cases he
  have := hcc (j % 6) (by omega)
  rw [Go.WideShapes.add_plain]
  have e1 : off + j = off + j / 6 * 6 + j % 6 := by omega
  rw [e1, this]
  have h2 := stepCells_get a n (j / 6) (j % 6) hq (by omega)
  rw [show j / 6 * 6 + j % 6 = j by omega] at h2
  rw [← h2, hu]

/-- A row of steps that is owned and not nil. -/
theorem owned_isSteps {w : World} {base k : Nat} {v : Value} {s : Nat → Stp} (h : w.ownsRow base 38 6 v k (stepCells s k)) (hk : 0 < k) :
    ∃ g cap, v = .slice (some ⟨g, 0, none⟩) k cap ∧ k ≤ cap ∧ IsSteps w g cap k s ∧ base ≤ g := by
  obtain ⟨hl, ⟨rfl, rfl⟩ | ⟨g, cap, cur, rfl, hb, hg, hc, hm, hsz, ht⟩⟩ := h
  · omega
  · refine ⟨g, cap, rfl, hc, ⟨fun i => cur[i]?.getD default, ⟨cur, hg, hsz, fun i hi => ?_⟩, fun j i hj hi => ?_⟩, hb⟩
    · have : i < cur.size := by omega
      simp [this]
    · have h1 : cur[j * 6 + i]? = (cur.toList.take (k * 6))[j * 6 + i]? := by
        rw [List.getElem?_take, if_pos (by omega)]; simp
      show cur[j * 6 + i]?.getD default = _
      rw [h1, ht, stepCells_get s k j i hj hi]; rfl
theorem IsSteps.seesLe {w : World} {g l k : Nat} {s : Nat → Stp} (h : IsSteps w g l k s) (hk : k ≤ l) (m : Nat) (hm : m ≤ k) : SeesS w w.heap.size (some ⟨g, 0, none⟩) m s := by
  intro j hj
  refine ⟨g, 0, rfl, h.lt, fun i hi => ?_⟩
  obtain ⟨c, hr, hc⟩ := h
  rw [hr.cell (by omega)]
  simp only [Nat.zero_add]
  rw [hc j i (by omega) hi]

theorem numS_le (n l : Nat) : numS n l ≤ 65536 := by
  by_cases h : tooLong n l
  · simp [numS, h]
  · simp [numS, h]; unfold tooLong at h; omega
theorem numW_le (n l : Nat) : numW n l ≤ 4096 := by
  by_cases h : tooLong n l
  · simp [numW, h]
  · simp [numW, h]; unfold tooLong at h; omega
theorem owned_shape {w : World} {base e size n : Nat} {v : Value} {xs : List Value} (h : w.ownsRow base e size v (n + 1) xs) : ∃ g cap, v = .slice (some ⟨g, 0, none⟩) (n + 1) cap := by
  obtain ⟨_, ⟨_, h0⟩ | ⟨g, cap, cur, rfl, _⟩⟩ := h
  · omega
  · exact ⟨g, cap, rfl⟩
/-- A row of words, as what append may write to. -/
theorem IsRow.owns {w : World} {g n : Nat} {f : Nat → Int} (base : Nat) (h : IsRow w g n n f) (hb : base ≤ g) : ∃ xs, w.ownsRow base 36 1 (.slice (some ⟨g, 0, none⟩) n n) n xs := by
  obtain ⟨h1, h2, ⟨c, ⟨c', h3, h4, _⟩, _⟩, _⟩ := h
  exact ⟨c'.toList.take (n * 1), by simp; omega, .inr ⟨g, n, c', rfl, hb, h3, h1, h2, by omega, rfl⟩⟩

set_option maxRecDepth 100000 in
set_option maxHeartbeats 3200000 in
theorem walk {w : World} {ao ao' : Option Addr} {n cap l cap' : Nat} {f : Nat → Int} {a : Nat → Stp} (h : Sees w w.heap.size ao n f) (hnil : ao = none → n = 0 ∧ cap = 0) (hf : ∀ i, i < n → 0 ≤ f i ∧ f i ≤ 18446744073709551615)
    (h' : SeesS w w.heap.size ao' l a) (hnil' : ao' = none → l = 0 ∧ cap' = 0) (hp : ∀ i, i < l → 0 ≤ (a i).put ∧ (a i).put ≤ 18446744073709551615) (hreach : n * 8 ≤ 140737488351232) (hreach' : l * 48 ≤ 140737488351232) :
    Calls Try.prog 8 #[.slice ao n cap, .slice ao' l cap'] w fun e w' => e = .returned (.bool true) ∧ Below w.heap.size w w' := by
  obtain ⟨i0, hi, hz0, hz1, hz2⟩ := info_parts info36z
  obtain ⟨j0, hj, hy0, hy1, hy2⟩ := info_parts info38z
  have H := hide h
  have H' := hide h'
  have HF := hide hf
  have HP := hide hp
  have HN := hide hnil
  have HN' := hide hnil'
  clear h h' hf hp hnil hnil'
  go_enter Try.func8, Try.ntmps8
  go_wp2_with fail
  refine (alive_any _).mono ?_
  rintro e w1 ⟨rfl, hb1⟩
  have B1 := hide hb1
  have hs1 := hb1.size
  clear hb1
  go_wp2_with (first
    | (at_builtin; refine wpList_append_opt rfl (.tmp 22) (.tmp 23) 22 rfl w1.heap.size 36 i0 (.int .u64 0) 1 8 Try.underlying22 hi hz0 hz1 hz2 rfl (by decide) (.slice (some ⟨w1.heap.size, 0, none⟩) 0 0) 0 [] rfl (World.ownsRow_lit _ #[] 0 (by omega) (by unfold maxLen; omega) rfl) ao n cap (wordCells n f) rfl HN.out (by simp [wordCells]) ((((H.out.below B1.out (Nat.le_refl _)).mono hs1).alloc _).news) (wordCells_one n f) (by unfold maxLen; omega) (by omega) (by simp) ?_; intro v2 w2 hown2 hgrow2 hnn2; have hown2' : w2.ownsRow w1.heap.size 36 1 v2 n (wordCells n f) := (by simpa using hown2); have b2 : (Below w1.heap.size w1 w2) := ((Below.refl _ w1).alloc (Nat.le_refl _) _).grown hgrow2 (by simp) (by intro k hk; simp [Value.ownBlock] at hk; omega); have B2 := hide b2; clear b2; have hs2 := B2.out.size; clear hown2 hgrow2 hnn2)
    | (at_builtin; refine wpList_append_own _ rfl (.tmp 24) (.tmp 25) 22 rfl w1.heap.size 36 i0 (.int .u64 0) 1 8 Try.underlying22 hi hz0 hz1 hz2 rfl (by decide) v2 n (wordCells n f) rfl (hown2'.alloc _) ⟨w2.heap.size, 0, none⟩ 2 2 [.int .u64 71, .int .u64 72] rfl rfl (two_new w2) (by intro u hu; simp at hu; rcases hu with rfl | rfl <;> rfl) (by unfold maxLen; omega) (by omega) (by simp; omega) ?_; intro v3 w3 hown3 hgrow3 hnn3; rw [full_cells] at hown3; obtain ⟨g1, cap1, rfl, hr3, hg1⟩ := owned_row hown3 (by intro e; have := (hnn3.1 e).2; omega) (fullF_ok HF.out); have b3 : (Below w1.heap.size w1 w3) := ((B2.out.alloc hs2 _).grown hgrow3 (by simp; omega) (fun q hq => (hown2'.lt q hq).1)); have R3 := hide hr3; have B3 := hide b3; clear b3; have hs3 := B3.out.size; have hc1 : n + 2 ≤ cap1 := hr3.1; have lg1 := hr3.lt; clear hown3 hgrow3 hnn3 hr3 hown2' B2; have BW3 := hide (B1.out.trans (B3.out.mono hs1)); have hsw3 := BW3.out.size)
    | (at_builtin; refine wpList_append_opt rfl (.tmp 31) (.tmp 32) 23 rfl w3.heap.size 38 j0 _ 6 48 Try.underlying23 hj hy0 hy1 hy2 rfl (by decide) (.slice (some ⟨w3.heap.size, 0, none⟩) 0 0) 0 [] rfl (World.ownsRow_lit _ #[] 0 (by omega) (by unfold maxLen; omega) rfl) ao' l cap' (stepCells a l) rfl HN'.out (by rw [stepCells_length]) (Keeps.SeesS.news ((H'.out.below BW3.out (Nat.le_refl _)).below ((Below.refl _ w3).alloc (Nat.le_refl _) _) hsw3)) (stepCells_one a l) (by unfold maxLen; omega) (by omega) (by simp) ?_; intro v4 w4 hown4 hgrow4 hnn4; have hown4' : w4.ownsRow w3.heap.size 38 6 v4 l (stepCells a l) := (by simpa using hown4); have b4 : (Below w3.heap.size w3 w4) := ((Below.refl _ w3).alloc (Nat.le_refl _) _).grown hgrow4 (by simp) (by intro k hk; simp [Value.ownBlock] at hk; omega); have B4 := hide b4; clear b4; have hs4 := B4.out.size; clear hown4 hgrow4 hnn4)
    | (at_builtin; refine wpList_append_own _ rfl (.tmp 33) (.tmp 35) 23 rfl w3.heap.size 38 j0 _ 6 48 Try.underlying23 hj hy0 hy1 hy2 rfl (by decide) v4 l (stepCells a l) rfl (hown4'.alloc _) ⟨w4.heap.size, 0, none⟩ 1 1 s73.cells rfl rfl (step_new w4 s73) (step_one s73) (by unfold maxLen; omega) (by omega) (by simp; omega) ?_; intro v5 w5 hown5 hgrow5 hnn5; rw [fullS_cells] at hown5; obtain ⟨g2, cap2, rfl, hc2, hst5, hg2⟩ := owned_isSteps hown5 (by omega); have b5 : (Below w3.heap.size w3 w5) := ((B4.out.alloc hs4 _).grown hgrow5 (by simp; omega) (fun q hq => (hown4'.lt q hq).1)); have S5 := hide hst5; have B5 := hide b5; clear b5; have hs5 := B5.out.size; have lg2 := hst5.lt; clear hown5 hgrow5 hnn5 hst5 hown4' B4))
  have R5 := hide (R3.out.block (B5.out.block g1 lg1))
  have BW5 := hide (BW3.out.trans (B5.out.mono hsw3))
  have hsw5 := BW5.out.size
  have E1 : Hid (∀ i, i < n → fullF n f i = f i) := fun i hi => by simp [fullF, hi]
  have SI5 := hide (show Sees w5 w5.heap.size (some ⟨g1, 0, none⟩) n f from fun j hj => ⟨g1, 0, rfl, by omega, by rw [← E1.out j hj]; simpa using R5.out.cell (i := j) (by omega)⟩)
  go_wp2_with fail
  refine (new_uni SI5.out HF.out).mono ?_
  rintro e w6 ⟨pm, rfl, hb6, hpn, hpm⟩
  have B6 := hide hb6
  have PN := hide hpn
  have PM := hide hpm
  have hs6 := hb6.size
  clear hb6 hpn hpm
  have E2 : Hid (∀ i, i < l → fullS l a i = a i) := fun i hi => by simp [fullS, hi]
  have SA5 := hide (show SeesS w5 w5.heap.size (some ⟨g2, 0, none⟩) l a from fun j hj => by
    obtain ⟨b, off, e, hl, hc⟩ := IsSteps.seesLe S5.out hc2 l (by omega) j hj
    exact ⟨b, off, e, hl, fun i hi => by rw [← E2.out j hj]; exact hc i hi⟩)
  go_wp2_with fail
  refine (script_uni (a := a) ((SI5.out.below B6.out (Nat.le_refl _)).mono hs6) HF.out ((SA5.out.below B6.out (Nat.le_refl _)).mono hs6) HP.out).mono ?_
  rintro e w7 ⟨aos, caps, aow, capw, rfl, hS7, hW7, hb7⟩
  have S7 := hide hS7
  have W7 := hide hW7
  have B7 := hide hb7
  have hs7 := hb7.size
  clear hS7 hW7 hb7
  have BW7 := hide ((BW5.out.trans (B6.out.mono hsw5)).trans (B7.out.mono (by omega)))
  have hsw7 := BW7.out.size
  go_wp2_with fail
  refine (rscript_uni ((H.out.below BW7.out (Nat.le_refl _)).mono hsw7) HN.out HF.out ((H'.out.below BW7.out (Nat.le_refl _)).mono hsw7) HP.out).mono ?_
  rintro e w8 ⟨aos', caps', aow', capw', rfl, hS8, hW8, hb8⟩
  have S8 := hide hS8
  have W8 := hide hW8
  have B8 := hide hb8
  have hs8 := hb8.size
  clear hS8 hW8 hb8
  have BW8 := hide (BW7.out.trans (B8.out.mono hsw7))
  have hsw8 := BW8.out.size
  have B58 := hide (((B6.out).trans (B7.out.mono hs6)).trans (B8.out.mono (by omega)))
  go_wp2_with fail
  have R8 := hide (R5.out.below B58.out)
  have ST8 := hide (S5.out.below B58.out)
  have q71 : w8.cell? ⟨g1, n, none⟩ = some (.int .u64 71) := by rw [R8.out.cell (i := n) (by omega)]; simp [fullF]
  have q72 : w8.cell? ⟨g1, n + 1, none⟩ = some (.int .u64 72) := by rw [R8.out.cell (i := n + 1) (by omega)]; simp [fullF]; omega
  have q73 : w8.cell? ⟨g2, l * 6, none⟩ = some (.int .i64 73) := by
    obtain ⟨b, off, e, _, hc⟩ := IsSteps.seesLe ST8.out hc2 (l + 1) (Nat.le_refl _) l (by omega)
    cases e
    have := hc 0 (by omega)
    simpa [fullS, s73, Stp.cell] using this
  refine (same_words (SI5.out.below B58.out (Nat.le_refl _)) (H.out.below BW8.out (Nat.le_refl _)) (fun _ _ => rfl) (by omega)).mono ?_
  rintro e _ ⟨rfl, m1, rfl⟩
  go_wp2_with fail
  refine (same_steps ((SA5.out.below B58.out (Nat.le_refl _)).below (drewN_below m1) (by omega)) ((H'.out.below BW8.out (Nat.le_refl _)).below (drewN_below m1) (by omega)) (fun _ _ => rfl) (by omega)).mono ?_
  rintro e _ ⟨rfl, m2, rfl⟩
  go_wp2_with fail
  clear q71 q72 q73
  go_loopw [16] (fun i wr => ∃ (k : Nat) (F : Nat → Int), k ≤ n ∧ i = .int .i64 k ∧ IsRow wr g1 (n + 2) cap1 F ∧ w8.grownBy wr (some g1)) (fun i _ => n - (intOf i).toNat)
  case atStart => exact ⟨0, _, Nat.zero_le _, rfl, R8.out.block rfl, ⟨rfl, rfl, rfl, Nat.le_refl _, fun _ _ _ => rfl⟩⟩
  case round =>
    obtain ⟨k, F, hk, rfl, hr, hg⟩ := hrel
    have HR := hide hr
    have HG := hide hg
    by_cases hlt : k < n
    · have c0 := hr.cell (i := k) (by omega)
      have z0 := hr.frozen k
      clear hr hg
      go_wp2
      go_roundw
      case rel => exact ⟨k + 1, _, by omega, by go_num, HR.out.set k 74 (by omega), grown_setCell HG.out _ (.inl rfl) _⟩
      case measure => simp [intOf]; omega
    · clear hr hg
      go_wp2_with fail
      have ST9 := hide (ST8.out.grown HG.out (by simp; omega))
      go_loopw [17] (fun i wr' => ∃ (k : Nat) (c : Nat → Value), k ≤ l ∧ i = .int .i64 k ∧ wr'.rowIs g2 38 (cap2 * 6) c ∧ wr.grownBy wr' (some g2)) (fun i _ => l - (intOf i).toNat)
      case atStart => exact (by obtain ⟨c, hc, _⟩ := ST9.out; exact ⟨0, c, Nat.zero_le _, rfl, hc, grown_refl _ _⟩)
      case round =>
        obtain ⟨k2, c, hk2, rfl, hr, hg⟩ := hrel
        have HR2 := hide hr
        have HG2 := hide hg
        by_cases hlt2 : k2 < l
        · have c0 := hr.cell (i := k2 * 6) (by omega)
          have c1 := hr.cell (i := k2 * 6 + 1) (by omega)
          have c2 := hr.cell (i := k2 * 6 + 2) (by omega)
          have c3 := hr.cell (i := k2 * 6 + 3) (by omega)
          have c4 := hr.cell (i := k2 * 6 + 4) (by omega)
          have c5 := hr.cell (i := k2 * 6 + 5) (by omega)
          have z0 := hr.frozen (k2 * 6)
          have z1 := hr.frozen (k2 * 6 + 1)
          have z2 := hr.frozen (k2 * 6 + 2)
          have z3 := hr.frozen (k2 * 6 + 3)
          have z4 := hr.frozen (k2 * 6 + 4)
          have z5 := hr.frozen (k2 * 6 + 5)
          clear hr hg
          go_wp2
          go_roundw
          case rel => exact ⟨k2 + 1, _, by omega, by go_num, (((((HR2.out.set _ _).set _ _).set _ _).set _ _).set _ _).set _ _, grown_setCell (grown_setCell (grown_setCell (grown_setCell (grown_setCell (grown_setCell HG2.out _ (.inl rfl) _) _ (.inl rfl) _) _ (.inl rfl) _) _ (.inl rfl) _) _ (.inl rfl) _) _ (.inl rfl) _⟩
          case measure => simp [intOf]; omega
        · clear hr hg
          have S10 := hide (((S7.out.below B8.out).grown HG.out (by omega)).grown HG2.out (by omega))
          have W10 := hide (((W7.out.below B8.out).grown HG.out (by omega)).grown HG2.out (by omega))
          have T10 := hide ((S8.out.grown HG.out (by omega)).grown HG2.out (by omega))
          have V10 := hide ((W8.out.grown HG.out (by omega)).grown HG2.out (by omega))
          have hgs1 := HG.out.size
          have hgs2 := HG2.out.size
          have BW10 := hide ((BW8.out.trans (grown_below HG.out hsw8 (by omega))).trans (grown_below HG2.out (by omega) (by omega)))
          clear HR HR2 R8 ST8 ST9
          have hnum := numS_le n l
          have hnumw := numW_le n l
          go_wp2_with fail
          refine (same_steps S10.out.sees T10.out.sees (fun _ _ => rfl) (by omega)).mono ?_
          rintro e _ ⟨rfl, m3, rfl⟩
          go_wp2_with fail
          refine (same_words (W10.out.sees.below (drewN_below m3) (Nat.le_refl _)) (V10.out.sees.below (drewN_below m3) (Nat.le_refl _)) (fun _ _ => rfl) (by omega)).mono ?_
          rintro e _ ⟨rfl, m4, rfl⟩
          by_cases hn : 4096 < n
          · have hne : newErr n = 1 := by simp [newErr, hn]
            have hpn := PN.out hn
            subst hpn
            clear S10 W10 T10 V10
            have hgt : (4096 : Int) < (n : Int) := by omega
            go_wp2
            go_ret
            exact ⟨by simp [hn], ⟨BW10.out.os, BW10.out.tape, BW10.out.output, BW10.out.size, BW10.out.block⟩⟩
          · have hne : newErr n = 0 := by simp [newErr, hn]
            obtain ⟨bm, bw, rfl, hm6, hbm, hbw⟩ := PM.out (by omega)
            have M10 := hide (((hm6.below ((B7.out.mono (Nat.le_refl _)).trans (B8.out.mono (by omega)))).grown HG.out (by simp; omega) (by simp; omega)).grown HG2.out (by simp; omega) (by simp; omega))
            clear S10 W10 T10 V10 hm6
            go_wp2_with fail
            refine (words_mem (M10.out.below (drewN_below _))).mono ?_
            rintro e w11 ⟨g3, rfl, hr11, hb11, hg3⟩
            have R11 := hide hr11
            have hs11 := hb11.size
            have B11 : Hid (Below w.heap.size w w11) := hide (BW10.out.trans (Below.trans (drewN_below (m3 + m4) |>.mono BW10.out.size) (hb11.mono BW10.out.size)))
            have M11 := hide ((M10.out.below (drewN_below (m3 + m4))).below hb11)
            have lbm0 := M10.out.head.lt
            have lbw0 := M10.out.row.lt
            have hsw10 := BW10.out.size
            simp at hg3 hs11
            clear hr11 hb11 M10 BW10 hbm hbw
            have hsw11 := B11.out.size
            have lbm := M11.out.head.lt
            have lbw := M11.out.row.lt
            go_wp2_with fail
            refine (same_words R11.out.sees (H.out.below B11.out (Nat.le_refl _)) (fun _ _ => rfl) (by omega)).mono ?_
            rintro e _ ⟨rfl, m5, rfl⟩
            go_wp2_with fail
            go_loopw [19] (fun i wr' => ∃ (k : Nat) (F : Nat → Int), k ≤ n ∧ i = .int .i64 k ∧ IsRow wr' g3 n n F ∧ w11.grownBy wr' (some g3)) (fun i _ => n - (intOf i).toNat)
            case atStart => exact ⟨0, _, Nat.zero_le _, rfl, R11.out.block rfl, ⟨rfl, rfl, rfl, Nat.le_refl _, fun _ _ _ => rfl⟩⟩
            case round =>
              obtain ⟨k3, F, hk3, rfl, hr, hg⟩ := hrel
              have HR3 := hide hr
              have HG3 := hide hg
              by_cases hlt3 : k3 < n
              · have c0 := hr.cell (i := k3) (by omega)
                have z0 := hr.frozen k3
                clear hr hg
                go_wp2
                go_roundw
                case rel => exact ⟨k3 + 1, _, by omega, by go_num, HR3.out.set k3 76 (by omega), grown_setCell HG3.out _ (.inl rfl) _⟩
                case measure => simp [intOf]; omega
              · clear hr hg
                obtain ⟨xs, hown⟩ := IsRow.owns w.heap.size HR3.out (by omega)
                have HO := hide hown
                have hs12 := HG3.out.size
                clear hown
                go_wp2_with (at_builtin; refine wpList_append_own _ rfl (.tmp 156) (.tmp 157) 22 rfl w.heap.size 36 i0 (.int .u64 0) 1 8 Try.underlying22 hi hz0 hz1 hz2 rfl (by decide) (.slice (some ⟨g3, 0, none⟩) n n) n xs rfl (HO.out.alloc _) ⟨wr.heap.size, 0, none⟩ 1 1 [.int .u64 77] rfl rfl (cell_one_new _ _ _) (by intro u hu; simp at hu; subst hu; rfl) (by unfold maxLen; omega) (by omega) (by simp; omega) ?_; intro v13 w13 hown13 hgrow13 _; obtain ⟨g4, cap4, rfl⟩ := owned_shape hown13; have m13 : IsMem w13 bm bw n f := (((M11.out.grown HG3.out (by simp; omega) (by simp; omega)).alloc _).grown hgrow13 (by simp [Value.ownBlock]; omega) (by simp [Value.ownBlock]; omega)); have M13 := hide m13; have b13 : Below w.heap.size w w13 := (((B11.out.trans (grown_below HG3.out hsw11 (by omega))).alloc (by omega) _).grown hgrow13 (by simp; omega) (by intro q hq; simp [Value.ownBlock] at hq; omega)); have B13 := hide b13; clear hown13 hgrow13 m13 b13)
                have hsw13 := B13.out.size
                clear HR3 HG3 HO M11 R11
                refine (words_mem M13.out).mono ?_
                rintro e w14 ⟨g5, rfl, hr14, hb14, hg5⟩
                have R14 := hide hr14
                have B14 := hide (B13.out.trans (hb14.mono hsw13))
                clear hr14 hb14
                go_wp2_with fail
                refine (same_words R14.out.sees (H.out.below B14.out (Nat.le_refl _)) (fun _ _ => rfl) (by omega)).mono ?_
                rintro e _ ⟨rfl, m6, rfl⟩
                go_wp2
                go_ret
                exact ⟨rfl, ⟨B14.out.os, B14.out.tape, B14.out.output, B14.out.size, B14.out.block⟩⟩
end Keeps
end Go.Proofs.Ytfggjnjndemipaa
