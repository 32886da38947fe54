/-
  Lemmas: VwLc, VwLd.
-/
import Derived.Test.YtecjegjnnahddaaGreatTp17
import Derived.Test.YtecjegjnnahddaaGreatTp11
import Derived.Test.YtecjegjnnahddaaGreatTp08
import Derived.Test.YtecjegjnnahddaaGreatTp22
/-
  View: words laid: a row of one's own, written word by word and by copies
-/
namespace Go.Proofs.YtecjegjnnahddaaGreat
open Go.RowKit
set_option linter.unusedVariables false
set_option linter.unusedSimpArgs false
set_option linter.unnecessarySimpa false
set_option maxRecDepth 20000
namespace Vw
open Shape

/-- Block g holds the z words F. -/
def Wr (w : World) (g z : Nat) (F : Nat → Int) : Prop := w.heap[g]? = some (.cells (wcs z F).toArray 24 (0, 0))
theorem wcs_ext {z : Nat} {F G : Nat → Int} (h : ∀ i, i < z → F i = G i) : wcs z F = wcs z G := by
  unfold wcs
  refine List.map_congr_left (fun i hi => ?_)
  rw [h i (List.mem_range.1 hi)]
section
variable {w : World} {g z : Nat} {F : Nat → Int}
theorem Wr.lt (h : Wr w g z F) : g < w.heap.size := (Array.getElem?_eq_some_iff.1 h).1
theorem Wr.cell (h : Wr w g z F) {i : Nat} (hi : i < z) : w.cell? ⟨g, i, none⟩ = some (.int .u64 (F i)) := by
  have := wcs_get F hi
  simp only [World.cell?, show w.heap[g]? = _ from h]
  simpa using this
theorem Wr.frozen (h : Wr w g z F) (i : Nat) : w.frozen? ⟨g, i, none⟩ = false := by simp [World.frozen?, show w.heap[g]? = _ from h]
theorem Wr.ext (h : Wr w g z F) {G : Nat → Int} (e : ∀ i, i < z → F i = G i) : Wr w g z G := by unfold Wr; rw [← wcs_ext e]; exact h
theorem Wr.on (h : Wr w g z F) {w' : World} (hb : Below w.heap.size w w') : Wr w' g z F := by unfold Wr; rw [hb.block g h.lt]; exact h
theorem Wr.other (h : Wr w g z F) {w' : World} (hb : w'.heap[g]? = w.heap[g]?) : Wr w' g z F := by unfold Wr; rw [hb]; exact h
theorem Wr.set (h : Wr w g z F) {k : Nat} (hk : k < z) (v : Int) : Wr (w.setCell ⟨g, k, none⟩ (.int .u64 v)) g z (fun i => if i = k then v else F i) := by
  unfold Wr World.setCell
  have hlt := h.lt
  have hv := (Array.getElem?_eq_some_iff.1 h).2
  rw [Array.getElem?_eq_getElem (by simpa using hlt)]
  simp only [Array.getElem_modify, hv, if_true, Option.isSome_none, Bool.false_eq_true, if_false]
  congr 2
  apply Array.ext'
  simp only [Array.toList_setIfInBounds, List.toList_toArray]
  apply List.ext_getElem?
  intro i
  rw [List.getElem?_set]
  by_cases hi : i < z
  · rw [wcs_get _ hi]
    by_cases e : k = i
    · subst e
      have h5 := wcs_get (fun i => if i = k then v else F i) hi
      simp only [if_true] at h5
      rw [h5]
      simp [wcs_len, hi]
    · rw [if_neg e, wcs_get _ hi, if_neg (fun e' => e e'.symm)]
  · rw [List.getElem?_eq_none (by rw [wcs_len]; omega), List.getElem?_eq_none (by rw [wcs_len]; omega)]
    split <;> simp [wcs_len] ; omega
theorem Wr.sees (h : Wr w g z F) : Sees w w.heap.size (some ⟨g, 0, none⟩) z F := fun j hj => ⟨g, 0, rfl, h.lt, by rw [Nat.zero_add]; exact h.cell hj⟩
end
/-- A copy into such a row. -/
theorem copy_wr {W : World} {g z : Nat} {F : Nat → Int} {ao : Option Addr} {n cap : Nat} {f : Nat → Int} (hg : Wr W g z F) (h : Sees W W.heap.size ao n f) {p : Addr} {off m c : Nat} (hp : 0 < m → p = ⟨g, off, none⟩) (hm : off + m ≤ z) :
    ∃ v W', (Builtin.copy_ #[25, 25] 3 #[.slice (some p) m c, .slice ao n cap]).run Tryz.prog W = .ok v W' ∧ Hid (Wr W' g z (fun i => if off ≤ i ∧ i < off + m ∧ i - off < n then f (i - off) else F i)) ∧ (∀ B, B ≤ g → Below B W W') ∧ ∀ k, ¬ k = g → W'.heap[k]? = W.heap[k]? := by
  by_cases h0 : Nat.min n m = 0
  · refine ⟨_, W, run_copy_none (P := Tryz.prog) W 25 25 3 24 (some p) ao m c n cap Tryz.underlying25 (by kernel_rfl) h0, ?_, fun B _ => Below.refl _ _, fun _ _ => rfl⟩
    refine hg.ext (fun i hi => ?_)
    rw [if_neg]
    simp only [Nat.min_def] at h0
    split at h0 <;> omega
  · have hmn : 0 < n ∧ 0 < m := by simp only [Nat.min_def] at h0; split at h0 <;> omega
    obtain ⟨b, o', rfl, hb, hc⟩ := h 0 hmn.1
    have hpp := hp hmn.2
    subst hpp
    obtain ⟨q, hq⟩ : ∃ q, Nat.min n m = q := ⟨_, rfl⟩
    have hqn : q ≤ n ∧ q ≤ m ∧ (q = n ∨ q = m) := by rw [← hq]; simp only [Nat.min_def]; split <;> omega
    have hnews : ∀ j u, (wcs q f)[j]? = some u → W.cell? ((⟨b, o', none⟩ : Addr).add j) = some u := by
      intro j u hj
      have hjq : j < q := by have := (List.getElem?_eq_some_iff.1 hj).1; rw [wcs_len] at this; exact this
      refine news_of h _ rfl j u ?_
      rw [wcs_get f hjq] at hj
      rw [wcs_get f (by omega)]
      exact hj
    have hr := run_copy_row (P := Tryz.prog) W 25 25 3 24 g off m c ⟨b, o', none⟩ n cap (wcs z F).toArray 24 (wcs q f) Tryz.underlying25 (by kernel_rfl) hg (by rw [wcs_len]; exact hq.symm) hnews (by rw [wcs_len]; simp only [List.size_toArray, wcs_len]; omega) (wcs_one q f)
    refine ⟨_, _, hr, ?_, fun B hB => below_setRow (Below.refl _ _) hB _, fun k hk => setRow_other W g k _ hk⟩
    have hs := setRow_heap W g (wcs z F).toArray (((wcs z F).toArray.toList.take off ++ wcs q f ++ (wcs z F).toArray.toList.drop (off + (wcs q f).length)).toArray) 24 (0, 0) hg
    show Wr _ _ _ _
    unfold Wr
    rw [hs]
    congr 3
    simp only [List.toList_toArray, wcs_len]
    apply List.ext_getElem?
    intro i
    by_cases h1 : i < off
    · rw [List.getElem?_append_left (by simp [wcs_len]; omega), List.getElem?_append_left (by simp [wcs_len]; omega), List.getElem?_take, if_pos h1, wcs_get _ (by omega), wcs_get _ (by omega), if_neg (by omega)]
    · by_cases h2 : i < off + q
      · rw [List.getElem?_append_left (by simp [wcs_len]; omega), List.getElem?_append_right (by simp [wcs_len]; omega)]
        rw [show (List.take off (wcs z F)).length = off by simp [wcs_len]; omega, wcs_get _ (by omega), wcs_get _ (by omega), if_pos (by omega)]
      · by_cases h3 : i < z
        · rw [List.getElem?_append_right (by simp [wcs_len]; omega)]
          rw [show (List.take off (wcs z F) ++ wcs q f).length = off + q by simp [wcs_len]; omega, List.getElem?_drop, show off + q + (i - (off + q)) = i by omega, wcs_get _ h3, wcs_get _ h3, if_neg (by omega)]
        · rw [List.getElem?_eq_none (by simp [wcs_len]; omega), List.getElem?_eq_none (by rw [wcs_len]; omega)]
end Vw
end Go.Proofs.YtecjegjnnahddaaGreat

/-
  View: the package's momentOf, headOf, layObject
-/
namespace Go.Proofs.YtecjegjnnahddaaGreat
open Go.RowKit
set_option linter.unusedVariables false
set_option linter.unusedSimpArgs false
set_option linter.unnecessarySimpa false
set_option maxRecDepth 20000
namespace Vw
open Shape

set_option maxHeartbeats 1000000 in
theorem momentOf_ok {c : Cv} {a : Av} (hr : 0 ≤ c.ro) (w : World) : Calls Tryz.prog 46 #[vl c a] w fun e w' => e = .returned (.int .u64 (mo c)) ∧ Below w.heap.size w w' := by
  obtain ⟨W0, hW0, B0, R0⟩ := vbox w c a
  have HB := hide B0
  have x0 := R0.cell (i := 0) (by decide)
  have x1 := R0.cell (i := 1) (by decide)
  have x2 := R0.cell (i := 2) (by decide)
  simp only [lrow] at x0 x1 x2
  clear B0 R0
  simp only [vl]
  go_enter Tryz.func46, Tryz.ntmps46
  go_wp2_with (go_at_call 79; refine (mom_word 0 c.co c.ro hr _).mono ?_; rintro e w1 ⟨rfl, hq⟩; obtain rfl := hq.symm; clear hq)
  go_ret
  exact ⟨rfl, HB.out⟩
set_option maxHeartbeats 1000000 in
theorem headOf_ok {ao : Option Addr} {l : List Int} {cap : Nat} {w : World} (h : SeesN w ao l) (hl : l.length ≤ 9223372036854775807) : Calls Tryz.prog 47 #[.slice ao l.length cap] w fun e w' => e = .returned (.int .u64 (hdV l)) ∧ w' = w := by
  have H := hide h
  clear h
  cases l with
  | nil =>
    simp only [List.length_nil]
    go_enter Tryz.func47, Tryz.ntmps47
    go_wp2_with (go_at_call 26; refine (tagged_any _ _ _).mono ?_; rintro e w1 ⟨rfl, hq⟩; obtain rfl := hq.symm; clear hq)
    go_ret
    exact ⟨rfl, rfl⟩
  | cons x t =>
    obtain ⟨b, off, rfl, hb, hc⟩ := H.out 0 x rfl
    rw [Nat.add_zero] at hc
    obtain ⟨n, hn⟩ : ∃ n, (x :: t).length = n := ⟨_, rfl⟩
    have hp : 0 < n := by rw [← hn]; simp
    rw [hn] at hl ⊢
    clear hn
    have hp1 : ((n : Int) == 0) = false := by simp; omega
    have hp2 : (0 : Int) < (n : Int) := by omega
    go_enter Tryz.func47, Tryz.ntmps47
    go_wp2_with (go_at_call 26; refine (tagged_any _ _ _).mono ?_; rintro e w1 ⟨rfl, hq⟩; obtain rfl := hq.symm; clear hq)
    go_ret
    exact ⟨rfl, rfl⟩
theorem wp_storeU {Q : Exit → Act → World → Prop} {K : Act → World → Prop} {a : Act} {o : Oper} {w : World} {x y : Operand} {b off : Nat} {v : Int} {u : Value} (ho : o.op = .store 24 x y) (hd : o.dst = none) (hx : a.eval x = .pointer (some ⟨b, off, none⟩)) (hy : a.eval y = .int .u64 v) (hc : w.cell? ⟨b, off, none⟩ = some u) (hf : w.frozen? ⟨b, off, none⟩ = false) (h : K (a.put o.dst undef) (w.setCell ⟨b, off, none⟩ (.int .u64 v))) : o.wp Tryz.prog a w K Q := by
  have hs : (sizeOf 24).run Tryz.prog w = .ok 1 w := by kernel_rfl
  simp only [Oper.wp, execOp, ho, hx, hy]
  simp [go_sem, hc, hf, hs, Oper.upon]
  exact h
/-- The words of an object, laid over others. -/
def obG (off s ns : Nat) (pk lk nx : Int) (sl F : Nat → Int) (i : Nat) : Int :=
  if i = off then pk else if i = off + 1 then lk else if i = off + 2 then nx else if off + 3 ≤ i ∧ i < off + 3 + s ∧ i - (off + 3) < ns then sl (i - (off + 3)) else F i

set_option maxHeartbeats 8000000 in
theorem layObject_ok {w : World} {g z off s cap : Nat} {F : Nat → Int} (hg : Wr w g z F) (hoff : off + (3 + s) ≤ z) (hz : z ≤ 600) (hcp : 3 + s ≤ cap) {us li fi ta : Bool} {ag ge lk nx co : Int} {ai : Option Addr} {ns ci : Nat} {sl : Nat → Int} (hS : Sees w g ai ns sl) (hge : 0 ≤ ge) :
    Calls Tryz.prog 52 #[.slice (some ⟨g, off, none⟩) (3 + s) cap, .agg #[.bool us, .bool li, .bool fi, .bool ta, .int .i64 ag, .int .u64 ge, .int .u64 lk, .int .u64 nx, .slice ai ns ci], .int .i64 co] w fun e w' => (∃ v, e = .returned v) ∧ Hid (Wr w' g z (obG off s ns (packV us li fi ta ag ge co) lk nx sl F)) ∧ (∀ k, k < w.heap.size → ¬ k = g → w'.heap[k]? = w.heap[k]?) ∧ Below g w w' := by
  obtain ⟨W0, hW0, B0, R0⟩ := obox w us li fi ta ag ge lk nx ai ns ci
  have HB := hide B0
  have HG := hide hg
  have HS := hide hS
  have hgl := hg.lt
  have PK := hide (fun w1 => pack_word us li fi ta ag ge lk nx (.slice ai ns ci) co hge w1)
  obtain ⟨p, hsl, hp⟩ := slice_from (b := g) (off := off) (z := 3 + s) (cap := cap) 3 (by omega) hcp
  simp only [show ((3 : Nat) : Int) = 3 from rfl, show 3 + s - 3 = s by omega] at hsl hp
  have HP := hide hp
  have RO := hide R0
  have x0 := R0.cell (i := 0) (by decide)
  have x1 := R0.cell (i := 1) (by decide)
  have x2 := R0.cell (i := 2) (by decide)
  have x3 := R0.cell (i := 3) (by decide)
  have x4 := R0.cell (i := 4) (by decide)
  have x5 := R0.cell (i := 5) (by decide)
  have x6 := R0.cell (i := 6) (by decide)
  have x7 := R0.cell (i := 7) (by decide)
  have x8 := R0.cell (i := 8) (by decide)
  simp only [lrow] at x0 x1 x2 x3 x4 x5 x6 x7 x8
  have i0 : (0 : Int) < ((3 + s : Nat) : Int) := by omega
  have l0 : w.heap.size < W0.heap.size := R0.lt
  clear hp hS B0 R0
  go_enter Tryz.func52, Tryz.ntmps52
  go_upto_region 2 with (go_at_call 84; refine (PK.out _).mono ?_; rintro e w1 ⟨rfl, hb1⟩; have HB1 := hide (HB.out.trans (hb1.mono HB.out.size)); have HB01 := hide hb1; have cg := (HG.out.on HB1.out).cell (i := off) (by omega); have fg := (HG.out.on HB1.out).frozen off; clear hb1)

  obtain ⟨pk, hpk⟩ : ∃ v, packV us li fi ta ag ge co = v := ⟨_, rfl⟩
  rw [hpk]
  have HPK := hide hpk
  obtain ⟨W1, hW1⟩ : ∃ W, w1.setCell ⟨g, off, none⟩ (.int .u64 pk) = W := ⟨_, rfl⟩
  obtain ⟨F1, hF1⟩ : ∃ F1 : Nat → Int, (fun i => if i = off then pk else F i) = F1 := ⟨_, rfl⟩
  have HW1 := hide (show Wr W1 g z F1 by rw [← hW1, ← hF1]; exact (HG.out.on HB1.out).set (by omega) pk)
  have HF1 := hide hF1
  have SM1 := hide (show ∀ k, k < w1.heap.size → ¬ k = g → W1.heap[k]? = w1.heap[k]? by intro k _ hk; rw [← hW1]; exact Below.heap_setCell _ _ _ _ hk)
  have hs1 : w.heap.size < w1.heap.size := by have := HB01.out.size; omega
  have SB1 := hide (show Below g w W1 by have h := HB1.out.mono (show g ≤ w.heap.size by omega); rw [← hW1]; exact h.setCell (Nat.le_refl _) _)
  have hbg : ¬ w.heap.size = g := by omega
  have XR := hide (show W1.rowIs w.heap.size 46 9 _ from ((row_on RO.out HB01.out).of_block (SM1.out _ hs1 hbg)))
  have X6 := hide (XR.out.cell (i := 6) (by decide))
  have X7 := hide (XR.out.cell (i := 7) (by decide))
  have x8' := XR.out.cell (i := 8) (by decide)
  try simp only [hW1]
  clear hW1 hF1 hpk cg fg x0 x1 x2 x3 x4 x5 x6 x7 x8
  have LWI : ∀ (L : Nat → Bool) (w' : World) (i : Nat), ¬ i = 7 → ¬ i = 9 → (Hid (Wr w' g z (fun j => if j = off + 1 ∧ L 7 = true then lk else if j = off + 2 ∧ L 9 = true then nx else F1 j)) ∧ Hid (∀ k, ¬ k = g → w'.heap[k]? = W1.heap[k]?) ∧ Hid (Below g W1 w')) → (Hid (Wr w' g z (fun j => if j = off + 1 ∧ (Lt.up L i) 7 = true then lk else if j = off + 2 ∧ (Lt.up L i) 9 = true then nx else F1 j)) ∧ Hid (∀ k, ¬ k = g → w'.heap[k]? = W1.heap[k]?) ∧ Hid (Below g W1 w')) := fun L w' i h7 h9 h => by
    rw [Lt.up_other L (fun e => h7 e.symm), Lt.up_other L (fun e => h9 e.symm)]
    exact h
  have ST7 : ∀ (L : Nat → Bool) (w' : World), L 7 = false → Wr w' g z (fun j => if j = off + 1 ∧ L 7 = true then lk else if j = off + 2 ∧ L 9 = true then nx else F1 j) → (∀ k, ¬ k = g → w'.heap[k]? = W1.heap[k]?) → Below g W1 w' → (Hid (Wr (w'.setCell ⟨g, off + 1, none⟩ (.int .u64 lk)) g z (fun j => if j = off + 1 ∧ (Lt.up L 7) 7 = true then lk else if j = off + 2 ∧ (Lt.up L 7) 9 = true then nx else F1 j)) ∧ Hid (∀ k, ¬ k = g → (w'.setCell ⟨g, off + 1, none⟩ (.int .u64 lk)).heap[k]? = W1.heap[k]?) ∧ Hid (Below g W1 (w'.setCell ⟨g, off + 1, none⟩ (.int .u64 lk)))) := fun L w' hL h1 h2 h3 => by
    refine ⟨(h1.set (k := off + 1) (by omega) lk).ext (fun i hi => ?_), fun k hk => (Below.heap_setCell _ _ _ _ hk).trans (h2 k hk), h3.setCell (Nat.le_refl _) _⟩
    rw [Lt.up_same, Lt.up_other L (by decide)]
    by_cases e : i = off + 1
    · simp [e]
    · simp [e]
  have ST9 : ∀ (L : Nat → Bool) (w' : World), L 9 = false → Wr w' g z (fun j => if j = off + 1 ∧ L 7 = true then lk else if j = off + 2 ∧ L 9 = true then nx else F1 j) → (∀ k, ¬ k = g → w'.heap[k]? = W1.heap[k]?) → Below g W1 w' → (Hid (Wr (w'.setCell ⟨g, off + 2, none⟩ (.int .u64 nx)) g z (fun j => if j = off + 1 ∧ (Lt.up L 9) 7 = true then lk else if j = off + 2 ∧ (Lt.up L 9) 9 = true then nx else F1 j)) ∧ Hid (∀ k, ¬ k = g → (w'.setCell ⟨g, off + 2, none⟩ (.int .u64 nx)).heap[k]? = W1.heap[k]?) ∧ Hid (Below g W1 (w'.setCell ⟨g, off + 2, none⟩ (.int .u64 nx)))) := fun L w' hL h1 h2 h3 => by
    refine ⟨(h1.set (k := off + 2) (by omega) nx).ext (fun i hi => ?_), fun k hk => (Below.heap_setCell _ _ _ _ hk).trans (h2 k hk), h3.setCell (Nat.le_refl _) _⟩
    rw [Lt.up_same, Lt.up_other L (by decide)]
    by_cases e : i = off + 2
    · have e1 : ¬ i = off + 1 := by omega
      simp [e]
    · simp [e]
  refine LtH.region2 (ks := [(0, 14), (1, 15), (2, 16), (3, 17), (4, 18), (5, 19), (6, 20), (8, 21)]) (vals := fun iv => match iv with | 0 => .slice (some ⟨g, off, none⟩) (3 + s) cap | 1 => .slice (some ⟨g, off, none⟩) (3 + s) cap | 2 => .pointer (some ⟨w.heap.size, 6, none⟩) | 3 => .int .u64 lk | 4 => .pointer (some ⟨w.heap.size, 7, none⟩) | 5 => .int .u64 nx | 6 => .pointer (some ⟨g, off + 1, none⟩) | 8 => .pointer (some ⟨g, off + 2, none⟩) | _ => undef) (xs := []) (WI := (fun L _ w' => Hid (Wr w' g z (fun i => if i = off + 1 ∧ L 7 = true then lk else if i = off + 2 ∧ L 9 = true then nx else F1 i)) ∧ Hid (∀ k, ¬ k = g → w'.heap[k]? = W1.heap[k]?) ∧ Hid (Below g W1 w'))) (by kernel_rfl) ?Agd ?Abk rfl ?Add ?Axx ?Alc ?Ast ?Ado ?Afi
  case Agd =>
    intro iq oq ho
    have hiq : iq < 10 := by have := (Array.getElem?_eq_some_iff.1 ho).1; simpa using this
    match iq, hiq with
    | 0, _ | 1, _ | 2, _ | 3, _ | 4, _ | 5, _ | 6, _ | 7, _ | 8, _ | 9, _ => injection ho with ho; subst ho; rfl
  case Abk =>
    intro iq oq ho
    have hiq : iq < 10 := by have := (Array.getElem?_eq_some_iff.1 ho).1; simpa using this
    match iq, hiq with
    | 0, _ | 1, _ | 2, _ | 3, _ | 4, _ | 5, _ | 6, _ | 7, _ | 8, _ | 9, _ => injection ho with ho; subst ho; simp [Region.binds]
  case Add =>
    intro kq hk
    have hk2 : kq < 27 := by
      simp [Lt.D] at hk
      omega
    exact hk2
  case Axx => intro kq hk; simp at hk
  case Alc => intro L s1 s2 w1 hx h; exact h
  case Ast => exact ⟨(by have h : Wr W1 g z (fun i => if i = off + 1 ∧ false = true then lk else if i = off + 2 ∧ false = true then nx else F1 i) := HW1.out.ext (fun i _ => by simp); exact h), fun _ _ => rfl, ⟨rfl, rfl, rfl, Nat.le_refl _, fun _ _ => rfl⟩⟩
  case Ado =>
    intro iq oq ho
    have hiq : iq < 10 := by have := (Array.getElem?_eq_some_iff.1 ho).1; simpa using this
    match iq, hiq with
    | 0, _ => injection ho with ho; subst ho; exact LtH.Does.read rfl (fun L s w' h => LWI L w' _ (by decide) (by decide) h) (fun L a w' hI hq => Lt.ex_move rfl (hI.fix 0 (Lt.notD rfl) rfl))
    | 1, _ => injection ho with ho; subst ho; exact LtH.Does.read rfl (fun L s w' h => LWI L w' _ (by decide) (by decide) h) (fun L a w' hI hq => Lt.ex_move rfl (hI.fix 0 (Lt.notD rfl) rfl))
    | 2, _ => injection ho with ho; subst ho; exact LtH.Does.read rfl (fun L s w' h => LWI L w' _ (by decide) (by decide) h) (fun L a w' hI hq => Lt.ex_field rfl (hI.fix 4 (Lt.notD rfl) rfl) (by simp [go_sem]))
    | 3, _ => injection ho with ho; subst ho; exact LtH.Does.read rfl (fun L s w' h => LWI L w' _ (by decide) (by decide) h) (fun L a w' hI hq => Lt.ex_load rfl (hI.pure 2 _ _ rfl (hq ⟨2, .data⟩ (by simp) rfl)) (by simp [go_sem]) (by have := hI.world.2.1.out _ hbg; simp only [World.cell?, this]; exact X6.out))
    | 4, _ => injection ho with ho; subst ho; exact LtH.Does.read rfl (fun L s w' h => LWI L w' _ (by decide) (by decide) h) (fun L a w' hI hq => Lt.ex_field rfl (hI.fix 4 (Lt.notD rfl) rfl) (by simp [go_sem]))
    | 5, _ => injection ho with ho; subst ho; exact LtH.Does.read rfl (fun L s w' h => LWI L w' _ (by decide) (by decide) h) (fun L a w' hI hq => Lt.ex_load rfl (hI.pure 4 _ _ rfl (hq ⟨4, .data⟩ (by simp) rfl)) (by simp [go_sem]) (by have := hI.world.2.1.out _ hbg; simp only [World.cell?, this]; exact X7.out))
    | 6, _ => injection ho with ho; subst ho; exact LtH.Does.read rfl (fun L s w' h => LWI L w' _ (by decide) (by decide) h) (fun L a w' hI hq => ex_idxN (k := 1) rfl (hI.pure 0 _ _ rfl (hq ⟨0, .data⟩ (by simp) rfl)) rfl (by omega))
    | 7, _ => injection ho with ho; subst ho; exact LtH.Does.mk rfl (fun L a w' K hI hL hq hk => by obtain ⟨h1, h2, h3⟩ := hI.world; refine wp_storeU rfl rfl (hI.pure 6 _ _ rfl (hq ⟨6, .data⟩ (by simp) rfl)) (hI.pure 3 _ _ rfl (hq ⟨3, .data⟩ (by simp) rfl)) (h1.out.cell (i := off + 1) (by omega)) (h1.out.frozen _) (hk _ _ (fun d e => by cases e) (ST7 L w' hL h1.out h2.out h3.out)))
    | 8, _ => injection ho with ho; subst ho; exact LtH.Does.read rfl (fun L s w' h => LWI L w' _ (by decide) (by decide) h) (fun L a w' hI hq => ex_idxN (k := 2) rfl (hI.pure 1 _ _ rfl (hq ⟨1, .data⟩ (by simp) rfl)) rfl (by omega))
    | 9, _ => injection ho with ho; subst ho; exact LtH.Does.mk rfl (fun L a w' K hI hL hq hk => by obtain ⟨h1, h2, h3⟩ := hI.world; refine wp_storeU rfl rfl (hI.pure 8 _ _ rfl (hq ⟨8, .data⟩ (by simp) rfl)) (hI.pure 5 _ _ rfl (hq ⟨5, .data⟩ (by simp) rfl)) (h1.out.cell (i := off + 2) (by omega)) (h1.out.frozen _) (hk _ _ (fun d e => by cases e) (ST9 L w' hL h1.out h2.out h3.out)))
  case Afi =>
    intro L a' W2 hI hall
    obtain ⟨h1, h2, h3⟩ := hI.world
    rw [hall 7 (by decide), hall 9 (by decide)] at h1
    have HW2 := h1
    have SM2 := h2
    have SB2 := h3
    have hfr := LtH.frame hI [14, 15, 16, 17, 18, 19, 20, 21] rfl rfl (fun x hx => by simp at hx ⊢; omega)
    have e14 : a'.eval (.tmp 14) = _ := hI.pure 0 _ _ rfl (hall 0 (by decide))
    have e15 : a'.eval (.tmp 15) = _ := hI.pure 1 _ _ rfl (hall 1 (by decide))
    have e16 : a'.eval (.tmp 16) = _ := hI.pure 2 _ _ rfl (hall 2 (by decide))
    have e17 : a'.eval (.tmp 17) = _ := hI.pure 3 _ _ rfl (hall 3 (by decide))
    have e18 : a'.eval (.tmp 18) = _ := hI.pure 4 _ _ rfl (hall 4 (by decide))
    have e19 : a'.eval (.tmp 19) = _ := hI.pure 5 _ _ rfl (hall 5 (by decide))
    have e20 : a'.eval (.tmp 20) = _ := hI.pure 6 _ _ rfl (hall 6 (by decide))
    have e21 : a'.eval (.tmp 21) = _ := hI.pure 8 _ _ rfl (hall 8 (by decide))
    rw [hfr]
    simp only [LtH.lay, List.foldl, e14, e15, e16, e17, e18, e19, e20, e21]
    clear hfr hI hall e14 e15 e16 e17 e18 e19 e20 e21 h1 h2 h3 LWI ST7 ST9
    simp only [Act.put, List.setIfInBounds_toArray, List.set_cons_succ, List.set_cons_zero]

    have hb2 : Below g w W2 := SB1.out.trans SB2.out
    have hss := hb2.size
    have W2s : Sees W2.drew W2.drew.heap.size ai ns sl := fun j hj => by
      obtain ⟨b, o', e1, hb, hc⟩ := HS.out j hj
      exact ⟨b, o', e1, Nat.lt_of_lt_of_le (Nat.lt_trans hb hgl) hss, (hb2.cell (p := ⟨b, o' + j, none⟩) hb).trans hc⟩
    have x8 : W2.cell? ⟨w.heap.size, 8, none⟩ = some (.slice ai ns ci) := by
      have h := SM2.out _ hbg
      simp only [World.cell?, h]
      exact x8'
    obtain ⟨v, W4, hcpy, HW4, hB4, hk4⟩ := copy_wr (W := W2.drew) (F := fun i => if i = off + 1 ∧ true = true then lk else if i = off + 2 ∧ true = true then nx else F1 i) (cap := ci) (c := cap - 3) HW2.out W2s (p := p) (off := off + 3) (m := s) (fun h => HP.out (by omega)) (by omega)
    have KB4 := hide (hB4 g (Nat.le_refl _))
    have KK4 := hide hk4
    clear W2s hB4 hk4 x8'
    go_upto_region 3 with (fail)
    go_region

    refine bodyPost_end (results_none (by rfl) _ _ _) rfl ⟨⟨_, rfl⟩, HW4.out.ext (fun i hi => ?_), fun k hk hne => ?_, ?_⟩
    · unfold obG
      have h1 := congrFun HF1.out i
      simp only [true_and, and_true] 
      by_cases e0 : i = off
      · subst e0
        rw [if_neg (by omega), if_neg (by omega), if_neg (by omega), ← h1, if_pos rfl, if_pos rfl]
        exact HPK.out.symm
      · by_cases e1 : i = off + 1
        · subst e1
          rw [if_neg (by omega), if_pos rfl, if_neg (by omega), if_pos rfl]
        · by_cases e2 : i = off + 2
          · subst e2
            rw [if_neg (by omega), if_neg (by omega), if_pos rfl, if_neg (by omega), if_neg (by omega), if_pos rfl]
          · by_cases e3 : off + 3 ≤ i ∧ i < off + 3 + s ∧ i - (off + 3) < ns
            · rw [if_pos e3, if_neg e0, if_neg e1, if_neg e2, if_pos e3]
            · rw [if_neg e3, if_neg e1, if_neg e2, if_neg e0, if_neg e1, if_neg e2, if_neg e3, ← h1, if_neg e0]
    · have h1 := KK4.out k hne
      have h2 := SM2.out k hne
      have h3 := SM1.out k (by omega) hne
      have h4 := HB1.out.block k hk
      exact h1.trans (h2.trans (h3.trans h4))
    · exact hb2.trans (show Below g W2 W4 from ⟨KB4.out.os, KB4.out.tape, KB4.out.output, KB4.out.size, KB4.out.block⟩)
end Vw
end Go.Proofs.YtecjegjnnahddaaGreat
