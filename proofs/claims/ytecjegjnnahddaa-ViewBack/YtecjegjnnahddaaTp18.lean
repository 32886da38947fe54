/-
  Lemmas: VwLd, VsR, VwU, VwV, VwX, VwRv.
-/
import Derived.Test.YtecjegjnnahddaaTp11
import Derived.Test.YtecjegjnnahddaaTp17
import Derived.Test.YtecjegjnnahddaaTp07
import Derived.Test.YtecjegjnnahddaaTp08
import Derived.Test.YtecjegjnnahddaaTp10
/-
  View: the package's momentOf, headOf, layObject
-/
namespace Go.Proofs.Ytecjegjnnahddaa
open Go.RowKit
set_option linter.unusedVariables false
set_option linter.unusedSimpArgs false
set_option linter.unnecessarySimpa false
set_option maxRecDepth 20000
namespace Vw
open Shape

set_option maxHeartbeats 1000000 in
theorem momentOf_ok {c : Cv} {a : Av} (hr : 0 ≤ c.ro) (w : World) : Calls Try.prog 67 #[vl c a] w fun e w' => e = .returned (.int .u64 (mo c)) ∧ Below w.heap.size w w' := by
  obtain ⟨W0, hW0, B0, R0⟩ := vbox w c a
  have HB := hide B0
  have x0 := R0.cell (i := 0) (by decide)
  have x1 := R0.cell (i := 1) (by decide)
  have x2 := R0.cell (i := 2) (by decide)
  simp only [lrow] at x0 x1 x2
  clear B0 R0
  simp only [vl]
  go_enter Try.func67, Try.ntmps67
  go_wp2_with (go_at_call 92; refine (mom_word 0 c.co c.ro hr _).mono ?_; rintro e w1 ⟨rfl, hq⟩; obtain rfl := hq.symm; clear hq)
  go_ret
  exact ⟨rfl, HB.out⟩
set_option maxHeartbeats 1000000 in
theorem headOf_ok {ao : Option Addr} {l : List Int} {cap : Nat} {w : World} (h : SeesN w ao l) (hl : l.length ≤ 9223372036854775807) : Calls Try.prog 68 #[.slice ao l.length cap] w fun e w' => e = .returned (.int .u64 (hdV l)) ∧ w' = w := by
  have H := hide h
  clear h
  cases l with
  | nil =>
    simp only [List.length_nil]
    go_enter Try.func68, Try.ntmps68
    go_wp2_with (go_at_call 42; refine (tagged_any _ _ _).mono ?_; rintro e w1 ⟨rfl, hq⟩; obtain rfl := hq.symm; clear hq)
    go_ret
    exact ⟨rfl, rfl⟩
  | cons x t =>
    obtain ⟨b, off, rfl, hb, hc⟩ := H.out 0 x rfl
    rw [Nat.add_zero] at hc
    obtain ⟨n, hn⟩ : ∃ n, (x :: t).length = n := ⟨_, rfl⟩
    have hp : 0 < n := by rw [← hn]; simp
    rw [hn] at hl ⊢
    clear hn
    have hp1 : ((n : Int) == 0) = false := by simp; omega
    have hp2 : (0 : Int) < (n : Int) := by omega
    go_enter Try.func68, Try.ntmps68
    go_wp2_with (go_at_call 42; refine (tagged_any _ _ _).mono ?_; rintro e w1 ⟨rfl, hq⟩; obtain rfl := hq.symm; clear hq)
    go_ret
    exact ⟨rfl, rfl⟩
theorem wp_storeU {Q : Exit → Act → World → Prop} {K : Act → World → Prop} {a : Act} {o : Oper} {w : World} {x y : Operand} {b off : Nat} {v : Int} {u : Value} (ho : o.op = .store 27 x y) (hd : o.dst = none) (hx : a.eval x = .pointer (some ⟨b, off, none⟩)) (hy : a.eval y = .int .u64 v) (hc : w.cell? ⟨b, off, none⟩ = some u) (hf : w.frozen? ⟨b, off, none⟩ = false) (h : K (a.put o.dst undef) (w.setCell ⟨b, off, none⟩ (.int .u64 v))) : o.wp Try.prog a w K Q := by
  have hs : (sizeOf 27).run Try.prog w = .ok 1 w := by kernel_rfl
  simp only [Oper.wp, execOp, ho, hx, hy]
  simp [go_sem, hc, hf, hs, Oper.upon]
  exact h
/-- The words of an object, laid over others. -/
def obG (off s ns : Nat) (pk lk nx : Int) (sl F : Nat → Int) (i : Nat) : Int :=
  if i = off then pk else if i = off + 1 then lk else if i = off + 2 then nx else if off + 3 ≤ i ∧ i < off + 3 + s ∧ i - (off + 3) < ns then sl (i - (off + 3)) else F i

set_option maxHeartbeats 8000000 in
theorem layObject_ok {w : World} {g z off s cap : Nat} {F : Nat → Int} (hg : Wr w g z F) (hoff : off + (3 + s) ≤ z) (hz : z ≤ 600) (hcp : 3 + s ≤ cap) {us li fi ta : Bool} {ag ge lk nx co : Int} {ai : Option Addr} {ns ci : Nat} {sl : Nat → Int} (hS : Sees w g ai ns sl) (hge : 0 ≤ ge) :
    Calls Try.prog 69 #[.slice (some ⟨g, off, none⟩) (3 + s) cap, .agg #[.bool us, .bool li, .bool fi, .bool ta, .int .i64 ag, .int .u64 ge, .int .u64 lk, .int .u64 nx, .slice ai ns ci], .int .i64 co] w fun e w' => (∃ v, e = .returned v) ∧ Hid (Wr w' g z (obG off s ns (packV us li fi ta ag ge co) lk nx sl F)) ∧ (∀ k, k < w.heap.size → ¬ k = g → w'.heap[k]? = w.heap[k]?) ∧ Below g w w' := by
  obtain ⟨W0, hW0, B0, R0⟩ := obox w us li fi ta ag ge lk nx ai ns ci
  have HB := hide B0
  have HG := hide hg
  have HS := hide hS
  have hgl := hg.lt
  have PK := hide (fun w1 => pack_word us li fi ta ag ge lk nx (.slice ai ns ci) co hge w1)
  obtain ⟨p, hsl, hp⟩ := slice_from (b := g) (off := off) (z := 3 + s) (cap := cap) 3 (by omega) hcp
  simp only [show ((3 : Nat) : Int) = 3 from rfl, show 3 + s - 3 = s by omega] at hsl hp
  have HP := hide hp
  have RO := hide R0
  have x0 := R0.cell (i := 0) (by decide)
  have x1 := R0.cell (i := 1) (by decide)
  have x2 := R0.cell (i := 2) (by decide)
  have x3 := R0.cell (i := 3) (by decide)
  have x4 := R0.cell (i := 4) (by decide)
  have x5 := R0.cell (i := 5) (by decide)
  have x6 := R0.cell (i := 6) (by decide)
  have x7 := R0.cell (i := 7) (by decide)
  have x8 := R0.cell (i := 8) (by decide)
  simp only [lrow] at x0 x1 x2 x3 x4 x5 x6 x7 x8
  have i0 : (0 : Int) < ((3 + s : Nat) : Int) := by omega
  have l0 : w.heap.size < W0.heap.size := R0.lt
  clear hp hS B0 R0
  go_enter Try.func69, Try.ntmps69
  go_upto_region 2 with (go_at_call 93; refine (PK.out _).mono ?_; rintro e w1 ⟨rfl, hb1⟩; have HB1 := hide (HB.out.trans (hb1.mono HB.out.size)); have HB01 := hide hb1; have cg := (HG.out.on HB1.out).cell (i := off) (by omega); have fg := (HG.out.on HB1.out).frozen off; clear hb1)

  obtain ⟨pk, hpk⟩ : ∃ v, packV us li fi ta ag ge co = v := ⟨_, rfl⟩
  rw [hpk]
  have HPK := hide hpk
  obtain ⟨W1, hW1⟩ : ∃ W, w1.setCell ⟨g, off, none⟩ (.int .u64 pk) = W := ⟨_, rfl⟩
  obtain ⟨F1, hF1⟩ : ∃ F1 : Nat → Int, (fun i => if i = off then pk else F i) = F1 := ⟨_, rfl⟩
  have HW1 := hide (show Wr W1 g z F1 by rw [← hW1, ← hF1]; exact (HG.out.on HB1.out).set (by omega) pk)
  have HF1 := hide hF1
  have SM1 := hide (show ∀ k, k < w1.heap.size → ¬ k = g → W1.heap[k]? = w1.heap[k]? by intro k _ hk; rw [← hW1]; exact Below.heap_setCell _ _ _ _ hk)
  have hs1 : w.heap.size < w1.heap.size := by have := HB01.out.size; omega
  have SB1 := hide (show Below g w W1 by have h := HB1.out.mono (show g ≤ w.heap.size by omega); rw [← hW1]; exact h.setCell (Nat.le_refl _) _)
  have hbg : ¬ w.heap.size = g := by omega
  have XR := hide (show W1.rowIs w.heap.size 57 9 _ from ((row_on RO.out HB01.out).of_block (SM1.out _ hs1 hbg)))
  have X6 := hide (XR.out.cell (i := 6) (by decide))
  have X7 := hide (XR.out.cell (i := 7) (by decide))
  have x8' := XR.out.cell (i := 8) (by decide)
  try simp only [hW1]
  clear hW1 hF1 hpk cg fg x0 x1 x2 x3 x4 x5 x6 x7 x8
  have LWI : ∀ (L : Nat → Bool) (w' : World) (i : Nat), ¬ i = 7 → ¬ i = 9 → (Hid (Wr w' g z (fun j => if j = off + 1 ∧ L 7 = true then lk else if j = off + 2 ∧ L 9 = true then nx else F1 j)) ∧ Hid (∀ k, ¬ k = g → w'.heap[k]? = W1.heap[k]?) ∧ Hid (Below g W1 w')) → (Hid (Wr w' g z (fun j => if j = off + 1 ∧ (Lt.up L i) 7 = true then lk else if j = off + 2 ∧ (Lt.up L i) 9 = true then nx else F1 j)) ∧ Hid (∀ k, ¬ k = g → w'.heap[k]? = W1.heap[k]?) ∧ Hid (Below g W1 w')) := fun L w' i h7 h9 h => by
    rw [Lt.up_other L (fun e => h7 e.symm), Lt.up_other L (fun e => h9 e.symm)]
    exact h
  have ST7 : ∀ (L : Nat → Bool) (w' : World), L 7 = false → Wr w' g z (fun j => if j = off + 1 ∧ L 7 = true then lk else if j = off + 2 ∧ L 9 = true then nx else F1 j) → (∀ k, ¬ k = g → w'.heap[k]? = W1.heap[k]?) → Below g W1 w' → (Hid (Wr (w'.setCell ⟨g, off + 1, none⟩ (.int .u64 lk)) g z (fun j => if j = off + 1 ∧ (Lt.up L 7) 7 = true then lk else if j = off + 2 ∧ (Lt.up L 7) 9 = true then nx else F1 j)) ∧ Hid (∀ k, ¬ k = g → (w'.setCell ⟨g, off + 1, none⟩ (.int .u64 lk)).heap[k]? = W1.heap[k]?) ∧ Hid (Below g W1 (w'.setCell ⟨g, off + 1, none⟩ (.int .u64 lk)))) := fun L w' hL h1 h2 h3 => by
    refine ⟨(h1.set (k := off + 1) (by omega) lk).ext (fun i hi => ?_), fun k hk => (Below.heap_setCell _ _ _ _ hk).trans (h2 k hk), h3.setCell (Nat.le_refl _) _⟩
    rw [Lt.up_same, Lt.up_other L (by decide)]
    by_cases e : i = off + 1
    · simp [e]
    · simp [e]
  have ST9 : ∀ (L : Nat → Bool) (w' : World), L 9 = false → Wr w' g z (fun j => if j = off + 1 ∧ L 7 = true then lk else if j = off + 2 ∧ L 9 = true then nx else F1 j) → (∀ k, ¬ k = g → w'.heap[k]? = W1.heap[k]?) → Below g W1 w' → (Hid (Wr (w'.setCell ⟨g, off + 2, none⟩ (.int .u64 nx)) g z (fun j => if j = off + 1 ∧ (Lt.up L 9) 7 = true then lk else if j = off + 2 ∧ (Lt.up L 9) 9 = true then nx else F1 j)) ∧ Hid (∀ k, ¬ k = g → (w'.setCell ⟨g, off + 2, none⟩ (.int .u64 nx)).heap[k]? = W1.heap[k]?) ∧ Hid (Below g W1 (w'.setCell ⟨g, off + 2, none⟩ (.int .u64 nx)))) := fun L w' hL h1 h2 h3 => by
    refine ⟨(h1.set (k := off + 2) (by omega) nx).ext (fun i hi => ?_), fun k hk => (Below.heap_setCell _ _ _ _ hk).trans (h2 k hk), h3.setCell (Nat.le_refl _) _⟩
    rw [Lt.up_same, Lt.up_other L (by decide)]
    by_cases e : i = off + 2
    · have e1 : ¬ i = off + 1 := by omega
      simp [e]
    · simp [e]
  refine LtH.region2 (ks := [(0, 14), (1, 15), (2, 16), (3, 17), (4, 18), (5, 19), (6, 20), (8, 21)]) (vals := fun iv => match iv with | 0 => .slice (some ⟨g, off, none⟩) (3 + s) cap | 1 => .slice (some ⟨g, off, none⟩) (3 + s) cap | 2 => .pointer (some ⟨w.heap.size, 6, none⟩) | 3 => .int .u64 lk | 4 => .pointer (some ⟨w.heap.size, 7, none⟩) | 5 => .int .u64 nx | 6 => .pointer (some ⟨g, off + 1, none⟩) | 8 => .pointer (some ⟨g, off + 2, none⟩) | _ => undef) (xs := []) (WI := (fun L _ w' => Hid (Wr w' g z (fun i => if i = off + 1 ∧ L 7 = true then lk else if i = off + 2 ∧ L 9 = true then nx else F1 i)) ∧ Hid (∀ k, ¬ k = g → w'.heap[k]? = W1.heap[k]?) ∧ Hid (Below g W1 w'))) (by kernel_rfl) ?Agd ?Abk rfl ?Add ?Axx ?Alc ?Ast ?Ado ?Afi
  case Agd =>
    intro iq oq ho
    have hiq : iq < 10 := by have := (Array.getElem?_eq_some_iff.1 ho).1; simpa using this
    match iq, hiq with
    | 0, _ | 1, _ | 2, _ | 3, _ | 4, _ | 5, _ | 6, _ | 7, _ | 8, _ | 9, _ => injection ho with ho; subst ho; rfl
  case Abk =>
    intro iq oq ho
    have hiq : iq < 10 := by have := (Array.getElem?_eq_some_iff.1 ho).1; simpa using this
    match iq, hiq with
    | 0, _ | 1, _ | 2, _ | 3, _ | 4, _ | 5, _ | 6, _ | 7, _ | 8, _ | 9, _ => injection ho with ho; subst ho; simp [Region.binds]
  case Add =>
    intro kq hk
    have hk2 : kq < 27 := by
      simp [Lt.D] at hk
      omega
    exact hk2
  case Axx => intro kq hk; simp at hk
  case Alc => intro L s1 s2 w1 hx h; exact h
  case Ast => exact ⟨(by have h : Wr W1 g z (fun i => if i = off + 1 ∧ false = true then lk else if i = off + 2 ∧ false = true then nx else F1 i) := HW1.out.ext (fun i _ => by simp); exact h), fun _ _ => rfl, ⟨rfl, rfl, rfl, Nat.le_refl _, fun _ _ => rfl⟩⟩
  case Ado =>
    intro iq oq ho
    have hiq : iq < 10 := by have := (Array.getElem?_eq_some_iff.1 ho).1; simpa using this
    match iq, hiq with
    | 0, _ => injection ho with ho; subst ho; exact LtH.Does.read rfl (fun L s w' h => LWI L w' _ (by decide) (by decide) h) (fun L a w' hI hq => Lt.ex_move rfl (hI.fix 0 (Lt.notD rfl) rfl))
    | 1, _ => injection ho with ho; subst ho; exact LtH.Does.read rfl (fun L s w' h => LWI L w' _ (by decide) (by decide) h) (fun L a w' hI hq => Lt.ex_move rfl (hI.fix 0 (Lt.notD rfl) rfl))
    | 2, _ => injection ho with ho; subst ho; exact LtH.Does.read rfl (fun L s w' h => LWI L w' _ (by decide) (by decide) h) (fun L a w' hI hq => Lt.ex_field rfl (hI.fix 4 (Lt.notD rfl) rfl) (by simp [go_sem]))
    | 3, _ => injection ho with ho; subst ho; exact LtH.Does.read rfl (fun L s w' h => LWI L w' _ (by decide) (by decide) h) (fun L a w' hI hq => Lt.ex_load rfl (hI.pure 2 _ _ rfl (hq ⟨2, .data⟩ (by simp) rfl)) (by simp [go_sem]) (by have := hI.world.2.1.out _ hbg; simp only [World.cell?, this]; exact X6.out))
    | 4, _ => injection ho with ho; subst ho; exact LtH.Does.read rfl (fun L s w' h => LWI L w' _ (by decide) (by decide) h) (fun L a w' hI hq => Lt.ex_field rfl (hI.fix 4 (Lt.notD rfl) rfl) (by simp [go_sem]))
    | 5, _ => injection ho with ho; subst ho; exact LtH.Does.read rfl (fun L s w' h => LWI L w' _ (by decide) (by decide) h) (fun L a w' hI hq => Lt.ex_load rfl (hI.pure 4 _ _ rfl (hq ⟨4, .data⟩ (by simp) rfl)) (by simp [go_sem]) (by have := hI.world.2.1.out _ hbg; simp only [World.cell?, this]; exact X7.out))
    | 6, _ => injection ho with ho; subst ho; exact LtH.Does.read rfl (fun L s w' h => LWI L w' _ (by decide) (by decide) h) (fun L a w' hI hq => ex_idxN (k := 1) rfl (hI.pure 0 _ _ rfl (hq ⟨0, .data⟩ (by simp) rfl)) rfl (by omega))
    | 7, _ => injection ho with ho; subst ho; exact LtH.Does.mk rfl (fun L a w' K hI hL hq hk => by obtain ⟨h1, h2, h3⟩ := hI.world; refine wp_storeU rfl rfl (hI.pure 6 _ _ rfl (hq ⟨6, .data⟩ (by simp) rfl)) (hI.pure 3 _ _ rfl (hq ⟨3, .data⟩ (by simp) rfl)) (h1.out.cell (i := off + 1) (by omega)) (h1.out.frozen _) (hk _ _ (fun d e => by cases e) (ST7 L w' hL h1.out h2.out h3.out)))
    | 8, _ => injection ho with ho; subst ho; exact LtH.Does.read rfl (fun L s w' h => LWI L w' _ (by decide) (by decide) h) (fun L a w' hI hq => ex_idxN (k := 2) rfl (hI.pure 1 _ _ rfl (hq ⟨1, .data⟩ (by simp) rfl)) rfl (by omega))
    | 9, _ => injection ho with ho; subst ho; exact LtH.Does.mk rfl (fun L a w' K hI hL hq hk => by obtain ⟨h1, h2, h3⟩ := hI.world; refine wp_storeU rfl rfl (hI.pure 8 _ _ rfl (hq ⟨8, .data⟩ (by simp) rfl)) (hI.pure 5 _ _ rfl (hq ⟨5, .data⟩ (by simp) rfl)) (h1.out.cell (i := off + 2) (by omega)) (h1.out.frozen _) (hk _ _ (fun d e => by cases e) (ST9 L w' hL h1.out h2.out h3.out)))
  case Afi =>
    intro L a' W2 hI hall
    obtain ⟨h1, h2, h3⟩ := hI.world
    rw [hall 7 (by decide), hall 9 (by decide)] at h1
    have HW2 := h1
    have SM2 := h2
    have SB2 := h3
    have hfr := LtH.frame hI [14, 15, 16, 17, 18, 19, 20, 21] rfl rfl (fun x hx => by simp at hx ⊢; omega)
    have e14 : a'.eval (.tmp 14) = _ := hI.pure 0 _ _ rfl (hall 0 (by decide))
    have e15 : a'.eval (.tmp 15) = _ := hI.pure 1 _ _ rfl (hall 1 (by decide))
    have e16 : a'.eval (.tmp 16) = _ := hI.pure 2 _ _ rfl (hall 2 (by decide))
    have e17 : a'.eval (.tmp 17) = _ := hI.pure 3 _ _ rfl (hall 3 (by decide))
    have e18 : a'.eval (.tmp 18) = _ := hI.pure 4 _ _ rfl (hall 4 (by decide))
    have e19 : a'.eval (.tmp 19) = _ := hI.pure 5 _ _ rfl (hall 5 (by decide))
    have e20 : a'.eval (.tmp 20) = _ := hI.pure 6 _ _ rfl (hall 6 (by decide))
    have e21 : a'.eval (.tmp 21) = _ := hI.pure 8 _ _ rfl (hall 8 (by decide))
    rw [hfr]
    simp only [LtH.lay, List.foldl, e14, e15, e16, e17, e18, e19, e20, e21]
    clear hfr hI hall e14 e15 e16 e17 e18 e19 e20 e21 h1 h2 h3 LWI ST7 ST9
    simp only [Act.put, List.setIfInBounds_toArray, List.set_cons_succ, List.set_cons_zero]

    have hb2 : Below g w W2 := SB1.out.trans SB2.out
    have hss := hb2.size
    have W2s : Sees W2.drew W2.drew.heap.size ai ns sl := fun j hj => by
      obtain ⟨b, o', e1, hb, hc⟩ := HS.out j hj
      exact ⟨b, o', e1, Nat.lt_of_lt_of_le (Nat.lt_trans hb hgl) hss, (hb2.cell (p := ⟨b, o' + j, none⟩) hb).trans hc⟩
    have x8 : W2.cell? ⟨w.heap.size, 8, none⟩ = some (.slice ai ns ci) := by
      have h := SM2.out _ hbg
      simp only [World.cell?, h]
      exact x8'
    obtain ⟨v, W4, hcpy, HW4, hB4, hk4⟩ := copy_wr (W := W2.drew) (F := fun i => if i = off + 1 ∧ true = true then lk else if i = off + 2 ∧ true = true then nx else F1 i) (cap := ci) (c := cap - 3) HW2.out W2s (p := p) (off := off + 3) (m := s) (fun h => HP.out (by omega)) (by omega)
    have KB4 := hide (hB4 g (Nat.le_refl _))
    have KK4 := hide hk4
    clear W2s hB4 hk4 x8'
    go_upto_region 3 with (fail)
    go_region

    refine bodyPost_end (results_none (by rfl) _ _ _) rfl ⟨⟨_, rfl⟩, HW4.out.ext (fun i hi => ?_), fun k hk hne => ?_, ?_⟩
    · unfold obG
      have h1 := congrFun HF1.out i
      simp only [true_and, and_true] 
      by_cases e0 : i = off
      · subst e0
        rw [if_neg (by omega), if_neg (by omega), if_neg (by omega), ← h1, if_pos rfl, if_pos rfl]
        exact HPK.out.symm
      · by_cases e1 : i = off + 1
        · subst e1
          rw [if_neg (by omega), if_pos rfl, if_neg (by omega), if_pos rfl]
        · by_cases e2 : i = off + 2
          · subst e2
            rw [if_neg (by omega), if_neg (by omega), if_pos rfl, if_neg (by omega), if_neg (by omega), if_pos rfl]
          · by_cases e3 : off + 3 ≤ i ∧ i < off + 3 + s ∧ i - (off + 3) < ns
            · rw [if_pos e3, if_neg e0, if_neg e1, if_neg e2, if_pos e3]
            · rw [if_neg e3, if_neg e1, if_neg e2, if_neg e0, if_neg e1, if_neg e2, if_neg e3, ← h1, if_neg e0]
    · have h1 := KK4.out k hne
      have h2 := SM2.out k hne
      have h3 := SM1.out k (by omega) hne
      have h4 := HB1.out.block k hk
      exact h1.trans (h2.trans (h3.trans h4))
    · exact hb2.trans (show Below g W2 W4 from ⟨KB4.out.os, KB4.out.tape, KB4.out.output, KB4.out.size, KB4.out.block⟩)
end Vw
end Go.Proofs.Ytecjegjnnahddaa

/-
  Shape: the document's Size, Ack, Root, Weak, Object, Slot.
-/
namespace Go.Proofs.Ytecjegjnnahddaa
open Go.RowKit
set_option linter.unusedVariables false
set_option linter.unusedSimpArgs false
set_option linter.unnecessarySimpa false
set_option maxRecDepth 20000
namespace Shape
theorem place_bad {s0 s1 s2 s3 s4 s5 : Int} (H : ¬ R5 s0 s1 s2 s3 s4) (q : Bool) (v : Int) (w : World) : Calls Try.prog 45 #[.agg #[.int .i64 s0, .int .i64 s1, .int .i64 s2, .int .i64 s3, .int .i64 s4, .int .i64 s5], .bool q, .int .i64 v] w fun e w' => e = .returned (.tuple #[.int .i64 0, .int .i64 120]) ∧ Below w.heap.size w w' := by
  have HH := hide H
  clear H
  obtain ⟨W0, hW0, B0, K⟩ := box w s0 s1 s2 s3 s4 s5
  have HB := hide B0
  obtain ⟨-, l0, x0, x1, x2, x3, x4, x5⟩ := K.out W0 (Below.refl _ _)
  clear B0
  go_enter Try.func45, Try.ntmps45
  go_wp2_with (go_at_call 20; refine (rcheck_bad HH.out _).mono ?_; rintro e w1 ⟨rfl, hb1⟩; have HB1 := hide hb1; clear hb1; obtain ⟨-, m1, y0, y1, y2, y3, y4, y5⟩ := K.out w1 HB1.out)
  go_ret2
  exact ⟨rfl, (K.out _ HB1.out).1⟩
theorem place_arg {s0 s1 s2 s3 s4 s5 : Int} (H : R5 s0 s1 s2 s3 s4) (v : Int) (w : World) : Calls Try.prog 45 #[.agg #[.int .i64 s0, .int .i64 s1, .int .i64 s2, .int .i64 s3, .int .i64 s4, .int .i64 s5], .bool false, .int .i64 v] w fun e w' => e = .returned (.tuple #[.int .i64 0, .int .i64 2]) ∧ Below w.heap.size w w' := by
  have HH := hide H
  clear H
  obtain ⟨W0, hW0, B0, K⟩ := box w s0 s1 s2 s3 s4 s5
  have HB := hide B0
  obtain ⟨-, l0, x0, x1, x2, x3, x4, x5⟩ := K.out W0 (Below.refl _ _)
  clear B0
  go_enter Try.func45, Try.ntmps45
  go_wp2_with (go_at_call 20; refine (rcheck_ok HH.out _).mono ?_; rintro e w1 ⟨rfl, hb1⟩; have HB1 := hide hb1; clear hb1; obtain ⟨-, m1, y0, y1, y2, y3, y4, y5⟩ := K.out w1 HB1.out)
  go_ret2
  exact ⟨rfl, (K.out _ HB1.out).1⟩
theorem place_ok {s0 s1 s2 s3 s4 s5 : Int} (H : R5 s0 s1 s2 s3 s4) (v : Int) (w : World) : Calls Try.prog 45 #[.agg #[.int .i64 s0, .int .i64 s1, .int .i64 s2, .int .i64 s3, .int .i64 s4, .int .i64 s5], .bool true, .int .i64 v] w fun e w' => e = .returned (.tuple #[.int .i64 v, .int .i64 0]) ∧ Below w.heap.size w w' := by
  have HH := hide H
  clear H
  obtain ⟨W0, hW0, B0, K⟩ := box w s0 s1 s2 s3 s4 s5
  have HB := hide B0
  obtain ⟨-, l0, x0, x1, x2, x3, x4, x5⟩ := K.out W0 (Below.refl _ _)
  clear B0
  go_enter Try.func45, Try.ntmps45
  go_wp2_with (go_at_call 20; refine (rcheck_ok HH.out _).mono ?_; rintro e w1 ⟨rfl, hb1⟩; have HB1 := hide hb1; clear hb1; obtain ⟨-, m1, y0, y1, y2, y3, y4, y5⟩ := K.out w1 HB1.out)
  go_ret2
  exact ⟨rfl, (K.out _ HB1.out).1⟩

theorem rsize_bad {s0 s1 s2 s3 s4 s5 : Int} (H : ¬ R5 s0 s1 s2 s3 s4) (w : World) : Calls Try.prog 21 #[.agg #[.int .i64 s0, .int .i64 s1, .int .i64 s2, .int .i64 s3, .int .i64 s4, .int .i64 s5]] w fun e w' => e = .returned (.tuple #[.int .i64 0, .int .i64 120]) ∧ Below w.heap.size w w' := by
  have HH := hide H
  clear H
  obtain ⟨W0, hW0, B0, K⟩ := box w s0 s1 s2 s3 s4 s5
  have HB := hide B0
  obtain ⟨-, l0, x0, x1, x2, x3, x4, x5⟩ := K.out W0 (Below.refl _ _)
  clear B0
  go_enter Try.func21, Try.ntmps21
  go_wp2_with (go_at_call 20; refine (rcheck_bad HH.out _).mono ?_; rintro e w1 ⟨rfl, hb1⟩; have HB1 := hide hb1; clear hb1; obtain ⟨-, m1, y0, y1, y2, y3, y4, y5⟩ := K.out w1 HB1.out)
  go_ret2
  exact ⟨rfl, (K.out _ HB1.out).1⟩
theorem rsize_ok {o s h r k : Nat} {s5 : Int} (H : (⟨o, s, h, r, k⟩ : Sh).Ok) (w : World) : Calls Try.prog 21 #[.agg #[.int .i64 (o : Int), .int .i64 (s : Int), .int .i64 (h : Int), .int .i64 (r : Int), .int .i64 (k : Int), .int .i64 s5]] w fun e w' => e = .returned (.tuple #[.int .i64 ((size ⟨o, s, h, r, k⟩ : Nat) : Int), .int .i64 0]) ∧ Below w.heap.size w w' := by
  have HH := hide (r5 H)
  obtain ⟨b1, b2, b3, b4, b5, b6, b7, b8, b9, b10⟩ := bnds H
  obtain ⟨q, hq⟩ : ∃ q, o * (3 + s) = q := ⟨_, rfl⟩
  obtain ⟨p, hp⟩ : ∃ p, h * r = p := ⟨_, rfl⟩
  have ES := hide (show ((size ⟨o, s, h, r, k⟩ : Nat) : Int) = 8 + (h : Int) + (p : Int) + (k : Int) + (q : Int) from by simp only [size, bO, bK, bR, ow]; rw [hp, hq]; omega)
  rw [hp] at b6
  rw [hq] at b7
  have hp' : (h : Int) * (r : Int) = (p : Int) := by rw [← hp]; simp
  have hq' : (o : Int) * (3 + (s : Int)) = (q : Int) := by rw [← hq]; simp
  clear H hq hp
  obtain ⟨W0, hW0, B0, K⟩ := box w (o : Int) (s : Int) (h : Int) (r : Int) (k : Int) s5
  have HB := hide B0
  obtain ⟨-, l0, x0, x1, x2, x3, x4, x5⟩ := K.out W0 (Below.refl _ _)
  clear B0
  go_enter Try.func21, Try.ntmps21
  go_wp2_with (go_at_call 20; refine (rcheck_ok HH.out _).mono ?_; rintro e w1 ⟨rfl, hb1⟩; have HB1 := hide hb1; clear hb1; obtain ⟨-, m1, y0, y1, y2, y3, y4, y5⟩ := K.out w1 HB1.out)
  go_ret2
  exact ⟨by rw [ES.out]; rfl, (K.out _ HB1.out).1⟩

theorem rack_of {s0 s1 s2 s3 s4 s5 : Int} {a v e : Int} {q : Bool} (T1 : Hid (∀ w1 : World, Calls Try.prog 44 #[.int .i64 a, .int .i64 0, .int .i64 (IntKind.i64.wrap (s2 - 1))] w1 fun e w' => e = .returned (.bool q) ∧ w' = w1)) (PL : Hid (∀ w1 : World, Calls Try.prog 45 #[.agg #[.int .i64 s0, .int .i64 s1, .int .i64 s2, .int .i64 s3, .int .i64 s4, .int .i64 s5], .bool q, .int .i64 (IntKind.i64.wrap (8 + a))] w1 fun e' w' => e' = .returned (.tuple #[.int .i64 v, .int .i64 e]) ∧ Below w1.heap.size w1 w')) (w : World) : Calls Try.prog 23 #[.agg #[.int .i64 s0, .int .i64 s1, .int .i64 s2, .int .i64 s3, .int .i64 s4, .int .i64 s5], .int .i64 a] w fun e' w' => e' = .returned (.tuple #[.int .i64 v, .int .i64 e]) ∧ Below w.heap.size w w' := by
  obtain ⟨W0, hW0, B0, K⟩ := box w s0 s1 s2 s3 s4 s5
  have HB := hide B0
  obtain ⟨-, l0, x0, x1, x2, x3, x4, x5⟩ := K.out W0 (Below.refl _ _)
  clear B0
  go_enter Try.func23, Try.ntmps23
  go_wp2_with fail
  refine Lt.region (ks := [(0, 6), (1, 7), (2, 8), (3, 9), (4, 10), (5, 11), (6, 12), (7, 13), (8, 14), (9, 15), (10, 16), (11, 4), (12, 5)]) (vals := fun iv => match iv with
      | 0 => .agg #[.int .i64 s0, .int .i64 s1, .int .i64 s2, .int .i64 s3, .int .i64 s4, .int .i64 s5]
      | 1 => .int .i64 a
      | 2 => .pointer (some ⟨w.heap.size, 2, none⟩)
      | 3 => .int .i64 s2
      | 4 => .int .i64 (IntKind.i64.wrap (s2 - 1))
      | 5 => .bool q
      | 6 => .int .i64 a
      | 7 => .int .i64 (IntKind.i64.wrap (8 + a))
      | 8 => .tuple #[.int .i64 v, .int .i64 e]
      | 9 => .int .i64 v
      | 10 => .int .i64 e
      | 11 => .int .i64 v
      | 12 => .int .i64 e
      | _ => undef) (WI := fun w' => Below W0.heap.size W0 w') (by kernel_rfl) ?bk rfl ?dd (⟨rfl, rfl, rfl, Nat.le_refl _, fun _ _ => rfl⟩) ?does ?fin
  case bk =>
    intro iq oq ho
    have hiq : iq < 13 := by have := (Array.getElem?_eq_some_iff.1 ho).1; simpa using this
    match iq, hiq with
    | 0, _ | 1, _ | 2, _ | 3, _ | 4, _ | 5, _ | 6, _ | 7, _ | 8, _ | 9, _ | 10, _ | 11, _ | 12, _ => injection ho with ho; subst ho; simp [Region.binds]
  case dd =>
    intro k hk
    have hk' : k < 17 := by
      simp [Lt.D] at hk
      omega
    simpa using hk'
  case does =>
    intro iq oq ho
    have hiq : iq < 13 := by have := (Array.getElem?_eq_some_iff.1 ho).1; simpa using this
    match iq, hiq with
    | 0, _ => injection ho with ho; subst ho; exact Lt.Does.read rfl (fun Lq aq w' hI hq => Lt.wn0 rfl) (fun Lq aq w' hI hq => Lt.ex_load_row rfl (hI.fix 2 (Lt.notD rfl)) (by obtain ⟨-, -, y0, y1, y2, y3, y4, y5⟩ := K.out w' hI.world; exact rng y0 y1 y2 y3 y4 y5) (by kernel_rfl) (by kernel_rfl))
    | 1, _ => injection ho with ho; subst ho; exact Lt.Does.read rfl (fun Lq aq w' hI hq => Lt.wn0 rfl) (fun Lq aq w' hI hq => Lt.ex_move rfl (hI.fix 1 (Lt.notD rfl)))
    | 2, _ => injection ho with ho; subst ho; exact Lt.Does.read rfl (fun Lq aq w' hI hq => Lt.wn0 rfl) (fun Lq aq w' hI hq => Lt.ex_field rfl (hI.fix 2 (Lt.notD rfl)) (by simp [go_sem]))
    | 3, _ => injection ho with ho; subst ho; exact Lt.Does.read rfl (fun Lq aq w' hI hq => Lt.wn0 rfl) (fun Lq aq w' hI hq => Lt.ex_load rfl (hI.pure 2 _ _ rfl (hq ⟨2, .data⟩ (by simp) rfl)) (by simp [go_sem]) (by obtain ⟨-, -, y0, y1, y2, y3, y4, y5⟩ := K.out w' hI.world; exact y2))
    | 4, _ => injection ho with ho; subst ho; exact Lt.Does.read rfl (fun Lq aq w' hI hq => Lt.wn0 rfl) (fun Lq aq w' hI hq => Lt.ex_subI rfl (hI.pure 3 _ _ rfl (hq ⟨3, .data⟩ (by simp) rfl)) rfl rfl)
    | 5, _ => injection ho with ho; subst ho; exact Lt.Does.call rfl (fun Lq aq w' hI hq => Lt.wn0 rfl) (fun Lq aq w' hI hq => Lt.call3 rfl (hI.pure 1 _ _ rfl (hq ⟨1, .data⟩ (by simp) rfl)) rfl (hI.pure 4 _ _ rfl (hq ⟨4, .data⟩ (by simp) rfl)) rfl (by simp [go_sem])) (fun w1 hw1 => (T1.out w1).mono (by rintro e w2 ⟨rfl, hw2⟩; obtain rfl := hw2.symm; exact ⟨rfl, hw1⟩))
    | 6, _ => injection ho with ho; subst ho; exact Lt.Does.read rfl (fun Lq aq w' hI hq => Lt.wn0 rfl) (fun Lq aq w' hI hq => Lt.ex_move rfl (hI.fix 1 (Lt.notD rfl)))
    | 7, _ => injection ho with ho; subst ho; exact Lt.Does.read rfl (fun Lq aq w' hI hq => Lt.wn0 rfl) (fun Lq aq w' hI hq => Lt.ex_addI rfl rfl (hI.pure 6 _ _ rfl (hq ⟨6, .data⟩ (by simp) rfl)) rfl)
    | 8, _ => injection ho with ho; subst ho; exact Lt.Does.call rfl (fun Lq aq w' hI hq => Lt.wn0 rfl) (fun Lq aq w' hI hq => Lt.call3 rfl (hI.pure 0 _ _ rfl (hq ⟨0, .data⟩ (by simp) rfl)) (hI.pure 5 _ _ rfl (hq ⟨5, .data⟩ (by simp) rfl)) (hI.pure 7 _ _ rfl (hq ⟨7, .data⟩ (by simp) rfl)) rfl (by simp [go_sem])) (fun w1 hw1 => (PL.out w1).mono (by rintro e w2 ⟨rfl, hb⟩; exact ⟨rfl, hw1.trans (hb.mono hw1.size)⟩))
    | 9, _ => injection ho with ho; subst ho; exact Lt.Does.read rfl (fun Lq aq w' hI hq => Lt.wn0 rfl) (fun Lq aq w' hI hq => Lt.ex_extract rfl (hI.pure 8 _ _ rfl (hq ⟨8, .data⟩ (by simp) rfl)) rfl)
    | 10, _ => injection ho with ho; subst ho; exact Lt.Does.read rfl (fun Lq aq w' hI hq => Lt.wn0 rfl) (fun Lq aq w' hI hq => Lt.ex_extract rfl (hI.pure 8 _ _ rfl (hq ⟨8, .data⟩ (by simp) rfl)) rfl)
    | 11, _ => injection ho with ho; subst ho; exact Lt.Does.read rfl (fun Lq aq w' hI hq => Lt.wn0 rfl) (fun Lq aq w' hI hq => Lt.ex_assign rfl (hI.pure 9 _ _ rfl (hq ⟨9, .data⟩ (by simp) rfl)))
    | 12, _ => injection ho with ho; subst ho; exact Lt.Does.read rfl (fun Lq aq w' hI hq => Lt.wn0 rfl) (fun Lq aq w' hI hq => Lt.ex_assign rfl (hI.pure 10 _ _ rfl (hq ⟨10, .data⟩ (by simp) rfl)))
  case fin =>
    intro Lq a' w' hI hall
    have hw := hI.world
    obtain rfl : a' = ⟨#[.agg #[.int .i64 s0, .int .i64 s1, .int .i64 s2, .int .i64 s3, .int .i64 s4, .int .i64 s5], .int .i64 a, .pointer (some ⟨w.heap.size, 0, none⟩), undef, .int .i64 v, .int .i64 e, .agg #[.int .i64 s0, .int .i64 s1, .int .i64 s2, .int .i64 s3, .int .i64 s4, .int .i64 s5], .int .i64 a, .pointer (some ⟨w.heap.size, 2, none⟩), .int .i64 s2, .int .i64 (IntKind.i64.wrap (s2 - 1)), .bool q, .int .i64 a, .int .i64 (IntKind.i64.wrap (8 + a)), .tuple #[.int .i64 v, .int .i64 e], .int .i64 v, .int .i64 e], []⟩ := Lt.act_eq a' [.agg #[.int .i64 s0, .int .i64 s1, .int .i64 s2, .int .i64 s3, .int .i64 s4, .int .i64 s5], .int .i64 a, .pointer (some ⟨w.heap.size, 0, none⟩), undef, .int .i64 v, .int .i64 e, .agg #[.int .i64 s0, .int .i64 s1, .int .i64 s2, .int .i64 s3, .int .i64 s4, .int .i64 s5], .int .i64 a, .pointer (some ⟨w.heap.size, 2, none⟩), .int .i64 s2, .int .i64 (IntKind.i64.wrap (s2 - 1)), .bool q, .int .i64 a, .int .i64 (IntKind.i64.wrap (8 + a)), .tuple #[.int .i64 v, .int .i64 e], .int .i64 v, .int .i64 e] hI.df (by rw [hI.sz]; rfl) (fun k hk => by
      have hk' : k < 17 := hk
      match k, hk' with
      | 0, _ => exact hI.fix 0 (Lt.notD rfl)
      | 1, _ => exact hI.fix 1 (Lt.notD rfl)
      | 2, _ => exact hI.fix 2 (Lt.notD rfl)
      | 3, _ => exact hI.fix 3 (Lt.notD rfl)
      | 4, _ => exact hI.pure 11 4 _ rfl (hall 11 (by decide))
      | 5, _ => exact hI.pure 12 5 _ rfl (hall 12 (by decide))
      | 6, _ => exact hI.pure 0 6 _ rfl (hall 0 (by decide))
      | 7, _ => exact hI.pure 1 7 _ rfl (hall 1 (by decide))
      | 8, _ => exact hI.pure 2 8 _ rfl (hall 2 (by decide))
      | 9, _ => exact hI.pure 3 9 _ rfl (hall 3 (by decide))
      | 10, _ => exact hI.pure 4 10 _ rfl (hall 4 (by decide))
      | 11, _ => exact hI.pure 5 11 _ rfl (hall 5 (by decide))
      | 12, _ => exact hI.pure 6 12 _ rfl (hall 6 (by decide))
      | 13, _ => exact hI.pure 7 13 _ rfl (hall 7 (by decide))
      | 14, _ => exact hI.pure 8 14 _ rfl (hall 8 (by decide))
      | 15, _ => exact hI.pure 9 15 _ rfl (hall 9 (by decide))
      | 16, _ => exact hI.pure 10 16 _ rfl (hall 10 (by decide))
      | q + 17, hq => exact absurd hq (by omega))
    rename_i K2 hK2
    refine hK2 _ _ ?_
    go_wp2_with fail
    go_ret2
    exact ⟨rfl, (K.out _ hw).1⟩

theorem rweak_of {s0 s1 s2 s3 s4 s5 : Int} {a v e : Int} {q : Bool} (T1 : Hid (∀ w1 : World, Calls Try.prog 44 #[.int .i64 a, .int .i64 0, .int .i64 (IntKind.i64.wrap (s4 - 1))] w1 fun e w' => e = .returned (.bool q) ∧ w' = w1)) (PL : Hid (∀ w1 : World, Calls Try.prog 45 #[.agg #[.int .i64 s0, .int .i64 s1, .int .i64 s2, .int .i64 s3, .int .i64 s4, .int .i64 s5], .bool q, .int .i64 (IntKind.i64.wrap ((IntKind.i64.wrap ((IntKind.i64.wrap (8 + s2)) + (IntKind.i64.wrap (s2 * s3)))) + a))] w1 fun e' w' => e' = .returned (.tuple #[.int .i64 v, .int .i64 e]) ∧ Below w1.heap.size w1 w')) (w : World) : Calls Try.prog 26 #[.agg #[.int .i64 s0, .int .i64 s1, .int .i64 s2, .int .i64 s3, .int .i64 s4, .int .i64 s5], .int .i64 a] w fun e' w' => e' = .returned (.tuple #[.int .i64 v, .int .i64 e]) ∧ Below w.heap.size w w' := by
  obtain ⟨W0, hW0, B0, K⟩ := box w s0 s1 s2 s3 s4 s5
  have HB := hide B0
  obtain ⟨-, l0, x0, x1, x2, x3, x4, x5⟩ := K.out W0 (Below.refl _ _)
  clear B0
  go_enter Try.func26, Try.ntmps26
  go_wp2_with fail
  refine Lt.region (ks := [(0, 6), (1, 7), (2, 8), (3, 9), (4, 10), (5, 11), (6, 12), (7, 13), (8, 14), (9, 15), (10, 16), (11, 17), (12, 18), (13, 19), (14, 20), (15, 21), (16, 22), (17, 23), (18, 24), (19, 25), (20, 4), (21, 5)]) (vals := fun iv => match iv with
      | 0 => .agg #[.int .i64 s0, .int .i64 s1, .int .i64 s2, .int .i64 s3, .int .i64 s4, .int .i64 s5]
      | 1 => .int .i64 a
      | 2 => .pointer (some ⟨w.heap.size, 4, none⟩)
      | 3 => .int .i64 s4
      | 4 => .int .i64 (IntKind.i64.wrap (s4 - 1))
      | 5 => .bool q
      | 6 => .pointer (some ⟨w.heap.size, 2, none⟩)
      | 7 => .int .i64 s2
      | 8 => .int .i64 (IntKind.i64.wrap (8 + s2))
      | 9 => .pointer (some ⟨w.heap.size, 2, none⟩)
      | 10 => .int .i64 s2
      | 11 => .pointer (some ⟨w.heap.size, 3, none⟩)
      | 12 => .int .i64 s3
      | 13 => .int .i64 (IntKind.i64.wrap (s2 * s3))
      | 14 => .int .i64 (IntKind.i64.wrap ((IntKind.i64.wrap (8 + s2)) + (IntKind.i64.wrap (s2 * s3))))
      | 15 => .int .i64 a
      | 16 => .int .i64 (IntKind.i64.wrap ((IntKind.i64.wrap ((IntKind.i64.wrap (8 + s2)) + (IntKind.i64.wrap (s2 * s3)))) + a))
      | 17 => .tuple #[.int .i64 v, .int .i64 e]
      | 18 => .int .i64 v
      | 19 => .int .i64 e
      | 20 => .int .i64 v
      | 21 => .int .i64 e
      | _ => undef) (WI := fun w' => Below W0.heap.size W0 w') (by kernel_rfl) ?bk rfl ?dd (⟨rfl, rfl, rfl, Nat.le_refl _, fun _ _ => rfl⟩) ?does ?fin
  case bk =>
    intro iq oq ho
    have hiq : iq < 22 := by have := (Array.getElem?_eq_some_iff.1 ho).1; simpa using this
    match iq, hiq with
    | 0, _ | 1, _ | 2, _ | 3, _ | 4, _ | 5, _ | 6, _ | 7, _ | 8, _ | 9, _ | 10, _ | 11, _ | 12, _ | 13, _ | 14, _ | 15, _ | 16, _ | 17, _ | 18, _ | 19, _ | 20, _ | 21, _ => injection ho with ho; subst ho; simp [Region.binds]
  case dd =>
    intro k hk
    have hk' : k < 26 := by
      simp [Lt.D] at hk
      omega
    simpa using hk'
  case does =>
    intro iq oq ho
    have hiq : iq < 22 := by have := (Array.getElem?_eq_some_iff.1 ho).1; simpa using this
    match iq, hiq with
    | 0, _ => injection ho with ho; subst ho; exact Lt.Does.read rfl (fun Lq aq w' hI hq => Lt.wn0 rfl) (fun Lq aq w' hI hq => Lt.ex_load_row rfl (hI.fix 2 (Lt.notD rfl)) (by obtain ⟨-, -, y0, y1, y2, y3, y4, y5⟩ := K.out w' hI.world; exact rng y0 y1 y2 y3 y4 y5) (by kernel_rfl) (by kernel_rfl))
    | 1, _ => injection ho with ho; subst ho; exact Lt.Does.read rfl (fun Lq aq w' hI hq => Lt.wn0 rfl) (fun Lq aq w' hI hq => Lt.ex_move rfl (hI.fix 1 (Lt.notD rfl)))
    | 2, _ => injection ho with ho; subst ho; exact Lt.Does.read rfl (fun Lq aq w' hI hq => Lt.wn0 rfl) (fun Lq aq w' hI hq => Lt.ex_field rfl (hI.fix 2 (Lt.notD rfl)) (by simp [go_sem]))
    | 3, _ => injection ho with ho; subst ho; exact Lt.Does.read rfl (fun Lq aq w' hI hq => Lt.wn0 rfl) (fun Lq aq w' hI hq => Lt.ex_load rfl (hI.pure 2 _ _ rfl (hq ⟨2, .data⟩ (by simp) rfl)) (by simp [go_sem]) (by obtain ⟨-, -, y0, y1, y2, y3, y4, y5⟩ := K.out w' hI.world; exact y4))
    | 4, _ => injection ho with ho; subst ho; exact Lt.Does.read rfl (fun Lq aq w' hI hq => Lt.wn0 rfl) (fun Lq aq w' hI hq => Lt.ex_subI rfl (hI.pure 3 _ _ rfl (hq ⟨3, .data⟩ (by simp) rfl)) rfl rfl)
    | 5, _ => injection ho with ho; subst ho; exact Lt.Does.call rfl (fun Lq aq w' hI hq => Lt.wn0 rfl) (fun Lq aq w' hI hq => Lt.call3 rfl (hI.pure 1 _ _ rfl (hq ⟨1, .data⟩ (by simp) rfl)) rfl (hI.pure 4 _ _ rfl (hq ⟨4, .data⟩ (by simp) rfl)) rfl (by simp [go_sem])) (fun w1 hw1 => (T1.out w1).mono (by rintro e w2 ⟨rfl, hw2⟩; obtain rfl := hw2.symm; exact ⟨rfl, hw1⟩))
    | 6, _ => injection ho with ho; subst ho; exact Lt.Does.read rfl (fun Lq aq w' hI hq => Lt.wn0 rfl) (fun Lq aq w' hI hq => Lt.ex_field rfl (hI.fix 2 (Lt.notD rfl)) (by simp [go_sem]))
    | 7, _ => injection ho with ho; subst ho; exact Lt.Does.read rfl (fun Lq aq w' hI hq => Lt.wn0 rfl) (fun Lq aq w' hI hq => Lt.ex_load rfl (hI.pure 6 _ _ rfl (hq ⟨6, .data⟩ (by simp) rfl)) (by simp [go_sem]) (by obtain ⟨-, -, y0, y1, y2, y3, y4, y5⟩ := K.out w' hI.world; exact y2))
    | 8, _ => injection ho with ho; subst ho; exact Lt.Does.read rfl (fun Lq aq w' hI hq => Lt.wn0 rfl) (fun Lq aq w' hI hq => Lt.ex_addI rfl rfl (hI.pure 7 _ _ rfl (hq ⟨7, .data⟩ (by simp) rfl)) rfl)
    | 9, _ => injection ho with ho; subst ho; exact Lt.Does.read rfl (fun Lq aq w' hI hq => Lt.wn0 rfl) (fun Lq aq w' hI hq => Lt.ex_field rfl (hI.fix 2 (Lt.notD rfl)) (by simp [go_sem]))
    | 10, _ => injection ho with ho; subst ho; exact Lt.Does.read rfl (fun Lq aq w' hI hq => Lt.wn0 rfl) (fun Lq aq w' hI hq => Lt.ex_load rfl (hI.pure 9 _ _ rfl (hq ⟨9, .data⟩ (by simp) rfl)) (by simp [go_sem]) (by obtain ⟨-, -, y0, y1, y2, y3, y4, y5⟩ := K.out w' hI.world; exact y2))
    | 11, _ => injection ho with ho; subst ho; exact Lt.Does.read rfl (fun Lq aq w' hI hq => Lt.wn0 rfl) (fun Lq aq w' hI hq => Lt.ex_field rfl (hI.fix 2 (Lt.notD rfl)) (by simp [go_sem]))
    | 12, _ => injection ho with ho; subst ho; exact Lt.Does.read rfl (fun Lq aq w' hI hq => Lt.wn0 rfl) (fun Lq aq w' hI hq => Lt.ex_load rfl (hI.pure 11 _ _ rfl (hq ⟨11, .data⟩ (by simp) rfl)) (by simp [go_sem]) (by obtain ⟨-, -, y0, y1, y2, y3, y4, y5⟩ := K.out w' hI.world; exact y3))
    | 13, _ => injection ho with ho; subst ho; exact Lt.Does.read rfl (fun Lq aq w' hI hq => Lt.wn0 rfl) (fun Lq aq w' hI hq => Lt.ex_mulI rfl (hI.pure 10 _ _ rfl (hq ⟨10, .data⟩ (by simp) rfl)) (hI.pure 12 _ _ rfl (hq ⟨12, .data⟩ (by simp) rfl)) rfl)
    | 14, _ => injection ho with ho; subst ho; exact Lt.Does.read rfl (fun Lq aq w' hI hq => Lt.wn0 rfl) (fun Lq aq w' hI hq => Lt.ex_addI rfl (hI.pure 8 _ _ rfl (hq ⟨8, .data⟩ (by simp) rfl)) (hI.pure 13 _ _ rfl (hq ⟨13, .data⟩ (by simp) rfl)) rfl)
    | 15, _ => injection ho with ho; subst ho; exact Lt.Does.read rfl (fun Lq aq w' hI hq => Lt.wn0 rfl) (fun Lq aq w' hI hq => Lt.ex_move rfl (hI.fix 1 (Lt.notD rfl)))
    | 16, _ => injection ho with ho; subst ho; exact Lt.Does.read rfl (fun Lq aq w' hI hq => Lt.wn0 rfl) (fun Lq aq w' hI hq => Lt.ex_addI rfl (hI.pure 14 _ _ rfl (hq ⟨14, .data⟩ (by simp) rfl)) (hI.pure 15 _ _ rfl (hq ⟨15, .data⟩ (by simp) rfl)) rfl)
    | 17, _ => injection ho with ho; subst ho; exact Lt.Does.call rfl (fun Lq aq w' hI hq => Lt.wn0 rfl) (fun Lq aq w' hI hq => Lt.call3 rfl (hI.pure 0 _ _ rfl (hq ⟨0, .data⟩ (by simp) rfl)) (hI.pure 5 _ _ rfl (hq ⟨5, .data⟩ (by simp) rfl)) (hI.pure 16 _ _ rfl (hq ⟨16, .data⟩ (by simp) rfl)) rfl (by simp [go_sem])) (fun w1 hw1 => (PL.out w1).mono (by rintro e w2 ⟨rfl, hb⟩; exact ⟨rfl, hw1.trans (hb.mono hw1.size)⟩))
    | 18, _ => injection ho with ho; subst ho; exact Lt.Does.read rfl (fun Lq aq w' hI hq => Lt.wn0 rfl) (fun Lq aq w' hI hq => Lt.ex_extract rfl (hI.pure 17 _ _ rfl (hq ⟨17, .data⟩ (by simp) rfl)) rfl)
    | 19, _ => injection ho with ho; subst ho; exact Lt.Does.read rfl (fun Lq aq w' hI hq => Lt.wn0 rfl) (fun Lq aq w' hI hq => Lt.ex_extract rfl (hI.pure 17 _ _ rfl (hq ⟨17, .data⟩ (by simp) rfl)) rfl)
    | 20, _ => injection ho with ho; subst ho; exact Lt.Does.read rfl (fun Lq aq w' hI hq => Lt.wn0 rfl) (fun Lq aq w' hI hq => Lt.ex_assign rfl (hI.pure 18 _ _ rfl (hq ⟨18, .data⟩ (by simp) rfl)))
    | 21, _ => injection ho with ho; subst ho; exact Lt.Does.read rfl (fun Lq aq w' hI hq => Lt.wn0 rfl) (fun Lq aq w' hI hq => Lt.ex_assign rfl (hI.pure 19 _ _ rfl (hq ⟨19, .data⟩ (by simp) rfl)))
  case fin =>
    intro Lq a' w' hI hall
    have hw := hI.world
    obtain rfl : a' = ⟨#[.agg #[.int .i64 s0, .int .i64 s1, .int .i64 s2, .int .i64 s3, .int .i64 s4, .int .i64 s5], .int .i64 a, .pointer (some ⟨w.heap.size, 0, none⟩), undef, .int .i64 v, .int .i64 e, .agg #[.int .i64 s0, .int .i64 s1, .int .i64 s2, .int .i64 s3, .int .i64 s4, .int .i64 s5], .int .i64 a, .pointer (some ⟨w.heap.size, 4, none⟩), .int .i64 s4, .int .i64 (IntKind.i64.wrap (s4 - 1)), .bool q, .pointer (some ⟨w.heap.size, 2, none⟩), .int .i64 s2, .int .i64 (IntKind.i64.wrap (8 + s2)), .pointer (some ⟨w.heap.size, 2, none⟩), .int .i64 s2, .pointer (some ⟨w.heap.size, 3, none⟩), .int .i64 s3, .int .i64 (IntKind.i64.wrap (s2 * s3)), .int .i64 (IntKind.i64.wrap ((IntKind.i64.wrap (8 + s2)) + (IntKind.i64.wrap (s2 * s3)))), .int .i64 a, .int .i64 (IntKind.i64.wrap ((IntKind.i64.wrap ((IntKind.i64.wrap (8 + s2)) + (IntKind.i64.wrap (s2 * s3)))) + a)), .tuple #[.int .i64 v, .int .i64 e], .int .i64 v, .int .i64 e], []⟩ := Lt.act_eq a' [.agg #[.int .i64 s0, .int .i64 s1, .int .i64 s2, .int .i64 s3, .int .i64 s4, .int .i64 s5], .int .i64 a, .pointer (some ⟨w.heap.size, 0, none⟩), undef, .int .i64 v, .int .i64 e, .agg #[.int .i64 s0, .int .i64 s1, .int .i64 s2, .int .i64 s3, .int .i64 s4, .int .i64 s5], .int .i64 a, .pointer (some ⟨w.heap.size, 4, none⟩), .int .i64 s4, .int .i64 (IntKind.i64.wrap (s4 - 1)), .bool q, .pointer (some ⟨w.heap.size, 2, none⟩), .int .i64 s2, .int .i64 (IntKind.i64.wrap (8 + s2)), .pointer (some ⟨w.heap.size, 2, none⟩), .int .i64 s2, .pointer (some ⟨w.heap.size, 3, none⟩), .int .i64 s3, .int .i64 (IntKind.i64.wrap (s2 * s3)), .int .i64 (IntKind.i64.wrap ((IntKind.i64.wrap (8 + s2)) + (IntKind.i64.wrap (s2 * s3)))), .int .i64 a, .int .i64 (IntKind.i64.wrap ((IntKind.i64.wrap ((IntKind.i64.wrap (8 + s2)) + (IntKind.i64.wrap (s2 * s3)))) + a)), .tuple #[.int .i64 v, .int .i64 e], .int .i64 v, .int .i64 e] hI.df (by rw [hI.sz]; rfl) (fun k hk => by
      have hk' : k < 26 := hk
      match k, hk' with
      | 0, _ => exact hI.fix 0 (Lt.notD rfl)
      | 1, _ => exact hI.fix 1 (Lt.notD rfl)
      | 2, _ => exact hI.fix 2 (Lt.notD rfl)
      | 3, _ => exact hI.fix 3 (Lt.notD rfl)
      | 4, _ => exact hI.pure 20 4 _ rfl (hall 20 (by decide))
      | 5, _ => exact hI.pure 21 5 _ rfl (hall 21 (by decide))
      | 6, _ => exact hI.pure 0 6 _ rfl (hall 0 (by decide))
      | 7, _ => exact hI.pure 1 7 _ rfl (hall 1 (by decide))
      | 8, _ => exact hI.pure 2 8 _ rfl (hall 2 (by decide))
      | 9, _ => exact hI.pure 3 9 _ rfl (hall 3 (by decide))
      | 10, _ => exact hI.pure 4 10 _ rfl (hall 4 (by decide))
      | 11, _ => exact hI.pure 5 11 _ rfl (hall 5 (by decide))
      | 12, _ => exact hI.pure 6 12 _ rfl (hall 6 (by decide))
      | 13, _ => exact hI.pure 7 13 _ rfl (hall 7 (by decide))
      | 14, _ => exact hI.pure 8 14 _ rfl (hall 8 (by decide))
      | 15, _ => exact hI.pure 9 15 _ rfl (hall 9 (by decide))
      | 16, _ => exact hI.pure 10 16 _ rfl (hall 10 (by decide))
      | 17, _ => exact hI.pure 11 17 _ rfl (hall 11 (by decide))
      | 18, _ => exact hI.pure 12 18 _ rfl (hall 12 (by decide))
      | 19, _ => exact hI.pure 13 19 _ rfl (hall 13 (by decide))
      | 20, _ => exact hI.pure 14 20 _ rfl (hall 14 (by decide))
      | 21, _ => exact hI.pure 15 21 _ rfl (hall 15 (by decide))
      | 22, _ => exact hI.pure 16 22 _ rfl (hall 16 (by decide))
      | 23, _ => exact hI.pure 17 23 _ rfl (hall 17 (by decide))
      | 24, _ => exact hI.pure 18 24 _ rfl (hall 18 (by decide))
      | 25, _ => exact hI.pure 19 25 _ rfl (hall 19 (by decide))
      | q + 26, hq => exact absurd hq (by omega))
    rename_i K2 hK2
    refine hK2 _ _ ?_
    go_wp2_with fail
    go_ret2
    exact ⟨rfl, (K.out _ hw).1⟩

theorem robject_of {s0 s1 s2 s3 s4 s5 : Int} {a v e : Int} {q : Bool} (T1 : Hid (∀ w1 : World, Calls Try.prog 44 #[.int .i64 a, .int .i64 1, .int .i64 s0] w1 fun e w' => e = .returned (.bool q) ∧ w' = w1)) (PL : Hid (∀ w1 : World, Calls Try.prog 45 #[.agg #[.int .i64 s0, .int .i64 s1, .int .i64 s2, .int .i64 s3, .int .i64 s4, .int .i64 s5], .bool q, .int .i64 (IntKind.i64.wrap ((IntKind.i64.wrap ((IntKind.i64.wrap ((IntKind.i64.wrap (8 + s2)) + (IntKind.i64.wrap (s2 * s3)))) + s4)) + (IntKind.i64.wrap ((IntKind.i64.wrap (a - 1)) * (IntKind.i64.wrap (3 + s1))))))] w1 fun e' w' => e' = .returned (.tuple #[.int .i64 v, .int .i64 e]) ∧ Below w1.heap.size w1 w')) (w : World) : Calls Try.prog 27 #[.agg #[.int .i64 s0, .int .i64 s1, .int .i64 s2, .int .i64 s3, .int .i64 s4, .int .i64 s5], .int .i64 a] w fun e' w' => e' = .returned (.tuple #[.int .i64 v, .int .i64 e]) ∧ Below w.heap.size w w' := by
  obtain ⟨W0, hW0, B0, K⟩ := box w s0 s1 s2 s3 s4 s5
  have HB := hide B0
  obtain ⟨-, l0, x0, x1, x2, x3, x4, x5⟩ := K.out W0 (Below.refl _ _)
  clear B0
  go_enter Try.func27, Try.ntmps27
  go_wp2_with fail
  refine Lt.region (ks := [(0, 6), (1, 7), (2, 8), (3, 9), (4, 10), (5, 11), (6, 12), (7, 13), (8, 14), (9, 15), (10, 16), (11, 17), (12, 18), (13, 19), (14, 20), (15, 21), (16, 22), (17, 23), (18, 24), (19, 25), (20, 26), (21, 27), (22, 28), (23, 29), (24, 30), (25, 31), (26, 32), (27, 4), (28, 5)]) (vals := fun iv => match iv with
      | 0 => .agg #[.int .i64 s0, .int .i64 s1, .int .i64 s2, .int .i64 s3, .int .i64 s4, .int .i64 s5]
      | 1 => .int .i64 a
      | 2 => .pointer (some ⟨w.heap.size, 0, none⟩)
      | 3 => .int .i64 s0
      | 4 => .bool q
      | 5 => .pointer (some ⟨w.heap.size, 2, none⟩)
      | 6 => .int .i64 s2
      | 7 => .int .i64 (IntKind.i64.wrap (8 + s2))
      | 8 => .pointer (some ⟨w.heap.size, 2, none⟩)
      | 9 => .int .i64 s2
      | 10 => .pointer (some ⟨w.heap.size, 3, none⟩)
      | 11 => .int .i64 s3
      | 12 => .int .i64 (IntKind.i64.wrap (s2 * s3))
      | 13 => .int .i64 (IntKind.i64.wrap ((IntKind.i64.wrap (8 + s2)) + (IntKind.i64.wrap (s2 * s3))))
      | 14 => .pointer (some ⟨w.heap.size, 4, none⟩)
      | 15 => .int .i64 s4
      | 16 => .int .i64 (IntKind.i64.wrap ((IntKind.i64.wrap ((IntKind.i64.wrap (8 + s2)) + (IntKind.i64.wrap (s2 * s3)))) + s4))
      | 17 => .int .i64 a
      | 18 => .int .i64 (IntKind.i64.wrap (a - 1))
      | 19 => .pointer (some ⟨w.heap.size, 1, none⟩)
      | 20 => .int .i64 s1
      | 21 => .int .i64 (IntKind.i64.wrap (3 + s1))
      | 22 => .int .i64 (IntKind.i64.wrap ((IntKind.i64.wrap (a - 1)) * (IntKind.i64.wrap (3 + s1))))
      | 23 => .int .i64 (IntKind.i64.wrap ((IntKind.i64.wrap ((IntKind.i64.wrap ((IntKind.i64.wrap (8 + s2)) + (IntKind.i64.wrap (s2 * s3)))) + s4)) + (IntKind.i64.wrap ((IntKind.i64.wrap (a - 1)) * (IntKind.i64.wrap (3 + s1))))))
      | 24 => .tuple #[.int .i64 v, .int .i64 e]
      | 25 => .int .i64 v
      | 26 => .int .i64 e
      | 27 => .int .i64 v
      | 28 => .int .i64 e
      | _ => undef) (WI := fun w' => Below W0.heap.size W0 w') (by kernel_rfl) ?bk rfl ?dd (⟨rfl, rfl, rfl, Nat.le_refl _, fun _ _ => rfl⟩) ?does ?fin
  case bk =>
    intro iq oq ho
    have hiq : iq < 29 := by have := (Array.getElem?_eq_some_iff.1 ho).1; simpa using this
    match iq, hiq with
    | 0, _ | 1, _ | 2, _ | 3, _ | 4, _ | 5, _ | 6, _ | 7, _ | 8, _ | 9, _ | 10, _ | 11, _ | 12, _ | 13, _ | 14, _ | 15, _ | 16, _ | 17, _ | 18, _ | 19, _ | 20, _ | 21, _ | 22, _ | 23, _ | 24, _ | 25, _ | 26, _ | 27, _ | 28, _ => injection ho with ho; subst ho; simp [Region.binds]
  case dd =>
    intro k hk
    have hk' : k < 33 := by
      simp [Lt.D] at hk
      omega
    simpa using hk'
  case does =>
    intro iq oq ho
    have hiq : iq < 29 := by have := (Array.getElem?_eq_some_iff.1 ho).1; simpa using this
    match iq, hiq with
    | 0, _ => injection ho with ho; subst ho; exact Lt.Does.read rfl (fun Lq aq w' hI hq => Lt.wn0 rfl) (fun Lq aq w' hI hq => Lt.ex_load_row rfl (hI.fix 2 (Lt.notD rfl)) (by obtain ⟨-, -, y0, y1, y2, y3, y4, y5⟩ := K.out w' hI.world; exact rng y0 y1 y2 y3 y4 y5) (by kernel_rfl) (by kernel_rfl))
    | 1, _ => injection ho with ho; subst ho; exact Lt.Does.read rfl (fun Lq aq w' hI hq => Lt.wn0 rfl) (fun Lq aq w' hI hq => Lt.ex_move rfl (hI.fix 1 (Lt.notD rfl)))
    | 2, _ => injection ho with ho; subst ho; exact Lt.Does.read rfl (fun Lq aq w' hI hq => Lt.wn0 rfl) (fun Lq aq w' hI hq => Lt.ex_field rfl (hI.fix 2 (Lt.notD rfl)) (by simp [go_sem]))
    | 3, _ => injection ho with ho; subst ho; exact Lt.Does.read rfl (fun Lq aq w' hI hq => Lt.wn0 rfl) (fun Lq aq w' hI hq => Lt.ex_load rfl (hI.pure 2 _ _ rfl (hq ⟨2, .data⟩ (by simp) rfl)) (by simp [go_sem]) (by obtain ⟨-, -, y0, y1, y2, y3, y4, y5⟩ := K.out w' hI.world; exact y0))
    | 4, _ => injection ho with ho; subst ho; exact Lt.Does.call rfl (fun Lq aq w' hI hq => Lt.wn0 rfl) (fun Lq aq w' hI hq => Lt.call3 rfl (hI.pure 1 _ _ rfl (hq ⟨1, .data⟩ (by simp) rfl)) rfl (hI.pure 3 _ _ rfl (hq ⟨3, .data⟩ (by simp) rfl)) rfl (by simp [go_sem])) (fun w1 hw1 => (T1.out w1).mono (by rintro e w2 ⟨rfl, hw2⟩; obtain rfl := hw2.symm; exact ⟨rfl, hw1⟩))
    | 5, _ => injection ho with ho; subst ho; exact Lt.Does.read rfl (fun Lq aq w' hI hq => Lt.wn0 rfl) (fun Lq aq w' hI hq => Lt.ex_field rfl (hI.fix 2 (Lt.notD rfl)) (by simp [go_sem]))
    | 6, _ => injection ho with ho; subst ho; exact Lt.Does.read rfl (fun Lq aq w' hI hq => Lt.wn0 rfl) (fun Lq aq w' hI hq => Lt.ex_load rfl (hI.pure 5 _ _ rfl (hq ⟨5, .data⟩ (by simp) rfl)) (by simp [go_sem]) (by obtain ⟨-, -, y0, y1, y2, y3, y4, y5⟩ := K.out w' hI.world; exact y2))
    | 7, _ => injection ho with ho; subst ho; exact Lt.Does.read rfl (fun Lq aq w' hI hq => Lt.wn0 rfl) (fun Lq aq w' hI hq => Lt.ex_addI rfl rfl (hI.pure 6 _ _ rfl (hq ⟨6, .data⟩ (by simp) rfl)) rfl)
    | 8, _ => injection ho with ho; subst ho; exact Lt.Does.read rfl (fun Lq aq w' hI hq => Lt.wn0 rfl) (fun Lq aq w' hI hq => Lt.ex_field rfl (hI.fix 2 (Lt.notD rfl)) (by simp [go_sem]))
    | 9, _ => injection ho with ho; subst ho; exact Lt.Does.read rfl (fun Lq aq w' hI hq => Lt.wn0 rfl) (fun Lq aq w' hI hq => Lt.ex_load rfl (hI.pure 8 _ _ rfl (hq ⟨8, .data⟩ (by simp) rfl)) (by simp [go_sem]) (by obtain ⟨-, -, y0, y1, y2, y3, y4, y5⟩ := K.out w' hI.world; exact y2))
    | 10, _ => injection ho with ho; subst ho; exact Lt.Does.read rfl (fun Lq aq w' hI hq => Lt.wn0 rfl) (fun Lq aq w' hI hq => Lt.ex_field rfl (hI.fix 2 (Lt.notD rfl)) (by simp [go_sem]))
    | 11, _ => injection ho with ho; subst ho; exact Lt.Does.read rfl (fun Lq aq w' hI hq => Lt.wn0 rfl) (fun Lq aq w' hI hq => Lt.ex_load rfl (hI.pure 10 _ _ rfl (hq ⟨10, .data⟩ (by simp) rfl)) (by simp [go_sem]) (by obtain ⟨-, -, y0, y1, y2, y3, y4, y5⟩ := K.out w' hI.world; exact y3))
    | 12, _ => injection ho with ho; subst ho; exact Lt.Does.read rfl (fun Lq aq w' hI hq => Lt.wn0 rfl) (fun Lq aq w' hI hq => Lt.ex_mulI rfl (hI.pure 9 _ _ rfl (hq ⟨9, .data⟩ (by simp) rfl)) (hI.pure 11 _ _ rfl (hq ⟨11, .data⟩ (by simp) rfl)) rfl)
    | 13, _ => injection ho with ho; subst ho; exact Lt.Does.read rfl (fun Lq aq w' hI hq => Lt.wn0 rfl) (fun Lq aq w' hI hq => Lt.ex_addI rfl (hI.pure 7 _ _ rfl (hq ⟨7, .data⟩ (by simp) rfl)) (hI.pure 12 _ _ rfl (hq ⟨12, .data⟩ (by simp) rfl)) rfl)
    | 14, _ => injection ho with ho; subst ho; exact Lt.Does.read rfl (fun Lq aq w' hI hq => Lt.wn0 rfl) (fun Lq aq w' hI hq => Lt.ex_field rfl (hI.fix 2 (Lt.notD rfl)) (by simp [go_sem]))
    | 15, _ => injection ho with ho; subst ho; exact Lt.Does.read rfl (fun Lq aq w' hI hq => Lt.wn0 rfl) (fun Lq aq w' hI hq => Lt.ex_load rfl (hI.pure 14 _ _ rfl (hq ⟨14, .data⟩ (by simp) rfl)) (by simp [go_sem]) (by obtain ⟨-, -, y0, y1, y2, y3, y4, y5⟩ := K.out w' hI.world; exact y4))
    | 16, _ => injection ho with ho; subst ho; exact Lt.Does.read rfl (fun Lq aq w' hI hq => Lt.wn0 rfl) (fun Lq aq w' hI hq => Lt.ex_addI rfl (hI.pure 13 _ _ rfl (hq ⟨13, .data⟩ (by simp) rfl)) (hI.pure 15 _ _ rfl (hq ⟨15, .data⟩ (by simp) rfl)) rfl)
    | 17, _ => injection ho with ho; subst ho; exact Lt.Does.read rfl (fun Lq aq w' hI hq => Lt.wn0 rfl) (fun Lq aq w' hI hq => Lt.ex_move rfl (hI.fix 1 (Lt.notD rfl)))
    | 18, _ => injection ho with ho; subst ho; exact Lt.Does.read rfl (fun Lq aq w' hI hq => Lt.wn0 rfl) (fun Lq aq w' hI hq => Lt.ex_subI rfl (hI.pure 17 _ _ rfl (hq ⟨17, .data⟩ (by simp) rfl)) rfl rfl)
    | 19, _ => injection ho with ho; subst ho; exact Lt.Does.read rfl (fun Lq aq w' hI hq => Lt.wn0 rfl) (fun Lq aq w' hI hq => Lt.ex_field rfl (hI.fix 2 (Lt.notD rfl)) (by simp [go_sem]))
    | 20, _ => injection ho with ho; subst ho; exact Lt.Does.read rfl (fun Lq aq w' hI hq => Lt.wn0 rfl) (fun Lq aq w' hI hq => Lt.ex_load rfl (hI.pure 19 _ _ rfl (hq ⟨19, .data⟩ (by simp) rfl)) (by simp [go_sem]) (by obtain ⟨-, -, y0, y1, y2, y3, y4, y5⟩ := K.out w' hI.world; exact y1))
    | 21, _ => injection ho with ho; subst ho; exact Lt.Does.read rfl (fun Lq aq w' hI hq => Lt.wn0 rfl) (fun Lq aq w' hI hq => Lt.ex_addI rfl rfl (hI.pure 20 _ _ rfl (hq ⟨20, .data⟩ (by simp) rfl)) rfl)
    | 22, _ => injection ho with ho; subst ho; exact Lt.Does.read rfl (fun Lq aq w' hI hq => Lt.wn0 rfl) (fun Lq aq w' hI hq => Lt.ex_mulI rfl (hI.pure 18 _ _ rfl (hq ⟨18, .data⟩ (by simp) rfl)) (hI.pure 21 _ _ rfl (hq ⟨21, .data⟩ (by simp) rfl)) rfl)
    | 23, _ => injection ho with ho; subst ho; exact Lt.Does.read rfl (fun Lq aq w' hI hq => Lt.wn0 rfl) (fun Lq aq w' hI hq => Lt.ex_addI rfl (hI.pure 16 _ _ rfl (hq ⟨16, .data⟩ (by simp) rfl)) (hI.pure 22 _ _ rfl (hq ⟨22, .data⟩ (by simp) rfl)) rfl)
    | 24, _ => injection ho with ho; subst ho; exact Lt.Does.call rfl (fun Lq aq w' hI hq => Lt.wn0 rfl) (fun Lq aq w' hI hq => Lt.call3 rfl (hI.pure 0 _ _ rfl (hq ⟨0, .data⟩ (by simp) rfl)) (hI.pure 4 _ _ rfl (hq ⟨4, .data⟩ (by simp) rfl)) (hI.pure 23 _ _ rfl (hq ⟨23, .data⟩ (by simp) rfl)) rfl (by simp [go_sem])) (fun w1 hw1 => (PL.out w1).mono (by rintro e w2 ⟨rfl, hb⟩; exact ⟨rfl, hw1.trans (hb.mono hw1.size)⟩))
    | 25, _ => injection ho with ho; subst ho; exact Lt.Does.read rfl (fun Lq aq w' hI hq => Lt.wn0 rfl) (fun Lq aq w' hI hq => Lt.ex_extract rfl (hI.pure 24 _ _ rfl (hq ⟨24, .data⟩ (by simp) rfl)) rfl)
    | 26, _ => injection ho with ho; subst ho; exact Lt.Does.read rfl (fun Lq aq w' hI hq => Lt.wn0 rfl) (fun Lq aq w' hI hq => Lt.ex_extract rfl (hI.pure 24 _ _ rfl (hq ⟨24, .data⟩ (by simp) rfl)) rfl)
    | 27, _ => injection ho with ho; subst ho; exact Lt.Does.read rfl (fun Lq aq w' hI hq => Lt.wn0 rfl) (fun Lq aq w' hI hq => Lt.ex_assign rfl (hI.pure 25 _ _ rfl (hq ⟨25, .data⟩ (by simp) rfl)))
    | 28, _ => injection ho with ho; subst ho; exact Lt.Does.read rfl (fun Lq aq w' hI hq => Lt.wn0 rfl) (fun Lq aq w' hI hq => Lt.ex_assign rfl (hI.pure 26 _ _ rfl (hq ⟨26, .data⟩ (by simp) rfl)))
  case fin =>
    intro Lq a' w' hI hall
    have hw := hI.world
    obtain rfl : a' = ⟨#[.agg #[.int .i64 s0, .int .i64 s1, .int .i64 s2, .int .i64 s3, .int .i64 s4, .int .i64 s5], .int .i64 a, .pointer (some ⟨w.heap.size, 0, none⟩), undef, .int .i64 v, .int .i64 e, .agg #[.int .i64 s0, .int .i64 s1, .int .i64 s2, .int .i64 s3, .int .i64 s4, .int .i64 s5], .int .i64 a, .pointer (some ⟨w.heap.size, 0, none⟩), .int .i64 s0, .bool q, .pointer (some ⟨w.heap.size, 2, none⟩), .int .i64 s2, .int .i64 (IntKind.i64.wrap (8 + s2)), .pointer (some ⟨w.heap.size, 2, none⟩), .int .i64 s2, .pointer (some ⟨w.heap.size, 3, none⟩), .int .i64 s3, .int .i64 (IntKind.i64.wrap (s2 * s3)), .int .i64 (IntKind.i64.wrap ((IntKind.i64.wrap (8 + s2)) + (IntKind.i64.wrap (s2 * s3)))), .pointer (some ⟨w.heap.size, 4, none⟩), .int .i64 s4, .int .i64 (IntKind.i64.wrap ((IntKind.i64.wrap ((IntKind.i64.wrap (8 + s2)) + (IntKind.i64.wrap (s2 * s3)))) + s4)), .int .i64 a, .int .i64 (IntKind.i64.wrap (a - 1)), .pointer (some ⟨w.heap.size, 1, none⟩), .int .i64 s1, .int .i64 (IntKind.i64.wrap (3 + s1)), .int .i64 (IntKind.i64.wrap ((IntKind.i64.wrap (a - 1)) * (IntKind.i64.wrap (3 + s1)))), .int .i64 (IntKind.i64.wrap ((IntKind.i64.wrap ((IntKind.i64.wrap ((IntKind.i64.wrap (8 + s2)) + (IntKind.i64.wrap (s2 * s3)))) + s4)) + (IntKind.i64.wrap ((IntKind.i64.wrap (a - 1)) * (IntKind.i64.wrap (3 + s1)))))), .tuple #[.int .i64 v, .int .i64 e], .int .i64 v, .int .i64 e], []⟩ := Lt.act_eq a' [.agg #[.int .i64 s0, .int .i64 s1, .int .i64 s2, .int .i64 s3, .int .i64 s4, .int .i64 s5], .int .i64 a, .pointer (some ⟨w.heap.size, 0, none⟩), undef, .int .i64 v, .int .i64 e, .agg #[.int .i64 s0, .int .i64 s1, .int .i64 s2, .int .i64 s3, .int .i64 s4, .int .i64 s5], .int .i64 a, .pointer (some ⟨w.heap.size, 0, none⟩), .int .i64 s0, .bool q, .pointer (some ⟨w.heap.size, 2, none⟩), .int .i64 s2, .int .i64 (IntKind.i64.wrap (8 + s2)), .pointer (some ⟨w.heap.size, 2, none⟩), .int .i64 s2, .pointer (some ⟨w.heap.size, 3, none⟩), .int .i64 s3, .int .i64 (IntKind.i64.wrap (s2 * s3)), .int .i64 (IntKind.i64.wrap ((IntKind.i64.wrap (8 + s2)) + (IntKind.i64.wrap (s2 * s3)))), .pointer (some ⟨w.heap.size, 4, none⟩), .int .i64 s4, .int .i64 (IntKind.i64.wrap ((IntKind.i64.wrap ((IntKind.i64.wrap (8 + s2)) + (IntKind.i64.wrap (s2 * s3)))) + s4)), .int .i64 a, .int .i64 (IntKind.i64.wrap (a - 1)), .pointer (some ⟨w.heap.size, 1, none⟩), .int .i64 s1, .int .i64 (IntKind.i64.wrap (3 + s1)), .int .i64 (IntKind.i64.wrap ((IntKind.i64.wrap (a - 1)) * (IntKind.i64.wrap (3 + s1)))), .int .i64 (IntKind.i64.wrap ((IntKind.i64.wrap ((IntKind.i64.wrap ((IntKind.i64.wrap (8 + s2)) + (IntKind.i64.wrap (s2 * s3)))) + s4)) + (IntKind.i64.wrap ((IntKind.i64.wrap (a - 1)) * (IntKind.i64.wrap (3 + s1)))))), .tuple #[.int .i64 v, .int .i64 e], .int .i64 v, .int .i64 e] hI.df (by rw [hI.sz]; rfl) (fun k hk => by
      have hk' : k < 33 := hk
      match k, hk' with
      | 0, _ => exact hI.fix 0 (Lt.notD rfl)
      | 1, _ => exact hI.fix 1 (Lt.notD rfl)
      | 2, _ => exact hI.fix 2 (Lt.notD rfl)
      | 3, _ => exact hI.fix 3 (Lt.notD rfl)
      | 4, _ => exact hI.pure 27 4 _ rfl (hall 27 (by decide))
      | 5, _ => exact hI.pure 28 5 _ rfl (hall 28 (by decide))
      | 6, _ => exact hI.pure 0 6 _ rfl (hall 0 (by decide))
      | 7, _ => exact hI.pure 1 7 _ rfl (hall 1 (by decide))
      | 8, _ => exact hI.pure 2 8 _ rfl (hall 2 (by decide))
      | 9, _ => exact hI.pure 3 9 _ rfl (hall 3 (by decide))
      | 10, _ => exact hI.pure 4 10 _ rfl (hall 4 (by decide))
      | 11, _ => exact hI.pure 5 11 _ rfl (hall 5 (by decide))
      | 12, _ => exact hI.pure 6 12 _ rfl (hall 6 (by decide))
      | 13, _ => exact hI.pure 7 13 _ rfl (hall 7 (by decide))
      | 14, _ => exact hI.pure 8 14 _ rfl (hall 8 (by decide))
      | 15, _ => exact hI.pure 9 15 _ rfl (hall 9 (by decide))
      | 16, _ => exact hI.pure 10 16 _ rfl (hall 10 (by decide))
      | 17, _ => exact hI.pure 11 17 _ rfl (hall 11 (by decide))
      | 18, _ => exact hI.pure 12 18 _ rfl (hall 12 (by decide))
      | 19, _ => exact hI.pure 13 19 _ rfl (hall 13 (by decide))
      | 20, _ => exact hI.pure 14 20 _ rfl (hall 14 (by decide))
      | 21, _ => exact hI.pure 15 21 _ rfl (hall 15 (by decide))
      | 22, _ => exact hI.pure 16 22 _ rfl (hall 16 (by decide))
      | 23, _ => exact hI.pure 17 23 _ rfl (hall 17 (by decide))
      | 24, _ => exact hI.pure 18 24 _ rfl (hall 18 (by decide))
      | 25, _ => exact hI.pure 19 25 _ rfl (hall 19 (by decide))
      | 26, _ => exact hI.pure 20 26 _ rfl (hall 20 (by decide))
      | 27, _ => exact hI.pure 21 27 _ rfl (hall 21 (by decide))
      | 28, _ => exact hI.pure 22 28 _ rfl (hall 22 (by decide))
      | 29, _ => exact hI.pure 23 29 _ rfl (hall 23 (by decide))
      | 30, _ => exact hI.pure 24 30 _ rfl (hall 24 (by decide))
      | 31, _ => exact hI.pure 25 31 _ rfl (hall 25 (by decide))
      | 32, _ => exact hI.pure 26 32 _ rfl (hall 26 (by decide))
      | q + 33, hq => exact absurd hq (by omega))
    rename_i K2 hK2
    refine hK2 _ _ ?_
    go_wp2_with fail
    go_ret2
    exact ⟨rfl, (K.out _ hw).1⟩

theorem rroot_t {s0 s1 s2 s3 s4 s5 : Int} {a b v e : Int} {q2 : Bool} (T1 : Hid (∀ w1 : World, Calls Try.prog 44 #[.int .i64 a, .int .i64 0, .int .i64 (IntKind.i64.wrap (s2 - 1))] w1 fun e w' => e = .returned (.bool true) ∧ w' = w1)) (T2 : Hid (∀ w1 : World, Calls Try.prog 44 #[.int .i64 b, .int .i64 0, .int .i64 (IntKind.i64.wrap (s3 - 1))] w1 fun e w' => e = .returned (.bool q2) ∧ w' = w1)) (PL : Hid (∀ w1 : World, Calls Try.prog 45 #[.agg #[.int .i64 s0, .int .i64 s1, .int .i64 s2, .int .i64 s3, .int .i64 s4, .int .i64 s5], .bool q2, .int .i64 (IntKind.i64.wrap ((IntKind.i64.wrap ((IntKind.i64.wrap (8 + s2)) + (IntKind.i64.wrap (a * s3)))) + b))] w1 fun e' w' => e' = .returned (.tuple #[.int .i64 v, .int .i64 e]) ∧ Below w1.heap.size w1 w')) (w : World) : Calls Try.prog 25 #[.agg #[.int .i64 s0, .int .i64 s1, .int .i64 s2, .int .i64 s3, .int .i64 s4, .int .i64 s5], .int .i64 a, .int .i64 b] w fun e' w' => e' = .returned (.tuple #[.int .i64 v, .int .i64 e]) ∧ Below w.heap.size w w' := by
  obtain ⟨W0, hW0, B0, K⟩ := box w s0 s1 s2 s3 s4 s5
  have HB := hide B0
  obtain ⟨-, l0, x0, x1, x2, x3, x4, x5⟩ := K.out W0 (Below.refl _ _)
  clear B0
  go_enter Try.func25, Try.ntmps25
  go_wp2_with fail
  refine Lt.region (ks := [(0, 8), (1, 9), (2, 10), (3, 11), (4, 12), (5, 13), (6, 14), (7, 15), (8, 16), (9, 17), (10, 18), (11, 19), (12, 20), (13, 21), (14, 22), (15, 23), (16, 24), (17, 25), (18, 26), (19, 27), (20, 28), (21, 29), (22, 30), (23, 31), (24, 32), (25, 33), (26, 6), (27, 7)]) (vals := fun iv => match iv with
      | 0 => .agg #[.int .i64 s0, .int .i64 s1, .int .i64 s2, .int .i64 s3, .int .i64 s4, .int .i64 s5]
      | 1 => .int .i64 a
      | 2 => .pointer (some ⟨w.heap.size, 2, none⟩)
      | 3 => .int .i64 s2
      | 4 => .int .i64 (IntKind.i64.wrap (s2 - 1))
      | 5 => .bool true
      | 6 => .bool true
      | 7 => .int .i64 b
      | 8 => .pointer (some ⟨w.heap.size, 3, none⟩)
      | 9 => .int .i64 s3
      | 10 => .int .i64 (IntKind.i64.wrap (s3 - 1))
      | 11 => .bool q2
      | 12 => .bool q2
      | 13 => .pointer (some ⟨w.heap.size, 2, none⟩)
      | 14 => .int .i64 s2
      | 15 => .int .i64 (IntKind.i64.wrap (8 + s2))
      | 16 => .int .i64 a
      | 17 => .pointer (some ⟨w.heap.size, 3, none⟩)
      | 18 => .int .i64 s3
      | 19 => .int .i64 (IntKind.i64.wrap (a * s3))
      | 20 => .int .i64 (IntKind.i64.wrap ((IntKind.i64.wrap (8 + s2)) + (IntKind.i64.wrap (a * s3))))
      | 21 => .int .i64 b
      | 22 => .int .i64 (IntKind.i64.wrap ((IntKind.i64.wrap ((IntKind.i64.wrap (8 + s2)) + (IntKind.i64.wrap (a * s3)))) + b))
      | 23 => .tuple #[.int .i64 v, .int .i64 e]
      | 24 => .int .i64 v
      | 25 => .int .i64 e
      | 26 => .int .i64 v
      | 27 => .int .i64 e
      | _ => undef) (WI := fun w' => Below W0.heap.size W0 w') (by kernel_rfl) ?bk rfl ?dd (⟨rfl, rfl, rfl, Nat.le_refl _, fun _ _ => rfl⟩) ?does ?fin
  case bk =>
    intro iq oq ho
    have hiq : iq < 28 := by have := (Array.getElem?_eq_some_iff.1 ho).1; simpa using this
    match iq, hiq with
    | 0, _ | 1, _ | 2, _ | 3, _ | 4, _ | 5, _ | 6, _ | 7, _ | 8, _ | 9, _ | 10, _ | 11, _ | 12, _ | 13, _ | 14, _ | 15, _ | 16, _ | 17, _ | 18, _ | 19, _ | 20, _ | 21, _ | 22, _ | 23, _ | 24, _ | 25, _ | 26, _ | 27, _ => injection ho with ho; subst ho; simp [Region.binds]
  case dd =>
    intro k hk
    have hk' : k < 34 := by
      simp [Lt.D] at hk
      omega
    simpa using hk'
  case does =>
    intro iq oq ho
    have hiq : iq < 28 := by have := (Array.getElem?_eq_some_iff.1 ho).1; simpa using this
    match iq, hiq with
    | 0, _ => injection ho with ho; subst ho; exact Lt.Does.read rfl (fun Lq aq w' hI hq => Lt.wn0 rfl) (fun Lq aq w' hI hq => Lt.ex_load_row rfl (hI.fix 3 (Lt.notD rfl)) (by obtain ⟨-, -, y0, y1, y2, y3, y4, y5⟩ := K.out w' hI.world; exact rng y0 y1 y2 y3 y4 y5) (by kernel_rfl) (by kernel_rfl))
    | 1, _ => injection ho with ho; subst ho; exact Lt.Does.read rfl (fun Lq aq w' hI hq => Lt.wn0 rfl) (fun Lq aq w' hI hq => Lt.ex_move rfl (hI.fix 1 (Lt.notD rfl)))
    | 2, _ => injection ho with ho; subst ho; exact Lt.Does.read rfl (fun Lq aq w' hI hq => Lt.wn0 rfl) (fun Lq aq w' hI hq => Lt.ex_field rfl (hI.fix 3 (Lt.notD rfl)) (by simp [go_sem]))
    | 3, _ => injection ho with ho; subst ho; exact Lt.Does.read rfl (fun Lq aq w' hI hq => Lt.wn0 rfl) (fun Lq aq w' hI hq => Lt.ex_load rfl (hI.pure 2 _ _ rfl (hq ⟨2, .data⟩ (by simp) rfl)) (by simp [go_sem]) (by obtain ⟨-, -, y0, y1, y2, y3, y4, y5⟩ := K.out w' hI.world; exact y2))
    | 4, _ => injection ho with ho; subst ho; exact Lt.Does.read rfl (fun Lq aq w' hI hq => Lt.wn0 rfl) (fun Lq aq w' hI hq => Lt.ex_subI rfl (hI.pure 3 _ _ rfl (hq ⟨3, .data⟩ (by simp) rfl)) rfl rfl)
    | 5, _ => injection ho with ho; subst ho; exact Lt.Does.call rfl (fun Lq aq w' hI hq => Lt.wn0 rfl) (fun Lq aq w' hI hq => Lt.call3 rfl (hI.pure 1 _ _ rfl (hq ⟨1, .data⟩ (by simp) rfl)) rfl (hI.pure 4 _ _ rfl (hq ⟨4, .data⟩ (by simp) rfl)) rfl (by simp [go_sem])) (fun w1 hw1 => (T1.out w1).mono (by rintro e w2 ⟨rfl, hw2⟩; obtain rfl := hw2.symm; exact ⟨rfl, hw1⟩))
    | 6, _ => injection ho with ho; subst ho; exact Lt.Does.read rfl (fun Lq aq w' hI hq => Lt.wn0 rfl) (fun Lq aq w' hI hq => Lt.ex_move rfl (hI.pure 5 _ _ rfl (hq ⟨5, .data⟩ (by simp) rfl)))
    | 7, _ => injection ho with ho; subst ho; exact Lt.Does.read rfl (fun Lq aq w' hI hq => Lt.wnG (d := 14) (c := true) rfl rfl (hI.pure 6 _ _ rfl (hq ⟨6, .guard⟩ (by simp) rfl)) rfl) (fun Lq aq w' hI hq => Lt.ex_move rfl (hI.fix 2 (Lt.notD rfl)))
    | 8, _ => injection ho with ho; subst ho; exact Lt.Does.read rfl (fun Lq aq w' hI hq => Lt.wnG (d := 14) (c := true) rfl rfl (hI.pure 6 _ _ rfl (hq ⟨6, .guard⟩ (by simp) rfl)) rfl) (fun Lq aq w' hI hq => Lt.ex_field rfl (hI.fix 3 (Lt.notD rfl)) (by simp [go_sem]))
    | 9, _ => injection ho with ho; subst ho; exact Lt.Does.read rfl (fun Lq aq w' hI hq => Lt.wnG (d := 14) (c := true) rfl rfl (hI.pure 6 _ _ rfl (hq ⟨6, .guard⟩ (by simp) rfl)) rfl) (fun Lq aq w' hI hq => Lt.ex_load rfl (hI.pure 8 _ _ rfl (hq ⟨8, .data⟩ (by simp) rfl)) (by simp [go_sem]) (by obtain ⟨-, -, y0, y1, y2, y3, y4, y5⟩ := K.out w' hI.world; exact y3))
    | 10, _ => injection ho with ho; subst ho; exact Lt.Does.read rfl (fun Lq aq w' hI hq => Lt.wnG (d := 14) (c := true) rfl rfl (hI.pure 6 _ _ rfl (hq ⟨6, .guard⟩ (by simp) rfl)) rfl) (fun Lq aq w' hI hq => Lt.ex_subI rfl (hI.pure 9 _ _ rfl (hq ⟨9, .data⟩ (by simp) rfl)) rfl rfl)
    | 11, _ => injection ho with ho; subst ho; exact Lt.Does.call rfl (fun Lq aq w' hI hq => Lt.wnG (d := 14) (c := true) rfl rfl (hI.pure 6 _ _ rfl (hq ⟨6, .guard⟩ (by simp) rfl)) rfl) (fun Lq aq w' hI hq => Lt.call3 rfl (hI.pure 7 _ _ rfl (hq ⟨7, .data⟩ (by simp) rfl)) rfl (hI.pure 10 _ _ rfl (hq ⟨10, .data⟩ (by simp) rfl)) rfl (by simp [go_sem])) (fun w1 hw1 => (T2.out w1).mono (by rintro e w2 ⟨rfl, hw2⟩; obtain rfl := hw2.symm; exact ⟨rfl, hw1⟩))
    | 12, _ => injection ho with ho; subst ho; exact Lt.Does.read rfl (fun Lq aq w' hI hq => Lt.wn0 rfl) (fun Lq aq w' hI hq => Lt.ex_pick (b := true) rfl (hI.pure 6 _ _ rfl (hq ⟨6, .data⟩ (by simp) rfl)) (by first | exact (hI.pure 11 _ _ rfl (hq ⟨11, .data⟩ (by simp) rfl)) | simpa using (hI.pure 11 _ _ rfl (hq ⟨11, .data⟩ (by simp) rfl))))
    | 13, _ => injection ho with ho; subst ho; exact Lt.Does.read rfl (fun Lq aq w' hI hq => Lt.wn0 rfl) (fun Lq aq w' hI hq => Lt.ex_field rfl (hI.fix 3 (Lt.notD rfl)) (by simp [go_sem]))
    | 14, _ => injection ho with ho; subst ho; exact Lt.Does.read rfl (fun Lq aq w' hI hq => Lt.wn0 rfl) (fun Lq aq w' hI hq => Lt.ex_load rfl (hI.pure 13 _ _ rfl (hq ⟨13, .data⟩ (by simp) rfl)) (by simp [go_sem]) (by obtain ⟨-, -, y0, y1, y2, y3, y4, y5⟩ := K.out w' hI.world; exact y2))
    | 15, _ => injection ho with ho; subst ho; exact Lt.Does.read rfl (fun Lq aq w' hI hq => Lt.wn0 rfl) (fun Lq aq w' hI hq => Lt.ex_addI rfl rfl (hI.pure 14 _ _ rfl (hq ⟨14, .data⟩ (by simp) rfl)) rfl)
    | 16, _ => injection ho with ho; subst ho; exact Lt.Does.read rfl (fun Lq aq w' hI hq => Lt.wn0 rfl) (fun Lq aq w' hI hq => Lt.ex_move rfl (hI.fix 1 (Lt.notD rfl)))
    | 17, _ => injection ho with ho; subst ho; exact Lt.Does.read rfl (fun Lq aq w' hI hq => Lt.wn0 rfl) (fun Lq aq w' hI hq => Lt.ex_field rfl (hI.fix 3 (Lt.notD rfl)) (by simp [go_sem]))
    | 18, _ => injection ho with ho; subst ho; exact Lt.Does.read rfl (fun Lq aq w' hI hq => Lt.wn0 rfl) (fun Lq aq w' hI hq => Lt.ex_load rfl (hI.pure 17 _ _ rfl (hq ⟨17, .data⟩ (by simp) rfl)) (by simp [go_sem]) (by obtain ⟨-, -, y0, y1, y2, y3, y4, y5⟩ := K.out w' hI.world; exact y3))
    | 19, _ => injection ho with ho; subst ho; exact Lt.Does.read rfl (fun Lq aq w' hI hq => Lt.wn0 rfl) (fun Lq aq w' hI hq => Lt.ex_mulI rfl (hI.pure 16 _ _ rfl (hq ⟨16, .data⟩ (by simp) rfl)) (hI.pure 18 _ _ rfl (hq ⟨18, .data⟩ (by simp) rfl)) rfl)
    | 20, _ => injection ho with ho; subst ho; exact Lt.Does.read rfl (fun Lq aq w' hI hq => Lt.wn0 rfl) (fun Lq aq w' hI hq => Lt.ex_addI rfl (hI.pure 15 _ _ rfl (hq ⟨15, .data⟩ (by simp) rfl)) (hI.pure 19 _ _ rfl (hq ⟨19, .data⟩ (by simp) rfl)) rfl)
    | 21, _ => injection ho with ho; subst ho; exact Lt.Does.read rfl (fun Lq aq w' hI hq => Lt.wn0 rfl) (fun Lq aq w' hI hq => Lt.ex_move rfl (hI.fix 2 (Lt.notD rfl)))
    | 22, _ => injection ho with ho; subst ho; exact Lt.Does.read rfl (fun Lq aq w' hI hq => Lt.wn0 rfl) (fun Lq aq w' hI hq => Lt.ex_addI rfl (hI.pure 20 _ _ rfl (hq ⟨20, .data⟩ (by simp) rfl)) (hI.pure 21 _ _ rfl (hq ⟨21, .data⟩ (by simp) rfl)) rfl)
    | 23, _ => injection ho with ho; subst ho; exact Lt.Does.call rfl (fun Lq aq w' hI hq => Lt.wn0 rfl) (fun Lq aq w' hI hq => Lt.call3 rfl (hI.pure 0 _ _ rfl (hq ⟨0, .data⟩ (by simp) rfl)) (hI.pure 12 _ _ rfl (hq ⟨12, .data⟩ (by simp) rfl)) (hI.pure 22 _ _ rfl (hq ⟨22, .data⟩ (by simp) rfl)) rfl (by simp [go_sem])) (fun w1 hw1 => (PL.out w1).mono (by rintro e w2 ⟨rfl, hb⟩; exact ⟨rfl, hw1.trans (hb.mono hw1.size)⟩))
    | 24, _ => injection ho with ho; subst ho; exact Lt.Does.read rfl (fun Lq aq w' hI hq => Lt.wn0 rfl) (fun Lq aq w' hI hq => Lt.ex_extract rfl (hI.pure 23 _ _ rfl (hq ⟨23, .data⟩ (by simp) rfl)) rfl)
    | 25, _ => injection ho with ho; subst ho; exact Lt.Does.read rfl (fun Lq aq w' hI hq => Lt.wn0 rfl) (fun Lq aq w' hI hq => Lt.ex_extract rfl (hI.pure 23 _ _ rfl (hq ⟨23, .data⟩ (by simp) rfl)) rfl)
    | 26, _ => injection ho with ho; subst ho; exact Lt.Does.read rfl (fun Lq aq w' hI hq => Lt.wn0 rfl) (fun Lq aq w' hI hq => Lt.ex_assign rfl (hI.pure 24 _ _ rfl (hq ⟨24, .data⟩ (by simp) rfl)))
    | 27, _ => injection ho with ho; subst ho; exact Lt.Does.read rfl (fun Lq aq w' hI hq => Lt.wn0 rfl) (fun Lq aq w' hI hq => Lt.ex_assign rfl (hI.pure 25 _ _ rfl (hq ⟨25, .data⟩ (by simp) rfl)))
  case fin =>
    intro Lq a' w' hI hall
    have hw := hI.world
    obtain rfl : a' = ⟨#[.agg #[.int .i64 s0, .int .i64 s1, .int .i64 s2, .int .i64 s3, .int .i64 s4, .int .i64 s5], .int .i64 a, .int .i64 b, .pointer (some ⟨w.heap.size, 0, none⟩), undef, undef, .int .i64 v, .int .i64 e, .agg #[.int .i64 s0, .int .i64 s1, .int .i64 s2, .int .i64 s3, .int .i64 s4, .int .i64 s5], .int .i64 a, .pointer (some ⟨w.heap.size, 2, none⟩), .int .i64 s2, .int .i64 (IntKind.i64.wrap (s2 - 1)), .bool true, .bool true, .int .i64 b, .pointer (some ⟨w.heap.size, 3, none⟩), .int .i64 s3, .int .i64 (IntKind.i64.wrap (s3 - 1)), .bool q2, .bool q2, .pointer (some ⟨w.heap.size, 2, none⟩), .int .i64 s2, .int .i64 (IntKind.i64.wrap (8 + s2)), .int .i64 a, .pointer (some ⟨w.heap.size, 3, none⟩), .int .i64 s3, .int .i64 (IntKind.i64.wrap (a * s3)), .int .i64 (IntKind.i64.wrap ((IntKind.i64.wrap (8 + s2)) + (IntKind.i64.wrap (a * s3)))), .int .i64 b, .int .i64 (IntKind.i64.wrap ((IntKind.i64.wrap ((IntKind.i64.wrap (8 + s2)) + (IntKind.i64.wrap (a * s3)))) + b)), .tuple #[.int .i64 v, .int .i64 e], .int .i64 v, .int .i64 e], []⟩ := Lt.act_eq a' [.agg #[.int .i64 s0, .int .i64 s1, .int .i64 s2, .int .i64 s3, .int .i64 s4, .int .i64 s5], .int .i64 a, .int .i64 b, .pointer (some ⟨w.heap.size, 0, none⟩), undef, undef, .int .i64 v, .int .i64 e, .agg #[.int .i64 s0, .int .i64 s1, .int .i64 s2, .int .i64 s3, .int .i64 s4, .int .i64 s5], .int .i64 a, .pointer (some ⟨w.heap.size, 2, none⟩), .int .i64 s2, .int .i64 (IntKind.i64.wrap (s2 - 1)), .bool true, .bool true, .int .i64 b, .pointer (some ⟨w.heap.size, 3, none⟩), .int .i64 s3, .int .i64 (IntKind.i64.wrap (s3 - 1)), .bool q2, .bool q2, .pointer (some ⟨w.heap.size, 2, none⟩), .int .i64 s2, .int .i64 (IntKind.i64.wrap (8 + s2)), .int .i64 a, .pointer (some ⟨w.heap.size, 3, none⟩), .int .i64 s3, .int .i64 (IntKind.i64.wrap (a * s3)), .int .i64 (IntKind.i64.wrap ((IntKind.i64.wrap (8 + s2)) + (IntKind.i64.wrap (a * s3)))), .int .i64 b, .int .i64 (IntKind.i64.wrap ((IntKind.i64.wrap ((IntKind.i64.wrap (8 + s2)) + (IntKind.i64.wrap (a * s3)))) + b)), .tuple #[.int .i64 v, .int .i64 e], .int .i64 v, .int .i64 e] hI.df (by rw [hI.sz]; rfl) (fun k hk => by
      have hk' : k < 34 := hk
      match k, hk' with
      | 0, _ => exact hI.fix 0 (Lt.notD rfl)
      | 1, _ => exact hI.fix 1 (Lt.notD rfl)
      | 2, _ => exact hI.fix 2 (Lt.notD rfl)
      | 3, _ => exact hI.fix 3 (Lt.notD rfl)
      | 4, _ => exact hI.fix 4 (Lt.notD rfl)
      | 5, _ => exact hI.fix 5 (Lt.notD rfl)
      | 6, _ => exact hI.pure 26 6 _ rfl (hall 26 (by decide))
      | 7, _ => exact hI.pure 27 7 _ rfl (hall 27 (by decide))
      | 8, _ => exact hI.pure 0 8 _ rfl (hall 0 (by decide))
      | 9, _ => exact hI.pure 1 9 _ rfl (hall 1 (by decide))
      | 10, _ => exact hI.pure 2 10 _ rfl (hall 2 (by decide))
      | 11, _ => exact hI.pure 3 11 _ rfl (hall 3 (by decide))
      | 12, _ => exact hI.pure 4 12 _ rfl (hall 4 (by decide))
      | 13, _ => exact hI.pure 5 13 _ rfl (hall 5 (by decide))
      | 14, _ => exact hI.pure 6 14 _ rfl (hall 6 (by decide))
      | 15, _ => exact hI.pure 7 15 _ rfl (hall 7 (by decide))
      | 16, _ => exact hI.pure 8 16 _ rfl (hall 8 (by decide))
      | 17, _ => exact hI.pure 9 17 _ rfl (hall 9 (by decide))
      | 18, _ => exact hI.pure 10 18 _ rfl (hall 10 (by decide))
      | 19, _ => exact hI.pure 11 19 _ rfl (hall 11 (by decide))
      | 20, _ => exact hI.pure 12 20 _ rfl (hall 12 (by decide))
      | 21, _ => exact hI.pure 13 21 _ rfl (hall 13 (by decide))
      | 22, _ => exact hI.pure 14 22 _ rfl (hall 14 (by decide))
      | 23, _ => exact hI.pure 15 23 _ rfl (hall 15 (by decide))
      | 24, _ => exact hI.pure 16 24 _ rfl (hall 16 (by decide))
      | 25, _ => exact hI.pure 17 25 _ rfl (hall 17 (by decide))
      | 26, _ => exact hI.pure 18 26 _ rfl (hall 18 (by decide))
      | 27, _ => exact hI.pure 19 27 _ rfl (hall 19 (by decide))
      | 28, _ => exact hI.pure 20 28 _ rfl (hall 20 (by decide))
      | 29, _ => exact hI.pure 21 29 _ rfl (hall 21 (by decide))
      | 30, _ => exact hI.pure 22 30 _ rfl (hall 22 (by decide))
      | 31, _ => exact hI.pure 23 31 _ rfl (hall 23 (by decide))
      | 32, _ => exact hI.pure 24 32 _ rfl (hall 24 (by decide))
      | 33, _ => exact hI.pure 25 33 _ rfl (hall 25 (by decide))
      | q + 34, hq => exact absurd hq (by omega))
    rename_i K2 hK2
    refine hK2 _ _ ?_
    go_wp2_with fail
    go_ret2
    exact ⟨rfl, (K.out _ hw).1⟩

theorem rroot_f {s0 s1 s2 s3 s4 s5 : Int} {a b v e : Int}  (T1 : Hid (∀ w1 : World, Calls Try.prog 44 #[.int .i64 a, .int .i64 0, .int .i64 (IntKind.i64.wrap (s2 - 1))] w1 fun e w' => e = .returned (.bool false) ∧ w' = w1)) (PL : Hid (∀ w1 : World, Calls Try.prog 45 #[.agg #[.int .i64 s0, .int .i64 s1, .int .i64 s2, .int .i64 s3, .int .i64 s4, .int .i64 s5], .bool false, .int .i64 (IntKind.i64.wrap ((IntKind.i64.wrap ((IntKind.i64.wrap (8 + s2)) + (IntKind.i64.wrap (a * s3)))) + b))] w1 fun e' w' => e' = .returned (.tuple #[.int .i64 v, .int .i64 e]) ∧ Below w1.heap.size w1 w')) (w : World) : Calls Try.prog 25 #[.agg #[.int .i64 s0, .int .i64 s1, .int .i64 s2, .int .i64 s3, .int .i64 s4, .int .i64 s5], .int .i64 a, .int .i64 b] w fun e' w' => e' = .returned (.tuple #[.int .i64 v, .int .i64 e]) ∧ Below w.heap.size w w' := by
  obtain ⟨W0, hW0, B0, K⟩ := box w s0 s1 s2 s3 s4 s5
  have HB := hide B0
  obtain ⟨-, l0, x0, x1, x2, x3, x4, x5⟩ := K.out W0 (Below.refl _ _)
  clear B0
  go_enter Try.func25, Try.ntmps25
  go_wp2_with fail
  refine Lt.region (ks := [(0, 8), (1, 9), (2, 10), (3, 11), (4, 12), (5, 13), (6, 14), (7, 15), (8, 16), (9, 17), (10, 18), (11, 19), (12, 20), (13, 21), (14, 22), (15, 23), (16, 24), (17, 25), (18, 26), (19, 27), (20, 28), (21, 29), (22, 30), (23, 31), (24, 32), (25, 33), (26, 6), (27, 7)]) (vals := fun iv => match iv with
      | 0 => .agg #[.int .i64 s0, .int .i64 s1, .int .i64 s2, .int .i64 s3, .int .i64 s4, .int .i64 s5]
      | 1 => .int .i64 a
      | 2 => .pointer (some ⟨w.heap.size, 2, none⟩)
      | 3 => .int .i64 s2
      | 4 => .int .i64 (IntKind.i64.wrap (s2 - 1))
      | 5 => .bool false
      | 6 => .bool false
      | 7 => undef
      | 8 => undef
      | 9 => undef
      | 10 => undef
      | 11 => undef
      | 12 => .bool false
      | 13 => .pointer (some ⟨w.heap.size, 2, none⟩)
      | 14 => .int .i64 s2
      | 15 => .int .i64 (IntKind.i64.wrap (8 + s2))
      | 16 => .int .i64 a
      | 17 => .pointer (some ⟨w.heap.size, 3, none⟩)
      | 18 => .int .i64 s3
      | 19 => .int .i64 (IntKind.i64.wrap (a * s3))
      | 20 => .int .i64 (IntKind.i64.wrap ((IntKind.i64.wrap (8 + s2)) + (IntKind.i64.wrap (a * s3))))
      | 21 => .int .i64 b
      | 22 => .int .i64 (IntKind.i64.wrap ((IntKind.i64.wrap ((IntKind.i64.wrap (8 + s2)) + (IntKind.i64.wrap (a * s3)))) + b))
      | 23 => .tuple #[.int .i64 v, .int .i64 e]
      | 24 => .int .i64 v
      | 25 => .int .i64 e
      | 26 => .int .i64 v
      | 27 => .int .i64 e
      | _ => undef) (WI := fun w' => Below W0.heap.size W0 w') (by kernel_rfl) ?bk rfl ?dd (⟨rfl, rfl, rfl, Nat.le_refl _, fun _ _ => rfl⟩) ?does ?fin
  case bk =>
    intro iq oq ho
    have hiq : iq < 28 := by have := (Array.getElem?_eq_some_iff.1 ho).1; simpa using this
    match iq, hiq with
    | 0, _ | 1, _ | 2, _ | 3, _ | 4, _ | 5, _ | 6, _ | 7, _ | 8, _ | 9, _ | 10, _ | 11, _ | 12, _ | 13, _ | 14, _ | 15, _ | 16, _ | 17, _ | 18, _ | 19, _ | 20, _ | 21, _ | 22, _ | 23, _ | 24, _ | 25, _ | 26, _ | 27, _ => injection ho with ho; subst ho; simp [Region.binds]
  case dd =>
    intro k hk
    have hk' : k < 34 := by
      simp [Lt.D] at hk
      omega
    simpa using hk'
  case does =>
    intro iq oq ho
    have hiq : iq < 28 := by have := (Array.getElem?_eq_some_iff.1 ho).1; simpa using this
    match iq, hiq with
    | 0, _ => injection ho with ho; subst ho; exact Lt.Does.read rfl (fun Lq aq w' hI hq => Lt.wn0 rfl) (fun Lq aq w' hI hq => Lt.ex_load_row rfl (hI.fix 3 (Lt.notD rfl)) (by obtain ⟨-, -, y0, y1, y2, y3, y4, y5⟩ := K.out w' hI.world; exact rng y0 y1 y2 y3 y4 y5) (by kernel_rfl) (by kernel_rfl))
    | 1, _ => injection ho with ho; subst ho; exact Lt.Does.read rfl (fun Lq aq w' hI hq => Lt.wn0 rfl) (fun Lq aq w' hI hq => Lt.ex_move rfl (hI.fix 1 (Lt.notD rfl)))
    | 2, _ => injection ho with ho; subst ho; exact Lt.Does.read rfl (fun Lq aq w' hI hq => Lt.wn0 rfl) (fun Lq aq w' hI hq => Lt.ex_field rfl (hI.fix 3 (Lt.notD rfl)) (by simp [go_sem]))
    | 3, _ => injection ho with ho; subst ho; exact Lt.Does.read rfl (fun Lq aq w' hI hq => Lt.wn0 rfl) (fun Lq aq w' hI hq => Lt.ex_load rfl (hI.pure 2 _ _ rfl (hq ⟨2, .data⟩ (by simp) rfl)) (by simp [go_sem]) (by obtain ⟨-, -, y0, y1, y2, y3, y4, y5⟩ := K.out w' hI.world; exact y2))
    | 4, _ => injection ho with ho; subst ho; exact Lt.Does.read rfl (fun Lq aq w' hI hq => Lt.wn0 rfl) (fun Lq aq w' hI hq => Lt.ex_subI rfl (hI.pure 3 _ _ rfl (hq ⟨3, .data⟩ (by simp) rfl)) rfl rfl)
    | 5, _ => injection ho with ho; subst ho; exact Lt.Does.call rfl (fun Lq aq w' hI hq => Lt.wn0 rfl) (fun Lq aq w' hI hq => Lt.call3 rfl (hI.pure 1 _ _ rfl (hq ⟨1, .data⟩ (by simp) rfl)) rfl (hI.pure 4 _ _ rfl (hq ⟨4, .data⟩ (by simp) rfl)) rfl (by simp [go_sem])) (fun w1 hw1 => (T1.out w1).mono (by rintro e w2 ⟨rfl, hw2⟩; obtain rfl := hw2.symm; exact ⟨rfl, hw1⟩))
    | 6, _ => injection ho with ho; subst ho; exact Lt.Does.read rfl (fun Lq aq w' hI hq => Lt.wn0 rfl) (fun Lq aq w' hI hq => Lt.ex_move rfl (hI.pure 5 _ _ rfl (hq ⟨5, .data⟩ (by simp) rfl)))
    | 7, _ => injection ho with ho; subst ho; exact .skip rfl (fun Lq aq w' hI hq => Lt.wnG (d := 14) (c := false) rfl rfl (hI.pure 6 _ _ rfl (hq ⟨6, .guard⟩ (by simp) rfl)) rfl) rfl
    | 8, _ => injection ho with ho; subst ho; exact .skip rfl (fun Lq aq w' hI hq => Lt.wnG (d := 14) (c := false) rfl rfl (hI.pure 6 _ _ rfl (hq ⟨6, .guard⟩ (by simp) rfl)) rfl) rfl
    | 9, _ => injection ho with ho; subst ho; exact .skip rfl (fun Lq aq w' hI hq => Lt.wnG (d := 14) (c := false) rfl rfl (hI.pure 6 _ _ rfl (hq ⟨6, .guard⟩ (by simp) rfl)) rfl) rfl
    | 10, _ => injection ho with ho; subst ho; exact .skip rfl (fun Lq aq w' hI hq => Lt.wnG (d := 14) (c := false) rfl rfl (hI.pure 6 _ _ rfl (hq ⟨6, .guard⟩ (by simp) rfl)) rfl) rfl
    | 11, _ => injection ho with ho; subst ho; exact .skip rfl (fun Lq aq w' hI hq => Lt.wnG (d := 14) (c := false) rfl rfl (hI.pure 6 _ _ rfl (hq ⟨6, .guard⟩ (by simp) rfl)) rfl) rfl
    | 12, _ => injection ho with ho; subst ho; exact Lt.Does.read rfl (fun Lq aq w' hI hq => Lt.wn0 rfl) (fun Lq aq w' hI hq => Lt.ex_pick (b := false) rfl (hI.pure 6 _ _ rfl (hq ⟨6, .data⟩ (by simp) rfl)) (by first | exact rfl | simpa using rfl))
    | 13, _ => injection ho with ho; subst ho; exact Lt.Does.read rfl (fun Lq aq w' hI hq => Lt.wn0 rfl) (fun Lq aq w' hI hq => Lt.ex_field rfl (hI.fix 3 (Lt.notD rfl)) (by simp [go_sem]))
    | 14, _ => injection ho with ho; subst ho; exact Lt.Does.read rfl (fun Lq aq w' hI hq => Lt.wn0 rfl) (fun Lq aq w' hI hq => Lt.ex_load rfl (hI.pure 13 _ _ rfl (hq ⟨13, .data⟩ (by simp) rfl)) (by simp [go_sem]) (by obtain ⟨-, -, y0, y1, y2, y3, y4, y5⟩ := K.out w' hI.world; exact y2))
    | 15, _ => injection ho with ho; subst ho; exact Lt.Does.read rfl (fun Lq aq w' hI hq => Lt.wn0 rfl) (fun Lq aq w' hI hq => Lt.ex_addI rfl rfl (hI.pure 14 _ _ rfl (hq ⟨14, .data⟩ (by simp) rfl)) rfl)
    | 16, _ => injection ho with ho; subst ho; exact Lt.Does.read rfl (fun Lq aq w' hI hq => Lt.wn0 rfl) (fun Lq aq w' hI hq => Lt.ex_move rfl (hI.fix 1 (Lt.notD rfl)))
    | 17, _ => injection ho with ho; subst ho; exact Lt.Does.read rfl (fun Lq aq w' hI hq => Lt.wn0 rfl) (fun Lq aq w' hI hq => Lt.ex_field rfl (hI.fix 3 (Lt.notD rfl)) (by simp [go_sem]))
    | 18, _ => injection ho with ho; subst ho; exact Lt.Does.read rfl (fun Lq aq w' hI hq => Lt.wn0 rfl) (fun Lq aq w' hI hq => Lt.ex_load rfl (hI.pure 17 _ _ rfl (hq ⟨17, .data⟩ (by simp) rfl)) (by simp [go_sem]) (by obtain ⟨-, -, y0, y1, y2, y3, y4, y5⟩ := K.out w' hI.world; exact y3))
    | 19, _ => injection ho with ho; subst ho; exact Lt.Does.read rfl (fun Lq aq w' hI hq => Lt.wn0 rfl) (fun Lq aq w' hI hq => Lt.ex_mulI rfl (hI.pure 16 _ _ rfl (hq ⟨16, .data⟩ (by simp) rfl)) (hI.pure 18 _ _ rfl (hq ⟨18, .data⟩ (by simp) rfl)) rfl)
    | 20, _ => injection ho with ho; subst ho; exact Lt.Does.read rfl (fun Lq aq w' hI hq => Lt.wn0 rfl) (fun Lq aq w' hI hq => Lt.ex_addI rfl (hI.pure 15 _ _ rfl (hq ⟨15, .data⟩ (by simp) rfl)) (hI.pure 19 _ _ rfl (hq ⟨19, .data⟩ (by simp) rfl)) rfl)
    | 21, _ => injection ho with ho; subst ho; exact Lt.Does.read rfl (fun Lq aq w' hI hq => Lt.wn0 rfl) (fun Lq aq w' hI hq => Lt.ex_move rfl (hI.fix 2 (Lt.notD rfl)))
    | 22, _ => injection ho with ho; subst ho; exact Lt.Does.read rfl (fun Lq aq w' hI hq => Lt.wn0 rfl) (fun Lq aq w' hI hq => Lt.ex_addI rfl (hI.pure 20 _ _ rfl (hq ⟨20, .data⟩ (by simp) rfl)) (hI.pure 21 _ _ rfl (hq ⟨21, .data⟩ (by simp) rfl)) rfl)
    | 23, _ => injection ho with ho; subst ho; exact Lt.Does.call rfl (fun Lq aq w' hI hq => Lt.wn0 rfl) (fun Lq aq w' hI hq => Lt.call3 rfl (hI.pure 0 _ _ rfl (hq ⟨0, .data⟩ (by simp) rfl)) (hI.pure 12 _ _ rfl (hq ⟨12, .data⟩ (by simp) rfl)) (hI.pure 22 _ _ rfl (hq ⟨22, .data⟩ (by simp) rfl)) rfl (by simp [go_sem])) (fun w1 hw1 => (PL.out w1).mono (by rintro e w2 ⟨rfl, hb⟩; exact ⟨rfl, hw1.trans (hb.mono hw1.size)⟩))
    | 24, _ => injection ho with ho; subst ho; exact Lt.Does.read rfl (fun Lq aq w' hI hq => Lt.wn0 rfl) (fun Lq aq w' hI hq => Lt.ex_extract rfl (hI.pure 23 _ _ rfl (hq ⟨23, .data⟩ (by simp) rfl)) rfl)
    | 25, _ => injection ho with ho; subst ho; exact Lt.Does.read rfl (fun Lq aq w' hI hq => Lt.wn0 rfl) (fun Lq aq w' hI hq => Lt.ex_extract rfl (hI.pure 23 _ _ rfl (hq ⟨23, .data⟩ (by simp) rfl)) rfl)
    | 26, _ => injection ho with ho; subst ho; exact Lt.Does.read rfl (fun Lq aq w' hI hq => Lt.wn0 rfl) (fun Lq aq w' hI hq => Lt.ex_assign rfl (hI.pure 24 _ _ rfl (hq ⟨24, .data⟩ (by simp) rfl)))
    | 27, _ => injection ho with ho; subst ho; exact Lt.Does.read rfl (fun Lq aq w' hI hq => Lt.wn0 rfl) (fun Lq aq w' hI hq => Lt.ex_assign rfl (hI.pure 25 _ _ rfl (hq ⟨25, .data⟩ (by simp) rfl)))
  case fin =>
    intro Lq a' w' hI hall
    have hw := hI.world
    obtain rfl : a' = ⟨#[.agg #[.int .i64 s0, .int .i64 s1, .int .i64 s2, .int .i64 s3, .int .i64 s4, .int .i64 s5], .int .i64 a, .int .i64 b, .pointer (some ⟨w.heap.size, 0, none⟩), undef, undef, .int .i64 v, .int .i64 e, .agg #[.int .i64 s0, .int .i64 s1, .int .i64 s2, .int .i64 s3, .int .i64 s4, .int .i64 s5], .int .i64 a, .pointer (some ⟨w.heap.size, 2, none⟩), .int .i64 s2, .int .i64 (IntKind.i64.wrap (s2 - 1)), .bool false, .bool false, undef, undef, undef, undef, undef, .bool false, .pointer (some ⟨w.heap.size, 2, none⟩), .int .i64 s2, .int .i64 (IntKind.i64.wrap (8 + s2)), .int .i64 a, .pointer (some ⟨w.heap.size, 3, none⟩), .int .i64 s3, .int .i64 (IntKind.i64.wrap (a * s3)), .int .i64 (IntKind.i64.wrap ((IntKind.i64.wrap (8 + s2)) + (IntKind.i64.wrap (a * s3)))), .int .i64 b, .int .i64 (IntKind.i64.wrap ((IntKind.i64.wrap ((IntKind.i64.wrap (8 + s2)) + (IntKind.i64.wrap (a * s3)))) + b)), .tuple #[.int .i64 v, .int .i64 e], .int .i64 v, .int .i64 e], []⟩ := Lt.act_eq a' [.agg #[.int .i64 s0, .int .i64 s1, .int .i64 s2, .int .i64 s3, .int .i64 s4, .int .i64 s5], .int .i64 a, .int .i64 b, .pointer (some ⟨w.heap.size, 0, none⟩), undef, undef, .int .i64 v, .int .i64 e, .agg #[.int .i64 s0, .int .i64 s1, .int .i64 s2, .int .i64 s3, .int .i64 s4, .int .i64 s5], .int .i64 a, .pointer (some ⟨w.heap.size, 2, none⟩), .int .i64 s2, .int .i64 (IntKind.i64.wrap (s2 - 1)), .bool false, .bool false, undef, undef, undef, undef, undef, .bool false, .pointer (some ⟨w.heap.size, 2, none⟩), .int .i64 s2, .int .i64 (IntKind.i64.wrap (8 + s2)), .int .i64 a, .pointer (some ⟨w.heap.size, 3, none⟩), .int .i64 s3, .int .i64 (IntKind.i64.wrap (a * s3)), .int .i64 (IntKind.i64.wrap ((IntKind.i64.wrap (8 + s2)) + (IntKind.i64.wrap (a * s3)))), .int .i64 b, .int .i64 (IntKind.i64.wrap ((IntKind.i64.wrap ((IntKind.i64.wrap (8 + s2)) + (IntKind.i64.wrap (a * s3)))) + b)), .tuple #[.int .i64 v, .int .i64 e], .int .i64 v, .int .i64 e] hI.df (by rw [hI.sz]; rfl) (fun k hk => by
      have hk' : k < 34 := hk
      match k, hk' with
      | 0, _ => exact hI.fix 0 (Lt.notD rfl)
      | 1, _ => exact hI.fix 1 (Lt.notD rfl)
      | 2, _ => exact hI.fix 2 (Lt.notD rfl)
      | 3, _ => exact hI.fix 3 (Lt.notD rfl)
      | 4, _ => exact hI.fix 4 (Lt.notD rfl)
      | 5, _ => exact hI.fix 5 (Lt.notD rfl)
      | 6, _ => exact hI.pure 26 6 _ rfl (hall 26 (by decide))
      | 7, _ => exact hI.pure 27 7 _ rfl (hall 27 (by decide))
      | 8, _ => exact hI.pure 0 8 _ rfl (hall 0 (by decide))
      | 9, _ => exact hI.pure 1 9 _ rfl (hall 1 (by decide))
      | 10, _ => exact hI.pure 2 10 _ rfl (hall 2 (by decide))
      | 11, _ => exact hI.pure 3 11 _ rfl (hall 3 (by decide))
      | 12, _ => exact hI.pure 4 12 _ rfl (hall 4 (by decide))
      | 13, _ => exact hI.pure 5 13 _ rfl (hall 5 (by decide))
      | 14, _ => exact hI.pure 6 14 _ rfl (hall 6 (by decide))
      | 15, _ => exact hI.pure 7 15 _ rfl (hall 7 (by decide))
      | 16, _ => exact hI.pure 8 16 _ rfl (hall 8 (by decide))
      | 17, _ => exact hI.pure 9 17 _ rfl (hall 9 (by decide))
      | 18, _ => exact hI.pure 10 18 _ rfl (hall 10 (by decide))
      | 19, _ => exact hI.pure 11 19 _ rfl (hall 11 (by decide))
      | 20, _ => exact hI.pure 12 20 _ rfl (hall 12 (by decide))
      | 21, _ => exact hI.pure 13 21 _ rfl (hall 13 (by decide))
      | 22, _ => exact hI.pure 14 22 _ rfl (hall 14 (by decide))
      | 23, _ => exact hI.pure 15 23 _ rfl (hall 15 (by decide))
      | 24, _ => exact hI.pure 16 24 _ rfl (hall 16 (by decide))
      | 25, _ => exact hI.pure 17 25 _ rfl (hall 17 (by decide))
      | 26, _ => exact hI.pure 18 26 _ rfl (hall 18 (by decide))
      | 27, _ => exact hI.pure 19 27 _ rfl (hall 19 (by decide))
      | 28, _ => exact hI.pure 20 28 _ rfl (hall 20 (by decide))
      | 29, _ => exact hI.pure 21 29 _ rfl (hall 21 (by decide))
      | 30, _ => exact hI.pure 22 30 _ rfl (hall 22 (by decide))
      | 31, _ => exact hI.pure 23 31 _ rfl (hall 23 (by decide))
      | 32, _ => exact hI.pure 24 32 _ rfl (hall 24 (by decide))
      | 33, _ => exact hI.pure 25 33 _ rfl (hall 25 (by decide))
      | q + 34, hq => exact absurd hq (by omega))
    rename_i K2 hK2
    refine hK2 _ _ ?_
    go_wp2_with fail
    go_ret2
    exact ⟨rfl, (K.out _ hw).1⟩

end Shape
end Go.Proofs.Ytecjegjnnahddaa

/-
  View: steps played again, pure; the package's replay of one step.
-/
namespace Go.Proofs.Ytecjegjnnahddaa
open Go.RowKit
set_option linter.unusedVariables false
set_option linter.unusedSimpArgs false
set_option linter.unnecessarySimpa false
set_option maxRecDepth 20000
namespace Vw
open Shape

/-- A step. -/
structure Sp where
  ha : Int
  ac : Int
  at' : Int
  hd : Int
  pt : Int
  ok : Bool
def Sp.cells (x : Sp) : List Value := [.int .i64 x.ha, .int .i64 x.ac, .int .i64 x.at', .int .u64 x.hd, .int .u64 x.pt, .bool x.ok]
def Sp.cell (x : Sp) (i : Nat) : Value := lrow x.cells i
/-- One step made, if it fits. -/
def one (m : Nat) (g : Nat → Int) (x : Sp) : Option (Nat → Int) :=
  if 0 ≤ x.at' ∧ x.at' < (m : Int) then (if x.hd = g x.at'.toNat then some (putF g x.at'.toNat x.pt) else none) else (if x.hd = 0 ∧ x.pt = 0 then some g else none)
def rp (m : Nat) (a : Nat → Sp) (g : Nat → Int) : Nat → Option (Nat → Int)
  | 0 => some g
  | n + 1 => (rp m a g n).bind fun g' => one m g' (a n)
theorem rp_none {m : Nat} {a : Nat → Sp} {g : Nat → Int} {k : Nat} (h : rp m a g k = none) : ∀ n, k ≤ n → rp m a g n = none := by
  intro n hn
  induction n with
  | zero => cases (show k = 0 by omega); exact h
  | succ n ih =>
    by_cases e : k = n + 1
    · subst e; exact h
    · simp only [rp, ih (by omega)]
      rfl
def rdm (m : Nat) (g : Nat → Int) : Option (Nat → Int) → Int × Nat × (Nat → Int)
  | none => (130, 0, g)
  | some g' => (0, m, g')
/-- What Replay tells: the error, and the words. -/
def rd (m ns : Nat) (n : Int) (a : Nat → Sp) (g : Nat → Int) : Int × Nat × (Nat → Int) :=
  if 4096 < m ∨ 65536 < ns then (1, 0, g) else if n < 0 ∨ (ns : Int) < n then (2, 0, g) else rdm m g (rp m a g n.toNat)
/-- Steps as they are seen. -/
def SeesP (w : World) (ao : Option Addr) (n : Nat) (a : Nat → Sp) : Prop :=
  ∀ j, j < n → ∃ b off, ao = some ⟨b, off, none⟩ ∧ b < w.heap.size ∧ ∀ i, i < 6 → w.cell? ⟨b, off + j * 6 + i, none⟩ = some ((a j).cell i)
theorem SeesP.on {w w' : World} {ao : Option Addr} {n : Nat} {a : Nat → Sp} (h : SeesP w ao n a) (hb : Below w.heap.size w w') : SeesP w' ao n a :=
  fun j hj => by obtain ⟨b, off, e, hl, hc⟩ := h j hj; exact ⟨b, off, e, Nat.lt_of_lt_of_le hl hb.size, fun i hi => (hb.cell (p := ⟨b, off + j * 6 + i, none⟩) hl).trans (hc i hi)⟩
theorem SeesP.cells {w : World} {ao : Option Addr} {n : Nat} {a : Nat → Sp} (h : SeesP w ao n a) {j : Nat} (hj : j < n) : ∃ b off, ao = some ⟨b, off, none⟩ ∧ b < w.heap.size ∧ w.cell? ⟨b, off + j * 6, none⟩ = some (.int .i64 (a j).ha) ∧ w.cell? ⟨b, off + j * 6 + 1, none⟩ = some (.int .i64 (a j).ac) ∧ w.cell? ⟨b, off + j * 6 + 2, none⟩ = some (.int .i64 (a j).at') ∧ w.cell? ⟨b, off + j * 6 + 3, none⟩ = some (.int .u64 (a j).hd) ∧ w.cell? ⟨b, off + j * 6 + 4, none⟩ = some (.int .u64 (a j).pt) ∧ w.cell? ⟨b, off + j * 6 + 5, none⟩ = some (.bool (a j).ok) := by
  obtain ⟨b, off, e, hl, hc⟩ := h j hj
  exact ⟨b, off, e, hl, (by have := hc 0 (by decide); simpa [Sp.cell, lrow, Sp.cells] using this), hc 1 (by decide), hc 2 (by decide), hc 3 (by decide), hc 4 (by decide), hc 5 (by decide)⟩
theorem wcs_put (n : Nat) (f : Nat → Int) (k : Nat) (v : Int) : wcs n (putF f k v) = (wcs n f).set k (.int .u64 v) := by
  apply List.ext_getElem?
  intro i
  rw [List.getElem?_set]
  by_cases hi : i < n
  · by_cases e : k = i
    · subst e
      rw [wcs_get _ hi]
      simp [putF, wcs_len, hi]
    · rw [wcs_get _ hi, if_neg e, wcs_get _ hi]
      simp [putF, Ne.symm e]
  · have h1 : (wcs n (putF f k v))[i]? = none := List.getElem?_eq_none (by rw [wcs_len]; omega)
    have h2 : (wcs n f)[i]? = none := List.getElem?_eq_none (by rw [wcs_len]; omega)
    rw [h1, h2]
    by_cases e : k = i
    · subst e; simp [wcs_len, hi]
    · simp [e]
theorem owns_put {w : World} {base g cap n : Nat} {f : Nat → Int} (h : w.ownsRow base 27 1 (.slice (some ⟨g, 0, none⟩) n cap) n (wcs n f)) (k : Nat) (v : Int) : (w.setCell ⟨g, k, none⟩ (.int .u64 v)).ownsRow base 27 1 (.slice (some ⟨g, 0, none⟩) n cap) n (wcs n (putF f k v)) := by
  obtain ⟨hl, ⟨h1, _⟩ | ⟨g', cap', cur, h1, hb, hg, hc, hm, hs, ht⟩⟩ := h
  · cases h1
  · cases h1
    refine ⟨by rw [wcs_len]; omega, .inr ⟨g, cap, cur.setIfInBounds k (.int .u64 v), rfl, hb, ?_, hc, hm, by simpa using hs, ?_⟩⟩
    · simp [World.setCell, Array.getElem?_modify, hg]
    · rw [wcs_put, ← ht]
      simp [List.take_set]
theorem sbox (w : World) (ha ac at' hd pt : Int) (ok : Bool) : ∃ W0, w.alloc (.cells #[.int .i64 ha, .int .i64 ac, .int .i64 at', .int .u64 hd, .int .u64 pt, .bool ok] 47) = W0 ∧ Below w.heap.size w W0 ∧ W0.rowIs w.heap.size 47 6 (lrow [.int .i64 ha, .int .i64 ac, .int .i64 at', .int .u64 hd, .int .u64 pt, .bool ok]) := ⟨_, rfl, (Below.refl _ w).alloc (Nat.le_refl _) _, rowL_alloc w [.int .i64 ha, .int .i64 ac, .int .i64 at', .int .u64 hd, .int .u64 pt, .bool ok] _ rfl⟩

set_option maxHeartbeats 2000000 in
theorem one_ok {m base g : Nat} {f : Nat → Int} {ha ac at' hd pt : Int} {ok : Bool} {w : World} (hO : w.ownsRow base 27 1 (.slice (some ⟨g, 0, none⟩) m m) m (wcs m f)) (hm : m ≤ 4096) (hb : base ≤ w.heap.size) :
    Calls Try.prog 38 #[.slice (some ⟨g, 0, none⟩) m m, .agg #[.int .i64 ha, .int .i64 ac, .int .i64 at', .int .u64 hd, .int .u64 pt, .bool ok]] w fun e w' => (match one m f ⟨ha, ac, at', hd, pt, ok⟩ with | none => e = .returned (.bool false) | some f' => e = .returned (.bool true) ∧ Hid (w'.ownsRow base 27 1 (.slice (some ⟨g, 0, none⟩) m m) m (wcs m f'))) ∧ Below base w w' := by
  obtain ⟨W0, hW0, B0, R0⟩ := sbox w ha ac at' hd pt ok
  have HB := hide (B0.mono hb)
  have c2 : W0.cell? ⟨w.heap.size, 2, none⟩ = some (.int .i64 at') := R0.cell (i := 2) (by decide)
  have c3 : W0.cell? ⟨w.heap.size, 3, none⟩ = some (.int .u64 hd) := R0.cell (i := 3) (by decide)
  have c4 : W0.cell? ⟨w.heap.size, 4, none⟩ = some (.int .u64 pt) := R0.cell (i := 4) (by decide)
  have O0 := hide (owns_on hO B0)
  have HG := hide (show base ≤ g from (hO.lt g rfl).1)
  have hgl : g < w.heap.size := (hO.lt g rfl).2
  clear R0 B0 hO
  by_cases hat : 0 ≤ at' ∧ at' < (m : Int)
  · obtain ⟨k, rfl⟩ : ∃ k : Nat, at' = (k : Int) := ⟨at'.toNat, by omega⟩
    have hk : k < m := by omega
    have hk2 : (k : Int) < (m : Int) := by omega
    have l1 : ¬ ((k : Int) < 0) := by omega
    have l2 : ¬ ((m : Int) ≤ (k : Int)) := by omega
    obtain ⟨b', e', _, _, ck, fk⟩ := owns_cell O0.out (wcs_get f hk)
    cases e'
    have hone : one m f ⟨ha, ac, (k : Int), hd, pt, ok⟩ = if hd = f k then some (putF f k pt) else none := by
      unfold one
      rw [if_pos hat]
      rfl
    rw [hone]
    clear hone hat
    by_cases hh : hd = f k
    · rw [if_pos hh]
      have hh2 : (hd != f k) = false := by simp [hh]
      clear hh
      go_enter Try.func38, Try.ntmps38
      go_upto_region 3 with (fail)
      go_quiet (fail)
      go_wp2
      go_ret
      exact ⟨⟨rfl, owns_put (w := W0.drewN nq) O0.out k pt⟩, (below_drewN HB.out nq).setCell HG.out _⟩
    · rw [if_neg hh]
      have hh2 : (hd != f k) = true := by simp [hh]
      go_enter Try.func38, Try.ntmps38
      go_upto_region 3 with (fail)
      go_quiet (fail)
      go_wp2
      go_ret
      exact ⟨rfl, below_drewN HB.out _⟩
  · have hone : one m f ⟨ha, ac, at', hd, pt, ok⟩ = if hd = 0 ∧ pt = 0 then some f else none := by
      unfold one
      rw [if_neg hat]
    rw [hone]
    clear hone
    by_cases hn : at' < 0
    · clear hat
      by_cases h0 : hd = 0
      · by_cases p0 : pt = 0
        · rw [if_pos ⟨h0, p0⟩]
          subst h0 p0
          go_enter Try.func38, Try.ntmps38
          go_wp2_with fail
          go_ret
          exact ⟨⟨rfl, O0.out⟩, HB.out⟩
        · rw [if_neg (fun h => p0 h.2)]
          have p1 : (pt == 0) = false := by simp [p0]
          subst h0
          go_enter Try.func38, Try.ntmps38
          go_wp2_with fail
          go_ret
          exact ⟨rfl, HB.out⟩
      · rw [if_neg (fun h => h0 h.1)]
        have h1 : (hd == 0) = false := by simp [h0]
        go_enter Try.func38, Try.ntmps38
        go_wp2_with fail
        go_ret
        exact ⟨rfl, HB.out⟩
    · have hge : (m : Int) ≤ at' := by omega
      clear hat
      by_cases h0 : hd = 0
      · by_cases p0 : pt = 0
        · rw [if_pos ⟨h0, p0⟩]
          subst h0 p0
          go_enter Try.func38, Try.ntmps38
          go_wp2_with fail
          go_ret
          exact ⟨⟨rfl, O0.out⟩, HB.out⟩
        · rw [if_neg (fun h => p0 h.2)]
          have p1 : (pt == 0) = false := by simp [p0]
          subst h0
          go_enter Try.func38, Try.ntmps38
          go_wp2_with fail
          go_ret
          exact ⟨rfl, HB.out⟩
      · rw [if_neg (fun h => h0 h.1)]
        have h1 : (hd == 0) = false := by simp [h0]
        go_enter Try.func38, Try.ntmps38
        go_wp2_with fail
        go_ret
        exact ⟨rfl, HB.out⟩
end Vw
end Go.Proofs.Ytecjegjnnahddaa

/-
  View: Replay of the package
-/
namespace Go.Proofs.Ytecjegjnnahddaa
open Go.RowKit
set_option linter.unusedVariables false
set_option linter.unusedSimpArgs false
set_option linter.unnecessarySimpa false
set_option maxRecDepth 20000
namespace Vw
open Shape

theorem slice_h {sa : Option Addr} {ns cs : Nat} (q : Nat) (hq : q ≤ cs) (hp : 0 < q → ∃ b off, sa = some ⟨b, off, none⟩) : ∃ p, (∀ w, (Instr.slice 45 (.slice sa ns cs) none (some (.int .i64 (q : Int))) none).run Try.prog w = .ok (.slice p q cs) w) ∧ (0 < q → p = sa) := by
  refine ⟨if cs = 0 then sa else sa.map (·.add 0), fun w => ?_, fun h => ?_⟩
  · have hs : (sizeOf (Try.prog.elem 45)).run Try.prog w = .ok 6 w := by kernel_rfl
    rw [run_slice_h w 45 sa ns cs (by kernel_rfl) .i64 _ (by omega) (by omega), hs]
    simp only [Result.andThen, sliced]
    simp
  · obtain ⟨b, off, rfl⟩ := hp h
    rw [if_neg (by omega)]
    simp [Go.WideShapes.add_plain]
def E1 (m ns : Nat) : Prop := 4096 < m ∨ 65536 < ns
theorem rd1 {m ns : Nat} {n : Int} {a : Nat → Sp} {f : Nat → Int} (h : 4096 < m ∨ 65536 < ns) : rd m ns n a f = (1, 0, f) := by unfold rd; rw [if_pos h]
theorem rd2 {m ns : Nat} {n : Int} {a : Nat → Sp} {f : Nat → Int} (h : ¬ (4096 < m ∨ 65536 < ns)) (h2 : n < 0 ∨ (ns : Int) < n) : rd m ns n a f = (2, 0, f) := by unfold rd; rw [if_neg h, if_pos h2]
theorem rd3 {m ns q : Nat} {a : Nat → Sp} {f : Nat → Int} (h : ¬ (4096 < m ∨ 65536 < ns)) (h2 : q ≤ ns) : rd m ns (q : Int) a f = rdm m f (rp m a f q) := by
  unfold rd
  rw [if_neg h, if_neg (by omega)]
  rfl

set_option maxHeartbeats 4000000 in
theorem replay_v {ao sa : Option Addr} {m cap ns cs : Nat} {n : Int} {f : Nat → Int} {a : Nat → Sp} {w : World} (hS : Sees w w.heap.size ao m f) (hP : SeesP w sa ns a) (hcs : ns ≤ cs) (hcs2 : cs ≤ 9223372036854775807) (hm9 : m ≤ 9223372036854775807) : Calls Try.prog 16 #[.slice ao m cap, .slice sa ns cs, .int .i64 n] w fun e w' => (∃ go gc, e = .returned (.tuple #[.slice go (rd m ns n a f).2.1 gc, .int .i64 (rd m ns n a f).1]) ∧ Hid (w'.ownsRow w.heap.size 27 1 (.slice go (rd m ns n a f).2.1 gc) (rd m ns n a f).2.1 (wcs (rd m ns n a f).2.1 (rd m ns n a f).2.2))) ∧ Below w.heap.size w w' := by
  by_cases h1 : 4096 < m ∨ 65536 < ns
  · rw [rd1 h1]
    by_cases h2 : 4096 < m
    · have h3 : (4096 : Int) < (m : Int) := by omega
      go_enter Try.func16, Try.ntmps16
      go_wp2_with fail
      go_ret2
      exact ⟨⟨none, 0, rfl, World.ownsRow_nil _ _ _ _⟩, Below.refl _ _⟩
    · have h3 : ¬ ((4096 : Int) < (m : Int)) := by omega
      have h4 : (65536 : Int) < (ns : Int) := by omega
      go_enter Try.func16, Try.ntmps16
      go_wp2_with fail
      go_ret2
      exact ⟨⟨none, 0, rfl, World.ownsRow_nil _ _ _ _⟩, Below.refl _ _⟩
  · have g1 : ¬ ((4096 : Int) < (m : Int)) := by omega
    have g2 : ¬ ((65536 : Int) < (ns : Int)) := by omega
    by_cases h2 : n < 0 ∨ (ns : Int) < n
    · rw [rd2 h1 h2]
      by_cases h3 : n < 0
      · go_enter Try.func16, Try.ntmps16
        go_wp2_with fail
        go_ret2
        exact ⟨⟨none, 0, rfl, World.ownsRow_nil _ _ _ _⟩, Below.refl _ _⟩
      · have h4 : (ns : Int) < n := by omega
        go_enter Try.func16, Try.ntmps16
        go_wp2_with fail
        go_ret2
        exact ⟨⟨none, 0, rfl, World.ownsRow_nil _ _ _ _⟩, Below.refl _ _⟩
    · obtain ⟨q, rfl⟩ : ∃ q : Nat, n = (q : Int) := ⟨n.toNat, by omega⟩
      have hq : q ≤ ns := by omega
      rw [rd3 h1 hq]
      obtain ⟨D, hD⟩ : ∃ D : Int × Nat × (Nat → Int), rdm m f (rp m a f q) = D := ⟨_, rfl⟩
      rw [hD]
      have HD := hide hD
      clear hD
      have hm : m ≤ 4096 := by omega
      have hns : ns ≤ 65536 := by omega
      have g3 : ¬ ((q : Int) < 0) := by omega
      have g4 : ¬ ((ns : Int) < (q : Int)) := by omega
      obtain ⟨ps, hsl, hps⟩ := slice_h (sa := sa) (ns := ns) (cs := cs) q (by omega) (fun h => by obtain ⟨b, off, e, _⟩ := hP 0 (by omega); exact ⟨b, off, e⟩)
      have HPS := hide hps
      have HP := hide hP
      have CV := hide (copied_v (cap := cap) hS (Nat.le_refl _) (by omega))
      clear hS hP hps h1 h2
      go_enter Try.func16, Try.ntmps16
      go_wp2_with (go_at_call 37; refine CV.out.mono ?_; rintro e w1 ⟨g0, rfl, HO1, hb1⟩; have HB1 := hide hb1; clear hb1)
      go_loopw [33] (fun i wr => ∃ (k : Nat) (f' : Nat → Int), k ≤ q ∧ i = .int .i64 k ∧ Hid (rp m a f k = some f') ∧ Hid (wr.ownsRow w.heap.size 27 1 (.slice (some ⟨g0, 0, none⟩) m m) m (wcs m f')) ∧ Hid (Below w.heap.size w wr)) (fun i _ => q - (intOf i).toNat)
      case atStart => exact ⟨0, f, Nat.zero_le _, rfl, show rp m a f 0 = some f from rfl, HO1.out, HB1.out⟩
      case round =>
        obtain ⟨k, f', hk, rfl, HRP, HO, HW⟩ := hrel
        by_cases hlt : k < q
        · have hkn : (k : Int) < (q : Int) := by omega
          obtain ⟨b, off, e0, hbl, o0, o1, o2, o3, o4, o5⟩ := (HP.out.on HW.out).cells (show k < ns by omega)
          obtain rfl := HPS.out (by omega)
          subst e0
          obtain ⟨x, hx⟩ : ∃ x, a k = x := ⟨_, rfl⟩
          have HX := hide hx
          rw [hx] at o0 o1 o2 o3 o4 o5
          obtain ⟨ha, ac, at', hd, pt, ok⟩ := x
          simp only at o0 o1 o2 o3 o4 o5
          clear hx
          go_upto_region 9 with (fail)
          obtain ⟨W4, hW4, B4, R4⟩ := sbox wr ha ac at' hd pt ok
          have HB4 := hide (HW.out.trans (B4.mono HW.out.size))
          have p0 : W4.cell? ⟨wr.heap.size, 0, none⟩ = some (.int .i64 ha) := R4.cell (i := 0) (by decide)
          have p1 : W4.cell? ⟨wr.heap.size, 1, none⟩ = some (.int .i64 ac) := R4.cell (i := 1) (by decide)
          have p2 : W4.cell? ⟨wr.heap.size, 2, none⟩ = some (.int .i64 at') := R4.cell (i := 2) (by decide)
          have p3 : W4.cell? ⟨wr.heap.size, 3, none⟩ = some (.int .u64 hd) := R4.cell (i := 3) (by decide)
          have p4 : W4.cell? ⟨wr.heap.size, 4, none⟩ = some (.int .u64 pt) := R4.cell (i := 4) (by decide)
          have p5 : W4.cell? ⟨wr.heap.size, 5, none⟩ = some (.bool ok) := R4.cell (i := 5) (by decide)
          have ON := hide (one_ok (ha := ha) (ac := ac) (at' := at') (hd := hd) (pt := pt) (ok := ok) (owns_on HO.out B4) hm HB4.out.size)
          have NX := hide (show rp m a f (k + 1) = one m f' ⟨ha, ac, at', hd, pt, ok⟩ by simp only [rp]; rw [HRP.out, HX.out]; rfl)
          simp only [hW4]
          clear hW4 o0 o1 o2 o3 o4 o5 R4 B4
          cases hon : one m f' ⟨ha, ac, at', hd, pt, ok⟩ with
          | none =>
            rw [hon] at ON NX
            simp only at ON
            have NN := hide (show D = (130, 0, f) by rw [← HD.out, rp_none NX.out q (by omega)]; rfl)
            go_wp2_with (go_at_call 38; refine ON.out.mono ?_; rintro e w5 ⟨rfl, hb5⟩; have HB5 := hide hb5; clear hb5)
            go_ret2
            rw [NN.out]
            exact ⟨⟨none, 0, rfl, World.ownsRow_nil _ _ _ _⟩, HB4.out.trans HB5.out⟩
          | some f2 =>
            rw [hon] at ON NX
            simp only at ON
            go_wp2_with (go_at_call 38; refine ON.out.mono ?_; rintro e w5 ⟨⟨rfl, HO5⟩, hb5⟩; have HB5 := hide hb5; clear hb5)
            go_roundw
            case rel => exact ⟨k + 1, f2, by omega, by go_num, NX.out, HO5.out, HB4.out.trans HB5.out⟩
            case measure => simp [intOf]; omega
        · have hkn : ¬ (k : Int) < (q : Int) := by omega
          have hkq : k = q := by omega
          have RPQ := hide (show D = (0, m, f') by rw [← HD.out, ← hkq, HRP.out]; rfl)
          clear hkq
          go_wp2_with fail
          go_ret2
          rw [RPQ.out]
          exact ⟨⟨some ⟨g0, 0, none⟩, m, rfl, HO.out⟩, HW.out⟩
end Vw
end Go.Proofs.Ytecjegjnnahddaa

/-
  View: Replay of the document
-/
namespace Go.Proofs.Ytecjegjnnahddaa
open Go.RowKit
set_option linter.unusedVariables false
set_option linter.unusedSimpArgs false
set_option linter.unnecessarySimpa false
set_option maxRecDepth 20000
namespace Vw
open Shape

set_option maxHeartbeats 1000000 in
theorem copied_r {w : World} {B : Nat} {ao : Option Addr} {n cap : Nat} {f : Nat → Int} (h : Sees w B ao n f) (hN : ao = none → n = 0 ∧ cap = 0) (hn : n ≤ 70000) :
    Calls Try.prog 24 #[.slice ao n cap] w fun e w' => (∃ go gc, e = .returned (.slice go n gc) ∧ Hid (w'.ownsRow w.heap.size 27 1 (.slice go n gc) n (wcs n f))) ∧ Below w.heap.size w w' := by
  obtain ⟨iU, hiU, hzU, hsU, hyU⟩ := infoU
  have HN := hide (news_of h)
  cases ao with
  | none =>
    obtain ⟨rfl, rfl⟩ := hN rfl
    go_enter Try.func24, Try.ntmps24
    go_wp2_with (at_builtin; refine wpList_append_own_none rfl (.tmp 4) (.tmp 5) 24 rfl w.heap.size 27 iU 1 Try.underlying24 hiU (.slice none 0 0) 0 [] rfl (World.ownsRow_nil _ _ _ _) rfl ?_)
    go_ret
    exact ⟨⟨none, 0, rfl, World.ownsRow_nil _ _ _ _⟩, Below.refl _ _⟩
  | some ad =>
    go_enter Try.func24, Try.ntmps24
    go_wp2_with (at_builtin; refine wpList_append_own_at _ rfl (.tmp 4) (.tmp 5) 24 rfl w.heap.size 27 iU (.int .u64 0) 1 8 Try.underlying24 hiU hzU hsU hyU rfl (by decide) (.slice none 0 0) 0 [] rfl (World.ownsRow_nil _ _ _ _) ad n cap (wcs n f) rfl (by rw [wcs_len]; omega) (HN.out ad rfl) (wcs_one n f) (by unfold maxLen; omega) (by omega) (Nat.le_refl _) ?_; intro v2 w2 hown hgr _ _; have O2 := hide hown; have G2 := hide hgr; clear hown hgr)
    go_ret
    have O3 := O2.out
    simp only [Nat.zero_add, List.nil_append] at O3
    obtain ⟨go', gc, e2⟩ := own_slice O3
    subst e2
    exact ⟨⟨go', gc, rfl, O3⟩, below_grown (Below.refl _ _) (World.ownsRow_nil w w.heap.size 27 1) G2.out (Nat.le_refl _)⟩

set_option maxHeartbeats 4000000 in
theorem replay_r {ao sa : Option Addr} {m cap ns cs : Nat} {n : Int} {f : Nat → Int} {a : Nat → Sp} {w : World} (hS : Sees w w.heap.size ao m f) (hN : ao = none → m = 0 ∧ cap = 0) (hP : SeesP w sa ns a) (hcs : ns ≤ cs) (hcs2 : cs ≤ 9223372036854775807) (hm9 : m ≤ 9223372036854775807) : Calls Try.prog 15 #[.slice ao m cap, .slice sa ns cs, .int .i64 n] w fun e w' => (∃ go gc, e = .returned (.tuple #[.slice go (rd m ns n a f).2.1 gc, .int .i64 (rd m ns n a f).1]) ∧ Hid (w'.ownsRow w.heap.size 27 1 (.slice go (rd m ns n a f).2.1 gc) (rd m ns n a f).2.1 (wcs (rd m ns n a f).2.1 (rd m ns n a f).2.2))) ∧ Below w.heap.size w w' := by
  by_cases h1 : 4096 < m ∨ 65536 < ns
  · rw [rd1 h1]
    by_cases h2 : 4096 < m
    · have h3 : (4096 : Int) < (m : Int) := by omega
      go_enter Try.func15, Try.ntmps15
      go_wp2_with fail
      go_ret2
      exact ⟨⟨none, 0, rfl, World.ownsRow_nil _ _ _ _⟩, Below.refl _ _⟩
    · have h3 : ¬ ((4096 : Int) < (m : Int)) := by omega
      have h4 : (65536 : Int) < (ns : Int) := by omega
      go_enter Try.func15, Try.ntmps15
      go_wp2_with fail
      go_ret2
      exact ⟨⟨none, 0, rfl, World.ownsRow_nil _ _ _ _⟩, Below.refl _ _⟩
  · have g1 : ¬ ((4096 : Int) < (m : Int)) := by omega
    have g2 : ¬ ((65536 : Int) < (ns : Int)) := by omega
    by_cases h2 : n < 0 ∨ (ns : Int) < n
    · rw [rd2 h1 h2]
      by_cases h3 : n < 0
      · have h5 : True := trivial
        go_enter Try.func15, Try.ntmps15
        go_wp2_with fail
        go_ret2
        exact ⟨⟨none, 0, rfl, World.ownsRow_nil _ _ _ _⟩, Below.refl _ _⟩
      · have h4 : (ns : Int) < n := by omega
        go_enter Try.func15, Try.ntmps15
        go_wp2_with fail
        go_ret2
        exact ⟨⟨none, 0, rfl, World.ownsRow_nil _ _ _ _⟩, Below.refl _ _⟩
    · obtain ⟨q, rfl⟩ : ∃ q : Nat, n = (q : Int) := ⟨n.toNat, by omega⟩
      have hq : q ≤ ns := by omega
      rw [rd3 h1 hq]
      obtain ⟨D, hD⟩ : ∃ D : Int × Nat × (Nat → Int), rdm m f (rp m a f q) = D := ⟨_, rfl⟩
      rw [hD]
      have HD := hide hD
      clear hD
      have hm : m ≤ 4096 := by omega
      have hns : ns ≤ 65536 := by omega
      have g3 : ¬ ((q : Int) < 0) := by omega
      have g4 : ¬ ((ns : Int) < (q : Int)) := by omega
      have HP := hide hP
      have CV := hide (copied_r (cap := cap) hS hN (by omega))
      clear hS hP hN h1 h2
      go_enter Try.func15, Try.ntmps15
      go_wp2_with (go_at_call 24; refine CV.out.mono ?_; rintro e w1 ⟨⟨go', gc, rfl, HO1⟩, hb1⟩; have HB1 := hide hb1; clear hb1)
      go_loopw [9] (fun i wr => ∃ (k : Nat) (f' : Nat → Int), k ≤ q ∧ i = .int .i64 k ∧ Hid (rp m a f k = some f') ∧ Hid (wr.ownsRow w.heap.size 27 1 (.slice go' m gc) m (wcs m f')) ∧ Hid (Below w.heap.size w wr)) (fun i _ => q - (intOf i).toNat)
      case atStart => exact ⟨0, f, Nat.zero_le _, rfl, show rp m a f 0 = some f from rfl, HO1.out, HB1.out⟩
      case round =>
        obtain ⟨k, f', hk, rfl, HRP, HO, HW⟩ := hrel
        by_cases hlt : k < q
        · have hkn : (k : Int) < (q : Int) := by omega
          have hkns : (k : Int) < (ns : Int) := by omega
          obtain ⟨b, off, e0, hbl, o0, o1, o2, o3, o4, o5⟩ := (HP.out.on HW.out).cells (show k < ns by omega)
          subst e0
          obtain ⟨x, hx⟩ : ∃ x, a k = x := ⟨_, rfl⟩
          have HX := hide hx
          rw [hx] at o0 o1 o2 o3 o4 o5
          obtain ⟨ha, ac, at', hd, pt, ok⟩ := x
          simp only at o0 o1 o2 o3 o4 o5
          clear hx
          go_upto_region 10 with (fail)
          obtain ⟨W4, hW4, B4, R4⟩ := sbox wr ha ac at' hd pt ok
          have HB4 := hide (HW.out.trans (B4.mono HW.out.size))
          have p2 : W4.cell? ⟨wr.heap.size, 2, none⟩ = some (.int .i64 at') := R4.cell (i := 2) (by decide)
          have p3 : W4.cell? ⟨wr.heap.size, 3, none⟩ = some (.int .u64 hd) := R4.cell (i := 3) (by decide)
          have p4 : W4.cell? ⟨wr.heap.size, 4, none⟩ = some (.int .u64 pt) := R4.cell (i := 4) (by decide)
          have O4 := hide (owns_on HO.out B4)
          have NX := hide (show rp m a f (k + 1) = one m f' ⟨ha, ac, at', hd, pt, ok⟩ by simp only [rp]; rw [HRP.out, HX.out]; rfl)
          simp only [hW4]
          clear hW4 o0 o1 o2 o3 o4 o5 R4 B4
          have NON := hide (show one m f' ⟨ha, ac, at', hd, pt, ok⟩ = none → D = (130, 0, f) from fun h => by rw [← HD.out, rp_none (NX.out.trans h) q (by omega)]; rfl)
          by_cases hat : 0 ≤ at' ∧ at' < (m : Int)
          · obtain ⟨t, rfl⟩ : ∃ t : Nat, at' = (t : Int) := ⟨at'.toNat, by omega⟩
            have ht : t < m := by omega
            have ht2 : (t : Int) < (m : Int) := by omega
            have l1 : ¬ ((t : Int) < 0) := by omega
            have l2 : ¬ ((m : Int) ≤ (t : Int)) := by omega
            obtain ⟨g, e', hg1, hg2, ck, fk⟩ := owns_cell O4.out (wcs_get f' ht)
            subst e'
            have hone : one m f' ⟨ha, ac, (t : Int), hd, pt, ok⟩ = if hd = f' t then some (putF f' t pt) else none := by
              unfold one
              rw [if_pos hat]
              rfl
            have HON := hide hone
            clear hone hat
            by_cases hh : hd = f' t
            · have hh2 : (hd != f' t) = false := by simp [hh]
              have NX2 := hide (show rp m a f (k + 1) = some (putF f' t pt) by rw [NX.out, HON.out, if_pos hh])
              clear hh
              go_upto_region 13 with (fail)
              go_quiet (fail)
              go_wp2
              go_roundw
              case rel => exact ⟨k + 1, putF f' t pt, by omega, by go_num, NX2.out, owns_put (w := W4.drewN nq) O4.out t pt, (below_drewN HB4.out nq).setCell hg1 _⟩
              case measure => simp [intOf]; omega
            · have hh2 : (hd != f' t) = true := by simp [hh]
              have NN := hide (NON.out (by rw [HON.out, if_neg hh]))
              clear hh
              go_upto_region 13 with (fail)
              go_quiet (fail)
              go_wp2
              go_ret2
              rw [NN.out]
              exact ⟨⟨none, 0, rfl, World.ownsRow_nil _ _ _ _⟩, below_drewN HB4.out nq⟩
          · have hone : one m f' ⟨ha, ac, at', hd, pt, ok⟩ = if hd = 0 ∧ pt = 0 then some f' else none := by
              unfold one
              rw [if_neg hat]
            have HON := hide hone
            clear hone
            by_cases hn : at' < 0
            · clear hat
              by_cases h0 : hd = 0
              · by_cases p0 : pt = 0
                · have hyes : True := trivial
                  have NX2 := hide (show rp m a f (k + 1) = some f' by rw [NX.out, HON.out, if_pos ⟨h0, p0⟩])
                  subst h0 p0
                  go_wp2_with fail
                  go_roundw
                  case rel => exact ⟨k + 1, f', by omega, by go_num, NX2.out, O4.out, HB4.out⟩
                  case measure => simp [intOf]; omega
                · have NN := hide (NON.out (by rw [HON.out, if_neg (fun h => p0 h.2)]))
                  have p1 : (pt != 0) = true := by simp [p0]
                  subst h0
                  go_wp2_with fail
                  go_ret2
                  rw [NN.out]
                  exact ⟨⟨none, 0, rfl, World.ownsRow_nil _ _ _ _⟩, HB4.out⟩
              · have NN := hide (NON.out (by rw [HON.out, if_neg (fun h => h0 h.1)]))
                have h9 : (hd != 0) = true := by simp [h0]
                go_wp2_with fail
                go_ret2
                rw [NN.out]
                exact ⟨⟨none, 0, rfl, World.ownsRow_nil _ _ _ _⟩, HB4.out⟩
            · have hge : (m : Int) ≤ at' := by omega
              clear hat
              by_cases h0 : hd = 0
              · by_cases p0 : pt = 0
                · have hyes : True := trivial
                  have NX2 := hide (show rp m a f (k + 1) = some f' by rw [NX.out, HON.out, if_pos ⟨h0, p0⟩])
                  subst h0 p0
                  go_wp2_with fail
                  go_roundw
                  case rel => exact ⟨k + 1, f', by omega, by go_num, NX2.out, O4.out, HB4.out⟩
                  case measure => simp [intOf]; omega
                · have NN := hide (NON.out (by rw [HON.out, if_neg (fun h => p0 h.2)]))
                  have p1 : (pt != 0) = true := by simp [p0]
                  subst h0
                  go_wp2_with fail
                  go_ret2
                  rw [NN.out]
                  exact ⟨⟨none, 0, rfl, World.ownsRow_nil _ _ _ _⟩, HB4.out⟩
              · have NN := hide (NON.out (by rw [HON.out, if_neg (fun h => h0 h.1)]))
                have h9 : (hd != 0) = true := by simp [h0]
                go_wp2_with fail
                go_ret2
                rw [NN.out]
                exact ⟨⟨none, 0, rfl, World.ownsRow_nil _ _ _ _⟩, HB4.out⟩
        · have hkn : ¬ (k : Int) < (q : Int) := by omega
          have hkq : k = q := by omega
          have RPQ := hide (show D = (0, m, f') by rw [← HD.out, ← hkq, HRP.out]; rfl)
          clear hkq
          go_wp2_with fail
          go_ret2
          rw [RPQ.out]
          exact ⟨⟨go', gc, rfl, HO.out⟩, HW.out⟩
end Vw
end Go.Proofs.Ytecjegjnnahddaa

/-
  View: the document's places of a right shape
-/
namespace Go.Proofs.Ytecjegjnnahddaa
open Go.RowKit
set_option linter.unusedVariables false
set_option linter.unusedSimpArgs false
set_option linter.unnecessarySimpa false
set_option maxRecDepth 20000
namespace Vw
open Shape

theorem wJ {x y : Int} (h : x = y) (h1 : -9223372036854775808 ≤ y) (h2 : y ≤ 9223372036854775807) : IntKind.i64.wrap x = y := by rw [h, IntKind.wrap_i64]; omega
section
variable {o s h r k : Nat} {s5 : Int} (H : (⟨o, s, h, r, k⟩ : Sh).Ok)
include H
theorem rs_ack (w : World) : Calls Try.prog 23 #[.agg #[.int .i64 (o : Int), .int .i64 (s : Int), .int .i64 (h : Int), .int .i64 (r : Int), .int .i64 (k : Int), .int .i64 s5], .int .i64 0] w fun e w' => e = .returned (.tuple #[.int .i64 8, .int .i64 0]) ∧ Below w.heap.size w w' := by
  have h1 : 0 < h := H.h1
  have h2 : h ≤ 7 := H.h2
  refine rack_of (q := true) (fun w1 => ?_) (fun w1 => ?_) w
  · rw [wJ (y := (h : Int) - 1) rfl (by omega) (by omega)]; exact rwithin_t (by omega) (by omega) w1
  · have := place_ok (s5 := s5) (r5 H) 8 w1
    exact this
theorem rs_weak {j : Nat} (hj : j < k) (w : World) : Calls Try.prog 26 #[.agg #[.int .i64 (o : Int), .int .i64 (s : Int), .int .i64 (h : Int), .int .i64 (r : Int), .int .i64 (k : Int), .int .i64 s5], .int .i64 (j : Int)] w fun e w' => e = .returned (.tuple #[.int .i64 ((bK ⟨o, s, h, r, k⟩ + j : Nat) : Int), .int .i64 0]) ∧ Below w.heap.size w w' := by
  have h2 : h ≤ 7 := H.h2
  have k2 : k ≤ 16 := H.k2
  have hp := (sizes H).1
  simp only at hp
  have hl := lay_out ⟨o, s, h, r, k⟩
  simp only at hl
  refine rweak_of (q := true) (fun w1 => ?_) (fun w1 => ?_) w
  · rw [wJ (y := (k : Int) - 1) rfl (by omega) (by omega)]; exact rwithin_t (by omega) (by omega) w1
  · rw [wJ (x := 8 + (h : Int)) rfl (by omega) (by omega), wJ (x := (h : Int) * (r : Int)) (y := ((h * r : Nat) : Int)) (by simp) (by omega) (by omega), wJ (x := 8 + (h : Int) + ((h * r : Nat) : Int)) rfl (by omega) (by omega), wJ (x := 8 + (h : Int) + ((h * r : Nat) : Int) + (j : Int)) (y := ((bK ⟨o, s, h, r, k⟩ + j : Nat) : Int)) (by omega) (by omega) (by omega)]; exact place_ok (r5 H) _ w1
theorem rs_root {j : Nat} (hj : j < h) (w : World) : Calls Try.prog 25 #[.agg #[.int .i64 (o : Int), .int .i64 (s : Int), .int .i64 (h : Int), .int .i64 (r : Int), .int .i64 (k : Int), .int .i64 s5], .int .i64 (j : Int), .int .i64 0] w fun e w' => e = .returned (.tuple #[.int .i64 ((bR ⟨o, s, h, r, k⟩ + j * r : Nat) : Int), .int .i64 0]) ∧ Below w.heap.size w w' := by
  have h2 : h ≤ 7 := H.h2
  have r1 : 0 < r := H.r1
  have r2 : r ≤ 8 := H.r2
  have hp := (at_root H (j := j) hj).2
  have hl := lay_out ⟨o, s, h, r, k⟩
  simp only at hp hl
  refine rroot_t (q2 := true) (fun w1 => ?_) (fun w1 => ?_) (fun w1 => ?_) w
  · rw [wJ (y := (h : Int) - 1) rfl (by omega) (by omega)]; exact rwithin_t (by omega) (by omega) w1
  · rw [wJ (y := (r : Int) - 1) rfl (by omega) (by omega)]; exact rwithin_t (by omega) (by omega) w1
  · rw [wJ (x := 8 + (h : Int)) rfl (by omega) (by omega), wJ (x := (j : Int) * (r : Int)) (y := ((j * r : Nat) : Int)) (by simp) (by omega) (by omega), wJ (x := 8 + (h : Int) + ((j * r : Nat) : Int)) rfl (by omega) (by omega), wJ (x := 8 + (h : Int) + ((j * r : Nat) : Int) + 0) (y := ((bR ⟨o, s, h, r, k⟩ + j * r : Nat) : Int)) (by omega) (by omega) (by omega)]; exact place_ok (r5 H) _ w1
theorem rs_obj {m : Nat} (hm : m < o) (w : World) : Calls Try.prog 27 #[.agg #[.int .i64 (o : Int), .int .i64 (s : Int), .int .i64 (h : Int), .int .i64 (r : Int), .int .i64 (k : Int), .int .i64 s5], .int .i64 ((m : Int) + 1)] w fun e w' => e = .returned (.tuple #[.int .i64 ((pO ⟨o, s, h, r, k⟩ m : Nat) : Int), .int .i64 0]) ∧ Below w.heap.size w w' := by
  have h2 : h ≤ 7 := H.h2
  have o2 : o ≤ 64 := H.o2
  have s2 : s ≤ 4 := H.s2
  have k2 : k ≤ 16 := H.k2
  have hp := (sizes H).1
  simp only at hp
  have hq := (at_obj H (j := m) hm).2
  have hl := lay_out ⟨o, s, h, r, k⟩
  have hpo : pO ⟨o, s, h, r, k⟩ m = bO ⟨o, s, h, r, k⟩ + m * ow ⟨o, s, h, r, k⟩ := rfl
  simp only at hl hq
  rw [hl.2.2.2.2] at hq hpo
  refine robject_of (q := true) (fun w1 => ?_) (fun w1 => ?_) w
  · have := rwithin_t (n := (m : Int) + 1) (lo := 1) (hi := (o : Int)) (by omega) (by omega) w1
    exact this
  · rw [wJ (x := 8 + (h : Int)) rfl (by omega) (by omega), wJ (x := (h : Int) * (r : Int)) (y := ((h * r : Nat) : Int)) (by simp) (by omega) (by omega), wJ (x := 8 + (h : Int) + ((h * r : Nat) : Int)) rfl (by omega) (by omega), wJ (x := 8 + (h : Int) + ((h * r : Nat) : Int) + (k : Int)) rfl (by omega) (by omega), wJ (x := (m : Int) + 1 - 1) (y := (m : Int)) (by omega) (by omega) (by omega), wJ (x := 3 + (s : Int)) rfl (by omega) (by omega), wJ (x := (m : Int) * (3 + (s : Int))) (y := ((m * (3 + s) : Nat) : Int)) (by simp) (by omega) (by omega), wJ (x := 8 + (h : Int) + ((h * r : Nat) : Int) + (k : Int) + ((m * (3 + s) : Nat) : Int)) (y := ((pO ⟨o, s, h, r, k⟩ m : Nat) : Int)) (by omega) (by omega) (by omega)]
    exact place_ok (r5 H) _ w1
end
end Vw
end Go.Proofs.Ytecjegjnnahddaa
