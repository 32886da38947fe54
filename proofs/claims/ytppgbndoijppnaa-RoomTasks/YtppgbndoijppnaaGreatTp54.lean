/-
  Lemmas: RoomTK.
-/
import Derived.Test.YtppgbndoijppnaaGreatTp48
import Derived.Test.YtppgbndoijppnaaGreatTp53
import Derived.Test.YtppgbndoijppnaaGreatTp14
namespace Go.Proofs.YtppgbndoijppnaaGreat
set_option maxHeartbeats 8000000
open Go.RowKit
set_option linter.unusedVariables false
set_option linter.unusedSimpArgs false
set_option linter.unnecessarySimpa false
set_option maxRecDepth 20000
section
namespace Rom
open Hp
theorem aggI (w : World) : (isAgg 3).run Tryz.prog w = .ok false w := by simp [go_sem]
theorem aggBo (w : World) : (isAgg 4).run Tryz.prog w = .ok false w := by simp [go_sem]
theorem aggSl (w : World) : (isAgg 24).run Tryz.prog w = .ok false w := by simp [go_sem]
theorem fJ0 (w : World) (b : Nat) : (Instr.fieldAt 43 (.pointer (some ⟨b, 0, none⟩)) 0).run Tryz.prog w = .ok (.pointer (some ⟨b, 0, none⟩)) w := by simp [go_sem]
theorem fJ1 (w : World) (b : Nat) : (Instr.fieldAt 43 (.pointer (some ⟨b, 0, none⟩)) 1).run Tryz.prog w = .ok (.pointer (some ⟨b, 10, none⟩)) w := by simp [go_sem]
theorem fJ2 (w : World) (b : Nat) : (Instr.fieldAt 43 (.pointer (some ⟨b, 0, none⟩)) 2).run Tryz.prog w = .ok (.pointer (some ⟨b, 11, none⟩)) w := by simp [go_sem]
theorem fJ3 (w : World) (b : Nat) : (Instr.fieldAt 43 (.pointer (some ⟨b, 0, none⟩)) 3).run Tryz.prog w = .ok (.pointer (some ⟨b, 12, none⟩)) w := by simp [go_sem]
theorem fJ4 (w : World) (b : Nat) : (Instr.fieldAt 43 (.pointer (some ⟨b, 0, none⟩)) 4).run Tryz.prog w = .ok (.pointer (some ⟨b, 13, none⟩)) w := by simp [go_sem]
theorem fR0 (w : World) (b : Nat) : (Instr.fieldAt 28 (.pointer (some ⟨b, 0, none⟩)) 0).run Tryz.prog w = .ok (.pointer (some ⟨b, 0, none⟩)) w := by simp [go_sem]
theorem fR1 (w : World) (b : Nat) : (Instr.fieldAt 28 (.pointer (some ⟨b, 0, none⟩)) 1).run Tryz.prog w = .ok (.pointer (some ⟨b, 6, none⟩)) w := by simp [go_sem]
theorem ex_allocR {ev : Operand → Value} {o : Oper} {w : World} (ho : o.op = .alloc 28) : (execOp ev o).run Tryz.prog w = .ok (.value (.pointer (some ⟨w.heap.size, 0, none⟩))) (w.alloc (.cells [.int .i64 0, .int .i64 0, .int .i64 0, .int .i64 0, .int .i64 0, .int .i64 0, .slice none 0 0, .slice none 0 0, .slice none 0 0, .int .i64 0].toArray 28)) := by
  simp [execOp, ho, go_sem]
theorem lrow_range2 {w : World} {b n : Nat} {t : TypeId} {cs l : List Value} (h : w.rowIs b t n (lrow l)) (hl : cs.length ≤ n) (hp : ∀ (j : Nat) (v : Value), cs[j]? = some v → l[j]? = some v) : w.rangeAt b 0 cs := fun j v hj => by
  have hlt := (List.getElem?_eq_some_iff.1 hj).1
  rw [Nat.zero_add, h.cell (i := j) (by omega)]
  simp [lrow, hp j v hj]
def TC (W1 : World) (cs : List Value) : Nat → (Nat → Value) → World → Prop
  | 0, _, w' => Below W1.heap.size W1 w' ∧ w'.heap.size = W1.heap.size
  | 1, s, w' => ∃ w0, (Below W1.heap.size W1 w0 ∧ w0.heap.size = W1.heap.size) ∧ w' = w0.alloc (.cells [.int .i64 0, .int .i64 0, .int .i64 0, .int .i64 0, .int .i64 0, .int .i64 0, .slice none 0 0, .slice none 0 0, .slice none 0 0, .int .i64 0].toArray 28) ∧ s 3 = .pointer (some ⟨w0.heap.size, 0, none⟩)
  | _, s, w' => ∃ w0, (Below W1.heap.size W1 w0 ∧ w0.heap.size = W1.heap.size) ∧ w' = (w0.alloc (.cells [.int .i64 0, .int .i64 0, .int .i64 0, .int .i64 0, .int .i64 0, .int .i64 0, .slice none 0 0, .slice none 0 0, .slice none 0 0, .int .i64 0].toArray 28)).setCells w0.heap.size 0 cs ∧ s 3 = .pointer (some ⟨w0.heap.size, 0, none⟩)
theorem TC.local {W1 : World} {cs : List Value} {n : Nat} {s s' : Nat → Value} {w' : World} (h3 : s 3 = s' 3) (h : TC W1 cs n s w') : TC W1 cs n s' w' := by
  match n with
  | 0 => exact h
  | 1 => obtain ⟨w0, a, b, c⟩ := h; exact ⟨w0, a, b, h3 ▸ c⟩
  | _ + 2 => obtain ⟨w0, a, b, c⟩ := h; exact ⟨w0, a, b, h3 ▸ c⟩
theorem TC.bel {W1 : World} {cs : List Value} {n : Nat} {s : Nat → Value} {w' : World} (h : TC W1 cs n s w') : Below W1.heap.size W1 w' := by
  match n with
  | 0 => exact h.1
  | 1 => obtain ⟨w0, ⟨a, e⟩, rfl, _⟩ := h; exact a.alloc (by omega) _
  | _ + 2 =>
    obtain ⟨w0, ⟨a, e⟩, rfl, _⟩ := h
    exact (a.alloc (by omega) _).trans ((touch_setCells w0.heap.size cs 0 _).below (fun k hk => by omega) (by simp; omega))
def Mk (sh : Shp) (hand : Int) (Z : Nat) (j : Jb) (v : Value) (w : World) : Prop := ∃ B R, v = .iface ((kRom true sh).tid j) (.pointer (some ⟨B 0, 0, none⟩)) ∧ (kRom true sh).Lies w j B R (rinit sh hand j) ∧ ∀ i x, R i = some x → Z ≤ B i
theorem Mk.below {sh : Shp} {hand : Int} {Z : Nat} {j : Jb} {v : Value} {w w' : World} (h : Mk sh hand Z j v w) (hb : Below w.heap.size w w') : Mk sh hand Z j v w' := by
  obtain ⟨B, R, a, b, c⟩ := h
  exact ⟨B, R, a, b.touch (Touch.of_below hb (fun _ => False)) (fun _ _ _ h => h), c⟩
def TS (W3 : World) (sh : Shp) (hand : Int) (jm jg : Jb) (cm cg : List Value) : Nat → (Nat → Value) → World → Prop
  | 0, _, w' => Below W3.heap.size W3 w'
  | 1, s, w' => Below W3.heap.size W3 w' ∧ Mk sh hand W3.heap.size jm (s 42) w'
  | 2, s, w' => Below W3.heap.size W3 w' ∧ Mk sh hand W3.heap.size jm (s 42) w' ∧ s 48 = .agg cm.toArray
  | 3, s, w' => Below W3.heap.size W3 w' ∧ s 51 = .bool true
  | 4, s, w' => Below W3.heap.size W3 w' ∧ s 52 = .bool true
  | 5, s, w' => Below W3.heap.size W3 w' ∧ s 52 = .bool true ∧ Mk sh hand W3.heap.size jg (s 57) w'
  | 6, s, w' => Below W3.heap.size W3 w' ∧ s 52 = .bool true ∧ Mk sh hand W3.heap.size jg (s 57) w' ∧ s 62 = .agg cg.toArray
  | _, s, w' => Below W3.heap.size W3 w' ∧ s 52 = .bool true ∧ s 65 = .bool true
section
variable {W3 : World} {sh : Shp} {hand : Int} {jm jg : Jb} {cm cg : List Value} {n : Nat} {s s' : Nat → Value} {w' : World}
theorem TS.local (h42 : s 42 = s' 42) (h48 : s 48 = s' 48) (h51 : s 51 = s' 51) (h52 : s 52 = s' 52) (h57 : s 57 = s' 57) (h62 : s 62 = s' 62) (h65 : s 65 = s' 65) (h : TS W3 sh hand jm jg cm cg n s w') : TS W3 sh hand jm jg cm cg n s' w' := by
  match n with
  | 0 => exact h
  | 1 => exact ⟨h.1, h42 ▸ h.2⟩
  | 2 => exact ⟨h.1, h42 ▸ h.2.1, h48 ▸ h.2.2⟩
  | 3 => exact ⟨h.1, h51 ▸ h.2⟩
  | 4 => exact ⟨h.1, h52 ▸ h.2⟩
  | 5 => exact ⟨h.1, h52 ▸ h.2.1, h57 ▸ h.2.2⟩
  | 6 => exact ⟨h.1, h52 ▸ h.2.1, h57 ▸ h.2.2.1, h62 ▸ h.2.2.2⟩
  | _ + 7 => exact ⟨h.1, h52 ▸ h.2.1, h65 ▸ h.2.2⟩
theorem TS.bel (h : TS W3 sh hand jm jg cm cg n s w') : Below W3.heap.size W3 w' := by
  match n with
  | 0 => exact h
  | 1 => exact h.1
  | 2 => exact h.1
  | 3 => exact h.1
  | 4 => exact h.1
  | 5 => exact h.1
  | 6 => exact h.1
  | _ + 7 => exact h.1
theorem TS.one (hn : 4 ≤ n) (h : TS W3 sh hand jm jg cm cg n s w') : s 52 = .bool true := by
  have hc : n = 4 ∨ n = 5 ∨ n = 6 ∨ ∃ k, n = k + 7 := by
    rcases Nat.lt_or_ge n 7 with l | l
    · omega
    · exact .inr (.inr (.inr ⟨n - 7, by omega⟩))
  rcases hc with e | e | e | ⟨k, e⟩
  · subst e; exact h.2
  · subst e; exact h.2.1
  · subst e; exact h.2.1
  · subst e; exact h.2.1
theorem TS.two (hn : 7 ≤ n) (h : TS W3 sh hand jm jg cm cg n s w') : s 65 = .bool true := by
  obtain ⟨k, e⟩ : ∃ k, n = k + 7 := ⟨n - 7, by omega⟩
  subst e
  exact h.2.2
end
theorem tasks_walk {w : World} {sh : Shp} {ao aoh aos : Option Addr} {n cap nh caph ns caps : Nat} {most hand index colour : Int} {final : Bool} {f : Nat → Int} (S : Sees w w.heap.size ao n f) (hnil : ao = none → n = 0 ∧ cap = 0) (hf : ∀ i, i < n → 0 ≤ f i ∧ f i ≤ 18446744073709551615) (hix : index ≤ 9223372036854775807) :
    Calls Tryz.prog 4 #[.agg #[.int .i64 sh.a, .int .i64 sh.b, .int .i64 sh.c, .int .i64 sh.d, .int .i64 sh.e, .int .i64 sh.f, .slice ao n cap, .slice aoh nh caph, .slice aos ns caps, .int .i64 most, .int .i64 hand, .int .i64 index, .int .i64 colour, .bool final]] w fun e w' => e = .returned (.bool true) ∧ Below w.heap.size w w' := by
  have KM0 := hide (fun w : World => make_new (any := true) sh hand ⟨1, 0, if final = true then 1 else 0, colour, 0⟩ rfl w)
  have KRM := hide (fun w : World => rmake_any sh hand colour final w)
  have KG0 := hide (fun (h5 : Shape.R5 sh.a sh.b sh.c sh.d sh.e) (w : World) => give_new (any := true) h5 hand ⟨2, index, 0, 0, 0⟩ (by simp) w)
  have KRG0 := hide (fun (h5 : Shape.R5 sh.a sh.b sh.c sh.d sh.e) (w : World) => rgive_any h5 hand index w)
  have hfin : fin ⟨1, 0, if final = true then 1 else 0, colour, 0⟩ = final := by cases final <;> rfl
  have hjm : (⟨1, 0, if final = true then 1 else 0, colour, 0⟩ : Jb).wf := by unfold Jb.wf; simp
  have hjg : (⟨2, index, 0, 0, 0⟩ : Jb).wf := by unfold Jb.wf; simp
  have HRM := hide (rep_make (sh := sh) hand hjm rfl)
  have HRG := hide (rep_give (sh := sh) hand hjg (by simp) hix)
  have HIX := hide hix
  have HNIL := hide hnil
  have HF0 := hide hf
  have SZO := hide (fun (h5 : Shape.R5 sh.a sh.b sh.c sh.d sh.e) (w1 : World) => rsize_ok h5 w1)
  have SZB := hide (fun (h5 : ¬ Shape.R5 sh.a sh.b sh.c sh.d sh.e) (w1 : World) => rsize_bad h5 w1)
  have HS0 := hide S
  have HJM := hide hjm
  have HJG := hide hjg
  rw [hfin] at KM0
  clear hfin hjm hjg hix hnil hf S
  obtain ⟨W0, hW0⟩ : ∃ W0, w.alloc (.cells #[.int .i64 sh.a, .int .i64 sh.b, .int .i64 sh.c, .int .i64 sh.d, .int .i64 sh.e, .int .i64 sh.f, .slice ao n cap, .slice aoh nh caph, .slice aos ns caps, .int .i64 most, .int .i64 hand, .int .i64 index, .int .i64 colour, .bool final] 43) = W0 := ⟨_, rfl⟩
  have b0 : Below w.heap.size w W0 := by rw [← hW0]; exact (Below.refl _ w).alloc (Nat.le_refl _) _
  have R0 : W0.rowIs w.heap.size 43 14 (lrow [.int .i64 sh.a, .int .i64 sh.b, .int .i64 sh.c, .int .i64 sh.d, .int .i64 sh.e, .int .i64 sh.f, .slice ao n cap, .slice aoh nh caph, .slice aos ns caps, .int .i64 most, .int .i64 hand, .int .i64 index, .int .i64 colour, .bool final]) := by rw [← hW0]; exact rowL_alloc w [.int .i64 sh.a, .int .i64 sh.b, .int .i64 sh.c, .int .i64 sh.d, .int .i64 sh.e, .int .i64 sh.f, .slice ao n cap, .slice aoh nh caph, .slice aos ns caps, .int .i64 most, .int .i64 hand, .int .i64 index, .int .i64 colour, .bool final] _ rfl
  have sz0 : W0.heap.size = w.heap.size + 1 := by rw [← hW0]; simp
  have HB0 := hide b0
  have HR0 := hide R0
  clear b0 R0
  simp only [Shp.val] at KM0 KRM KG0 KRG0 SZO SZB
  go_enter Tryz.func4, Tryz.ntmps4
  go_wp2_with fail
  refine (alive_any W0).mono ?_
  rintro e W1 ⟨rfl, hb1⟩
  have hs1 := hb1.size
  have HB1 := hide (HB0.out.trans (hb1.mono HB0.out.size))
  have HR1 := hide (HR0.out.of_block (hb1.block w.heap.size (by omega)))
  obtain ⟨jb, hjb⟩ : ∃ b, w.heap.size = b := ⟨_, rfl⟩
  rw [hjb] at HR1
  have HJB := hide (fun (w' : World) (hB : Below W1.heap.size W1 w') => show w'.rangeAt jb 0 [.int .i64 sh.a, .int .i64 sh.b, .int .i64 sh.c, .int .i64 sh.d, .int .i64 sh.e, .int .i64 sh.f, .slice ao n cap, .slice aoh nh caph, .slice aos ns caps, .int .i64 most] ∧ w'.cell? ⟨jb, 10, none⟩ = some (.int .i64 hand) ∧ w'.cell? ⟨jb, 11, none⟩ = some (.int .i64 index) ∧ w'.cell? ⟨jb, 12, none⟩ = some (.int .i64 colour) ∧ w'.cell? ⟨jb, 13, none⟩ = some (.bool final) from by
    have r := HR1.out.of_block (hB.block jb HR1.out.lt)
    exact ⟨lrow_range2 r (by simp) (fun j v hj => by
      have hlt : j < 10 := by have := (List.getElem?_eq_some_iff.1 hj).1; simpa using this
      match j, hlt with
      | 0, _ | 1, _ | 2, _ | 3, _ | 4, _ | 5, _ | 6, _ | 7, _ | 8, _ | 9, _ => exact hj), r.cell (i := 10) (by decide), r.cell (i := 11) (by decide), r.cell (i := 12) (by decide), r.cell (i := 13) (by decide)⟩)
  clear hb1 hW0
  go_upto_region 3 with (fail)
  try rw [hjb]
  refine LtH.region2 (ks := [(0, 12), (1, 13), (2, 14), (3, 15), (4, 16), (5, 17), (6, 18), (7, 19), (8, 20), (9, 21), (12, 4), (13, 5), (14, 6), (15, 7)]) (vals := fun iv => match iv with | 0 => .pointer (some ⟨jb, 0, none⟩) | 1 => .agg #[.int .i64 sh.a, .int .i64 sh.b, .int .i64 sh.c, .int .i64 sh.d, .int .i64 sh.e, .int .i64 sh.f, .slice ao n cap, .slice aoh nh caph, .slice aos ns caps, .int .i64 most] | 2 => .pointer (some ⟨jb, 10, none⟩) | 3 => .int .i64 hand | 4 => .pointer (some ⟨jb, 11, none⟩) | 5 => .int .i64 index | 6 => .pointer (some ⟨jb, 12, none⟩) | 7 => .int .i64 colour | 8 => .pointer (some ⟨jb, 13, none⟩) | 9 => .bool final | 12 => .int .i64 hand | 13 => .int .i64 index | 14 => .int .i64 colour | 15 => .bool final | _ => undef) (xs := [3]) (WI := LtE.WI [10, 11] [] (TC W1 [.int .i64 sh.a, .int .i64 sh.b, .int .i64 sh.c, .int .i64 sh.d, .int .i64 sh.e, .int .i64 sh.f, .slice ao n cap, .slice aoh nh caph, .slice aos ns caps, .int .i64 most])) (by kernel_rfl) ?Agd ?Abk rfl ?Add ?Axx ?Alc ?Ast ?Ado ?Afi
  case Agd =>
    intro iq oq ho
    have hiq : iq < 16 := by have := (Array.getElem?_eq_some_iff.1 ho).1; simpa using this
    match iq, hiq with
    | 0, _ | 1, _ | 2, _ | 3, _ | 4, _ | 5, _ | 6, _ | 7, _ | 8, _ | 9, _ | 10, _ | 11, _ | 12, _ | 13, _ | 14, _ | 15, _ => injection ho with ho; subst ho; rfl
  case Abk =>
    intro iq oq ho
    have hiq : iq < 16 := by have := (Array.getElem?_eq_some_iff.1 ho).1; simpa using this
    match iq, hiq with
    | 0, _ | 1, _ | 2, _ | 3, _ | 4, _ | 5, _ | 6, _ | 7, _ | 8, _ | 9, _ | 10, _ | 11, _ | 12, _ | 13, _ | 14, _ | 15, _ => injection ho with ho; subst ho; simp [Region.binds]
  case Add =>
    intro kq hk
    have hk2 : kq < 67 := by
      simp [Lt.D] at hk
      omega
    exact hk2
  case Axx =>
    intro kq hk
    have hk2 : kq < 67 := by
      simp at hk
      omega
    exact hk2
  case Alc =>
    rintro L1 s1x s2x w1x hx ⟨⟨n1, h1, h2, h3⟩, h4⟩
    exact ⟨⟨n1, h1, h2, TC.local (hx 3 rfl) h3⟩, h4⟩
  case Ast => exact LtE.WI.start (show Below W1.heap.size W1 _ ∧ _ from ⟨(Below.refl _ W1).drew, rfl⟩)
  case Ado =>
    intro iq oq ho
    have hiq : iq < 16 := by have := (Array.getElem?_eq_some_iff.1 ho).1; simpa using this
    match iq, hiq with
    | 0, _ => injection ho with ho; subst ho; exact LtE.read rfl rfl rfl (fun L1 a w' hI hL hq => Lt.ex_field rfl (hI.fix 1 (Lt.notD rfl) rfl) (fJ0 w' jb))
    | 1, _ => injection ho with ho; subst ho; exact LtE.read rfl rfl rfl (fun L1 a w' hI hL hq => Lt.ex_load_row (cs := [.int .i64 sh.a, .int .i64 sh.b, .int .i64 sh.c, .int .i64 sh.d, .int .i64 sh.e, .int .i64 sh.f, .slice ao n cap, .slice aoh nh caph, .slice aos ns caps, .int .i64 most]) rfl (hI.pure 0 _ _ rfl (hq ⟨0, .data⟩ (by simp) rfl)) (by obtain ⟨n1, hS⟩ := hI.world.any; exact (HJB.out w' hS.bel).1) (by kernel_rfl) (by kernel_rfl))
    | 2, _ => injection ho with ho; subst ho; exact LtE.read rfl rfl rfl (fun L1 a w' hI hL hq => Lt.ex_field rfl (hI.fix 1 (Lt.notD rfl) rfl) (fJ1 w' jb))
    | 3, _ => injection ho with ho; subst ho; exact LtE.read rfl rfl rfl (fun L1 a w' hI hL hq => Lt.ex_load rfl (hI.pure 2 _ _ rfl (hq ⟨2, .data⟩ (by simp) rfl)) (aggI w') (by obtain ⟨n1, hS⟩ := hI.world.any; exact (HJB.out w' hS.bel).2.1))
    | 4, _ => injection ho with ho; subst ho; exact LtE.read rfl rfl rfl (fun L1 a w' hI hL hq => Lt.ex_field rfl (hI.fix 1 (Lt.notD rfl) rfl) (fJ2 w' jb))
    | 5, _ => injection ho with ho; subst ho; exact LtE.read rfl rfl rfl (fun L1 a w' hI hL hq => Lt.ex_load rfl (hI.pure 4 _ _ rfl (hq ⟨4, .data⟩ (by simp) rfl)) (aggI w') (by obtain ⟨n1, hS⟩ := hI.world.any; exact (HJB.out w' hS.bel).2.2.1))
    | 6, _ => injection ho with ho; subst ho; exact LtE.read rfl rfl rfl (fun L1 a w' hI hL hq => Lt.ex_field rfl (hI.fix 1 (Lt.notD rfl) rfl) (fJ3 w' jb))
    | 7, _ => injection ho with ho; subst ho; exact LtE.read rfl rfl rfl (fun L1 a w' hI hL hq => Lt.ex_load rfl (hI.pure 6 _ _ rfl (hq ⟨6, .data⟩ (by simp) rfl)) (aggI w') (by obtain ⟨n1, hS⟩ := hI.world.any; exact (HJB.out w' hS.bel).2.2.2.1))
    | 8, _ => injection ho with ho; subst ho; exact LtE.read rfl rfl rfl (fun L1 a w' hI hL hq => Lt.ex_field rfl (hI.fix 1 (Lt.notD rfl) rfl) (fJ4 w' jb))
    | 9, _ => injection ho with ho; subst ho; exact LtE.read rfl rfl rfl (fun L1 a w' hI hL hq => Lt.ex_load rfl (hI.pure 8 _ _ rfl (hq ⟨8, .data⟩ (by simp) rfl)) (aggBo w') (by obtain ⟨n1, hS⟩ := hI.world.any; exact (HJB.out w' hS.bel).2.2.2.2))
    | 10, _ => injection ho with ho; subst ho; exact LtE.link (m := 0) (by decide) rfl rfl rfl rfl (fun L hq p hp e => by simp at hp) (fun L hq m1 j1 e1 _ => absurd e1 (by omega)) (fun L1 a w' Kq hI hq hS hk => Lt.wp_value (ex_allocR rfl) (hk _ _ ⟨w', hS, rfl, by simp⟩))
    | 11, _ => injection ho with ho; subst ho; exact LtE.store (m := 1) (by decide) rfl rfl rfl (fun L hq p hp e => by simp at hp) (fun L hq m1 j1 e1 hj => by (cases (show m1 = 0 from (by omega))); cases hj; exact hq ⟨10, .data⟩ (by simp) rfl) (fun L1 a w' Kq hI hq hS hk => by obtain ⟨w0, hw0, rfl, h3⟩ := hS; exact wp_store_mid _ _ _ rfl w0.heap.size 0 #[.int .i64 sh.a, .int .i64 sh.b, .int .i64 sh.c, .int .i64 sh.d, .int .i64 sh.e, .int .i64 sh.f, .slice ao n cap, .slice aoh nh caph, .slice aos ns caps, .int .i64 most] h3 (hI.pure 1 _ _ rfl (hq ⟨1, .data⟩ (by simp) rfl)) (by simpa using there_row (rowL_alloc w0 [.int .i64 0, .int .i64 0, .int .i64 0, .int .i64 0, .int .i64 0, .int .i64 0, .slice none 0 0, .slice none 0 0, .slice none 0 0, .int .i64 0] 28 rfl) (m := 10) (by simp)) (by kernel_rfl) (by simp [Value.oneCell']) (hk _ _ ⟨w0, hw0, rfl, h3⟩))
    | 12, _ => injection ho with ho; subst ho; exact LtE.read rfl rfl rfl (fun L1 a w' hI hL hq => Lt.ex_assign rfl (hI.pure 3 _ _ rfl (hq ⟨3, .data⟩ (by simp) rfl)))
    | 13, _ => injection ho with ho; subst ho; exact LtE.read rfl rfl rfl (fun L1 a w' hI hL hq => Lt.ex_assign rfl (hI.pure 5 _ _ rfl (hq ⟨5, .data⟩ (by simp) rfl)))
    | 14, _ => injection ho with ho; subst ho; exact LtE.read rfl rfl rfl (fun L1 a w' hI hL hq => Lt.ex_assign rfl (hI.pure 7 _ _ rfl (hq ⟨7, .data⟩ (by simp) rfl)))
    | 15, _ => injection ho with ho; subst ho; exact LtE.read rfl rfl rfl (fun L1 a w' hI hL hq => Lt.ex_assign rfl (hI.pure 9 _ _ rfl (hq ⟨9, .data⟩ (by simp) rfl)))
  case Afi =>
    intro L1 a' w' hI hall
    obtain ⟨w0, ⟨hB, hz0⟩, rfl, h3⟩ := hI.world.done (fun i hi => hall i (by simp at hi ⊢; omega))
    have hfr := LtH.frame hI [12, 13, 14, 15, 16, 17, 18, 19, 20, 21, 3, 4, 5, 6, 7] rfl rfl (fun x hx => by simp at hx ⊢; omega)
    obtain ⟨t12, e12⟩ : ∃ t, a'.eval (.tmp 12) = t := ⟨_, rfl⟩
    obtain ⟨t13, e13⟩ : ∃ t, a'.eval (.tmp 13) = t := ⟨_, rfl⟩
    obtain ⟨t14, e14⟩ : ∃ t, a'.eval (.tmp 14) = t := ⟨_, rfl⟩
    obtain ⟨t15, e15⟩ : ∃ t, a'.eval (.tmp 15) = t := ⟨_, rfl⟩
    obtain ⟨t16, e16⟩ : ∃ t, a'.eval (.tmp 16) = t := ⟨_, rfl⟩
    obtain ⟨t17, e17⟩ : ∃ t, a'.eval (.tmp 17) = t := ⟨_, rfl⟩
    obtain ⟨t18, e18⟩ : ∃ t, a'.eval (.tmp 18) = t := ⟨_, rfl⟩
    obtain ⟨t19, e19⟩ : ∃ t, a'.eval (.tmp 19) = t := ⟨_, rfl⟩
    obtain ⟨t20, e20⟩ : ∃ t, a'.eval (.tmp 20) = t := ⟨_, rfl⟩
    obtain ⟨t21, e21⟩ : ∃ t, a'.eval (.tmp 21) = t := ⟨_, rfl⟩
    have e4 := hI.pure 12 4 _ rfl (hall 12 (by decide))
    have e5 := hI.pure 13 5 _ rfl (hall 13 (by decide))
    have e6 := hI.pure 14 6 _ rfl (hall 14 (by decide))
    have e7 := hI.pure 15 7 _ rfl (hall 15 (by decide))
    simp only at h3 e4 e5 e6 e7
    rw [hfr]
    simp only [LtH.lay, List.foldl, e12, e13, e14, e15, e16, e17, e18, e19, e20, e21, h3, e4, e5, e6, e7]
    clear hfr hI hall e12 e13 e14 e15 e16 e17 e18 e19 e20 e21 h3 e4 e5 e6 e7
    obtain ⟨W2, hW2⟩ : ∃ W2, (w0.alloc (.cells [.int .i64 0, .int .i64 0, .int .i64 0, .int .i64 0, .int .i64 0, .int .i64 0, .slice none 0 0, .slice none 0 0, .slice none 0 0, .int .i64 0].toArray 28)).setCells w0.heap.size 0 [.int .i64 sh.a, .int .i64 sh.b, .int .i64 sh.c, .int .i64 sh.d, .int .i64 sh.e, .int .i64 sh.f, .slice ao n cap, .slice aoh nh caph, .slice aos ns caps, .int .i64 most] = W2 := ⟨_, rfl⟩
    have r2 : W2.rowIs w0.heap.size 28 10 (lrow [.int .i64 sh.a, .int .i64 sh.b, .int .i64 sh.c, .int .i64 sh.d, .int .i64 sh.e, .int .i64 sh.f, .slice ao n cap, .slice aoh nh caph, .slice aos ns caps, .int .i64 most]) := by
      rw [← hW2]
      exact (rowIs.setCells _ 0 _ _ (rowL_alloc w0 [.int .i64 0, .int .i64 0, .int .i64 0, .int .i64 0, .int .i64 0, .int .i64 0, .slice none 0 0, .slice none 0 0, .slice none 0 0, .int .i64 0] 28 rfl)).congr (fun i hi => by rw [if_pos ⟨Nat.zero_le _, by simpa using hi⟩]; rfl)
    have B2 : Below W1.heap.size W1 W2 := by
      rw [← hW2]
      exact (hB.alloc (by omega) _).trans ((touch_setCells w0.heap.size [.int .i64 sh.a, .int .i64 sh.b, .int .i64 sh.c, .int .i64 sh.d, .int .i64 sh.e, .int .i64 sh.f, .slice ao n cap, .slice aoh nh caph, .slice aos ns caps, .int .i64 most] 0 _).below (fun k hk => by omega) (by simp; omega))
    obtain ⟨rb, hrb⟩ : ∃ b, w0.heap.size = b := ⟨_, rfl⟩
    rw [hW2, hrb]
    rw [hrb] at r2 hz0
    have HR2 := hide r2
    have HB2 := hide (HB1.out.trans (B2.mono HB1.out.size))
    have c0 : W2.cell? ⟨rb, 0, none⟩ = some (.int .i64 sh.a) := r2.cell (i := 0) (by decide)
    have c1 : W2.cell? ⟨rb, 1, none⟩ = some (.int .i64 sh.b) := r2.cell (i := 1) (by decide)
    have c2 : W2.cell? ⟨rb, 2, none⟩ = some (.int .i64 sh.c) := r2.cell (i := 2) (by decide)
    have c3 : W2.cell? ⟨rb, 3, none⟩ = some (.int .i64 sh.d) := r2.cell (i := 3) (by decide)
    have c4 : W2.cell? ⟨rb, 4, none⟩ = some (.int .i64 sh.e) := r2.cell (i := 4) (by decide)
    have c5 : W2.cell? ⟨rb, 5, none⟩ = some (.int .i64 sh.f) := r2.cell (i := 5) (by decide)
    have l2 := r2.lt
    clear hB hW2 hrb r2 B2 hz0
    simp only [Act.put, List.setIfInBounds_toArray, List.set_cons_succ, List.set_cons_zero]
    by_cases h5 : Shape.R5 sh.a sh.b sh.c sh.d sh.e
    · have SZ := hide (SZO.out h5)
      go_wp2_with fail
      refine (SZ.out W2).mono ?_
      rintro e W3 ⟨rfl, hg3⟩
      have b3 := below_of_grown_none hg3 W2.heap.size (Nat.le_refl _)
      have HB3 := hide (HB2.out.trans (b3.mono HB2.out.size))
      have HR3 := hide (HR2.out.of_block (b3.block rb l2))
      have c6 : W3.cell? ⟨rb, 6, none⟩ = some (.slice ao n cap) := HR3.out.cell (i := 6) (by decide)
      have l3 := HR3.out.lt
      clear hg3 b3 c0 c1 c2 c3 c4 c5
      by_cases hsz : (n : Int) = sizeOf sh
      · have hsz' : ((n : Int) != sizeOf sh) = false := by simpa using hsz
        obtain ⟨want, hw1, hw2, hw3⟩ := size_nat h5
        have hn2 : 2 ≤ n := by omega
        have hn4 : n ≤ 4096 := by omega
        go_upto_region 7 with (fail)
        clear c6
        obtain ⟨jm, hjm⟩ : ∃ j : Jb, (⟨1, 0, if final = true then 1 else 0, colour, 0⟩ : Jb) = j := ⟨_, rfl⟩
        obtain ⟨jg, hjg⟩ : ∃ j : Jb, (⟨2, index, 0, 0, 0⟩ : Jb) = j := ⟨_, rfl⟩
        have KM := KM0
        have KG := hide (KG0.out h5)
        have KRG := hide (KRG0.out h5)
        have hja : jm.a ≤ 9223372036854775807 := by rw [← hjm]; simp
        have hjga : jg.a ≤ 9223372036854775807 := by rw [← hjg]; exact HIX.out
        have HJMa := hide hja
        have HJGa := hide hjga
        obtain ⟨cm, hcm⟩ : ∃ c : List Value, tk sh hand ⟨1, 0, if final = true then 1 else 0, if colour = 0 then 0 else 1, 0⟩ 1 .zero ⟨false, 0⟩ = c := ⟨_, rfl⟩
        obtain ⟨cg, hcg⟩ : ∃ c : List Value, tk sh hand ⟨2, index, 0, 0, 0⟩ (if slotIn sh index 0 then 1 else 2) .zero ⟨false, 0⟩ = c := ⟨_, rfl⟩
        have HCM := hide (show IsTk cm from by rw [← hcm]; exact tk_is _ _ _ _ _ _)
        have HCG := hide (show IsTk cg from by rw [← hcg]; exact tk_is _ _ _ _ _ _)
        have HRM2 := hide (show repR sh cm (rinit sh hand jm) from by rw [← hcm, ← hjm]; have := HRM.out; simp only [bfin, fin, col] at this; cases final <;> simpa using this)
        have HRG2 := hide (show repR sh cg (rinit sh hand jg) from by rw [← hcg, ← hjg]; exact HRG.out)
        rw [hjm] at KM HJM
        rw [hjg] at KG HJG
        rw [hcm] at KRM
        rw [hcg] at KRG
        have HSW := hide (fun (w' : World) (hB : Below W3.heap.size W3 w') => show Sees w' w'.heap.size ao n f from (HS0.out.below (HB3.out.trans (hB.mono HB3.out.size)) (Nat.le_refl _)).mono (by have := HB3.out.size; have := hB.size; omega))
        have HRB := hide (fun (w' : World) (hB : Below W3.heap.size W3 w') => show w'.rangeAt rb 0 [.int .i64 sh.a, .int .i64 sh.b, .int .i64 sh.c, .int .i64 sh.d, .int .i64 sh.e, .int .i64 sh.f] ∧ w'.cell? ⟨rb, 6, none⟩ = some (.slice ao n cap) from by
          have r := HR3.out.of_block (hB.block rb l3)
          exact ⟨lrow_range2 r (by simp) (fun j v hj => by
            have hlt : j < 6 := by have := (List.getElem?_eq_some_iff.1 hj).1; simpa using this
            match j, hlt with
            | 0, _ | 1, _ | 2, _ | 3, _ | 4, _ | 5, _ => exact hj), r.cell (i := 6) (by decide)⟩)
        have KD := hide (fun (w' : World) (hB : Below W3.heap.size W3 w') (j : Jb) (cs : List Value) (B : Nat → Nat) (R : Nat → Option Row) (hL : (kRom true sh).Lies w' j B R (rinit sh hand j)) (hcs : IsTk cs) (hrep : (j.wf ∧ j.a ≤ 9223372036854775807) ∧ repR sh cs (rinit sh hand j)) (hz : ∀ i x, R i = some x → W3.heap.size ≤ B i) => show Calls Tryz.prog 13 #[.iface ((kRom true sh).tid j) (.pointer (some ⟨B 0, 0, none⟩)), .agg cs.toArray, .slice ao n cap] w' fun e w'' => e = .returned (.bool true) ∧ Below W3.heap.size W3 w'' from
          (driven_any h5 hn2 hn4 (HSW.out w' hB) HNIL.out HF0.out hrep.1.1 hrep.1.2 hL hcs hrep.2).mono fun e w'' h => ⟨h.1, hB.trans (h.2.below (fun k hk => by obtain ⟨i, x, e, rfl⟩ := hk; exact hz i x e) hB.size)⟩)
        have HRMx := hide (And.intro (And.intro HJM.out HJMa.out) HRM2.out)
        have HRGx := hide (And.intro (And.intro HJG.out HJGa.out) HRG2.out)
        clear HRM HRG HRM2 HRG2 KM0 KG0 KRG0 SZ SZO SZB hjm hjg hcm hcg hja hjga hsz hsz' hw1 hw2 hw3
        refine LtH.region3 (ks := [(0, 37), (1, 38), (2, 39), (3, 40), (4, 41), (6, 43), (7, 44), (8, 45), (9, 46), (10, 47), (12, 49), (13, 50), (16, 53), (17, 54), (18, 55), (19, 56), (21, 58), (22, 59), (23, 60), (24, 61), (26, 63), (27, 64), (29, 66), (30, 2)]) (vals := fun iv => match iv with | 0 => .pointer (some ⟨rb, 0, none⟩) | 1 => .agg #[.int .i64 sh.a, .int .i64 sh.b, .int .i64 sh.c, .int .i64 sh.d, .int .i64 sh.e, .int .i64 sh.f] | 2 => .int .i64 hand | 3 => .bool final | 4 => .int .i64 colour | 6 => .pointer (some ⟨rb, 0, none⟩) | 7 => .agg #[.int .i64 sh.a, .int .i64 sh.b, .int .i64 sh.c, .int .i64 sh.d, .int .i64 sh.e, .int .i64 sh.f] | 8 => .int .i64 hand | 9 => .bool final | 10 => .int .i64 colour | 12 => .pointer (some ⟨rb, 6, none⟩) | 13 => .slice ao n cap | 16 => .pointer (some ⟨rb, 0, none⟩) | 17 => .agg #[.int .i64 sh.a, .int .i64 sh.b, .int .i64 sh.c, .int .i64 sh.d, .int .i64 sh.e, .int .i64 sh.f] | 18 => .int .i64 hand | 19 => .int .i64 index | 21 => .pointer (some ⟨rb, 0, none⟩) | 22 => .agg #[.int .i64 sh.a, .int .i64 sh.b, .int .i64 sh.c, .int .i64 sh.d, .int .i64 sh.e, .int .i64 sh.f] | 23 => .int .i64 hand | 24 => .int .i64 index | 26 => .pointer (some ⟨rb, 6, none⟩) | 27 => .slice ao n cap | 29 => .bool true | 30 => .bool true | _ => undef) (xs := [42, 48, 51, 52, 57, 62, 65]) (WI := LtE.WI [5, 11, 14, 15, 20, 25, 28] [] (TS W3 sh hand jm jg cm cg)) (by kernel_rfl) ?Bgd ?Bbk rfl ?Bdd ?Bxx ?Blc ?Bst ?Bdo ?Bfi
        case Bgd =>
          intro iq oq ho L1 a w' hI hq
          have hiq : iq < 31 := by have := (Array.getElem?_eq_some_iff.1 ho).1; simpa using this
          match iq, hiq with
          | 0, _ => injection ho with ho; subst ho; exact Lt.wn0 rfl
          | 1, _ => injection ho with ho; subst ho; exact Lt.wn0 rfl
          | 2, _ => injection ho with ho; subst ho; exact Lt.wn0 rfl
          | 3, _ => injection ho with ho; subst ho; exact Lt.wn0 rfl
          | 4, _ => injection ho with ho; subst ho; exact Lt.wn0 rfl
          | 5, _ => injection ho with ho; subst ho; exact Lt.wn0 rfl
          | 6, _ => injection ho with ho; subst ho; exact Lt.wn0 rfl
          | 7, _ => injection ho with ho; subst ho; exact Lt.wn0 rfl
          | 8, _ => injection ho with ho; subst ho; exact Lt.wn0 rfl
          | 9, _ => injection ho with ho; subst ho; exact Lt.wn0 rfl
          | 10, _ => injection ho with ho; subst ho; exact Lt.wn0 rfl
          | 11, _ => injection ho with ho; subst ho; exact Lt.wn0 rfl
          | 12, _ => injection ho with ho; subst ho; exact Lt.wn0 rfl
          | 13, _ => injection ho with ho; subst ho; exact Lt.wn0 rfl
          | 14, _ => injection ho with ho; subst ho; exact Lt.wn0 rfl
          | 15, _ => injection ho with ho; subst ho; exact Lt.wn0 rfl
          | 16, _ => injection ho with ho; subst ho; exact (by obtain ⟨⟨n1, hn1, hLn, hS⟩, _⟩ := hI.world; exact Lt.wnG (j := 15) (d := 52) (b := true) (c := true) rfl rfl (hS.one ((hLn 3 15 rfl).1 (hq ⟨15, .guard⟩ (by simp) rfl))) rfl)
          | 17, _ => injection ho with ho; subst ho; exact (by obtain ⟨⟨n1, hn1, hLn, hS⟩, _⟩ := hI.world; exact Lt.wnG (j := 15) (d := 52) (b := true) (c := true) rfl rfl (hS.one ((hLn 3 15 rfl).1 (hq ⟨15, .guard⟩ (by simp) rfl))) rfl)
          | 18, _ => injection ho with ho; subst ho; exact (by obtain ⟨⟨n1, hn1, hLn, hS⟩, _⟩ := hI.world; exact Lt.wnG (j := 15) (d := 52) (b := true) (c := true) rfl rfl (hS.one ((hLn 3 15 rfl).1 (hq ⟨15, .guard⟩ (by simp) rfl))) rfl)
          | 19, _ => injection ho with ho; subst ho; exact (by obtain ⟨⟨n1, hn1, hLn, hS⟩, _⟩ := hI.world; exact Lt.wnG (j := 15) (d := 52) (b := true) (c := true) rfl rfl (hS.one ((hLn 3 15 rfl).1 (hq ⟨15, .guard⟩ (by simp) rfl))) rfl)
          | 20, _ => injection ho with ho; subst ho; exact (by obtain ⟨⟨n1, hn1, hLn, hS⟩, _⟩ := hI.world; exact Lt.wnG (j := 15) (d := 52) (b := true) (c := true) rfl rfl (hS.one ((hLn 3 15 rfl).1 (hq ⟨15, .guard⟩ (by simp) rfl))) rfl)
          | 21, _ => injection ho with ho; subst ho; exact (by obtain ⟨⟨n1, hn1, hLn, hS⟩, _⟩ := hI.world; exact Lt.wnG (j := 15) (d := 52) (b := true) (c := true) rfl rfl (hS.one ((hLn 3 15 rfl).1 (hq ⟨15, .guard⟩ (by simp) rfl))) rfl)
          | 22, _ => injection ho with ho; subst ho; exact (by obtain ⟨⟨n1, hn1, hLn, hS⟩, _⟩ := hI.world; exact Lt.wnG (j := 15) (d := 52) (b := true) (c := true) rfl rfl (hS.one ((hLn 3 15 rfl).1 (hq ⟨15, .guard⟩ (by simp) rfl))) rfl)
          | 23, _ => injection ho with ho; subst ho; exact (by obtain ⟨⟨n1, hn1, hLn, hS⟩, _⟩ := hI.world; exact Lt.wnG (j := 15) (d := 52) (b := true) (c := true) rfl rfl (hS.one ((hLn 3 15 rfl).1 (hq ⟨15, .guard⟩ (by simp) rfl))) rfl)
          | 24, _ => injection ho with ho; subst ho; exact (by obtain ⟨⟨n1, hn1, hLn, hS⟩, _⟩ := hI.world; exact Lt.wnG (j := 15) (d := 52) (b := true) (c := true) rfl rfl (hS.one ((hLn 3 15 rfl).1 (hq ⟨15, .guard⟩ (by simp) rfl))) rfl)
          | 25, _ => injection ho with ho; subst ho; exact (by obtain ⟨⟨n1, hn1, hLn, hS⟩, _⟩ := hI.world; exact Lt.wnG (j := 15) (d := 52) (b := true) (c := true) rfl rfl (hS.one ((hLn 3 15 rfl).1 (hq ⟨15, .guard⟩ (by simp) rfl))) rfl)
          | 26, _ => injection ho with ho; subst ho; exact (by obtain ⟨⟨n1, hn1, hLn, hS⟩, _⟩ := hI.world; exact Lt.wnG (j := 15) (d := 52) (b := true) (c := true) rfl rfl (hS.one ((hLn 3 15 rfl).1 (hq ⟨15, .guard⟩ (by simp) rfl))) rfl)
          | 27, _ => injection ho with ho; subst ho; exact (by obtain ⟨⟨n1, hn1, hLn, hS⟩, _⟩ := hI.world; exact Lt.wnG (j := 15) (d := 52) (b := true) (c := true) rfl rfl (hS.one ((hLn 3 15 rfl).1 (hq ⟨15, .guard⟩ (by simp) rfl))) rfl)
          | 28, _ => injection ho with ho; subst ho; exact (by obtain ⟨⟨n1, hn1, hLn, hS⟩, _⟩ := hI.world; exact Lt.wnG (j := 15) (d := 52) (b := true) (c := true) rfl rfl (hS.one ((hLn 3 15 rfl).1 (hq ⟨15, .guard⟩ (by simp) rfl))) rfl)
          | 29, _ => injection ho with ho; subst ho; exact Lt.wn0 rfl
          | 30, _ => injection ho with ho; subst ho; exact Lt.wn0 rfl
        case Bbk =>
          intro iq oq ho
          have hiq : iq < 31 := by have := (Array.getElem?_eq_some_iff.1 ho).1; simpa using this
          match iq, hiq with
          | 0, _ | 1, _ | 2, _ | 3, _ | 4, _ | 5, _ | 6, _ | 7, _ | 8, _ | 9, _ | 10, _ | 11, _ | 12, _ | 13, _ | 14, _ | 15, _ | 16, _ | 17, _ | 18, _ | 19, _ | 20, _ | 21, _ | 22, _ | 23, _ | 24, _ | 25, _ | 26, _ | 27, _ | 28, _ | 29, _ | 30, _ => injection ho with ho; subst ho; simp [Region.binds]
        case Bdd =>
          intro kq hk
          have hk2 : kq < 67 := by
            simp [Lt.D] at hk
            omega
          exact hk2
        case Bxx =>
          intro kq hk
          have hk2 : kq < 67 := by
            simp at hk
            omega
          exact hk2
        case Blc =>
          rintro L1 s1x s2x w1x hx ⟨⟨n1, h1, h2, h3⟩, h4⟩
          exact ⟨⟨n1, h1, h2, TS.local (hx 42 rfl) (hx 48 rfl) (hx 51 rfl) (hx 52 rfl) (hx 57 rfl) (hx 62 rfl) (hx 65 rfl) h3⟩, h4⟩
        case Bst => exact LtE.WI.start (show Below W3.heap.size W3 _ from (Below.refl _ W3).drew)
        case Bdo =>
          intro iq oq ho
          have hiq : iq < 31 := by have := (Array.getElem?_eq_some_iff.1 ho).1; simpa using this
          match iq, hiq with
          | 0, _ => injection ho with ho; subst ho; exact LtE.read rfl rfl rfl (fun L1 a w' hI hL hq => Lt.ex_field rfl (hI.fix 3 (Lt.notD rfl) rfl) (fR0 w' rb))
          | 1, _ => injection ho with ho; subst ho; exact LtE.read rfl rfl rfl (fun L1 a w' hI hL hq => Lt.ex_load_row (cs := [.int .i64 sh.a, .int .i64 sh.b, .int .i64 sh.c, .int .i64 sh.d, .int .i64 sh.e, .int .i64 sh.f]) rfl (hI.pure 0 _ _ rfl (hq ⟨0, .data⟩ (by simp) rfl)) (by obtain ⟨n1, hS⟩ := hI.world.any; exact (HRB.out w' hS.bel).1) (by kernel_rfl) (by kernel_rfl))
          | 2, _ => injection ho with ho; subst ho; exact LtE.read rfl rfl rfl (fun L1 a w' hI hL hq => Lt.ex_move rfl (hI.fix 4 (Lt.notD rfl) rfl))
          | 3, _ => injection ho with ho; subst ho; exact LtE.read rfl rfl rfl (fun L1 a w' hI hL hq => Lt.ex_move rfl (hI.fix 7 (Lt.notD rfl) rfl))
          | 4, _ => injection ho with ho; subst ho; exact LtE.read rfl rfl rfl (fun L1 a w' hI hL hq => Lt.ex_move rfl (hI.fix 6 (Lt.notD rfl) rfl))
          | 5, _ => injection ho with ho; subst ho; exact LtE.call (m := 0) (args := fun _ => #[.agg #[.int .i64 sh.a, .int .i64 sh.b, .int .i64 sh.c, .int .i64 sh.d, .int .i64 sh.e, .int .i64 sh.f], .int .i64 hand, .bool final, .int .i64 colour]) (by decide) rfl rfl rfl rfl (fun L hq p hp e => by simp at hp) (fun L hq m1 j1 e1 _ => absurd e1 (by omega)) (fun L1 a w' hI hq hS => Lt.call4 rfl (hI.pure 1 _ _ rfl (hq ⟨1, .data⟩ (by simp) rfl)) (hI.pure 2 _ _ rfl (hq ⟨2, .data⟩ (by simp) rfl)) (hI.pure 3 _ _ rfl (hq ⟨3, .data⟩ (by simp) rfl)) (hI.pure 4 _ _ rfl (hq ⟨4, .data⟩ (by simp) rfl)) rfl (by simp [go_sem])) (fun s w' hS => (KM.out w').mono (by rintro e w4 ⟨B, R, rfl, hl, hn, hg⟩; have hb := below_of_grown_none hg w'.heap.size (Nat.le_refl _); have hz := hS.size; exact ⟨_, rfl, Below.trans hS (hb.mono hz), B, R, by simp, hl, fun i x e => Nat.le_trans hz (hn i x e)⟩))
          | 6, _ => injection ho with ho; subst ho; exact LtE.read rfl rfl rfl (fun L1 a w' hI hL hq => Lt.ex_field rfl (hI.fix 3 (Lt.notD rfl) rfl) (fR0 w' rb))
          | 7, _ => injection ho with ho; subst ho; exact LtE.read rfl rfl rfl (fun L1 a w' hI hL hq => Lt.ex_load_row (cs := [.int .i64 sh.a, .int .i64 sh.b, .int .i64 sh.c, .int .i64 sh.d, .int .i64 sh.e, .int .i64 sh.f]) rfl (hI.pure 6 _ _ rfl (hq ⟨6, .data⟩ (by simp) rfl)) (by obtain ⟨n1, hS⟩ := hI.world.any; exact (HRB.out w' hS.bel).1) (by kernel_rfl) (by kernel_rfl))
          | 8, _ => injection ho with ho; subst ho; exact LtE.read rfl rfl rfl (fun L1 a w' hI hL hq => Lt.ex_move rfl (hI.fix 4 (Lt.notD rfl) rfl))
          | 9, _ => injection ho with ho; subst ho; exact LtE.read rfl rfl rfl (fun L1 a w' hI hL hq => Lt.ex_move rfl (hI.fix 7 (Lt.notD rfl) rfl))
          | 10, _ => injection ho with ho; subst ho; exact LtE.read rfl rfl rfl (fun L1 a w' hI hL hq => Lt.ex_move rfl (hI.fix 6 (Lt.notD rfl) rfl))
          | 11, _ => injection ho with ho; subst ho; exact LtE.call (m := 1) (args := fun _ => #[.agg #[.int .i64 sh.a, .int .i64 sh.b, .int .i64 sh.c, .int .i64 sh.d, .int .i64 sh.e, .int .i64 sh.f], .int .i64 hand, .bool final, .int .i64 colour]) (by decide) rfl rfl rfl rfl (fun L hq p hp e => by simp at hp) (fun L hq m1 j1 e1 hj => by (cases (show m1 = 0 from (by omega))); cases hj; exact hq ⟨5, .chain⟩ (by simp) rfl) (fun L1 a w' hI hq hS => Lt.call4 rfl (hI.pure 7 _ _ rfl (hq ⟨7, .data⟩ (by simp) rfl)) (hI.pure 8 _ _ rfl (hq ⟨8, .data⟩ (by simp) rfl)) (hI.pure 9 _ _ rfl (hq ⟨9, .data⟩ (by simp) rfl)) (hI.pure 10 _ _ rfl (hq ⟨10, .data⟩ (by simp) rfl)) rfl (by simp [go_sem])) (fun s w' hS => (KRM.out w').mono (by rintro e w4 ⟨rfl, hb⟩; exact ⟨_, rfl, hS.1.trans (hb.mono hS.1.size), by simpa using hS.2.below hb, by simp⟩))
          | 12, _ => injection ho with ho; subst ho; exact LtE.read rfl rfl rfl (fun L1 a w' hI hL hq => Lt.ex_field rfl (hI.fix 3 (Lt.notD rfl) rfl) (fR1 w' rb))
          | 13, _ => injection ho with ho; subst ho; exact LtE.read rfl rfl rfl (fun L1 a w' hI hL hq => Lt.ex_load rfl (hI.pure 12 _ _ rfl (hq ⟨12, .data⟩ (by simp) rfl)) (aggSl w') (by obtain ⟨n1, hS⟩ := hI.world.any; exact (HRB.out w' hS.bel).2))
          | 14, _ => injection ho with ho; subst ho; exact LtE.call (m := 2) (args := fun s => #[s 42, s 48, .slice ao n cap]) (by decide) rfl rfl rfl rfl (fun L hq p hp e => by simp at hp) (fun L hq m1 j1 e1 hj => by (cases (show m1 = 1 from (by omega))); cases hj; exact hq ⟨11, .data⟩ (by simp) rfl) (fun L1 a w' hI hq hS => Lt.call3 rfl rfl rfl (hI.pure 13 _ _ rfl (hq ⟨13, .data⟩ (by simp) rfl)) rfl (by simp [go_sem])) (fun s w' hS => by obtain ⟨hb, ⟨B, R, e42, hl, hz⟩, e48⟩ := hS; simp only [e42, e48]; exact (KD.out w' hb _ _ B R hl HCM.out HRMx.out hz).mono (by rintro e w4 ⟨rfl, hb4⟩; exact ⟨_, rfl, hb4, by simp⟩))
          | 15, _ => injection ho with ho; subst ho; exact LtE.link (m := 3) (by decide) rfl rfl rfl rfl (fun L hq p hp e => by simp at hp) (fun L hq m1 j1 e1 hj => by (cases (show m1 = 2 from (by omega))); cases hj; exact hq ⟨14, .data⟩ (by simp) rfl) (fun L1 a w' Kq hI hq hS hk => Lt.wp_value (Lt.ex_move rfl hS.2) (hk _ _ ⟨hS.1, by simp⟩))
          | 16, _ => injection ho with ho; subst ho; exact LtE.read rfl rfl rfl (fun L1 a w' hI hL hq => Lt.ex_field rfl (hI.fix 3 (Lt.notD rfl) rfl) (fR0 w' rb))
          | 17, _ => injection ho with ho; subst ho; exact LtE.read rfl rfl rfl (fun L1 a w' hI hL hq => Lt.ex_load_row (cs := [.int .i64 sh.a, .int .i64 sh.b, .int .i64 sh.c, .int .i64 sh.d, .int .i64 sh.e, .int .i64 sh.f]) rfl (hI.pure 16 _ _ rfl (hq ⟨16, .data⟩ (by simp) rfl)) (by obtain ⟨n1, hS⟩ := hI.world.any; exact (HRB.out w' hS.bel).1) (by kernel_rfl) (by kernel_rfl))
          | 18, _ => injection ho with ho; subst ho; exact LtE.read rfl rfl rfl (fun L1 a w' hI hL hq => Lt.ex_move rfl (hI.fix 4 (Lt.notD rfl) rfl))
          | 19, _ => injection ho with ho; subst ho; exact LtE.read rfl rfl rfl (fun L1 a w' hI hL hq => Lt.ex_move rfl (hI.fix 5 (Lt.notD rfl) rfl))
          | 20, _ => injection ho with ho; subst ho; exact LtE.call (m := 4) (args := fun _ => #[.agg #[.int .i64 sh.a, .int .i64 sh.b, .int .i64 sh.c, .int .i64 sh.d, .int .i64 sh.e, .int .i64 sh.f], .int .i64 hand, .int .i64 index]) (by decide) rfl rfl rfl rfl (fun L hq p hp e => by simp at hp) (fun L hq m1 j1 e1 hj => by (cases (show m1 = 3 from (by omega))); cases hj; exact hq ⟨15, .guard⟩ (by simp) rfl) (fun L1 a w' hI hq hS => Lt.call3 rfl (hI.pure 17 _ _ rfl (hq ⟨17, .data⟩ (by simp) rfl)) (hI.pure 18 _ _ rfl (hq ⟨18, .data⟩ (by simp) rfl)) (hI.pure 19 _ _ rfl (hq ⟨19, .data⟩ (by simp) rfl)) rfl (by simp [go_sem])) (fun s w' hS => (KG.out w').mono (by rintro e w4 ⟨B, R, rfl, hl, hn, hg⟩; have hb := below_of_grown_none hg w'.heap.size (Nat.le_refl _); have hz := hS.1.size; exact ⟨_, rfl, hS.1.trans (hb.mono hz), by simpa using hS.2, B, R, by simp, hl, fun i x e => Nat.le_trans hz (hn i x e)⟩))
          | 21, _ => injection ho with ho; subst ho; exact LtE.read rfl rfl rfl (fun L1 a w' hI hL hq => Lt.ex_field rfl (hI.fix 3 (Lt.notD rfl) rfl) (fR0 w' rb))
          | 22, _ => injection ho with ho; subst ho; exact LtE.read rfl rfl rfl (fun L1 a w' hI hL hq => Lt.ex_load_row (cs := [.int .i64 sh.a, .int .i64 sh.b, .int .i64 sh.c, .int .i64 sh.d, .int .i64 sh.e, .int .i64 sh.f]) rfl (hI.pure 21 _ _ rfl (hq ⟨21, .data⟩ (by simp) rfl)) (by obtain ⟨n1, hS⟩ := hI.world.any; exact (HRB.out w' hS.bel).1) (by kernel_rfl) (by kernel_rfl))
          | 23, _ => injection ho with ho; subst ho; exact LtE.read rfl rfl rfl (fun L1 a w' hI hL hq => Lt.ex_move rfl (hI.fix 4 (Lt.notD rfl) rfl))
          | 24, _ => injection ho with ho; subst ho; exact LtE.read rfl rfl rfl (fun L1 a w' hI hL hq => Lt.ex_move rfl (hI.fix 5 (Lt.notD rfl) rfl))
          | 25, _ => injection ho with ho; subst ho; exact LtE.call (m := 5) (args := fun _ => #[.agg #[.int .i64 sh.a, .int .i64 sh.b, .int .i64 sh.c, .int .i64 sh.d, .int .i64 sh.e, .int .i64 sh.f], .int .i64 hand, .int .i64 index]) (by decide) rfl rfl rfl rfl (fun L hq p hp e => by simp at hp) (fun L hq m1 j1 e1 hj => by (cases (show m1 = 4 from (by omega))); cases hj; exact hq ⟨20, .chain⟩ (by simp) rfl) (fun L1 a w' hI hq hS => Lt.call3 rfl (hI.pure 22 _ _ rfl (hq ⟨22, .data⟩ (by simp) rfl)) (hI.pure 23 _ _ rfl (hq ⟨23, .data⟩ (by simp) rfl)) (hI.pure 24 _ _ rfl (hq ⟨24, .data⟩ (by simp) rfl)) rfl (by simp [go_sem])) (fun s w' hS => (KRG.out w').mono (by rintro e w4 ⟨rfl, hb⟩; exact ⟨_, rfl, hS.1.trans (hb.mono hS.1.size), by simpa using hS.2.1, by simpa using hS.2.2.below hb, by simp⟩))
          | 26, _ => injection ho with ho; subst ho; exact LtE.read rfl rfl rfl (fun L1 a w' hI hL hq => Lt.ex_field rfl (hI.fix 3 (Lt.notD rfl) rfl) (fR1 w' rb))
          | 27, _ => injection ho with ho; subst ho; exact LtE.read rfl rfl rfl (fun L1 a w' hI hL hq => Lt.ex_load rfl (hI.pure 26 _ _ rfl (hq ⟨26, .data⟩ (by simp) rfl)) (aggSl w') (by obtain ⟨n1, hS⟩ := hI.world.any; exact (HRB.out w' hS.bel).2))
          | 28, _ => injection ho with ho; subst ho; exact LtE.call (m := 6) (args := fun s => #[s 57, s 62, .slice ao n cap]) (by decide) rfl rfl rfl rfl (fun L hq p hp e => by simp at hp) (fun L hq m1 j1 e1 hj => by (cases (show m1 = 5 from (by omega))); cases hj; exact hq ⟨25, .data⟩ (by simp) rfl) (fun L1 a w' hI hq hS => Lt.call3 rfl rfl rfl (hI.pure 27 _ _ rfl (hq ⟨27, .data⟩ (by simp) rfl)) rfl (by simp [go_sem])) (fun s w' hS => by obtain ⟨hb, e52, ⟨B, R, e57, hl, hz⟩, e62⟩ := hS; simp only [e57, e62]; exact (KD.out w' hb _ _ B R hl HCG.out HRGx.out hz).mono (by rintro e w4 ⟨rfl, hb4⟩; exact ⟨_, rfl, hb4, by simpa using e52, by simp⟩))
          | 29, _ => injection ho with ho; subst ho; exact LtE.read rfl rfl rfl (fun L1 a w' hI hL hq => by obtain ⟨⟨n1, hn1, hLn, hS⟩, _⟩ := hI.world; exact Lt.ex_pick rfl (hS.one (Nat.le_trans (by decide) ((hLn 6 28 rfl).1 (hq ⟨28, .data⟩ (by simp) rfl)))) (by rw [if_pos rfl]; exact hS.two ((hLn 6 28 rfl).1 (hq ⟨28, .data⟩ (by simp) rfl))))
          | 30, _ => injection ho with ho; subst ho; exact LtE.read rfl rfl rfl (fun L1 a w' hI hL hq => Lt.ex_assign rfl (hI.pure 29 _ _ rfl (hq ⟨29, .data⟩ (by simp) rfl)))
        case Bfi =>
          intro L1 a' w' hI hall
          have hS := hI.world.done (fun i hi => hall i (by simp at hi ⊢; omega))
          have HB := hide (show Below W3.heap.size W3 w' from hS.1)
          have hfr := LtH.frame hI [37, 38, 39, 40, 41, 42, 43, 44, 45, 46, 47, 48, 49, 50, 51, 52, 53, 54, 55, 56, 57, 58, 59, 60, 61, 62, 63, 64, 65, 66, 2] rfl rfl (fun x hx => by simp at hx ⊢; omega)
          obtain ⟨t37, e37⟩ : ∃ t, a'.eval (.tmp 37) = t := ⟨_, rfl⟩
          obtain ⟨t38, e38⟩ : ∃ t, a'.eval (.tmp 38) = t := ⟨_, rfl⟩
          obtain ⟨t39, e39⟩ : ∃ t, a'.eval (.tmp 39) = t := ⟨_, rfl⟩
          obtain ⟨t40, e40⟩ : ∃ t, a'.eval (.tmp 40) = t := ⟨_, rfl⟩
          obtain ⟨t41, e41⟩ : ∃ t, a'.eval (.tmp 41) = t := ⟨_, rfl⟩
          obtain ⟨t42, e42⟩ : ∃ t, a'.eval (.tmp 42) = t := ⟨_, rfl⟩
          obtain ⟨t43, e43⟩ : ∃ t, a'.eval (.tmp 43) = t := ⟨_, rfl⟩
          obtain ⟨t44, e44⟩ : ∃ t, a'.eval (.tmp 44) = t := ⟨_, rfl⟩
          obtain ⟨t45, e45⟩ : ∃ t, a'.eval (.tmp 45) = t := ⟨_, rfl⟩
          obtain ⟨t46, e46⟩ : ∃ t, a'.eval (.tmp 46) = t := ⟨_, rfl⟩
          obtain ⟨t47, e47⟩ : ∃ t, a'.eval (.tmp 47) = t := ⟨_, rfl⟩
          obtain ⟨t48, e48⟩ : ∃ t, a'.eval (.tmp 48) = t := ⟨_, rfl⟩
          obtain ⟨t49, e49⟩ : ∃ t, a'.eval (.tmp 49) = t := ⟨_, rfl⟩
          obtain ⟨t50, e50⟩ : ∃ t, a'.eval (.tmp 50) = t := ⟨_, rfl⟩
          obtain ⟨t51, e51⟩ : ∃ t, a'.eval (.tmp 51) = t := ⟨_, rfl⟩
          obtain ⟨t52, e52⟩ : ∃ t, a'.eval (.tmp 52) = t := ⟨_, rfl⟩
          obtain ⟨t53, e53⟩ : ∃ t, a'.eval (.tmp 53) = t := ⟨_, rfl⟩
          obtain ⟨t54, e54⟩ : ∃ t, a'.eval (.tmp 54) = t := ⟨_, rfl⟩
          obtain ⟨t55, e55⟩ : ∃ t, a'.eval (.tmp 55) = t := ⟨_, rfl⟩
          obtain ⟨t56, e56⟩ : ∃ t, a'.eval (.tmp 56) = t := ⟨_, rfl⟩
          obtain ⟨t57, e57⟩ : ∃ t, a'.eval (.tmp 57) = t := ⟨_, rfl⟩
          obtain ⟨t58, e58⟩ : ∃ t, a'.eval (.tmp 58) = t := ⟨_, rfl⟩
          obtain ⟨t59, e59⟩ : ∃ t, a'.eval (.tmp 59) = t := ⟨_, rfl⟩
          obtain ⟨t60, e60⟩ : ∃ t, a'.eval (.tmp 60) = t := ⟨_, rfl⟩
          obtain ⟨t61, e61⟩ : ∃ t, a'.eval (.tmp 61) = t := ⟨_, rfl⟩
          obtain ⟨t62, e62⟩ : ∃ t, a'.eval (.tmp 62) = t := ⟨_, rfl⟩
          obtain ⟨t63, e63⟩ : ∃ t, a'.eval (.tmp 63) = t := ⟨_, rfl⟩
          obtain ⟨t64, e64⟩ : ∃ t, a'.eval (.tmp 64) = t := ⟨_, rfl⟩
          obtain ⟨t65, e65⟩ : ∃ t, a'.eval (.tmp 65) = t := ⟨_, rfl⟩
          obtain ⟨t66, e66⟩ : ∃ t, a'.eval (.tmp 66) = t := ⟨_, rfl⟩
          have e2 := hI.pure 30 2 _ rfl (hall 30 (by decide))
          simp only at e2
          rw [hfr]
          simp only [LtH.lay, List.foldl, e37, e38, e39, e40, e41, e42, e43, e44, e45, e46, e47, e48, e49, e50, e51, e52, e53, e54, e55, e56, e57, e58, e59, e60, e61, e62, e63, e64, e65, e66, e2]
          clear hfr hI hall hS e2 e37 e38 e39 e40 e41 e42 e43 e44 e45 e46 e47 e48 e49 e50 e51 e52 e53 e54 e55 e56 e57 e58 e59 e60 e61 e62 e63 e64 e65 e66
          simp only [Act.put, List.setIfInBounds_toArray, List.set_cons_succ, List.set_cons_zero]
          go_wp2_with fail
          go_ret
          exact ⟨rfl, HB3.out.trans (HB.out.mono HB3.out.size)⟩
      · have hsz' : ((n : Int) != sizeOf sh) = true := by simpa using hsz
        go_wp2_with fail
        go_ret
        exact ⟨rfl, HB3.out⟩
    · have SZ := hide (SZB.out h5)
      go_wp2_with fail
      refine (SZ.out W2).mono ?_
      rintro e W3 ⟨rfl, hg3⟩
      have b3 := below_of_grown_none hg3 W2.heap.size (Nat.le_refl _)
      have HB3 := hide (HB2.out.trans (b3.mono HB2.out.size))
      clear hg3 b3
      go_wp2_with fail
      go_ret
      exact ⟨rfl, HB3.out⟩
end Rom
end
end Go.Proofs.YtppgbndoijppnaaGreat
