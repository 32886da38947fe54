/-
  Lemmas: RSame, Cells0, RSameG, RoomTD, RoomTG, LayP.
-/
import Derived.Test.YtppgbndoijppnaaGreatTp44
import Derived.Test.YtppgbndoijppnaaGreatTp12
import Derived.Test.YtppgbndoijppnaaGreatTp31
import Derived.Test.YtppgbndoijppnaaGreatTp47
import Derived.Test.YtppgbndoijppnaaGreatTp05
import Derived.Test.YtppgbndoijppnaaGreatTp03
import Derived.Deep.RegionHeld
import Derived.Test.YtppgbndoijppnaaGreatTp13
import Derived.Test.YtppgbndoijppnaaGreatTp21
import Derived.Test.YtppgbndoijppnaaGreatTp46
namespace Go.Proofs.YtppgbndoijppnaaGreat
set_option maxHeartbeats 8000000
open Go.RowKit
set_option linter.unusedVariables false
set_option linter.unusedSimpArgs false
set_option linter.unnecessarySimpa false
set_option maxRecDepth 20000
section
end
section
theorem grows_cell {blk : Rl → Nat} {c : Rl → Option Row} {r : Rl} {e : TypeId} {sz k : Nat} {xs : List Value} {v : Value} {w : World} {base : Nat} (h : Grows blk c r e sz k xs v) (H : Has w base blk c) (hl : xs.length = k * sz) (hk : 0 < k) :
  ∃ b cap, v = .slice (some ⟨b, 0, none⟩) k cap ∧ b < w.heap.size ∧ base ≤ b ∧ ∀ i u, xs[i]? = some u → w.cell? ⟨b, i, none⟩ = some u := by
 rcases h with ⟨rfl, _⟩ | ⟨cap, F, rfl, hc, hkc, hcm, hp⟩
 ·omega
 ·refine ⟨blk r, cap, rfl, H.lt hc, H.new _ _ hc, fun i u hu => ?_⟩
  have hi : i < xs.length := by rcases Nat.lt_or_ge i xs.length with l | l; exact l; rw [List.getElem?_eq_none l] at hu; cases hu
  have hlt : i < cap * sz := by have := Nat.mul_le_mul_right sz hkc; omega
  rw [H.cell hc hlt]
  show some (F i) = _
  rw [hp i u hu]
theorem stepCells_get (s : Nat → Stp) (k j i : Nat) (hj : j < k) (hi : i < 6) : (stepCells s k)[j * 6 + i]? = some ((s j).cell i) := by
 induction k with
 | zero => omega
 | succ k ih =>
  simp only [stepCells]
  by_cases e : j = k
  ·subst e
   rw [List.getElem?_append_right (by rw [stepCells_length]; omega), stepCells_length, show j * 6 + i - j * 6 = i by omega]
   match i, hi with
   | 0, _ | 1, _ | 2, _ | 3, _ | 4, _ | 5, _ => rfl
  ·rw [List.getElem?_append_left (by rw [stepCells_length]; omega)]
   exact ih (by omega)
def Ans.cell (x : Ans) (i : Nat) : Value := match i with | 0 => .bool x.ok | _ => .int .u64 x.val
theorem ansCells_get (a : Nat → Ans) (k j i : Nat) (hj : j < k) (hi : i < 2) : (ansCells a k)[j * 2 + i]? = some (Ans.cell (a j) i) := by
 induction k with
 | zero => omega
 | succ k ih =>
  simp only [ansCells]
  by_cases e : j = k
  ·subst e
   rw [List.getElem?_append_right (by rw [ansCells_length]; omega), ansCells_length, show j * 2 + i - j * 2 = i by omega]
   match i, hi with
   | 0, _ | 1, _ => rfl
  ·rw [List.getElem?_append_left (by rw [ansCells_length]; omega)]
   exact ih (by omega)
theorem row_arr (w : World) (arr : Array Value) (t : TypeId) : (w.alloc (.cells arr t)).rowIs w.heap.size t arr.size (fun i => arr.getD i undef) :=
 World.rowIs_alloc w arr t _ (fun i hi => by simp [Array.getD, hi])
end
section
def SeesA (w : World) (B : Nat) (ao : Option Addr) (nh : Nat) (dn : Nat → Nat) (an : Nat → Nat → Ans) : Prop :=
 ∀ h, h < nh → ∃ b off av cap, ao = some ⟨b, off, none⟩ ∧ b < B ∧ w.cell? ⟨b, off + h, none⟩ = some (.slice av (dn h) cap) ∧ ∀ j, j < dn h → ∃ b' off', av = some ⟨b', off', none⟩ ∧ b' < B ∧ ∀ i, i < 2 → w.cell? ⟨b', off' + j * 2 + i, none⟩ = some (Ans.cell (an h j) i)
theorem SeesA.below {w w' : World} {B C : Nat} {ao : Option Addr} {nh : Nat} {dn : Nat → Nat} {an : Nat → Nat → Ans} (S : SeesA w B ao nh dn an) (hb : Below C w w') (hBC : B ≤ C) : SeesA w' B ao nh dn an := fun h hh => by
 obtain ⟨b, off, av, cap, e, hl, hc, hj⟩ := S h hh
 refine ⟨b, off, av, cap, e, hl, (hb.cell (p := ⟨b, off + h, none⟩) (by show b < C; omega)).trans hc, fun j hjj => ?_⟩
 obtain ⟨b', off', e', hl', hc'⟩ := hj j hjj
 exact ⟨b', off', e', hl', fun i hi => (hb.cell (p := ⟨b', off' + j * 2 + i, none⟩) (by show b' < C; omega)).trans (hc' i hi)⟩
theorem SeesA.mono {w : World} {B C : Nat} {ao : Option Addr} {nh : Nat} {dn : Nat → Nat} {an : Nat → Nat → Ans} (S : SeesA w B ao nh dn an) (hBC : B ≤ C) : SeesA w C ao nh dn an := fun h hh => by
 obtain ⟨b, off, av, cap, e, hl, hc, hj⟩ := S h hh
 exact ⟨b, off, av, cap, e, by omega, hc, fun j hjj => by obtain ⟨b', off', e', hl', hc'⟩ := hj j hjj; exact ⟨b', off', e', by omega, hc'⟩⟩
theorem ErrOf.one {K : Kd} {P : Par} {most e e' : Int} (h : ErrOf K P most e) (h' : ErrOf K P most e') : e = e' := by
 have neg : ¬ (LongHands P.nh P.jn ∨ 65536 < P.ns ∨ 65536 < most) ∨ (LongHands P.nh P.jn ∨ 65536 < P.ns ∨ 65536 < most) := (Classical.em _).symm
 rcases h with ⟨a1, rfl⟩ | ⟨a1, a2, rfl⟩ | ⟨a1, a2, a3, a4, rfl⟩ | ⟨⟨a1, a2, a3, a4, a5⟩, a6⟩ <;> rcases h' with ⟨b1, rfl⟩ | ⟨b1, b2, rfl⟩ | ⟨b1, b2, b3, b4, rfl⟩ | ⟨⟨b1, b2, b3, b4, b5⟩, b6⟩
 all_goals first
  | rfl
  | (exfalso; omega)
  | (exfalso; rcases a2 with a2 | a2 | a2; exact b2 a2; omega; omega)
  | (exfalso; rcases b2 with b2 | b2 | b2; exact a2 b2; omega; omega)
  | exact a6.one b6
theorem ErrOf.not {K : Kd} {P : Par} {most e : Int} (h : ErrOf K P most e) : ¬ (Fine P most ∧ AllOk K P) := by
 rintro ⟨⟨b1, b2, b3, b4, b5⟩, b6⟩
 rcases h with ⟨a1, _⟩ | ⟨a1, a2, _⟩ | ⟨a1, a2, a3, a4, _⟩ | ⟨_, a6⟩
 ·omega
 ·rcases a2 with a2 | a2 | a2
  ·exact b2 a2
  ·omega
  ·omega
 ·omega
 ·exact a6.not b6
end
section
namespace Rom
open Hp
theorem tr_to {w a b : World} {Z S' : Nat → Prop} (h : Touch w a Z) (k : Touch a b S') (hs : ∀ i, S' i → Z i ∨ w.heap.size ≤ i) : Touch w b Z := h.trans' k (fun i hi hS => (hs i hS).elim id (fun hle => absurd hi (by omega)))
def LIs (sh : Shp) (j : Jb) (w : World) (B : Nat → Nat) (R : Nat → Option Row) (s : RmS) : Prop := (kRom true sh).Lies w j B R s
theorem LIs.lt {sh : Shp} {j : Jb} {w : World} {B : Nat → Nat} {R : Nat → Option Row} {s : RmS} (h : LIs sh j w B R s) {i : Nat} {x : Row} (e : R i = some x) : B i < w.heap.size := Kd.Lies.lt h e
theorem LIs.tch {sh : Shp} {j : Jb} {w w' : World} {B : Nat → Nat} {R : Nat → Option Row} {s : RmS} {S : Nat → Prop} (h : LIs sh j w B R s) (ht : Touch w w' S) (hs : ∀ i x, R i = some x → ¬ S (B i)) : LIs sh j w' B R s := Kd.Lies.touch h ht hs
theorem tr_up {w a b : World} {Z : Nat → Prop} (h : Touch w a Z) (k : Below a.heap.size a b) : Touch w b Z := h.trans (Touch.of_below k Z)
theorem driven_any {w : World} {sh : Shp} (h5 : Shape.R5 sh.a sh.b sh.c sh.d sh.e) {n cap : Nat} {ao : Option Addr} {F0 : Nat → Int} (hn2 : 2 ≤ n) (hn4 : n ≤ 4096) (S : Sees w w.heap.size ao n F0) (hnil : ao = none → n = 0 ∧ cap = 0) (hf : ∀ i, i < n → 0 ≤ F0 i ∧ F0 i ≤ 18446744073709551615) {j : Jb} {hand : Int} (hjw : j.wf) (hja : j.a ≤ 9223372036854775807)
    {B0 : Nat → Nat} {R0 : Nat → Option Row} (hL : (kRom true sh).Lies w j B0 R0 (rinit sh hand j)) {cs0 : List Value} (hcs : IsTk cs0) (hrep0 : repR sh cs0 (rinit sh hand j)) :
    Calls Tryz.prog 13 #[.iface ((kRom true sh).tid j) (.pointer (some ⟨B0 0, 0, none⟩)), .agg cs0.toArray, .slice ao n cap] w fun e w' => e = .returned (.bool true) ∧ Touch w w' (fun k => ∃ i x, R0 i = some x ∧ k = B0 i) := by
  have fin : (kRom true sh).fine j := ⟨hjw, hand, by show rerr true sh hand j = 0; simp [rerr, hja]⟩
  have hms := (isKind (any := true) h5).mstep j fin
  have hma := (isKind (any := true) h5).mans j fin
  have hcs' := (isKind (any := true) h5).cstep j fin
  have hca := (isKind (any := true) h5).cans j fin
  have hms' : ∀ (b : Nat) (w : World), (method 321 ((kRom true sh).tid j) (.pointer (some ⟨b, 0, none⟩)) "Step").run Tryz.prog w = .ok (164, .pointer (some ⟨b, 0, none⟩)) w := hms
  have hma' : ∀ (b : Nat) (w : World), (method 321 ((kRom true sh).tid j) (.pointer (some ⟨b, 0, none⟩)) "Answer").run Tryz.prog w = .ok (163, .pointer (some ⟨b, 0, none⟩)) w := hma
  have KSTEP := hide (show ∀ (w : World) (bm bw n : Nat) (f : Nat → Int) (B : Nat → Nat) (R : Nat → Option Row) (s : RmS), (s.j = j ∧ Wf sh s) → LIs sh j w B R s → IsMem w bm bw n f → (∀ i x, R i = some x → B i ≠ bm ∧ B i ≠ bw) →
    Calls Tryz.prog 164 #[.pointer (some ⟨B 0, 0, none⟩), .pointer (some ⟨bm, 0, none⟩)] w fun e w' => e = .returned (.tuple #[(stepOf n f (rreq sh s)).val, .int .i64 (if rends sh s (stepOf n f (rreq sh s)) = true then 1 else 0)]) ∧
      ∃ B' R', B' 0 = B 0 ∧ LIs sh j w' B' R' (rnext sh s (stepOf n f (rreq sh s))) ∧ (∀ i x, R' i = some x → (∃ i0 x0, R i0 = some x0 ∧ B' i = B i0) ∨ w.heap.size ≤ B' i) ∧ IsMem w' bm bw n (wordsOf n f (rreq sh s)) ∧ Touch w w' (fun k => k = bw ∨ ∃ i x, R i = some x ∧ k = B i) from fun w bm bw n f B R s h1 h2 h3 h4 => (isKind (any := true) h5).step fin h1 h2 h3 h4)
  have KANS := hide (show ∀ (w : World) (B : Nat → Nat) (R : Nat → Option Row) (s : RmS), (kRom true sh).wfE j s → LIs sh j w B R s → Calls Tryz.prog 163 #[.pointer (some ⟨B 0, 0, none⟩)] w fun e w' => e = .returned s.told.value ∧ w.grownBy w' none from fun w B R s h1 h2 => (isKind (any := true) h5).ans fin h1 h2)
  have RSTEP := hide (show ∀ (cs : List Value) (s : RmS), IsTk cs → repR sh cs s → ∀ (n : Nat) (f : Nat → Int), (∀ i, i < n → 0 ≤ f i ∧ f i ≤ 18446744073709551615) → ∃ cs', IsTk cs' ∧ (¬ rends sh s (stepOf n f (rreq sh s)) = true → repR sh cs' (rnext sh s (stepOf n f (rreq sh s)))) ∧
    (rends sh s (stepOf n f (rreq sh s)) = true → cs'[22]? = some (.bool (rnext sh s (stepOf n f (rreq sh s))).told.ok) ∧ cs'[23]? = some (.int .u64 (rnext sh s (stepOf n f (rreq sh s))).told.val)) ∧ (∀ q, q < 4 → cs'[24 + q]? = some (.int .u64 0)) ∧
    ∀ (w : World) (g cap : Nat), IsRow w g n cap f → Calls Tryz.prog 30 #[.agg cs.toArray, .slice (some ⟨g, 0, none⟩) n cap] w fun e w' => e = .returned (.tuple #[.agg cs'.toArray, (stepOf n f (rreq sh s)).val, .bool (rends sh s (stepOf n f (rreq sh s)))]) ∧ IsRow w' g n cap (wordsOf n f (rreq sh s)) ∧ w.grownBy w' (some g) from fun cs s h1 h2 n f h3 => rstep_any (any := true) h5 cs s h1 h2 n f h3)
  have ALONE := hide (fun (k : Nat) (s : RmS) (F : Nat → Int) (hw : Wf sh s) (h : Aln sh k s F) (he : ¬ rends sh s (stepOf n F (rreq sh s)) = true) => Aln.next h5 hn2 hw h he)
  have WNX := hide (fun (s : RmS) (F : Nat → Int) (hF : ∀ i, i < n → 0 ≤ F i ∧ F i ≤ 18446744073709551615) (hw : s.j = j ∧ Wf sh s) (he : ¬ rends sh s (stepOf n F (rreq sh s)) = true) => show (rnext sh s (stepOf n F (rreq sh s))).j = j ∧ Wf sh (rnext sh s (stepOf n F (rreq sh s))) from ⟨(rnext_j sh s _).trans hw.1, rnext_wf h5.2.1 hw.2 (had_bounds hF _) he⟩)
  have WEN := hide (fun (s : RmS) (F : Nat → Int) (hF : ∀ i, i < n → 0 ≤ F i ∧ F i ≤ 18446744073709551615) (hw : s.j = j ∧ Wf sh s) => show (kRom true sh).wfE j (rnext sh s (stepOf n F (rreq sh s))) from ⟨s, n, F, hF, hw, rfl⟩)
  have AL0 := hide (Aln.init h5 hand j F0)
  have JW0 : Hid ((rinit sh hand j).j = j ∧ Wf sh (rinit sh hand j)) := ⟨rfl, wf_init sh hand hjw (fun _ => hja)⟩
  have HS0 := hide S
  have HNIL := hide hnil
  have HF0 := hide hf
  have KCS := hide hcs
  have HREP0 := hide hrep0
  have HL0 := hide (show LIs sh j w B0 R0 (rinit sh hand j) from hL)
  obtain ⟨tid, htid⟩ : ∃ t, (kRom true sh).tid j = t := ⟨_, rfl⟩
  rw [htid] at hms' hma' ⊢
  have hi := iface_nil tid
  have hcst : ∀ (args : Array Value) (w : World), (callFunc 164 args).run Tryz.prog w = .ok (.enter 164 args) w := hcs'
  have hcan : ∀ (args : Array Value) (w : World), (callFunc 163 args).run Tryz.prog w = .ok (.enter 163 args) w := hca
  clear hms hma hcs' hca htid
  obtain ⟨RP, hRP⟩ : ∃ RP, repR sh = RP := ⟨_, rfl⟩
  rw [hRP] at RSTEP HREP0
  obtain ⟨TE, hTE⟩ : ∃ TE, rends sh = TE := ⟨_, rfl⟩
  obtain ⟨TX, hTX⟩ : ∃ TX, rnext sh = TX := ⟨_, rfl⟩
  obtain ⟨TR, hTR⟩ : ∃ TR, rreq sh = TR := ⟨_, rfl⟩
  obtain ⟨ALN, hALN⟩ : ∃ ALN, Aln sh = ALN := ⟨_, rfl⟩
  obtain ⟨WFr, hWFr⟩ : ∃ WFr, Wf sh = WFr := ⟨_, rfl⟩
  obtain ⟨s0, hs0⟩ : ∃ s0, rinit sh hand j = s0 := ⟨_, rfl⟩
  obtain ⟨WE, hWE⟩ : ∃ WE, (kRom true sh).wfE j = WE := ⟨_, rfl⟩
  have LIlt := hide (fun (w : World) (B : Nat → Nat) (R : Nat → Option Row) (s : RmS) (h : LIs sh j w B R s) (i : Nat) (x : Row) (e : R i = some x) => h.lt e)
  have LItch := hide (fun (w w' : World) (B : Nat → Nat) (R : Nat → Option Row) (s : RmS) (S : Nat → Prop) (h : LIs sh j w B R s) (ht : Touch w w' S) (hs : ∀ i x, R i = some x → ¬ S (B i)) => h.tch ht hs)
  obtain ⟨LI, hLI⟩ : ∃ LI, LIs sh j = LI := ⟨_, rfl⟩
  rw [hLI] at KSTEP KANS HL0 LIlt LItch
  rw [hTE, hTX, hTR] at KSTEP RSTEP ALONE WNX
  rw [hTX, hTR, hWE] at WEN
  rw [hWE] at KANS
  rw [hALN] at ALONE AL0
  simp only [hWFr] at KSTEP ALONE WNX WEN JW0
  rw [hs0] at HL0 HREP0 AL0 JW0
  obtain ⟨Z, hZ⟩ : ∃ Z : Nat → Prop, (fun k => ∃ i x, R0 i = some x ∧ k = B0 i) = Z := ⟨_, rfl⟩
  have HZ0 := hide (show ∀ i x, R0 i = some x → Z (B0 i) from fun i x e => by rw [← hZ]; exact ⟨i, x, e, rfl⟩)
  rw [hZ]
  obtain ⟨b0, hb0⟩ : ∃ b, B0 0 = b := ⟨_, rfl⟩
  have HB0 := hide hb0
  rw [hb0]
  obtain ⟨i46, hi46, hz46, hs46, hy46⟩ := info46e
  have hnn : (n : Int) ≤ 9223372036854775807 := by omega
  clear hZ hb0 hTE hTX hTR hALN hWFr hs0 hWE hLI hRP hL hcs hrep0 S hnil hf fin hjw hja h5
  obtain ⟨W0, hW0⟩ : ∃ W0, w.alloc (.cells cs0.toArray 59) = W0 := ⟨_, rfl⟩
  have r0 : W0.rowIs w.heap.size 59 28 (lrow cs0) := by rw [← hW0]; exact rowL_alloc w cs0 _ KCS.out.1
  have B00 : Below w.heap.size w W0 := by rw [← hW0]; exact (Below.refl _ w).alloc (Nat.le_refl _) _
  have sz0 : W0.heap.size = w.heap.size + 1 := by rw [← hW0]; simp
  have HR0 := hide r0
  have HB00 := hide B00
  have HS00 := hide ((HS0.out.below B00 (Nat.le_refl _)).mono B00.size)
  obtain ⟨bu, hbu⟩ : ∃ b, w.heap.size = b := ⟨_, rfl⟩
  clear r0 B00
  go_enter Tryz.func13, Tryz.ntmps13
  go_wp2_with fail
  refine (new_mem HS00.out HF0.out hn4).mono ?_
  rintro e w1 ⟨bm, bw, rfl, hm1, hb1, hbm, hbw⟩
  have HB01 := hide (HB00.out.trans (hb1.mono (by omega)))
  have HR1 := hide (HR0.out.of_block (hb1.block w.heap.size HR0.out.lt))
  have HM1 := hide hm1
  have HS1 := hide ((HS0.out.below HB01.out (Nat.le_refl _)).mono HB01.out.size)
  have hmw := hm1.ne
  have hs1 := hb1.size
  have lm1 := hm1.head.lt
  have lw1 := hm1.row.lt
  clear hb1 hm1 hW0
  go_upto_region 6 with (fail)
  go_wp2_with (at_builtin; refine wpList_append_opt rfl (.tmp 29) (.tmp 30) 24 rfl w1.heap.size 50 i46 (.int .u64 0) 1 8 Tryz.underlying24 hi46 hz46 hs46 hy46 rfl (by decide) (.slice (some ⟨w1.heap.size, 0, none⟩) 0 0) 0 [] rfl (by have := World.ownsRow_lit (base := w1.heap.size) (e := 50) (size := 1) w1 #[] 0 (by simp) (by unfold maxLen; omega) rfl; simpa using this) ao n cap (wordCells n F0) rfl HNIL.out (by simp [wordCells]) (Sees.news (HS1.out.alloc _)) (wordCells_one n F0) (by unfold maxLen; omega) (by omega) (by simp) ?_; intro v4 w4 hown4 hgrow4 hnn4; rw [Nat.zero_add, List.nil_append] at hown4; obtain ⟨gv, capw, rfl, hrv4, hgv⟩ := owned_row hown4 (fun he => by have := hnn4 he; cases this) HF0.out; have B14 := hide (show Below w1.heap.size w1 w4 from ((Below.refl _ w1).alloc (Nat.le_refl _) (.cells #[] 50)).grown hgrow4 (by simp) (by simp [Value.ownBlock])))
  have hs4 := B14.out.size
  have HB04 := hide (HB01.out.trans (B14.out.mono HB01.out.size))
  have HR4 := hide (HR1.out.of_block (B14.out.block w.heap.size (by have := HR1.out.lt; omega)))
  have HM4 := hide (HM1.out.below B14.out)
  have HRV := hide hrv4
  have HL4 := hide (LItch.out _ _ _ _ _ (fun _ => False) HL0.out (Touch.of_below HB04.out _) (fun _ _ _ h => h))
  have HLO := hide (show ∀ i x, R0 i = some x → B0 i < w.heap.size from fun i x e => LIlt.out _ _ _ _ HL0.out i x e)
  rw [hbu] at HR4 sz0
  try rw [hbu]
  have n1 : bu < bm := by omega
  have n2 : bu < bw := by omega
  have n3 : bm < gv := by omega
  have n4 : bw < gv := by omega
  have SEP0 := hide (show ∀ i x, R0 i = some x → B0 i ≠ bm ∧ B0 i ≠ bw ∧ gv ≠ B0 i ∧ B0 i ≠ bu from fun i x e => by have := HLO.out i x e; omega)
  have LOC0 := hide (show ∀ i x, R0 i = some x → Z (B0 i) ∨ w.heap.size ≤ B0 i from fun i x e => .inl (HZ0.out i x e))
  have HT4 := hide (show Touch w w4 Z from Touch.of_below HB04.out Z)
  have hwbu : w.heap.size ≤ bu := by omega
  clear hrv4 hown4 hgrow4 hnn4 hs1 hs4 lm1 lw1 hbm hbw hgv
  go_loopw [10] (fun v10 wr => ∃ (k : Nat) (s : RmS) (F : Nat → Int) (cs : List Value) (B : Nat → Nat) (R : Nat → Option Row), k < 40 ∧ v10 = .int .i64 (k : Int) ∧ B 0 = b0 ∧ LI wr B R s ∧ (∀ i x, R i = some x → B i ≠ bm ∧ B i ≠ bw ∧ gv ≠ B i ∧ B i ≠ bu) ∧ (∀ i x, R i = some x → Z (B i) ∨ w.heap.size ≤ B i) ∧ IsMem wr bm bw n F ∧ IsRow wr gv n capw F ∧ wr.rowIs bu 59 28 (lrow cs) ∧ IsTk cs ∧ RP cs s ∧ (s.j = j ∧ WFr s) ∧ ALN k s F ∧ Touch w wr Z) (fun v10 _ => 40 - (intOf v10).toNat)
  case atStart => exact ⟨0, s0, F0, cs0, B0, R0, by omega, rfl, HB0.out, HL4.out, SEP0.out, LOC0.out, HM4.out, HRV.out, HR4.out, KCS.out, HREP0.out, JW0.out, AL0.out, HT4.out⟩
  case round =>
    obtain ⟨k, s, F, cs, B, R, hk, rfl, hb0, li, sep, loc, mm, rv, ru, itk, rp, hj, al, tch0⟩ := hrel
    have hk' : (k : Int) < 40 := by omega
    obtain ⟨cs', q1, q2, q3, _, q5⟩ := RSTEP.out cs s itk rp n F rv.2.2.2
    have AL := hide (ALONE.out k s F hj.2 al)
    have WN := hide (WNX.out s F rv.2.2.2 hj)
    have WEx := hide (WEN.out s F rv.2.2.2 hj)
    obtain ⟨x, hx⟩ : ∃ x, stepOf n F (TR s) = x := ⟨_, rfl⟩
    obtain ⟨F', hF'⟩ : ∃ F', wordsOf n F (TR s) = F' := ⟨_, rfl⟩
    have ks := KSTEP.out wr bm bw n F B R s hj li mm (fun i x e => ⟨(sep i x e).1, (sep i x e).2.1⟩)
    rw [hx, hF'] at ks q5 AL
    rw [hx] at q2 q3 WN WEx
    obtain ⟨en, hen⟩ : ∃ en, TE s x = en := ⟨_, rfl⟩
    obtain ⟨s', hs'⟩ : ∃ s', TX s x = s' := ⟨_, rfl⟩
    rw [hen, hs'] at ks q2 q3 AL WN
    rw [hs'] at WEx
    rw [hen] at q5
    obtain ⟨v, hv⟩ : ∃ v : Int, (if en = true then (1 : Int) else 0) = v := ⟨_, rfl⟩
    rw [hv, hb0] at ks
    have HV := hide hv
    have KS := hide ks
    have Q1 := hide q1
    have Q2 := hide q2
    have Q3 := hide q3
    have Q5 := hide q5
    have HWN := WN
    have HWE := WEx
    have HRT := hide li
    have HSEP := hide sep
    have HLOC := hide loc
    have HRV := hide rv
    have HRU := hide ru
    have HMM := hide mm
    have HITK := hide itk
    have HBEL := hide tch0
    have HBB := hide hb0
    have lrv := rv.lt
    have lru := ru.lt
    have lrb := mm.row.lt
    have lwr := tch0.size
    obtain ⟨dT, hdT⟩ := row79
    have DT := hide hdT
    clear li sep loc mm rv ru itk rp al tch0 ks q1 q2 q3 q5 hx hF' hs' hv hdT hen hb0 WN WEx
    go_wp2_with fail
    refine KS.out.mono ?_
    rintro e w1 ⟨rfl, B', R', hb', li1, hnew, mm1, tch⟩
    simp only [Stp.val]
    have s1 := tch.size
    have BE1 := hide (tr_to HBEL.out tch (fun i h => by rcases h with rfl | ⟨q, y, e, rfl⟩; exact .inr (by omega); exact HLOC.out q y e))
    have HRT1 := hide li1
    have HMM1 := hide mm1
    have HB0' := hide hb'
    have SEP1 := hide (show ∀ i x, R' i = some x → B' i ≠ bm ∧ B' i ≠ bw ∧ gv ≠ B' i ∧ B' i ≠ bu from fun i x e => by
      rcases hnew i x e with ⟨i0, x0, e0, e1⟩ | hle
      · rw [e1]; exact HSEP.out i0 x0 e0
      · have := HMM.out.head.lt; omega)
    have LOC1 := hide (show ∀ i x, R' i = some x → Z (B' i) ∨ w.heap.size ≤ B' i from fun i x e => by
      rcases hnew i x e with ⟨i0, x0, e0, e1⟩ | hle
      · rw [e1]; exact HLOC.out i0 x0 e0
      · exact .inr (by omega))
    have HRV1 := hide (HRV.out.block (tch.block gv lrv (by rintro (h | ⟨q, y, e, h⟩); omega; exact (HSEP.out q y e).2.2.1 h)))
    have HRU1 := hide (HRU.out.of_block (tch.block bu lru (by rintro (h | ⟨q, y, e, h⟩); omega; exact (HSEP.out q y e).2.2.2 h.symm)))
    clear li1 mm1 tch hnew hb' hms' hcst
    have c1 : (en = true ∧ v = 1) ∨ (en = false ∧ v = 0) := by have := HV.out; cases en <;> simp at this <;> simp [this]
    clear HV
    rcases c1 with ⟨rfl, rfl⟩ | ⟨rfl, rfl⟩
    · skip
      obtain ⟨W2, hW2⟩ : ∃ W2, w1.alloc (.cells #[.int .i64 x.hand, .int .i64 x.act, .int .i64 x.at_, .int .u64 x.had, .int .u64 x.put, .bool x.ok] 69) = W2 := ⟨_, rfl⟩
      have B2 : Below w1.heap.size w1 W2 := by rw [← hW2]; exact (Below.refl _ w1).alloc (Nat.le_refl _) _
      have sz2 : W2.heap.size = w1.heap.size + 1 := by rw [← hW2]; simp
      have r22 : W2.rowIs w1.heap.size 69 6 (lrow [Value.int .i64 x.hand, .int .i64 x.act, .int .i64 x.at_, .int .u64 x.had, .int .u64 x.put, .bool x.ok]) := by rw [← hW2]; exact rowL_alloc w1 [Value.int .i64 x.hand, .int .i64 x.act, .int .i64 x.at_, .int .u64 x.had, .int .u64 x.put, .bool x.ok] _ rfl
      have HBE2 := hide (tr_up BE1.out B2)
      have HRT2 := hide (LItch.out _ _ _ _ _ (fun _ => False) HRT1.out (Touch.of_below B2 _) (fun _ _ _ h => h))
      have HMM2 := hide (HMM1.out.below B2)
      have HRV2 := hide (HRV1.out.block (B2.block gv HRV1.out.lt))
      have HRU2 := hide (HRU1.out.of_block (B2.block bu HRU1.out.lt))
      have HS2 := hide r22
      have l22 := r22.lt
      have lB2 := hide (fun i x (e : R' i = some x) => show B' i < w1.heap.size from LIlt.out _ _ _ _ HRT1.out i x e)
      clear B2 r22
      go_wp2_with (refine wpList_load_mid (by rfl) 59 (.tmp 4) (by rfl) bu 0 (by rfl) cs dT (by exact rowIs.range HRU2.out HITK.out.1) (by exact DT.out.1) (by exact DT.out.2) (by rw [HITK.out.1]; exact size79) ?_)
      refine (Q5.out W2 gv capw HRV2.out).mono ?_
      rintro e w3 ⟨rfl, rv3, hg3⟩
      simp only [Stp.val]
      have s3 := hg3.size
      have HBE3 := hide (tr_to HBE2.out (Touch.of_grown hg3) (fun i h => .inr (by simp only [Option.some.injEq] at h; omega)))
      have HRT3 := hide (LItch.out _ _ _ _ _ _ HRT2.out (Touch.of_grown hg3) (fun i x e h => by simp only [Option.some.injEq] at h; exact (SEP1.out i x e).2.2.1 h.symm))
      have HMM3 := hide (HMM2.out.grown hg3 (by simp only [ne_eq, Option.some.injEq]; omega) (by simp only [ne_eq, Option.some.injEq]; omega))
      have HRU3 := hide (HRU2.out.of_block (hg3.block bu HRU2.out.lt (by simp only [ne_eq, Option.some.injEq]; omega)))
      have HS3 := hide (HS2.out.of_block (hg3.block w1.heap.size l22 (by simp only [ne_eq, Option.some.injEq]; omega)))
      have HRV3 := hide rv3
      have e22 : w1.heap.size < w3.heap.size := by omega
      have e0 : bu < w1.heap.size := by omega
      have ebm : bm < w3.heap.size := HMM3.out.head.lt
      have ebw : bw < w3.heap.size := HMM3.out.row.lt
      have hw3 : w.heap.size ≤ w3.heap.size := HBE3.out.size
      obtain ⟨b22, hb22⟩ : ∃ b, w1.heap.size = b := ⟨_, rfl⟩
      rw [hb22] at HS3 e22 e0 ⊢
      clear hb22 hW2 rv3 hg3 s3 sz2 l22
      obtain ⟨W4, hW4⟩ : ∃ W4, (w3.alloc (.cells tk0.toArray 59)).alloc (.cells #[.int .i64 0, .int .i64 0, .int .i64 0, .int .u64 0, .int .u64 0, .bool false] 69) = W4 := ⟨_, rfl⟩
      have B4 : Below w3.heap.size w3 W4 := by rw [← hW4]; exact ((Below.refl _ w3).alloc (Nat.le_refl _) _).alloc (by simp) _
      have sz4 : W4.heap.size = w3.heap.size + 2 := by rw [← hW4]; simp
      have r24 : W4.rowIs w3.heap.size 59 28 (lrow tk0) := by rw [← hW4]; exact (rowL_alloc w3 tk0 _ rfl).alloc _
      have r25 : W4.rowIs (w3.heap.size + 1) 69 6 (lrow [Value.int .i64 0, .int .i64 0, .int .i64 0, .int .u64 0, .int .u64 0, .bool false]) := by
        rw [← hW4]
        have := rowL_alloc (w3.alloc (.cells tk0.toArray 59)) [Value.int .i64 0, .int .i64 0, .int .i64 0, .int .u64 0, .int .u64 0, .bool false] 69 (n := 6) rfl
        rwa [World.size_alloc] at this
      obtain ⟨W5, hW5⟩ : ∃ W5, W4.setCells w3.heap.size 0 cs' = W5 := ⟨_, rfl⟩
      have T5 : Touch W4 W5 (fun k => k = w3.heap.size) := by rw [← hW5]; exact touch_setCells w3.heap.size cs' 0 W4
      have r24' : W5.rowIs w3.heap.size 59 28 (lrow cs') := by rw [← hW5]; exact (rowIs.setCells _ 0 _ _ r24).congr (fun i hi => by rw [if_pos (by rw [Q1.out.1]; omega)]; rfl)
      have r25' := r25.of_block (T5.block (w3.heap.size + 1) r25.lt (by omega))
      obtain ⟨W6, hW6⟩ : ∃ W6, W5.setCells (w3.heap.size + 1) 0 [Value.int .i64 x.hand, .int .i64 x.act, .int .i64 x.at_, .int .u64 x.had, .int .u64 x.put, .bool x.ok] = W6 := ⟨_, rfl⟩
      have T6 : Touch W5 W6 (fun k => k = w3.heap.size + 1) := by rw [← hW6]; exact touch_setCells (w3.heap.size + 1) [Value.int .i64 x.hand, .int .i64 x.act, .int .i64 x.at_, .int .u64 x.had, .int .u64 x.put, .bool x.ok] 0 W5
      have r25'' : W6.rowIs (w3.heap.size + 1) 69 6 (lrow [Value.int .i64 x.hand, .int .i64 x.act, .int .i64 x.at_, .int .u64 x.had, .int .u64 x.put, .bool x.ok]) := by rw [← hW6]; exact (rowIs.setCells _ 0 _ _ r25').congr (fun i hi => by rw [if_pos ⟨Nat.zero_le _, by simpa using hi⟩]; rfl)
      have r24'' := r24'.of_block (T6.block w3.heap.size r24'.lt (by omega))
      have B6 : Below w3.heap.size w3 W6 := (B4.trans (T5.below (fun k hk => by omega) B4.size)).trans (T6.below (fun k hk => by omega) (by have := T5.size; omega))
      have ru6 := HRU3.out.of_block (B6.block bu HRU3.out.lt)
      obtain ⟨W7, hW7⟩ : ∃ W7, W6.setCells bu 0 cs' = W7 := ⟨_, rfl⟩
      have T7 : Touch W6 W7 (fun k => k = bu) := by rw [← hW7]; exact touch_setCells bu cs' 0 W6
      have ru7 : W7.rowIs bu 59 28 (lrow cs') := by rw [← hW7]; exact (rowIs.setCells _ 0 _ _ ru6).congr (fun i hi => by rw [if_pos (by rw [Q1.out.1]; omega)]; rfl)
      have lb : ∀ k, k < w3.heap.size → k ≠ bu → W7.heap[k]? = w3.heap[k]? := fun k hk hn => (T7.block k (by have := B6.size; omega) hn).trans (B6.block k hk)
      have HB7 := hide (tr_to (tr_up HBE3.out B6) T7 (fun i h => .inr (by omega)))
      have HRT7 := hide (LItch.out _ _ _ _ _ _ (LItch.out _ _ _ _ _ (fun _ => False) HRT3.out (Touch.of_below B6 _) (fun _ _ _ h => h)) T7 (fun i x e h => (SEP1.out i x e).2.2.2 h))
      have HMM7 := hide (show IsMem W7 bm bw n F' from ⟨HMM3.out.head.of_block (lb bm ebm (by omega)), HMM3.out.row.of_block (lb bw ebw (by omega)), HMM3.out.most, HMM3.out.word⟩)
      have HRV7 := hide (HRV3.out.block (lb gv HRV3.out.lt (by omega)))
      have HS7 := hide (rowIs.range (HS3.out.of_block (lb b22 e22 (by omega))) rfl)
      have HT25 := hide (rowIs.range (r25''.of_block (T7.block _ r25''.lt (by omega))) rfl)
      have HT24 := hide (rowIs.range r24'' Q1.out.1)
      have HU7 := hide ru7
      have TH24 := hide (rowIs.there r24 (o := 0) (m := 28) (by omega))
      have TH25 := hide (rowIs.there r25' (o := 0) (m := 6) (by omega))
      have THU := hide (rowIs.there ru6 (o := 0) (m := 28) (by omega))
      have HW5 := hide hW5
      have HW6 := hide hW6
      have HW7 := hide hW7
      obtain ⟨dS, hdS⟩ := row46
      have DS := hide hdS
      clear B4 r24 r25 hW5 T5 r24' r25' hW6 T6 r25'' r24'' B6 ru6 hW7 T7 ru7 lb hdS sz4
      simp only [tk0] at hW4
      go_wp2_with (first
        | (refine wpList_store_mid (by rfl) 59 (.tmp 13) (.tmp 46) (by rfl) w3.heap.size 0 cs'.toArray (by rfl) (by rfl) (by simpa [Q1.out.1] using TH24.out) (by simpa [Q1.out.1] using size79) (by exact all_oneCell_toArray Q1.out.2) ?_; rw [List.toList_toArray, HW5.out]; clear hW4)
        | (refine wpList_store_mid (by rfl) 69 (.tmp 14) (.tmp 47) (by rfl) (w3.heap.size + 1) 0 [Value.int .i64 x.hand, .int .i64 x.act, .int .i64 x.at_, .int .u64 x.had, .int .u64 x.put, .bool x.ok].toArray (by rfl) (by rfl) (by exact TH25.out) (by exact size46) (by exact all_oneCell_toArray (step_one x)) ?_; rw [List.toList_toArray, HW6.out])
        | (refine wpList_load_mid (by rfl) 59 (.tmp 13) (by rfl) w3.heap.size 0 (by rfl) cs' dT (by exact HT24.out) (by exact DT.out.1) (by exact DT.out.2) (by rw [Q1.out.1]; exact size79) ?_)
        | (refine wpList_store_mid (by rfl) 59 (.tmp 4) (.tmp 49) (by rfl) bu 0 cs'.toArray (by rfl) (by rfl) (by simpa [Q1.out.1] using THU.out) (by simpa [Q1.out.1] using size79) (by exact all_oneCell_toArray Q1.out.2) ?_; rw [List.toList_toArray, HW7.out])
        | (refine wpList_load_mid (by rfl) 69 (.tmp 11) (by rfl) b22 0 (by rfl) [Value.int .i64 x.hand, .int .i64 x.act, .int .i64 x.at_, .int .u64 x.had, .int .u64 x.put, .bool x.ok] dS (by exact HS7.out) (by exact DS.out.1) (by exact DS.out.2) (by exact size46) ?_)
        | (refine wpList_load_mid (by rfl) 69 (.tmp 14) (by rfl) (w3.heap.size + 1) 0 (by rfl) [Value.int .i64 x.hand, .int .i64 x.act, .int .i64 x.at_, .int .u64 x.had, .int .u64 x.put, .bool x.ok] dS (by exact HT25.out) (by exact DS.out.1) (by exact DS.out.2) (by exact size46) ?_))
      have x22 : W7.cell? ⟨bu, 22, none⟩ = some (.bool s'.told.ok) := by
        rw [HU7.out.cell (i := 22) (by decide)]
        show some (cs'[22]?.getD default) = _
        rw [(Q3.out (by first | trivial | rfl)).1]; rfl
      have x23 : W7.cell? ⟨bu, 23, none⟩ = some (.int .u64 s'.told.val) := by
        rw [HU7.out.cell (i := 23) (by decide)]
        show some (cs'[23]?.getD default) = _
        rw [(Q3.out (by first | trivial | rfl)).2]; rfl
      have lu7 := HU7.out.lt
      have lv7 := HRV7.out.lt
      have l128 : n ≤ 9223372036854775807 := by omega
      have AN : Calls Tryz.prog 163 #[.pointer (some ⟨b0, 0, none⟩)] W7.drew fun e w' => e = .returned (.agg #[.bool s'.told.ok, .int .u64 s'.told.val]) ∧ w'.cell? ⟨bu, 22, none⟩ = some (.bool s'.told.ok) ∧ w'.cell? ⟨bu, 23, none⟩ = some (.int .u64 s'.told.val) ∧ IsMem w' bm bw n F' ∧ IsRow w' gv n capw F' ∧ Touch w w' Z ∧ bu < w'.heap.size := by
        rw [← HB0'.out]
        refine (KANS.out W7.drew B' R' s' HWE.out (LItch.out _ _ _ _ _ (fun _ => False) HRT7.out (Touch.drew (Touch.refl W7 _)) (fun _ _ _ h => h))).mono ?_
        rintro e w9 ⟨he, hg9⟩
        have B9 : Below W7.heap.size W7 w9 := ⟨hg9.os, hg9.tape, hg9.output, hg9.size, fun k hk => hg9.block k hk (by simp)⟩
        exact ⟨he, (B9.cell (p := ⟨bu, 22, none⟩) lu7).trans x22, (B9.cell (p := ⟨bu, 23, none⟩) lu7).trans x23, HMM7.out.below B9, HRV7.out.block (B9.block gv lv7), tr_up HB7.out B9, Nat.lt_of_lt_of_le lu7 B9.size⟩
      have HAN := hide AN
      clear AN
      clear HS7 HT25 HT24 TH24 TH25 THU HW5 HW6 HW7 DS DT Q5 Q2 AL
      go_region_held (fun w' => w'.cell? ⟨bu, 22, none⟩ = some (.bool s'.told.ok) ∧ w'.cell? ⟨bu, 23, none⟩ = some (.int .u64 s'.told.val)) (go_keep) (first
        | (refine HAN.out.mono ?_; rintro e w9 ⟨rfl, y22, y23, mm9, hv9, hb9, lu9⟩; have MM9 := hide mm9; have HV9 := hide hv9; have HB9 := hide hb9; clear mm9 hv9 hb9)
        | (go_at_call 31; refine (words_mem MM9.out).mono ?_; rintro e w10 ⟨g10, rfl, hr10, hb10, hg10⟩; have z22 := (hb10.cell (p := ⟨bu, 22, none⟩) lu9).trans y22; have z23 := (hb10.cell (p := ⟨bu, 23, none⟩) lu9).trans y23; have HR10 := hide hr10; have HV10 := hide (HV9.out.block (hb10.block gv HV9.out.lt)); have HB10 := hide (tr_up HB9.out hb10); clear hr10 hb10)
        | (go_at_call 20; refine (same_words HR10.out.sees HV10.out.sees (fun i hi => rfl) l128).mono ?_; rintro e w11 ⟨rfl, m11, hw11⟩; have t22 : w11.cell? ⟨bu, 22, none⟩ = some (.bool s'.told.ok) := (by rw [hw11]; exact z22); have t23 : w11.cell? ⟨bu, 23, none⟩ = some (.int .u64 s'.told.val) := (by rw [hw11]; exact z23); have HB11' := hide (show Touch w w11 Z from by rw [hw11]; exact ⟨HB10.out.os, HB10.out.tape, HB10.out.output, HB10.out.size, HB10.out.block⟩); clear hw11))
      go_wp2_with fail
      go_ret
      exact ⟨rfl, HB11'.out⟩
    · skip
      obtain ⟨W2, hW2⟩ : ∃ W2, w1.alloc (.cells #[.int .i64 x.hand, .int .i64 x.act, .int .i64 x.at_, .int .u64 x.had, .int .u64 x.put, .bool x.ok] 69) = W2 := ⟨_, rfl⟩
      have B2 : Below w1.heap.size w1 W2 := by rw [← hW2]; exact (Below.refl _ w1).alloc (Nat.le_refl _) _
      have sz2 : W2.heap.size = w1.heap.size + 1 := by rw [← hW2]; simp
      have r22 : W2.rowIs w1.heap.size 69 6 (lrow [Value.int .i64 x.hand, .int .i64 x.act, .int .i64 x.at_, .int .u64 x.had, .int .u64 x.put, .bool x.ok]) := by rw [← hW2]; exact rowL_alloc w1 [Value.int .i64 x.hand, .int .i64 x.act, .int .i64 x.at_, .int .u64 x.had, .int .u64 x.put, .bool x.ok] _ rfl
      have HBE2 := hide (tr_up BE1.out B2)
      have HRT2 := hide (LItch.out _ _ _ _ _ (fun _ => False) HRT1.out (Touch.of_below B2 _) (fun _ _ _ h => h))
      have HMM2 := hide (HMM1.out.below B2)
      have HRV2 := hide (HRV1.out.block (B2.block gv HRV1.out.lt))
      have HRU2 := hide (HRU1.out.of_block (B2.block bu HRU1.out.lt))
      have HS2 := hide r22
      have l22 := r22.lt
      have lB2 := hide (fun i x (e : R' i = some x) => show B' i < w1.heap.size from LIlt.out _ _ _ _ HRT1.out i x e)
      clear B2 r22
      go_wp2_with (refine wpList_load_mid (by rfl) 59 (.tmp 4) (by rfl) bu 0 (by rfl) cs dT (by exact rowIs.range HRU2.out HITK.out.1) (by exact DT.out.1) (by exact DT.out.2) (by rw [HITK.out.1]; exact size79) ?_)
      refine (Q5.out W2 gv capw HRV2.out).mono ?_
      rintro e w3 ⟨rfl, rv3, hg3⟩
      simp only [Stp.val]
      have s3 := hg3.size
      have HBE3 := hide (tr_to HBE2.out (Touch.of_grown hg3) (fun i h => .inr (by simp only [Option.some.injEq] at h; omega)))
      have HRT3 := hide (LItch.out _ _ _ _ _ _ HRT2.out (Touch.of_grown hg3) (fun i x e h => by simp only [Option.some.injEq] at h; exact (SEP1.out i x e).2.2.1 h.symm))
      have HMM3 := hide (HMM2.out.grown hg3 (by simp only [ne_eq, Option.some.injEq]; omega) (by simp only [ne_eq, Option.some.injEq]; omega))
      have HRU3 := hide (HRU2.out.of_block (hg3.block bu HRU2.out.lt (by simp only [ne_eq, Option.some.injEq]; omega)))
      have HS3 := hide (HS2.out.of_block (hg3.block w1.heap.size l22 (by simp only [ne_eq, Option.some.injEq]; omega)))
      have HRV3 := hide rv3
      have e22 : w1.heap.size < w3.heap.size := by omega
      have e0 : bu < w1.heap.size := by omega
      have ebm : bm < w3.heap.size := HMM3.out.head.lt
      have ebw : bw < w3.heap.size := HMM3.out.row.lt
      have hw3 : w.heap.size ≤ w3.heap.size := HBE3.out.size
      obtain ⟨b22, hb22⟩ : ∃ b, w1.heap.size = b := ⟨_, rfl⟩
      rw [hb22] at HS3 e22 e0 ⊢
      clear hb22 hW2 rv3 hg3 s3 sz2 l22
      obtain ⟨W4, hW4⟩ : ∃ W4, (w3.alloc (.cells tk0.toArray 59)).alloc (.cells #[.int .i64 0, .int .i64 0, .int .i64 0, .int .u64 0, .int .u64 0, .bool false] 69) = W4 := ⟨_, rfl⟩
      have B4 : Below w3.heap.size w3 W4 := by rw [← hW4]; exact ((Below.refl _ w3).alloc (Nat.le_refl _) _).alloc (by simp) _
      have sz4 : W4.heap.size = w3.heap.size + 2 := by rw [← hW4]; simp
      have r24 : W4.rowIs w3.heap.size 59 28 (lrow tk0) := by rw [← hW4]; exact (rowL_alloc w3 tk0 _ rfl).alloc _
      have r25 : W4.rowIs (w3.heap.size + 1) 69 6 (lrow [Value.int .i64 0, .int .i64 0, .int .i64 0, .int .u64 0, .int .u64 0, .bool false]) := by
        rw [← hW4]
        have := rowL_alloc (w3.alloc (.cells tk0.toArray 59)) [Value.int .i64 0, .int .i64 0, .int .i64 0, .int .u64 0, .int .u64 0, .bool false] 69 (n := 6) rfl
        rwa [World.size_alloc] at this
      obtain ⟨W5, hW5⟩ : ∃ W5, W4.setCells w3.heap.size 0 cs' = W5 := ⟨_, rfl⟩
      have T5 : Touch W4 W5 (fun k => k = w3.heap.size) := by rw [← hW5]; exact touch_setCells w3.heap.size cs' 0 W4
      have r24' : W5.rowIs w3.heap.size 59 28 (lrow cs') := by rw [← hW5]; exact (rowIs.setCells _ 0 _ _ r24).congr (fun i hi => by rw [if_pos (by rw [Q1.out.1]; omega)]; rfl)
      have r25' := r25.of_block (T5.block (w3.heap.size + 1) r25.lt (by omega))
      obtain ⟨W6, hW6⟩ : ∃ W6, W5.setCells (w3.heap.size + 1) 0 [Value.int .i64 x.hand, .int .i64 x.act, .int .i64 x.at_, .int .u64 x.had, .int .u64 x.put, .bool x.ok] = W6 := ⟨_, rfl⟩
      have T6 : Touch W5 W6 (fun k => k = w3.heap.size + 1) := by rw [← hW6]; exact touch_setCells (w3.heap.size + 1) [Value.int .i64 x.hand, .int .i64 x.act, .int .i64 x.at_, .int .u64 x.had, .int .u64 x.put, .bool x.ok] 0 W5
      have r25'' : W6.rowIs (w3.heap.size + 1) 69 6 (lrow [Value.int .i64 x.hand, .int .i64 x.act, .int .i64 x.at_, .int .u64 x.had, .int .u64 x.put, .bool x.ok]) := by rw [← hW6]; exact (rowIs.setCells _ 0 _ _ r25').congr (fun i hi => by rw [if_pos ⟨Nat.zero_le _, by simpa using hi⟩]; rfl)
      have r24'' := r24'.of_block (T6.block w3.heap.size r24'.lt (by omega))
      have B6 : Below w3.heap.size w3 W6 := (B4.trans (T5.below (fun k hk => by omega) B4.size)).trans (T6.below (fun k hk => by omega) (by have := T5.size; omega))
      have ru6 := HRU3.out.of_block (B6.block bu HRU3.out.lt)
      obtain ⟨W7, hW7⟩ : ∃ W7, W6.setCells bu 0 cs' = W7 := ⟨_, rfl⟩
      have T7 : Touch W6 W7 (fun k => k = bu) := by rw [← hW7]; exact touch_setCells bu cs' 0 W6
      have ru7 : W7.rowIs bu 59 28 (lrow cs') := by rw [← hW7]; exact (rowIs.setCells _ 0 _ _ ru6).congr (fun i hi => by rw [if_pos (by rw [Q1.out.1]; omega)]; rfl)
      have lb : ∀ k, k < w3.heap.size → k ≠ bu → W7.heap[k]? = w3.heap[k]? := fun k hk hn => (T7.block k (by have := B6.size; omega) hn).trans (B6.block k hk)
      have HB7 := hide (tr_to (tr_up HBE3.out B6) T7 (fun i h => .inr (by omega)))
      have HRT7 := hide (LItch.out _ _ _ _ _ _ (LItch.out _ _ _ _ _ (fun _ => False) HRT3.out (Touch.of_below B6 _) (fun _ _ _ h => h)) T7 (fun i x e h => (SEP1.out i x e).2.2.2 h))
      have HMM7 := hide (show IsMem W7 bm bw n F' from ⟨HMM3.out.head.of_block (lb bm ebm (by omega)), HMM3.out.row.of_block (lb bw ebw (by omega)), HMM3.out.most, HMM3.out.word⟩)
      have HRV7 := hide (HRV3.out.block (lb gv HRV3.out.lt (by omega)))
      have HS7 := hide (rowIs.range (HS3.out.of_block (lb b22 e22 (by omega))) rfl)
      have HT25 := hide (rowIs.range (r25''.of_block (T7.block _ r25''.lt (by omega))) rfl)
      have HT24 := hide (rowIs.range r24'' Q1.out.1)
      have HU7 := hide ru7
      have TH24 := hide (rowIs.there r24 (o := 0) (m := 28) (by omega))
      have TH25 := hide (rowIs.there r25' (o := 0) (m := 6) (by omega))
      have THU := hide (rowIs.there ru6 (o := 0) (m := 28) (by omega))
      have HW5 := hide hW5
      have HW6 := hide hW6
      have HW7 := hide hW7
      obtain ⟨dS, hdS⟩ := row46
      have DS := hide hdS
      clear B4 r24 r25 hW5 T5 r24' r25' hW6 T6 r25'' r24'' B6 ru6 hW7 T7 ru7 lb hdS sz4
      simp only [tk0] at hW4
      go_wp2_with (first
        | (refine wpList_store_mid (by rfl) 59 (.tmp 13) (.tmp 46) (by rfl) w3.heap.size 0 cs'.toArray (by rfl) (by rfl) (by simpa [Q1.out.1] using TH24.out) (by simpa [Q1.out.1] using size79) (by exact all_oneCell_toArray Q1.out.2) ?_; rw [List.toList_toArray, HW5.out]; clear hW4)
        | (refine wpList_store_mid (by rfl) 69 (.tmp 14) (.tmp 47) (by rfl) (w3.heap.size + 1) 0 [Value.int .i64 x.hand, .int .i64 x.act, .int .i64 x.at_, .int .u64 x.had, .int .u64 x.put, .bool x.ok].toArray (by rfl) (by rfl) (by exact TH25.out) (by exact size46) (by exact all_oneCell_toArray (step_one x)) ?_; rw [List.toList_toArray, HW6.out])
        | (refine wpList_load_mid (by rfl) 59 (.tmp 13) (by rfl) w3.heap.size 0 (by rfl) cs' dT (by exact HT24.out) (by exact DT.out.1) (by exact DT.out.2) (by rw [Q1.out.1]; exact size79) ?_)
        | (refine wpList_store_mid (by rfl) 59 (.tmp 4) (.tmp 49) (by rfl) bu 0 cs'.toArray (by rfl) (by rfl) (by simpa [Q1.out.1] using THU.out) (by simpa [Q1.out.1] using size79) (by exact all_oneCell_toArray Q1.out.2) ?_; rw [List.toList_toArray, HW7.out])
        | (refine wpList_load_mid (by rfl) 69 (.tmp 11) (by rfl) b22 0 (by rfl) [Value.int .i64 x.hand, .int .i64 x.act, .int .i64 x.at_, .int .u64 x.had, .int .u64 x.put, .bool x.ok] dS (by exact HS7.out) (by exact DS.out.1) (by exact DS.out.2) (by exact size46) ?_)
        | (refine wpList_load_mid (by rfl) 69 (.tmp 14) (by rfl) (w3.heap.size + 1) 0 (by rfl) [Value.int .i64 x.hand, .int .i64 x.act, .int .i64 x.at_, .int .u64 x.had, .int .u64 x.put, .bool x.ok] dS (by exact HT25.out) (by exact DS.out.1) (by exact DS.out.2) (by exact size46) ?_))
      exact ⟨⟨k + 1, s', F', cs', B', R', (AL.out (by simp)).2, by go_num, HB0'.out, HRT7.out, SEP1.out, LOC1.out, HMM7.out, HRV7.out, HU7.out, Q1.out, Q2.out (by simp), HWN.out (by simp), (AL.out (by simp)).1, HB7.out⟩, by simp only [intOf]; omega⟩
end Rom
end
section
namespace LtH
open Lt hiding In Does region
theorem region3 {P : Program} {id : Nat} {ops : Array Oper} {Q : Exit → Act → World → Prop} {ks : List (Nat × Nat)} {vals : Nat → Value} {xs : List Nat} {WI : (Nat → Bool) → (Nat → Value) → World → Prop} {w0 : World} {a0 : Act}
  (hm : P.follows .mixedOrders = true) (hg : ∀ (i : Nat) (o : Oper), ops[i]? = some o → ∀ L a w, In ks vals xs WI a0 L a w → (∀ e ∈ o.after, Region.binds .any e = true → L e.on = true) → Region.wanted o (yielded ops a.tmps) = true) (hback : ∀ (i : Nat) (o : Oper), ops[i]? = some o → ∀ e ∈ o.after, Region.binds .any e = true → e.on < i)
  (hgood : (ks.all fun p => (ks.all fun q => p.1 == q.1 || p.2 != q.2) && !xs.contains p.2) = true) (hD : ∀ k, D ks k → k < a0.tmps.size) (hX : ∀ k, xs.contains k = true → k < a0.tmps.size)
  (hloc : ∀ L s s' w, (∀ k, xs.contains k = true → s k = s' k) → WI L s w → WI L s' w) (hW0 : WI (fun _ => false) (fun k => a0.eval (.tmp k)) { w0 with drawn := w0.drawn + 1 })
  (does : ∀ (i : Nat) (o : Oper), ops[i]? = some o → Does P Q ks vals xs WI a0 i o)
  (fin : ∀ L a w, In ks vals xs WI a0 L a w → (∀ i, i < ops.size → L i = true) → Q .normal a w) :
  (Code.region id ops true).wp P Q a0 w0 := by
 simp only [List.all_eq_true, bne_iff_ne, Bool.or_eq_true, beq_iff_eq, Bool.and_eq_true, Bool.not_eq_true'] at hgood
 have pvm : ∀ {i d v}, pv ks vals i = some (d, v) → (i, d) ∈ ks := fun {i d v} h => by
  obtain ⟨d', h1, h2⟩ := Option.map_eq_some_iff.1 h
  cases h2; exact Lt.look_mem h1
 refine Lt.region_inv hm hback (fun L a w => In ks vals xs WI a0 L a w) ?step (fun L a w h hall => fin L a w h hall) ?start
 case start => exact ⟨rfl, rfl, fun _ _ _ => rfl, fun _ _ _ _ h => (by cases h), hW0⟩
 case step =>
  rintro L a w i o h ho hL hd
  have none_ok : ∀ {j d' v'}, Lt.look ks i = none → pv ks vals j = some (d', v') → up L i j = true → L j = true := fun {j d' v'} hlk hj hLj => by
   have hji : j ≠ i := fun e => by
    subst e
    obtain ⟨d'', h1, _⟩ := Option.map_eq_some_iff.1 hj
    rw [hlk] at h1; cases h1
   rwa [up_other _ hji] at hLj
  refine .inl ⟨hg i o ho L a w h hd, ?_⟩
  rcases does i o ho with ⟨hdst, hwp⟩ | ⟨x, hdst, hx, hno, hwp⟩
  ·refine hwp L a w _ h hL hd (fun w' v hv hW => ?_)
   cases hlk : Lt.look ks i with
   | none =>
    rw [hdst, hlk]
    exact ⟨h.sz, h.df, h.fix, fun j d' v' hj hLj => h.pure j d' v' hj (none_ok hlk hj hLj), hW⟩
   | some d =>
    have hv' := hv d (hdst.trans hlk)
    subst hv'
    rw [hdst, hlk]
    have hm' : (i, d) ∈ ks := Lt.look_mem hlk
    have hDd : D ks d := by simp only [D, List.any_eq_true, beq_iff_eq]; exact ⟨_, hm', rfl⟩
    have e : ∀ k : Nat, k ≠ d → (a.put (some d) (vals i)).eval (.tmp k) = a.eval (.tmp k) := fun k hk => Lt.put_other hk
    refine ⟨by rw [Lt.put_size]; exact h.sz, by rw [Lt.put_defs]; exact h.df, fun k hk hkx => ?_, fun j d' v' hj hLj => ?_, hloc _ _ _ _ (fun k hk => (e k (fun he => by subst he; rw [(hgood _ hm').2] at hk; cases hk)).symm) hW⟩
    ·rw [e k (fun he => hk (he ▸ hDd))]; exact h.fix k hk hkx
    ·by_cases hij : j = i
     ·subst hij
      rw [pv, hlk] at hj
      cases hj
      exact Lt.put_eval (by rw [h.sz]; exact hD _ hDd)
     ·rw [up_other _ hij] at hLj
      have : d' ≠ d := by
       rcases (hgood _ hm').1 _ (pvm hj) with e1 | e1
       ·exact absurd e1.symm hij
       ·exact Ne.symm e1
      rw [e d' this]
      exact h.pure j d' v' hj hLj
  ·refine hwp L a w _ h hL hd (fun w' v hW => ?_)
   have e : ∀ k : Nat, k ≠ x → (a.put (some x) v).eval (.tmp k) = a.eval (.tmp k) := fun k hk => Lt.put_other hk
   have ex : (a.put (some x) v).eval (.tmp x) = v := Lt.put_eval (by rw [h.sz]; exact hX x hx)
   refine ⟨by rw [Lt.put_size]; exact h.sz, by rw [Lt.put_defs]; exact h.df, fun k hk hkx => by rw [e k (fun he => by subst he; rw [hx] at hkx; cases hkx)]; exact h.fix k hk hkx, fun j d' v' hj hLj => ?_, hloc _ _ _ _ (fun k hk => ?_) hW⟩
   ·rw [e d' (fun he => by subst he; have := (hgood _ (pvm hj)).2; rw [hx] at this; cases this)]
    exact h.pure j d' v' hj (none_ok hno hj hLj)
   ·by_cases he : k = x
    ·subst he; simp [ex]
    ·simp [he, e k he]
end LtH
end
section
def tv3 (sa : Option Addr) (k sc : Nat) (wa : Option Addr) (n wc : Nat) (en : Bool) (aa : Option Addr) (m ac : Nat) (er : Int) : Value :=
 .tuple #[.agg #[.slice sa k sc, .slice wa n wc, .bool en], .slice aa m ac, .int .i64 er]
def LErr (K : Kd) (want : Nat) (P : Par) (most er : Int) : Prop := (P.n ≠ want ∧ er = 121) ∨ (P.n = want ∧ ErrOf K P most er)
def LAll (K : Kd) (want : Nat) (w : World) (P : Par) (f : Nat → Int) (most : Int) (e : Ending) (w' : World) : Prop :=
 Below w.heap.size w w' ∧ ((∃ er, LErr K want P most er ∧ e = .returned (errVal er)) ∨ (P.n = want ∧ Fine P most ∧ AllOk K P ∧ ∃ v, e = .returned v ∧ Told K P (runSt P (st0 K P f) most.toNat) w.heap.size v w'))
theorem told_touch {K : Kd} {P : Par} {st : St K} {base base' b : Nat} {v : Value} {w w' : World} (h : Told K P st base v w) (ht : Touch w w' (fun k => k = b)) (hb : b < base) (hbb : base' ≤ base) : Told K P st base' v w' := by
 obtain ⟨blk, c, g, sv, rfl, H, G, GS, R, hg, hne⟩ := h
 exact ⟨blk, c, g, sv, rfl, ((H.touch ht (fun r x e he => by have := H.new r x e; omega))).base_le hbb, G, GS, R.block (ht.block g R.lt (fun he => by omega)), by omega, hne⟩
theorem told_shape {K : Kd} {P : Par} {st : St K} {base : Nat} {v : Value} {w : World} (h : Told K P st base v w) : ∃ sa k sc wa n wc en aa m ac, v = tv3 sa k sc wa n wc en aa m ac 0 := by
 obtain ⟨blk, c, g, sv, rfl, H, G, GS, R, hg, hne⟩ := h
 obtain ⟨sa, sc, rfl⟩ := GS.isSlice
 exact ⟨_, _, _, _, _, _, _, _, _, _, rfl⟩
theorem LAll.up {K : Kd} {want : Nat} {w0 w w' w2 : World} {P : Par} {f : Nat → Int} {most : Int} {e : Ending} {b : Nat} (h : LAll K want w P f most e w') (h0 : Below w0.heap.size w0 w) (ht : Touch w' w2 (fun k => k = b)) (hb0 : w0.heap.size ≤ b) (hb : b < w.heap.size) : LAll K want w0 P f most e w2 := by
 obtain ⟨hB, hc⟩ := h
 refine ⟨(h0.trans (hB.mono h0.size)).trans (ht.below (fun k hk => by omega) (Nat.le_trans h0.size hB.size)), ?_⟩
 rcases hc with h | ⟨h1, h2, h3, v, he, hT⟩
 ·exact .inl h
 ·exact .inr ⟨h1, h2, h3, v, he, told_touch hT ht hb h0.size⟩
theorem LAll.shape {K : Kd} {want : Nat} {w w' : World} {P : Par} {f : Nat → Int} {most : Int} {e : Ending} (h : LAll K want w P f most e w') : ∃ sa k sc wa n wc en aa m ac er, e = .returned (tv3 sa k sc wa n wc en aa m ac er) := by
 rcases h.2 with ⟨er, _, rfl⟩ | ⟨_, _, _, v, rfl, hT⟩
 ·exact ⟨none, 0, 0, none, 0, 0, false, none, 0, 0, er, rfl⟩
 ·obtain ⟨sa, k, sc, wa, n, wc, en, aa, m, ac, rfl⟩ := told_shape hT
  exact ⟨_, _, _, _, _, _, _, _, _, _, _, rfl⟩
theorem makerOf_any (w : World) (ft : FuncId) (sh : Shp) : Calls Tryz.prog 52 #[.func (.func ft) #[] #[], sh.val] w fun e w' => e = .returned (mkOf w.heap.size (w.heap.size + 1)) ∧
  w' = (w.alloc (.cells #[.func (.func ft) #[] #[]] 125)).alloc (.cells #[.int .i64 sh.a, .int .i64 sh.b, .int .i64 sh.c, .int .i64 sh.d, .int .i64 sh.e, .int .i64 sh.f] 23) := by
 obtain ⟨s0, s1, s2, s3, s4, s5⟩ := sh
 simp only [Shp.val, mkOf]
 go_enter Tryz.func52, Tryz.ntmps52
 go_wp2
 go_ret
 exact ⟨rfl, rfl⟩
variable {K : Kd} {w : World} {ao aoh aos : Option Addr} {cap caph caps : Nat} {P : Par} {f : Nat → Int} {most : Int} {fsz ft : FuncId} {sh : Shp} {want : Nat}
theorem SeesH.up {w : World} {B C : Nat} {aoh : Option Addr} {nh : Nat} {jn : Nat → Nat} {jb : Nat → Nat → Jb} (h : SeesH w B aoh nh jn jb) (hl : B ≤ C) : SeesH w C aoh nh jn jb := fun i hi => by
 obtain ⟨b, off, ao', cap, e, hb, hc, hj⟩ := h i hi
 exact ⟨b, off, ao', cap, e, by omega, hc, fun q hq => by obtain ⟨b', off', e', hb', hc'⟩ := hj q hq; exact ⟨b', off', e', by omega, hc'⟩⟩
theorem SeesI.up {w : World} {B C : Nat} {ao : Option Addr} {n : Nat} {s : Nat → Int} (h : SeesI w B ao n s) (hl : B ≤ C) : SeesI w C ao n s := fun i hi => by
 obtain ⟨b, off, e, hb, hc⟩ := h i hi
 exact ⟨b, off, e, by omega, hc⟩
theorem lay_any (hcs : ∀ (args : Array Value) (w : World), (callFunc fsz args).run Tryz.prog w = .ok (.enter fsz args) w)
  (hS : ∀ w : World, Calls Tryz.prog fsz #[sh.val] w fun e w' => e = .returned (.tuple #[.int .i64 want, .int .i64 0]) ∧ w.grownBy w' none) (IK : IsKind K) (MK : ∀ w' tb sb, Boxes w' tb sb ft sh → MakesAt K (mkOf tb sb) w')
  (S : Sees w w.heap.size ao P.n f) (hf : ∀ i, i < P.n → 0 ≤ f i ∧ f i ≤ 18446744073709551615) (SH : SeesH w w.heap.size aoh P.nh P.jn P.jb) (hn63 : P.nh ≤ 9223372036854775807) (SI : SeesI w w.heap.size aos P.ns P.sched) (hjw : ∀ h, h < P.nh → ∀ j, j < P.jn h → (P.jb h j).wf) :
  Calls Tryz.prog 24 #[.func (.func fsz) #[] #[], .func (.func ft) #[] #[], sh.val, .slice ao P.n cap, .slice aoh P.nh caph, .slice aos P.ns caps, .int .i64 most] w (LAll K want w P f most) := by
 have MO := fun w' => makerOf_any w' ft sh
 obtain ⟨s0, s1, s2, s3, s4, s5⟩ := sh
 simp only [Shp.val] at hS MO ⊢
 have HS := hide hS
 have HMO := hide MO
 have HSW := hide S
 have HF := hide hf
 have HSH := hide SH
 have HSI := hide SI
 have HJW := hide hjw
 have HIK := hide IK
 have HMK := hide MK
 clear hS MO S hf SH SI hjw IK MK
 go_enter Tryz.func24, Tryz.ntmps24
 go_wp2_with fail
 refine (HS.out _).mono ?_
 rintro e w1 ⟨rfl, hg⟩
 have HB := hide ((((Below.refl w.heap.size w).alloc (Nat.le_refl _) (.cells #[.int .i64 s0, .int .i64 s1, .int .i64 s2, .int .i64 s3, .int .i64 s4, .int .i64 s5] 23)).alloc (by simp) (.cells #[.slice none 0 0, .slice none 0 0, .bool false] 32)).trans (below_of_grown_none hg w.heap.size (by simp; omega)))
 have hb := below_of_grown_none hg (w.heap.size + 2) (by simp)
 have sz1 := hg.size
 simp only [World.size_alloc] at sz1
 have c0 := hb.cell (p := ⟨w.heap.size, 0, none⟩) (by simp)
 have c1 := hb.cell (p := ⟨w.heap.size, 1, none⟩) (by simp)
 have c2 := hb.cell (p := ⟨w.heap.size, 2, none⟩) (by simp)
 have c3 := hb.cell (p := ⟨w.heap.size, 3, none⟩) (by simp)
 have c4 := hb.cell (p := ⟨w.heap.size, 4, none⟩) (by simp)
 have c5 := hb.cell (p := ⟨w.heap.size, 5, none⟩) (by simp)
 have z0 := hb.cell (p := ⟨w.heap.size + 1, 0, none⟩) (by simp)
 have z1 := hb.cell (p := ⟨w.heap.size + 1, 1, none⟩) (by simp)
 have z2 := hb.cell (p := ⟨w.heap.size + 1, 2, none⟩) (by simp)
 have y0 := hb.frozen (p := ⟨w.heap.size + 1, 0, none⟩) (by simp)
 have y1 := hb.frozen (p := ⟨w.heap.size + 1, 1, none⟩) (by simp)
 have y2 := hb.frozen (p := ⟨w.heap.size + 1, 2, none⟩) (by simp)
 simp at c0 c1 c2 c3 c4 c5 z0 z1 z2 y0 y1 y2
 clear hb hg
 by_cases hne : P.n = want
 ·subst hne
  go_wp2_with fail
  refine (HMO.out _).mono ?_
  rintro e w2 ⟨rfl, hw2⟩
  have B2 : Below w1.heap.size w1 w2 := by rw [hw2]; exact ((Below.refl _ w1).alloc (Nat.le_refl _) _).alloc (by simp) _
  have BX : Boxes w2 w1.heap.size (w1.heap.size + 1) ft ⟨s0, s1, s2, s3, s4, s5⟩ := by rw [hw2]; constructor <;> simp
  have sz2 : w2.heap.size = w1.heap.size + 2 := by rw [hw2]; simp
  have BW2 := HB.out.trans (B2.mono (by omega))
  have HBX := hide BX
  have HBW2 := hide BW2
  have HB2 := hide B2
  clear hw2 B2 BX BW2
  go_wp2_with fail
  refine (OfAny.play_all ((HSW.out.below HBW2.out (Nat.le_refl _)).mono (by omega)) HF.out ((HSH.out.below HBW2.out (Nat.le_refl _)).up (by omega)) hn63 ((HSI.out.below HBW2.out (Nat.le_refl _)).up (by omega)) HJW.out HIK.out (fun w' hb => HMK.out w' _ _ (HBX.out.below hb (by omega) (by omega)))).mono ?_
  rintro e w3 ⟨hb3, hc3⟩
  have sz3 := hb3.size
  have LA : LAll K P.n w2 P f most e w3 := ⟨hb3, by
   rcases hc3 with ⟨er, h1, h2⟩ | ⟨h1, h2, v, h3, h4⟩
   ·exact .inl ⟨er, .inr ⟨rfl, h1⟩, h2⟩
   ·exact .inr ⟨rfl, h1, h2, v, h3, told_touch h4 ((Touch.refl w3 (fun k => k = 0))) (by omega) (by omega)⟩⟩
  obtain ⟨sa, k, sc, wa, n, wc, en, aa, m, ac, er, rfl⟩ := LA.shape
  have hb13 := HB2.out.trans (hb3.mono (by omega))
  have u0 := (hb13.cell (p := ⟨w.heap.size + 1, 0, none⟩) (by show w.heap.size + 1 < _; omega)).trans z0
  have u1 := (hb13.cell (p := ⟨w.heap.size + 1, 1, none⟩) (by show w.heap.size + 1 < _; omega)).trans z1
  have u2 := (hb13.cell (p := ⟨w.heap.size + 1, 2, none⟩) (by show w.heap.size + 1 < _; omega)).trans z2
  have v0 := (hb13.frozen (p := ⟨w.heap.size + 1, 0, none⟩) (by show w.heap.size + 1 < _; omega)).trans y0
  have v1 := (hb13.frozen (p := ⟨w.heap.size + 1, 1, none⟩) (by show w.heap.size + 1 < _; omega)).trans y1
  have v2 := (hb13.frozen (p := ⟨w.heap.size + 1, 2, none⟩) (by show w.heap.size + 1 < _; omega)).trans y2
  have FIN := hide (LA.up HBW2.out (touch3 w3 (w.heap.size + 1) (.slice sa k sc) (.slice wa n wc) (.bool en)) (by omega) (by omega))
  clear hb3 hc3 LA hb13 c0 c1 c2 c3 c4 c5 z0 z1 z2 y0 y1 y2
  unfold tv3
  go_wp2_with fail
  go_light
  refine bodyPost_ret (v := tv3 sa k sc wa n wc en aa m ac er) ?_ rfl FIN.out
  simp [results, Tryz.results24, go_sem, tv3, *]
 ·have hne' : ¬ (P.n : Int) = (want : Int) := by omega
  go_wp2_with fail
  go_light
  refine bodyPost_ret (v := errVal 121) ?_ rfl ⟨((HB.out.setCell (by simp) _).setCell (by simp) _).setCell (by simp) _, .inl ⟨121, .inl ⟨hne, rfl⟩, rfl⟩⟩
  simp [results, Tryz.results24, go_sem, errVal, *]
end
end Go.Proofs.YtppgbndoijppnaaGreat
