/-
  Lemmas: VwLe.
-/
import Derived.Test.YtecjegjnnahddaaGreatTp30
import Derived.Test.YtecjegjnnahddaaGreatTp24
import Derived.Test.YtecjegjnnahddaaGreatTp11
/-
  View: the package's lay: a view's words laid
-/
namespace Go.Proofs.YtecjegjnnahddaaGreat
open Go.RowKit
set_option linter.unusedVariables false
set_option linter.unusedSimpArgs false
set_option linter.unnecessarySimpa false
set_option maxRecDepth 20000
namespace Vw
open Shape

/-- The words laid so far. -/
def lwP (x : Sh) (c : Cv) (k i : Nat) : Int := if i < k then lwF x c i else 0
theorem wr_set {w : World} {g z : Nat} {x : Sh} {c : Cv} {k : Nat} (h : Wr w g z (lwP x c k)) (hk : k < z) {v : Int} (hv : v = lwF x c k) : Wr (w.setCell ⟨g, k, none⟩ (.int .u64 v)) g z (lwP x c (k + 1)) := by
  refine (h.set hk v).ext (fun i hi => ?_)
  unfold lwP
  by_cases e : i = k
  · subst e; rw [if_pos rfl, if_pos (by omega), hv]
  · rw [if_neg e]
    by_cases e2 : i < k
    · rw [if_pos e2, if_pos (by omega)]
    · rw [if_neg e2, if_neg (by omega)]
theorem wr_copy {w : World} {g z : Nat} {x : Sh} {c : Cv} {k n n' : Nat} {f : Nat → Int} (h : Wr w g z (fun i => if k ≤ i ∧ i < k + n ∧ i - k < n' then f (i - k) else lwP x c k i)) (hv : ∀ i, i < n → lwF x c (k + i) = if i < n' then f i else 0) : Wr w g z (lwP x c (k + n)) := by
  refine h.ext (fun i hi => ?_)
  unfold lwP
  by_cases e1 : i < k
  · rw [if_neg (by omega), if_pos e1, if_pos (by omega)]
  · by_cases e2 : i < k + n
    · obtain ⟨q, rfl⟩ : ∃ q, i = k + q := ⟨i - k, by omega⟩
      rw [if_pos e2, hv q (by omega), show k + q - k = q by omega]
      by_cases e3 : q < n'
      · rw [if_pos ⟨by omega, e2, e3⟩, if_pos e3]
      · rw [if_neg (fun h => e3 h.2.2), if_neg e1, if_neg e3]
    · rw [if_neg (by omega), if_neg e1, if_neg e2]
theorem wr_obj {w : World} {g z : Nat} {x : Sh} {c : Cv} {j : Nat} (h : Wr w g z (obG (pO x j) x.s (c.ob j).ns (packV (c.ob j).us (c.ob j).li (c.ob j).fi (c.ob j).ta (c.ob j).ag (c.ob j).ge c.co) (c.ob j).lk (c.ob j).nx (c.ob j).sl (lwP x c (pO x j)))) : Wr w g z (lwP x c (pO x j + ow x)) := by
  have hl := (lay_out x).2.2.2.2
  refine h.ext (fun i hi => ?_)
  unfold lwP obG
  dsimp only
  by_cases e1 : i < pO x j
  · rw [if_neg (by omega), if_neg (by omega), if_neg (by omega), if_neg (by omega), if_pos e1, if_pos (by omega)]
  · by_cases e2 : i < pO x j + ow x
    · obtain ⟨q, rfl⟩ : ∃ q, i = pO x j + q := ⟨i - pO x j, by omega⟩
      rw [if_pos e2, lw_obj (by omega)]
      unfold obW
      by_cases h0 : q = 0
      · subst h0; rw [if_pos (by omega), if_pos rfl]
      · by_cases h1 : q = 1
        · subst h1; rw [if_neg (by omega), if_pos rfl, if_neg (by omega), if_pos rfl]
        · by_cases h2 : q = 2
          · subst h2; rw [if_neg (by omega), if_neg (by omega), if_pos rfl, if_neg (by omega), if_neg (by omega), if_pos rfl]
          · rw [if_neg (by omega), if_neg (by omega), if_neg (by omega), if_neg h0, if_neg h1, if_neg h2, show pO x j + q - (pO x j + 3) = q - 3 by omega]
            by_cases h3 : q - 3 < (c.ob j).ns
            · rw [if_pos ⟨by omega, by omega, h3⟩, if_pos h3]
            · rw [if_neg (fun h => h3 h.2.2), if_neg (by omega), if_neg h3]
    · rw [if_neg (by omega), if_neg (by omega), if_neg (by omega), if_neg (by omega), if_neg e1, if_neg e2]

/-- What stands while words are laid: k words laid, the other blocks as they were. -/
structure LI (W1 : World) (g z : Nat) (x : Sh) (c : Cv) (k : Nat) (w : World) : Prop where
  wr : Wr w g z (lwP x c k)
  bx : Bx W1.heap.size g W1 w
theorem LI.below {W1 w w' : World} {g z : Nat} {x : Sh} {c : Cv} {k : Nat} (h : LI W1 g z x c k w) (hg : g ≤ W1.heap.size) (hb : Below w.heap.size w w') : LI W1 g z x c k w' := ⟨h.wr.on hb, h.bx.below hb (Nat.le_refl _) hg⟩
theorem LI.drew {W1 w : World} {g z : Nat} {x : Sh} {c : Cv} {k : Nat} (h : LI W1 g z x c k w) : LI W1 g z x c k w.drew := ⟨h.wr, ⟨h.bx.low.trans ⟨rfl, rfl, rfl, Nat.le_refl _, fun _ _ => rfl⟩, h.bx.blk⟩⟩
theorem LI.set {W1 w : World} {g z : Nat} {x : Sh} {c : Cv} {k : Nat} (h : LI W1 g z x c k w) (hk : k < z) {v : Int} (hv : v = lwF x c k) : LI W1 g z x c (k + 1) (w.setCell ⟨g, k, none⟩ (.int .u64 v)) := ⟨wr_set h.wr hk hv, h.bx.set _ _⟩

theorem LI.copy {W1 w : World} {g z : Nat} {x : Sh} {c : Cv} {k m n cap cc : Nat} {ao : Option Addr} {f : Nat → Int} {p : Addr} (h : LI W1 g z x c k w) (hg : g ≤ W1.heap.size) (hs : Sees w w.heap.size ao n f) (hp : 0 < m → p = ⟨g, k, none⟩) (hm : k + m ≤ z) (hv : ∀ i, i < m → lwF x c (k + i) = if i < n then f i else 0) :
    ∃ v W', (Builtin.copy_ #[25, 25] 3 #[.slice (some p) m cc, .slice ao n cap]).run Tryz.prog w = .ok v W' ∧ LI W1 g z x c (k + m) W' := by
  obtain ⟨v, W', hr, hW, hB, hk⟩ := copy_wr (cap := cap) (c := cc) h.wr hs hp hm
  exact ⟨v, W', hr, wr_copy hW.out hv, ⟨h.bx.low.trans (hB g (Nat.le_refl _)), fun q h1 h2 => (hk q h2).trans (h.bx.blk q h1 h2)⟩⟩
theorem Bx.less {n m vb : Nat} {w w' : World} (h : Bx n vb w w') (hm : m ≤ n) : Bx m vb w w' := ⟨h.low, fun k h1 h2 => h.blk k (by omega) h2⟩
theorem LI.obj {W1 w w' : World} {g z : Nat} {x : Sh} {c : Cv} {j : Nat} (h : LI W1 g z x c (pO x j) w) (hs : W1.heap.size ≤ w.heap.size) (hw : Wr w' g z (obG (pO x j) x.s (c.ob j).ns (packV (c.ob j).us (c.ob j).li (c.ob j).fi (c.ob j).ta (c.ob j).ag (c.ob j).ge c.co) (c.ob j).lk (c.ob j).nx (c.ob j).sl (lwP x c (pO x j)))) (hk : ∀ k, k < w.heap.size → ¬ k = g → w'.heap[k]? = w.heap[k]?) (hb : Below g w w') : LI W1 g z x c (pO x j + ow x) w' :=
  ⟨wr_obj hw, ⟨h.bx.low.trans hb, fun k h1 h2 => (hk k (by omega) h2).trans (h.bx.blk k h1 h2)⟩⟩
/-- The laying of an object under way in a region. -/
def LO16 (W1 : World) (g z : Nat) (x : Sh) (c : Cv) (k m x1 : Nat) (a b : Bool) (s : Nat → Value) (w : World) : Prop :=
  LI W1 g z x c (if b = true then k + m else k) w ∧ (a = true → ∃ p cp, s x1 = .slice (some p) m cp ∧ m ≤ cp ∧ (0 < m → p = ⟨g, k, none⟩))
/-- A copy under way in a region: the place was looked up (a), the words are copied (b). -/
def LC (W1 : World) (g z : Nat) (x : Sh) (c : Cv) (k m x1 : Nat) (a b : Bool) (s : Nat → Value) (w : World) : Prop :=
  LI W1 g z x c (if b = true then k + m else k) w ∧ (a = true → ∃ p cp, s x1 = .slice (some p) m cp ∧ (0 < m → p = ⟨g, k, none⟩))

set_option maxHeartbeats 16000000 in
theorem lay_ok {V w : World} {o s h r k z g cap : Nat} {s5 : Int} {c : Cv} {a : Av} (H : (⟨o, s, h, r, k⟩ : Sh).Ok) (hz : size ⟨o, s, h, r, k⟩ = z) (hcp : z ≤ cap) (hg : Wr w g z (fun _ => 0)) (hS : Shows V c a) (hb : Below V.heap.size V w) (hV : V.heap.size ≤ g) (hB : Bnd c) (hL : Len c) (hr : c.nr = h) (ho : c.no = o) :
    Calls Tryz.prog 22 #[.agg #[.int .i64 (o : Int), .int .i64 (s : Int), .int .i64 (h : Int), .int .i64 (r : Int), .int .i64 (k : Int), .int .i64 s5, .slice (some ⟨g, 0, none⟩) z cap], vl c a] w fun e w' => (∃ v, e = .returned v) ∧ Hid (Wr w' g z (lwF ⟨o, s, h, r, k⟩ c)) ∧ Hid (Bx w.heap.size g w w') := by
  have HSV := hide hS
  have HBV := hide hb
  have HB := hide hB
  have HL := hide hL
  have hgl := hg.lt
  have hz6 : z ≤ 600 := by rw [← hz]; exact (sizes H).2.2.2.2
  have LO := hide (lay_out ⟨o, s, h, r, k⟩)
  have z8 : 8 ≤ z := by rw [← hz]; have := LO.out; (try simp only at this); omega
  obtain ⟨W1, hW1⟩ : ∃ W, (w.alloc (.cells #[.int .i64 (o : Int), .int .i64 (s : Int), .int .i64 (h : Int), .int .i64 (r : Int), .int .i64 (k : Int), .int .i64 s5, .slice (some ⟨g, 0, none⟩) z cap] 59)).alloc (.cells #[.int .i64 c.ph, .int .i64 c.co, .int .u64 c.ro, .slice a.aa c.na a.ca, .slice a.ra c.nr a.cr, .slice a.wa c.nw a.cw, .slice a.oa c.no a.cb, .slice a.fa c.fr.length a.cf, .slice a.ga c.gr.length a.cg, .slice a.qa c.qu.length a.cq, .int .u64 (c.cn 0), .int .u64 (c.cn 1), .int .u64 (c.cn 2), .int .u64 (c.cn 3)] 31) = W := ⟨_, rfl⟩
  have RM := hide (show W1.rowIs w.heap.size 59 7 (lrow [.int .i64 (o : Int), .int .i64 (s : Int), .int .i64 (h : Int), .int .i64 (r : Int), .int .i64 (k : Int), .int .i64 s5, .slice (some ⟨g, 0, none⟩) z cap]) by rw [← hW1]; exact (rowL_alloc w [.int .i64 (o : Int), .int .i64 (s : Int), .int .i64 (h : Int), .int .i64 (r : Int), .int .i64 (k : Int), .int .i64 s5, .slice (some ⟨g, 0, none⟩) z cap] _ rfl).alloc _)
  have RV := hide (show W1.rowIs (w.heap.size + 1) 31 14 (lrow [.int .i64 c.ph, .int .i64 c.co, .int .u64 c.ro, .slice a.aa c.na a.ca, .slice a.ra c.nr a.cr, .slice a.wa c.nw a.cw, .slice a.oa c.no a.cb, .slice a.fa c.fr.length a.cf, .slice a.ga c.gr.length a.cg, .slice a.qa c.qu.length a.cq, .int .u64 (c.cn 0), .int .u64 (c.cn 1), .int .u64 (c.cn 2), .int .u64 (c.cn 3)]) by rw [← hW1]; have := rowL_alloc (w.alloc (.cells #[.int .i64 (o : Int), .int .i64 (s : Int), .int .i64 (h : Int), .int .i64 (r : Int), .int .i64 (k : Int), .int .i64 s5, .slice (some ⟨g, 0, none⟩) z cap] 59)) [.int .i64 c.ph, .int .i64 c.co, .int .u64 c.ro, .slice a.aa c.na a.ca, .slice a.ra c.nr a.cr, .slice a.wa c.nw a.cw, .slice a.oa c.no a.cb, .slice a.fa c.fr.length a.cf, .slice a.ga c.gr.length a.cg, .slice a.qa c.qu.length a.cq, .int .u64 (c.cn 0), .int .u64 (c.cn 1), .int .u64 (c.cn 2), .int .u64 (c.cn 3)] 31 (n := 14) rfl; simpa using this)
  have sz1 : W1.heap.size = w.heap.size + 2 := by rw [← hW1]; simp
  have hB1 : Below w.heap.size w W1 := by rw [← hW1]; exact ((Below.refl _ w).alloc (Nat.le_refl _) _).alloc (by simp) _
  have HB1 := hide hB1
  have HW0 := hide (show Wr W1 g z (lwP ⟨o, s, h, r, k⟩ c 0) from (hg.on hB1).ext (fun i _ => by simp [lwP]))
  have SH := hide (fun (wx : World) (n : Nat) (hx : Bx n g W1 wx) => show Shows wx c a from HSV.out.below ((HBV.out.trans (HB1.out.mono HBV.out.size)).trans (hx.low.mono hV)))
  have CM := hide (fun (wx : World) (hx : Bx W1.heap.size g W1 wx) => show wx.rowIs w.heap.size 59 7 (lrow [.int .i64 (o : Int), .int .i64 (s : Int), .int .i64 (h : Int), .int .i64 (r : Int), .int .i64 (k : Int), .int .i64 s5, .slice (some ⟨g, 0, none⟩) z cap]) ∧ wx.rowIs (w.heap.size + 1) 31 14 (lrow [.int .i64 c.ph, .int .i64 c.co, .int .u64 c.ro, .slice a.aa c.na a.ca, .slice a.ra c.nr a.cr, .slice a.wa c.nw a.cw, .slice a.oa c.no a.cb, .slice a.fa c.fr.length a.cf, .slice a.ga c.gr.length a.cg, .slice a.qa c.qu.length a.cq, .int .u64 (c.cn 0), .int .u64 (c.cn 1), .int .u64 (c.cn 2), .int .u64 (c.cn 3)]) from ⟨RM.out.of_block (hx.blk _ (by omega) (by omega)), RV.out.of_block (hx.blk _ (by omega) (by omega))⟩)
  obtain ⟨vb, hvb⟩ : ∃ vb, w.heap.size + 1 = vb := ⟨_, rfl⟩
  have HR := hide hr
  have HO := hide ho
  clear hS hb hB hL hg hB1 hr ho
  simp only [vl]
  go_enter Tryz.func22, Tryz.ntmps22
  go_upto_region 1 with (fail)
  try simp only [hW1]
  try simp only [hvb]
  rw [hvb] at CM
  clear hW1 RM RV
  have HRo := hide HB.out.ro
  have hgW := hide (show g ≤ W1.heap.size by omega)
  have FIT6 := hide (show 8 + h ≤ z by have := LO.out; (try simp only at this); omega)
  have FITR := hide (show ∀ q, q < h → bR ⟨o, s, h, r, k⟩ + q * r + r ≤ z from fun q hq => by
    have h1 : (q + 1) * r ≤ h * r := Nat.mul_le_mul_right _ hq
    rw [Nat.succ_mul] at h1
    have := LO.out; (try simp only at this); omega)
  have FITW := hide (show bK ⟨o, s, h, r, k⟩ + k ≤ z by have := LO.out; (try simp only at this); omega)
  have SCN := hide (show ∀ w', Bx W1.heap.size g W1 w' → Sees w' w'.heap.size (some ⟨vb, 10, none⟩) 4 c.cn from fun w' hx j hj => by
    have R := (CM.out w' hx).2
    refine ⟨vb, 10, rfl, R.lt, ?_⟩
    have hc := R.cell (i := 10 + j) (by omega)
    rw [hc]
    match j, hj with
    | 0, _ => rfl
    | 1, _ => rfl
    | 2, _ => rfl
    | 3, _ => rfl)
  have VBX := hide (fun (wx : World) (n : Nat) (hx : Bx n g W1 wx) => show Below V.heap.size V wx from (HBV.out.trans (HB1.out.mono HBV.out.size)).trans (hx.low.mono hV))
  have O1 := hide (show 0 < o from H.o1)
  have BXE := hide (show ∀ wx, Bx W1.heap.size g W1 wx → Bx w.heap.size g w wx from fun wx hx => ⟨(HB1.out.mono (Nat.le_of_lt hgl)).trans hx.low, fun j h1 h2 => (hx.blk j (by omega) h2).trans (HB1.out.block j h1)⟩)
  have L0 : LI W1 g z ⟨o, s, h, r, k⟩ c 0 W1 := ⟨HW0.out, Bx.refl _ _ _⟩
  have UP1 : ∀ i, ¬ i = 5 → ∀ (L : Nat → Bool) (s' : Nat → Value) (w' : World), LI W1 g z ⟨o, s, h, r, k⟩ c (if L 5 = true then 1 else 0) w' → LI W1 g z ⟨o, s, h, r, k⟩ c (if (Lt.up L i) 5 = true then 1 else 0) w' := fun i hi L s' w' h => by rw [Lt.up_other L (fun e => hi e.symm)]; exact h
  have ST1 : ∀ (L : Nat → Bool) (w' : World), L 5 = false → LI W1 g z ⟨o, s, h, r, k⟩ c (if L 5 = true then 1 else 0) w' → LI W1 g z ⟨o, s, h, r, k⟩ c (if (Lt.up L 5) 5 = true then 1 else 0) (w'.setCell ⟨g, 0, none⟩ (.int .u64 (mo c))) := fun L w' hL h => by rw [Lt.up_same, if_pos rfl]; rw [hL, if_neg (by decide)] at h; exact h.set (by omega) (by simp [lwF])
  refine LtH.region2 (ks := [(0, 8), (1, 9), (2, 10), (3, 11), (4, 12)]) (vals := fun iv => match iv with | 0 => .pointer (some ⟨w.heap.size, 6, none⟩) | 1 => .slice (some ⟨g, 0, none⟩) z cap | 2 => .agg #[.int .i64 c.ph, .int .i64 c.co, .int .u64 c.ro, .slice a.aa c.na a.ca, .slice a.ra c.nr a.cr, .slice a.wa c.nw a.cw, .slice a.oa c.no a.cb, .slice a.fa c.fr.length a.cf, .slice a.ga c.gr.length a.cg, .slice a.qa c.qu.length a.cq, .int .u64 (c.cn 0), .int .u64 (c.cn 1), .int .u64 (c.cn 2), .int .u64 (c.cn 3)] | 3 => .int .u64 (mo c) | 4 => .pointer (some ⟨g, 0, none⟩) | _ => undef) (xs := []) (WI := (fun L _ w' => LI W1 g z ⟨o, s, h, r, k⟩ c (if L 5 = true then 1 else 0) w')) (by kernel_rfl) ?A1gd ?A1bk rfl ?A1dd ?A1xx ?A1lc ?A1st ?A1do ?A1fi
  case A1gd =>
    intro iq oq ho
    have hiq : iq < 6 := by have := (Array.getElem?_eq_some_iff.1 ho).1; simpa using this
    match iq, hiq with
    | 0, _ | 1, _ | 2, _ | 3, _ | 4, _ | 5, _ => injection ho with ho; subst ho; rfl
  case A1bk =>
    intro iq oq ho
    have hiq : iq < 6 := by have := (Array.getElem?_eq_some_iff.1 ho).1; simpa using this
    match iq, hiq with
    | 0, _ | 1, _ | 2, _ | 3, _ | 4, _ | 5, _ => injection ho with ho; subst ho; simp [Region.binds]
  case A1dd =>
    intro kq hk
    have hk2 : kq < 77 := by
      simp [Lt.D] at hk
      omega
    exact hk2
  case A1xx => intro kq hk; simp at hk
  case A1lc => intro L s1 s2 w1 hx h; exact h
  case A1st => exact L0.drew
  case A1do =>
    intro iq oq ho
    have hiq : iq < 6 := by have := (Array.getElem?_eq_some_iff.1 ho).1; simpa using this
    match iq, hiq with
    | 0, _ => injection ho with ho; subst ho; exact LtH.Does.read rfl (UP1 _ (by decide)) (fun L a w' hI hq => Lt.ex_field rfl (hI.fix 2 (Lt.notD rfl) rfl) (by simp [go_sem]))
    | 1, _ => injection ho with ho; subst ho; exact LtH.Does.read rfl (UP1 _ (by decide)) (fun L a w' hI hq => Lt.ex_load rfl (hI.pure 0 _ _ rfl (hq ⟨0, .data⟩ (by simp) rfl)) (by simp [go_sem]) (by have hc := (CM.out w' hI.world.bx).1.cell (i := 6) (by decide); simp only [lrow] at hc; exact hc))
    | 2, _ => injection ho with ho; subst ho; exact LtH.Does.read rfl (UP1 _ (by decide)) (fun L a w' hI hq => Lt.ex_load_row rfl (hI.fix 3 (Lt.notD rfl) rfl) (rngL (CM.out w' hI.world.bx).2 rfl) (by kernel_rfl) (by kernel_rfl))
    | 3, _ => injection ho with ho; subst ho; exact LtH.Does.mk rfl (fun L a w' K hI hL hq hk => Lt.wp_call (Lt.call1 rfl (hI.pure 2 _ _ rfl (hq ⟨2, .data⟩ (by simp) rfl)) rfl (by simp [go_sem])) ((momentOf_ok HRo.out w').mono (by rintro e w2 ⟨rfl, hb⟩; exact ⟨_, rfl, hk _ _ (fun _ _ => rfl) (by have h2 := hI.world.below hgW.out hb; rw [← Lt.up_other L (show ¬ 5 = 3 by decide)] at h2; exact h2)⟩)))
    | 4, _ => injection ho with ho; subst ho; exact LtH.Does.read rfl (UP1 _ (by decide)) (fun L a w' hI hq => ex_idxN (k := 0) rfl (hI.pure 1 _ _ rfl (hq ⟨1, .data⟩ (by simp) rfl)) rfl (by omega))
    | 5, _ => injection ho with ho; subst ho; exact LtH.Does.mk rfl (fun L a w' K hI hL hq hk => by refine wp_storeU rfl rfl (hI.pure 4 _ _ rfl (hq ⟨4, .data⟩ (by simp) rfl)) (hI.pure 3 _ _ rfl (hq ⟨3, .data⟩ (by simp) rfl)) (hI.world.wr.cell (i := 0) (by omega)) (hI.world.wr.frozen _) (hk _ _ (fun d e => by cases e) (ST1 L w' hL hI.world)))
  case A1fi =>
    intro L a' W hI hall
    have HN := hI.world
    rw [hall 5 (by decide), if_pos rfl] at HN
    have hfr := LtH.frame hI [8, 9, 10, 11, 12] rfl rfl (fun x hx => by simp at hx ⊢; omega)
    have e8 := hI.pure 0 _ _ rfl (hall 0 (by decide))
    have e9 := hI.pure 1 _ _ rfl (hall 1 (by decide))
    have e10 := hI.pure 2 _ _ rfl (hall 2 (by decide))
    have e11 := hI.pure 3 _ _ rfl (hall 3 (by decide))
    have e12 := hI.pure 4 _ _ rfl (hall 4 (by decide))
    rw [hfr]
    simp only [LtH.lay, List.foldl, e8, e9, e10, e11, e12]
    clear hfr hI hall e8 e9 e10 e11 e12 UP1 ST1
    simp only [Act.put, List.setIfInBounds_toArray, List.set_cons_succ, List.set_cons_zero]
    have L1 := HN
    clear HN
    go_upto_region 2 with (fail)
    have UP2 : ∀ i, ¬ i = 6 → ∀ (L : Nat → Bool) (s' : Nat → Value) (w' : World), LI W1 g z ⟨o, s, h, r, k⟩ c (if L 6 = true then 2 else 1) w' → LI W1 g z ⟨o, s, h, r, k⟩ c (if (Lt.up L i) 6 = true then 2 else 1) w' := fun i hi L s' w' h => by rw [Lt.up_other L (fun e => hi e.symm)]; exact h
    have ST2 : ∀ (L : Nat → Bool) (w' : World), L 6 = false → LI W1 g z ⟨o, s, h, r, k⟩ c (if L 6 = true then 2 else 1) w' → LI W1 g z ⟨o, s, h, r, k⟩ c (if (Lt.up L 6) 6 = true then 2 else 1) (w'.setCell ⟨g, 1, none⟩ (.int .u64 (hdV c.fr))) := fun L w' hL h => by rw [Lt.up_same, if_pos rfl]; rw [hL, if_neg (by decide)] at h; exact h.set (by omega) (by simp [lwF])
    refine LtH.region2 (ks := [(0, 13), (1, 14), (2, 15), (3, 16), (4, 17), (5, 18)]) (vals := fun iv => match iv with | 0 => .pointer (some ⟨w.heap.size, 6, none⟩) | 1 => .slice (some ⟨g, 0, none⟩) z cap | 2 => .pointer (some ⟨vb, 7, none⟩) | 3 => .slice a.fa c.fr.length a.cf | 4 => .int .u64 (hdV c.fr) | 5 => .pointer (some ⟨g, 1, none⟩) | _ => undef) (xs := []) (WI := (fun L _ w' => LI W1 g z ⟨o, s, h, r, k⟩ c (if L 6 = true then 2 else 1) w')) (by kernel_rfl) ?A2gd ?A2bk rfl ?A2dd ?A2xx ?A2lc ?A2st ?A2do ?A2fi
    case A2gd =>
      intro iq oq ho
      have hiq : iq < 7 := by have := (Array.getElem?_eq_some_iff.1 ho).1; simpa using this
      match iq, hiq with
      | 0, _ | 1, _ | 2, _ | 3, _ | 4, _ | 5, _ | 6, _ => injection ho with ho; subst ho; rfl
    case A2bk =>
      intro iq oq ho
      have hiq : iq < 7 := by have := (Array.getElem?_eq_some_iff.1 ho).1; simpa using this
      match iq, hiq with
      | 0, _ | 1, _ | 2, _ | 3, _ | 4, _ | 5, _ | 6, _ => injection ho with ho; subst ho; simp [Region.binds]
    case A2dd =>
      intro kq hk
      have hk2 : kq < 77 := by
        simp [Lt.D] at hk
        omega
      exact hk2
    case A2xx => intro kq hk; simp at hk
    case A2lc => intro L s1 s2 w1 hx h; exact h
    case A2st => exact L1.drew
    case A2do =>
      intro iq oq ho
      have hiq : iq < 7 := by have := (Array.getElem?_eq_some_iff.1 ho).1; simpa using this
      match iq, hiq with
      | 0, _ => injection ho with ho; subst ho; exact LtH.Does.read rfl (UP2 _ (by decide)) (fun L a w' hI hq => Lt.ex_field rfl (hI.fix 2 (Lt.notD rfl) rfl) (by simp [go_sem]))
      | 1, _ => injection ho with ho; subst ho; exact LtH.Does.read rfl (UP2 _ (by decide)) (fun L a w' hI hq => Lt.ex_load rfl (hI.pure 0 _ _ rfl (hq ⟨0, .data⟩ (by simp) rfl)) (by simp [go_sem]) (by have hc := (CM.out w' hI.world.bx).1.cell (i := 6) (by decide); simp only [lrow] at hc; exact hc))
      | 2, _ => injection ho with ho; subst ho; exact LtH.Does.read rfl (UP2 _ (by decide)) (fun L a w' hI hq => Lt.ex_field rfl (hI.fix 3 (Lt.notD rfl) rfl) (by simp [go_sem]))
      | 3, _ => injection ho with ho; subst ho; exact LtH.Does.read rfl (UP2 _ (by decide)) (fun L a w' hI hq => Lt.ex_load rfl (hI.pure 2 _ _ rfl (hq ⟨2, .data⟩ (by simp) rfl)) (by simp [go_sem]) (by have hc := (CM.out w' hI.world.bx).2.cell (i := 7) (by decide); simp only [lrow] at hc; exact hc))
      | 4, _ => injection ho with ho; subst ho; exact LtH.Does.mk rfl (fun L a w' K hI hL hq hk => Lt.wp_call (Lt.call1 rfl (hI.pure 3 _ _ rfl (hq ⟨3, .data⟩ (by simp) rfl)) rfl (by simp [go_sem])) ((headOf_ok (SH.out w' _ hI.world.bx).fr HL.out.fr).mono (by rintro e w2 ⟨rfl, rfl⟩; exact ⟨_, rfl, hk _ _ (fun _ _ => rfl) (UP2 4 (by decide) _ (fun k => a.eval (.tmp k)) _ hI.world)⟩)))
      | 5, _ => injection ho with ho; subst ho; exact LtH.Does.read rfl (UP2 _ (by decide)) (fun L a w' hI hq => ex_idxN (k := 1) rfl (hI.pure 1 _ _ rfl (hq ⟨1, .data⟩ (by simp) rfl)) rfl (by omega))
      | 6, _ => injection ho with ho; subst ho; exact LtH.Does.mk rfl (fun L a w' K hI hL hq hk => by refine wp_storeU rfl rfl (hI.pure 5 _ _ rfl (hq ⟨5, .data⟩ (by simp) rfl)) (hI.pure 4 _ _ rfl (hq ⟨4, .data⟩ (by simp) rfl)) (hI.world.wr.cell (i := 1) (by omega)) (hI.world.wr.frozen _) (hk _ _ (fun d e => by cases e) (ST2 L w' hL hI.world)))
    case A2fi =>
      intro L a' W hI hall
      have HN := hI.world
      rw [hall 6 (by decide), if_pos rfl] at HN
      have hfr := LtH.frame hI [13, 14, 15, 16, 17, 18] rfl rfl (fun x hx => by simp at hx ⊢; omega)
      have e13 := hI.pure 0 _ _ rfl (hall 0 (by decide))
      have e14 := hI.pure 1 _ _ rfl (hall 1 (by decide))
      have e15 := hI.pure 2 _ _ rfl (hall 2 (by decide))
      have e16 := hI.pure 3 _ _ rfl (hall 3 (by decide))
      have e17 := hI.pure 4 _ _ rfl (hall 4 (by decide))
      have e18 := hI.pure 5 _ _ rfl (hall 5 (by decide))
      rw [hfr]
      simp only [LtH.lay, List.foldl, e13, e14, e15, e16, e17, e18]
      clear hfr hI hall e13 e14 e15 e16 e17 e18 UP2 ST2
      simp only [Act.put, List.setIfInBounds_toArray, List.set_cons_succ, List.set_cons_zero]
      have L2 := HN
      clear HN
      go_upto_region 3 with (fail)
      have UP3 : ∀ i, ¬ i = 6 → ∀ (L : Nat → Bool) (s' : Nat → Value) (w' : World), LI W1 g z ⟨o, s, h, r, k⟩ c (if L 6 = true then 3 else 2) w' → LI W1 g z ⟨o, s, h, r, k⟩ c (if (Lt.up L i) 6 = true then 3 else 2) w' := fun i hi L s' w' h => by rw [Lt.up_other L (fun e => hi e.symm)]; exact h
      have ST3 : ∀ (L : Nat → Bool) (w' : World), L 6 = false → LI W1 g z ⟨o, s, h, r, k⟩ c (if L 6 = true then 3 else 2) w' → LI W1 g z ⟨o, s, h, r, k⟩ c (if (Lt.up L 6) 6 = true then 3 else 2) (w'.setCell ⟨g, 2, none⟩ (.int .u64 (hdV c.gr))) := fun L w' hL h => by rw [Lt.up_same, if_pos rfl]; rw [hL, if_neg (by decide)] at h; exact h.set (by omega) (by simp [lwF])
      refine LtH.region2 (ks := [(0, 19), (1, 20), (2, 21), (3, 22), (4, 23), (5, 24)]) (vals := fun iv => match iv with | 0 => .pointer (some ⟨w.heap.size, 6, none⟩) | 1 => .slice (some ⟨g, 0, none⟩) z cap | 2 => .pointer (some ⟨vb, 8, none⟩) | 3 => .slice a.ga c.gr.length a.cg | 4 => .int .u64 (hdV c.gr) | 5 => .pointer (some ⟨g, 2, none⟩) | _ => undef) (xs := []) (WI := (fun L _ w' => LI W1 g z ⟨o, s, h, r, k⟩ c (if L 6 = true then 3 else 2) w')) (by kernel_rfl) ?A3gd ?A3bk rfl ?A3dd ?A3xx ?A3lc ?A3st ?A3do ?A3fi
      case A3gd =>
        intro iq oq ho
        have hiq : iq < 7 := by have := (Array.getElem?_eq_some_iff.1 ho).1; simpa using this
        match iq, hiq with
        | 0, _ | 1, _ | 2, _ | 3, _ | 4, _ | 5, _ | 6, _ => injection ho with ho; subst ho; rfl
      case A3bk =>
        intro iq oq ho
        have hiq : iq < 7 := by have := (Array.getElem?_eq_some_iff.1 ho).1; simpa using this
        match iq, hiq with
        | 0, _ | 1, _ | 2, _ | 3, _ | 4, _ | 5, _ | 6, _ => injection ho with ho; subst ho; simp [Region.binds]
      case A3dd =>
        intro kq hk
        have hk2 : kq < 77 := by
          simp [Lt.D] at hk
          omega
        exact hk2
      case A3xx => intro kq hk; simp at hk
      case A3lc => intro L s1 s2 w1 hx h; exact h
      case A3st => exact L2.drew
      case A3do =>
        intro iq oq ho
        have hiq : iq < 7 := by have := (Array.getElem?_eq_some_iff.1 ho).1; simpa using this
        match iq, hiq with
        | 0, _ => injection ho with ho; subst ho; exact LtH.Does.read rfl (UP3 _ (by decide)) (fun L a w' hI hq => Lt.ex_field rfl (hI.fix 2 (Lt.notD rfl) rfl) (by simp [go_sem]))
        | 1, _ => injection ho with ho; subst ho; exact LtH.Does.read rfl (UP3 _ (by decide)) (fun L a w' hI hq => Lt.ex_load rfl (hI.pure 0 _ _ rfl (hq ⟨0, .data⟩ (by simp) rfl)) (by simp [go_sem]) (by have hc := (CM.out w' hI.world.bx).1.cell (i := 6) (by decide); simp only [lrow] at hc; exact hc))
        | 2, _ => injection ho with ho; subst ho; exact LtH.Does.read rfl (UP3 _ (by decide)) (fun L a w' hI hq => Lt.ex_field rfl (hI.fix 3 (Lt.notD rfl) rfl) (by simp [go_sem]))
        | 3, _ => injection ho with ho; subst ho; exact LtH.Does.read rfl (UP3 _ (by decide)) (fun L a w' hI hq => Lt.ex_load rfl (hI.pure 2 _ _ rfl (hq ⟨2, .data⟩ (by simp) rfl)) (by simp [go_sem]) (by have hc := (CM.out w' hI.world.bx).2.cell (i := 8) (by decide); simp only [lrow] at hc; exact hc))
        | 4, _ => injection ho with ho; subst ho; exact LtH.Does.mk rfl (fun L a w' K hI hL hq hk => Lt.wp_call (Lt.call1 rfl (hI.pure 3 _ _ rfl (hq ⟨3, .data⟩ (by simp) rfl)) rfl (by simp [go_sem])) ((headOf_ok (SH.out w' _ hI.world.bx).gr HL.out.gr).mono (by rintro e w2 ⟨rfl, rfl⟩; exact ⟨_, rfl, hk _ _ (fun _ _ => rfl) (UP3 4 (by decide) _ (fun k => a.eval (.tmp k)) _ hI.world)⟩)))
        | 5, _ => injection ho with ho; subst ho; exact LtH.Does.read rfl (UP3 _ (by decide)) (fun L a w' hI hq => ex_idxN (k := 2) rfl (hI.pure 1 _ _ rfl (hq ⟨1, .data⟩ (by simp) rfl)) rfl (by omega))
        | 6, _ => injection ho with ho; subst ho; exact LtH.Does.mk rfl (fun L a w' K hI hL hq hk => by refine wp_storeU rfl rfl (hI.pure 5 _ _ rfl (hq ⟨5, .data⟩ (by simp) rfl)) (hI.pure 4 _ _ rfl (hq ⟨4, .data⟩ (by simp) rfl)) (hI.world.wr.cell (i := 2) (by omega)) (hI.world.wr.frozen _) (hk _ _ (fun d e => by cases e) (ST3 L w' hL hI.world)))
      case A3fi =>
        intro L a' W hI hall
        have HN := hI.world
        rw [hall 6 (by decide), if_pos rfl] at HN
        have hfr := LtH.frame hI [19, 20, 21, 22, 23, 24] rfl rfl (fun x hx => by simp at hx ⊢; omega)
        have e19 := hI.pure 0 _ _ rfl (hall 0 (by decide))
        have e20 := hI.pure 1 _ _ rfl (hall 1 (by decide))
        have e21 := hI.pure 2 _ _ rfl (hall 2 (by decide))
        have e22 := hI.pure 3 _ _ rfl (hall 3 (by decide))
        have e23 := hI.pure 4 _ _ rfl (hall 4 (by decide))
        have e24 := hI.pure 5 _ _ rfl (hall 5 (by decide))
        rw [hfr]
        simp only [LtH.lay, List.foldl, e19, e20, e21, e22, e23, e24]
        clear hfr hI hall e19 e20 e21 e22 e23 e24 UP3 ST3
        simp only [Act.put, List.setIfInBounds_toArray, List.set_cons_succ, List.set_cons_zero]
        have L3 := HN
        clear HN
        go_upto_region 4 with (fail)
        have UP4 : ∀ i, ¬ i = 6 → ∀ (L : Nat → Bool) (s' : Nat → Value) (w' : World), LI W1 g z ⟨o, s, h, r, k⟩ c (if L 6 = true then 4 else 3) w' → LI W1 g z ⟨o, s, h, r, k⟩ c (if (Lt.up L i) 6 = true then 4 else 3) w' := fun i hi L s' w' h => by rw [Lt.up_other L (fun e => hi e.symm)]; exact h
        have ST4 : ∀ (L : Nat → Bool) (w' : World), L 6 = false → LI W1 g z ⟨o, s, h, r, k⟩ c (if L 6 = true then 4 else 3) w' → LI W1 g z ⟨o, s, h, r, k⟩ c (if (Lt.up L 6) 6 = true then 4 else 3) (w'.setCell ⟨g, 3, none⟩ (.int .u64 (hdV c.qu))) := fun L w' hL h => by rw [Lt.up_same, if_pos rfl]; rw [hL, if_neg (by decide)] at h; exact h.set (by omega) (by simp [lwF])
        refine LtH.region2 (ks := [(0, 25), (1, 26), (2, 27), (3, 28), (4, 29), (5, 30)]) (vals := fun iv => match iv with | 0 => .pointer (some ⟨w.heap.size, 6, none⟩) | 1 => .slice (some ⟨g, 0, none⟩) z cap | 2 => .pointer (some ⟨vb, 9, none⟩) | 3 => .slice a.qa c.qu.length a.cq | 4 => .int .u64 (hdV c.qu) | 5 => .pointer (some ⟨g, 3, none⟩) | _ => undef) (xs := []) (WI := (fun L _ w' => LI W1 g z ⟨o, s, h, r, k⟩ c (if L 6 = true then 4 else 3) w')) (by kernel_rfl) ?A4gd ?A4bk rfl ?A4dd ?A4xx ?A4lc ?A4st ?A4do ?A4fi
        case A4gd =>
          intro iq oq ho
          have hiq : iq < 7 := by have := (Array.getElem?_eq_some_iff.1 ho).1; simpa using this
          match iq, hiq with
          | 0, _ | 1, _ | 2, _ | 3, _ | 4, _ | 5, _ | 6, _ => injection ho with ho; subst ho; rfl
        case A4bk =>
          intro iq oq ho
          have hiq : iq < 7 := by have := (Array.getElem?_eq_some_iff.1 ho).1; simpa using this
          match iq, hiq with
          | 0, _ | 1, _ | 2, _ | 3, _ | 4, _ | 5, _ | 6, _ => injection ho with ho; subst ho; simp [Region.binds]
        case A4dd =>
          intro kq hk
          have hk2 : kq < 77 := by
            simp [Lt.D] at hk
            omega
          exact hk2
        case A4xx => intro kq hk; simp at hk
        case A4lc => intro L s1 s2 w1 hx h; exact h
        case A4st => exact L3.drew
        case A4do =>
          intro iq oq ho
          have hiq : iq < 7 := by have := (Array.getElem?_eq_some_iff.1 ho).1; simpa using this
          match iq, hiq with
          | 0, _ => injection ho with ho; subst ho; exact LtH.Does.read rfl (UP4 _ (by decide)) (fun L a w' hI hq => Lt.ex_field rfl (hI.fix 2 (Lt.notD rfl) rfl) (by simp [go_sem]))
          | 1, _ => injection ho with ho; subst ho; exact LtH.Does.read rfl (UP4 _ (by decide)) (fun L a w' hI hq => Lt.ex_load rfl (hI.pure 0 _ _ rfl (hq ⟨0, .data⟩ (by simp) rfl)) (by simp [go_sem]) (by have hc := (CM.out w' hI.world.bx).1.cell (i := 6) (by decide); simp only [lrow] at hc; exact hc))
          | 2, _ => injection ho with ho; subst ho; exact LtH.Does.read rfl (UP4 _ (by decide)) (fun L a w' hI hq => Lt.ex_field rfl (hI.fix 3 (Lt.notD rfl) rfl) (by simp [go_sem]))
          | 3, _ => injection ho with ho; subst ho; exact LtH.Does.read rfl (UP4 _ (by decide)) (fun L a w' hI hq => Lt.ex_load rfl (hI.pure 2 _ _ rfl (hq ⟨2, .data⟩ (by simp) rfl)) (by simp [go_sem]) (by have hc := (CM.out w' hI.world.bx).2.cell (i := 9) (by decide); simp only [lrow] at hc; exact hc))
          | 4, _ => injection ho with ho; subst ho; exact LtH.Does.mk rfl (fun L a w' K hI hL hq hk => Lt.wp_call (Lt.call1 rfl (hI.pure 3 _ _ rfl (hq ⟨3, .data⟩ (by simp) rfl)) rfl (by simp [go_sem])) ((headOf_ok (SH.out w' _ hI.world.bx).qu HL.out.qu).mono (by rintro e w2 ⟨rfl, rfl⟩; exact ⟨_, rfl, hk _ _ (fun _ _ => rfl) (UP4 4 (by decide) _ (fun k => a.eval (.tmp k)) _ hI.world)⟩)))
          | 5, _ => injection ho with ho; subst ho; exact LtH.Does.read rfl (UP4 _ (by decide)) (fun L a w' hI hq => ex_idxN (k := 3) rfl (hI.pure 1 _ _ rfl (hq ⟨1, .data⟩ (by simp) rfl)) rfl (by omega))
          | 6, _ => injection ho with ho; subst ho; exact LtH.Does.mk rfl (fun L a w' K hI hL hq hk => by refine wp_storeU rfl rfl (hI.pure 5 _ _ rfl (hq ⟨5, .data⟩ (by simp) rfl)) (hI.pure 4 _ _ rfl (hq ⟨4, .data⟩ (by simp) rfl)) (hI.world.wr.cell (i := 3) (by omega)) (hI.world.wr.frozen _) (hk _ _ (fun d e => by cases e) (ST4 L w' hL hI.world)))
        case A4fi =>
          intro L a' W hI hall
          have HN := hI.world
          rw [hall 6 (by decide), if_pos rfl] at HN
          have hfr := LtH.frame hI [25, 26, 27, 28, 29, 30] rfl rfl (fun x hx => by simp at hx ⊢; omega)
          have e25 := hI.pure 0 _ _ rfl (hall 0 (by decide))
          have e26 := hI.pure 1 _ _ rfl (hall 1 (by decide))
          have e27 := hI.pure 2 _ _ rfl (hall 2 (by decide))
          have e28 := hI.pure 3 _ _ rfl (hall 3 (by decide))
          have e29 := hI.pure 4 _ _ rfl (hall 4 (by decide))
          have e30 := hI.pure 5 _ _ rfl (hall 5 (by decide))
          rw [hfr]
          simp only [LtH.lay, List.foldl, e25, e26, e27, e28, e29, e30]
          clear hfr hI hall e25 e26 e27 e28 e29 e30 UP4 ST4
          simp only [Act.put, List.setIfInBounds_toArray, List.set_cons_succ, List.set_cons_zero]
          have L4 := HN
          clear HN
          go_upto_region 5 with (fail)
          have CU5 : ∀ i, ¬ i = 1 → ¬ i = 4 → ∀ (L : Nat → Bool) (s' : Nat → Value) (w' : World), LC W1 g z ⟨o, s, h, r, k⟩ c (4) (4) 32 (L 1) (L 4) s' w' → LC W1 g z ⟨o, s, h, r, k⟩ c (4) (4) 32 (Lt.up L i 1) (Lt.up L i 4) s' w' := fun i h1 h4 L s' w' h => by rw [Lt.up_other L (fun e => h1 e.symm), Lt.up_other L (fun e => h4 e.symm)]; exact h
          have CC5 : ∀ (L : Nat → Bool) (s' : Nat → Value) (w' : World), LC W1 g z ⟨o, s, h, r, k⟩ c (4) (4) 32 (L 1) (L 4) s' w' → ∀ (w2 : World) (p : Addr) (cp : Nat), Below w'.heap.size w' w2 → (0 < 4 → p = ⟨g, 4, none⟩) → LC W1 g z ⟨o, s, h, r, k⟩ c (4) (4) 32 (Lt.up L 1 1) (Lt.up L 1 4) (fun q => if q = 32 then .slice (some p) (4) cp else s' q) w2 := fun L s' w' h w2 p cp hb hp => by rw [show Lt.up L 1 4 = L 4 from Lt.up_other L (by decide)]; exact ⟨h.1.below hgW.out hb, fun _ => ⟨p, cp, by simp, hp⟩⟩
          have CD5 : ∀ (L : Nat → Bool) (s' : Nat → Value) (w' : World) (v : Value), LI W1 g z ⟨o, s, h, r, k⟩ c (4 + 4) w' → (∃ p cp, s' 32 = .slice (some p) (4) cp ∧ (0 < 4 → p = ⟨g, 4, none⟩)) → LC W1 g z ⟨o, s, h, r, k⟩ c (4) (4) 32 (Lt.up L 4 1) (Lt.up L 4 4) (fun q => if q = 35 then v else s' q) w' := fun L s' w' v h ⟨p, cp, e1, hp⟩ => by rw [Lt.up_same]; exact ⟨by rw [if_pos rfl]; exact h, fun _ => ⟨p, cp, by simpa using e1, hp⟩⟩
          refine LtH.region2 (ks := [(0, 31), (2, 33), (3, 34)]) (vals := fun iv => match iv with | 0 => .agg #[.int .i64 (o : Int), .int .i64 (s : Int), .int .i64 (h : Int), .int .i64 (r : Int), .int .i64 (k : Int), .int .i64 s5, .slice (some ⟨g, 0, none⟩) z cap] | 2 => .pointer (some ⟨vb, 10, none⟩) | 3 => .slice (some ⟨vb, 10, none⟩) 4 4 | _ => undef) (xs := [32, 35]) (WI := (fun L s' w' => LC W1 g z ⟨o, s, h, r, k⟩ c (4) (4) 32 (L 1) (L 4) s' w')) (by kernel_rfl) ?A5gd ?A5bk rfl ?A5dd ?A5xx ?A5lc ?A5st ?A5do ?A5fi
          case A5gd =>
            intro iq oq ho
            have hiq : iq < 5 := by have := (Array.getElem?_eq_some_iff.1 ho).1; simpa using this
            match iq, hiq with
            | 0, _ | 1, _ | 2, _ | 3, _ | 4, _ => injection ho with ho; subst ho; rfl
          case A5bk =>
            intro iq oq ho
            have hiq : iq < 5 := by have := (Array.getElem?_eq_some_iff.1 ho).1; simpa using this
            match iq, hiq with
            | 0, _ | 1, _ | 2, _ | 3, _ | 4, _ => injection ho with ho; subst ho; simp [Region.binds]
          case A5dd =>
            intro kq hk
            have hk2 : kq < 77 := by
              simp [Lt.D] at hk
              omega
            exact hk2
          case A5xx =>
            intro kq hk
            have hk2 : kq < 77 := by
              simp at hk
              omega
            exact hk2
          case A5lc => rintro L s1 s2 w1 hx ⟨h1, h2⟩; exact ⟨h1, fun e => by obtain ⟨p, cp, e1, hp⟩ := h2 e; exact ⟨p, cp, (hx 32 rfl).symm.trans e1, hp⟩⟩
          case A5st => exact ⟨L4.drew, fun e => by cases e⟩
          case A5do =>
            intro iq oq ho
            have hiq : iq < 5 := by have := (Array.getElem?_eq_some_iff.1 ho).1; simpa using this
            match iq, hiq with
            | 0, _ => injection ho with ho; subst ho; exact LtH.Does.read rfl (CU5 0 (by decide) (by decide)) (fun L a w' hI hq => Lt.ex_load_row rfl (hI.fix 2 (Lt.notD rfl) rfl) (rngL (CM.out w' hI.world.1.bx).1 rfl) (by kernel_rfl) (by kernel_rfl))
            | 1, _ => injection ho with ho; subst ho; exact LtH.Does.call (x := 32) rfl rfl rfl (fun L a w' hI hq => Lt.call1 rfl (hI.pure 0 _ _ rfl (hq ⟨0, .data⟩ (by simp) rfl)) rfl (by simp [go_sem])) (fun L s' w' hS hL => (counts_ok (s5 := s5) (b := g) (off := 0) (cap := cap) (z := z) (o := o) (s := s) (h := h) (r := r) (k := k) (by omega) hcp w').mono (by rintro e w2 ⟨⟨p, cp, rfl, hcp, hp⟩, hb⟩; exact ⟨_, rfl, CC5 L s' w' hS w2 p cp hb (fun _ => by simpa using hp)⟩))
            | 2, _ => injection ho with ho; subst ho; exact LtH.Does.read rfl (CU5 2 (by decide) (by decide)) (fun L a w' hI hq => Lt.ex_field rfl (hI.fix 3 (Lt.notD rfl) rfl) (by simp [go_sem]))
            | 3, _ => injection ho with ho; subst ho; exact LtH.Does.read rfl (CU5 3 (by decide) (by decide)) (fun L a w' hI hq => ex_arr rfl (hI.pure 2 _ _ rfl (hq ⟨2, .data⟩ (by simp) rfl)))
            | 4, _ => injection ho with ho; subst ho; exact LtH.Does.own 35 rfl rfl rfl (fun L a w' K hI hL hq hk => by obtain ⟨p, cp, e1, hp⟩ := hI.world.2 (hq ⟨1, .data⟩ (by simp) rfl); have h1 := hI.world.1; rw [hL, if_neg (by decide)] at h1; obtain ⟨v, W', hr, h2⟩ := h1.copy (cap := _) (cc := cp) hgW.out (SCN.out w' h1.bx) hp (by omega) (fun i hi => by rw [if_pos hi]; exact lw_cn hi); exact Lt.wp_value (ex_copy rfl e1 (hI.pure 3 _ _ rfl (hq ⟨3, .data⟩ (by simp) rfl)) hr) (hk _ _ (CD5 L _ W' v h2 ⟨p, cp, e1, hp⟩)))
          case A5fi =>
            intro L a' W hI hall
            have HN := hI.world.1
            rw [hall 4 (by decide), if_pos rfl] at HN
            have hfr := LtH.frame hI [31, 32, 33, 34, 35] rfl rfl (fun x hx => by simp at hx ⊢; omega)
            have e31 := hI.pure 0 _ _ rfl (hall 0 (by decide))
            have e33 := hI.pure 2 _ _ rfl (hall 2 (by decide))
            have e34 := hI.pure 3 _ _ rfl (hall 3 (by decide))
            rw [hfr]
            simp only [LtH.lay, List.foldl, e31, e33, e34]
            clear hfr hI hall e31 e33 e34 CU5 CC5 CD5
            simp only [Act.put, List.setIfInBounds_toArray, List.set_cons_succ, List.set_cons_zero]
            generalize a'.eval (.tmp 32) = v32
            generalize a'.eval (.tmp 35) = v35
            have L5 := HN
            clear HN
            go_upto_region 6 with (fail)
            have CU6 : ∀ i, ¬ i = 1 → ¬ i = 4 → ∀ (L : Nat → Bool) (s' : Nat → Value) (w' : World), LC W1 g z ⟨o, s, h, r, k⟩ c (8) (h) 37 (L 1) (L 4) s' w' → LC W1 g z ⟨o, s, h, r, k⟩ c (8) (h) 37 (Lt.up L i 1) (Lt.up L i 4) s' w' := fun i h1 h4 L s' w' h => by rw [Lt.up_other L (fun e => h1 e.symm), Lt.up_other L (fun e => h4 e.symm)]; exact h
            have CC6 : ∀ (L : Nat → Bool) (s' : Nat → Value) (w' : World), LC W1 g z ⟨o, s, h, r, k⟩ c (8) (h) 37 (L 1) (L 4) s' w' → ∀ (w2 : World) (p : Addr) (cp : Nat), Below w'.heap.size w' w2 → (0 < h → p = ⟨g, 8, none⟩) → LC W1 g z ⟨o, s, h, r, k⟩ c (8) (h) 37 (Lt.up L 1 1) (Lt.up L 1 4) (fun q => if q = 37 then .slice (some p) (h) cp else s' q) w2 := fun L s' w' h w2 p cp hb hp => by rw [show Lt.up L 1 4 = L 4 from Lt.up_other L (by decide)]; exact ⟨h.1.below hgW.out hb, fun _ => ⟨p, cp, by simp, hp⟩⟩
            have CD6 : ∀ (L : Nat → Bool) (s' : Nat → Value) (w' : World) (v : Value), LI W1 g z ⟨o, s, h, r, k⟩ c (8 + h) w' → (∃ p cp, s' 37 = .slice (some p) (h) cp ∧ (0 < h → p = ⟨g, 8, none⟩)) → LC W1 g z ⟨o, s, h, r, k⟩ c (8) (h) 37 (Lt.up L 4 1) (Lt.up L 4 4) (fun q => if q = 40 then v else s' q) w' := fun L s' w' v h ⟨p, cp, e1, hp⟩ => by rw [Lt.up_same]; exact ⟨by rw [if_pos rfl]; exact h, fun _ => ⟨p, cp, by simpa using e1, hp⟩⟩
            refine LtH.region2 (ks := [(0, 36), (2, 38), (3, 39)]) (vals := fun iv => match iv with | 0 => .agg #[.int .i64 (o : Int), .int .i64 (s : Int), .int .i64 (h : Int), .int .i64 (r : Int), .int .i64 (k : Int), .int .i64 s5, .slice (some ⟨g, 0, none⟩) z cap] | 2 => .pointer (some ⟨vb, 3, none⟩) | 3 => .slice a.aa c.na a.ca | _ => undef) (xs := [37, 40]) (WI := (fun L s' w' => LC W1 g z ⟨o, s, h, r, k⟩ c (8) (h) 37 (L 1) (L 4) s' w')) (by kernel_rfl) ?A6gd ?A6bk rfl ?A6dd ?A6xx ?A6lc ?A6st ?A6do ?A6fi
            case A6gd =>
              intro iq oq ho
              have hiq : iq < 5 := by have := (Array.getElem?_eq_some_iff.1 ho).1; simpa using this
              match iq, hiq with
              | 0, _ | 1, _ | 2, _ | 3, _ | 4, _ => injection ho with ho; subst ho; rfl
            case A6bk =>
              intro iq oq ho
              have hiq : iq < 5 := by have := (Array.getElem?_eq_some_iff.1 ho).1; simpa using this
              match iq, hiq with
              | 0, _ | 1, _ | 2, _ | 3, _ | 4, _ => injection ho with ho; subst ho; simp [Region.binds]
            case A6dd =>
              intro kq hk
              have hk2 : kq < 77 := by
                simp [Lt.D] at hk
                omega
              exact hk2
            case A6xx =>
              intro kq hk
              have hk2 : kq < 77 := by
                simp at hk
                omega
              exact hk2
            case A6lc => rintro L s1 s2 w1 hx ⟨h1, h2⟩; exact ⟨h1, fun e => by obtain ⟨p, cp, e1, hp⟩ := h2 e; exact ⟨p, cp, (hx 37 rfl).symm.trans e1, hp⟩⟩
            case A6st => exact ⟨L5.drew, fun e => by cases e⟩
            case A6do =>
              intro iq oq ho
              have hiq : iq < 5 := by have := (Array.getElem?_eq_some_iff.1 ho).1; simpa using this
              match iq, hiq with
              | 0, _ => injection ho with ho; subst ho; exact LtH.Does.read rfl (CU6 0 (by decide) (by decide)) (fun L a w' hI hq => Lt.ex_load_row rfl (hI.fix 2 (Lt.notD rfl) rfl) (rngL (CM.out w' hI.world.1.bx).1 rfl) (by kernel_rfl) (by kernel_rfl))
              | 1, _ => injection ho with ho; subst ho; exact LtH.Does.call (x := 37) rfl rfl rfl (fun L a w' hI hq => Lt.call1 rfl (hI.pure 0 _ _ rfl (hq ⟨0, .data⟩ (by simp) rfl)) rfl (by simp [go_sem])) (fun L s' w' hS hL => (acks_ok (s5 := s5) (b := g) (off := 0) (cap := cap) H hz hcp w').mono (by rintro e w2 ⟨⟨p, cp, rfl, hcp, hp⟩, hb⟩; exact ⟨_, rfl, CC6 L s' w' hS w2 p cp hb (fun e => by simpa using hp e)⟩))
              | 2, _ => injection ho with ho; subst ho; exact LtH.Does.read rfl (CU6 2 (by decide) (by decide)) (fun L a w' hI hq => Lt.ex_field rfl (hI.fix 3 (Lt.notD rfl) rfl) (by simp [go_sem]))
              | 3, _ => injection ho with ho; subst ho; exact LtH.Does.read rfl (CU6 3 (by decide) (by decide)) (fun L a w' hI hq => Lt.ex_load rfl (hI.pure 2 _ _ rfl (hq ⟨2, .data⟩ (by simp) rfl)) (by simp [go_sem]) (by have hc := (CM.out w' hI.world.1.bx).2.cell (i := 3) (by decide); simp only [lrow] at hc; exact hc))
              | 4, _ => injection ho with ho; subst ho; exact LtH.Does.own 40 rfl rfl rfl (fun L a w' K hI hL hq hk => by obtain ⟨p, cp, e1, hp⟩ := hI.world.2 (hq ⟨1, .data⟩ (by simp) rfl); have h1 := hI.world.1; rw [hL, if_neg (by decide)] at h1; obtain ⟨v, W', hr, h2⟩ := h1.copy (cap := _) (cc := cp) hgW.out ((SH.out w' _ h1.bx).ac) hp (FIT6.out) (fun i hi => lw_ack (x := ⟨o, s, h, r, k⟩) hi); exact Lt.wp_value (ex_copy rfl e1 (hI.pure 3 _ _ rfl (hq ⟨3, .data⟩ (by simp) rfl)) hr) (hk _ _ (CD6 L _ W' v h2 ⟨p, cp, e1, hp⟩)))
            case A6fi =>
              intro L a' W hI hall
              have HN := hI.world.1
              rw [hall 4 (by decide), if_pos rfl] at HN
              have hfr := LtH.frame hI [36, 37, 38, 39, 40] rfl rfl (fun x hx => by simp at hx ⊢; omega)
              have e36 := hI.pure 0 _ _ rfl (hall 0 (by decide))
              have e38 := hI.pure 2 _ _ rfl (hall 2 (by decide))
              have e39 := hI.pure 3 _ _ rfl (hall 3 (by decide))
              rw [hfr]
              simp only [LtH.lay, List.foldl, e36, e38, e39]
              clear hfr hI hall e36 e38 e39 CU6 CC6 CD6
              simp only [Act.put, List.setIfInBounds_toArray, List.set_cons_succ, List.set_cons_zero]
              generalize a'.eval (.tmp 37) = v37
              generalize a'.eval (.tmp 40) = v40
              have L6 := HN
              clear HN
              have Z4 := hide ((CM.out W L6.bx).2.cell (i := 4) (by decide))
              have L6' := hide L6
              have z4 := Z4.out
              simp only [lrow] at z4
              clear L6
              go_upto_region 8 with (fail)
              obtain ⟨b, off, _, _, hra, _⟩ := (SH.out W _ L6'.out.bx).rt 0 (by have := HR.out; have := H.h1; simp only at this; omega)
              simp only [hra]
              have HRA := hide hra
              clear hra
              go_loopw [44] (fun i wr => ∃ q : Nat, q ≤ c.nr ∧ i = .int .i64 (q : Int) ∧ Hid (LI W1 g z ⟨o, s, h, r, k⟩ c (bR ⟨o, s, h, r, k⟩ + q * r) wr)) (fun i _ => c.nr - (intOf i).toNat)
              case atStart => exact ⟨0, Nat.zero_le _, rfl, by rw [Nat.zero_mul, Nat.add_zero]; exact L6'.out⟩
              case round =>
                obtain ⟨q, hq, rfl, HI⟩ := hrel
                clear z4 Z4 L6'
                by_cases hqn : q < c.nr
                · have hqn' : (q : Int) < (c.nr : Int) := by omega
                  have hqh : q < h := by have := HR.out; omega
                  have hq9 : q < 9223372036854775807 := by have := HL.out.nr; omega
                  obtain ⟨b', off', ai, ci, hra, hb, hcell, hsees⟩ := (SH.out wr _ HI.out.bx).rt q hqn
                  have hbb : b' = b ∧ off' = off := by have h1 := hra.symm.trans HRA.out; injection h1 with h1; injection h1 with h1 h2; exact ⟨h1, h2⟩
                  rw [hbb.1, hbb.2] at hcell
                  rw [hbb.1] at hb
                  have HSE := hide hsees
                  have RM := hide (CM.out wr HI.out.bx).1
                  have y0 := RM.out.cell (i := 0) (by decide)
                  have y1 := RM.out.cell (i := 1) (by decide)
                  have y2 := RM.out.cell (i := 2) (by decide)
                  have y3 := RM.out.cell (i := 3) (by decide)
                  have y4 := RM.out.cell (i := 4) (by decide)
                  have y5 := RM.out.cell (i := 5) (by decide)
                  have y6 := RM.out.cell (i := 6) (by decide)
                  simp only [lrow] at y0 y1 y2 y3 y4 y5 y6
                  clear hsees hra hbb
                  go_wp2_with (go_at_call 50; refine (roots_ok (s5 := s5) (b := g) (off := 0) (cap := cap) H hz hcp hqh _).mono ?_; rintro e w2 ⟨⟨p, cp, rfl, hcp2, hp⟩, hb2⟩; obtain ⟨v, w3, hrun, hLI⟩ := (HI.out.below hgW.out hb2).copy (cap := ci) (cc := cp) hgW.out (sees_on HSE.out hb2) (fun e => by simpa using hp e) (FITR.out q hqh) (fun i hi => lw_root (x := ⟨o, s, h, r, k⟩) hqh hi); have HX := hide hLI; clear hLI hp hb2)
                  go_roundw
                  case rel => exact ⟨q + 1, by omega, by go_num, by rw [Nat.succ_mul, ← Nat.add_assoc]; exact HX.out⟩
                  case measure => simp [intOf]; omega
                · have hqn' : ¬ (q : Int) < (c.nr : Int) := by omega
                  have hqh : q = h := by have := HR.out; omega
                  have L7 : LI W1 g z ⟨o, s, h, r, k⟩ c (bK ⟨o, s, h, r, k⟩) wr := by have h1 := HI.out; rw [hqh, show bR ⟨o, s, h, r, k⟩ + h * r = bK ⟨o, s, h, r, k⟩ from LO.out.2.1.symm] at h1; exact h1
                  clear HI hqh
                  go_upto_region 12 with (fail)
                  have CU12 : ∀ i, ¬ i = 1 → ¬ i = 4 → ∀ (L : Nat → Bool) (s' : Nat → Value) (w' : World), LC W1 g z ⟨o, s, h, r, k⟩ c (bK ⟨o, s, h, r, k⟩) (k) 56 (L 1) (L 4) s' w' → LC W1 g z ⟨o, s, h, r, k⟩ c (bK ⟨o, s, h, r, k⟩) (k) 56 (Lt.up L i 1) (Lt.up L i 4) s' w' := fun i h1 h4 L s' w' h => by rw [Lt.up_other L (fun e => h1 e.symm), Lt.up_other L (fun e => h4 e.symm)]; exact h
                  have CC12 : ∀ (L : Nat → Bool) (s' : Nat → Value) (w' : World), LC W1 g z ⟨o, s, h, r, k⟩ c (bK ⟨o, s, h, r, k⟩) (k) 56 (L 1) (L 4) s' w' → ∀ (w2 : World) (p : Addr) (cp : Nat), Below w'.heap.size w' w2 → (0 < k → p = ⟨g, bK ⟨o, s, h, r, k⟩, none⟩) → LC W1 g z ⟨o, s, h, r, k⟩ c (bK ⟨o, s, h, r, k⟩) (k) 56 (Lt.up L 1 1) (Lt.up L 1 4) (fun q => if q = 56 then .slice (some p) (k) cp else s' q) w2 := fun L s' w' h w2 p cp hb hp => by rw [show Lt.up L 1 4 = L 4 from Lt.up_other L (by decide)]; exact ⟨h.1.below hgW.out hb, fun _ => ⟨p, cp, by simp, hp⟩⟩
                  have CD12 : ∀ (L : Nat → Bool) (s' : Nat → Value) (w' : World) (v : Value), LI W1 g z ⟨o, s, h, r, k⟩ c (bK ⟨o, s, h, r, k⟩ + k) w' → (∃ p cp, s' 56 = .slice (some p) (k) cp ∧ (0 < k → p = ⟨g, bK ⟨o, s, h, r, k⟩, none⟩)) → LC W1 g z ⟨o, s, h, r, k⟩ c (bK ⟨o, s, h, r, k⟩) (k) 56 (Lt.up L 4 1) (Lt.up L 4 4) (fun q => if q = 59 then v else s' q) w' := fun L s' w' v h ⟨p, cp, e1, hp⟩ => by rw [Lt.up_same]; exact ⟨by rw [if_pos rfl]; exact h, fun _ => ⟨p, cp, by simpa using e1, hp⟩⟩
                  refine LtH.region2 (ks := [(0, 55), (2, 57), (3, 58)]) (vals := fun iv => match iv with | 0 => .agg #[.int .i64 (o : Int), .int .i64 (s : Int), .int .i64 (h : Int), .int .i64 (r : Int), .int .i64 (k : Int), .int .i64 s5, .slice (some ⟨g, 0, none⟩) z cap] | 2 => .pointer (some ⟨vb, 5, none⟩) | 3 => .slice a.wa c.nw a.cw | _ => undef) (xs := [56, 59]) (WI := (fun L s' w' => LC W1 g z ⟨o, s, h, r, k⟩ c (bK ⟨o, s, h, r, k⟩) (k) 56 (L 1) (L 4) s' w')) (by kernel_rfl) ?A12gd ?A12bk rfl ?A12dd ?A12xx ?A12lc ?A12st ?A12do ?A12fi
                  case A12gd =>
                    intro iq oq ho
                    have hiq : iq < 5 := by have := (Array.getElem?_eq_some_iff.1 ho).1; simpa using this
                    match iq, hiq with
                    | 0, _ | 1, _ | 2, _ | 3, _ | 4, _ => injection ho with ho; subst ho; rfl
                  case A12bk =>
                    intro iq oq ho
                    have hiq : iq < 5 := by have := (Array.getElem?_eq_some_iff.1 ho).1; simpa using this
                    match iq, hiq with
                    | 0, _ | 1, _ | 2, _ | 3, _ | 4, _ => injection ho with ho; subst ho; simp [Region.binds]
                  case A12dd =>
                    intro kq hk
                    have hk2 : kq < 77 := by
                      simp [Lt.D] at hk
                      omega
                    exact hk2
                  case A12xx =>
                    intro kq hk
                    have hk2 : kq < 77 := by
                      simp at hk
                      omega
                    exact hk2
                  case A12lc => rintro L s1 s2 w1 hx ⟨h1, h2⟩; exact ⟨h1, fun e => by obtain ⟨p, cp, e1, hp⟩ := h2 e; exact ⟨p, cp, (hx 56 rfl).symm.trans e1, hp⟩⟩
                  case A12st => exact ⟨L7.drew, fun e => by cases e⟩
                  case A12do =>
                    intro iq oq ho
                    have hiq : iq < 5 := by have := (Array.getElem?_eq_some_iff.1 ho).1; simpa using this
                    match iq, hiq with
                    | 0, _ => injection ho with ho; subst ho; exact LtH.Does.read rfl (CU12 0 (by decide) (by decide)) (fun L a w' hI hq => Lt.ex_load_row rfl (hI.fix 2 (Lt.notD rfl) rfl) (rngL (CM.out w' hI.world.1.bx).1 rfl) (by kernel_rfl) (by kernel_rfl))
                    | 1, _ => injection ho with ho; subst ho; exact LtH.Does.call (x := 56) rfl rfl rfl (fun L a w' hI hq => Lt.call1 rfl (hI.pure 0 _ _ rfl (hq ⟨0, .data⟩ (by simp) rfl)) rfl (by simp [go_sem])) (fun L s' w' hS hL => (weaks_ok (s5 := s5) (b := g) (off := 0) (cap := cap) H hz hcp w').mono (by rintro e w2 ⟨⟨p, cp, rfl, hcp, hp⟩, hb⟩; exact ⟨_, rfl, CC12 L s' w' hS w2 p cp hb (fun e => by simpa using hp e)⟩))
                    | 2, _ => injection ho with ho; subst ho; exact LtH.Does.read rfl (CU12 2 (by decide) (by decide)) (fun L a w' hI hq => Lt.ex_field rfl (hI.fix 3 (Lt.notD rfl) rfl) (by simp [go_sem]))
                    | 3, _ => injection ho with ho; subst ho; exact LtH.Does.read rfl (CU12 3 (by decide) (by decide)) (fun L a w' hI hq => Lt.ex_load rfl (hI.pure 2 _ _ rfl (hq ⟨2, .data⟩ (by simp) rfl)) (by simp [go_sem]) (by have hc := (CM.out w' hI.world.1.bx).2.cell (i := 5) (by decide); simp only [lrow] at hc; exact hc))
                    | 4, _ => injection ho with ho; subst ho; exact LtH.Does.own 59 rfl rfl rfl (fun L a w' K hI hL hq hk => by obtain ⟨p, cp, e1, hp⟩ := hI.world.2 (hq ⟨1, .data⟩ (by simp) rfl); have h1 := hI.world.1; rw [hL, if_neg (by decide)] at h1; obtain ⟨v, W', hr, h2⟩ := h1.copy (cap := _) (cc := cp) hgW.out ((SH.out w' _ h1.bx).wk) hp (FITW.out) (fun i hi => lw_weak (x := ⟨o, s, h, r, k⟩) hi); exact Lt.wp_value (ex_copy rfl e1 (hI.pure 3 _ _ rfl (hq ⟨3, .data⟩ (by simp) rfl)) hr) (hk _ _ (CD12 L _ W' v h2 ⟨p, cp, e1, hp⟩)))
                  case A12fi =>
                    intro L a' W hI hall
                    have HN := hI.world.1
                    rw [hall 4 (by decide), if_pos rfl] at HN
                    have hfr := LtH.frame hI [55, 56, 57, 58, 59] rfl rfl (fun x hx => by simp at hx ⊢; omega)
                    have e55 := hI.pure 0 _ _ rfl (hall 0 (by decide))
                    have e57 := hI.pure 2 _ _ rfl (hall 2 (by decide))
                    have e58 := hI.pure 3 _ _ rfl (hall 3 (by decide))
                    rw [hfr]
                    simp only [LtH.lay, List.foldl, e55, e57, e58]
                    clear hfr hI hall e55 e57 e58 CU12 CC12 CD12
                    simp only [Act.put, List.setIfInBounds_toArray, List.set_cons_succ, List.set_cons_zero]
                    generalize a'.eval (.tmp 56) = v56
                    generalize a'.eval (.tmp 59) = v59
                    have L8 := HN
                    clear HN
                    have L8' := hide L8
                    have z6 := (CM.out W L8.bx).2.cell (i := 6) (by decide)
                    simp only [lrow] at z6
                    obtain ⟨b', off', _, _, hoa, _⟩ := (SH.out W _ L8'.out.bx).ob 0 (by have := HO.out; have := O1.out; omega)
                    clear L8
                    go_upto_region 14 with (fail)
                    try simp only [hoa]
                    have HOA := hide hoa
                    clear hoa
                    go_loopw [63] (fun i wr => ∃ q : Nat, q ≤ c.no ∧ i = .int .i64 (q : Int) ∧ Hid (LI W1 g z ⟨o, s, h, r, k⟩ c (bO ⟨o, s, h, r, k⟩ + q * ow ⟨o, s, h, r, k⟩) wr)) (fun i _ => c.no - (intOf i).toNat)
                    case atStart => exact ⟨0, Nat.zero_le _, rfl, by rw [Nat.zero_mul, Nat.add_zero]; rw [show bO ⟨o, s, h, r, k⟩ = bK ⟨o, s, h, r, k⟩ + k from LO.out.2.2.1]; exact L8'.out⟩
                    case round =>
                      obtain ⟨q, hq, rfl, HI⟩ := hrel
                      clear z6 L8'
                      by_cases hqn : q < c.no
                      · have hqn' : (q : Int) < (c.no : Int) := by omega
                        have hqo : q < o := by have := HO.out; omega
                        have hq9 : q < 9223372036854775807 := by have := HL.out.no; omega
                        obtain ⟨b2, off2, ai, ci, hoa, hb, hcell, hsees⟩ := HSV.out.ob q hqn
                        have VBr := VBX.out wr _ HI.out.bx
                        have hcell := fun j hj => (VBr.cell (p := ⟨b2, off2 + q * 9 + j, none⟩) hb).trans (hcell j hj)
                        have hb : b2 < wr.heap.size := Nat.lt_of_lt_of_le hb VBr.size
                        clear VBr
                        have hbb : b2 = b' ∧ off2 = off' := by have h1 := hoa.symm.trans HOA.out; injection h1 with h1; injection h1 with h1 h2; exact ⟨h1, h2⟩
                        rw [hbb.1, hbb.2] at hcell
                        rw [hbb.1] at hb
                        have HSE := hide hsees
                        have x0 := hcell 0 (by decide)
                        have x1 := hcell 1 (by decide)
                        have x2 := hcell 2 (by decide)
                        have x3 := hcell 3 (by decide)
                        have x4 := hcell 4 (by decide)
                        have x5 := hcell 5 (by decide)
                        have x6 := hcell 6 (by decide)
                        have x7 := hcell 7 (by decide)
                        have x8 := hcell 8 (by decide)
                        rw [Nat.add_zero] at x0
                        simp only [Ob.cell] at x0 x1 x2 x3 x4 x5 x6 x7 x8
                        clear hcell hsees hoa hbb
                        go_upto_region 16 with (fail)
                        obtain ⟨Xn, hXn⟩ : ∃ W, wr.alloc (.cells #[.bool (c.ob q).us, .bool (c.ob q).li, .bool (c.ob q).fi, .bool (c.ob q).ta, .int .i64 (c.ob q).ag, .int .u64 (c.ob q).ge, .int .u64 (c.ob q).lk, .int .u64 (c.ob q).nx, .slice ai (c.ob q).ns ci] 46) = W := ⟨_, rfl⟩
                        have RO := hide (show Xn.rowIs wr.heap.size 46 9 (lrow [.bool (c.ob q).us, .bool (c.ob q).li, .bool (c.ob q).fi, .bool (c.ob q).ta, .int .i64 (c.ob q).ag, .int .u64 (c.ob q).ge, .int .u64 (c.ob q).lk, .int .u64 (c.ob q).nx, .slice ai (c.ob q).ns ci]) by rw [← hXn]; exact rowL_alloc wr [.bool (c.ob q).us, .bool (c.ob q).li, .bool (c.ob q).fi, .bool (c.ob q).ta, .int .i64 (c.ob q).ag, .int .u64 (c.ob q).ge, .int .u64 (c.ob q).lk, .int .u64 (c.ob q).nx, .slice ai (c.ob q).ns ci] _ rfl)
                        have HBn := hide (show Below wr.heap.size wr Xn by rw [← hXn]; exact (Below.refl _ wr).alloc (Nat.le_refl _) _)
                        have szn : Xn.heap.size = wr.heap.size + 1 := by rw [← hXn]; simp
                        simp only [hXn]
                        clear hXn x0 x1 x2 x3 x4 x5 x6 x7 x8
                        have szr := HI.out.bx.low.size
                        have hgr : g < wr.heap.size := HI.out.wr.lt
                        have L1n := hide (HI.out.below hgW.out HBn.out)
                        have W1n := hide (fun (wx : World) (hx : Bx Xn.heap.size g Xn wx) => show Bx W1.heap.size g W1 wx from L1n.out.bx.trans (hx.less (by omega)))
                        have Ln : LI Xn g z ⟨o, s, h, r, k⟩ c (pO ⟨o, s, h, r, k⟩ q) Xn := ⟨L1n.out.wr, Bx.refl _ _ _⟩
                        have hgn := hide (show g ≤ Xn.heap.size by omega)
                        have hwn : ¬ wr.heap.size = g := by omega
                        have SEN := hide (fun (wx : World) (hx : Bx Xn.heap.size g Xn wx) => show Sees wx g ai (c.ob q).ns (c.ob q).sl from (HSE.out.below (VBX.out wx _ (W1n.out wx hx)) (Nat.le_refl _)).mono hV)
                        have ROn := hide (fun (wx : World) (hx : Bx Xn.heap.size g Xn wx) => show wx.rowIs wr.heap.size 46 9 (lrow [.bool (c.ob q).us, .bool (c.ob q).li, .bool (c.ob q).fi, .bool (c.ob q).ta, .int .i64 (c.ob q).ag, .int .u64 (c.ob q).ge, .int .u64 (c.ob q).lk, .int .u64 (c.ob q).nx, .slice ai (c.ob q).ns ci]) from RO.out.of_block (hx.blk _ (by omega) hwn))
                        have hge := hide (HB.out.ob q hqn).1
                        have hfo := hide (show pO ⟨o, s, h, r, k⟩ q + (3 + s) ≤ z from by
                          have h1 : (q + 1) * ow ⟨o, s, h, r, k⟩ ≤ o * ow ⟨o, s, h, r, k⟩ := Nat.mul_le_mul_right _ hqo
                          rw [Nat.succ_mul] at h1
                          have h2 := LO.out
                          have h3 : ow ⟨o, s, h, r, k⟩ = 3 + s := rfl
                          have h4 : pO ⟨o, s, h, r, k⟩ q = bO ⟨o, s, h, r, k⟩ + q * ow ⟨o, s, h, r, k⟩ := rfl
                          rw [h4]
                          obtain ⟨-, -, -, h5, -⟩ := h2
                          (try simp only at h5)
                          omega)
                        have hc3 : 3 + s ≤ cap := by have := hfo.out; omega
                        have hwq : IntKind.i64.wrap ((q : Int) + 1) = (q : Int) + 1 := by rw [IntKind.wrap_i64]; omega
                        clear L1n
                        have CU16 : ∀ i, ¬ i = 3 → ¬ i = 7 → ∀ (L : Nat → Bool) (s' : Nat → Value) (w' : World), LO16 Xn g z ⟨o, s, h, r, k⟩ c (pO ⟨o, s, h, r, k⟩ q) (3 + s) 71 (L 3) (L 7) s' w' → LO16 Xn g z ⟨o, s, h, r, k⟩ c (pO ⟨o, s, h, r, k⟩ q) (3 + s) 71 (Lt.up L i 3) (Lt.up L i 7) s' w' := fun i h1 h4 L s' w' h => by rw [Lt.up_other L (fun e => h1 e.symm), Lt.up_other L (fun e => h4 e.symm)]; exact h
                        have CC16 : ∀ (L : Nat → Bool) (s' : Nat → Value) (w' : World), LO16 Xn g z ⟨o, s, h, r, k⟩ c (pO ⟨o, s, h, r, k⟩ q) (3 + s) 71 (L 3) (L 7) s' w' → ∀ (w2 : World) (p : Addr) (cp : Nat), Below w'.heap.size w' w2 → (0 < 3 + s → p = ⟨g, pO ⟨o, s, h, r, k⟩ q, none⟩) → 3 + s ≤ cp → LO16 Xn g z ⟨o, s, h, r, k⟩ c (pO ⟨o, s, h, r, k⟩ q) (3 + s) 71 (Lt.up L 3 3) (Lt.up L 3 7) (fun q => if q = 71 then .slice (some p) (3 + s) cp else s' q) w2 := fun L s' w' h w2 p cp hb hp hcp => by rw [show Lt.up L 3 7 = L 7 from Lt.up_other L (by decide)]; exact ⟨h.1.below hgn.out hb, fun _ => ⟨p, cp, by simp, hcp, hp⟩⟩
                        have CD16 : ∀ (L : Nat → Bool) (s' : Nat → Value) (w' : World) (v : Value), LI Xn g z ⟨o, s, h, r, k⟩ c (pO ⟨o, s, h, r, k⟩ q + (3 + s)) w' → (∃ p cp, s' 71 = .slice (some p) (3 + s) cp ∧ 3 + s ≤ cp ∧ (0 < 3 + s → p = ⟨g, pO ⟨o, s, h, r, k⟩ q, none⟩)) → LO16 Xn g z ⟨o, s, h, r, k⟩ c (pO ⟨o, s, h, r, k⟩ q) (3 + s) 71 (Lt.up L 7 3) (Lt.up L 7 7) (fun q => if q = 75 then v else s' q) w' := fun L s' w' v h ⟨p, cp, e1, hcp, hp⟩ => by rw [Lt.up_same]; exact ⟨by rw [if_pos rfl]; exact h, fun _ => ⟨p, cp, by simpa using e1, hcp, hp⟩⟩
                        refine LtH.region2 (ks := [(0, 68), (1, 69), (2, 70), (4, 72), (5, 73), (6, 74)]) (vals := fun iv => match iv with | 0 => .agg #[.int .i64 (o : Int), .int .i64 (s : Int), .int .i64 (h : Int), .int .i64 (r : Int), .int .i64 (k : Int), .int .i64 s5, .slice (some ⟨g, 0, none⟩) z cap] | 1 => .int .i64 (q : Int) | 2 => .int .i64 ((q : Int) + 1) | 4 => .agg #[.bool (c.ob q).us, .bool (c.ob q).li, .bool (c.ob q).fi, .bool (c.ob q).ta, .int .i64 (c.ob q).ag, .int .u64 (c.ob q).ge, .int .u64 (c.ob q).lk, .int .u64 (c.ob q).nx, .slice ai (c.ob q).ns ci] | 5 => .pointer (some ⟨vb, 1, none⟩) | 6 => .int .i64 c.co | _ => undef) (xs := [71, 75]) (WI := (fun L s' w' => LO16 Xn g z ⟨o, s, h, r, k⟩ c (pO ⟨o, s, h, r, k⟩ q) (3 + s) 71 (L 3) (L 7) s' w')) (by kernel_rfl) ?A16gd ?A16bk rfl ?A16dd ?A16xx ?A16lc ?A16st ?A16do ?A16fi
                        case A16gd =>
                          intro iq oq ho
                          have hiq : iq < 8 := by have := (Array.getElem?_eq_some_iff.1 ho).1; simpa using this
                          match iq, hiq with
                          | 0, _ | 1, _ | 2, _ | 3, _ | 4, _ | 5, _ | 6, _ | 7, _ => injection ho with ho; subst ho; rfl
                        case A16bk =>
                          intro iq oq ho
                          have hiq : iq < 8 := by have := (Array.getElem?_eq_some_iff.1 ho).1; simpa using this
                          match iq, hiq with
                          | 0, _ | 1, _ | 2, _ | 3, _ | 4, _ | 5, _ | 6, _ | 7, _ => injection ho with ho; subst ho; simp [Region.binds]
                        case A16dd =>
                          intro kq hk
                          have hk2 : kq < 77 := by
                            simp [Lt.D] at hk
                            omega
                          exact hk2
                        case A16xx =>
                          intro kq hk
                          have hk2 : kq < 77 := by
                            simp at hk
                            omega
                          exact hk2
                        case A16lc => rintro L s1 s2 w1 hx ⟨h1, h2⟩; exact ⟨h1, fun e => by obtain ⟨p, cp, e1, hp⟩ := h2 e; exact ⟨p, cp, (hx 71 rfl).symm.trans e1, hp⟩⟩
                        case A16st => exact ⟨Ln.drew, fun e => by cases e⟩
                        case A16do =>
                          intro iq oq ho
                          have hiq : iq < 8 := by have := (Array.getElem?_eq_some_iff.1 ho).1; simpa using this
                          match iq, hiq with
                          | 0, _ => injection ho with ho; subst ho; exact LtH.Does.read rfl (CU16 0 (by decide) (by decide)) (fun L a w' hI hq => Lt.ex_load_row rfl (hI.fix 2 (Lt.notD rfl) rfl) (rngL (CM.out w' (W1n.out w' hI.world.1.bx)).1 rfl) (by kernel_rfl) (by kernel_rfl))
                          | 1, _ => injection ho with ho; subst ho; exact LtH.Does.read rfl (CU16 1 (by decide) (by decide)) (fun L a w' hI hq => Lt.ex_move rfl (hI.fix 6 (Lt.notD rfl) rfl))
                          | 2, _ => injection ho with ho; subst ho; exact LtH.Does.read rfl (CU16 2 (by decide) (by decide)) (fun L a w' hI hq => Lt.ex_addI rfl (hI.pure 1 _ _ rfl (hq ⟨1, .data⟩ (by simp) rfl)) rfl hwq)
                          | 3, _ => injection ho with ho; subst ho; exact LtH.Does.call (x := 71) rfl rfl rfl (fun L a w' hI hq => Lt.call2 rfl (hI.pure 0 _ _ rfl (hq ⟨0, .data⟩ (by simp) rfl)) (hI.pure 2 _ _ rfl (hq ⟨2, .data⟩ (by simp) rfl)) rfl (by simp [go_sem])) (fun L s' w' hS hL => (object_ok (s5 := s5) (b := g) (off := 0) (cap := cap) H hz hcp hqo w').mono (by rintro e w2 ⟨⟨p, cp, rfl, hcp, hp⟩, hb⟩; exact ⟨_, rfl, CC16 L s' w' hS w2 p cp hb (fun e => by simpa using hp e) hcp⟩))
                          | 4, _ => injection ho with ho; subst ho; exact LtH.Does.read rfl (CU16 4 (by decide) (by decide)) (fun L a w' hI hq => Lt.ex_load_row rfl (hI.fix 7 (Lt.notD rfl) rfl) (rngL (ROn.out w' hI.world.1.bx) rfl) (by kernel_rfl) (by kernel_rfl))
                          | 5, _ => injection ho with ho; subst ho; exact LtH.Does.read rfl (CU16 5 (by decide) (by decide)) (fun L a w' hI hq => Lt.ex_field rfl (hI.fix 3 (Lt.notD rfl) rfl) (by simp [go_sem]))
                          | 6, _ => injection ho with ho; subst ho; exact LtH.Does.read rfl (CU16 6 (by decide) (by decide)) (fun L a w' hI hq => Lt.ex_load rfl (hI.pure 5 _ _ rfl (hq ⟨5, .data⟩ (by simp) rfl)) (by simp [go_sem]) (by have hc := (CM.out w' (W1n.out w' hI.world.1.bx)).2.cell (i := 1) (by decide); simp only [lrow] at hc; exact hc))
                          | 7, _ => injection ho with ho; subst ho; exact LtH.Does.own 75 rfl rfl rfl (fun L a w' K hI hL hq hk => by obtain ⟨p, cp, e1, hcp9, hp⟩ := hI.world.2 (hq ⟨3, .data⟩ (by simp) rfl); have h1 := hI.world.1; rw [hL, if_neg (by decide)] at h1; have hp := hp (by omega); subst hp; refine Lt.wp_call (Lt.call3 rfl e1 (hI.pure 4 _ _ rfl (hq ⟨4, .data⟩ (by simp) rfl)) (hI.pure 6 _ _ rfl (hq ⟨6, .data⟩ (by simp) rfl)) rfl (by simp [go_sem])) ((layObject_ok h1.wr hfo.out hz6 hcp9 (SEN.out w' h1.bx) hge.out).mono ?_); rintro e w2 ⟨⟨v, rfl⟩, h2, h3, h4⟩; exact ⟨v, rfl, hk _ _ (CD16 L _ w2 v (h1.obj h1.bx.low.size h2.out h3 h4) ⟨_, cp, e1, hcp9, fun _ => rfl⟩)⟩)
                        case A16fi =>
                          intro L a' W hI hall
                          have HN := hI.world.1
                          rw [hall 7 (by decide), if_pos rfl] at HN
                          have hfr := LtH.frame hI [68, 69, 70, 71, 72, 73, 74, 75] rfl rfl (fun x hx => by simp at hx ⊢; omega)
                          have e68 := hI.pure 0 _ _ rfl (hall 0 (by decide))
                          have e69 := hI.pure 1 _ _ rfl (hall 1 (by decide))
                          have e70 := hI.pure 2 _ _ rfl (hall 2 (by decide))
                          have e72 := hI.pure 4 _ _ rfl (hall 4 (by decide))
                          have e73 := hI.pure 5 _ _ rfl (hall 5 (by decide))
                          have e74 := hI.pure 6 _ _ rfl (hall 6 (by decide))
                          rw [hfr]
                          simp only [LtH.lay, List.foldl, e68, e69, e70, e72, e73, e74]
                          clear hfr hI hall e68 e69 e70 e72 e73 e74 CU16 CC16 CD16
                          simp only [Act.put, List.setIfInBounds_toArray, List.set_cons_succ, List.set_cons_zero]
                          generalize a'.eval (.tmp 71) = v71
                          generalize a'.eval (.tmp 75) = v75
                          have HE := hide (show LI W1 g z ⟨o, s, h, r, k⟩ c (bO ⟨o, s, h, r, k⟩ + (q + 1) * ow ⟨o, s, h, r, k⟩) W by rw [Nat.succ_mul, ← Nat.add_assoc]; exact ⟨HN.wr, W1n.out W HN.bx⟩)
                          clear HN Ln W1n SEN ROn hge hfo hwq HI HSE RO HBn
                          go_wp2_with (fail)
                          go_roundw
                          case rel => exact ⟨q + 1, by omega, by go_num, HE.out⟩
                          case measure => simp [intOf]; omega
                      · have hqn' : ¬ (q : Int) < (c.no : Int) := by omega
                        have hqo : q = o := by have := HO.out; omega
                        have L9 : LI W1 g z ⟨o, s, h, r, k⟩ c z wr := by have h1 := HI.out; rw [hqo, show bO ⟨o, s, h, r, k⟩ + o * ow ⟨o, s, h, r, k⟩ = z from LO.out.2.2.2.1.symm.trans hz] at h1; exact h1
                        clear HI hqo
                        go_wp2_with (fail)
                        exact bodyPost_end (results_none (by rfl) _ _ _) rfl ⟨⟨_, rfl⟩, L9.wr.ext (fun i hi => by unfold lwP; rw [if_pos hi]), BXE.out wr L9.bx⟩
end Vw
end Go.Proofs.YtecjegjnnahddaaGreat
