/-
  Hue: Clone, sheltered
-/
import Derived.Test.YtnodkeoikamonabHuC
import Derived.Lib.SliceRun
namespace Go.Proofs.Ytnodkeoikamonab
open Go.RowKit
set_option linter.unusedVariables false
set_option linter.unusedSimpArgs false
set_option linter.unnecessarySimpa false
set_option maxRecDepth 20000
namespace Hu
open Gr
/-- Objects copied into a row of one's own; who is in use is told by U. -/
def Cx (Wb w : World) (la : Option Addr) (os : List Ob) (U : Nat → Bool) : Prop :=
  ∀ i o, os[i]? = some o → ∃ (g : Nat) (f : Nat → Value) (m : Nat) (ai : Option Addr) (ci : Nat), la = some ⟨g, 0, none⟩ ∧ Wb.heap.size ≤ g ∧ w.rowIs g 44 m f ∧ i * 9 + 9 ≤ m ∧ (∀ q, q < 9 → f (i * 9 + q) = Ob.cell { o with us := U i } (.slice ai o.sl.length ci) q) ∧ SeesU Wb ai o.sl ∧ (ai = none → ci = 0)
theorem Cx.below {Wb w w' : World} {la : Option Addr} {os : List Ob} {U : Nat → Bool} (h : Cx Wb w la os U) (hb : Below w.heap.size w w') : Cx Wb w' la os U := fun i o ho => by
  obtain ⟨g, f, m, ai, ci, h1, h2, h3, h4⟩ := h i o ho
  exact ⟨g, f, m, ai, ci, h1, h2, row_on h3 hb, h4⟩
theorem Cx.congr {Wb w : World} {la : Option Addr} {os : List Ob} {U V : Nat → Bool} (h : Cx Wb w la os U) (e : ∀ i, i < os.length → U i = V i) : Cx Wb w la os V := fun i o ho => by
  obtain ⟨g, f, m, ai, ci, h1, h2, h3, h4, h5, h6⟩ := h i o ho
  exact ⟨g, f, m, ai, ci, h1, h2, h3, h4, fun q hq => by rw [h5 q hq, e i (List.getElem?_eq_some_iff.1 ho).1], h6⟩
theorem cell_us (o : Ob) (b1 b2 : Bool) (sv : Value) {q : Nat} (h : q ≠ 0) : Ob.cell { o with us := b1 } sv q = Ob.cell { o with us := b2 } sv q := by
  match q, h with
  | 1, _ => rfl
  | 2, _ => rfl
  | 3, _ => rfl
  | 4, _ => rfl
  | 5, _ => rfl
  | 6, _ => rfl
  | 7, _ => rfl
  | q + 8, _ => rfl
/-- Who is in use is turned at k. -/
theorem Cx.set {Wb w : World} {g : Nat} {os : List Ob} {U : Nat → Bool} (h : Cx Wb w (some ⟨g, 0, none⟩) os U) (k : Nat) (b : Bool) : Cx Wb (w.setCell ⟨g, k * 9, none⟩ (.bool b)) (some ⟨g, 0, none⟩) os (fun i => if i = k then b else U i) := fun i o ho => by
  obtain ⟨g', f, m, ai, ci, h1, h2, h3, h4, h5, h6⟩ := h i o ho
  cases h1
  refine ⟨g, _, m, ai, ci, rfl, h2, h3.set (k * 9) _, h4, fun q hq => ?_, h6⟩
  by_cases e : i = k
  · subst e
    by_cases e2 : q = 0
    · subst e2; simp [Ob.cell]
    · have : ¬ i * 9 + q = i * 9 := by omega
      simp only [this, if_false]
      rw [h5 q hq]
      exact cell_us o _ _ _ e2
  · have : ¬ i * 9 + q = k * 9 := by omega
    simp only [this, if_false]
    rw [h5 q hq, if_neg e]
/-- Such a row as objects that are seen. -/
theorem Cx.sob {Wb w : World} {la : Option Addr} {os : List Ob} {ws : List Int} (h : Cx Wb w la os (fun i => decide (col os ws i = 1))) (hb : Below Wb.heap.size Wb w) : Sob w la (lw os ws) := fun i o' ho' => by
  have hi : i < os.length := by have := (List.getElem?_eq_some_iff.1 ho').1; rw [lw_len] at this; exact this
  obtain ⟨o, ho⟩ : ∃ o, os[i]? = some o := ⟨os[i], by simp [hi]⟩
  rw [lw_get ho] at ho'
  cases ho'
  obtain ⟨g, f, m, ai, ci, h1, h2, h3, h4, h5, h6, _⟩ := h i o ho
  refine ⟨g, 0, ai, ci, h1, h3.lt, fun q hq => ?_, h6.below hb⟩
  have := h3.cell (i := i * 9 + q) (by omega)
  rw [h5 q hq] at this
  rw [Nat.zero_add]
  exact this
def usd (os : List Ob) (i : Nat) : Bool := match os[i]? with | some o => o.us | none => false
theorem usd_at {os : List Ob} {i : Nat} {o : Ob} (h : os[i]? = some o) : usd os i = o.us := by simp [usd, h]
theorem Cx.sob' {Wb w : World} {la : Option Addr} {os : List Ob} (h : Cx Wb w la os (usd os)) (hb : Below Wb.heap.size Wb w) : Sob w la os ∧ Ncp w la os := by
  constructor
  · intro i o ho
    obtain ⟨g, f, m, ai, ci, h1, h2, h3, h4, h5, h6, _⟩ := h i o ho
    refine ⟨g, 0, ai, ci, h1, h3.lt, fun q hq => ?_, h6.below hb⟩
    have := h3.cell (i := i * 9 + q) (by omega)
    rw [h5 q hq, usd_at ho] at this
    rw [Nat.zero_add]
    exact this
  · intro i o ho
    obtain ⟨g, f, m, ai, ci, h1, h2, h3, h4, h5, h6, h7⟩ := h i o ho
    refine ⟨g, 0, ai, ci, h1, h3.lt, ?_, h7⟩
    have := h3.cell (i := i * 9 + 8) (by omega)
    rw [h5 8 (by omega)] at this
    rw [Nat.zero_add]
    exact this
/-- The cells of objects that are seen, one behind the other. -/
theorem obj_cells {w : World} {b off : Nat} {os : List Ob} (hS : Sob w (some ⟨b, off, none⟩) os) (hN : Ncp w (some ⟨b, off, none⟩) os) : ∃ xs : List Value, xs.length = os.length * 9 ∧ (∀ j u, xs[j]? = some u → w.cell? ⟨b, off + j, none⟩ = some u) ∧ (∀ u ∈ xs, u.oneCell' = true) ∧ ∀ i o, os[i]? = some o → ∃ ai ci, (∀ q, q < 9 → xs[i * 9 + q]? = some (o.cell (.slice ai o.sl.length ci) q)) ∧ SeesU w ai o.sl ∧ (ai = none → ci = 0) := by
  have key : ∀ i o, os[i]? = some o → ∃ ai ci, (∀ q, q < 9 → w.cell? ⟨b, off + (i * 9 + q), none⟩ = some (o.cell (.slice ai o.sl.length ci) q)) ∧ SeesU w ai o.sl ∧ (ai = none → ci = 0) := by
    intro i o ho
    obtain ⟨b', off', ai, ci, e, hl, hc, hs⟩ := hS i o ho
    cases e
    refine ⟨ai, ci, fun q hq => by rw [← Nat.add_assoc]; exact hc q hq, hs, ?_⟩
    exact hN.nil ho (hc 8 (by decide))
  refine ⟨(List.range (os.length * 9)).map fun j => (w.cell? ⟨b, off + j, none⟩).getD default, by simp, ?_, ?_, ?_⟩
  · intro j u hj
    have hjl : j < os.length * 9 := by have := (List.getElem?_eq_some_iff.1 hj).1; simpa using this
    obtain ⟨o, ho⟩ : ∃ o, os[j / 9]? = some o := ⟨os[j / 9]'(by omega), by simp [show j / 9 < os.length by omega]⟩
    obtain ⟨ai, ci, h1, _⟩ := key _ o ho
    have := h1 (j % 9) (by omega)
    rw [show j / 9 * 9 + j % 9 = j by omega] at this
    simp [hjl, this] at hj
    rw [this, hj]
  · intro u hu
    obtain ⟨j, hj, rfl⟩ := List.mem_map.1 hu
    have hjl := List.mem_range.1 hj
    obtain ⟨o, ho⟩ : ∃ o, os[j / 9]? = some o := ⟨os[j / 9]'(by omega), by simp [show j / 9 < os.length by omega]⟩
    obtain ⟨ai, ci, h1, _⟩ := key _ o ho
    have := h1 (j % 9) (by omega)
    rw [show j / 9 * 9 + j % 9 = j by omega] at this
    rw [this]
    simp only [Option.getD]
    obtain ⟨q, hq⟩ : ∃ q, j % 9 = q := ⟨_, rfl⟩
    have hq9 : q < 9 := by omega
    rw [hq]
    match q, hq9 with
    | 0, _ => rfl
    | 1, _ => rfl
    | 2, _ => rfl
    | 3, _ => rfl
    | 4, _ => rfl
    | 5, _ => rfl
    | 6, _ => rfl
    | 7, _ => rfl
    | 8, _ => rfl
  · intro i o ho
    obtain ⟨ai, ci, h1, h2⟩ := key i o ho
    have hi := (List.getElem?_eq_some_iff.1 ho).1
    refine ⟨ai, ci, fun q hq => ?_, h2⟩
    have : i * 9 + q < os.length * 9 := by omega
    simp [this, h1 q hq]
theorem obj_cells' {w : World} {ad : Addr} {os : List Ob} (hS : Sob w (some ad) os) (hN : Ncp w (some ad) os) : ∃ xs : List Value, xs.length = os.length * 9 ∧ (∀ j u, xs[j]? = some u → w.cell? (ad.add j) = some u ∧ (ad.add j).block < w.heap.size) ∧ (∀ u ∈ xs, u.oneCell' = true) ∧ ∀ i o, os[i]? = some o → ∃ ai ci, (∀ q, q < 9 → xs[i * 9 + q]? = some (o.cell (.slice ai o.sl.length ci) q)) ∧ SeesU w ai o.sl ∧ (ai = none → ci = 0) := by
  cases os with
  | nil => exact ⟨[], rfl, fun j u h => by simp at h, fun u h => by simp at h, fun i o h => by simp at h⟩
  | cons o r =>
    obtain ⟨b, off, ai, ci, e, hl, _⟩ := hS 0 o rfl
    cases e
    obtain ⟨xs, h1, h2, h3⟩ := obj_cells hS hN
    refine ⟨xs, h1, fun j u h => ?_, h3⟩
    rw [Go.WideShapes.add_plain]
    exact ⟨h2 j u h, hl⟩
/-- An owned row of such cells. -/
theorem cx_of {Wb w : World} {la : Option Addr} {n cap : Nat} {os : List Ob} {xs : List Value} (h : w.ownsRow Wb.heap.size 44 9 (.slice la n cap) n xs) (hn : n = os.length) (hx : ∀ i o, os[i]? = some o → ∃ ai ci, (∀ q, q < 9 → xs[i * 9 + q]? = some (o.cell (.slice ai o.sl.length ci) q)) ∧ SeesU Wb ai o.sl ∧ (ai = none → ci = 0)) : Cx Wb w la os (usd os) := by
  intro i o ho
  have hi := (List.getElem?_eq_some_iff.1 ho).1
  obtain ⟨ai, ci, h1, h2⟩ := hx i o ho
  obtain ⟨hl, h | ⟨g', cap', cur, hv, hb, hg, hc, hm, hsz, ht⟩⟩ := h
  · have h3 := h1 0 (by omega)
    rw [h.2] at hl
    have := (List.getElem?_eq_some_iff.1 h3).1
    simp at hl
    omega
  · cases hv
    refine ⟨g', fun j => cur[j]?.getD default, cap * 9, ai, ci, rfl, hb, ⟨cur, hg, by omega, fun j hj => ?_⟩, by omega, fun q hq => ?_, h2⟩
    · have : j < cur.size := by omega
      simp [this]
    · have h3 : cur[i * 9 + q]? = (cur.toList.take (n * 9))[i * 9 + q]? := by
        rw [List.getElem?_take, if_pos (by omega)]; simp
      show cur[i * 9 + q]?.getD default = _
      rw [h3, ht, h1 q hq, usd_at ho]
      rfl
/-- What Clone tells: the objects again, in memory of its own. -/
def Ct (w w' : World) (e : Ending) (os : List Ob) : Prop := ∃ la cap, e = .returned (.slice la os.length cap) ∧ Cx w w' la os (usd os) ∧ Below w.heap.size w w'

set_option maxHeartbeats 1000000 in
theorem clone_ok {os : List Ob} {oa : Option Addr} {cb : Nat} {w : World} (hS : Sob w oa os) (hN : Ncp w oa os) (hno : os.length ≤ 2199023255552) (hcb : oa = none → cb = 0) : Calls Try.prog 64 #[.slice oa os.length cb] w fun e w' => Ct w w' e os := by
  cases oa with
  | none =>
    have hn0 : os = [] := by
      cases os with
      | nil => rfl
      | cons o r => obtain ⟨b, off, ai, ci, e, _⟩ := hS 0 o rfl; cases e
    subst hn0
    have hc0 := hcb rfl
    subst hc0
    simp only [List.length_nil]
    clear hS hN hcb hno
    have hq := fun (w1 : World) => Lib.run_eql_slice_nil (P := Try.prog) w1 25 44 none 0 0 0 0 Try.underlying25
    go_enter Try.func64, Try.ntmps64
    go_wp2_with fail
    go_ret
    exact ⟨none, 0, rfl, fun i o ho => by simp at ho, Below.refl _ _⟩
  | some ad =>
    obtain ⟨xs, hxl, hxc, hx1, hxo⟩ := obj_cells' hS hN
    have HXC := hide hxc
    have HX1 := hide hx1
    have HXO := hide hxo
    obtain ⟨n, hn⟩ : ∃ n, os.length = n := ⟨_, rfl⟩
    have Hn := hide hn
    obtain ⟨iO, zO, hiO, hzO, hsO, hyO, hcO⟩ := infoO
    unfold Ct
    rw [hn] at hno hxl ⊢
    clear hS hN hcb hxc hx1 hxo hn
    have hq := fun (w1 : World) => Lib.run_eql_slice_nil (P := Try.prog) w1 25 44 (some ad) n cb 0 0 Try.underlying25
    go_enter Try.func64, Try.ntmps64
    go_wp2_with (at_builtin; refine wpList_append_opt rfl (.tmp 5) (.tmp 6) 25 rfl w.heap.size 44 iO zO 9 64 Try.underlying25 hiO hzO hsO hyO hcO (by decide) (.slice (some ⟨w.heap.size, 0, none⟩) 0 0) 0 [] rfl (by have := World.ownsRow_lit (base := w.heap.size) (e := 44) (size := 9) w #[] 0 (by simp) (by unfold maxLen; omega) rfl; simpa using this) (some ad) n cb xs rfl (fun h => by cases h) hxl (fun ad' had q u hu => by cases had; have h1 := HXC.out q u hu; exact ((Below.refl _ w).alloc (Nat.le_refl _) _ |> fun (B : Below w.heap.size w _) => (B.cell (p := ad.add q) h1.2).trans h1.1)) HX1.out (by unfold maxLen; omega) (by omega) (by simp) ?_; intro v4 w4 hown4 hgrow4 _; rw [Nat.zero_add, List.nil_append] at hown4; obtain ⟨la4, cp4, rfl⟩ := own_slice hown4; have B4 := hide (show Below w.heap.size w w4 from ((Below.refl _ w).alloc (Nat.le_refl _) (.cells #[] 44)).grown hgrow4 (by simp) (by simp [Value.ownBlock])); have O4 := hide hown4; clear hown4 hgrow4)
    go_ret
    exact ⟨la4, cp4, rfl, cx_of O4.out Hn.out.symm HXO.out, B4.out⟩

/-- Who is in use, so many looked at. -/
def uk (os : List Ob) (ws : List Int) (k i : Nat) : Bool := if i < k then decide (col os ws i = 1) else usd os i
theorem lw_bd {os : List Ob} (h : Bd os) (ws : List Int) : Bd (lw os ws) := by
  have key : ∀ o' ∈ lw os ws, ∃ o ∈ os, o'.sl = o.sl ∧ o'.ge = o.ge := by
    intro o' ho'
    obtain ⟨i, hi⟩ := List.mem_iff_getElem?.1 ho'
    have hl : i < os.length := by have := (List.getElem?_eq_some_iff.1 hi).1; rw [lw_len] at this; exact this
    obtain ⟨o, ho⟩ : ∃ o, os[i]? = some o := ⟨os[i], by simp [hl]⟩
    rw [lw_get ho] at hi
    cases hi
    exact ⟨o, List.mem_of_getElem? ho, rfl, rfl⟩
  refine ⟨by rw [lw_len]; exact h.no, ?_, ?_, ?_⟩
  · intro o' ho'; obtain ⟨o, h1, h2, h3⟩ := key o' ho'; rw [h2]; exact h.ns o h1
  · intro o' ho'; obtain ⟨o, h1, h2, h3⟩ := key o' ho'; rw [h2]; exact h.sl o h1
  · intro o' ho'; obtain ⟨o, h1, h2, h3⟩ := key o' ho'; rw [h3]; exact h.ge o h1
theorem so_wd {os : List Ob} (h : Bd os) (ws : List Int) (c : Int) (n : Nat) : Wd (so os ws c n) := by
  intro u hu
  obtain ⟨i, _, _, h3⟩ := so_mem.1 hu
  unfold sls at h3
  split at h3
  · rename_i o ho; exact h.sl o (List.mem_of_getElem? ho) u h3
  · simp at h3

set_option maxHeartbeats 4000000 in
theorem sheltered_ok {os : List Ob} {ws : List Int} {oa : Option Addr} {cb g : Nat} {w : World} (hS : Sob w oa os) (hB : Bd os) (hN : Ncp w oa os) (hnl : nsl os os.length ≤ 17592186044416) (hcb : oa = none → cb = 0) (hn2 : os.length ≤ 2199023255552) (R : w.rowIs g 69 os.length (fun i => .int .i64 (col os ws i))) : Calls Try.prog 47 #[kv oa os.length cb g] w fun e w' => Bt w w' e os.length (shb os ws) := by
  obtain ⟨W0, hW0, B0, R0⟩ := kbox w (.slice oa os.length cb) (.slice (some ⟨g, 0, none⟩) os.length os.length)
  have d0 : W0.cell? ⟨w.heap.size, 0, none⟩ = some (.slice oa os.length cb) := R0.cell (i := 0) (by decide)
  have d1 : W0.cell? ⟨w.heap.size, 1, none⟩ = some (.slice (some ⟨g, 0, none⟩) os.length os.length) := R0.cell (i := 1) (by decide)
  have l0 : w.heap.size < W0.heap.size := R0.lt
  have HB0 := hide B0
  have HR0 := hide R0
  have HG0 := hide (row_on R B0)
  have HS0 := hide (hS.below B0)
  have hno := hB.no
  have CL := hide (clone_ok (cb := cb) HS0.out (hN.below B0) hn2 hcb)
  have DF := hide (fun (wx : World) (hb : Below W0.heap.size W0 wx) => show wx.cell? ⟨w.heap.size, 0, none⟩ = some (.slice oa os.length cb) ∧ wx.cell? ⟨w.heap.size, 1, none⟩ = some (.slice (some ⟨g, 0, none⟩) os.length os.length) from ⟨(row_on R0 hb).cell (i := 0) (by decide), (row_on R0 hb).cell (i := 1) (by decide)⟩)
  have SO := hide (fun (w1 : World) (hb : Below W0.heap.size W0 w1) => slotsOf_ok (cb := cb) (ws := ws) (HS0.out.below hb) hB ((hN.below B0).below hb) hnl (row_on HG0.out hb) 2)
  have RE := hide (fun (w1 : World) (la : Option Addr) (cp : Nat) (ao : Option Addr) (c2 : Nat) (h1 : Sob w1 la (lw os ws)) (h2 : SeesU w1 ao (so os ws 2 os.length)) => reach_ok (c := ⟨[], lw os ws, []⟩) (a := ⟨0, 0, 0, none, 0, 0, none, 0, none, 0, 0, la, cp, none, 0, 0, none, 0, 0, none, 0, 0, 0, 0, 0⟩) (fc := c2) h1 h2 (lw_bd hB ws) (so_wd hB ws 2 _) (by have := so_len os ws 2 os.length; omega))
  simp only [vl, lw_len, List.length_nil] at RE
  have RBS := hide (show ∀ i, rb (lw os ws) (so os ws 2 os.length) i = shb os ws i from fun i => rfl)
  obtain ⟨sl2, hsl2⟩ : ∃ sl2, so os ws 2 os.length = sl2 := ⟨_, rfl⟩
  rw [hsl2] at SO RE RBS
  obtain ⟨n2, hn2e⟩ : ∃ n2, sl2.length = n2 := ⟨_, rfl⟩
  obtain ⟨n, hn⟩ : ∃ n, os.length = n := ⟨_, rfl⟩
  simp only [kv] at SO ⊢
  unfold Ct at CL
  unfold Ut at SO
  rw [hn2e] at SO RE
  rw [hn] at hW0 d0 d1 HG0 hno DF CL SO RE ⊢
  have Hn := hide hn
  obtain ⟨z, hz⟩ : ∃ z, W0.heap.size = z := ⟨_, rfl⟩
  have Hz := hide hz
  have hgz : g < W0.heap.size := HG0.out.lt
  clear B0 R0 hS hB R hn HR0 hz hN hnl hsl2 hn2e
  go_enter Try.func47, Try.ntmps47
  go_upto_region 2 with (go_at_call 64; refine CL.out.mono ?_; rintro e w1 ⟨la, cp, rfl, hcx, hb⟩; have HCX := hide hcx; have HB1 := hide hb; clear hcx hb)
  clear hW0 d0 d1 CL
  obtain ⟨d0, d1⟩ := DF.out w1 HB1.out
  have HC0 := hide (show Cx W0 w1 la os (uk os ws 0) from HCX.out.congr (fun i hi => by simp [uk]))
  go_wp2_with fail
  clear d0 d1 HCX
  go_loopw [12] (fun i wr => ∃ (k : Nat), k ≤ n ∧ i = .int .i64 k ∧ Hid (Cx W0 wr la os (uk os ws k)) ∧ Hid (Below W0.heap.size W0 wr)) (fun i _ => n - (intOf i).toNat)
  case atStart => exact ⟨0, Nat.zero_le _, rfl, HC0.out, HB1.out⟩
  case round =>
    clear HC0 HB1
    obtain ⟨k, hk, rfl, HC, HB⟩ := hrel
    by_cases hlt : k < n
    · have hkn : (k : Int) < (n : Int) := by omega
      have gx := (HB.out.cell (p := ⟨g, k, none⟩) hgz).trans (HG0.out.cell hlt)
      obtain ⟨o, ho⟩ : ∃ o, os[k]? = some o := ⟨os[k]'(by rw [Hn.out]; exact hlt), by simp [Hn.out, hlt]⟩
      obtain ⟨gn, f, m, ai, ci, hla, hgn, hrow, hm, hf, hse, _⟩ := HC.out k o ho
      subst hla
      have cx := hrow.cell (i := k * 9) (by omega)
      have fx := hrow.frozen (k * 9)
      have CS := hide (HC.out.set k (decide (col os ws k = 1)))
      have CT := hide (show Cx W0 (wr.setCell ⟨gn, k * 9, none⟩ (.bool (decide (col os ws k = 1)))) (some ⟨gn, 0, none⟩) os (uk os ws (k + 1)) from CS.out.congr (fun i hi => by
        by_cases e : i = k
        · subst e; simp [uk]
        · have : i < k + 1 ↔ i < k := by omega
          simp [uk, e, this]))
      obtain ⟨cq, hcq⟩ : ∃ cq, col os ws k = cq := ⟨_, rfl⟩
      rw [hcq] at gx CT
      obtain ⟨fv, hfv⟩ : ∃ fv, f (k * 9) = fv := ⟨_, rfl⟩
      rw [hfv] at cx
      have BS := hide (fun (v : Value) => show Below W0.heap.size W0 (wr.setCell ⟨gn, k * 9, none⟩ v) from HB.out.setCell hgn _)
      clear hrow hf hse ho hfv hcq CS hm
      have e9 : (cq == 1) = decide (cq = 1) := rfl
      go_wp2_with fail
      go_roundw
      case rel => exact ⟨k + 1, by omega, by go_num, (by first | exact CT.out | (have := CT.out; rw [← e9] at this; exact this)), BS.out _⟩
      case measure => (try simp [intOf]); omega
    · have hkn : ¬ (k : Int) < (n : Int) := by omega
      obtain rfl : k = n := by omega
      have HSB := hide (show Sob wr la (lw os ws) from (HC.out.congr (fun i hi => by rw [Hn.out] at hi; simp [uk, hi])).sob HB.out)
      obtain ⟨d0, d1⟩ := DF.out wr HB.out
      go_wp2_with (first
        | (go_at_call 48; refine (SO.out wr HB.out).mono ?_; rintro e w2 ⟨ao, c2, rfl, hown, hb⟩; have HU := hide (own_seesU hown); have HB2 := hide hb; have REX := hide (RE.out w2 la cp ao c2 (HSB.out.below hb) (own_seesU hown)); clear hown hb)
        | (go_at_call 28; refine REX.out.mono ?_; rintro e w3 ⟨gr, rfl, hgr, hrow, hb⟩; have HR3 := hide hrow; have HB3 := hide hb; clear hrow hb))
      go_ret
      refine ⟨gr, rfl, ?_, HR3.out.congr (fun i hi => by rw [RBS.out]), ?_⟩
      · have h1 := HB0.out.size; have h2 := HB.out.size; have h3 := HB2.out.size; omega
      · exact HB0.out.trans (((HB.out.trans (HB2.out.mono HB.out.size)).trans (HB3.out.mono (by have h2 := HB.out.size; have h3 := HB2.out.size; omega))).mono (by have h1 := HB0.out.size; omega))
end Hu
end Go.Proofs.Ytnodkeoikamonab
