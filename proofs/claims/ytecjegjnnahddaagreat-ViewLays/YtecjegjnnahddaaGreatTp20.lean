/-
  Lemmas: VwT, VwY, VwLj, VsR, VwRv, VwRa.
-/
import Derived.Test.YtecjegjnnahddaaGreatTp19
import Derived.Test.YtecjegjnnahddaaGreatTp12
import Derived.Test.YtecjegjnnahddaaGreatTp08
import Derived.Test.YtecjegjnnahddaaGreatTp07
import Derived.Test.YtecjegjnnahddaaGreatTp17
import Derived.Test.YtecjegjnnahddaaGreatTp10
/-
  View: the example: a fresh memory is seen, and is sound
-/
namespace Go.Proofs.YtecjegjnnahddaaGreat
open Go.RowKit
set_option linter.unusedVariables false
set_option linter.unusedSimpArgs false
set_option linter.unnecessarySimpa false
set_option maxRecDepth 20000
namespace Vw
open Shape

theorem ok2 : (⟨2, 1, 1, 1, 0⟩ : Sh).Ok := ⟨by decide, by decide, by decide, by decide, by decide, by decide, by decide, by decide⟩
theorem sz2 : size ⟨2, 1, 1, 1, 0⟩ = 18 := rfl
/-- The lookers' contracts at the example. -/
theorem fresh2 (w : World) : Calls Tryz.prog 10 #[.agg #[.int .i64 2, .int .i64 1, .int .i64 1, .int .i64 1, .int .i64 0, .int .i64 0]] w fun e w' => (∃ g, e = .returned (.tuple #[.slice (some ⟨g, 0, none⟩) 18 18, .int .i64 0]) ∧ IsRow w' g 18 18 (F ⟨2, 1, 1, 1, 0⟩ 1)) ∧ Below w.heap.size w w' := by
  have := fresh_ok (s5 := 0) ok2 w
  refine Calls.mono (R := _) (by simpa [sz2] using this) ?_
  intro e w' h
  obtain ⟨g, h1, h2, h3, h4⟩ := h
  exact ⟨⟨g, h1, h2⟩, h4⟩
theorem row_bnd {w : World} {g n cap : Nat} {f : Nat → Int} (h : IsRow w g n cap f) : ∀ i, i < n → 0 ≤ f i ∧ f i < 18446744073709551616 := fun i hi => by have := h.word hi; omega
theorem look2 {w : World} {g : Nat} (h : IsRow w g 18 18 (F ⟨2, 1, 1, 1, 0⟩ 1)) : Calls Tryz.prog 11 #[.agg #[.int .i64 2, .int .i64 1, .int .i64 1, .int .i64 1, .int .i64 0, .int .i64 0], .slice (some ⟨g, 0, none⟩) 18 18] w fun e w' => (∃ (c : Cv) (a : Av) (b0 o0 b1 o1 c1 : Nat) (a1 : Option Addr), e = .returned (.tuple #[.agg #[.int .i64 c.ph, .int .i64 c.co, .int .u64 c.ro, .slice a.aa c.na a.ca, .slice a.ra c.nr a.cr, .slice a.wa c.nw a.cw, .slice (some ⟨b1, o1, none⟩) 2 a.cb, .slice (some ⟨b0, o0, none⟩) 2 a.cf, .slice a.ga c.gr.length a.cg, .slice a.qa c.qu.length a.cq, .int .u64 (c.cn 0), .int .u64 (c.cn 1), .int .u64 (c.cn 2), .int .u64 (c.cn 3)], .int .i64 0]) ∧ b0 < w'.heap.size ∧ b1 < w'.heap.size ∧ w'.cell? ⟨b0, o0, none⟩ = some (.int .i64 1) ∧ w'.cell? ⟨b0, o0 + 1, none⟩ = some (.int .i64 2) ∧ w'.cell? ⟨b1, o1 + 9 + 8, none⟩ = some (.slice a1 1 c1)) ∧ Below w.heap.size w w' := by
  have := Look_ok (s5 := 0) ok2 sz2 (Nat.le_refl 18) w h.sees (Nat.le_refl _) (row_bnd h)
  refine Calls.mono this ?_
  rintro e w' ⟨⟨a, rfl, HO⟩, hb⟩
  have hfr : (cv ⟨2, 1, 1, 1, 0⟩ (F ⟨2, 1, 1, 1, 0⟩ 1)).fr = [1, 2] := congrArg Prod.fst (fresh_free ok2)
  have hS := HO.out.shows
  obtain ⟨b0, o0, e0, l0, c0⟩ := hS.fr 0 1 (by rw [hfr]; rfl)
  obtain ⟨b0', o0', e0', l0', c0'⟩ := hS.fr 1 2 (by rw [hfr]; rfl)
  rw [e0] at e0'
  cases e0'
  obtain ⟨b1, o1, a1, c1, e1, l1, hc1, _⟩ := hS.ob 1 (by decide)
  refine ⟨⟨cv ⟨2, 1, 1, 1, 0⟩ (F ⟨2, 1, 1, 1, 0⟩ 1), a, b0, o0, b1, o1, c1, a1, ?_, l0, l1, by simpa using c0, c0', hc1 8 (by decide)⟩, hb⟩
  unfold vl
  rw [e0, e1, hfr]
  rfl
theorem check2 {w : World} {g : Nat} (h : IsRow w g 18 18 (F ⟨2, 1, 1, 1, 0⟩ 1)) : Calls Tryz.prog 12 #[.agg #[.int .i64 2, .int .i64 1, .int .i64 1, .int .i64 1, .int .i64 0, .int .i64 0], .slice (some ⟨g, 0, none⟩) 18 18] w fun e w' => e = .returned (.int .i64 0) ∧ Below w.heap.size w w' :=
  check_yes (s5 := 0) ok2 sz2 (Nat.le_refl 18) h.sees (Nat.le_refl _) (row_bnd h) (fresh_sound ok2)

set_option maxHeartbeats 4000000 in
theorem awake_ok (w : World) : Calls Tryz.prog 4 #[] w fun e w' => e = .returned (.bool true) ∧ Below w.heap.size w w' := by
  go_enter Tryz.func4, Tryz.ntmps4
  go_upto_region 2 with (fail)
  obtain ⟨W0, hW0, B0, K⟩ := box w 2 1 1 1 0 0
  have HB := hide B0
  obtain ⟨-, l0, x0, x1, x2, x3, x4, x5⟩ := K.out W0 (Below.refl _ _)
  simp only [hW0]
  clear B0 hW0
  go_upto_region 3 with (go_at_call 10; refine (fresh2 _).mono ?_; rintro e w1 ⟨⟨g, rfl, R1⟩, hb1⟩; have HB1 := hide hb1; have HR1 := hide R1; clear hb1 R1)
  obtain ⟨hbw, l1, y0, y1, y2, y3, y4, y5⟩ := K.out w1 HB1.out
  clear hbw x0 x1 x2 x3 x4 x5
  have LK := hide (look2 HR1.out)
  go_upto_region 4 with (go_at_call 11; refine LK.out.mono ?_; rintro e w2 ⟨⟨c, a, b0, o0, b1, o1, c1, a1, rfl, hb0, hb1', hc0, hc0', hc1⟩, hb2⟩; have HB2 := hide hb2; clear hb2)
  obtain ⟨W3, hW3⟩ : ∃ W3, w2.alloc (.cells #[.int .i64 c.ph, .int .i64 c.co, .int .u64 c.ro, .slice a.aa c.na a.ca, .slice a.ra c.nr a.cr, .slice a.wa c.nw a.cw, .slice (some ⟨b1, o1, none⟩) 2 a.cb, .slice (some ⟨b0, o0, none⟩) 2 a.cf, .slice a.ga c.gr.length a.cg, .slice a.qa c.qu.length a.cq, .int .u64 (c.cn 0), .int .u64 (c.cn 1), .int .u64 (c.cn 2), .int .u64 (c.cn 3)] 31) = W3 := ⟨_, rfl⟩
  have B3 : Below w2.heap.size w2 W3 := by rw [← hW3]; exact (Below.refl _ w2).alloc (Nat.le_refl _) _
  have R3 : W3.rowIs w2.heap.size 31 14 (lrow [.int .i64 c.ph, .int .i64 c.co, .int .u64 c.ro, .slice a.aa c.na a.ca, .slice a.ra c.nr a.cr, .slice a.wa c.nw a.cw, .slice (some ⟨b1, o1, none⟩) 2 a.cb, .slice (some ⟨b0, o0, none⟩) 2 a.cf, .slice a.ga c.gr.length a.cg, .slice a.qa c.qu.length a.cq, .int .u64 (c.cn 0), .int .u64 (c.cn 1), .int .u64 (c.cn 2), .int .u64 (c.cn 3)]) := by rw [← hW3]; exact rowL_alloc w2 [.int .i64 c.ph, .int .i64 c.co, .int .u64 c.ro, .slice a.aa c.na a.ca, .slice a.ra c.nr a.cr, .slice a.wa c.nw a.cw, .slice (some ⟨b1, o1, none⟩) 2 a.cb, .slice (some ⟨b0, o0, none⟩) 2 a.cf, .slice a.ga c.gr.length a.cg, .slice a.qa c.qu.length a.cq, .int .u64 (c.cn 0), .int .u64 (c.cn 1), .int .u64 (c.cn 2), .int .u64 (c.cn 3)] _ rfl
  have HB3 := hide (HB2.out.trans (B3.mono HB2.out.size))
  have HB13 := hide (HB1.out.trans (HB3.out.mono HB1.out.size))
  have z6 : W3.cell? ⟨w2.heap.size, 6, none⟩ = some (.slice (some ⟨b1, o1, none⟩) 2 a.cb) := R3.cell (i := 6) (by decide)
  have z7 : W3.cell? ⟨w2.heap.size, 7, none⟩ = some (.slice (some ⟨b0, o0, none⟩) 2 a.cf) := R3.cell (i := 7) (by decide)
  have k0 : W3.cell? ⟨b0, o0, none⟩ = some (.int .i64 1) := (B3.cell (p := ⟨b0, o0, none⟩) hb0).trans hc0
  have k1 : W3.cell? ⟨b0, o0 + 1, none⟩ = some (.int .i64 2) := (B3.cell (p := ⟨b0, o0 + 1, none⟩) hb0).trans hc0'
  have k2 : W3.cell? ⟨b1, o1 + 9 + 8, none⟩ = some (.slice a1 1 c1) := (B3.cell (p := ⟨b1, o1 + 9 + 8, none⟩) hb1').trans hc1
  have R13 := hide (HR1.out.below HB3.out)
  have CK := hide (check2 R13.out)
  simp only [hW3]
  clear hW3 B3 R3 y0 y1 y2 y3 y4 y5 hc0 hc0' hc1
  obtain ⟨-, -, y0, y1, y2, y3, y4, y5⟩ := K.out W3 HB13.out
  go_wp2_with (go_at_call 12; refine CK.out.mono ?_; rintro e w5 ⟨rfl, hb5⟩; have HB5 := hide hb5; clear hb5)
  go_ret
  exact ⟨rfl, (K.out _ (HB13.out.trans (HB5.out.mono HB13.out.size))).1⟩
end Vw
end Go.Proofs.YtecjegjnnahddaaGreat

/-
  View: words lent, and whole again
-/
namespace Go.Proofs.YtecjegjnnahddaaGreat
open Go.RowKit
set_option linter.unusedVariables false
set_option linter.unusedSimpArgs false
set_option linter.unnecessarySimpa false
set_option maxRecDepth 20000
namespace Vw
open Shape
/-- 'append(v, xs...)', v the call's own, xs whatever slice: nil, empty or not. -/
theorem wpList_append_opt {P : Program} {w : World} {ops : Array Oper} {rest : List Oper} {o : Oper} {a : Act} {Q : Exit → Act → World → Prop} (hgd : o.guard = none) (s x : Operand) (t : TypeId)
    (ho : o.op = .call { callee := .builtin .append, args := #[s, x], argTypes := #[t, t] })
    (base : Nat) (e : TypeId) (i : TypeInfo) (z : Value) (size bytes : Nat) (ht : P.underlying t = some (.slice e)) (hi : P.info? e = some i) (hz : i.zero = some z)
    (hsize : i.size = size) (hby : i.bytes = bytes) (hzs : z.cells.size = size) (hsz : 0 < size)
    (v : Value) (n : Nat) (xs : List Value) (hs : a.eval s = v) (hown : w.ownsRow base e size v n xs)
    (ao : Option Addr) (m c : Nat) (news : List Value) (hx : a.eval x = .slice ao m c) (hnil : ao = none → m = 0 ∧ c = 0) (hl : news.length = m * size) (hnews : ∀ ad, ao = some ad → ∀ j u, news[j]? = some u → w.cell? (ad.add j) = some u) (h1 : ∀ u ∈ news, u.oneCell' = true)
    (h63 : n + m ≤ maxLen) (hbytes : (n + m) * bytes ≤ 140737488355328) (hbase : base ≤ w.heap.size)
    (h : ∀ v' w', w'.ownsRow base e size v' (n + m) (xs ++ news) → w.grownBy w' v.ownBlock → ((v' = .slice none 0 0) → v = .slice none 0 0) → wpList P ops Q rest (a.put o.dst v') w') : wpList P ops Q (o :: rest) a w := by
  cases ao with
  | none =>
    obtain ⟨rfl, rfl⟩ := hnil rfl
    have hn : news = [] := by simpa using hl
    subst hn
    refine wpList_append_own_none hgd s x t ho base e i size ht hi v n xs hs hown hx (h v w (by simpa using hown) ⟨rfl, rfl, rfl, Nat.le_refl _, fun _ _ _ => rfl⟩ (fun e => e))
  | some ad =>
    exact wpList_append_own w hgd s x t ho base e i z size bytes ht hi hz hsize hby hzs hsz v n xs hs hown ad m c news hx hl (hnews ad rfl) h1 h63 hbytes hbase fun v' w' h2 h3 h4 => h v' w' h2 h3 (fun e => (h4.1 e).1)


theorem owned_some {w : World} {base : Nat} {e : TypeId} {size : Nat} {v : Value} {n : Nat} {xs : List Value} (h : w.ownsRow base e size v n xs) (hv : ¬ v = .slice none 0 0) : ∃ g cap, v = .slice (some ⟨g, 0, none⟩) n cap ∧ base ≤ g ∧ n ≤ cap ∧ cap ≤ maxLen := by
  obtain ⟨hl, ⟨rfl, _⟩ | ⟨g, cap, cur, rfl, hb, hg, hc, hm, _⟩⟩ := h
  · exact absurd rfl hv
  · exact ⟨g, cap, rfl, hb, hc, hm⟩
def marked (n : Nat) (f : Nat → Int) : Nat → Int := fun i => if i < n then f i else 11259375
theorem marked_cells (n : Nat) (f : Nat → Int) : wcs n f ++ [.int .u64 11259375] = wcs (n + 1) (marked n f) := by
  apply List.ext_getElem?
  intro i
  by_cases hi : i < n
  · rw [List.getElem?_append_left (by rw [wcs_len]; exact hi), wcs_get _ hi, wcs_get _ (by omega)]
    simp [marked, hi]
  · rw [List.getElem?_append_right (by rw [wcs_len]; omega), wcs_len]
    by_cases he : i = n
    · subst he; rw [wcs_get _ (by omega)]; simp [marked]
    · have h1 : (wcs (n + 1) (marked n f))[i]? = none := List.getElem?_eq_none (by rw [wcs_len]; omega)
      rw [h1]
      exact List.getElem?_eq_none (by simp; omega)

set_option maxHeartbeats 4000000 in
theorem lent_ok {w : World} {ao : Option Addr} {n cap : Nat} {f : Nat → Int} (S : Sees w w.heap.size ao n f) (hnil : ao = none → n = 0 ∧ cap = 0) (hb : (n + 1) * 8 ≤ 140737488355328) :
    Calls Tryz.prog 13 #[.slice ao n cap] w fun e w' => (∃ g c, e = .returned (.slice (some ⟨g, 0, none⟩) n c) ∧ n < c ∧ Hid (w'.ownsRow w.heap.size 24 1 (.slice (some ⟨g, 0, none⟩) (n + 1) c) (n + 1) (wcs (n + 1) (marked n f)))) ∧ Below w.heap.size w w' := by
  have HS := hide S
  have HN := hide hnil
  clear S hnil
  obtain ⟨iU, hiU, hzU, hsU, hyU⟩ := infoU
  have hlen : (n : Int) ≤ 9223372036854775807 := by omega
  go_enter Tryz.func13, Tryz.ntmps13
  go_wp2_with (first
    | (at_builtin; refine wpList_append_opt rfl (.tmp 3) (.tmp 4) 25 rfl w.heap.size 24 iU (.int .u64 0) 1 8 Tryz.underlying25 hiU hzU hsU hyU rfl (by decide) (.slice (some ⟨w.heap.size, 0, none⟩) 0 0) 0 [] rfl (by have := World.ownsRow_lit (base := w.heap.size) (e := 24) (size := 1) w #[] 0 (by simp) (by unfold maxLen; omega) rfl; simpa using this) ao n cap (wcs n f) rfl HN.out (by rw [wcs_len]; omega) (news_of (sees_on HS.out ((Below.refl _ w).alloc (Nat.le_refl _) _))) (wcs_one n f) (by unfold maxLen; omega) (by omega) (by simp) ?_; intro v4 w4 hown4 hgrow4 hnn; rw [Nat.zero_add, List.nil_append] at hown4; obtain ⟨g4, c4, rfl, hg4, _⟩ := owned_some hown4 (fun he => by have := hnn he; cases this); have B4 := hide (show Below w.heap.size w w4 from ((Below.refl _ w).alloc (Nat.le_refl _) (.cells #[] 24)).grown hgrow4 (by simp) (by simp [Value.ownBlock])); have O4 := hide hown4; clear hown4 hgrow4 hnn)
    | (at_builtin; refine wpList_append_opt rfl (.tmp 5) (.tmp 6) 25 rfl w.heap.size 24 iU (.int .u64 0) 1 8 Tryz.underlying25 hiU hzU hsU hyU rfl (by decide) (.slice (some ⟨g4, 0, none⟩) n c4) n (wcs n f) rfl (O4.out.alloc _) (some ⟨w4.heap.size, 0, none⟩) 1 1 [.int .u64 11259375] rfl (fun h => by cases h) rfl (fun ad had q u hu => by cases had; exact cell_one_new w4 _ _ q u hu) (by simp [Value.oneCell']) (by unfold maxLen; omega) (by omega) (by have := B4.out.size; simp; omega) ?_; intro v5 w5 hown5 hgrow5 hnn5; rw [marked_cells] at hown5; obtain ⟨g5, c5, rfl, hg5, hc5, _⟩ := owned_some hown5 (fun he => by have := hnn5 he; cases this); have R5 := hide hown5; have B5 := hide (below_grown (B4.out.alloc B4.out.size _) (O4.out.alloc _) hgrow5 (by have := B4.out.size; simp; omega)); clear hown5 hgrow5 hnn5))
  go_ret
  exact ⟨⟨g5, c5, rfl, by omega, R5.out⟩, B5.out⟩

/-- Lent words, as they are seen. -/
theorem lent_sees {w : World} {base g n c : Nat} {f : Nat → Int} (h : w.ownsRow base 24 1 (.slice (some ⟨g, 0, none⟩) (n + 1) c) (n + 1) (wcs (n + 1) (marked n f))) : Sees w w.heap.size (some ⟨g, 0, none⟩) n f := by
  intro j hj
  obtain ⟨b, e, _, hl, hc, _⟩ := owns_cell h (wcs_get (marked n f) (show j < n + 1 by omega))
  cases e
  exact ⟨g, 0, rfl, hl, by simpa [marked, hj] using hc⟩

set_option maxHeartbeats 2000000 in
theorem whole_ok {w : World} {base g n c cap : Nat} {ao : Option Addr} {f : Nat → Int} (h : w.ownsRow base 24 1 (.slice (some ⟨g, 0, none⟩) (n + 1) c) (n + 1) (wcs (n + 1) (marked n f))) (hn : n < c) (hb : (n + 1) * 8 ≤ 140737488355328) (h' : Sees w w.heap.size ao n f) :
    Calls Tryz.prog 25 #[.slice (some ⟨g, 0, none⟩) n c, .slice ao n cap] w fun e w' => e = .returned (.bool true) ∧ ∃ m, w' = w.drewN m := by
  have SW := hide (same_words (cap := c) (cap' := cap) (lent_sees h) h' (fun _ _ => rfl) (by omega))
  obtain ⟨b, e, _, hl, hc, _⟩ := owns_cell h (wcs_get (marked n f) (show n < n + 1 by omega))
  cases e
  have hc2 : w.cell? ⟨g, n, none⟩ = some (.int .u64 11259375) := by simpa [marked] using hc
  have HC := hide hc2
  clear h h' hc hc2
  have hn1 : (n : Int) < ((n + 1 : Nat) : Int) := by omega
  have hn2 : (n : Int) + 1 ≤ (c : Int) := by omega
  have hn3 : (n : Int) < (n : Int) + 1 := by omega
  go_enter Tryz.func25, Tryz.ntmps25
  go_wp2_with (go_at_call 8; refine SW.out.mono ?_; rintro e w1 ⟨rfl, m, rfl⟩; have hc3 : (w.drewN m).cell? ⟨g, n, none⟩ = some (.int .u64 11259375) := HC.out)
  go_ret
  exact ⟨rfl, m, rfl⟩

/-- Steps as cells. -/
def spc (n : Nat) (a : Nat → Sp) : List Value := (List.range (n * 6)).map fun p => (a (p / 6)).cell (p % 6)
theorem spc_len (n : Nat) (a : Nat → Sp) : (spc n a).length = n * 6 := by simp [spc]
theorem spc_get {n : Nat} (a : Nat → Sp) {p : Nat} (h : p < n * 6) : (spc n a)[p]? = some ((a (p / 6)).cell (p % 6)) := by simp [spc, h]
theorem cell_one' (x : Sp) {i : Nat} (h : i < 6) : (x.cell i).oneCell' = true := by
  match i, h with
  | 0, _ | 1, _ | 2, _ | 3, _ | 4, _ | 5, _ => rfl
theorem spc_one (n : Nat) (a : Nat → Sp) : ∀ u ∈ spc n a, u.oneCell' = true := by
  intro u hu
  obtain ⟨p, _, rfl⟩ := List.mem_map.1 hu
  exact cell_one' _ (Nat.mod_lt _ (by decide))
theorem spc_news {w : World} {sa : Option Addr} {n : Nat} {a : Nat → Sp} (h : SeesP w sa n a) : ∀ ad, sa = some ad → ∀ j u, (spc n a)[j]? = some u → w.cell? (ad.add j) = some u := by
  intro ad hao j u hu
  have hj : j < n * 6 := by have := (List.getElem?_eq_some_iff.1 hu).1; rw [spc_len] at this; exact this
  obtain ⟨b, off, he, hbl, hcc⟩ := h (j / 6) (by omega)
  rw [hao] at he
  cases he
  rw [spc_get a hj] at hu
  cases hu
  rw [Go.WideShapes.add_plain]
  have := hcc (j % 6) (Nat.mod_lt _ (by decide))
  rw [show off + j / 6 * 6 + j % 6 = off + j by omega] at this
  exact this
def mk777 (n : Nat) (a : Nat → Sp) : Nat → Sp := fun i => if i < n then a i else ⟨777, 0, 0, 0, 0, false⟩
theorem spc_more (n : Nat) (a : Nat → Sp) : spc n a ++ [.int .i64 777, .int .i64 0, .int .i64 0, .int .u64 0, .int .u64 0, .bool false] = spc (n + 1) (mk777 n a) := by
  apply List.ext_getElem?
  intro i
  by_cases hi : i < n * 6
  · rw [List.getElem?_append_left (by rw [spc_len]; exact hi), spc_get _ hi, spc_get _ (by omega)]
    have : i / 6 < n := by omega
    simp [mk777, this]
  · rw [List.getElem?_append_right (by rw [spc_len]; omega), spc_len]
    by_cases hi2 : i < (n + 1) * 6
    · rw [spc_get _ hi2]
      have h1 : i / 6 = n := by omega
      have h2 : i % 6 = i - n * 6 := by omega
      rw [h1, h2]
      simp only [mk777, Nat.lt_irrefl, if_false]
      have h3 : i - n * 6 < 6 := by omega
      match i - n * 6, h3 with
      | 0, _ | 1, _ | 2, _ | 3, _ | 4, _ | 5, _ => rfl
    · have h1 : (spc (n + 1) (mk777 n a))[i]? = none := List.getElem?_eq_none (by rw [spc_len]; omega)
      rw [h1]
      exact List.getElem?_eq_none (by simp; omega)
end Vw
end Go.Proofs.YtecjegjnnahddaaGreat

/-
  View: the document's Lay: what the walk leans on
-/
namespace Go.Proofs.YtecjegjnnahddaaGreat
open Go.RowKit
set_option linter.unusedVariables false
set_option linter.unusedSimpArgs false
set_option linter.unnecessarySimpa false
set_option maxRecDepth 20000
namespace LtC
open Lt (up up_same up_other)
variable {cs : List Nat} {ra rb : Nat} {S : Nat → (Nat → Value) → World → Prop} {P : Program} {Q : Exit → Act → World → Prop} {ks : List (Nat × Nat)} {vals : Nat → Value} {xs : List Nat} {a0 : Act} {i m : Nat} {o : Oper}
/-- A call whose answer is known, and that every link outlives. -/
theorem callr {f : FuncId} {args : Array Value} (hd : o.dst = Lt.look ks i) (hi : cs.contains i = false) (hra : cs.contains ra = true) (h : ∀ L a w, LtH.In ks vals xs (WI cs ra rb S) a0 L a w → L i = false → (∀ e ∈ o.after, Region.binds .any e = true → L e.on = true) → (execOp a.eval o).run P w = .ok (.enter f args) w)
    (hc : ∀ n s w, S n s w → Calls P f args w fun e w' => e = .returned (vals i) ∧ S n s w') : LtH.Does P Q ks vals xs (WI cs ra rb S) a0 i o :=
  .mk hd fun L a w K hI hL hdep hk => by
    obtain ⟨⟨n, hn, hLn, hS⟩, hr⟩ := hI.world
    refine Lt.wp_call (h L a w hI hL hdep) ((hc n _ w hS).mono ?_)
    rintro e w' ⟨rfl, hS'⟩
    exact ⟨_, rfl, hk w' _ (fun _ _ => rfl) (WI.pass hi hra ⟨⟨n, hn, hLn, hS'⟩, hr⟩)⟩
end LtC
namespace Vw
open Shape
theorem wcs_app {n m : Nat} {F G : Nat → Int} (h : ∀ i, i < m → G i = F (n + i)) : wcs n F ++ wcs m G = wcs (n + m) F := by
  unfold wcs
  rw [List.range_add, List.map_append, List.map_map]
  congr 1
  exact List.map_congr_left (fun i hi => by simp [h i (List.mem_range.1 hi)])
theorem wcs_none {F : Nat → Int} : wcs 0 F = [] := rfl
theorem mo_fit {c : Cv} (h0 : 0 ≤ c.ph) (h1 : c.ph ≤ 7) (hc : c.co = 0 ∨ c.co = 1) (r0 : 0 ≤ c.ro) (r1 : c.ro < 72057594037927936) :
    IntKind.u64.wrap (IntKind.u64.wrap (IntKind.u64.wrap c.ph + IntKind.u64.wrap (IntKind.u64.wrap c.co * 8)) + IntKind.u64.wrap (c.ro * 256)) = mo c := by
  have hm : momV 0 c.co c.ro = c.co * 8 + c.ro * 256 := by
    unfold momV momB
    rw [if_pos (by simp; omega)]
    omega
  unfold mo
  rw [hm]
  simp only [wrapU]
  rw [show c.ph % 18446744073709551616 = c.ph by omega]
  rw [u64_or _ _ (by omega) (by omega) (by omega) (by omega), Nat.or_comm, ← u64_or _ _ (by omega) (by omega) (by omega) (by omega)]
  rw [or3 _ _ (by omega) (by omega) (by omega) (by omega) (by omega)]
  omega
/-- A view that is seen as it was laid fits, and its objects can be packed. -/
theorem cq_fit {x : Sh} (H : x.Ok) {c : Cv} (hB : Bnd c) (hn : c.nr = x.h) (ho : c.no = x.o) (q : Cq (cv x (lwF x c)) c) : Fit x c ∧ ∀ j, j < x.o → packB (c.ob j).ag (c.ob j).ge c.co = true := by
  have h0 : lwF x c 0 = mo c := rfl
  have hw : 0 < ow x := by have := lay_out x; omega
  have hm := mo_bnd hB
  have e1 : lwF x c 0 % 8 = c.ph := q.ph
  have e2 : lwF x c 0 / 8 % 2 = c.co := q.co
  have e3 : lwF x c 0 / 256 = c.ro := q.ro
  rw [h0] at e1 e2 e3
  refine ⟨⟨q.ac.1.symm, hn, q.wk.1.symm, ho, fun j hj => (q.rt.2 j hj).1.symm, fun j hj => ?_, by omega, by omega, by omega⟩, fun j hj => ?_⟩
  · obtain ⟨-, -, -, -, -, -, -, -, e, -⟩ := q.ob.2 j hj
    exact e.symm
  · obtain ⟨-, -, -, -, e4, e5, -⟩ := q.ob.2 j hj
    have hb := lw_bnd H hB hn ho (pO x j) (by have := (at_obj H hj).1; omega)
    have e4 : lwF x c (pO x j) / 256 % 256 = (c.ob j).ag := e4
    have e5 : lwF x c (pO x j) / 4294967296 = (c.ob j).ge := e5
    simp [packB]
    omega
/-- Lists that are nil have no room. -/
structure Nv (w : World) (c : Cv) (a : Av) : Prop where
  ac : a.aa = none → a.ca = 0
  rt : ∀ j, j < c.nr → ∀ b off ai ci, a.ra = some ⟨b, off, none⟩ → w.cell? ⟨b, off + j, none⟩ = some (.slice ai (c.rn j) ci) → ai = none → ci = 0
  wk : a.wa = none → a.cw = 0
  ob : ∀ j, j < c.no → ∀ b off ai ci, a.oa = some ⟨b, off, none⟩ → w.cell? ⟨b, off + j * 9 + 8, none⟩ = some (.slice ai (c.ob j).ns ci) → ai = none → ci = 0
  fr : a.fa = none → a.cf = 0
  gr : a.ga = none → a.cg = 0
  qu : a.qa = none → a.cq = 0
theorem Nv.below {w w' : World} {c : Cv} {a : Av} (h : Nv w c a) (hs : Shows w c a) (hb : Below w.heap.size w w') : Nv w' c a := by
  refine ⟨h.ac, fun j hj b off ai ci e hc => ?_, h.wk, fun j hj b off ai ci e hc => ?_, h.fr, h.gr, h.qu⟩
  · obtain ⟨b2, o2, _, _, e2, hl, _⟩ := hs.rt j hj
    rw [e] at e2
    cases e2
    exact h.rt j hj b off ai ci e ((hb.cell (p := ⟨b, off + j, none⟩) hl).symm.trans hc)
  · obtain ⟨b2, o2, _, _, e2, hl, _⟩ := hs.ob j hj
    rw [e] at e2
    cases e2
    exact h.ob j hj b off ai ci e ((hb.cell (p := ⟨b, off + j * 9 + 8, none⟩) hl).symm.trans hc)
theorem sees_nil {w : World} {B n : Nat} {f : Nat → Int} (h : Sees w B none n f) : n = 0 := by
  by_cases hn : 0 < n
  · obtain ⟨_, _, e, _⟩ := h 0 hn
    cases e
  · omega
theorem seesN_nil {w : World} {l : List Int} (h : SeesN w none l) : l = [] := by
  cases l with
  | nil => rfl
  | cons x l => obtain ⟨_, _, e, _⟩ := h 0 x rfl; cases e

theorem below_row {w w' : World} {base : Nat} {e : TypeId} {size n : Nat} {v : Value} {xs : List Value} (ho : w.ownsRow base e size v n xs) (g : w.grownBy w' v.ownBlock) (hb : base ≤ w.heap.size) : Below base w w' :=
  ⟨g.os, g.tape, g.output, g.size, fun k hk => g.block k (by omega) (fun e => by have := (ho.lt k e.symm).1; omega)⟩
theorem app_words {w : World} {ops : Array Oper} {rest : List Oper} {o : Oper} {a : Act} {Q : Exit → Act → World → Prop} (hgd : o.guard = none) (s x : Operand)
    (ho : o.op = .call { callee := .builtin .append, args := #[s, x], argTypes := #[25, 25] })
    {base n : Nat} {v : Value} {F : Nat → Int} (hs : a.eval s = v) (hown : w.ownsRow base 24 1 v n (wcs n F))
    {ao : Option Addr} {m c : Nat} {G : Nat → Int} (hx : a.eval x = .slice ao m c) (hnil : ao = none → m = 0 ∧ c = 0) (hsee : Sees w w.heap.size ao m G) (hG : ∀ i, i < m → G i = F (n + i)) (hle : n + m ≤ 600) (hbase : base ≤ w.heap.size)
    (h : ∀ ad cap w', w'.ownsRow base 24 1 (.slice ad (n + m) cap) (n + m) (wcs (n + m) F) → Below base w w' → (∀ b, b < w.heap.size → ¬ v.ownBlock = some b → w'.heap[b]? = w.heap[b]?) → wpList Tryz.prog ops Q rest (a.put o.dst (.slice ad (n + m) cap)) w') : wpList Tryz.prog ops Q (o :: rest) a w := by
  obtain ⟨iU, hiU, hzU, hsU, hyU⟩ := infoU
  refine wpList_append_opt hgd s x 25 ho base 24 iU (.int .u64 0) 1 8 Tryz.underlying25 hiU hzU hsU hyU rfl (by decide) v n (wcs n F) hs hown ao m c (wcs m G) hx hnil (by rw [wcs_len]; omega) (news_of hsee) (wcs_one _ _) (by unfold maxLen; omega) (by omega) hbase ?_
  intro v' w' hown' hgr _
  rw [wcs_app hG] at hown'
  obtain ⟨ad, cp, rfl⟩ := own_slice hown'
  exact h ad cp w' hown' (below_row hown hgr hbase) (fun b hb hn => hgr.block b hb (fun e => hn e.symm))
theorem lit1_sees (w : World) (x : Int) : Sees (w.alloc (.cells #[.int .u64 x] 24)) (w.alloc (.cells #[.int .u64 x] 24)).heap.size (some ⟨w.heap.size, 0, none⟩) 1 (fun _ => x) := by
  intro j hj
  obtain rfl : j = 0 := by omega
  exact ⟨_, 0, rfl, by simp, cells_new w [.int .u64 x] 24 0 _ rfl⟩
theorem lit3_sees (w : World) (a b d : Int) : Sees (w.alloc (.cells #[.int .u64 a, .int .u64 b, .int .u64 d] 24)) (w.alloc (.cells #[.int .u64 a, .int .u64 b, .int .u64 d] 24)).heap.size (some ⟨w.heap.size, 0, none⟩) 3 (fun i => if i = 0 then a else if i = 1 then b else d) := by
  intro j hj
  have h := cells_new w [.int .u64 a, .int .u64 b, .int .u64 d] 24
  match j, hj with
  | 0, _ => exact ⟨_, 0, rfl, by simp, h 0 _ rfl⟩
  | 1, _ => exact ⟨_, 0, rfl, by simp, h 1 _ rfl⟩
  | 2, _ => exact ⟨_, 0, rfl, by simp, h 2 _ rfl⟩
theorem own_cap {w : World} {base : Nat} {e : TypeId} {size : Nat} {g n cap : Nat} {xs : List Value} (h : w.ownsRow base e size (.slice (some ⟨g, 0, none⟩) n cap) n xs) : n ≤ cap := by
  obtain ⟨_, ⟨h1, _⟩ | ⟨g', cap', cur, h1, hb, hg, hc, _⟩⟩ := h
  · cases h1
  · cases h1; exact hc
theorem lit4_owns (w : World) {base : Nat} (hb : base ≤ w.heap.size) (F : Nat → Int) : (w.alloc (.cells #[.int .u64 (F 0), .int .u64 (F 1), .int .u64 (F 2), .int .u64 (F 3)] 24)).ownsRow base 24 1 (.slice (some ⟨w.heap.size, 0, none⟩) 4 4) 4 (wcs 4 F) :=
  World.ownsRow_lit w #[.int .u64 (F 0), .int .u64 (F 1), .int .u64 (F 2), .int .u64 (F 3)] 4 hb (by unfold maxLen; omega) rfl
end Vw
end Go.Proofs.YtecjegjnnahddaaGreat

/-
  Shape: the document's Size, Ack, Root, Weak, Object, Slot.
-/
namespace Go.Proofs.YtecjegjnnahddaaGreat
open Go.RowKit
set_option linter.unusedVariables false
set_option linter.unusedSimpArgs false
set_option linter.unnecessarySimpa false
set_option maxRecDepth 20000
namespace Shape
theorem place_bad {s0 s1 s2 s3 s4 s5 : Int} (H : ¬ R5 s0 s1 s2 s3 s4) (q : Bool) (v : Int) (w : World) : Calls Tryz.prog 73 #[.agg #[.int .i64 s0, .int .i64 s1, .int .i64 s2, .int .i64 s3, .int .i64 s4, .int .i64 s5], .bool q, .int .i64 v] w fun e w' => e = .returned (.tuple #[.int .i64 0, .int .i64 120]) ∧ Below w.heap.size w w' := by
  have HH := hide H
  clear H
  obtain ⟨W0, hW0, B0, K⟩ := box w s0 s1 s2 s3 s4 s5
  have HB := hide B0
  obtain ⟨-, l0, x0, x1, x2, x3, x4, x5⟩ := K.out W0 (Below.refl _ _)
  clear B0
  go_enter Tryz.func73, Tryz.ntmps73
  go_wp2_with (go_at_call 15; refine (rcheck_bad HH.out _).mono ?_; rintro e w1 ⟨rfl, hb1⟩; have HB1 := hide hb1; clear hb1; obtain ⟨-, m1, y0, y1, y2, y3, y4, y5⟩ := K.out w1 HB1.out)
  go_ret2
  exact ⟨rfl, (K.out _ HB1.out).1⟩
theorem place_arg {s0 s1 s2 s3 s4 s5 : Int} (H : R5 s0 s1 s2 s3 s4) (v : Int) (w : World) : Calls Tryz.prog 73 #[.agg #[.int .i64 s0, .int .i64 s1, .int .i64 s2, .int .i64 s3, .int .i64 s4, .int .i64 s5], .bool false, .int .i64 v] w fun e w' => e = .returned (.tuple #[.int .i64 0, .int .i64 2]) ∧ Below w.heap.size w w' := by
  have HH := hide H
  clear H
  obtain ⟨W0, hW0, B0, K⟩ := box w s0 s1 s2 s3 s4 s5
  have HB := hide B0
  obtain ⟨-, l0, x0, x1, x2, x3, x4, x5⟩ := K.out W0 (Below.refl _ _)
  clear B0
  go_enter Tryz.func73, Tryz.ntmps73
  go_wp2_with (go_at_call 15; refine (rcheck_ok HH.out _).mono ?_; rintro e w1 ⟨rfl, hb1⟩; have HB1 := hide hb1; clear hb1; obtain ⟨-, m1, y0, y1, y2, y3, y4, y5⟩ := K.out w1 HB1.out)
  go_ret2
  exact ⟨rfl, (K.out _ HB1.out).1⟩
theorem place_ok {s0 s1 s2 s3 s4 s5 : Int} (H : R5 s0 s1 s2 s3 s4) (v : Int) (w : World) : Calls Tryz.prog 73 #[.agg #[.int .i64 s0, .int .i64 s1, .int .i64 s2, .int .i64 s3, .int .i64 s4, .int .i64 s5], .bool true, .int .i64 v] w fun e w' => e = .returned (.tuple #[.int .i64 v, .int .i64 0]) ∧ Below w.heap.size w w' := by
  have HH := hide H
  clear H
  obtain ⟨W0, hW0, B0, K⟩ := box w s0 s1 s2 s3 s4 s5
  have HB := hide B0
  obtain ⟨-, l0, x0, x1, x2, x3, x4, x5⟩ := K.out W0 (Below.refl _ _)
  clear B0
  go_enter Tryz.func73, Tryz.ntmps73
  go_wp2_with (go_at_call 15; refine (rcheck_ok HH.out _).mono ?_; rintro e w1 ⟨rfl, hb1⟩; have HB1 := hide hb1; clear hb1; obtain ⟨-, m1, y0, y1, y2, y3, y4, y5⟩ := K.out w1 HB1.out)
  go_ret2
  exact ⟨rfl, (K.out _ HB1.out).1⟩

theorem rsize_bad {s0 s1 s2 s3 s4 s5 : Int} (H : ¬ R5 s0 s1 s2 s3 s4) (w : World) : Calls Tryz.prog 33 #[.agg #[.int .i64 s0, .int .i64 s1, .int .i64 s2, .int .i64 s3, .int .i64 s4, .int .i64 s5]] w fun e w' => e = .returned (.tuple #[.int .i64 0, .int .i64 120]) ∧ Below w.heap.size w w' := by
  have HH := hide H
  clear H
  obtain ⟨W0, hW0, B0, K⟩ := box w s0 s1 s2 s3 s4 s5
  have HB := hide B0
  obtain ⟨-, l0, x0, x1, x2, x3, x4, x5⟩ := K.out W0 (Below.refl _ _)
  clear B0
  go_enter Tryz.func33, Tryz.ntmps33
  go_wp2_with (go_at_call 15; refine (rcheck_bad HH.out _).mono ?_; rintro e w1 ⟨rfl, hb1⟩; have HB1 := hide hb1; clear hb1; obtain ⟨-, m1, y0, y1, y2, y3, y4, y5⟩ := K.out w1 HB1.out)
  go_ret2
  exact ⟨rfl, (K.out _ HB1.out).1⟩
theorem rsize_ok {o s h r k : Nat} {s5 : Int} (H : (⟨o, s, h, r, k⟩ : Sh).Ok) (w : World) : Calls Tryz.prog 33 #[.agg #[.int .i64 (o : Int), .int .i64 (s : Int), .int .i64 (h : Int), .int .i64 (r : Int), .int .i64 (k : Int), .int .i64 s5]] w fun e w' => e = .returned (.tuple #[.int .i64 ((size ⟨o, s, h, r, k⟩ : Nat) : Int), .int .i64 0]) ∧ Below w.heap.size w w' := by
  have HH := hide (r5 H)
  obtain ⟨b1, b2, b3, b4, b5, b6, b7, b8, b9, b10⟩ := bnds H
  obtain ⟨q, hq⟩ : ∃ q, o * (3 + s) = q := ⟨_, rfl⟩
  obtain ⟨p, hp⟩ : ∃ p, h * r = p := ⟨_, rfl⟩
  have ES := hide (show ((size ⟨o, s, h, r, k⟩ : Nat) : Int) = 8 + (h : Int) + (p : Int) + (k : Int) + (q : Int) from by simp only [size, bO, bK, bR, ow]; rw [hp, hq]; omega)
  rw [hp] at b6
  rw [hq] at b7
  have hp' : (h : Int) * (r : Int) = (p : Int) := by rw [← hp]; simp
  have hq' : (o : Int) * (3 + (s : Int)) = (q : Int) := by rw [← hq]; simp
  clear H hq hp
  obtain ⟨W0, hW0, B0, K⟩ := box w (o : Int) (s : Int) (h : Int) (r : Int) (k : Int) s5
  have HB := hide B0
  obtain ⟨-, l0, x0, x1, x2, x3, x4, x5⟩ := K.out W0 (Below.refl _ _)
  clear B0
  go_enter Tryz.func33, Tryz.ntmps33
  go_wp2_with (go_at_call 15; refine (rcheck_ok HH.out _).mono ?_; rintro e w1 ⟨rfl, hb1⟩; have HB1 := hide hb1; clear hb1; obtain ⟨-, m1, y0, y1, y2, y3, y4, y5⟩ := K.out w1 HB1.out)
  go_ret2
  exact ⟨by rw [ES.out]; rfl, (K.out _ HB1.out).1⟩

theorem rack_of {s0 s1 s2 s3 s4 s5 : Int} {a v e : Int} {q : Bool} (T1 : Hid (∀ w1 : World, Calls Tryz.prog 30 #[.int .i64 a, .int .i64 0, .int .i64 (IntKind.i64.wrap (s2 - 1))] w1 fun e w' => e = .returned (.bool q) ∧ w' = w1)) (PL : Hid (∀ w1 : World, Calls Tryz.prog 73 #[.agg #[.int .i64 s0, .int .i64 s1, .int .i64 s2, .int .i64 s3, .int .i64 s4, .int .i64 s5], .bool q, .int .i64 (IntKind.i64.wrap (8 + a))] w1 fun e' w' => e' = .returned (.tuple #[.int .i64 v, .int .i64 e]) ∧ Below w1.heap.size w1 w')) (w : World) : Calls Tryz.prog 35 #[.agg #[.int .i64 s0, .int .i64 s1, .int .i64 s2, .int .i64 s3, .int .i64 s4, .int .i64 s5], .int .i64 a] w fun e' w' => e' = .returned (.tuple #[.int .i64 v, .int .i64 e]) ∧ Below w.heap.size w w' := by
  obtain ⟨W0, hW0, B0, K⟩ := box w s0 s1 s2 s3 s4 s5
  have HB := hide B0
  obtain ⟨-, l0, x0, x1, x2, x3, x4, x5⟩ := K.out W0 (Below.refl _ _)
  clear B0
  go_enter Tryz.func35, Tryz.ntmps35
  go_wp2_with fail
  refine Lt.region (ks := [(0, 6), (1, 7), (2, 8), (3, 9), (4, 10), (5, 11), (6, 12), (7, 13), (8, 14), (9, 15), (10, 16), (11, 4), (12, 5)]) (vals := fun iv => match iv with
      | 0 => .agg #[.int .i64 s0, .int .i64 s1, .int .i64 s2, .int .i64 s3, .int .i64 s4, .int .i64 s5]
      | 1 => .int .i64 a
      | 2 => .pointer (some ⟨w.heap.size, 2, none⟩)
      | 3 => .int .i64 s2
      | 4 => .int .i64 (IntKind.i64.wrap (s2 - 1))
      | 5 => .bool q
      | 6 => .int .i64 a
      | 7 => .int .i64 (IntKind.i64.wrap (8 + a))
      | 8 => .tuple #[.int .i64 v, .int .i64 e]
      | 9 => .int .i64 v
      | 10 => .int .i64 e
      | 11 => .int .i64 v
      | 12 => .int .i64 e
      | _ => undef) (WI := fun w' => Below W0.heap.size W0 w') (by kernel_rfl) ?bk rfl ?dd (⟨rfl, rfl, rfl, Nat.le_refl _, fun _ _ => rfl⟩) ?does ?fin
  case bk =>
    intro iq oq ho
    have hiq : iq < 13 := by have := (Array.getElem?_eq_some_iff.1 ho).1; simpa using this
    match iq, hiq with
    | 0, _ | 1, _ | 2, _ | 3, _ | 4, _ | 5, _ | 6, _ | 7, _ | 8, _ | 9, _ | 10, _ | 11, _ | 12, _ => injection ho with ho; subst ho; simp [Region.binds]
  case dd =>
    intro k hk
    have hk' : k < 17 := by
      simp [Lt.D] at hk
      omega
    simpa using hk'
  case does =>
    intro iq oq ho
    have hiq : iq < 13 := by have := (Array.getElem?_eq_some_iff.1 ho).1; simpa using this
    match iq, hiq with
    | 0, _ => injection ho with ho; subst ho; exact Lt.Does.read rfl (fun Lq aq w' hI hq => Lt.wn0 rfl) (fun Lq aq w' hI hq => Lt.ex_load_row rfl (hI.fix 2 (Lt.notD rfl)) (by obtain ⟨-, -, y0, y1, y2, y3, y4, y5⟩ := K.out w' hI.world; exact rng y0 y1 y2 y3 y4 y5) (by kernel_rfl) (by kernel_rfl))
    | 1, _ => injection ho with ho; subst ho; exact Lt.Does.read rfl (fun Lq aq w' hI hq => Lt.wn0 rfl) (fun Lq aq w' hI hq => Lt.ex_move rfl (hI.fix 1 (Lt.notD rfl)))
    | 2, _ => injection ho with ho; subst ho; exact Lt.Does.read rfl (fun Lq aq w' hI hq => Lt.wn0 rfl) (fun Lq aq w' hI hq => Lt.ex_field rfl (hI.fix 2 (Lt.notD rfl)) (by simp [go_sem]))
    | 3, _ => injection ho with ho; subst ho; exact Lt.Does.read rfl (fun Lq aq w' hI hq => Lt.wn0 rfl) (fun Lq aq w' hI hq => Lt.ex_load rfl (hI.pure 2 _ _ rfl (hq ⟨2, .data⟩ (by simp) rfl)) (by simp [go_sem]) (by obtain ⟨-, -, y0, y1, y2, y3, y4, y5⟩ := K.out w' hI.world; exact y2))
    | 4, _ => injection ho with ho; subst ho; exact Lt.Does.read rfl (fun Lq aq w' hI hq => Lt.wn0 rfl) (fun Lq aq w' hI hq => Lt.ex_subI rfl (hI.pure 3 _ _ rfl (hq ⟨3, .data⟩ (by simp) rfl)) rfl rfl)
    | 5, _ => injection ho with ho; subst ho; exact Lt.Does.call rfl (fun Lq aq w' hI hq => Lt.wn0 rfl) (fun Lq aq w' hI hq => Lt.call3 rfl (hI.pure 1 _ _ rfl (hq ⟨1, .data⟩ (by simp) rfl)) rfl (hI.pure 4 _ _ rfl (hq ⟨4, .data⟩ (by simp) rfl)) rfl (by simp [go_sem])) (fun w1 hw1 => (T1.out w1).mono (by rintro e w2 ⟨rfl, hw2⟩; obtain rfl := hw2.symm; exact ⟨rfl, hw1⟩))
    | 6, _ => injection ho with ho; subst ho; exact Lt.Does.read rfl (fun Lq aq w' hI hq => Lt.wn0 rfl) (fun Lq aq w' hI hq => Lt.ex_move rfl (hI.fix 1 (Lt.notD rfl)))
    | 7, _ => injection ho with ho; subst ho; exact Lt.Does.read rfl (fun Lq aq w' hI hq => Lt.wn0 rfl) (fun Lq aq w' hI hq => Lt.ex_addI rfl rfl (hI.pure 6 _ _ rfl (hq ⟨6, .data⟩ (by simp) rfl)) rfl)
    | 8, _ => injection ho with ho; subst ho; exact Lt.Does.call rfl (fun Lq aq w' hI hq => Lt.wn0 rfl) (fun Lq aq w' hI hq => Lt.call3 rfl (hI.pure 0 _ _ rfl (hq ⟨0, .data⟩ (by simp) rfl)) (hI.pure 5 _ _ rfl (hq ⟨5, .data⟩ (by simp) rfl)) (hI.pure 7 _ _ rfl (hq ⟨7, .data⟩ (by simp) rfl)) rfl (by simp [go_sem])) (fun w1 hw1 => (PL.out w1).mono (by rintro e w2 ⟨rfl, hb⟩; exact ⟨rfl, hw1.trans (hb.mono hw1.size)⟩))
    | 9, _ => injection ho with ho; subst ho; exact Lt.Does.read rfl (fun Lq aq w' hI hq => Lt.wn0 rfl) (fun Lq aq w' hI hq => Lt.ex_extract rfl (hI.pure 8 _ _ rfl (hq ⟨8, .data⟩ (by simp) rfl)) rfl)
    | 10, _ => injection ho with ho; subst ho; exact Lt.Does.read rfl (fun Lq aq w' hI hq => Lt.wn0 rfl) (fun Lq aq w' hI hq => Lt.ex_extract rfl (hI.pure 8 _ _ rfl (hq ⟨8, .data⟩ (by simp) rfl)) rfl)
    | 11, _ => injection ho with ho; subst ho; exact Lt.Does.read rfl (fun Lq aq w' hI hq => Lt.wn0 rfl) (fun Lq aq w' hI hq => Lt.ex_assign rfl (hI.pure 9 _ _ rfl (hq ⟨9, .data⟩ (by simp) rfl)))
    | 12, _ => injection ho with ho; subst ho; exact Lt.Does.read rfl (fun Lq aq w' hI hq => Lt.wn0 rfl) (fun Lq aq w' hI hq => Lt.ex_assign rfl (hI.pure 10 _ _ rfl (hq ⟨10, .data⟩ (by simp) rfl)))
  case fin =>
    intro Lq a' w' hI hall
    have hw := hI.world
    obtain rfl : a' = ⟨#[.agg #[.int .i64 s0, .int .i64 s1, .int .i64 s2, .int .i64 s3, .int .i64 s4, .int .i64 s5], .int .i64 a, .pointer (some ⟨w.heap.size, 0, none⟩), undef, .int .i64 v, .int .i64 e, .agg #[.int .i64 s0, .int .i64 s1, .int .i64 s2, .int .i64 s3, .int .i64 s4, .int .i64 s5], .int .i64 a, .pointer (some ⟨w.heap.size, 2, none⟩), .int .i64 s2, .int .i64 (IntKind.i64.wrap (s2 - 1)), .bool q, .int .i64 a, .int .i64 (IntKind.i64.wrap (8 + a)), .tuple #[.int .i64 v, .int .i64 e], .int .i64 v, .int .i64 e], []⟩ := Lt.act_eq a' [.agg #[.int .i64 s0, .int .i64 s1, .int .i64 s2, .int .i64 s3, .int .i64 s4, .int .i64 s5], .int .i64 a, .pointer (some ⟨w.heap.size, 0, none⟩), undef, .int .i64 v, .int .i64 e, .agg #[.int .i64 s0, .int .i64 s1, .int .i64 s2, .int .i64 s3, .int .i64 s4, .int .i64 s5], .int .i64 a, .pointer (some ⟨w.heap.size, 2, none⟩), .int .i64 s2, .int .i64 (IntKind.i64.wrap (s2 - 1)), .bool q, .int .i64 a, .int .i64 (IntKind.i64.wrap (8 + a)), .tuple #[.int .i64 v, .int .i64 e], .int .i64 v, .int .i64 e] hI.df (by rw [hI.sz]; rfl) (fun k hk => by
      have hk' : k < 17 := hk
      match k, hk' with
      | 0, _ => exact hI.fix 0 (Lt.notD rfl)
      | 1, _ => exact hI.fix 1 (Lt.notD rfl)
      | 2, _ => exact hI.fix 2 (Lt.notD rfl)
      | 3, _ => exact hI.fix 3 (Lt.notD rfl)
      | 4, _ => exact hI.pure 11 4 _ rfl (hall 11 (by decide))
      | 5, _ => exact hI.pure 12 5 _ rfl (hall 12 (by decide))
      | 6, _ => exact hI.pure 0 6 _ rfl (hall 0 (by decide))
      | 7, _ => exact hI.pure 1 7 _ rfl (hall 1 (by decide))
      | 8, _ => exact hI.pure 2 8 _ rfl (hall 2 (by decide))
      | 9, _ => exact hI.pure 3 9 _ rfl (hall 3 (by decide))
      | 10, _ => exact hI.pure 4 10 _ rfl (hall 4 (by decide))
      | 11, _ => exact hI.pure 5 11 _ rfl (hall 5 (by decide))
      | 12, _ => exact hI.pure 6 12 _ rfl (hall 6 (by decide))
      | 13, _ => exact hI.pure 7 13 _ rfl (hall 7 (by decide))
      | 14, _ => exact hI.pure 8 14 _ rfl (hall 8 (by decide))
      | 15, _ => exact hI.pure 9 15 _ rfl (hall 9 (by decide))
      | 16, _ => exact hI.pure 10 16 _ rfl (hall 10 (by decide))
      | q + 17, hq => exact absurd hq (by omega))
    rename_i K2 hK2
    refine hK2 _ _ ?_
    go_wp2_with fail
    go_ret2
    exact ⟨rfl, (K.out _ hw).1⟩

theorem rweak_of {s0 s1 s2 s3 s4 s5 : Int} {a v e : Int} {q : Bool} (T1 : Hid (∀ w1 : World, Calls Tryz.prog 30 #[.int .i64 a, .int .i64 0, .int .i64 (IntKind.i64.wrap (s4 - 1))] w1 fun e w' => e = .returned (.bool q) ∧ w' = w1)) (PL : Hid (∀ w1 : World, Calls Tryz.prog 73 #[.agg #[.int .i64 s0, .int .i64 s1, .int .i64 s2, .int .i64 s3, .int .i64 s4, .int .i64 s5], .bool q, .int .i64 (IntKind.i64.wrap ((IntKind.i64.wrap ((IntKind.i64.wrap (8 + s2)) + (IntKind.i64.wrap (s2 * s3)))) + a))] w1 fun e' w' => e' = .returned (.tuple #[.int .i64 v, .int .i64 e]) ∧ Below w1.heap.size w1 w')) (w : World) : Calls Tryz.prog 38 #[.agg #[.int .i64 s0, .int .i64 s1, .int .i64 s2, .int .i64 s3, .int .i64 s4, .int .i64 s5], .int .i64 a] w fun e' w' => e' = .returned (.tuple #[.int .i64 v, .int .i64 e]) ∧ Below w.heap.size w w' := by
  obtain ⟨W0, hW0, B0, K⟩ := box w s0 s1 s2 s3 s4 s5
  have HB := hide B0
  obtain ⟨-, l0, x0, x1, x2, x3, x4, x5⟩ := K.out W0 (Below.refl _ _)
  clear B0
  go_enter Tryz.func38, Tryz.ntmps38
  go_wp2_with fail
  refine Lt.region (ks := [(0, 6), (1, 7), (2, 8), (3, 9), (4, 10), (5, 11), (6, 12), (7, 13), (8, 14), (9, 15), (10, 16), (11, 17), (12, 18), (13, 19), (14, 20), (15, 21), (16, 22), (17, 23), (18, 24), (19, 25), (20, 4), (21, 5)]) (vals := fun iv => match iv with
      | 0 => .agg #[.int .i64 s0, .int .i64 s1, .int .i64 s2, .int .i64 s3, .int .i64 s4, .int .i64 s5]
      | 1 => .int .i64 a
      | 2 => .pointer (some ⟨w.heap.size, 4, none⟩)
      | 3 => .int .i64 s4
      | 4 => .int .i64 (IntKind.i64.wrap (s4 - 1))
      | 5 => .bool q
      | 6 => .pointer (some ⟨w.heap.size, 2, none⟩)
      | 7 => .int .i64 s2
      | 8 => .int .i64 (IntKind.i64.wrap (8 + s2))
      | 9 => .pointer (some ⟨w.heap.size, 2, none⟩)
      | 10 => .int .i64 s2
      | 11 => .pointer (some ⟨w.heap.size, 3, none⟩)
      | 12 => .int .i64 s3
      | 13 => .int .i64 (IntKind.i64.wrap (s2 * s3))
      | 14 => .int .i64 (IntKind.i64.wrap ((IntKind.i64.wrap (8 + s2)) + (IntKind.i64.wrap (s2 * s3))))
      | 15 => .int .i64 a
      | 16 => .int .i64 (IntKind.i64.wrap ((IntKind.i64.wrap ((IntKind.i64.wrap (8 + s2)) + (IntKind.i64.wrap (s2 * s3)))) + a))
      | 17 => .tuple #[.int .i64 v, .int .i64 e]
      | 18 => .int .i64 v
      | 19 => .int .i64 e
      | 20 => .int .i64 v
      | 21 => .int .i64 e
      | _ => undef) (WI := fun w' => Below W0.heap.size W0 w') (by kernel_rfl) ?bk rfl ?dd (⟨rfl, rfl, rfl, Nat.le_refl _, fun _ _ => rfl⟩) ?does ?fin
  case bk =>
    intro iq oq ho
    have hiq : iq < 22 := by have := (Array.getElem?_eq_some_iff.1 ho).1; simpa using this
    match iq, hiq with
    | 0, _ | 1, _ | 2, _ | 3, _ | 4, _ | 5, _ | 6, _ | 7, _ | 8, _ | 9, _ | 10, _ | 11, _ | 12, _ | 13, _ | 14, _ | 15, _ | 16, _ | 17, _ | 18, _ | 19, _ | 20, _ | 21, _ => injection ho with ho; subst ho; simp [Region.binds]
  case dd =>
    intro k hk
    have hk' : k < 26 := by
      simp [Lt.D] at hk
      omega
    simpa using hk'
  case does =>
    intro iq oq ho
    have hiq : iq < 22 := by have := (Array.getElem?_eq_some_iff.1 ho).1; simpa using this
    match iq, hiq with
    | 0, _ => injection ho with ho; subst ho; exact Lt.Does.read rfl (fun Lq aq w' hI hq => Lt.wn0 rfl) (fun Lq aq w' hI hq => Lt.ex_load_row rfl (hI.fix 2 (Lt.notD rfl)) (by obtain ⟨-, -, y0, y1, y2, y3, y4, y5⟩ := K.out w' hI.world; exact rng y0 y1 y2 y3 y4 y5) (by kernel_rfl) (by kernel_rfl))
    | 1, _ => injection ho with ho; subst ho; exact Lt.Does.read rfl (fun Lq aq w' hI hq => Lt.wn0 rfl) (fun Lq aq w' hI hq => Lt.ex_move rfl (hI.fix 1 (Lt.notD rfl)))
    | 2, _ => injection ho with ho; subst ho; exact Lt.Does.read rfl (fun Lq aq w' hI hq => Lt.wn0 rfl) (fun Lq aq w' hI hq => Lt.ex_field rfl (hI.fix 2 (Lt.notD rfl)) (by simp [go_sem]))
    | 3, _ => injection ho with ho; subst ho; exact Lt.Does.read rfl (fun Lq aq w' hI hq => Lt.wn0 rfl) (fun Lq aq w' hI hq => Lt.ex_load rfl (hI.pure 2 _ _ rfl (hq ⟨2, .data⟩ (by simp) rfl)) (by simp [go_sem]) (by obtain ⟨-, -, y0, y1, y2, y3, y4, y5⟩ := K.out w' hI.world; exact y4))
    | 4, _ => injection ho with ho; subst ho; exact Lt.Does.read rfl (fun Lq aq w' hI hq => Lt.wn0 rfl) (fun Lq aq w' hI hq => Lt.ex_subI rfl (hI.pure 3 _ _ rfl (hq ⟨3, .data⟩ (by simp) rfl)) rfl rfl)
    | 5, _ => injection ho with ho; subst ho; exact Lt.Does.call rfl (fun Lq aq w' hI hq => Lt.wn0 rfl) (fun Lq aq w' hI hq => Lt.call3 rfl (hI.pure 1 _ _ rfl (hq ⟨1, .data⟩ (by simp) rfl)) rfl (hI.pure 4 _ _ rfl (hq ⟨4, .data⟩ (by simp) rfl)) rfl (by simp [go_sem])) (fun w1 hw1 => (T1.out w1).mono (by rintro e w2 ⟨rfl, hw2⟩; obtain rfl := hw2.symm; exact ⟨rfl, hw1⟩))
    | 6, _ => injection ho with ho; subst ho; exact Lt.Does.read rfl (fun Lq aq w' hI hq => Lt.wn0 rfl) (fun Lq aq w' hI hq => Lt.ex_field rfl (hI.fix 2 (Lt.notD rfl)) (by simp [go_sem]))
    | 7, _ => injection ho with ho; subst ho; exact Lt.Does.read rfl (fun Lq aq w' hI hq => Lt.wn0 rfl) (fun Lq aq w' hI hq => Lt.ex_load rfl (hI.pure 6 _ _ rfl (hq ⟨6, .data⟩ (by simp) rfl)) (by simp [go_sem]) (by obtain ⟨-, -, y0, y1, y2, y3, y4, y5⟩ := K.out w' hI.world; exact y2))
    | 8, _ => injection ho with ho; subst ho; exact Lt.Does.read rfl (fun Lq aq w' hI hq => Lt.wn0 rfl) (fun Lq aq w' hI hq => Lt.ex_addI rfl rfl (hI.pure 7 _ _ rfl (hq ⟨7, .data⟩ (by simp) rfl)) rfl)
    | 9, _ => injection ho with ho; subst ho; exact Lt.Does.read rfl (fun Lq aq w' hI hq => Lt.wn0 rfl) (fun Lq aq w' hI hq => Lt.ex_field rfl (hI.fix 2 (Lt.notD rfl)) (by simp [go_sem]))
    | 10, _ => injection ho with ho; subst ho; exact Lt.Does.read rfl (fun Lq aq w' hI hq => Lt.wn0 rfl) (fun Lq aq w' hI hq => Lt.ex_load rfl (hI.pure 9 _ _ rfl (hq ⟨9, .data⟩ (by simp) rfl)) (by simp [go_sem]) (by obtain ⟨-, -, y0, y1, y2, y3, y4, y5⟩ := K.out w' hI.world; exact y2))
    | 11, _ => injection ho with ho; subst ho; exact Lt.Does.read rfl (fun Lq aq w' hI hq => Lt.wn0 rfl) (fun Lq aq w' hI hq => Lt.ex_field rfl (hI.fix 2 (Lt.notD rfl)) (by simp [go_sem]))
    | 12, _ => injection ho with ho; subst ho; exact Lt.Does.read rfl (fun Lq aq w' hI hq => Lt.wn0 rfl) (fun Lq aq w' hI hq => Lt.ex_load rfl (hI.pure 11 _ _ rfl (hq ⟨11, .data⟩ (by simp) rfl)) (by simp [go_sem]) (by obtain ⟨-, -, y0, y1, y2, y3, y4, y5⟩ := K.out w' hI.world; exact y3))
    | 13, _ => injection ho with ho; subst ho; exact Lt.Does.read rfl (fun Lq aq w' hI hq => Lt.wn0 rfl) (fun Lq aq w' hI hq => Lt.ex_mulI rfl (hI.pure 10 _ _ rfl (hq ⟨10, .data⟩ (by simp) rfl)) (hI.pure 12 _ _ rfl (hq ⟨12, .data⟩ (by simp) rfl)) rfl)
    | 14, _ => injection ho with ho; subst ho; exact Lt.Does.read rfl (fun Lq aq w' hI hq => Lt.wn0 rfl) (fun Lq aq w' hI hq => Lt.ex_addI rfl (hI.pure 8 _ _ rfl (hq ⟨8, .data⟩ (by simp) rfl)) (hI.pure 13 _ _ rfl (hq ⟨13, .data⟩ (by simp) rfl)) rfl)
    | 15, _ => injection ho with ho; subst ho; exact Lt.Does.read rfl (fun Lq aq w' hI hq => Lt.wn0 rfl) (fun Lq aq w' hI hq => Lt.ex_move rfl (hI.fix 1 (Lt.notD rfl)))
    | 16, _ => injection ho with ho; subst ho; exact Lt.Does.read rfl (fun Lq aq w' hI hq => Lt.wn0 rfl) (fun Lq aq w' hI hq => Lt.ex_addI rfl (hI.pure 14 _ _ rfl (hq ⟨14, .data⟩ (by simp) rfl)) (hI.pure 15 _ _ rfl (hq ⟨15, .data⟩ (by simp) rfl)) rfl)
    | 17, _ => injection ho with ho; subst ho; exact Lt.Does.call rfl (fun Lq aq w' hI hq => Lt.wn0 rfl) (fun Lq aq w' hI hq => Lt.call3 rfl (hI.pure 0 _ _ rfl (hq ⟨0, .data⟩ (by simp) rfl)) (hI.pure 5 _ _ rfl (hq ⟨5, .data⟩ (by simp) rfl)) (hI.pure 16 _ _ rfl (hq ⟨16, .data⟩ (by simp) rfl)) rfl (by simp [go_sem])) (fun w1 hw1 => (PL.out w1).mono (by rintro e w2 ⟨rfl, hb⟩; exact ⟨rfl, hw1.trans (hb.mono hw1.size)⟩))
    | 18, _ => injection ho with ho; subst ho; exact Lt.Does.read rfl (fun Lq aq w' hI hq => Lt.wn0 rfl) (fun Lq aq w' hI hq => Lt.ex_extract rfl (hI.pure 17 _ _ rfl (hq ⟨17, .data⟩ (by simp) rfl)) rfl)
    | 19, _ => injection ho with ho; subst ho; exact Lt.Does.read rfl (fun Lq aq w' hI hq => Lt.wn0 rfl) (fun Lq aq w' hI hq => Lt.ex_extract rfl (hI.pure 17 _ _ rfl (hq ⟨17, .data⟩ (by simp) rfl)) rfl)
    | 20, _ => injection ho with ho; subst ho; exact Lt.Does.read rfl (fun Lq aq w' hI hq => Lt.wn0 rfl) (fun Lq aq w' hI hq => Lt.ex_assign rfl (hI.pure 18 _ _ rfl (hq ⟨18, .data⟩ (by simp) rfl)))
    | 21, _ => injection ho with ho; subst ho; exact Lt.Does.read rfl (fun Lq aq w' hI hq => Lt.wn0 rfl) (fun Lq aq w' hI hq => Lt.ex_assign rfl (hI.pure 19 _ _ rfl (hq ⟨19, .data⟩ (by simp) rfl)))
  case fin =>
    intro Lq a' w' hI hall
    have hw := hI.world
    obtain rfl : a' = ⟨#[.agg #[.int .i64 s0, .int .i64 s1, .int .i64 s2, .int .i64 s3, .int .i64 s4, .int .i64 s5], .int .i64 a, .pointer (some ⟨w.heap.size, 0, none⟩), undef, .int .i64 v, .int .i64 e, .agg #[.int .i64 s0, .int .i64 s1, .int .i64 s2, .int .i64 s3, .int .i64 s4, .int .i64 s5], .int .i64 a, .pointer (some ⟨w.heap.size, 4, none⟩), .int .i64 s4, .int .i64 (IntKind.i64.wrap (s4 - 1)), .bool q, .pointer (some ⟨w.heap.size, 2, none⟩), .int .i64 s2, .int .i64 (IntKind.i64.wrap (8 + s2)), .pointer (some ⟨w.heap.size, 2, none⟩), .int .i64 s2, .pointer (some ⟨w.heap.size, 3, none⟩), .int .i64 s3, .int .i64 (IntKind.i64.wrap (s2 * s3)), .int .i64 (IntKind.i64.wrap ((IntKind.i64.wrap (8 + s2)) + (IntKind.i64.wrap (s2 * s3)))), .int .i64 a, .int .i64 (IntKind.i64.wrap ((IntKind.i64.wrap ((IntKind.i64.wrap (8 + s2)) + (IntKind.i64.wrap (s2 * s3)))) + a)), .tuple #[.int .i64 v, .int .i64 e], .int .i64 v, .int .i64 e], []⟩ := Lt.act_eq a' [.agg #[.int .i64 s0, .int .i64 s1, .int .i64 s2, .int .i64 s3, .int .i64 s4, .int .i64 s5], .int .i64 a, .pointer (some ⟨w.heap.size, 0, none⟩), undef, .int .i64 v, .int .i64 e, .agg #[.int .i64 s0, .int .i64 s1, .int .i64 s2, .int .i64 s3, .int .i64 s4, .int .i64 s5], .int .i64 a, .pointer (some ⟨w.heap.size, 4, none⟩), .int .i64 s4, .int .i64 (IntKind.i64.wrap (s4 - 1)), .bool q, .pointer (some ⟨w.heap.size, 2, none⟩), .int .i64 s2, .int .i64 (IntKind.i64.wrap (8 + s2)), .pointer (some ⟨w.heap.size, 2, none⟩), .int .i64 s2, .pointer (some ⟨w.heap.size, 3, none⟩), .int .i64 s3, .int .i64 (IntKind.i64.wrap (s2 * s3)), .int .i64 (IntKind.i64.wrap ((IntKind.i64.wrap (8 + s2)) + (IntKind.i64.wrap (s2 * s3)))), .int .i64 a, .int .i64 (IntKind.i64.wrap ((IntKind.i64.wrap ((IntKind.i64.wrap (8 + s2)) + (IntKind.i64.wrap (s2 * s3)))) + a)), .tuple #[.int .i64 v, .int .i64 e], .int .i64 v, .int .i64 e] hI.df (by rw [hI.sz]; rfl) (fun k hk => by
      have hk' : k < 26 := hk
      match k, hk' with
      | 0, _ => exact hI.fix 0 (Lt.notD rfl)
      | 1, _ => exact hI.fix 1 (Lt.notD rfl)
      | 2, _ => exact hI.fix 2 (Lt.notD rfl)
      | 3, _ => exact hI.fix 3 (Lt.notD rfl)
      | 4, _ => exact hI.pure 20 4 _ rfl (hall 20 (by decide))
      | 5, _ => exact hI.pure 21 5 _ rfl (hall 21 (by decide))
      | 6, _ => exact hI.pure 0 6 _ rfl (hall 0 (by decide))
      | 7, _ => exact hI.pure 1 7 _ rfl (hall 1 (by decide))
      | 8, _ => exact hI.pure 2 8 _ rfl (hall 2 (by decide))
      | 9, _ => exact hI.pure 3 9 _ rfl (hall 3 (by decide))
      | 10, _ => exact hI.pure 4 10 _ rfl (hall 4 (by decide))
      | 11, _ => exact hI.pure 5 11 _ rfl (hall 5 (by decide))
      | 12, _ => exact hI.pure 6 12 _ rfl (hall 6 (by decide))
      | 13, _ => exact hI.pure 7 13 _ rfl (hall 7 (by decide))
      | 14, _ => exact hI.pure 8 14 _ rfl (hall 8 (by decide))
      | 15, _ => exact hI.pure 9 15 _ rfl (hall 9 (by decide))
      | 16, _ => exact hI.pure 10 16 _ rfl (hall 10 (by decide))
      | 17, _ => exact hI.pure 11 17 _ rfl (hall 11 (by decide))
      | 18, _ => exact hI.pure 12 18 _ rfl (hall 12 (by decide))
      | 19, _ => exact hI.pure 13 19 _ rfl (hall 13 (by decide))
      | 20, _ => exact hI.pure 14 20 _ rfl (hall 14 (by decide))
      | 21, _ => exact hI.pure 15 21 _ rfl (hall 15 (by decide))
      | 22, _ => exact hI.pure 16 22 _ rfl (hall 16 (by decide))
      | 23, _ => exact hI.pure 17 23 _ rfl (hall 17 (by decide))
      | 24, _ => exact hI.pure 18 24 _ rfl (hall 18 (by decide))
      | 25, _ => exact hI.pure 19 25 _ rfl (hall 19 (by decide))
      | q + 26, hq => exact absurd hq (by omega))
    rename_i K2 hK2
    refine hK2 _ _ ?_
    go_wp2_with fail
    go_ret2
    exact ⟨rfl, (K.out _ hw).1⟩

theorem robject_of {s0 s1 s2 s3 s4 s5 : Int} {a v e : Int} {q : Bool} (T1 : Hid (∀ w1 : World, Calls Tryz.prog 30 #[.int .i64 a, .int .i64 1, .int .i64 s0] w1 fun e w' => e = .returned (.bool q) ∧ w' = w1)) (PL : Hid (∀ w1 : World, Calls Tryz.prog 73 #[.agg #[.int .i64 s0, .int .i64 s1, .int .i64 s2, .int .i64 s3, .int .i64 s4, .int .i64 s5], .bool q, .int .i64 (IntKind.i64.wrap ((IntKind.i64.wrap ((IntKind.i64.wrap ((IntKind.i64.wrap (8 + s2)) + (IntKind.i64.wrap (s2 * s3)))) + s4)) + (IntKind.i64.wrap ((IntKind.i64.wrap (a - 1)) * (IntKind.i64.wrap (3 + s1))))))] w1 fun e' w' => e' = .returned (.tuple #[.int .i64 v, .int .i64 e]) ∧ Below w1.heap.size w1 w')) (w : World) : Calls Tryz.prog 39 #[.agg #[.int .i64 s0, .int .i64 s1, .int .i64 s2, .int .i64 s3, .int .i64 s4, .int .i64 s5], .int .i64 a] w fun e' w' => e' = .returned (.tuple #[.int .i64 v, .int .i64 e]) ∧ Below w.heap.size w w' := by
  obtain ⟨W0, hW0, B0, K⟩ := box w s0 s1 s2 s3 s4 s5
  have HB := hide B0
  obtain ⟨-, l0, x0, x1, x2, x3, x4, x5⟩ := K.out W0 (Below.refl _ _)
  clear B0
  go_enter Tryz.func39, Tryz.ntmps39
  go_wp2_with fail
  refine Lt.region (ks := [(0, 6), (1, 7), (2, 8), (3, 9), (4, 10), (5, 11), (6, 12), (7, 13), (8, 14), (9, 15), (10, 16), (11, 17), (12, 18), (13, 19), (14, 20), (15, 21), (16, 22), (17, 23), (18, 24), (19, 25), (20, 26), (21, 27), (22, 28), (23, 29), (24, 30), (25, 31), (26, 32), (27, 4), (28, 5)]) (vals := fun iv => match iv with
      | 0 => .agg #[.int .i64 s0, .int .i64 s1, .int .i64 s2, .int .i64 s3, .int .i64 s4, .int .i64 s5]
      | 1 => .int .i64 a
      | 2 => .pointer (some ⟨w.heap.size, 0, none⟩)
      | 3 => .int .i64 s0
      | 4 => .bool q
      | 5 => .pointer (some ⟨w.heap.size, 2, none⟩)
      | 6 => .int .i64 s2
      | 7 => .int .i64 (IntKind.i64.wrap (8 + s2))
      | 8 => .pointer (some ⟨w.heap.size, 2, none⟩)
      | 9 => .int .i64 s2
      | 10 => .pointer (some ⟨w.heap.size, 3, none⟩)
      | 11 => .int .i64 s3
      | 12 => .int .i64 (IntKind.i64.wrap (s2 * s3))
      | 13 => .int .i64 (IntKind.i64.wrap ((IntKind.i64.wrap (8 + s2)) + (IntKind.i64.wrap (s2 * s3))))
      | 14 => .pointer (some ⟨w.heap.size, 4, none⟩)
      | 15 => .int .i64 s4
      | 16 => .int .i64 (IntKind.i64.wrap ((IntKind.i64.wrap ((IntKind.i64.wrap (8 + s2)) + (IntKind.i64.wrap (s2 * s3)))) + s4))
      | 17 => .int .i64 a
      | 18 => .int .i64 (IntKind.i64.wrap (a - 1))
      | 19 => .pointer (some ⟨w.heap.size, 1, none⟩)
      | 20 => .int .i64 s1
      | 21 => .int .i64 (IntKind.i64.wrap (3 + s1))
      | 22 => .int .i64 (IntKind.i64.wrap ((IntKind.i64.wrap (a - 1)) * (IntKind.i64.wrap (3 + s1))))
      | 23 => .int .i64 (IntKind.i64.wrap ((IntKind.i64.wrap ((IntKind.i64.wrap ((IntKind.i64.wrap (8 + s2)) + (IntKind.i64.wrap (s2 * s3)))) + s4)) + (IntKind.i64.wrap ((IntKind.i64.wrap (a - 1)) * (IntKind.i64.wrap (3 + s1))))))
      | 24 => .tuple #[.int .i64 v, .int .i64 e]
      | 25 => .int .i64 v
      | 26 => .int .i64 e
      | 27 => .int .i64 v
      | 28 => .int .i64 e
      | _ => undef) (WI := fun w' => Below W0.heap.size W0 w') (by kernel_rfl) ?bk rfl ?dd (⟨rfl, rfl, rfl, Nat.le_refl _, fun _ _ => rfl⟩) ?does ?fin
  case bk =>
    intro iq oq ho
    have hiq : iq < 29 := by have := (Array.getElem?_eq_some_iff.1 ho).1; simpa using this
    match iq, hiq with
    | 0, _ | 1, _ | 2, _ | 3, _ | 4, _ | 5, _ | 6, _ | 7, _ | 8, _ | 9, _ | 10, _ | 11, _ | 12, _ | 13, _ | 14, _ | 15, _ | 16, _ | 17, _ | 18, _ | 19, _ | 20, _ | 21, _ | 22, _ | 23, _ | 24, _ | 25, _ | 26, _ | 27, _ | 28, _ => injection ho with ho; subst ho; simp [Region.binds]
  case dd =>
    intro k hk
    have hk' : k < 33 := by
      simp [Lt.D] at hk
      omega
    simpa using hk'
  case does =>
    intro iq oq ho
    have hiq : iq < 29 := by have := (Array.getElem?_eq_some_iff.1 ho).1; simpa using this
    match iq, hiq with
    | 0, _ => injection ho with ho; subst ho; exact Lt.Does.read rfl (fun Lq aq w' hI hq => Lt.wn0 rfl) (fun Lq aq w' hI hq => Lt.ex_load_row rfl (hI.fix 2 (Lt.notD rfl)) (by obtain ⟨-, -, y0, y1, y2, y3, y4, y5⟩ := K.out w' hI.world; exact rng y0 y1 y2 y3 y4 y5) (by kernel_rfl) (by kernel_rfl))
    | 1, _ => injection ho with ho; subst ho; exact Lt.Does.read rfl (fun Lq aq w' hI hq => Lt.wn0 rfl) (fun Lq aq w' hI hq => Lt.ex_move rfl (hI.fix 1 (Lt.notD rfl)))
    | 2, _ => injection ho with ho; subst ho; exact Lt.Does.read rfl (fun Lq aq w' hI hq => Lt.wn0 rfl) (fun Lq aq w' hI hq => Lt.ex_field rfl (hI.fix 2 (Lt.notD rfl)) (by simp [go_sem]))
    | 3, _ => injection ho with ho; subst ho; exact Lt.Does.read rfl (fun Lq aq w' hI hq => Lt.wn0 rfl) (fun Lq aq w' hI hq => Lt.ex_load rfl (hI.pure 2 _ _ rfl (hq ⟨2, .data⟩ (by simp) rfl)) (by simp [go_sem]) (by obtain ⟨-, -, y0, y1, y2, y3, y4, y5⟩ := K.out w' hI.world; exact y0))
    | 4, _ => injection ho with ho; subst ho; exact Lt.Does.call rfl (fun Lq aq w' hI hq => Lt.wn0 rfl) (fun Lq aq w' hI hq => Lt.call3 rfl (hI.pure 1 _ _ rfl (hq ⟨1, .data⟩ (by simp) rfl)) rfl (hI.pure 3 _ _ rfl (hq ⟨3, .data⟩ (by simp) rfl)) rfl (by simp [go_sem])) (fun w1 hw1 => (T1.out w1).mono (by rintro e w2 ⟨rfl, hw2⟩; obtain rfl := hw2.symm; exact ⟨rfl, hw1⟩))
    | 5, _ => injection ho with ho; subst ho; exact Lt.Does.read rfl (fun Lq aq w' hI hq => Lt.wn0 rfl) (fun Lq aq w' hI hq => Lt.ex_field rfl (hI.fix 2 (Lt.notD rfl)) (by simp [go_sem]))
    | 6, _ => injection ho with ho; subst ho; exact Lt.Does.read rfl (fun Lq aq w' hI hq => Lt.wn0 rfl) (fun Lq aq w' hI hq => Lt.ex_load rfl (hI.pure 5 _ _ rfl (hq ⟨5, .data⟩ (by simp) rfl)) (by simp [go_sem]) (by obtain ⟨-, -, y0, y1, y2, y3, y4, y5⟩ := K.out w' hI.world; exact y2))
    | 7, _ => injection ho with ho; subst ho; exact Lt.Does.read rfl (fun Lq aq w' hI hq => Lt.wn0 rfl) (fun Lq aq w' hI hq => Lt.ex_addI rfl rfl (hI.pure 6 _ _ rfl (hq ⟨6, .data⟩ (by simp) rfl)) rfl)
    | 8, _ => injection ho with ho; subst ho; exact Lt.Does.read rfl (fun Lq aq w' hI hq => Lt.wn0 rfl) (fun Lq aq w' hI hq => Lt.ex_field rfl (hI.fix 2 (Lt.notD rfl)) (by simp [go_sem]))
    | 9, _ => injection ho with ho; subst ho; exact Lt.Does.read rfl (fun Lq aq w' hI hq => Lt.wn0 rfl) (fun Lq aq w' hI hq => Lt.ex_load rfl (hI.pure 8 _ _ rfl (hq ⟨8, .data⟩ (by simp) rfl)) (by simp [go_sem]) (by obtain ⟨-, -, y0, y1, y2, y3, y4, y5⟩ := K.out w' hI.world; exact y2))
    | 10, _ => injection ho with ho; subst ho; exact Lt.Does.read rfl (fun Lq aq w' hI hq => Lt.wn0 rfl) (fun Lq aq w' hI hq => Lt.ex_field rfl (hI.fix 2 (Lt.notD rfl)) (by simp [go_sem]))
    | 11, _ => injection ho with ho; subst ho; exact Lt.Does.read rfl (fun Lq aq w' hI hq => Lt.wn0 rfl) (fun Lq aq w' hI hq => Lt.ex_load rfl (hI.pure 10 _ _ rfl (hq ⟨10, .data⟩ (by simp) rfl)) (by simp [go_sem]) (by obtain ⟨-, -, y0, y1, y2, y3, y4, y5⟩ := K.out w' hI.world; exact y3))
    | 12, _ => injection ho with ho; subst ho; exact Lt.Does.read rfl (fun Lq aq w' hI hq => Lt.wn0 rfl) (fun Lq aq w' hI hq => Lt.ex_mulI rfl (hI.pure 9 _ _ rfl (hq ⟨9, .data⟩ (by simp) rfl)) (hI.pure 11 _ _ rfl (hq ⟨11, .data⟩ (by simp) rfl)) rfl)
    | 13, _ => injection ho with ho; subst ho; exact Lt.Does.read rfl (fun Lq aq w' hI hq => Lt.wn0 rfl) (fun Lq aq w' hI hq => Lt.ex_addI rfl (hI.pure 7 _ _ rfl (hq ⟨7, .data⟩ (by simp) rfl)) (hI.pure 12 _ _ rfl (hq ⟨12, .data⟩ (by simp) rfl)) rfl)
    | 14, _ => injection ho with ho; subst ho; exact Lt.Does.read rfl (fun Lq aq w' hI hq => Lt.wn0 rfl) (fun Lq aq w' hI hq => Lt.ex_field rfl (hI.fix 2 (Lt.notD rfl)) (by simp [go_sem]))
    | 15, _ => injection ho with ho; subst ho; exact Lt.Does.read rfl (fun Lq aq w' hI hq => Lt.wn0 rfl) (fun Lq aq w' hI hq => Lt.ex_load rfl (hI.pure 14 _ _ rfl (hq ⟨14, .data⟩ (by simp) rfl)) (by simp [go_sem]) (by obtain ⟨-, -, y0, y1, y2, y3, y4, y5⟩ := K.out w' hI.world; exact y4))
    | 16, _ => injection ho with ho; subst ho; exact Lt.Does.read rfl (fun Lq aq w' hI hq => Lt.wn0 rfl) (fun Lq aq w' hI hq => Lt.ex_addI rfl (hI.pure 13 _ _ rfl (hq ⟨13, .data⟩ (by simp) rfl)) (hI.pure 15 _ _ rfl (hq ⟨15, .data⟩ (by simp) rfl)) rfl)
    | 17, _ => injection ho with ho; subst ho; exact Lt.Does.read rfl (fun Lq aq w' hI hq => Lt.wn0 rfl) (fun Lq aq w' hI hq => Lt.ex_move rfl (hI.fix 1 (Lt.notD rfl)))
    | 18, _ => injection ho with ho; subst ho; exact Lt.Does.read rfl (fun Lq aq w' hI hq => Lt.wn0 rfl) (fun Lq aq w' hI hq => Lt.ex_subI rfl (hI.pure 17 _ _ rfl (hq ⟨17, .data⟩ (by simp) rfl)) rfl rfl)
    | 19, _ => injection ho with ho; subst ho; exact Lt.Does.read rfl (fun Lq aq w' hI hq => Lt.wn0 rfl) (fun Lq aq w' hI hq => Lt.ex_field rfl (hI.fix 2 (Lt.notD rfl)) (by simp [go_sem]))
    | 20, _ => injection ho with ho; subst ho; exact Lt.Does.read rfl (fun Lq aq w' hI hq => Lt.wn0 rfl) (fun Lq aq w' hI hq => Lt.ex_load rfl (hI.pure 19 _ _ rfl (hq ⟨19, .data⟩ (by simp) rfl)) (by simp [go_sem]) (by obtain ⟨-, -, y0, y1, y2, y3, y4, y5⟩ := K.out w' hI.world; exact y1))
    | 21, _ => injection ho with ho; subst ho; exact Lt.Does.read rfl (fun Lq aq w' hI hq => Lt.wn0 rfl) (fun Lq aq w' hI hq => Lt.ex_addI rfl rfl (hI.pure 20 _ _ rfl (hq ⟨20, .data⟩ (by simp) rfl)) rfl)
    | 22, _ => injection ho with ho; subst ho; exact Lt.Does.read rfl (fun Lq aq w' hI hq => Lt.wn0 rfl) (fun Lq aq w' hI hq => Lt.ex_mulI rfl (hI.pure 18 _ _ rfl (hq ⟨18, .data⟩ (by simp) rfl)) (hI.pure 21 _ _ rfl (hq ⟨21, .data⟩ (by simp) rfl)) rfl)
    | 23, _ => injection ho with ho; subst ho; exact Lt.Does.read rfl (fun Lq aq w' hI hq => Lt.wn0 rfl) (fun Lq aq w' hI hq => Lt.ex_addI rfl (hI.pure 16 _ _ rfl (hq ⟨16, .data⟩ (by simp) rfl)) (hI.pure 22 _ _ rfl (hq ⟨22, .data⟩ (by simp) rfl)) rfl)
    | 24, _ => injection ho with ho; subst ho; exact Lt.Does.call rfl (fun Lq aq w' hI hq => Lt.wn0 rfl) (fun Lq aq w' hI hq => Lt.call3 rfl (hI.pure 0 _ _ rfl (hq ⟨0, .data⟩ (by simp) rfl)) (hI.pure 4 _ _ rfl (hq ⟨4, .data⟩ (by simp) rfl)) (hI.pure 23 _ _ rfl (hq ⟨23, .data⟩ (by simp) rfl)) rfl (by simp [go_sem])) (fun w1 hw1 => (PL.out w1).mono (by rintro e w2 ⟨rfl, hb⟩; exact ⟨rfl, hw1.trans (hb.mono hw1.size)⟩))
    | 25, _ => injection ho with ho; subst ho; exact Lt.Does.read rfl (fun Lq aq w' hI hq => Lt.wn0 rfl) (fun Lq aq w' hI hq => Lt.ex_extract rfl (hI.pure 24 _ _ rfl (hq ⟨24, .data⟩ (by simp) rfl)) rfl)
    | 26, _ => injection ho with ho; subst ho; exact Lt.Does.read rfl (fun Lq aq w' hI hq => Lt.wn0 rfl) (fun Lq aq w' hI hq => Lt.ex_extract rfl (hI.pure 24 _ _ rfl (hq ⟨24, .data⟩ (by simp) rfl)) rfl)
    | 27, _ => injection ho with ho; subst ho; exact Lt.Does.read rfl (fun Lq aq w' hI hq => Lt.wn0 rfl) (fun Lq aq w' hI hq => Lt.ex_assign rfl (hI.pure 25 _ _ rfl (hq ⟨25, .data⟩ (by simp) rfl)))
    | 28, _ => injection ho with ho; subst ho; exact Lt.Does.read rfl (fun Lq aq w' hI hq => Lt.wn0 rfl) (fun Lq aq w' hI hq => Lt.ex_assign rfl (hI.pure 26 _ _ rfl (hq ⟨26, .data⟩ (by simp) rfl)))
  case fin =>
    intro Lq a' w' hI hall
    have hw := hI.world
    obtain rfl : a' = ⟨#[.agg #[.int .i64 s0, .int .i64 s1, .int .i64 s2, .int .i64 s3, .int .i64 s4, .int .i64 s5], .int .i64 a, .pointer (some ⟨w.heap.size, 0, none⟩), undef, .int .i64 v, .int .i64 e, .agg #[.int .i64 s0, .int .i64 s1, .int .i64 s2, .int .i64 s3, .int .i64 s4, .int .i64 s5], .int .i64 a, .pointer (some ⟨w.heap.size, 0, none⟩), .int .i64 s0, .bool q, .pointer (some ⟨w.heap.size, 2, none⟩), .int .i64 s2, .int .i64 (IntKind.i64.wrap (8 + s2)), .pointer (some ⟨w.heap.size, 2, none⟩), .int .i64 s2, .pointer (some ⟨w.heap.size, 3, none⟩), .int .i64 s3, .int .i64 (IntKind.i64.wrap (s2 * s3)), .int .i64 (IntKind.i64.wrap ((IntKind.i64.wrap (8 + s2)) + (IntKind.i64.wrap (s2 * s3)))), .pointer (some ⟨w.heap.size, 4, none⟩), .int .i64 s4, .int .i64 (IntKind.i64.wrap ((IntKind.i64.wrap ((IntKind.i64.wrap (8 + s2)) + (IntKind.i64.wrap (s2 * s3)))) + s4)), .int .i64 a, .int .i64 (IntKind.i64.wrap (a - 1)), .pointer (some ⟨w.heap.size, 1, none⟩), .int .i64 s1, .int .i64 (IntKind.i64.wrap (3 + s1)), .int .i64 (IntKind.i64.wrap ((IntKind.i64.wrap (a - 1)) * (IntKind.i64.wrap (3 + s1)))), .int .i64 (IntKind.i64.wrap ((IntKind.i64.wrap ((IntKind.i64.wrap ((IntKind.i64.wrap (8 + s2)) + (IntKind.i64.wrap (s2 * s3)))) + s4)) + (IntKind.i64.wrap ((IntKind.i64.wrap (a - 1)) * (IntKind.i64.wrap (3 + s1)))))), .tuple #[.int .i64 v, .int .i64 e], .int .i64 v, .int .i64 e], []⟩ := Lt.act_eq a' [.agg #[.int .i64 s0, .int .i64 s1, .int .i64 s2, .int .i64 s3, .int .i64 s4, .int .i64 s5], .int .i64 a, .pointer (some ⟨w.heap.size, 0, none⟩), undef, .int .i64 v, .int .i64 e, .agg #[.int .i64 s0, .int .i64 s1, .int .i64 s2, .int .i64 s3, .int .i64 s4, .int .i64 s5], .int .i64 a, .pointer (some ⟨w.heap.size, 0, none⟩), .int .i64 s0, .bool q, .pointer (some ⟨w.heap.size, 2, none⟩), .int .i64 s2, .int .i64 (IntKind.i64.wrap (8 + s2)), .pointer (some ⟨w.heap.size, 2, none⟩), .int .i64 s2, .pointer (some ⟨w.heap.size, 3, none⟩), .int .i64 s3, .int .i64 (IntKind.i64.wrap (s2 * s3)), .int .i64 (IntKind.i64.wrap ((IntKind.i64.wrap (8 + s2)) + (IntKind.i64.wrap (s2 * s3)))), .pointer (some ⟨w.heap.size, 4, none⟩), .int .i64 s4, .int .i64 (IntKind.i64.wrap ((IntKind.i64.wrap ((IntKind.i64.wrap (8 + s2)) + (IntKind.i64.wrap (s2 * s3)))) + s4)), .int .i64 a, .int .i64 (IntKind.i64.wrap (a - 1)), .pointer (some ⟨w.heap.size, 1, none⟩), .int .i64 s1, .int .i64 (IntKind.i64.wrap (3 + s1)), .int .i64 (IntKind.i64.wrap ((IntKind.i64.wrap (a - 1)) * (IntKind.i64.wrap (3 + s1)))), .int .i64 (IntKind.i64.wrap ((IntKind.i64.wrap ((IntKind.i64.wrap ((IntKind.i64.wrap (8 + s2)) + (IntKind.i64.wrap (s2 * s3)))) + s4)) + (IntKind.i64.wrap ((IntKind.i64.wrap (a - 1)) * (IntKind.i64.wrap (3 + s1)))))), .tuple #[.int .i64 v, .int .i64 e], .int .i64 v, .int .i64 e] hI.df (by rw [hI.sz]; rfl) (fun k hk => by
      have hk' : k < 33 := hk
      match k, hk' with
      | 0, _ => exact hI.fix 0 (Lt.notD rfl)
      | 1, _ => exact hI.fix 1 (Lt.notD rfl)
      | 2, _ => exact hI.fix 2 (Lt.notD rfl)
      | 3, _ => exact hI.fix 3 (Lt.notD rfl)
      | 4, _ => exact hI.pure 27 4 _ rfl (hall 27 (by decide))
      | 5, _ => exact hI.pure 28 5 _ rfl (hall 28 (by decide))
      | 6, _ => exact hI.pure 0 6 _ rfl (hall 0 (by decide))
      | 7, _ => exact hI.pure 1 7 _ rfl (hall 1 (by decide))
      | 8, _ => exact hI.pure 2 8 _ rfl (hall 2 (by decide))
      | 9, _ => exact hI.pure 3 9 _ rfl (hall 3 (by decide))
      | 10, _ => exact hI.pure 4 10 _ rfl (hall 4 (by decide))
      | 11, _ => exact hI.pure 5 11 _ rfl (hall 5 (by decide))
      | 12, _ => exact hI.pure 6 12 _ rfl (hall 6 (by decide))
      | 13, _ => exact hI.pure 7 13 _ rfl (hall 7 (by decide))
      | 14, _ => exact hI.pure 8 14 _ rfl (hall 8 (by decide))
      | 15, _ => exact hI.pure 9 15 _ rfl (hall 9 (by decide))
      | 16, _ => exact hI.pure 10 16 _ rfl (hall 10 (by decide))
      | 17, _ => exact hI.pure 11 17 _ rfl (hall 11 (by decide))
      | 18, _ => exact hI.pure 12 18 _ rfl (hall 12 (by decide))
      | 19, _ => exact hI.pure 13 19 _ rfl (hall 13 (by decide))
      | 20, _ => exact hI.pure 14 20 _ rfl (hall 14 (by decide))
      | 21, _ => exact hI.pure 15 21 _ rfl (hall 15 (by decide))
      | 22, _ => exact hI.pure 16 22 _ rfl (hall 16 (by decide))
      | 23, _ => exact hI.pure 17 23 _ rfl (hall 17 (by decide))
      | 24, _ => exact hI.pure 18 24 _ rfl (hall 18 (by decide))
      | 25, _ => exact hI.pure 19 25 _ rfl (hall 19 (by decide))
      | 26, _ => exact hI.pure 20 26 _ rfl (hall 20 (by decide))
      | 27, _ => exact hI.pure 21 27 _ rfl (hall 21 (by decide))
      | 28, _ => exact hI.pure 22 28 _ rfl (hall 22 (by decide))
      | 29, _ => exact hI.pure 23 29 _ rfl (hall 23 (by decide))
      | 30, _ => exact hI.pure 24 30 _ rfl (hall 24 (by decide))
      | 31, _ => exact hI.pure 25 31 _ rfl (hall 25 (by decide))
      | 32, _ => exact hI.pure 26 32 _ rfl (hall 26 (by decide))
      | q + 33, hq => exact absurd hq (by omega))
    rename_i K2 hK2
    refine hK2 _ _ ?_
    go_wp2_with fail
    go_ret2
    exact ⟨rfl, (K.out _ hw).1⟩

theorem rroot_t {s0 s1 s2 s3 s4 s5 : Int} {a b v e : Int} {q2 : Bool} (T1 : Hid (∀ w1 : World, Calls Tryz.prog 30 #[.int .i64 a, .int .i64 0, .int .i64 (IntKind.i64.wrap (s2 - 1))] w1 fun e w' => e = .returned (.bool true) ∧ w' = w1)) (T2 : Hid (∀ w1 : World, Calls Tryz.prog 30 #[.int .i64 b, .int .i64 0, .int .i64 (IntKind.i64.wrap (s3 - 1))] w1 fun e w' => e = .returned (.bool q2) ∧ w' = w1)) (PL : Hid (∀ w1 : World, Calls Tryz.prog 73 #[.agg #[.int .i64 s0, .int .i64 s1, .int .i64 s2, .int .i64 s3, .int .i64 s4, .int .i64 s5], .bool q2, .int .i64 (IntKind.i64.wrap ((IntKind.i64.wrap ((IntKind.i64.wrap (8 + s2)) + (IntKind.i64.wrap (a * s3)))) + b))] w1 fun e' w' => e' = .returned (.tuple #[.int .i64 v, .int .i64 e]) ∧ Below w1.heap.size w1 w')) (w : World) : Calls Tryz.prog 37 #[.agg #[.int .i64 s0, .int .i64 s1, .int .i64 s2, .int .i64 s3, .int .i64 s4, .int .i64 s5], .int .i64 a, .int .i64 b] w fun e' w' => e' = .returned (.tuple #[.int .i64 v, .int .i64 e]) ∧ Below w.heap.size w w' := by
  obtain ⟨W0, hW0, B0, K⟩ := box w s0 s1 s2 s3 s4 s5
  have HB := hide B0
  obtain ⟨-, l0, x0, x1, x2, x3, x4, x5⟩ := K.out W0 (Below.refl _ _)
  clear B0
  go_enter Tryz.func37, Tryz.ntmps37
  go_wp2_with fail
  refine Lt.region (ks := [(0, 8), (1, 9), (2, 10), (3, 11), (4, 12), (5, 13), (6, 14), (7, 15), (8, 16), (9, 17), (10, 18), (11, 19), (12, 20), (13, 21), (14, 22), (15, 23), (16, 24), (17, 25), (18, 26), (19, 27), (20, 28), (21, 29), (22, 30), (23, 31), (24, 32), (25, 33), (26, 6), (27, 7)]) (vals := fun iv => match iv with
      | 0 => .agg #[.int .i64 s0, .int .i64 s1, .int .i64 s2, .int .i64 s3, .int .i64 s4, .int .i64 s5]
      | 1 => .int .i64 a
      | 2 => .pointer (some ⟨w.heap.size, 2, none⟩)
      | 3 => .int .i64 s2
      | 4 => .int .i64 (IntKind.i64.wrap (s2 - 1))
      | 5 => .bool true
      | 6 => .bool true
      | 7 => .int .i64 b
      | 8 => .pointer (some ⟨w.heap.size, 3, none⟩)
      | 9 => .int .i64 s3
      | 10 => .int .i64 (IntKind.i64.wrap (s3 - 1))
      | 11 => .bool q2
      | 12 => .bool q2
      | 13 => .pointer (some ⟨w.heap.size, 2, none⟩)
      | 14 => .int .i64 s2
      | 15 => .int .i64 (IntKind.i64.wrap (8 + s2))
      | 16 => .int .i64 a
      | 17 => .pointer (some ⟨w.heap.size, 3, none⟩)
      | 18 => .int .i64 s3
      | 19 => .int .i64 (IntKind.i64.wrap (a * s3))
      | 20 => .int .i64 (IntKind.i64.wrap ((IntKind.i64.wrap (8 + s2)) + (IntKind.i64.wrap (a * s3))))
      | 21 => .int .i64 b
      | 22 => .int .i64 (IntKind.i64.wrap ((IntKind.i64.wrap ((IntKind.i64.wrap (8 + s2)) + (IntKind.i64.wrap (a * s3)))) + b))
      | 23 => .tuple #[.int .i64 v, .int .i64 e]
      | 24 => .int .i64 v
      | 25 => .int .i64 e
      | 26 => .int .i64 v
      | 27 => .int .i64 e
      | _ => undef) (WI := fun w' => Below W0.heap.size W0 w') (by kernel_rfl) ?bk rfl ?dd (⟨rfl, rfl, rfl, Nat.le_refl _, fun _ _ => rfl⟩) ?does ?fin
  case bk =>
    intro iq oq ho
    have hiq : iq < 28 := by have := (Array.getElem?_eq_some_iff.1 ho).1; simpa using this
    match iq, hiq with
    | 0, _ | 1, _ | 2, _ | 3, _ | 4, _ | 5, _ | 6, _ | 7, _ | 8, _ | 9, _ | 10, _ | 11, _ | 12, _ | 13, _ | 14, _ | 15, _ | 16, _ | 17, _ | 18, _ | 19, _ | 20, _ | 21, _ | 22, _ | 23, _ | 24, _ | 25, _ | 26, _ | 27, _ => injection ho with ho; subst ho; simp [Region.binds]
  case dd =>
    intro k hk
    have hk' : k < 34 := by
      simp [Lt.D] at hk
      omega
    simpa using hk'
  case does =>
    intro iq oq ho
    have hiq : iq < 28 := by have := (Array.getElem?_eq_some_iff.1 ho).1; simpa using this
    match iq, hiq with
    | 0, _ => injection ho with ho; subst ho; exact Lt.Does.read rfl (fun Lq aq w' hI hq => Lt.wn0 rfl) (fun Lq aq w' hI hq => Lt.ex_load_row rfl (hI.fix 3 (Lt.notD rfl)) (by obtain ⟨-, -, y0, y1, y2, y3, y4, y5⟩ := K.out w' hI.world; exact rng y0 y1 y2 y3 y4 y5) (by kernel_rfl) (by kernel_rfl))
    | 1, _ => injection ho with ho; subst ho; exact Lt.Does.read rfl (fun Lq aq w' hI hq => Lt.wn0 rfl) (fun Lq aq w' hI hq => Lt.ex_move rfl (hI.fix 1 (Lt.notD rfl)))
    | 2, _ => injection ho with ho; subst ho; exact Lt.Does.read rfl (fun Lq aq w' hI hq => Lt.wn0 rfl) (fun Lq aq w' hI hq => Lt.ex_field rfl (hI.fix 3 (Lt.notD rfl)) (by simp [go_sem]))
    | 3, _ => injection ho with ho; subst ho; exact Lt.Does.read rfl (fun Lq aq w' hI hq => Lt.wn0 rfl) (fun Lq aq w' hI hq => Lt.ex_load rfl (hI.pure 2 _ _ rfl (hq ⟨2, .data⟩ (by simp) rfl)) (by simp [go_sem]) (by obtain ⟨-, -, y0, y1, y2, y3, y4, y5⟩ := K.out w' hI.world; exact y2))
    | 4, _ => injection ho with ho; subst ho; exact Lt.Does.read rfl (fun Lq aq w' hI hq => Lt.wn0 rfl) (fun Lq aq w' hI hq => Lt.ex_subI rfl (hI.pure 3 _ _ rfl (hq ⟨3, .data⟩ (by simp) rfl)) rfl rfl)
    | 5, _ => injection ho with ho; subst ho; exact Lt.Does.call rfl (fun Lq aq w' hI hq => Lt.wn0 rfl) (fun Lq aq w' hI hq => Lt.call3 rfl (hI.pure 1 _ _ rfl (hq ⟨1, .data⟩ (by simp) rfl)) rfl (hI.pure 4 _ _ rfl (hq ⟨4, .data⟩ (by simp) rfl)) rfl (by simp [go_sem])) (fun w1 hw1 => (T1.out w1).mono (by rintro e w2 ⟨rfl, hw2⟩; obtain rfl := hw2.symm; exact ⟨rfl, hw1⟩))
    | 6, _ => injection ho with ho; subst ho; exact Lt.Does.read rfl (fun Lq aq w' hI hq => Lt.wn0 rfl) (fun Lq aq w' hI hq => Lt.ex_move rfl (hI.pure 5 _ _ rfl (hq ⟨5, .data⟩ (by simp) rfl)))
    | 7, _ => injection ho with ho; subst ho; exact Lt.Does.read rfl (fun Lq aq w' hI hq => Lt.wnG (d := 14) (c := true) rfl rfl (hI.pure 6 _ _ rfl (hq ⟨6, .guard⟩ (by simp) rfl)) rfl) (fun Lq aq w' hI hq => Lt.ex_move rfl (hI.fix 2 (Lt.notD rfl)))
    | 8, _ => injection ho with ho; subst ho; exact Lt.Does.read rfl (fun Lq aq w' hI hq => Lt.wnG (d := 14) (c := true) rfl rfl (hI.pure 6 _ _ rfl (hq ⟨6, .guard⟩ (by simp) rfl)) rfl) (fun Lq aq w' hI hq => Lt.ex_field rfl (hI.fix 3 (Lt.notD rfl)) (by simp [go_sem]))
    | 9, _ => injection ho with ho; subst ho; exact Lt.Does.read rfl (fun Lq aq w' hI hq => Lt.wnG (d := 14) (c := true) rfl rfl (hI.pure 6 _ _ rfl (hq ⟨6, .guard⟩ (by simp) rfl)) rfl) (fun Lq aq w' hI hq => Lt.ex_load rfl (hI.pure 8 _ _ rfl (hq ⟨8, .data⟩ (by simp) rfl)) (by simp [go_sem]) (by obtain ⟨-, -, y0, y1, y2, y3, y4, y5⟩ := K.out w' hI.world; exact y3))
    | 10, _ => injection ho with ho; subst ho; exact Lt.Does.read rfl (fun Lq aq w' hI hq => Lt.wnG (d := 14) (c := true) rfl rfl (hI.pure 6 _ _ rfl (hq ⟨6, .guard⟩ (by simp) rfl)) rfl) (fun Lq aq w' hI hq => Lt.ex_subI rfl (hI.pure 9 _ _ rfl (hq ⟨9, .data⟩ (by simp) rfl)) rfl rfl)
    | 11, _ => injection ho with ho; subst ho; exact Lt.Does.call rfl (fun Lq aq w' hI hq => Lt.wnG (d := 14) (c := true) rfl rfl (hI.pure 6 _ _ rfl (hq ⟨6, .guard⟩ (by simp) rfl)) rfl) (fun Lq aq w' hI hq => Lt.call3 rfl (hI.pure 7 _ _ rfl (hq ⟨7, .data⟩ (by simp) rfl)) rfl (hI.pure 10 _ _ rfl (hq ⟨10, .data⟩ (by simp) rfl)) rfl (by simp [go_sem])) (fun w1 hw1 => (T2.out w1).mono (by rintro e w2 ⟨rfl, hw2⟩; obtain rfl := hw2.symm; exact ⟨rfl, hw1⟩))
    | 12, _ => injection ho with ho; subst ho; exact Lt.Does.read rfl (fun Lq aq w' hI hq => Lt.wn0 rfl) (fun Lq aq w' hI hq => Lt.ex_pick (b := true) rfl (hI.pure 6 _ _ rfl (hq ⟨6, .data⟩ (by simp) rfl)) (by first | exact (hI.pure 11 _ _ rfl (hq ⟨11, .data⟩ (by simp) rfl)) | simpa using (hI.pure 11 _ _ rfl (hq ⟨11, .data⟩ (by simp) rfl))))
    | 13, _ => injection ho with ho; subst ho; exact Lt.Does.read rfl (fun Lq aq w' hI hq => Lt.wn0 rfl) (fun Lq aq w' hI hq => Lt.ex_field rfl (hI.fix 3 (Lt.notD rfl)) (by simp [go_sem]))
    | 14, _ => injection ho with ho; subst ho; exact Lt.Does.read rfl (fun Lq aq w' hI hq => Lt.wn0 rfl) (fun Lq aq w' hI hq => Lt.ex_load rfl (hI.pure 13 _ _ rfl (hq ⟨13, .data⟩ (by simp) rfl)) (by simp [go_sem]) (by obtain ⟨-, -, y0, y1, y2, y3, y4, y5⟩ := K.out w' hI.world; exact y2))
    | 15, _ => injection ho with ho; subst ho; exact Lt.Does.read rfl (fun Lq aq w' hI hq => Lt.wn0 rfl) (fun Lq aq w' hI hq => Lt.ex_addI rfl rfl (hI.pure 14 _ _ rfl (hq ⟨14, .data⟩ (by simp) rfl)) rfl)
    | 16, _ => injection ho with ho; subst ho; exact Lt.Does.read rfl (fun Lq aq w' hI hq => Lt.wn0 rfl) (fun Lq aq w' hI hq => Lt.ex_move rfl (hI.fix 1 (Lt.notD rfl)))
    | 17, _ => injection ho with ho; subst ho; exact Lt.Does.read rfl (fun Lq aq w' hI hq => Lt.wn0 rfl) (fun Lq aq w' hI hq => Lt.ex_field rfl (hI.fix 3 (Lt.notD rfl)) (by simp [go_sem]))
    | 18, _ => injection ho with ho; subst ho; exact Lt.Does.read rfl (fun Lq aq w' hI hq => Lt.wn0 rfl) (fun Lq aq w' hI hq => Lt.ex_load rfl (hI.pure 17 _ _ rfl (hq ⟨17, .data⟩ (by simp) rfl)) (by simp [go_sem]) (by obtain ⟨-, -, y0, y1, y2, y3, y4, y5⟩ := K.out w' hI.world; exact y3))
    | 19, _ => injection ho with ho; subst ho; exact Lt.Does.read rfl (fun Lq aq w' hI hq => Lt.wn0 rfl) (fun Lq aq w' hI hq => Lt.ex_mulI rfl (hI.pure 16 _ _ rfl (hq ⟨16, .data⟩ (by simp) rfl)) (hI.pure 18 _ _ rfl (hq ⟨18, .data⟩ (by simp) rfl)) rfl)
    | 20, _ => injection ho with ho; subst ho; exact Lt.Does.read rfl (fun Lq aq w' hI hq => Lt.wn0 rfl) (fun Lq aq w' hI hq => Lt.ex_addI rfl (hI.pure 15 _ _ rfl (hq ⟨15, .data⟩ (by simp) rfl)) (hI.pure 19 _ _ rfl (hq ⟨19, .data⟩ (by simp) rfl)) rfl)
    | 21, _ => injection ho with ho; subst ho; exact Lt.Does.read rfl (fun Lq aq w' hI hq => Lt.wn0 rfl) (fun Lq aq w' hI hq => Lt.ex_move rfl (hI.fix 2 (Lt.notD rfl)))
    | 22, _ => injection ho with ho; subst ho; exact Lt.Does.read rfl (fun Lq aq w' hI hq => Lt.wn0 rfl) (fun Lq aq w' hI hq => Lt.ex_addI rfl (hI.pure 20 _ _ rfl (hq ⟨20, .data⟩ (by simp) rfl)) (hI.pure 21 _ _ rfl (hq ⟨21, .data⟩ (by simp) rfl)) rfl)
    | 23, _ => injection ho with ho; subst ho; exact Lt.Does.call rfl (fun Lq aq w' hI hq => Lt.wn0 rfl) (fun Lq aq w' hI hq => Lt.call3 rfl (hI.pure 0 _ _ rfl (hq ⟨0, .data⟩ (by simp) rfl)) (hI.pure 12 _ _ rfl (hq ⟨12, .data⟩ (by simp) rfl)) (hI.pure 22 _ _ rfl (hq ⟨22, .data⟩ (by simp) rfl)) rfl (by simp [go_sem])) (fun w1 hw1 => (PL.out w1).mono (by rintro e w2 ⟨rfl, hb⟩; exact ⟨rfl, hw1.trans (hb.mono hw1.size)⟩))
    | 24, _ => injection ho with ho; subst ho; exact Lt.Does.read rfl (fun Lq aq w' hI hq => Lt.wn0 rfl) (fun Lq aq w' hI hq => Lt.ex_extract rfl (hI.pure 23 _ _ rfl (hq ⟨23, .data⟩ (by simp) rfl)) rfl)
    | 25, _ => injection ho with ho; subst ho; exact Lt.Does.read rfl (fun Lq aq w' hI hq => Lt.wn0 rfl) (fun Lq aq w' hI hq => Lt.ex_extract rfl (hI.pure 23 _ _ rfl (hq ⟨23, .data⟩ (by simp) rfl)) rfl)
    | 26, _ => injection ho with ho; subst ho; exact Lt.Does.read rfl (fun Lq aq w' hI hq => Lt.wn0 rfl) (fun Lq aq w' hI hq => Lt.ex_assign rfl (hI.pure 24 _ _ rfl (hq ⟨24, .data⟩ (by simp) rfl)))
    | 27, _ => injection ho with ho; subst ho; exact Lt.Does.read rfl (fun Lq aq w' hI hq => Lt.wn0 rfl) (fun Lq aq w' hI hq => Lt.ex_assign rfl (hI.pure 25 _ _ rfl (hq ⟨25, .data⟩ (by simp) rfl)))
  case fin =>
    intro Lq a' w' hI hall
    have hw := hI.world
    obtain rfl : a' = ⟨#[.agg #[.int .i64 s0, .int .i64 s1, .int .i64 s2, .int .i64 s3, .int .i64 s4, .int .i64 s5], .int .i64 a, .int .i64 b, .pointer (some ⟨w.heap.size, 0, none⟩), undef, undef, .int .i64 v, .int .i64 e, .agg #[.int .i64 s0, .int .i64 s1, .int .i64 s2, .int .i64 s3, .int .i64 s4, .int .i64 s5], .int .i64 a, .pointer (some ⟨w.heap.size, 2, none⟩), .int .i64 s2, .int .i64 (IntKind.i64.wrap (s2 - 1)), .bool true, .bool true, .int .i64 b, .pointer (some ⟨w.heap.size, 3, none⟩), .int .i64 s3, .int .i64 (IntKind.i64.wrap (s3 - 1)), .bool q2, .bool q2, .pointer (some ⟨w.heap.size, 2, none⟩), .int .i64 s2, .int .i64 (IntKind.i64.wrap (8 + s2)), .int .i64 a, .pointer (some ⟨w.heap.size, 3, none⟩), .int .i64 s3, .int .i64 (IntKind.i64.wrap (a * s3)), .int .i64 (IntKind.i64.wrap ((IntKind.i64.wrap (8 + s2)) + (IntKind.i64.wrap (a * s3)))), .int .i64 b, .int .i64 (IntKind.i64.wrap ((IntKind.i64.wrap ((IntKind.i64.wrap (8 + s2)) + (IntKind.i64.wrap (a * s3)))) + b)), .tuple #[.int .i64 v, .int .i64 e], .int .i64 v, .int .i64 e], []⟩ := Lt.act_eq a' [.agg #[.int .i64 s0, .int .i64 s1, .int .i64 s2, .int .i64 s3, .int .i64 s4, .int .i64 s5], .int .i64 a, .int .i64 b, .pointer (some ⟨w.heap.size, 0, none⟩), undef, undef, .int .i64 v, .int .i64 e, .agg #[.int .i64 s0, .int .i64 s1, .int .i64 s2, .int .i64 s3, .int .i64 s4, .int .i64 s5], .int .i64 a, .pointer (some ⟨w.heap.size, 2, none⟩), .int .i64 s2, .int .i64 (IntKind.i64.wrap (s2 - 1)), .bool true, .bool true, .int .i64 b, .pointer (some ⟨w.heap.size, 3, none⟩), .int .i64 s3, .int .i64 (IntKind.i64.wrap (s3 - 1)), .bool q2, .bool q2, .pointer (some ⟨w.heap.size, 2, none⟩), .int .i64 s2, .int .i64 (IntKind.i64.wrap (8 + s2)), .int .i64 a, .pointer (some ⟨w.heap.size, 3, none⟩), .int .i64 s3, .int .i64 (IntKind.i64.wrap (a * s3)), .int .i64 (IntKind.i64.wrap ((IntKind.i64.wrap (8 + s2)) + (IntKind.i64.wrap (a * s3)))), .int .i64 b, .int .i64 (IntKind.i64.wrap ((IntKind.i64.wrap ((IntKind.i64.wrap (8 + s2)) + (IntKind.i64.wrap (a * s3)))) + b)), .tuple #[.int .i64 v, .int .i64 e], .int .i64 v, .int .i64 e] hI.df (by rw [hI.sz]; rfl) (fun k hk => by
      have hk' : k < 34 := hk
      match k, hk' with
      | 0, _ => exact hI.fix 0 (Lt.notD rfl)
      | 1, _ => exact hI.fix 1 (Lt.notD rfl)
      | 2, _ => exact hI.fix 2 (Lt.notD rfl)
      | 3, _ => exact hI.fix 3 (Lt.notD rfl)
      | 4, _ => exact hI.fix 4 (Lt.notD rfl)
      | 5, _ => exact hI.fix 5 (Lt.notD rfl)
      | 6, _ => exact hI.pure 26 6 _ rfl (hall 26 (by decide))
      | 7, _ => exact hI.pure 27 7 _ rfl (hall 27 (by decide))
      | 8, _ => exact hI.pure 0 8 _ rfl (hall 0 (by decide))
      | 9, _ => exact hI.pure 1 9 _ rfl (hall 1 (by decide))
      | 10, _ => exact hI.pure 2 10 _ rfl (hall 2 (by decide))
      | 11, _ => exact hI.pure 3 11 _ rfl (hall 3 (by decide))
      | 12, _ => exact hI.pure 4 12 _ rfl (hall 4 (by decide))
      | 13, _ => exact hI.pure 5 13 _ rfl (hall 5 (by decide))
      | 14, _ => exact hI.pure 6 14 _ rfl (hall 6 (by decide))
      | 15, _ => exact hI.pure 7 15 _ rfl (hall 7 (by decide))
      | 16, _ => exact hI.pure 8 16 _ rfl (hall 8 (by decide))
      | 17, _ => exact hI.pure 9 17 _ rfl (hall 9 (by decide))
      | 18, _ => exact hI.pure 10 18 _ rfl (hall 10 (by decide))
      | 19, _ => exact hI.pure 11 19 _ rfl (hall 11 (by decide))
      | 20, _ => exact hI.pure 12 20 _ rfl (hall 12 (by decide))
      | 21, _ => exact hI.pure 13 21 _ rfl (hall 13 (by decide))
      | 22, _ => exact hI.pure 14 22 _ rfl (hall 14 (by decide))
      | 23, _ => exact hI.pure 15 23 _ rfl (hall 15 (by decide))
      | 24, _ => exact hI.pure 16 24 _ rfl (hall 16 (by decide))
      | 25, _ => exact hI.pure 17 25 _ rfl (hall 17 (by decide))
      | 26, _ => exact hI.pure 18 26 _ rfl (hall 18 (by decide))
      | 27, _ => exact hI.pure 19 27 _ rfl (hall 19 (by decide))
      | 28, _ => exact hI.pure 20 28 _ rfl (hall 20 (by decide))
      | 29, _ => exact hI.pure 21 29 _ rfl (hall 21 (by decide))
      | 30, _ => exact hI.pure 22 30 _ rfl (hall 22 (by decide))
      | 31, _ => exact hI.pure 23 31 _ rfl (hall 23 (by decide))
      | 32, _ => exact hI.pure 24 32 _ rfl (hall 24 (by decide))
      | 33, _ => exact hI.pure 25 33 _ rfl (hall 25 (by decide))
      | q + 34, hq => exact absurd hq (by omega))
    rename_i K2 hK2
    refine hK2 _ _ ?_
    go_wp2_with fail
    go_ret2
    exact ⟨rfl, (K.out _ hw).1⟩

theorem rroot_f {s0 s1 s2 s3 s4 s5 : Int} {a b v e : Int}  (T1 : Hid (∀ w1 : World, Calls Tryz.prog 30 #[.int .i64 a, .int .i64 0, .int .i64 (IntKind.i64.wrap (s2 - 1))] w1 fun e w' => e = .returned (.bool false) ∧ w' = w1)) (PL : Hid (∀ w1 : World, Calls Tryz.prog 73 #[.agg #[.int .i64 s0, .int .i64 s1, .int .i64 s2, .int .i64 s3, .int .i64 s4, .int .i64 s5], .bool false, .int .i64 (IntKind.i64.wrap ((IntKind.i64.wrap ((IntKind.i64.wrap (8 + s2)) + (IntKind.i64.wrap (a * s3)))) + b))] w1 fun e' w' => e' = .returned (.tuple #[.int .i64 v, .int .i64 e]) ∧ Below w1.heap.size w1 w')) (w : World) : Calls Tryz.prog 37 #[.agg #[.int .i64 s0, .int .i64 s1, .int .i64 s2, .int .i64 s3, .int .i64 s4, .int .i64 s5], .int .i64 a, .int .i64 b] w fun e' w' => e' = .returned (.tuple #[.int .i64 v, .int .i64 e]) ∧ Below w.heap.size w w' := by
  obtain ⟨W0, hW0, B0, K⟩ := box w s0 s1 s2 s3 s4 s5
  have HB := hide B0
  obtain ⟨-, l0, x0, x1, x2, x3, x4, x5⟩ := K.out W0 (Below.refl _ _)
  clear B0
  go_enter Tryz.func37, Tryz.ntmps37
  go_wp2_with fail
  refine Lt.region (ks := [(0, 8), (1, 9), (2, 10), (3, 11), (4, 12), (5, 13), (6, 14), (7, 15), (8, 16), (9, 17), (10, 18), (11, 19), (12, 20), (13, 21), (14, 22), (15, 23), (16, 24), (17, 25), (18, 26), (19, 27), (20, 28), (21, 29), (22, 30), (23, 31), (24, 32), (25, 33), (26, 6), (27, 7)]) (vals := fun iv => match iv with
      | 0 => .agg #[.int .i64 s0, .int .i64 s1, .int .i64 s2, .int .i64 s3, .int .i64 s4, .int .i64 s5]
      | 1 => .int .i64 a
      | 2 => .pointer (some ⟨w.heap.size, 2, none⟩)
      | 3 => .int .i64 s2
      | 4 => .int .i64 (IntKind.i64.wrap (s2 - 1))
      | 5 => .bool false
      | 6 => .bool false
      | 7 => undef
      | 8 => undef
      | 9 => undef
      | 10 => undef
      | 11 => undef
      | 12 => .bool false
      | 13 => .pointer (some ⟨w.heap.size, 2, none⟩)
      | 14 => .int .i64 s2
      | 15 => .int .i64 (IntKind.i64.wrap (8 + s2))
      | 16 => .int .i64 a
      | 17 => .pointer (some ⟨w.heap.size, 3, none⟩)
      | 18 => .int .i64 s3
      | 19 => .int .i64 (IntKind.i64.wrap (a * s3))
      | 20 => .int .i64 (IntKind.i64.wrap ((IntKind.i64.wrap (8 + s2)) + (IntKind.i64.wrap (a * s3))))
      | 21 => .int .i64 b
      | 22 => .int .i64 (IntKind.i64.wrap ((IntKind.i64.wrap ((IntKind.i64.wrap (8 + s2)) + (IntKind.i64.wrap (a * s3)))) + b))
      | 23 => .tuple #[.int .i64 v, .int .i64 e]
      | 24 => .int .i64 v
      | 25 => .int .i64 e
      | 26 => .int .i64 v
      | 27 => .int .i64 e
      | _ => undef) (WI := fun w' => Below W0.heap.size W0 w') (by kernel_rfl) ?bk rfl ?dd (⟨rfl, rfl, rfl, Nat.le_refl _, fun _ _ => rfl⟩) ?does ?fin
  case bk =>
    intro iq oq ho
    have hiq : iq < 28 := by have := (Array.getElem?_eq_some_iff.1 ho).1; simpa using this
    match iq, hiq with
    | 0, _ | 1, _ | 2, _ | 3, _ | 4, _ | 5, _ | 6, _ | 7, _ | 8, _ | 9, _ | 10, _ | 11, _ | 12, _ | 13, _ | 14, _ | 15, _ | 16, _ | 17, _ | 18, _ | 19, _ | 20, _ | 21, _ | 22, _ | 23, _ | 24, _ | 25, _ | 26, _ | 27, _ => injection ho with ho; subst ho; simp [Region.binds]
  case dd =>
    intro k hk
    have hk' : k < 34 := by
      simp [Lt.D] at hk
      omega
    simpa using hk'
  case does =>
    intro iq oq ho
    have hiq : iq < 28 := by have := (Array.getElem?_eq_some_iff.1 ho).1; simpa using this
    match iq, hiq with
    | 0, _ => injection ho with ho; subst ho; exact Lt.Does.read rfl (fun Lq aq w' hI hq => Lt.wn0 rfl) (fun Lq aq w' hI hq => Lt.ex_load_row rfl (hI.fix 3 (Lt.notD rfl)) (by obtain ⟨-, -, y0, y1, y2, y3, y4, y5⟩ := K.out w' hI.world; exact rng y0 y1 y2 y3 y4 y5) (by kernel_rfl) (by kernel_rfl))
    | 1, _ => injection ho with ho; subst ho; exact Lt.Does.read rfl (fun Lq aq w' hI hq => Lt.wn0 rfl) (fun Lq aq w' hI hq => Lt.ex_move rfl (hI.fix 1 (Lt.notD rfl)))
    | 2, _ => injection ho with ho; subst ho; exact Lt.Does.read rfl (fun Lq aq w' hI hq => Lt.wn0 rfl) (fun Lq aq w' hI hq => Lt.ex_field rfl (hI.fix 3 (Lt.notD rfl)) (by simp [go_sem]))
    | 3, _ => injection ho with ho; subst ho; exact Lt.Does.read rfl (fun Lq aq w' hI hq => Lt.wn0 rfl) (fun Lq aq w' hI hq => Lt.ex_load rfl (hI.pure 2 _ _ rfl (hq ⟨2, .data⟩ (by simp) rfl)) (by simp [go_sem]) (by obtain ⟨-, -, y0, y1, y2, y3, y4, y5⟩ := K.out w' hI.world; exact y2))
    | 4, _ => injection ho with ho; subst ho; exact Lt.Does.read rfl (fun Lq aq w' hI hq => Lt.wn0 rfl) (fun Lq aq w' hI hq => Lt.ex_subI rfl (hI.pure 3 _ _ rfl (hq ⟨3, .data⟩ (by simp) rfl)) rfl rfl)
    | 5, _ => injection ho with ho; subst ho; exact Lt.Does.call rfl (fun Lq aq w' hI hq => Lt.wn0 rfl) (fun Lq aq w' hI hq => Lt.call3 rfl (hI.pure 1 _ _ rfl (hq ⟨1, .data⟩ (by simp) rfl)) rfl (hI.pure 4 _ _ rfl (hq ⟨4, .data⟩ (by simp) rfl)) rfl (by simp [go_sem])) (fun w1 hw1 => (T1.out w1).mono (by rintro e w2 ⟨rfl, hw2⟩; obtain rfl := hw2.symm; exact ⟨rfl, hw1⟩))
    | 6, _ => injection ho with ho; subst ho; exact Lt.Does.read rfl (fun Lq aq w' hI hq => Lt.wn0 rfl) (fun Lq aq w' hI hq => Lt.ex_move rfl (hI.pure 5 _ _ rfl (hq ⟨5, .data⟩ (by simp) rfl)))
    | 7, _ => injection ho with ho; subst ho; exact .skip rfl (fun Lq aq w' hI hq => Lt.wnG (d := 14) (c := false) rfl rfl (hI.pure 6 _ _ rfl (hq ⟨6, .guard⟩ (by simp) rfl)) rfl) rfl
    | 8, _ => injection ho with ho; subst ho; exact .skip rfl (fun Lq aq w' hI hq => Lt.wnG (d := 14) (c := false) rfl rfl (hI.pure 6 _ _ rfl (hq ⟨6, .guard⟩ (by simp) rfl)) rfl) rfl
    | 9, _ => injection ho with ho; subst ho; exact .skip rfl (fun Lq aq w' hI hq => Lt.wnG (d := 14) (c := false) rfl rfl (hI.pure 6 _ _ rfl (hq ⟨6, .guard⟩ (by simp) rfl)) rfl) rfl
    | 10, _ => injection ho with ho; subst ho; exact .skip rfl (fun Lq aq w' hI hq => Lt.wnG (d := 14) (c := false) rfl rfl (hI.pure 6 _ _ rfl (hq ⟨6, .guard⟩ (by simp) rfl)) rfl) rfl
    | 11, _ => injection ho with ho; subst ho; exact .skip rfl (fun Lq aq w' hI hq => Lt.wnG (d := 14) (c := false) rfl rfl (hI.pure 6 _ _ rfl (hq ⟨6, .guard⟩ (by simp) rfl)) rfl) rfl
    | 12, _ => injection ho with ho; subst ho; exact Lt.Does.read rfl (fun Lq aq w' hI hq => Lt.wn0 rfl) (fun Lq aq w' hI hq => Lt.ex_pick (b := false) rfl (hI.pure 6 _ _ rfl (hq ⟨6, .data⟩ (by simp) rfl)) (by first | exact rfl | simpa using rfl))
    | 13, _ => injection ho with ho; subst ho; exact Lt.Does.read rfl (fun Lq aq w' hI hq => Lt.wn0 rfl) (fun Lq aq w' hI hq => Lt.ex_field rfl (hI.fix 3 (Lt.notD rfl)) (by simp [go_sem]))
    | 14, _ => injection ho with ho; subst ho; exact Lt.Does.read rfl (fun Lq aq w' hI hq => Lt.wn0 rfl) (fun Lq aq w' hI hq => Lt.ex_load rfl (hI.pure 13 _ _ rfl (hq ⟨13, .data⟩ (by simp) rfl)) (by simp [go_sem]) (by obtain ⟨-, -, y0, y1, y2, y3, y4, y5⟩ := K.out w' hI.world; exact y2))
    | 15, _ => injection ho with ho; subst ho; exact Lt.Does.read rfl (fun Lq aq w' hI hq => Lt.wn0 rfl) (fun Lq aq w' hI hq => Lt.ex_addI rfl rfl (hI.pure 14 _ _ rfl (hq ⟨14, .data⟩ (by simp) rfl)) rfl)
    | 16, _ => injection ho with ho; subst ho; exact Lt.Does.read rfl (fun Lq aq w' hI hq => Lt.wn0 rfl) (fun Lq aq w' hI hq => Lt.ex_move rfl (hI.fix 1 (Lt.notD rfl)))
    | 17, _ => injection ho with ho; subst ho; exact Lt.Does.read rfl (fun Lq aq w' hI hq => Lt.wn0 rfl) (fun Lq aq w' hI hq => Lt.ex_field rfl (hI.fix 3 (Lt.notD rfl)) (by simp [go_sem]))
    | 18, _ => injection ho with ho; subst ho; exact Lt.Does.read rfl (fun Lq aq w' hI hq => Lt.wn0 rfl) (fun Lq aq w' hI hq => Lt.ex_load rfl (hI.pure 17 _ _ rfl (hq ⟨17, .data⟩ (by simp) rfl)) (by simp [go_sem]) (by obtain ⟨-, -, y0, y1, y2, y3, y4, y5⟩ := K.out w' hI.world; exact y3))
    | 19, _ => injection ho with ho; subst ho; exact Lt.Does.read rfl (fun Lq aq w' hI hq => Lt.wn0 rfl) (fun Lq aq w' hI hq => Lt.ex_mulI rfl (hI.pure 16 _ _ rfl (hq ⟨16, .data⟩ (by simp) rfl)) (hI.pure 18 _ _ rfl (hq ⟨18, .data⟩ (by simp) rfl)) rfl)
    | 20, _ => injection ho with ho; subst ho; exact Lt.Does.read rfl (fun Lq aq w' hI hq => Lt.wn0 rfl) (fun Lq aq w' hI hq => Lt.ex_addI rfl (hI.pure 15 _ _ rfl (hq ⟨15, .data⟩ (by simp) rfl)) (hI.pure 19 _ _ rfl (hq ⟨19, .data⟩ (by simp) rfl)) rfl)
    | 21, _ => injection ho with ho; subst ho; exact Lt.Does.read rfl (fun Lq aq w' hI hq => Lt.wn0 rfl) (fun Lq aq w' hI hq => Lt.ex_move rfl (hI.fix 2 (Lt.notD rfl)))
    | 22, _ => injection ho with ho; subst ho; exact Lt.Does.read rfl (fun Lq aq w' hI hq => Lt.wn0 rfl) (fun Lq aq w' hI hq => Lt.ex_addI rfl (hI.pure 20 _ _ rfl (hq ⟨20, .data⟩ (by simp) rfl)) (hI.pure 21 _ _ rfl (hq ⟨21, .data⟩ (by simp) rfl)) rfl)
    | 23, _ => injection ho with ho; subst ho; exact Lt.Does.call rfl (fun Lq aq w' hI hq => Lt.wn0 rfl) (fun Lq aq w' hI hq => Lt.call3 rfl (hI.pure 0 _ _ rfl (hq ⟨0, .data⟩ (by simp) rfl)) (hI.pure 12 _ _ rfl (hq ⟨12, .data⟩ (by simp) rfl)) (hI.pure 22 _ _ rfl (hq ⟨22, .data⟩ (by simp) rfl)) rfl (by simp [go_sem])) (fun w1 hw1 => (PL.out w1).mono (by rintro e w2 ⟨rfl, hb⟩; exact ⟨rfl, hw1.trans (hb.mono hw1.size)⟩))
    | 24, _ => injection ho with ho; subst ho; exact Lt.Does.read rfl (fun Lq aq w' hI hq => Lt.wn0 rfl) (fun Lq aq w' hI hq => Lt.ex_extract rfl (hI.pure 23 _ _ rfl (hq ⟨23, .data⟩ (by simp) rfl)) rfl)
    | 25, _ => injection ho with ho; subst ho; exact Lt.Does.read rfl (fun Lq aq w' hI hq => Lt.wn0 rfl) (fun Lq aq w' hI hq => Lt.ex_extract rfl (hI.pure 23 _ _ rfl (hq ⟨23, .data⟩ (by simp) rfl)) rfl)
    | 26, _ => injection ho with ho; subst ho; exact Lt.Does.read rfl (fun Lq aq w' hI hq => Lt.wn0 rfl) (fun Lq aq w' hI hq => Lt.ex_assign rfl (hI.pure 24 _ _ rfl (hq ⟨24, .data⟩ (by simp) rfl)))
    | 27, _ => injection ho with ho; subst ho; exact Lt.Does.read rfl (fun Lq aq w' hI hq => Lt.wn0 rfl) (fun Lq aq w' hI hq => Lt.ex_assign rfl (hI.pure 25 _ _ rfl (hq ⟨25, .data⟩ (by simp) rfl)))
  case fin =>
    intro Lq a' w' hI hall
    have hw := hI.world
    obtain rfl : a' = ⟨#[.agg #[.int .i64 s0, .int .i64 s1, .int .i64 s2, .int .i64 s3, .int .i64 s4, .int .i64 s5], .int .i64 a, .int .i64 b, .pointer (some ⟨w.heap.size, 0, none⟩), undef, undef, .int .i64 v, .int .i64 e, .agg #[.int .i64 s0, .int .i64 s1, .int .i64 s2, .int .i64 s3, .int .i64 s4, .int .i64 s5], .int .i64 a, .pointer (some ⟨w.heap.size, 2, none⟩), .int .i64 s2, .int .i64 (IntKind.i64.wrap (s2 - 1)), .bool false, .bool false, undef, undef, undef, undef, undef, .bool false, .pointer (some ⟨w.heap.size, 2, none⟩), .int .i64 s2, .int .i64 (IntKind.i64.wrap (8 + s2)), .int .i64 a, .pointer (some ⟨w.heap.size, 3, none⟩), .int .i64 s3, .int .i64 (IntKind.i64.wrap (a * s3)), .int .i64 (IntKind.i64.wrap ((IntKind.i64.wrap (8 + s2)) + (IntKind.i64.wrap (a * s3)))), .int .i64 b, .int .i64 (IntKind.i64.wrap ((IntKind.i64.wrap ((IntKind.i64.wrap (8 + s2)) + (IntKind.i64.wrap (a * s3)))) + b)), .tuple #[.int .i64 v, .int .i64 e], .int .i64 v, .int .i64 e], []⟩ := Lt.act_eq a' [.agg #[.int .i64 s0, .int .i64 s1, .int .i64 s2, .int .i64 s3, .int .i64 s4, .int .i64 s5], .int .i64 a, .int .i64 b, .pointer (some ⟨w.heap.size, 0, none⟩), undef, undef, .int .i64 v, .int .i64 e, .agg #[.int .i64 s0, .int .i64 s1, .int .i64 s2, .int .i64 s3, .int .i64 s4, .int .i64 s5], .int .i64 a, .pointer (some ⟨w.heap.size, 2, none⟩), .int .i64 s2, .int .i64 (IntKind.i64.wrap (s2 - 1)), .bool false, .bool false, undef, undef, undef, undef, undef, .bool false, .pointer (some ⟨w.heap.size, 2, none⟩), .int .i64 s2, .int .i64 (IntKind.i64.wrap (8 + s2)), .int .i64 a, .pointer (some ⟨w.heap.size, 3, none⟩), .int .i64 s3, .int .i64 (IntKind.i64.wrap (a * s3)), .int .i64 (IntKind.i64.wrap ((IntKind.i64.wrap (8 + s2)) + (IntKind.i64.wrap (a * s3)))), .int .i64 b, .int .i64 (IntKind.i64.wrap ((IntKind.i64.wrap ((IntKind.i64.wrap (8 + s2)) + (IntKind.i64.wrap (a * s3)))) + b)), .tuple #[.int .i64 v, .int .i64 e], .int .i64 v, .int .i64 e] hI.df (by rw [hI.sz]; rfl) (fun k hk => by
      have hk' : k < 34 := hk
      match k, hk' with
      | 0, _ => exact hI.fix 0 (Lt.notD rfl)
      | 1, _ => exact hI.fix 1 (Lt.notD rfl)
      | 2, _ => exact hI.fix 2 (Lt.notD rfl)
      | 3, _ => exact hI.fix 3 (Lt.notD rfl)
      | 4, _ => exact hI.fix 4 (Lt.notD rfl)
      | 5, _ => exact hI.fix 5 (Lt.notD rfl)
      | 6, _ => exact hI.pure 26 6 _ rfl (hall 26 (by decide))
      | 7, _ => exact hI.pure 27 7 _ rfl (hall 27 (by decide))
      | 8, _ => exact hI.pure 0 8 _ rfl (hall 0 (by decide))
      | 9, _ => exact hI.pure 1 9 _ rfl (hall 1 (by decide))
      | 10, _ => exact hI.pure 2 10 _ rfl (hall 2 (by decide))
      | 11, _ => exact hI.pure 3 11 _ rfl (hall 3 (by decide))
      | 12, _ => exact hI.pure 4 12 _ rfl (hall 4 (by decide))
      | 13, _ => exact hI.pure 5 13 _ rfl (hall 5 (by decide))
      | 14, _ => exact hI.pure 6 14 _ rfl (hall 6 (by decide))
      | 15, _ => exact hI.pure 7 15 _ rfl (hall 7 (by decide))
      | 16, _ => exact hI.pure 8 16 _ rfl (hall 8 (by decide))
      | 17, _ => exact hI.pure 9 17 _ rfl (hall 9 (by decide))
      | 18, _ => exact hI.pure 10 18 _ rfl (hall 10 (by decide))
      | 19, _ => exact hI.pure 11 19 _ rfl (hall 11 (by decide))
      | 20, _ => exact hI.pure 12 20 _ rfl (hall 12 (by decide))
      | 21, _ => exact hI.pure 13 21 _ rfl (hall 13 (by decide))
      | 22, _ => exact hI.pure 14 22 _ rfl (hall 14 (by decide))
      | 23, _ => exact hI.pure 15 23 _ rfl (hall 15 (by decide))
      | 24, _ => exact hI.pure 16 24 _ rfl (hall 16 (by decide))
      | 25, _ => exact hI.pure 17 25 _ rfl (hall 17 (by decide))
      | 26, _ => exact hI.pure 18 26 _ rfl (hall 18 (by decide))
      | 27, _ => exact hI.pure 19 27 _ rfl (hall 19 (by decide))
      | 28, _ => exact hI.pure 20 28 _ rfl (hall 20 (by decide))
      | 29, _ => exact hI.pure 21 29 _ rfl (hall 21 (by decide))
      | 30, _ => exact hI.pure 22 30 _ rfl (hall 22 (by decide))
      | 31, _ => exact hI.pure 23 31 _ rfl (hall 23 (by decide))
      | 32, _ => exact hI.pure 24 32 _ rfl (hall 24 (by decide))
      | 33, _ => exact hI.pure 25 33 _ rfl (hall 25 (by decide))
      | q + 34, hq => exact absurd hq (by omega))
    rename_i K2 hK2
    refine hK2 _ _ ?_
    go_wp2_with fail
    go_ret2
    exact ⟨rfl, (K.out _ hw).1⟩

end Shape
end Go.Proofs.YtecjegjnnahddaaGreat

/-
  View: the document's places of a right shape
-/
namespace Go.Proofs.YtecjegjnnahddaaGreat
open Go.RowKit
set_option linter.unusedVariables false
set_option linter.unusedSimpArgs false
set_option linter.unnecessarySimpa false
set_option maxRecDepth 20000
namespace Vw
open Shape

theorem wJ {x y : Int} (h : x = y) (h1 : -9223372036854775808 ≤ y) (h2 : y ≤ 9223372036854775807) : IntKind.i64.wrap x = y := by rw [h, IntKind.wrap_i64]; omega
section
variable {o s h r k : Nat} {s5 : Int} (H : (⟨o, s, h, r, k⟩ : Sh).Ok)
include H
theorem rs_ack (w : World) : Calls Tryz.prog 35 #[.agg #[.int .i64 (o : Int), .int .i64 (s : Int), .int .i64 (h : Int), .int .i64 (r : Int), .int .i64 (k : Int), .int .i64 s5], .int .i64 0] w fun e w' => e = .returned (.tuple #[.int .i64 8, .int .i64 0]) ∧ Below w.heap.size w w' := by
  have h1 : 0 < h := H.h1
  have h2 : h ≤ 7 := H.h2
  refine rack_of (q := true) (fun w1 => ?_) (fun w1 => ?_) w
  · rw [wJ (y := (h : Int) - 1) rfl (by omega) (by omega)]; exact rwithin_t (by omega) (by omega) w1
  · have := place_ok (s5 := s5) (r5 H) 8 w1
    exact this
theorem rs_weak {j : Nat} (hj : j < k) (w : World) : Calls Tryz.prog 38 #[.agg #[.int .i64 (o : Int), .int .i64 (s : Int), .int .i64 (h : Int), .int .i64 (r : Int), .int .i64 (k : Int), .int .i64 s5], .int .i64 (j : Int)] w fun e w' => e = .returned (.tuple #[.int .i64 ((bK ⟨o, s, h, r, k⟩ + j : Nat) : Int), .int .i64 0]) ∧ Below w.heap.size w w' := by
  have h2 : h ≤ 7 := H.h2
  have k2 : k ≤ 16 := H.k2
  have hp := (sizes H).1
  simp only at hp
  have hl := lay_out ⟨o, s, h, r, k⟩
  simp only at hl
  refine rweak_of (q := true) (fun w1 => ?_) (fun w1 => ?_) w
  · rw [wJ (y := (k : Int) - 1) rfl (by omega) (by omega)]; exact rwithin_t (by omega) (by omega) w1
  · rw [wJ (x := 8 + (h : Int)) rfl (by omega) (by omega), wJ (x := (h : Int) * (r : Int)) (y := ((h * r : Nat) : Int)) (by simp) (by omega) (by omega), wJ (x := 8 + (h : Int) + ((h * r : Nat) : Int)) rfl (by omega) (by omega), wJ (x := 8 + (h : Int) + ((h * r : Nat) : Int) + (j : Int)) (y := ((bK ⟨o, s, h, r, k⟩ + j : Nat) : Int)) (by omega) (by omega) (by omega)]; exact place_ok (r5 H) _ w1
theorem rs_root {j : Nat} (hj : j < h) (w : World) : Calls Tryz.prog 37 #[.agg #[.int .i64 (o : Int), .int .i64 (s : Int), .int .i64 (h : Int), .int .i64 (r : Int), .int .i64 (k : Int), .int .i64 s5], .int .i64 (j : Int), .int .i64 0] w fun e w' => e = .returned (.tuple #[.int .i64 ((bR ⟨o, s, h, r, k⟩ + j * r : Nat) : Int), .int .i64 0]) ∧ Below w.heap.size w w' := by
  have h2 : h ≤ 7 := H.h2
  have r1 : 0 < r := H.r1
  have r2 : r ≤ 8 := H.r2
  have hp := (at_root H (j := j) hj).2
  have hl := lay_out ⟨o, s, h, r, k⟩
  simp only at hp hl
  refine rroot_t (q2 := true) (fun w1 => ?_) (fun w1 => ?_) (fun w1 => ?_) w
  · rw [wJ (y := (h : Int) - 1) rfl (by omega) (by omega)]; exact rwithin_t (by omega) (by omega) w1
  · rw [wJ (y := (r : Int) - 1) rfl (by omega) (by omega)]; exact rwithin_t (by omega) (by omega) w1
  · rw [wJ (x := 8 + (h : Int)) rfl (by omega) (by omega), wJ (x := (j : Int) * (r : Int)) (y := ((j * r : Nat) : Int)) (by simp) (by omega) (by omega), wJ (x := 8 + (h : Int) + ((j * r : Nat) : Int)) rfl (by omega) (by omega), wJ (x := 8 + (h : Int) + ((j * r : Nat) : Int) + 0) (y := ((bR ⟨o, s, h, r, k⟩ + j * r : Nat) : Int)) (by omega) (by omega) (by omega)]; exact place_ok (r5 H) _ w1
theorem rs_obj {m : Nat} (hm : m < o) (w : World) : Calls Tryz.prog 39 #[.agg #[.int .i64 (o : Int), .int .i64 (s : Int), .int .i64 (h : Int), .int .i64 (r : Int), .int .i64 (k : Int), .int .i64 s5], .int .i64 ((m : Int) + 1)] w fun e w' => e = .returned (.tuple #[.int .i64 ((pO ⟨o, s, h, r, k⟩ m : Nat) : Int), .int .i64 0]) ∧ Below w.heap.size w w' := by
  have h2 : h ≤ 7 := H.h2
  have o2 : o ≤ 64 := H.o2
  have s2 : s ≤ 4 := H.s2
  have k2 : k ≤ 16 := H.k2
  have hp := (sizes H).1
  simp only at hp
  have hq := (at_obj H (j := m) hm).2
  have hl := lay_out ⟨o, s, h, r, k⟩
  have hpo : pO ⟨o, s, h, r, k⟩ m = bO ⟨o, s, h, r, k⟩ + m * ow ⟨o, s, h, r, k⟩ := rfl
  simp only at hl hq
  rw [hl.2.2.2.2] at hq hpo
  refine robject_of (q := true) (fun w1 => ?_) (fun w1 => ?_) w
  · have := rwithin_t (n := (m : Int) + 1) (lo := 1) (hi := (o : Int)) (by omega) (by omega) w1
    exact this
  · rw [wJ (x := 8 + (h : Int)) rfl (by omega) (by omega), wJ (x := (h : Int) * (r : Int)) (y := ((h * r : Nat) : Int)) (by simp) (by omega) (by omega), wJ (x := 8 + (h : Int) + ((h * r : Nat) : Int)) rfl (by omega) (by omega), wJ (x := 8 + (h : Int) + ((h * r : Nat) : Int) + (k : Int)) rfl (by omega) (by omega), wJ (x := (m : Int) + 1 - 1) (y := (m : Int)) (by omega) (by omega) (by omega), wJ (x := 3 + (s : Int)) rfl (by omega) (by omega), wJ (x := (m : Int) * (3 + (s : Int))) (y := ((m * (3 + s) : Nat) : Int)) (by simp) (by omega) (by omega), wJ (x := 8 + (h : Int) + ((h * r : Nat) : Int) + (k : Int) + ((m * (3 + s) : Nat) : Int)) (y := ((pO ⟨o, s, h, r, k⟩ m : Nat) : Int)) (by omega) (by omega) (by omega)]
    exact place_ok (r5 H) _ w1
end
end Vw
end Go.Proofs.YtecjegjnnahddaaGreat

/-
  View: the document's inside, clean, along
-/
namespace Go.Proofs.YtecjegjnnahddaaGreat
open Go.RowKit
set_option linter.unusedVariables false
set_option linter.unusedSimpArgs false
set_option linter.unnecessarySimpa false
set_option maxRecDepth 20000
namespace Vw
open Shape

set_option maxHeartbeats 1000000 in
theorem inside_ok {w : World} {ao : Option Addr} {l : List Int} {n cap : Nat} {c : Int} (h : SeesN w ao l) (hn : l.length = n) (hl : n ≤ 70000) :
    Calls Tryz.prog 77 #[.slice ao n cap, .int .i64 c] w fun e w' => e = .returned (.bool (decide (c ∈ l))) ∧ w' = w := by
  have H := hide h
  have HN := hide hn
  clear h hn
  go_enter Tryz.func77, Tryz.ntmps77
  go_wp2_with fail
  go_loopw [5] (fun i wr => ∃ k : Nat, k ≤ n ∧ i = .int .i64 k ∧ Hid (¬ c ∈ l.take k) ∧ wr = w) (fun i _ => n - (intOf i).toNat)
  case atStart => exact ⟨0, Nat.zero_le _, rfl, show ¬ _ by simp, rfl⟩
  case round =>
    obtain ⟨k, hk, rfl, HK, rfl⟩ := hrel
    by_cases hlt : k < n
    · obtain ⟨x, hx⟩ : ∃ x, l[k]? = some x := ⟨l[k]'(by rw [HN.out]; exact hlt), List.getElem?_eq_getElem _⟩
      have HX := hide hx
      obtain ⟨b, off, rfl, hbl, hcc⟩ := H.out k x hx
      clear hx
      have hkn : (k : Int) < (n : Int) := by omega
      by_cases he : c = x
      · subst he
        go_wp2
        go_ret
        exact ⟨ret_bool (by simp [List.mem_of_getElem? HX.out]), rfl⟩
      · have he2 : (x == c) = false := by simp; exact fun h => he h.symm
        go_wp2
        go_roundw
        case rel => exact ⟨k + 1, by omega, by go_num, mem_take_more HK.out HX.out he, trivial⟩
        case measure => simp [intOf]; omega
    · have hkn : ¬ (k : Int) < (n : Int) := by omega
      go_wp2
      go_ret
      refine ⟨ret_bool ?_, rfl⟩
      have := HK.out
      rw [List.take_of_length_le (by rw [HN.out]; omega)] at this
      simp [this]

/-- The links and the next words of a row of objects. -/
def Links (w : World) (oa : Option Addr) (no : Nat) (L N : Nat → Int) : Prop :=
  ∀ j, j < no → ∃ b off, oa = some ⟨b, off, none⟩ ∧ b < w.heap.size ∧ w.cell? ⟨b, off + j * 9 + 6, none⟩ = some (.int .u64 (L j)) ∧ w.cell? ⟨b, off + j * 9 + 7, none⟩ = some (.int .u64 (N j))
theorem Links.on {w w' : World} {oa : Option Addr} {no : Nat} {L N : Nat → Int} (h : Links w oa no L N) (hb : Below w.heap.size w w') : Links w' oa no L N := fun j hj => by
  obtain ⟨b, off, e, hl, h6, h7⟩ := h j hj
  exact ⟨b, off, e, Nat.lt_of_lt_of_le hl hb.size, (hb.cell (p := ⟨b, off + j * 9 + 6, none⟩) hl).trans h6, (hb.cell (p := ⟨b, off + j * 9 + 7, none⟩) hl).trans h7⟩

set_option maxHeartbeats 4000000 in
theorem along_false {w : World} {oa : Option Addr} {no cb : Nat} {L N : Nat → Int} {hd : Int} (hL : Links w oa no L N) (hno : no ≤ 70000) (hw : ∀ j, j < no → 0 ≤ L j ∧ L j < 18446744073709551616) (h0 : 0 ≤ hd) (h1 : hd < 18446744073709551616) :
    Calls Tryz.prog 41 #[.slice oa no cb, .int .u64 hd, .bool false] w fun e w' => (∃ fa cf, e = .returned (.tuple #[.slice fa (al no (fun c => L (c.toNat - 1) % 4294967296) no [] (hd % 4294967296)).1.length cf, .int .i64 (al no (fun c => L (c.toNat - 1) % 4294967296) no [] (hd % 4294967296)).2]) ∧ Hid (w'.ownsRow w.heap.size 3 1 (.slice fa (al no (fun c => L (c.toNat - 1) % 4294967296) no [] (hd % 4294967296)).1.length cf) (al no (fun c => L (c.toNat - 1) % 4294967296) no [] (hd % 4294967296)).1.length (ncs (al no (fun c => L (c.toNat - 1) % 4294967296) no [] (hd % 4294967296)).1))) ∧ Below w.heap.size w w' := by
  obtain ⟨nf, hnf⟩ : ∃ nf : Int → Int, (fun c : Int => L (c.toNat - 1) % 4294967296) = nf := ⟨_, rfl⟩
  rw [hnf]
  have HNF := hide hnf
  clear hnf
  obtain ⟨R, hR⟩ : ∃ R, al no nf no [] (hd % 4294967296) = R := ⟨_, rfl⟩
  rw [hR]
  have HR := hide hR
  have HL := hide hL
  have HWD := hide hw
  obtain ⟨i3, hi3, hz3, hs3, hy3⟩ := infoI
  clear hR hL hw
  go_enter Tryz.func41, Tryz.ntmps41
  go_wp2_with (go_at_call 76; refine (index_ref _ h0 h1 _).mono ?_; rintro e w1 ⟨rfl, hq⟩; obtain rfl := hq.symm)
  clear h0 h1
  go_loopw [8, 9] (fun v i wr => ∃ (seen : List Int) (cur : Int), i = .int .i64 cur ∧ Hid (wr.ownsRow w.heap.size 3 1 v seen.length (ncs seen)) ∧ Hid (Sn no seen) ∧ Hid (al no nf (no - seen.length) seen cur = R) ∧ Hid (Below w.heap.size w wr)) (fun v _ _ => no - lenV v)
  case atStart => exact ⟨[], _, rfl, World.ownsRow_nil _ _ _ _, Sn.nil no, show _ = _ by simpa using HR.out, Below.refl _ _⟩
  case round =>
    obtain ⟨seen, cur, rfl, HOW, HSN, HAL, HW⟩ := hrel
    have hlen := HSN.out.len
    obtain ⟨ao, cp, rfl⟩ := own_slice HOW.out
    have FIN := hide (show ¬ (1 ≤ cur ∧ cur ≤ (no : Int) ∧ ¬ cur ∈ seen) → R = (seen, cur) from fun hn => by have := HAL.out; rw [al_stop _ _ _ hn] at this; exact this.symm)
    by_cases q1 : 1 ≤ cur
    · by_cases q2 : cur ≤ (no : Int)
      · have CO := hide (inside_ok (w := wr) (cap := cp) (c := cur) (owns_seesN HOW.out) rfl (by omega))
        by_cases q3 : cur ∈ seen
        · have d3 : decide (cur ∈ seen) = true := by simp [q3]
          rw [d3] at CO
          have HRR := hide (FIN.out (fun h => h.2.2 q3))
          clear q3 d3
          go_wp2_with (go_at_call 77; refine CO.out.mono ?_; rintro e w1 ⟨rfl, hq⟩; obtain rfl := hq.symm)
          go_ret2
          refine ⟨⟨ao, cp, ?_, ?_⟩, HW.out⟩
          · rw [HRR.out]; rfl
          · rw [HRR.out]; exact HOW.out
        · have d3 : decide (cur ∈ seen) = false := by simp [q3]
          rw [d3] at CO
          have HSN2 := hide (HSN.out.more q1 q2 q3)
          have HAL2 := hide (show al no nf (no - (seen ++ [cur]).length) (seen ++ [cur]) (nf cur) = R from (al_go HSN.out ⟨q1, q2, q3⟩).symm.trans HAL.out)
          have hl2 := HSN2.out.len
          simp only [List.length_append, List.length_singleton] at hl2
          clear q3 d3
          obtain ⟨j, rfl⟩ : ∃ j : Nat, cur = (j : Int) + 1 := ⟨cur.toNat - 1, by omega⟩
          have hj : j < no := by omega
          have hjn : (j : Int) < (no : Int) := by omega
          have hpf := HWD.out j hj
          have HNX := hide (show nf ((j : Int) + 1) = L j % 4294967296 by
            rw [← HNF.out]
            show L (((j : Int) + 1).toNat - 1) % 4294967296 = _
            rw [show ((j : Int) + 1).toNat - 1 = j by omega])
          obtain ⟨b, off, rfl, hbl, -, -⟩ := HL.out j hj
          have HC := hide (show ∀ V : World, Below w.heap.size w V → V.cell? ⟨b, off + j * 9 + 6, none⟩ = some (.int .u64 (L j)) ∧ V.cell? ⟨b, off + j * 9 + 7, none⟩ = some (.int .u64 (N j)) from fun V hV => by
            obtain ⟨b1, o1, e1, hl, h6, h7⟩ := HL.out.on hV j hj
            cases e1
            exact ⟨h6, h7⟩)
          clear hbl
          go_wp2_with (first
            | (go_at_call 77; refine CO.out.mono ?_; rintro e w1 ⟨rfl, hq⟩; obtain rfl := hq.symm; clear hq)
            | (at_builtin; refine wpList_append_own_at _ rfl (.tmp 27) (.tmp 29) 28 rfl w.heap.size 3 i3 (.int .i64 0) 1 8 Tryz.underlying28 hi3 hz3 hs3 hy3 rfl (by decide) (.slice ao seen.length cp) seen.length (ncs seen) rfl (HOW.out.alloc _) ⟨wr.heap.size, 0, none⟩ 1 1 [.int .i64 ((j : Int) + 1)] rfl (by simp) (cell_one_new wr (.int .i64 ((j : Int) + 1)) 3) (by simp [Value.oneCell']) (by unfold maxLen; omega) (by omega) (by have := HW.out.size; simp; omega) ?_; intro v2 w2 hown hgr _ _; have HOW2 := hide hown; have HB2 := hide (below_grown (HW.out.alloc HW.out.size _) (HOW.out.alloc _) hgr (by have := HW.out.size; simp; omega)); clear hown hgr; obtain ⟨c6, c7⟩ := HC.out w2 HB2.out)
            | (go_at_call 76; refine (index_ref _ hpf.1 hpf.2 _).mono ?_; rintro e w4 ⟨rfl, hq⟩; obtain rfl := hq.symm; clear hq))
          go_roundw
          case rel =>
            refine ⟨seen ++ [(j : Int) + 1], _, rfl, ?_, HSN2.out, ?_, HB2.out⟩
            · have e1 := HOW2.out
              rw [← ncs_more] at e1
              show World.ownsRow _ _ _ _ _ _ _
              simpa using e1
            · show _ = _
              rw [← HNX.out]
              exact HAL2.out
          case measure =>
            obtain ⟨ao2, cp2, e2⟩ := own_slice HOW2.out
            rw [e2]
            simp only [lenV]
            omega
      · have HRR := hide (FIN.out (fun h => q2 h.2.1))
        go_wp2_with fail
        go_ret2
        refine ⟨⟨ao, cp, ?_, ?_⟩, HW.out⟩
        · rw [HRR.out]; rfl
        · rw [HRR.out]; exact HOW.out
    · have HRR := hide (FIN.out (fun h => q1 h.1))
      go_wp2_with fail
      go_ret2
      refine ⟨⟨ao, cp, ?_, ?_⟩, HW.out⟩
      · rw [HRR.out]; rfl
      · rw [HRR.out]; exact HOW.out

set_option maxHeartbeats 4000000 in
theorem along_true {w : World} {oa : Option Addr} {no cb : Nat} {L N : Nat → Int} {hd : Int} (hL : Links w oa no L N) (hno : no ≤ 70000) (hw : ∀ j, j < no → 0 ≤ N j ∧ N j < 18446744073709551616) (h0 : 0 ≤ hd) (h1 : hd < 18446744073709551616) :
    Calls Tryz.prog 41 #[.slice oa no cb, .int .u64 hd, .bool true] w fun e w' => (∃ fa cf, e = .returned (.tuple #[.slice fa (al no (fun c => N (c.toNat - 1) % 4294967296) no [] (hd % 4294967296)).1.length cf, .int .i64 (al no (fun c => N (c.toNat - 1) % 4294967296) no [] (hd % 4294967296)).2]) ∧ Hid (w'.ownsRow w.heap.size 3 1 (.slice fa (al no (fun c => N (c.toNat - 1) % 4294967296) no [] (hd % 4294967296)).1.length cf) (al no (fun c => N (c.toNat - 1) % 4294967296) no [] (hd % 4294967296)).1.length (ncs (al no (fun c => N (c.toNat - 1) % 4294967296) no [] (hd % 4294967296)).1))) ∧ Below w.heap.size w w' := by
  obtain ⟨nf, hnf⟩ : ∃ nf : Int → Int, (fun c : Int => N (c.toNat - 1) % 4294967296) = nf := ⟨_, rfl⟩
  rw [hnf]
  have HNF := hide hnf
  clear hnf
  obtain ⟨R, hR⟩ : ∃ R, al no nf no [] (hd % 4294967296) = R := ⟨_, rfl⟩
  rw [hR]
  have HR := hide hR
  have HL := hide hL
  have HWD := hide hw
  obtain ⟨i3, hi3, hz3, hs3, hy3⟩ := infoI
  clear hR hL hw
  go_enter Tryz.func41, Tryz.ntmps41
  go_wp2_with (go_at_call 76; refine (index_ref _ h0 h1 _).mono ?_; rintro e w1 ⟨rfl, hq⟩; obtain rfl := hq.symm)
  clear h0 h1
  go_loopw [8, 9] (fun v i wr => ∃ (seen : List Int) (cur : Int), i = .int .i64 cur ∧ Hid (wr.ownsRow w.heap.size 3 1 v seen.length (ncs seen)) ∧ Hid (Sn no seen) ∧ Hid (al no nf (no - seen.length) seen cur = R) ∧ Hid (Below w.heap.size w wr)) (fun v _ _ => no - lenV v)
  case atStart => exact ⟨[], _, rfl, World.ownsRow_nil _ _ _ _, Sn.nil no, show _ = _ by simpa using HR.out, Below.refl _ _⟩
  case round =>
    obtain ⟨seen, cur, rfl, HOW, HSN, HAL, HW⟩ := hrel
    have hlen := HSN.out.len
    obtain ⟨ao, cp, rfl⟩ := own_slice HOW.out
    have FIN := hide (show ¬ (1 ≤ cur ∧ cur ≤ (no : Int) ∧ ¬ cur ∈ seen) → R = (seen, cur) from fun hn => by have := HAL.out; rw [al_stop _ _ _ hn] at this; exact this.symm)
    by_cases q1 : 1 ≤ cur
    · by_cases q2 : cur ≤ (no : Int)
      · have CO := hide (inside_ok (w := wr) (cap := cp) (c := cur) (owns_seesN HOW.out) rfl (by omega))
        by_cases q3 : cur ∈ seen
        · have d3 : decide (cur ∈ seen) = true := by simp [q3]
          rw [d3] at CO
          have HRR := hide (FIN.out (fun h => h.2.2 q3))
          clear q3 d3
          go_wp2_with (go_at_call 77; refine CO.out.mono ?_; rintro e w1 ⟨rfl, hq⟩; obtain rfl := hq.symm)
          go_ret2
          refine ⟨⟨ao, cp, ?_, ?_⟩, HW.out⟩
          · rw [HRR.out]; rfl
          · rw [HRR.out]; exact HOW.out
        · have d3 : decide (cur ∈ seen) = false := by simp [q3]
          rw [d3] at CO
          have HSN2 := hide (HSN.out.more q1 q2 q3)
          have HAL2 := hide (show al no nf (no - (seen ++ [cur]).length) (seen ++ [cur]) (nf cur) = R from (al_go HSN.out ⟨q1, q2, q3⟩).symm.trans HAL.out)
          have hl2 := HSN2.out.len
          simp only [List.length_append, List.length_singleton] at hl2
          clear q3 d3
          obtain ⟨j, rfl⟩ : ∃ j : Nat, cur = (j : Int) + 1 := ⟨cur.toNat - 1, by omega⟩
          have hj : j < no := by omega
          have hjn : (j : Int) < (no : Int) := by omega
          have hpf := HWD.out j hj
          have HNX := hide (show nf ((j : Int) + 1) = N j % 4294967296 by
            rw [← HNF.out]
            show N (((j : Int) + 1).toNat - 1) % 4294967296 = _
            rw [show ((j : Int) + 1).toNat - 1 = j by omega])
          obtain ⟨b, off, rfl, hbl, -, -⟩ := HL.out j hj
          have HC := hide (show ∀ V : World, Below w.heap.size w V → V.cell? ⟨b, off + j * 9 + 6, none⟩ = some (.int .u64 (L j)) ∧ V.cell? ⟨b, off + j * 9 + 7, none⟩ = some (.int .u64 (N j)) from fun V hV => by
            obtain ⟨b1, o1, e1, hl, h6, h7⟩ := HL.out.on hV j hj
            cases e1
            exact ⟨h6, h7⟩)
          clear hbl
          go_wp2_with (first
            | (go_at_call 77; refine CO.out.mono ?_; rintro e w1 ⟨rfl, hq⟩; obtain rfl := hq.symm; clear hq)
            | (at_builtin; refine wpList_append_own_at _ rfl (.tmp 27) (.tmp 29) 28 rfl w.heap.size 3 i3 (.int .i64 0) 1 8 Tryz.underlying28 hi3 hz3 hs3 hy3 rfl (by decide) (.slice ao seen.length cp) seen.length (ncs seen) rfl (HOW.out.alloc _) ⟨wr.heap.size, 0, none⟩ 1 1 [.int .i64 ((j : Int) + 1)] rfl (by simp) (cell_one_new wr (.int .i64 ((j : Int) + 1)) 3) (by simp [Value.oneCell']) (by unfold maxLen; omega) (by omega) (by have := HW.out.size; simp; omega) ?_; intro v2 w2 hown hgr _ _; have HOW2 := hide hown; have HB2 := hide (below_grown (HW.out.alloc HW.out.size _) (HOW.out.alloc _) hgr (by have := HW.out.size; simp; omega)); clear hown hgr; obtain ⟨c6, c7⟩ := HC.out w2 HB2.out)
            | (go_at_call 76; refine (index_ref _ hpf.1 hpf.2 _).mono ?_; rintro e w4 ⟨rfl, hq⟩; obtain rfl := hq.symm; clear hq))
          go_roundw
          case rel =>
            refine ⟨seen ++ [(j : Int) + 1], _, rfl, ?_, HSN2.out, ?_, HB2.out⟩
            · have e1 := HOW2.out
              rw [← ncs_more] at e1
              show World.ownsRow _ _ _ _ _ _ _
              simpa using e1
            · show _ = _
              rw [← HNX.out]
              exact HAL2.out
          case measure =>
            obtain ⟨ao2, cp2, e2⟩ := own_slice HOW2.out
            rw [e2]
            simp only [lenV]
            omega
      · have HRR := hide (FIN.out (fun h => q2 h.2.1))
        go_wp2_with fail
        go_ret2
        refine ⟨⟨ao, cp, ?_, ?_⟩, HW.out⟩
        · rw [HRR.out]; rfl
        · rw [HRR.out]; exact HOW.out
    · have HRR := hide (FIN.out (fun h => q1 h.1))
      go_wp2_with fail
      go_ret2
      refine ⟨⟨ao, cp, ?_, ?_⟩, HW.out⟩
      · rw [HRR.out]; rfl
      · rw [HRR.out]; exact HOW.out
end Vw
end Go.Proofs.YtecjegjnnahddaaGreat
