/-
  View: words lent, and whole again
-/
import Derived.Test.YtbffhfmhjnflbaaVwX
import Derived.Test.YtbffhfmhjnflbaaVwT
namespace Go.Proofs.Ytbffhfmhjnflbaa
open Go.RowKit
set_option linter.unusedVariables false
set_option linter.unusedSimpArgs false
set_option linter.unnecessarySimpa false
set_option maxRecDepth 20000
namespace Vw
open Shape
/-- 'append(v, xs...)', v the call's own, xs whatever slice: nil, empty or not. -/
theorem wpList_append_opt {P : Program} {w : World} {ops : Array Oper} {rest : List Oper} {o : Oper} {a : Act} {Q : Exit → Act → World → Prop} (hgd : o.guard = none) (s x : Operand) (t : TypeId)
    (ho : o.op = .call { callee := .builtin .append, args := #[s, x], argTypes := #[t, t] })
    (base : Nat) (e : TypeId) (i : TypeInfo) (z : Value) (size bytes : Nat) (ht : P.underlying t = some (.slice e)) (hi : P.info? e = some i) (hz : i.zero = some z)
    (hsize : i.size = size) (hby : i.bytes = bytes) (hzs : z.cells.size = size) (hsz : 0 < size)
    (v : Value) (n : Nat) (xs : List Value) (hs : a.eval s = v) (hown : w.ownsRow base e size v n xs)
    (ao : Option Addr) (m c : Nat) (news : List Value) (hx : a.eval x = .slice ao m c) (hnil : ao = none → m = 0 ∧ c = 0) (hl : news.length = m * size) (hnews : ∀ ad, ao = some ad → ∀ j u, news[j]? = some u → w.cell? (ad.add j) = some u) (h1 : ∀ u ∈ news, u.oneCell' = true)
    (h63 : n + m ≤ maxLen) (hbytes : (n + m) * bytes ≤ 140737488355328) (hbase : base ≤ w.heap.size)
    (h : ∀ v' w', w'.ownsRow base e size v' (n + m) (xs ++ news) → w.grownBy w' v.ownBlock → ((v' = .slice none 0 0) → v = .slice none 0 0) → wpList P ops Q rest (a.put o.dst v') w') : wpList P ops Q (o :: rest) a w := by
  cases ao with
  | none =>
    obtain ⟨rfl, rfl⟩ := hnil rfl
    have hn : news = [] := by simpa using hl
    subst hn
    refine wpList_append_own_none hgd s x t ho base e i size ht hi v n xs hs hown hx (h v w (by simpa using hown) ⟨rfl, rfl, rfl, Nat.le_refl _, fun _ _ _ => rfl⟩ (fun e => e))
  | some ad =>
    exact wpList_append_own w hgd s x t ho base e i z size bytes ht hi hz hsize hby hzs hsz v n xs hs hown ad m c news hx hl (hnews ad rfl) h1 h63 hbytes hbase fun v' w' h2 h3 h4 => h v' w' h2 h3 (fun e => (h4.1 e).1)


theorem owned_some {w : World} {base : Nat} {e : TypeId} {size : Nat} {v : Value} {n : Nat} {xs : List Value} (h : w.ownsRow base e size v n xs) (hv : ¬ v = .slice none 0 0) : ∃ g cap, v = .slice (some ⟨g, 0, none⟩) n cap ∧ base ≤ g ∧ n ≤ cap ∧ cap ≤ maxLen := by
  obtain ⟨hl, ⟨rfl, _⟩ | ⟨g, cap, cur, rfl, hb, hg, hc, hm, _⟩⟩ := h
  · exact absurd rfl hv
  · exact ⟨g, cap, rfl, hb, hc, hm⟩
def marked (n : Nat) (f : Nat → Int) : Nat → Int := fun i => if i < n then f i else 11259375
theorem marked_cells (n : Nat) (f : Nat → Int) : wcs n f ++ [.int .u64 11259375] = wcs (n + 1) (marked n f) := by
  apply List.ext_getElem?
  intro i
  by_cases hi : i < n
  · rw [List.getElem?_append_left (by rw [wcs_len]; exact hi), wcs_get _ hi, wcs_get _ (by omega)]
    simp [marked, hi]
  · rw [List.getElem?_append_right (by rw [wcs_len]; omega), wcs_len]
    by_cases he : i = n
    · subst he; rw [wcs_get _ (by omega)]; simp [marked]
    · have h1 : (wcs (n + 1) (marked n f))[i]? = none := List.getElem?_eq_none (by rw [wcs_len]; omega)
      rw [h1]
      exact List.getElem?_eq_none (by simp; omega)

set_option maxHeartbeats 4000000 in
theorem lent_ok {w : World} {ao : Option Addr} {n cap : Nat} {f : Nat → Int} (S : Sees w w.heap.size ao n f) (hnil : ao = none → n = 0 ∧ cap = 0) (hb : (n + 1) * 8 ≤ 140737488355328) :
    Calls Try.prog 7 #[.slice ao n cap] w fun e w' => (∃ g c, e = .returned (.slice (some ⟨g, 0, none⟩) n c) ∧ n < c ∧ Hid (w'.ownsRow w.heap.size 27 1 (.slice (some ⟨g, 0, none⟩) (n + 1) c) (n + 1) (wcs (n + 1) (marked n f)))) ∧ Below w.heap.size w w' := by
  have HS := hide S
  have HN := hide hnil
  clear S hnil
  obtain ⟨iU, hiU, hzU, hsU, hyU⟩ := infoU
  have hlen : (n : Int) ≤ 9223372036854775807 := by omega
  go_enter Try.func7, Try.ntmps7
  go_wp2_with (first
    | (at_builtin; refine wpList_append_opt rfl (.tmp 3) (.tmp 4) 24 rfl w.heap.size 27 iU (.int .u64 0) 1 8 Try.underlying24 hiU hzU hsU hyU rfl (by decide) (.slice (some ⟨w.heap.size, 0, none⟩) 0 0) 0 [] rfl (by have := World.ownsRow_lit (base := w.heap.size) (e := 27) (size := 1) w #[] 0 (by simp) (by unfold maxLen; omega) rfl; simpa using this) ao n cap (wcs n f) rfl HN.out (by rw [wcs_len]; omega) (news_of (sees_on HS.out ((Below.refl _ w).alloc (Nat.le_refl _) _))) (wcs_one n f) (by unfold maxLen; omega) (by omega) (by simp) ?_; intro v4 w4 hown4 hgrow4 hnn; rw [Nat.zero_add, List.nil_append] at hown4; obtain ⟨g4, c4, rfl, hg4, _⟩ := owned_some hown4 (fun he => by have := hnn he; cases this); have B4 := hide (show Below w.heap.size w w4 from ((Below.refl _ w).alloc (Nat.le_refl _) (.cells #[] 27)).grown hgrow4 (by simp) (by simp [Value.ownBlock])); have O4 := hide hown4; clear hown4 hgrow4 hnn)
    | (at_builtin; refine wpList_append_opt rfl (.tmp 5) (.tmp 6) 24 rfl w.heap.size 27 iU (.int .u64 0) 1 8 Try.underlying24 hiU hzU hsU hyU rfl (by decide) (.slice (some ⟨g4, 0, none⟩) n c4) n (wcs n f) rfl (O4.out.alloc _) (some ⟨w4.heap.size, 0, none⟩) 1 1 [.int .u64 11259375] rfl (fun h => by cases h) rfl (fun ad had q u hu => by cases had; exact cell_one_new w4 _ _ q u hu) (by simp [Value.oneCell']) (by unfold maxLen; omega) (by omega) (by have := B4.out.size; simp; omega) ?_; intro v5 w5 hown5 hgrow5 hnn5; rw [marked_cells] at hown5; obtain ⟨g5, c5, rfl, hg5, hc5, _⟩ := owned_some hown5 (fun he => by have := hnn5 he; cases this); have R5 := hide hown5; have B5 := hide (below_grown (B4.out.alloc B4.out.size _) (O4.out.alloc _) hgrow5 (by have := B4.out.size; simp; omega)); clear hown5 hgrow5 hnn5))
  go_ret
  exact ⟨⟨g5, c5, rfl, by omega, R5.out⟩, B5.out⟩

/-- Lent words, as they are seen. -/
theorem lent_sees {w : World} {base g n c : Nat} {f : Nat → Int} (h : w.ownsRow base 27 1 (.slice (some ⟨g, 0, none⟩) (n + 1) c) (n + 1) (wcs (n + 1) (marked n f))) : Sees w w.heap.size (some ⟨g, 0, none⟩) n f := by
  intro j hj
  obtain ⟨b, e, _, hl, hc, _⟩ := owns_cell h (wcs_get (marked n f) (show j < n + 1 by omega))
  cases e
  exact ⟨g, 0, rfl, hl, by simpa [marked, hj] using hc⟩

set_option maxHeartbeats 2000000 in
theorem whole_ok {w : World} {base g n c cap : Nat} {ao : Option Addr} {f : Nat → Int} (h : w.ownsRow base 27 1 (.slice (some ⟨g, 0, none⟩) (n + 1) c) (n + 1) (wcs (n + 1) (marked n f))) (hn : n < c) (hb : (n + 1) * 8 ≤ 140737488355328) (h' : Sees w w.heap.size ao n f) :
    Calls Try.prog 14 #[.slice (some ⟨g, 0, none⟩) n c, .slice ao n cap] w fun e w' => e = .returned (.bool true) ∧ ∃ m, w' = w.drewN m := by
  have SW := hide (same_words (cap := c) (cap' := cap) (lent_sees h) h' (fun _ _ => rfl) (by omega))
  obtain ⟨b, e, _, hl, hc, _⟩ := owns_cell h (wcs_get (marked n f) (show n < n + 1 by omega))
  cases e
  have hc2 : w.cell? ⟨g, n, none⟩ = some (.int .u64 11259375) := by simpa [marked] using hc
  have HC := hide hc2
  clear h h' hc hc2
  have hn1 : (n : Int) < ((n + 1 : Nat) : Int) := by omega
  have hn2 : (n : Int) + 1 ≤ (c : Int) := by omega
  have hn3 : (n : Int) < (n : Int) + 1 := by omega
  go_enter Try.func14, Try.ntmps14
  go_wp2_with (go_at_call 17; refine SW.out.mono ?_; rintro e w1 ⟨rfl, m, rfl⟩; have hc3 : (w.drewN m).cell? ⟨g, n, none⟩ = some (.int .u64 11259375) := HC.out)
  go_ret
  exact ⟨rfl, m, rfl⟩

/-- Steps as cells. -/
def spc (n : Nat) (a : Nat → Sp) : List Value := (List.range (n * 6)).map fun p => (a (p / 6)).cell (p % 6)
theorem spc_len (n : Nat) (a : Nat → Sp) : (spc n a).length = n * 6 := by simp [spc]
theorem spc_get {n : Nat} (a : Nat → Sp) {p : Nat} (h : p < n * 6) : (spc n a)[p]? = some ((a (p / 6)).cell (p % 6)) := by simp [spc, h]
theorem cell_one' (x : Sp) {i : Nat} (h : i < 6) : (x.cell i).oneCell' = true := by
  match i, h with
  | 0, _ | 1, _ | 2, _ | 3, _ | 4, _ | 5, _ => rfl
theorem spc_one (n : Nat) (a : Nat → Sp) : ∀ u ∈ spc n a, u.oneCell' = true := by
  intro u hu
  obtain ⟨p, _, rfl⟩ := List.mem_map.1 hu
  exact cell_one' _ (Nat.mod_lt _ (by decide))
theorem spc_news {w : World} {sa : Option Addr} {n : Nat} {a : Nat → Sp} (h : SeesP w sa n a) : ∀ ad, sa = some ad → ∀ j u, (spc n a)[j]? = some u → w.cell? (ad.add j) = some u := by
  intro ad hao j u hu
  have hj : j < n * 6 := by have := (List.getElem?_eq_some_iff.1 hu).1; rw [spc_len] at this; exact this
  obtain ⟨b, off, he, hbl, hcc⟩ := h (j / 6) (by omega)
  rw [hao] at he
  cases he
  rw [spc_get a hj] at hu
  cases hu
  rw [Go.WideShapes.add_plain]
  have := hcc (j % 6) (Nat.mod_lt _ (by decide))
  rw [show off + j / 6 * 6 + j % 6 = off + j by omega] at this
  exact this
def mk777 (n : Nat) (a : Nat → Sp) : Nat → Sp := fun i => if i < n then a i else ⟨777, 0, 0, 0, 0, false⟩
theorem spc_more (n : Nat) (a : Nat → Sp) : spc n a ++ [.int .i64 777, .int .i64 0, .int .i64 0, .int .u64 0, .int .u64 0, .bool false] = spc (n + 1) (mk777 n a) := by
  apply List.ext_getElem?
  intro i
  by_cases hi : i < n * 6
  · rw [List.getElem?_append_left (by rw [spc_len]; exact hi), spc_get _ hi, spc_get _ (by omega)]
    have : i / 6 < n := by omega
    simp [mk777, this]
  · rw [List.getElem?_append_right (by rw [spc_len]; omega), spc_len]
    by_cases hi2 : i < (n + 1) * 6
    · rw [spc_get _ hi2]
      have h1 : i / 6 = n := by omega
      have h2 : i % 6 = i - n * 6 := by omega
      rw [h1, h2]
      simp only [mk777, Nat.lt_irrefl, if_false]
      have h3 : i - n * 6 < 6 := by omega
      match i - n * 6, h3 with
      | 0, _ | 1, _ | 2, _ | 3, _ | 4, _ | 5, _ => rfl
    · have h1 : (spc (n + 1) (mk777 n a))[i]? = none := List.getElem?_eq_none (by rw [spc_len]; omega)
      rw [h1]
      exact List.getElem?_eq_none (by simp; omega)
theorem infoP : ∃ i z, Try.prog.info? 47 = some i ∧ i.zero = some z ∧ i.size = 6 ∧ i.bytes = 48 ∧ z.cells.size = 6 := by
  have h : (Try.prog.info? 47).map (fun i => (i.zero.map (fun z => z.cells.size), i.size, i.bytes)) = some (some 6, 6, 48) := by kernel_rfl
  cases hp : Try.prog.info? 47 with
  | none => rw [hp] at h; cases h
  | some i =>
    rw [hp] at h
    simp at h
    obtain ⟨⟨z, h1, h2⟩, h3, h4⟩ := h
    exact ⟨i, z, rfl, h1, h3, h4, h2⟩
theorem steps_see {w : World} {base g n c : Nat} {a : Nat → Sp} (h : w.ownsRow base 47 6 (.slice (some ⟨g, 0, none⟩) (n + 1) c) (n + 1) (spc (n + 1) (mk777 n a))) : SeesP w (some ⟨g, 0, none⟩) n a ∧ w.cell? ⟨g, n * 6, none⟩ = some (.int .i64 777) := by
  constructor
  · intro j hj
    obtain ⟨b, e, _, hl, _, _⟩ := owns_cell h (spc_get (mk777 n a) (p := 0) (by omega))
    cases e
    refine ⟨g, 0, rfl, hl, fun i hi => ?_⟩
    obtain ⟨b, e, _, _, hc, _⟩ := owns_cell h (spc_get (mk777 n a) (p := j * 6 + i) (by omega))
    cases e
    rw [show (j * 6 + i) / 6 = j by omega, show (j * 6 + i) % 6 = i by omega] at hc
    simp only [mk777, hj, if_true] at hc
    simpa using hc
  · obtain ⟨b, e, _, _, hc, _⟩ := owns_cell h (spc_get (mk777 n a) (p := n * 6) (by omega))
    cases e
    rw [show n * 6 / 6 = n by omega, show n * 6 % 6 = 0 by omega] at hc
    simpa [mk777, Sp.cell, lrow, Sp.cells] using hc
end Vw
end Go.Proofs.Ytbffhfmhjnflbaa
