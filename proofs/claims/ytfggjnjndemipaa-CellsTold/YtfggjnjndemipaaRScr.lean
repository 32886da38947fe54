/-
  The document's Script: the same steps and the same words, act by act.
-/
import Derived.Test.YtfggjnjndemipaaScr
import Derived.Laws.AppendOwnNone
namespace Go.Proofs.Ytfggjnjndemipaa
open Go.RowKit
set_option linter.unusedVariables false
set_option linter.unusedSimpArgs false

/-- 'append(v, xs...)', v the call's own, xs whatever slice: nil, empty or not. -/
theorem wpList_append_opt {P : Program} {w : World} {ops : Array Oper} {rest : List Oper} {o : Oper} {a : Act} {Q : Exit → Act → World → Prop} (hgd : o.guard = none) (s x : Operand) (t : TypeId)
    (ho : o.op = .call { callee := .builtin .append, args := #[s, x], argTypes := #[t, t] })
    (base : Nat) (e : TypeId) (i : TypeInfo) (z : Value) (size bytes : Nat) (ht : P.underlying t = some (.slice e)) (hi : P.info? e = some i) (hz : i.zero = some z)
    (hsize : i.size = size) (hby : i.bytes = bytes) (hzs : z.cells.size = size) (hsz : 0 < size)
    (v : Value) (n : Nat) (xs : List Value) (hs : a.eval s = v) (hown : w.ownsRow base e size v n xs)
    (ao : Option Addr) (m c : Nat) (news : List Value) (hx : a.eval x = .slice ao m c) (hnil : ao = none → m = 0 ∧ c = 0) (hl : news.length = m * size) (hnews : ∀ ad, ao = some ad → ∀ j u, news[j]? = some u → w.cell? (ad.add j) = some u) (h1 : ∀ u ∈ news, u.oneCell' = true)
    (h63 : n + m ≤ maxLen) (hbytes : (n + m) * bytes ≤ 140737488355328) (hbase : base ≤ w.heap.size)
    (h : ∀ v' w', w'.ownsRow base e size v' (n + m) (xs ++ news) → w.grownBy w' v.ownBlock → ((v' = .slice none 0 0) → v = .slice none 0 0) → wpList P ops Q rest (a.put o.dst v') w') : wpList P ops Q (o :: rest) a w := by
  cases ao with
  | none =>
    obtain ⟨rfl, rfl⟩ := hnil rfl
    have hn : news = [] := by simpa using hl
    subst hn
    refine wpList_append_own_none hgd s x t ho base e i size ht hi v n xs hs hown hx (h v w (by simpa using hown) ⟨rfl, rfl, rfl, Nat.le_refl _, fun _ _ _ => rfl⟩ (fun e => e))
  | some ad =>
    exact wpList_append_own w hgd s x t ho base e i z size bytes ht hi hz hsize hby hzs hsz v n xs hs hown ad m c news hx hl (hnews ad rfl) h1 h63 hbytes hbase fun v' w' h2 h3 h4 => h v' w' h2 h3 (fun e => (h4.1 e).1)

theorem info36z : (Try.prog.info? 36).map (fun i => (i.zero, i.size, i.bytes)) = some (some (.int .u64 0), 1, 8) := by kernel_rfl
theorem info38z : (Try.prog.info? 38).map (fun i => (i.zero, i.size, i.bytes)) = some (some (.agg #[.int .i64 0, .int .i64 0, .int .i64 0, .int .u64 0, .int .u64 0, .bool false]), 6, 48) := by kernel_rfl

/-- A row of words as cells. -/
def wordCells (n : Nat) (f : Nat → Int) : List Value := (List.range n).map fun i => Value.int .u64 (f i)
theorem wordCells_length (n : Nat) (f : Nat → Int) : (wordCells n f).length = n := by simp [wordCells]
theorem wordCells_one (n : Nat) (f : Nat → Int) : ∀ u ∈ wordCells n f, u.oneCell' = true := by intro u hu; obtain ⟨i, _, rfl⟩ := List.mem_map.1 hu; rfl

theorem Sees.news {w : World} {B : Nat} {ao : Option Addr} {n : Nat} {f : Nat → Int} (h : Sees w B ao n f) : ∀ ad, ao = some ad → ∀ j u, (wordCells n f)[j]? = some u → w.cell? (ad.add j) = some u := by
  intro ad hao j u hu
  have hj : j < n := by have := (List.getElem?_eq_some_iff.1 hu).1; simpa [wordCells] using this
  obtain ⟨b, off, he, hbl, hcc⟩ := h j hj
  rw [hao] at he
  cases he
  have : u = .int .u64 (f j) := by simp [wordCells, hj] at hu; exact hu.symm
  subst this
  rw [Go.WideShapes.add_plain]
  exact hcc
theorem Sees.alloc {w : World} {ao : Option Addr} {n : Nat} {f : Nat → Int} (h : Sees w w.heap.size ao n f) (o : Obj) : Sees (w.alloc o) w.heap.size ao n f := h.below ((Below.refl _ w).alloc (Nat.le_refl _) o) (Nat.le_refl _)

/-- What 'append' leaves, where it is not nil. -/
theorem owned_row {w : World} {base n : Nat} {v : Value} {f : Nat → Int} (h : w.ownsRow base 36 1 v n (wordCells n f)) (hv : ¬ v = .slice none 0 0) (hf : ∀ i, i < n → 0 ≤ f i ∧ f i ≤ 18446744073709551615) :
    ∃ g cap, v = .slice (some ⟨g, 0, none⟩) n cap ∧ IsRow w g n cap f ∧ base ≤ g := by
  obtain ⟨hl, ⟨rfl, _⟩ | ⟨g, cap, cur, rfl, hb, hg, hc, hm, hsz, ht⟩⟩ := h
  · exact absurd rfl hv
  · exact ⟨g, cap, rfl, IsRow.of_owns (base := base) ⟨hl, .inr ⟨g, cap, cur, rfl, hb, hg, hc, hm, hsz, ht⟩⟩ hf, hb⟩

def Stp.cells (s : Stp) : List Value := [.int .i64 s.hand, .int .i64 s.act, .int .i64 s.at_, .int .u64 s.had, .int .u64 s.put, .bool s.ok]
theorem Stp.cells_get (s : Stp) (i : Nat) (hi : i < 6) : s.cells[i]? = some (s.cell i) := by
  match i, hi with
  | 0, _ => rfl
  | 1, _ => rfl
  | 2, _ => rfl
  | 3, _ => rfl
  | 4, _ => rfl
  | 5, _ => rfl
def stepCells (s : Nat → Stp) : Nat → List Value
  | 0 => []
  | k + 1 => stepCells s k ++ (s k).cells
theorem stepCells_length (s : Nat → Stp) (k : Nat) : (stepCells s k).length = k * 6 := by
  induction k with
  | zero => rfl
  | succ k ih => simp [stepCells, ih, Stp.cells]; omega
theorem stepCells_get (s : Nat → Stp) (k j i : Nat) (hj : j < k) (hi : i < 6) : (stepCells s k)[j * 6 + i]? = some ((s j).cell i) := by
  induction k with
  | zero => omega
  | succ k ih =>
    simp only [stepCells]
    by_cases h : j < k
    · rw [List.getElem?_append_left (by rw [stepCells_length]; omega)]
      exact ih h
    · have : j = k := by omega
      subst this
      rw [List.getElem?_append_right (by rw [stepCells_length]; omega), stepCells_length, show j * 6 + i - j * 6 = i by omega]
      exact Stp.cells_get _ i hi

/-- A row of steps that is owned, as it is seen. -/
theorem owned_steps {w : World} {base k : Nat} {v : Value} {s : Nat → Stp} (h : w.ownsRow base 38 6 v k (stepCells s k)) :
    ∃ ao cap, v = .slice ao k cap ∧ SeesS w w.heap.size ao k s := by
  obtain ⟨hl, ⟨rfl, rfl⟩ | ⟨g, cap, cur, rfl, hb, hg, hc, hm, hsz, ht⟩⟩ := h
  · exact ⟨none, 0, rfl, fun j hj => absurd hj (Nat.not_lt_zero _)⟩
  · refine ⟨_, cap, rfl, fun j hj => ⟨g, 0, rfl, ?_, fun i hi => ?_⟩⟩
    · by_cases hlt : g < w.heap.size
      · exact hlt
      · rw [Array.getElem?_eq_none (by omega)] at hg; cases hg
    · have := World.ownsRow.cellAt (base := base) (e := 38) (size := 6) (n := k) (cap := cap) ⟨hl, .inr ⟨g, cap, cur, rfl, hb, hg, hc, hm, hsz, ht⟩⟩ (j * 6 + i) (by omega)
      simp only [Nat.zero_add]
      rw [this]
      exact stepCells_get s k j i hj hi

theorem owns_grown {w w' : World} {base k g : Nat} {v : Value} {xs : List Value} {n cap : Nat} {f : Nat → Int} (h : w.ownsRow base 38 6 v k xs) (hr : IsRow w g n cap f) (hg : w.grownBy w' (some g)) : w'.ownsRow base 38 6 v k xs := by
  obtain ⟨hl, h | ⟨g', cap', cur, rfl, hb, hg', hc, hm, hsz, ht⟩⟩ := h
  · exact ⟨hl, .inl h⟩
  · refine ⟨hl, .inr ⟨g', cap', cur, rfl, hb, ?_, hc, hm, hsz, ht⟩⟩
    have hlt : g' < w.heap.size := by
      by_cases hlt : g' < w.heap.size
      · exact hlt
      · rw [Array.getElem?_eq_none (by omega)] at hg'; cases hg'
    rw [hg.block g' hlt ?_]
    · exact hg'
    · intro e
      cases e
      obtain ⟨_, _, ⟨c, ⟨c', h1, _⟩, _⟩, _⟩ := hr
      rw [hg'] at h1; cases h1

theorem ne_own {w : World} {base k g : Nat} {v : Value} {xs : List Value} {n cap : Nat} {f : Nat → Int} (h : w.ownsRow base 38 6 v k xs) (hr : IsRow w g n cap f) : some g ≠ v.ownBlock := by
  intro e
  obtain ⟨_, ⟨rfl, _⟩ | ⟨g', cap', cur, rfl, _, hg', _⟩⟩ := h
  · simp [Value.ownBlock] at e
  · simp [Value.ownBlock] at e
    subst e
    obtain ⟨_, _, ⟨c, ⟨c', h1, _⟩, _⟩, _⟩ := hr
    rw [hg'] at h1; cases h1
theorem step_new (w : World) (x : Stp) : ∀ j u, x.cells[j]? = some u → (w.alloc (.cells #[.int .i64 x.hand, .int .i64 x.act, .int .i64 x.at_, .int .u64 x.had, .int .u64 x.put, .bool x.ok] 38)).cell? (Addr.add ⟨w.heap.size, 0, none⟩ j) = some u := by
  intro j u hu
  have hj : j < 6 := by have := (List.getElem?_eq_some_iff.1 hu).1; simpa [Stp.cells] using this
  rw [Go.WideShapes.add_plain]
  rw [Stp.cells_get x j hj] at hu
  match j, hj with
  | 0, _ => simpa [Stp.cell] using hu
  | 1, _ => simpa [Stp.cell] using hu
  | 2, _ => simpa [Stp.cell] using hu
  | 3, _ => simpa [Stp.cell] using hu
  | 4, _ => simpa [Stp.cell] using hu
  | 5, _ => simpa [Stp.cell] using hu
theorem step_one (x : Stp) : ∀ u ∈ x.cells, u.oneCell' = true := by
  intro u hu
  simp [Stp.cells] at hu
  rcases hu with rfl | rfl | rfl | rfl | rfl | rfl <;> rfl

theorem rscript_long {w : World} {ao ao' : Option Addr} {n cap l cap' : Nat} (hl : 4096 < n ∨ 65536 < l) :
    Calls Try.prog 10 #[.slice ao n cap, .slice ao' l cap'] w fun e w' => e = .returned (.tuple #[.slice none 0 0, .slice none 0 0, .int .i64 1]) ∧ w' = w := by
  by_cases hn : 4096 < n
  · go_enter Try.func10, Try.ntmps10
    go_wp2
    refine bodyPost_ret (v := .tuple #[.slice none 0 0, .slice none 0 0, .int .i64 1]) (by simp [results, Try.results10, go_sem]) rfl ⟨rfl, rfl⟩
  · have hl' : 65536 < l := by omega
    go_enter Try.func10, Try.ntmps10
    go_wp2
    refine bodyPost_ret (v := .tuple #[.slice none 0 0, .slice none 0 0, .int .i64 1]) (by simp [results, Try.results10, go_sem]) rfl ⟨rfl, rfl⟩

set_option maxHeartbeats 1600000 in
theorem rscript_any {w : World} {ao ao' : Option Addr} {n cap l cap' : Nat} {f : Nat → Int} {a : Nat → Stp} (h : Sees w w.heap.size ao n f) (hnil : ao = none → n = 0 ∧ cap = 0) (hf : ∀ i, i < n → 0 ≤ f i ∧ f i ≤ 18446744073709551615) (hn : n ≤ 4096)
    (h' : SeesS w w.heap.size ao' l a) (hl : l ≤ 65536) (hp : ∀ i, i < l → 0 ≤ (a i).put ∧ (a i).put ≤ 18446744073709551615) :
    Calls Try.prog 10 #[.slice ao n cap, .slice ao' l cap'] w fun e w' => ∃ aos caps gw capw, e = .returned (.tuple #[.slice aos l caps, .slice (some ⟨gw, 0, none⟩) n capw, .int .i64 0]) ∧
      SeesS w' w'.heap.size aos l (runS n f a) ∧ IsRow w' gw n capw (runW n f a l) ∧ Below w.heap.size w w' ∧ w.heap.size ≤ gw := by
  obtain ⟨i0, hi, hz0, hz1, hz2⟩ := info_parts info36z
  obtain ⟨j0, hj, hy0, hy1, hy2⟩ := info_parts info38z
  have H := hide h
  have H' := hide h'
  have HF := hide hf
  have HP := hide hp
  have HN := hide hnil
  clear h h' hf hp hnil
  go_enter Try.func10, Try.ntmps10
  go_wp2_with (at_builtin; refine wpList_append_opt rfl (.tmp 18) (.tmp 19) 22 rfl w.heap.size 36 i0 (.int .u64 0) 1 8 Try.underlying22 hi hz0 hz1 hz2 rfl (by decide) (.slice (some ⟨w.heap.size, 0, none⟩) 0 0) 0 [] rfl (World.ownsRow_lit _ #[] 0 (by omega) (by unfold maxLen; omega) rfl) ao n cap (wordCells n f) rfl HN.out (by simp [wordCells]) ((H.out.alloc _).news) (wordCells_one n f) (by unfold maxLen; omega) (by omega) (by simp) ?_; intro v1 w1 hown1 hgrow1 hnn)
  obtain ⟨g, capg, rfl, hr1, hg1⟩ := owned_row (by simpa using hown1) (by intro e; have := hnn e; simp at this) HF.out
  have b1 : Below w.heap.size w w1 := ((Below.refl _ w).alloc (Nat.le_refl _) _).grown hgrow1 (by simp) (by intro k hk; simp [Value.ownBlock] at hk; omega)
  have R1 := hide hr1
  have B1 := hide b1
  clear hown1 hgrow1 hnn hr1 b1
  go_loopw [8, 9] (fun v i wr => ∃ k : Nat, k ≤ l ∧ i = .int .i64 k ∧ wr.ownsRow w.heap.size 38 6 v k (stepCells (runS n f a) k) ∧ IsRow wr g n capg (runW n f a k) ∧ Below w.heap.size w wr) (fun _ i _ => l - (intOf i).toNat)
  case atStart => exact ⟨0, Nat.zero_le _, rfl, World.ownsRow_nil _ _ _ _, R1.out, B1.out⟩
  case round =>
    obtain ⟨k, hk, rfl, hown, hr, hb⟩ := hrel
    by_cases hlt : k < l
    · obtain ⟨b, off, rfl, hbl, hcc⟩ := H'.out k hlt
      have hcx : ∀ i, i < 6 → wr.cell? ⟨b, off + k * 6 + i, none⟩ = some ((a k).cell i) := fun i hi => (hb.cell (p := ⟨b, off + k * 6 + i, none⟩) hbl).trans (hcc i hi)
      have p0 := hcx 0 (by omega)
      have p1 := hcx 1 (by omega)
      have p2 := hcx 2 (by omega)
      have p3 := hcx 3 (by omega)
      have p4 := hcx 4 (by omega)
      have p5 := hcx 5 (by omega)
      simp only [Stp.cell, Nat.add_zero] at p0 p1 p2 p3 p4 p5
      clear hcc hcx
      go_wp2_with fail
      refine (ref_do hr (a k) (HP.out k hlt)).mono ?_
      rintro e w2 ⟨rfl, hr2, hg2⟩
      obtain ⟨x, hx⟩ : ∃ x, x = stepOf n (runW n f a k) (a k) := ⟨_, rfl⟩
      rw [← hx]
      have HX : Hid (runS n f a k = x) := hx.symm
      clear hx
      simp only [Stp.val]
      have hown2 := owns_grown hown hr hg2
      have hb2 : Below w.heap.size w w2 := hb.trans (grown_below hg2 hb.size hg1)
      have HR2 := hide hr2
      have HB2 := hide hb2
      have HO2 := hide hown2
      clear hown hr hb p0 p1 p2 p3 p4 p5 hr2 hg2 hown2 hb2
      go_wp2_with (at_builtin; refine wpList_append_own _ rfl (.tmp 27) (.tmp 34) 23 rfl w.heap.size 38 j0 _ 6 48 Try.underlying23 hj hy0 hy1 hy2 rfl (by decide) _ k (stepCells (runS n f a) k) rfl (HO2.out.alloc _) ⟨w2.heap.size, 0, none⟩ 1 1 x.cells rfl rfl (step_new w2 x) (step_one x) (by unfold maxLen; omega) (by omega) (by have := HB2.out.size; simp; omega) ?_; intro v3 w3 hown3 hgrow3 _)
      have hr3 : IsRow w3 g n capg (runW n f a (k + 1)) := by
        refine (HR2.out.alloc (.cells #[.int .i64 x.hand, .int .i64 x.act, .int .i64 x.at_, .int .u64 x.had, .int .u64 x.put, .bool x.ok] 38)).grown hgrow3 ?_
        exact ne_own HO2.out HR2.out
      have hb3 : Below w.heap.size w w3 := (HB2.out.alloc HB2.out.size _).grown hgrow3 (by have := HB2.out.size; simp; omega) (fun q hq => (HO2.out.lt q hq).1)
      have ho3 : w3.ownsRow w.heap.size 38 6 v3 (k + 1) (stepCells (runS n f a) (k + 1)) := by
        simp only [stepCells]
        rw [HX.out]
        exact hown3
      have HR3 := hide hr3
      have HB3 := hide hb3
      have HO3 := hide ho3
      clear hr3 hb3 ho3 hown3 hgrow3
      go_wp2
      go_roundw
      case rel => exact ⟨k + 1, by omega, by go_num, HO3.out, HR3.out, HB3.out⟩
      case measure => simp [intOf]; omega
    · have hkl : k = l := by omega
      subst hkl
      obtain ⟨aos, caps, rfl, hss⟩ := owned_steps hown
      go_wp2
      refine bodyPost_ret (v := .tuple #[.slice aos k caps, .slice (some ⟨g, 0, none⟩) n capg, .int .i64 0]) (by simp [results, Try.results10, go_sem]) rfl ⟨_, _, _, _, rfl, hss, hr, hb, hg1⟩
end Go.Proofs.Ytfggjnjndemipaa
