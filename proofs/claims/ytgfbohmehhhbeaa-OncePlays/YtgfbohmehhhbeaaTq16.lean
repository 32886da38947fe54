/-
  Lemmas: L4Lent, L4Nums, RGS, RSq.
-/
import Derived.Test.YtgfbohmehhhbeaaTp06
import Derived.Deep.CutRange
import Derived.Test.YtgfbohmehhhbeaaTp08
import Derived.Test.YtgfbohmehhhbeaaTp18
/-
  Words in new memory with a marked one behind them.
-/
namespace Go.Proofs.Ytgfbohmehhhbeaa
open Go.RowKit
set_option linter.unusedVariables false
set_option linter.unusedSimpArgs false
set_option linter.unnecessarySimpa false
set_option maxRecDepth 20000
namespace L4

variable {w : World} {ao : Option Addr} {cap n : Nat} {f : Nat → Int}

/-- The words, and the mark behind them. -/
def marked (n : Nat) (f : Nat → Int) : Nat → Int := fun i => if i < n then f i else 11259375

theorem marked_cells (n : Nat) (f : Nat → Int) : wordCells n f ++ [.int .u64 11259375] = wordCells (n + 1) (marked n f) := by
  apply List.ext_getElem?
  intro i
  by_cases hi : i < n
  · rw [List.getElem?_append_left (by simpa [wordCells] using hi)]
    have h2 : i < n + 1 := by omega
    simp [wordCells, hi, h2, marked]
  · rw [List.getElem?_append_right (by simp [wordCells]; omega)]
    by_cases he : i = n
    · subst he; simp [wordCells, marked]
    · have h2 : ¬ i < n + 1 := by omega
      have h3 : ¬ i - n = 0 := by omega
      simp [wordCells, h2, h3]

set_option maxHeartbeats 4000000 in
theorem lent_any (S : Sees w w.heap.size ao n f) (hnil : ao = none → n = 0 ∧ cap = 0) (hf : ∀ i, i < n → 0 ≤ f i ∧ f i ≤ 18446744073709551615) (hb : (n + 1) * 8 ≤ 140737488355328) :
    Calls Try.prog 27 #[.slice ao n cap] w fun e w' => ∃ g c, e = .returned (.slice (some ⟨g, 0, none⟩) n c) ∧ n < c ∧ IsRow w' g (n + 1) c (marked n f) ∧ w.heap.size ≤ g ∧ Below w.heap.size w w' := by
  have HS := hide S
  have HN := hide hnil
  have HF := hide hf
  have HM := hide (show ∀ i, i < n + 1 → 0 ≤ marked n f i ∧ marked n f i ≤ 18446744073709551615 from fun i hi => by
    unfold marked; split
    · rename_i h; exact hf i h
    · decide)
  clear S hnil hf
  obtain ⟨i46, hi46, hz46, hs46, hy46⟩ := info46e
  have hlen : (n : Int) ≤ 9223372036854775807 := by omega
  go_enter Try.func27, Try.ntmps27
  go_wp2_with (first
    | (at_builtin; refine wpList_append_opt rfl (.tmp 3) (.tmp 4) 24 rfl w.heap.size 40 i46 (.int .u64 0) 1 8 Try.underlying24 hi46 hz46 hs46 hy46 rfl (by decide) (.slice (some ⟨w.heap.size, 0, none⟩) 0 0) 0 [] rfl (by have := World.ownsRow_lit (base := w.heap.size) (e := 40) (size := 1) w #[] 0 (by simp) (by unfold maxLen; omega) rfl; simpa using this) ao n cap (wordCells n f) rfl HN.out (by simp [wordCells]) (Sees.news (HS.out.alloc _)) (wordCells_one n f) (by unfold maxLen; omega) (by omega) (by simp) ?_; intro v4 w4 hown4 hgrow4 hnn; rw [Nat.zero_add, List.nil_append] at hown4; obtain ⟨g4, c4, rfl, _, hg4⟩ := owned_row hown4 (fun he => by have := hnn he; cases this) HF.out; have B4 := hide (show Below w.heap.size w w4 from ((Below.refl _ w).alloc (Nat.le_refl _) (.cells #[] 40)).grown hgrow4 (by simp) (by simp [Value.ownBlock])); have O4 := hide hown4; clear hown4 hgrow4 hnn)
    | (at_builtin; refine wpList_append_opt rfl (.tmp 5) (.tmp 6) 24 rfl w.heap.size 40 i46 (.int .u64 0) 1 8 Try.underlying24 hi46 hz46 hs46 hy46 rfl (by decide) (.slice (some ⟨g4, 0, none⟩) n c4) n (wordCells n f) rfl (O4.out.alloc _) (some ⟨w4.heap.size, 0, none⟩) 1 1 [.int .u64 11259375] rfl (fun h => by cases h) rfl (fun ad had q u hu => by cases had; match q, hu with | 0, hu => injection hu with hu; subst hu; first | (rw [Go.WideShapes.add_plain]; simp) | rfl) (by simp [Value.oneCell']) (by unfold maxLen; omega) (by omega) (by have := B4.out.size; simp; omega) ?_; intro v5 w5 hown5 hgrow5 hnn5; rw [marked_cells] at hown5; obtain ⟨g5, c5, rfl, row5, hg5⟩ := owned_row hown5 (fun he => by have := hnn5 he; cases this) HM.out; have R5 := hide row5; have B5 := hide (show Below w.heap.size w w5 from B4.out.trans ((((Below.refl _ w4).alloc (Nat.le_refl _) _).mono B4.out.size).trans (grown_below (r := g4) (by simpa [Value.ownBlock] using hgrow5) (by have := B4.out.size; simp; omega) hg4))); have hc5 : n < c5 := row5.1; clear hown5 hgrow5 hnn5 row5))
  go_ret
  exact ⟨g5, c5, rfl, hc5, R5.out, hg5, B5.out⟩
end L4
end Go.Proofs.Ytgfbohmehhhbeaa

/-
  A schedule in new memory with a marked number behind it.
-/
namespace Go.Proofs.Ytgfbohmehhhbeaa
open Go.RowKit
set_option linter.unusedVariables false
set_option linter.unusedSimpArgs false
set_option linter.unnecessarySimpa false
set_option maxRecDepth 20000
namespace L4

variable {w : World} {ao : Option Addr} {cap n : Nat} {s : Nat → Int}

def numCells (n : Nat) (s : Nat → Int) : List Value := (List.range n).map (fun i => Value.int .i64 (s i))
theorem numCells_one (n : Nat) (s : Nat → Int) : ∀ u ∈ numCells n s, u.oneCell' = true := by
  intro u hu
  simp only [numCells, List.mem_map] at hu
  obtain ⟨i, _, rfl⟩ := hu
  rfl
def markI (n : Nat) (s : Nat → Int) : Nat → Int := fun i => if i < n then s i else -777

theorem markI_cells (n : Nat) (s : Nat → Int) : numCells n s ++ [.int .i64 (-777)] = numCells (n + 1) (markI n s) := by
  apply List.ext_getElem?
  intro i
  by_cases hi : i < n
  · rw [List.getElem?_append_left (by simpa [numCells] using hi)]
    have h2 : i < n + 1 := by omega
    simp [numCells, hi, h2, markI]
  · rw [List.getElem?_append_right (by simp [numCells]; omega)]
    by_cases he : i = n
    · subst he; simp [numCells, markI]
    · have h2 : ¬ i < n + 1 := by omega
      have h3 : ¬ i - n = 0 := by omega
      simp [numCells, h2, h3]

theorem info3e : ∃ i, Try.prog.info? 3 = some i ∧ i.zero = some (.int .i64 0) ∧ i.size = 1 ∧ i.bytes = 8 := by
  have h : (Try.prog.info? 3).map (fun i => (i.zero, i.size, i.bytes)) = some (some (.int .i64 0), 1, 8) := by kernel_rfl
  obtain ⟨i, h1, h2⟩ := Option.map_eq_some_iff.1 h
  injection h2 with h2 h3
  injection h3 with h3 h4
  exact ⟨i, h1, h2, h3, h4⟩

theorem _root_.Go.Proofs.Ytgfbohmehhhbeaa.SeesI.news {B : Nat} (h : SeesI w B ao n s) : ∀ ad, ao = some ad → ∀ j u, (numCells n s)[j]? = some u → w.cell? (ad.add j) = some u := by
  intro ad hao j u hu
  have hj : j < n := by have := (List.getElem?_eq_some_iff.1 hu).1; simpa [numCells] using this
  obtain ⟨b, off, he, hbl, hcc⟩ := h j hj
  rw [hao] at he
  cases he
  have : u = .int .i64 (s j) := by simp [numCells, hj] at hu; exact hu.symm
  subst this
  rw [Go.WideShapes.add_plain]
  exact hcc
theorem _root_.Go.Proofs.Ytgfbohmehhhbeaa.SeesI.alloc (h : SeesI w w.heap.size ao n s) (o : Obj) : SeesI (w.alloc o) w.heap.size ao n s := h.below ((Below.refl _ w).alloc (Nat.le_refl _) o) (Nat.le_refl _)

theorem owned_some {base n size : Nat} {e : TypeId} {v : Value} {xs : List Value} (h : w.ownsRow base e size v n xs) (hv : ¬ v = .slice none 0 0) : ∃ g cap, v = .slice (some ⟨g, 0, none⟩) n cap ∧ base ≤ g ∧ n ≤ cap := by
  obtain ⟨hl, ⟨rfl, _⟩ | ⟨g, cap, cur, rfl, hb, hg, hc, hm, hsz, ht⟩⟩ := h
  · exact absurd rfl hv
  · exact ⟨g, cap, rfl, hb, hc⟩

theorem seesI_of {base n g cap : Nat} (h : w.ownsRow base 3 1 (.slice (some ⟨g, 0, none⟩) n cap) n (numCells n s)) : SeesI w w.heap.size (some ⟨g, 0, none⟩) n s := fun j hj => by
  refine ⟨g, 0, rfl, (h.lt g rfl).2, ?_⟩
  rw [Nat.zero_add, h.cellAt j (by omega)]
  simp [numCells, hj]

set_option maxHeartbeats 4000000 in
theorem numbers_any (S : SeesI w w.heap.size ao n s) (hnil : ao = none → n = 0 ∧ cap = 0) (hb : (n + 1) * 8 ≤ 140737488355328) :
    Calls Try.prog 29 #[.slice ao n cap] w fun e w' => ∃ g c, e = .returned (.slice (some ⟨g, 0, none⟩) n c) ∧ n < c ∧ SeesI w' w'.heap.size (some ⟨g, 0, none⟩) (n + 1) (markI n s) ∧ w.heap.size ≤ g ∧ Below w.heap.size w w' := by
  have HS := hide S
  have HN := hide hnil
  clear S hnil
  obtain ⟨i3, hi3, hz3, hs3, hy3⟩ := info3e
  have hlen : (n : Int) ≤ 9223372036854775807 := by omega
  go_enter Try.func29, Try.ntmps29
  go_wp2_with (first
    | (at_builtin; refine wpList_append_opt rfl (.tmp 3) (.tmp 4) 26 rfl w.heap.size 3 i3 (.int .i64 0) 1 8 Try.underlying26 hi3 hz3 hs3 hy3 rfl (by decide) (.slice (some ⟨w.heap.size, 0, none⟩) 0 0) 0 [] rfl (by have := World.ownsRow_lit (base := w.heap.size) (e := 3) (size := 1) w #[] 0 (by simp) (by unfold maxLen; omega) rfl; simpa using this) ao n cap (numCells n s) rfl HN.out (by simp [numCells]) (SeesI.news (HS.out.alloc _)) (numCells_one n s) (by unfold maxLen; omega) (by omega) (by simp) ?_; intro v4 w4 hown4 hgrow4 hnn; rw [Nat.zero_add, List.nil_append] at hown4; obtain ⟨g4, c4, rfl, hg4, _⟩ := owned_some hown4 (fun he => by have := hnn he; cases this); have B4 := hide (show Below w.heap.size w w4 from ((Below.refl _ w).alloc (Nat.le_refl _) (.cells #[] 3)).grown hgrow4 (by simp) (by simp [Value.ownBlock])); have O4 := hide hown4; clear hown4 hgrow4 hnn)
    | (at_builtin; refine wpList_append_opt rfl (.tmp 5) (.tmp 6) 26 rfl w.heap.size 3 i3 (.int .i64 0) 1 8 Try.underlying26 hi3 hz3 hs3 hy3 rfl (by decide) (.slice (some ⟨g4, 0, none⟩) n c4) n (numCells n s) rfl (O4.out.alloc _) (some ⟨w4.heap.size, 0, none⟩) 1 1 [.int .i64 (-777)] rfl (fun h => by cases h) rfl (fun ad had q u hu => by cases had; match q, hu with | 0, hu => injection hu with hu; subst hu; first | (rw [Go.WideShapes.add_plain]; simp) | rfl) (by simp [Value.oneCell']) (by unfold maxLen; omega) (by omega) (by have := B4.out.size; simp; omega) ?_; intro v5 w5 hown5 hgrow5 hnn5; rw [markI_cells] at hown5; obtain ⟨g5, c5, rfl, hg5, hc5⟩ := owned_some hown5 (fun he => by have := hnn5 he; cases this); have R5 := hide (seesI_of hown5); have B5 := hide (show Below w.heap.size w w5 from B4.out.trans ((((Below.refl _ w4).alloc (Nat.le_refl _) _).mono B4.out.size).trans (grown_below (r := g4) (by simpa [Value.ownBlock] using hgrow5) (by have := B4.out.size; simp; omega) hg4))); clear hown5 hgrow5 hnn5))
  go_ret
  exact ⟨g5, c5, rfl, hc5, R5.out, hg5, B5.out⟩
end L4
end Go.Proofs.Ytgfbohmehhhbeaa

/-
  Regions that draw their order, with one call that turns the world: told into a variable that the region makes (SG), or into one of two variables made ahead (SM). What else stands in the world is any invariant.
-/
namespace Go.Proofs.Ytgfbohmehhhbeaa
open Go.RowKit
set_option linter.unusedVariables false
set_option linter.unusedSimpArgs false
namespace RG

/-- c: the call is done; al: the variable is made; st: it is written. -/
structure SG (I : Bool → World → Prop) (X : Stp) (w0 : World) (c al st : Bool) (v : Value) (w : World) : Prop where
  inv : I c w
  siz : w0.heap.size ≤ w.heap.size
  own : al = true → ∃ q, v = .pointer (some ⟨q, 0, none⟩) ∧ w0.heap.size ≤ q ∧ q < w.heap.size ∧ (st = false → w.rowIs q 71 6 zcell) ∧ (st = true → w.rangeAt q 0 X.cells)
  dep : st = true → c = true ∧ al = true

section
variable {I : Bool → World → Prop} {X : Stp} {w0 w w' : World} {c al st : Bool} {v : Value}
theorem SG.start (h : I false { w0 with drawn := w0.drawn + 1 }) : SG I X w0 false false false v { w0 with drawn := w0.drawn + 1 } :=
  ⟨h, Nat.le_refl _, fun h => (by cases h), fun h => (by cases h)⟩
theorem SG.make (hI : ∀ c w w', Below w0.heap.size w w' → w0.heap.size ≤ w.heap.size → I c w → I c w') (h : SG I X w0 c al st v w) (hal : al = false) :
    SG I X w0 c true st (.pointer (some ⟨w.heap.size, 0, none⟩)) (w.alloc (.cells [Value.int .i64 0, .int .i64 0, .int .i64 0, .int .u64 0, .int .u64 0, .bool false].toArray 71)) := by
  have hst : st = false := by
    cases hs : st with
    | false => rfl
    | true => have := (h.dep hs).2; rw [hal] at this; cases this
  subst hst
  exact ⟨hI _ _ _ ((Below.refl _ w).alloc h.siz _) h.siz h.inv, by simp; have := h.siz; omega, fun _ => ⟨_, rfl, h.siz, by simp, fun _ => row0 w, fun h => (by cases h)⟩, fun h => (by cases h)⟩
theorem SG.act {g : Nat} (h : SG I X w0 c al st v w) (hc : c = false) (hg0 : g < w0.heap.size) (hi : I true w') (hg : w.grownBy w' (some g)) : SG I X w0 true al st v w' := by
  have hst : st = false := by
    cases hs : st with
    | false => rfl
    | true => have := (h.dep hs).1; rw [hc] at this; cases this
  subst hst
  refine ⟨hi, Nat.le_trans h.siz hg.size, fun ha => ?_, fun h => (by cases h)⟩
  obtain ⟨q, e, hq, hq2, hrow, _⟩ := h.own ha
  exact ⟨q, e, hq, Nat.lt_of_lt_of_le hq2 hg.size, fun _ => (hrow rfl).of_block (hg.block q hq2 (by simp; omega)), fun h => (by cases h)⟩
theorem SG.put (hI : ∀ c w w', Below w0.heap.size w w' → w0.heap.size ≤ w.heap.size → I c w → I c w') (h : SG I X w0 c al st v w) (hc : c = true) (ha : al = true) (hst : st = false) :
    ∃ q, v = .pointer (some ⟨q, 0, none⟩) ∧ w.there q 0 X.cells.length ∧ SG I X w0 c al true v (w.setCells q 0 X.cells) := by
  obtain ⟨q, e, hq, hq2, hrow, _⟩ := h.own ha
  have ht : w.there q 0 X.cells.length := rowIs.there (hrow hst) (by simp [Stp.cells])
  have tt := touch_setCells q X.cells 0 w
  have hs := h.siz
  exact ⟨q, e, ht, hI _ _ _ ⟨tt.os, tt.tape, tt.output, tt.size, fun k hk => tt.block k (by omega) (by omega)⟩ h.siz h.inv, Nat.le_trans h.siz tt.size, fun _ => ⟨q, e, hq, Nat.lt_of_lt_of_le hq2 tt.size, fun h => (by cases h), fun _ => World.rangeAt_setCells_same w q 0 X.cells ht⟩, fun _ => ⟨hc, ha⟩⟩
theorem SG.skip {L : Nat → Bool} {i kc ia is : Nat} (h1 : kc ≠ i) (h2 : ia ≠ i) (h3 : is ≠ i) (h : SG I X w0 (L kc) (L ia) (L is) v w) : SG I X w0 (upd L i true kc) (upd L i true ia) (upd L i true is) v w := by
  rwa [upd_other _ _ h1, upd_other _ _ h2, upd_other _ _ h3]
theorem SG.calls {fd : FuncId} {args : Array Value} {g kc ia is : Nat} (hc : ∀ w, I false w → Calls Try.prog fd args w fun e w' => e = .returned X.val ∧ I true w' ∧ w.grownBy w' (some g)) (hg0 : g < w0.heap.size) (n1 : ia ≠ kc) (n2 : is ≠ kc) :
    ∀ (L : Nat → Bool) v w, SG I X w0 (L kc) (L ia) (L is) v w → L kc = false → Calls Try.prog fd args w fun e w' => e = .returned X.val ∧ SG I X w0 (upd L kc true kc) (upd L kc true ia) (upd L kc true is) v w' := by
  intro L v w h hL
  have hi := h.inv
  rw [hL] at hi
  refine (hc w hi).mono ?_
  rintro e w' ⟨rfl, hi', hg⟩
  rw [upd_same, upd_other _ _ n1, upd_other _ _ n2]
  exact ⟨rfl, h.act hL hg0 hi' hg⟩
end

/-- c: the call is done; sc, se: the two variables are written. -/
structure SM (I : Bool → World → Prop) (C E : Nat) (lt : List Value) (X : Stp) (c sc se : Bool) (w : World) : Prop where
  inv : I c w
  tC : w.there C 0 lt.length
  tE : w.there E 0 X.cells.length
  stoC : sc = true → w.rangeAt C 0 lt
  stoE : se = true → w.rangeAt E 0 X.cells
  dep : se = true → c = true
section
variable {I : Bool → World → Prop} {C E : Nat} {lt : List Value} {X : Stp} {w0 w w' : World} {c sc se : Bool}
theorem SM.start (h : I false w) (hC : w.there C 0 lt.length) (hE : w.there E 0 X.cells.length) : SM I C E lt X false false false w :=
  ⟨h, hC, hE, fun h => (by cases h), fun h => (by cases h), fun h => (by cases h)⟩
theorem SM.skip {L : Nat → Bool} {i kc iC iE : Nat} (h1 : kc ≠ i) (h2 : iC ≠ i) (h3 : iE ≠ i) (h : SM I C E lt X (L kc) (L iC) (L iE) w) : SM I C E lt X (upd L i true kc) (upd L i true iC) (upd L i true iE) w := by
  rwa [upd_other _ _ h1, upd_other _ _ h2, upd_other _ _ h3]
theorem SM.calls {fd : FuncId} {args : Array Value} {kc iC iE : Nat} (hc : ∀ w, I false w → Calls Try.prog fd args w fun e w' => e = .returned X.val ∧ I true w' ∧ w'.heap[C]? = w.heap[C]? ∧ w'.heap[E]? = w.heap[E]?) (n1 : iC ≠ kc) (n2 : iE ≠ kc) :
    ∀ (L : Nat → Bool) (v : Value) w, SM I C E lt X (L kc) (L iC) (L iE) w → L kc = false → Calls Try.prog fd args w fun e w' => e = .returned X.val ∧ SM I C E lt X (upd L kc true kc) (upd L kc true iC) (upd L kc true iE) w' := by
  intro L v w h hL
  have hi := h.inv
  rw [hL] at hi
  refine (hc w hi).mono ?_
  rintro e w' ⟨rfl, hi', hC, hE⟩
  rw [upd_same, upd_other _ _ n1, upd_other _ _ n2]
  exact ⟨rfl, hi', there_block h.tC hC, there_block h.tE hE, fun h1 => rangeAt_block (h.stoC h1) hC, fun h1 => rangeAt_block (h.stoE h1) hE, fun _ => rfl⟩
theorem SM.putC (hI : ∀ c w w', Touch w w' (fun k => k = C ∨ k = E) → I c w → I c w') (hne : C ≠ E) (h : SM I C E lt X c sc se w) : w.there C 0 lt.length ∧ SM I C E lt X c true se (w.setCells C 0 lt) := by
  have tt := touch_setCells C lt 0 w
  exact ⟨h.tC, hI _ _ _ (tt.mono (fun k _ h => .inl h)) h.inv, World.there_setCells h.tC _ _ _, World.there_setCells h.tE _ _ _, fun _ => World.rangeAt_setCells_same w C 0 lt h.tC, fun h1 => World.rangeAt_setCells_apart (h.stoE h1) _ _ _ (.inl (Ne.symm hne)), h.dep⟩
theorem SM.putE (hI : ∀ c w w', Touch w w' (fun k => k = C ∨ k = E) → I c w → I c w') (hne : C ≠ E) (h : SM I C E lt X c sc se w) (hc : c = true) : w.there E 0 X.cells.length ∧ SM I C E lt X c sc true (w.setCells E 0 X.cells) := by
  have tt := touch_setCells E X.cells 0 w
  exact ⟨h.tE, hI _ _ _ (tt.mono (fun k _ h => .inr h)) h.inv, World.there_setCells h.tC _ _ _, World.there_setCells h.tE _ _ _, fun h1 => World.rangeAt_setCells_apart (h.stoC h1) _ _ _ (.inl hne), fun _ => World.rangeAt_setCells_same w E 0 X.cells h.tE, fun _ => hc⟩
end
end RG

section
variable {ev : Operand → Value} {o : Oper} {w : World}
theorem ex_fieldo {x : Operand} {b k q q' : Nat} {ty : TypeId} (ho : o.op = .fieldAddr ty x k) (hx : ev x = .pointer (some ⟨b, q', none⟩)) (hf : (Instr.fieldAt ty (.pointer (some ⟨b, q', none⟩)) k).run Try.prog w = .ok (.pointer (some ⟨b, q, none⟩)) w) : (execOp ev o).run Try.prog w = .ok (.value (.pointer (some ⟨b, q, none⟩))) w := by
  simp [execOp, ho, hx, hf]
theorem ex_r0 {x y : Operand} {b : Nat} (ho : o.op = .indexAddr 47 x y) (hx : ev x = .pointer (some ⟨b, 13, none⟩)) (hy : ev y = .int .i64 0) : (execOp ev o).run Try.prog w = .ok (.value (.pointer (some ⟨b, 13, none⟩))) w := by
  simp [execOp, ho, hx, hy, go_sem]
theorem ex_r1 {x y : Operand} {b : Nat} (ho : o.op = .indexAddr 47 x y) (hx : ev x = .pointer (some ⟨b, 13, none⟩)) (hy : ev y = .int .i64 1) : (execOp ev o).run Try.prog w = .ok (.value (.pointer (some ⟨b, 14, none⟩))) w := by
  simp [execOp, ho, hx, hy, go_sem]
theorem ex_r2 {x y : Operand} {b : Nat} (ho : o.op = .indexAddr 47 x y) (hx : ev x = .pointer (some ⟨b, 13, none⟩)) (hy : ev y = .int .i64 2) : (execOp ev o).run Try.prog w = .ok (.value (.pointer (some ⟨b, 15, none⟩))) w := by
  simp [execOp, ho, hx, hy, go_sem]
theorem ex_r3 {x y : Operand} {b : Nat} (ho : o.op = .indexAddr 47 x y) (hx : ev x = .pointer (some ⟨b, 13, none⟩)) (hy : ev y = .int .i64 3) : (execOp ev o).run Try.prog w = .ok (.value (.pointer (some ⟨b, 16, none⟩))) w := by
  simp [execOp, ho, hx, hy, go_sem]
theorem fieldK1 (w : World) (b : Nat) : (Instr.fieldAt 53 (.pointer (some ⟨b, 0, none⟩)) 1).run Try.prog w = .ok (.pointer (some ⟨b, 6, none⟩)) w := by simp [go_sem]
theorem fieldK2 (w : World) (b : Nat) : (Instr.fieldAt 53 (.pointer (some ⟨b, 0, none⟩)) 2).run Try.prog w = .ok (.pointer (some ⟨b, 7, none⟩)) w := by simp [go_sem]
theorem fieldK3 (w : World) (b : Nat) : (Instr.fieldAt 53 (.pointer (some ⟨b, 0, none⟩)) 3).run Try.prog w = .ok (.pointer (some ⟨b, 12, none⟩)) w := by simp [go_sem]
theorem fieldK4 (w : World) (b : Nat) : (Instr.fieldAt 53 (.pointer (some ⟨b, 0, none⟩)) 4).run Try.prog w = .ok (.pointer (some ⟨b, 13, none⟩)) w := by simp [go_sem]
theorem fieldJ4 (w : World) (b : Nat) : (Instr.fieldAt 42 (.pointer (some ⟨b, 7, none⟩)) 4).run Try.prog w = .ok (.pointer (some ⟨b, 11, none⟩)) w := by simp [go_sem]
theorem fieldS5 (w : World) (b : Nat) : (Instr.fieldAt 71 (.pointer (some ⟨b, 0, none⟩)) 5).run Try.prog w = .ok (.pointer (some ⟨b, 5, none⟩)) w := by simp [go_sem]
theorem agg_i (w : World) : (isAgg 3).run Try.prog w = .ok false w := by simp [go_sem]
theorem agg_u64 (w : World) : (isAgg 40).run Try.prog w = .ok false w := by simp [go_sem]
theorem agg_b (w : World) : (isAgg 4).run Try.prog w = .ok false w := by simp [go_sem]
theorem callRDo' (args : Array Value) (w : World) : (callFunc 68 args).run Try.prog w = .ok (.enter 68 args) w := by simp [go_sem]
theorem ex_equ {x y : Operand} {a b : Int} (ho : o.op = .binOp .eql 40 x y 40) (hx : ev x = .int .u64 a) (hy : ev y = .int .u64 b) : (execOp ev o).run Try.prog w = .ok (.value (.bool (a == b))) w := by
  simp [execOp, ho, hx, hy, go_sem]
end
end Go.Proofs.Ytgfbohmehhhbeaa

/-
  A region in its order, by a table of what each operation tells; guarded operations among them.
-/
namespace Go.Proofs.Ytgfbohmehhhbeaa
open Go.RowKit
set_option linter.unusedVariables false
set_option linter.unusedSimpArgs false

namespace RSq
open RetN (pv D)

structure In (ks : List (Nat × Nat)) (vals : Nat → Value) (WI : World → Prop) (a0 : Act) (n : Nat) (a : Act) (w : World) : Prop where
  sz : a.tmps.size = a0.tmps.size
  df : a.defers = a0.defers
  fix : ∀ k, ¬ D ks k → a.eval (.tmp k) = a0.eval (.tmp k)
  pure : ∀ i d v, pv ks vals i = some (d, v) → i < n → a.eval (.tmp d) = v
  world : WI w

structure Does (P : Program) (Q : Exit → Act → World → Prop) (ops : Array Oper) (ks : List (Nat × Nat)) (vals : Nat → Value) (WI : World → Prop) (a0 : Act) (i : Nat) (o : Oper) : Prop where
  dst : o.dst = Reg.look ks i
  want : ∀ a w, In ks vals WI a0 i a w → Region.wanted o (yielded ops a.tmps) = true
  wp : ∀ a w (K : Act → World → Prop), In ks vals WI a0 i a w → (∀ w' v, (∀ d, o.dst = some d → v = vals i) → WI w' → K (a.put o.dst v) w') → o.wp P a w K Q

theorem region {P : Program} {id : Nat} {ops : Array Oper} {Q : Exit → Act → World → Prop} {ks : List (Nat × Nat)} {vals : Nat → Value} {WI : World → Prop} {w0 : World} {a0 : Act}
    (hgood : (ks.all fun p => (ks.all fun q => p.1 == q.1 || p.2 != q.2)) = true) (hD : ∀ k, D ks k → k < a0.tmps.size) (hW0 : WI w0)
    (does : ∀ (i : Nat) (o : Oper), ops[i]? = some o → Does P Q ops ks vals WI a0 i o)
    (fin : ∀ a w, In ks vals WI a0 ops.size a w → Q .normal a w) :
    (Code.region id ops false).wp P Q a0 w0 := by
  simp only [List.all_eq_true, bne_iff_ne, Bool.or_eq_true, beq_iff_eq] at hgood
  have pvm : ∀ {i d v}, pv ks vals i = some (d, v) → (i, d) ∈ ks := fun {i d v} h => by
    obtain ⟨d', h1, h2⟩ := Option.map_eq_some_iff.1 h
    cases h2; exact Reg.look_mem h1
  have go : ∀ (rest : List Oper) (i : Nat) (a : Act) (w : World), rest = ops.toList.drop i → In ks vals WI a0 i a w → wpList P ops Q rest a w := by
    intro rest
    induction rest with
    | nil =>
      intro i a w hr h
      have hi : ops.size ≤ i := by
        have := congrArg List.length hr
        simp at this
        omega
      exact fin a w ⟨h.sz, h.df, h.fix, fun j d v hj hlt => h.pure j d v hj (by omega), h.world⟩
    | cons o rest ih =>
      intro i a w hr h
      have hi : i < ops.size := by
        have := congrArg List.length hr
        simp at this
        omega
      have ho : ops[i]? = some o := by
        have := congrArg (fun l => l[0]?) hr
        simp at this
        exact this.symm
      have hrest : rest = ops.toList.drop (i + 1) := by
        have := congrArg List.tail hr
        simpa [List.tail_drop] using this
      obtain ⟨hdst, hwant, hwp⟩ := does i o ho
      refine wpList_step (fun K hK => ?_)
      rw [if_pos (hwant a w h)]
      refine hwp a w K h (fun w' v hv hW => hK _ _ (ih (i + 1) _ _ hrest ?_))
      cases hlk : Reg.look ks i with
      | none =>
        rw [hdst, hlk]
        exact ⟨h.sz, h.df, h.fix, fun j d' v' hj hLj => h.pure j d' v' hj (by
          have hji : j ≠ i := fun e => by
            subst e
            obtain ⟨d'', h1, _⟩ := Option.map_eq_some_iff.1 hj
            rw [hlk] at h1; cases h1
          omega), hW⟩
      | some d =>
        have hv' := hv d (hdst.trans hlk)
        subst hv'
        rw [hdst, hlk]
        have hm' : (i, d) ∈ ks := Reg.look_mem hlk
        have hDd : D ks d := by simp only [D, List.any_eq_true, beq_iff_eq]; exact ⟨_, hm', rfl⟩
        have e : ∀ k : Nat, k ≠ d → (a.put (some d) (vals i)).eval (.tmp k) = a.eval (.tmp k) := fun k hk => put_other hk
        refine ⟨by rw [put_size]; exact h.sz, by rw [put_defs]; exact h.df, fun k hk => ?_, fun j d' v' hj hLj => ?_, hW⟩
        · rw [e k (fun he => hk (he ▸ hDd))]; exact h.fix k hk
        · by_cases hij : j = i
          · subst hij
            rw [pv, hlk] at hj
            cases hj
            exact put_eval (by rw [h.sz]; exact hD _ hDd)
          · have : d' ≠ d := by
              rcases hgood _ hm' _ (pvm hj) with e1 | e1
              · exact absurd e1.symm hij
              · exact Ne.symm e1
            rw [e d' this]
            exact h.pure j d' v' hj (by omega)
  exact wp_region_list (go _ 0 a0 w0 (by simp) ⟨rfl, rfl, fun _ _ => rfl, fun _ _ _ _ h => absurd h (Nat.not_lt_zero _), hW0⟩)

section
variable {P : Program} {Q : Exit → Act → World → Prop} {ops : Array Oper} {ks : List (Nat × Nat)} {vals : Nat → Value} {WI : World → Prop} {a0 : Act} {i : Nat} {o : Oper}
theorem free (h : o.guard = none) : ∀ a w, In ks vals WI a0 i a w → Region.wanted o (yielded ops a.tmps) = true := fun a w _ => by simp [Region.wanted, h]
theorem held {j d : Nat} {b : Bool} (h : o.guard = some (j, b)) (hd : (ops[j]?).bind (·.dst) = some d) (hj : j < i) (hp : pv ks vals j = some (d, .bool b)) (hds : d < a0.tmps.size) : ∀ a w, In ks vals WI a0 i a w → Region.wanted o (yielded ops a.tmps) = true := fun a w hI => by
  have e := hI.pure j d _ hp hj
  have hs : d < a.tmps.size := by rw [hI.sz]; exact hds
  have e2 : a.tmps[d]? = some (.bool b) := by
    have : a.tmps.getD d undef = .bool b := e
    simpa [Array.getD, hs] using this
  simp [Region.wanted, h, yielded, hd, e2]
theorem Does.read (hd : o.dst = Reg.look ks i) (hw : ∀ a w, In ks vals WI a0 i a w → Region.wanted o (yielded ops a.tmps) = true) (h : ∀ a w, In ks vals WI a0 i a w → (execOp a.eval o).run P w = .ok (.value (vals i)) w) : Does P Q ops ks vals WI a0 i o :=
  ⟨hd, hw, fun a w K hI hk => wp_value (h a w hI) (hk w _ (fun _ _ => rfl) hI.world)⟩
theorem Does.call {f : FuncId} {args : Array Value} (hd : o.dst = Reg.look ks i) (hw : ∀ a w, In ks vals WI a0 i a w → Region.wanted o (yielded ops a.tmps) = true) (h : ∀ a w, In ks vals WI a0 i a w → (execOp a.eval o).run P w = .ok (.enter f args) w)
    (hc : ∀ w, WI w → Calls P f args w fun e w' => e = .returned (vals i) ∧ WI w') : Does P Q ops ks vals WI a0 i o :=
  ⟨hd, hw, fun a w K hI hk => wp_call (h a w hI) ((hc w hI.world).mono (by rintro e w' ⟨rfl, h2⟩; exact ⟨_, rfl, hk _ _ (fun _ _ => rfl) h2⟩))⟩
end
end RSq

section
variable {ev : Operand → Value} {o : Oper} {w : World}
theorem exq_lenW {x : Operand} {ao : Option Addr} {n cap : Nat} (ho : o.op = .call { callee := .builtin .len, args := #[x], argTypes := #[24] }) (hx : ev x = .slice ao n cap) : (execOp ev o).run Try.prog w = .ok (.value (.int .i64 n)) w := by
  simp [execOp, ho, hx, go_sem]
theorem exq_lenH {x : Operand} {ao : Option Addr} {n cap : Nat} (ho : o.op = .call { callee := .builtin .len, args := #[x], argTypes := #[25] }) (hx : ev x = .slice ao n cap) : (execOp ev o).run Try.prog w = .ok (.value (.int .i64 n)) w := by
  simp [execOp, ho, hx, go_sem]
theorem exq_lenI {x : Operand} {ao : Option Addr} {n cap : Nat} (ho : o.op = .call { callee := .builtin .len, args := #[x], argTypes := #[26] }) (hx : ev x = .slice ao n cap) : (execOp ev o).run Try.prog w = .ok (.value (.int .i64 n)) w := by
  simp [execOp, ho, hx, go_sem]
theorem exq_lenJ {x : Operand} {ao : Option Addr} {n cap : Nat} (ho : o.op = .call { callee := .builtin .len, args := #[x], argTypes := #[65] }) (hx : ev x = .slice ao n cap) : (execOp ev o).run Try.prog w = .ok (.value (.int .i64 n)) w := by
  simp [execOp, ho, hx, go_sem]
theorem exq_add1 {x y : Operand} {a b c : Int} (ho : o.op = .binOp .add 3 x y 3) (hx : ev x = .int .i64 a) (hy : ev y = .int .i64 b) (hc : wrap64 (a + b) = c) : (execOp ev o).run Try.prog w = .ok (.value (.int .i64 c)) w := by
  have : IntKind.i64.wrap (a + b) = c := by rw [IntKind.wrap_i64, ← hc]; unfold wrap64; omega
  simp [execOp, ho, hx, hy, go_sem, this]
theorem exq_cutW {x y : Operand} {b off n cap m : Nat} (ho : o.op = .slice 24 x none (some y) none) (hx : ev x = .slice (some ⟨b, off, none⟩) n cap) (hy : ev y = .int .i64 (m : Int)) (hm : m ≤ cap) : (execOp ev o).run Try.prog w = .ok (.value (.slice (some ⟨b, off, none⟩) m cap)) w := by
  have h1 : (0 : Int) ≤ m := by omega
  have h2 : (m : Int) ≤ cap := by omega
  simp [execOp, ho, hx, hy, go_sem, hm, h1, h2]
theorem exq_cutH {x y : Operand} {b off n cap m : Nat} (ho : o.op = .slice 25 x none (some y) none) (hx : ev x = .slice (some ⟨b, off, none⟩) n cap) (hy : ev y = .int .i64 (m : Int)) (hm : m ≤ cap) : (execOp ev o).run Try.prog w = .ok (.value (.slice (some ⟨b, off, none⟩) m cap)) w := by
  have h1 : (0 : Int) ≤ m := by omega
  have h2 : (m : Int) ≤ cap := by omega
  simp [execOp, ho, hx, hy, go_sem, hm, h1, h2]
theorem exq_cutI {x y : Operand} {b off n cap m : Nat} (ho : o.op = .slice 26 x none (some y) none) (hx : ev x = .slice (some ⟨b, off, none⟩) n cap) (hy : ev y = .int .i64 (m : Int)) (hm : m ≤ cap) : (execOp ev o).run Try.prog w = .ok (.value (.slice (some ⟨b, off, none⟩) m cap)) w := by
  have h1 : (0 : Int) ≤ m := by omega
  have h2 : (m : Int) ≤ cap := by omega
  simp [execOp, ho, hx, hy, go_sem, hm, h1, h2]
theorem exq_cutJ {x y : Operand} {b off n cap m : Nat} (ho : o.op = .slice 65 x none (some y) none) (hx : ev x = .slice (some ⟨b, off, none⟩) n cap) (hy : ev y = .int .i64 (m : Int)) (hm : m ≤ cap) : (execOp ev o).run Try.prog w = .ok (.value (.slice (some ⟨b, off, none⟩) m cap)) w := by
  have h1 : (0 : Int) ≤ m := by omega
  have h2 : (m : Int) ≤ cap := by omega
  simp [execOp, ho, hx, hy, go_sem, hm, h1, h2]
theorem exq_neu {x y : Operand} {a b : Int} (ho : o.op = .binOp .neq 40 x y 40) (hx : ev x = .int .u64 a) (hy : ev y = .int .u64 b) (h : a = b) : (execOp ev o).run Try.prog w = .ok (.value (.bool false)) w := by
  subst h
  simp [execOp, ho, hx, hy, go_sem]
theorem exq_nei {x y : Operand} {a b : Int} (ho : o.op = .binOp .neq 3 x y 3) (hx : ev x = .int .i64 a) (hy : ev y = .int .i64 b) (h : a = b) : (execOp ev o).run Try.prog w = .ok (.value (.bool false)) w := by
  subst h
  simp [execOp, ho, hx, hy, go_sem]
theorem exq_not {x : Operand} {b : Bool} (ho : o.op = .unOp .not 4 x) (hx : ev x = .bool b) : (execOp ev o).run Try.prog w = .ok (.value (.bool (!b))) w := by
  simp [execOp, ho, hx, go_sem]
theorem exq_pick {c x y : Operand} {v : Value} (ho : o.op = .pick c x y) (hc : ev c = .bool false) (hy : ev y = v) : (execOp ev o).run Try.prog w = .ok (.value v) w := by
  simp [execOp, ho, hc, hy, go_sem]
end
end Go.Proofs.Ytgfbohmehhhbeaa
