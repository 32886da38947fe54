/-
  Lemmas: Kd, Spec, RInv, Picks, Runs, CopyW.
-/
import Derived.Test.YtppgbndoijppnaaGreatTp03
import Derived.Test.YtppgbndoijppnaaGreatTp04
import Derived.Test.YtppgbndoijppnaaGreatTp02
import Derived.Deep.RegionHeld
import Derived.Test.YtppgbndoijppnaaGreatTp01
import Derived.Orders
import Derived.Laws.AppendOwnNone
namespace Go.Proofs.YtppgbndoijppnaaGreat
set_option maxHeartbeats 8000000
open Go.RowKit
set_option linter.unusedVariables false
set_option linter.unusedSimpArgs false
set_option maxRecDepth 20000
section
structure Jb where
 kind : Int
 a : Int
 b : Int
 c : Int
 h : Int
def Jb.val (j : Jb) : Value := .agg #[.int .i64 j.kind, .int .i64 j.a, .int .i64 j.b, .int .i64 j.c, .int .u64 j.h]
def Jb.cell (j : Jb) (i : Nat) : Value := match i with | 0 => .int .i64 j.kind | 1 => .int .i64 j.a | 2 => .int .i64 j.b | 3 => .int .i64 j.c | _ => .int .u64 j.h
def Jb.wf (j : Jb) : Prop := 0 ≤ j.h ∧ j.h ≤ 18446744073709551615
structure Ans where
 ok : Bool
 val : Int
def Ans.value (x : Ans) : Value := .agg #[.bool x.ok, .int .u64 x.val]
def Ans.cells (x : Ans) : List Value := [.bool x.ok, .int .u64 x.val]
structure Kd where
 σ : Type
 err : Int → Jb → Int
 init : Int → Jb → σ
 req : σ → Stp
 next : σ → Stp → σ
 ends : σ → Stp → Bool
 tell : σ → Ans
 tid : Jb → TypeId
 fs : Jb → FuncId
 fa : Jb → FuncId
 lies : Jb → (Nat → Nat) → σ → (Nat → Option Row) → Prop
 wf : Jb → σ → Prop
structure Kd.Lies (K : Kd) (w : World) (j : Jb) (B : Nat → Nat) (R : Nat → Option Row) (s : K.σ) : Prop where
 lies : K.lies j B s R
 row : ∀ i x, R i = some x → w.rowIs (B i) x.t x.n x.f
 inj : ∀ i i' x x', R i = some x → R i' = some x' → B i = B i' → i = i'
theorem Kd.Lies.lt {K : Kd} {w : World} {j : Jb} {B : Nat → Nat} {R : Nat → Option Row} {s : K.σ} (h : K.Lies w j B R s) {i : Nat} {x : Row} (e : R i = some x) : B i < w.heap.size := (h.row i x e).lt
theorem Kd.Lies.touch {K : Kd} {w w' : World} {j : Jb} {B : Nat → Nat} {R : Nat → Option Row} {s : K.σ} {S : Nat → Prop} (h : K.Lies w j B R s) (ht : Touch w w' S) (hs : ∀ i x, R i = some x → ¬ S (B i)) : K.Lies w' j B R s :=
 ⟨h.lies, fun i x e => (h.row i x e).of_block (ht.block _ (h.lt e) (hs i x e)), h.inj⟩
theorem Kd.Lies.drew {K : Kd} {w : World} {j : Jb} {B : Nat → Nat} {R : Nat → Option Row} {s : K.σ} (h : K.Lies w j B R s) : K.Lies w.drew j B R s := ⟨h.lies, fun i x e => (h.row i x e).drew, h.inj⟩
def Kd.fine (K : Kd) (j : Jb) : Prop := j.wf ∧ ∃ h, K.err h j = 0
structure Kd.Ok (K : Kd) : Prop where
 init : ∀ h j, K.fine j → K.wf j (K.init h j)
 next : ∀ j s n f, (∀ i, i < n → 0 ≤ f i ∧ f i ≤ 18446744073709551615) → K.wf j s → ¬ K.ends s (stepOf n f (K.req s)) = true → K.wf j (K.next s (stepOf n f (K.req s)))
def Kd.wfE (K : Kd) (j : Jb) (s : K.σ) : Prop := ∃ s0 n f, (∀ i, i < n → 0 ≤ f i ∧ f i ≤ 18446744073709551615) ∧ K.wf j s0 ∧ s = K.next s0 (stepOf n f (K.req s0))
theorem rowIs_cells {w : World} (vs : Array Value) (t : TypeId) (f : Nat → Value) (n : Nat) (hn : vs.size = n) (hc : ∀ i, i < n → vs[i]? = some (f i)) : (w.alloc (.cells vs t)).rowIs w.heap.size t n f := by
 subst hn
 exact World.rowIs_alloc w vs t f hc
theorem iface_nil (t : TypeId) (v : Value) (w : World) : (binOp .eql 48 (.iface t v) .nilIface).run Tryz.prog w = .ok (.bool false) w := by kernel_rfl
def zcell : Nat → Value := fun i => match i with | 0 => .int .i64 0 | 1 => .int .i64 0 | 2 => .int .i64 0 | 3 => .int .u64 0 | 4 => .int .u64 0 | _ => .bool false
theorem row0 (w : World) : (w.alloc (.cells #[.int .i64 0, .int .i64 0, .int .i64 0, .int .u64 0, .int .u64 0, .bool false] 69)).rowIs w.heap.size 69 6 zcell :=
 rowIs_cells _ 69 zcell 6 rfl (fun i hi => by
  match i, hi with
  | 0, _ | 1, _ | 2, _ | 3, _ | 4, _ | 5, _ => rfl)
def MakesAt (K : Kd) (mk : Value) (w : World) : Prop :=
 ∀ (hand : Int) (j : Jb), 0 ≤ hand → hand < 8 → j.wf →
  (K.err hand j = 0 → Calls Tryz.prog 108 #[mk, .int .i64 hand, j.val] w fun e w' => ∃ B R, e = .returned (.tuple #[.iface (K.tid j) (.pointer (some ⟨B 0, 0, none⟩)), .int .i64 0]) ∧
   K.Lies w' j B R (K.init hand j) ∧ (∀ i x, R i = some x → w.heap.size ≤ B i) ∧ w.grownBy w' none) ∧
  (¬ K.err hand j = 0 → Calls Tryz.prog 108 #[mk, .int .i64 hand, j.val] w fun e w' => e = .returned (.tuple #[.nilIface, .int .i64 (K.err hand j)]) ∧ w.grownBy w' none)
structure IsKind (K : Kd) : Prop where
 ok : K.Ok
 step : ∀ {w : World} {bm bw n : Nat} {f : Nat → Int} {B : Nat → Nat} {R : Nat → Option Row} {s : K.σ} {j : Jb}, K.fine j → K.wf j s → K.Lies w j B R s → IsMem w bm bw n f → (∀ i x, R i = some x → B i ≠ bm ∧ B i ≠ bw) →
  Calls Tryz.prog (K.fs j) #[.pointer (some ⟨B 0, 0, none⟩), .pointer (some ⟨bm, 0, none⟩)] w fun e w' => e = .returned (.tuple #[(stepOf n f (K.req s)).val, .int .i64 (if K.ends s (stepOf n f (K.req s)) = true then 1 else 0)]) ∧
   ∃ B' R', B' 0 = B 0 ∧ K.Lies w' j B' R' (K.next s (stepOf n f (K.req s))) ∧ (∀ i x, R' i = some x → (∃ i0 x0, R i0 = some x0 ∧ B' i = B i0) ∨ w.heap.size ≤ B' i) ∧
    IsMem w' bm bw n (wordsOf n f (K.req s)) ∧ Touch w w' (fun k => k = bw ∨ ∃ i x, R i = some x ∧ k = B i)
 ans : ∀ {w : World} {B : Nat → Nat} {R : Nat → Option Row} {s : K.σ} {j : Jb}, K.fine j → K.wfE j s → K.Lies w j B R s →
  Calls Tryz.prog (K.fa j) #[.pointer (some ⟨B 0, 0, none⟩)] w fun e w' => e = .returned (K.tell s).value ∧ w.grownBy w' none
 mstep : ∀ j, K.fine j → ∀ (b : Nat) (w : World), (method 321 (K.tid j) (.pointer (some ⟨b, 0, none⟩)) "Step").run Tryz.prog w = .ok (K.fs j, .pointer (some ⟨b, 0, none⟩)) w
 mans : ∀ j, K.fine j → ∀ (b : Nat) (w : World), (method 321 (K.tid j) (.pointer (some ⟨b, 0, none⟩)) "Answer").run Tryz.prog w = .ok (K.fa j, .pointer (some ⟨b, 0, none⟩)) w
 cstep : ∀ j, K.fine j → ∀ (args : Array Value) (w : World), (callFunc (K.fs j) args).run Tryz.prog w = .ok (.enter (K.fs j) args) w
 cans : ∀ j, K.fine j → ∀ (args : Array Value) (w : World), (callFunc (K.fa j) args).run Tryz.prog w = .ok (.enter (K.fa j) args) w
end
section
def cnt (g : Nat → Bool) : Nat → Nat
 | 0 => 0
 | i + 1 => cnt g i + (if g i then 1 else 0)
theorem cnt_le (g : Nat → Bool) : ∀ i, cnt g i ≤ i
 | 0 => Nat.le_refl _
 | i + 1 => by have := cnt_le g i; simp only [cnt]; split <;> omega
theorem cnt_mono (g : Nat → Bool) {i j : Nat} (h : i ≤ j) : cnt g i ≤ cnt g j := by
 induction h with
 | refl => exact Nat.le_refl _
 | step _ ih => simp only [cnt]; omega
theorem cnt_true {g : Nat → Bool} {i : Nat} (h : g i = true) : cnt g (i + 1) = cnt g i + 1 := by simp [cnt, h]
theorem cnt_false {g : Nat → Bool} {i : Nat} (h : g i = false) : cnt g (i + 1) = cnt g i := by simp [cnt, h]
theorem cnt_congr {g g' : Nat → Bool} {n : Nat} (h : ∀ i, i < n → g i = g' i) : cnt g n = cnt g' n := by
 induction n with
 | zero => rfl
 | succ n ih => simp only [cnt, ih (fun i hi => h i (by omega)), h n (by omega)]
structure IsPick (n : Nat) (g : Nat → Bool) (k i : Nat) : Prop where
 lt : i < n
 on : g i = true
 rank : cnt g i = k
theorem IsPick.one {n : Nat} {g : Nat → Bool} {k i j : Nat} (h : IsPick n g k i) (h' : IsPick n g k j) : i = j := by
 rcases Nat.lt_trichotomy i j with l | e | l
 ·have := cnt_mono g (show i + 1 ≤ j by omega); rw [cnt_true h.on, h.rank, h'.rank] at this; omega
 ·exact e
 ·have := cnt_mono g (show j + 1 ≤ i by omega); rw [cnt_true h'.on, h.rank, h'.rank] at this; omega
theorem exists_pick (g : Nat → Bool) (k : Nat) : ∀ n, k < cnt g n → ∃ i, IsPick n g k i
 | 0, h => by simp [cnt] at h
 | n + 1, h => by
  by_cases h1 : k < cnt g n
  ·obtain ⟨i, hi⟩ := exists_pick g k n h1
   exact ⟨i, by have := hi.lt; omega, hi.on, hi.rank⟩
  ·cases hg : g n with
   | false => rw [cnt_false hg] at h; omega
   | true => rw [cnt_true hg] at h; exact ⟨n, by omega, hg, by omega⟩
def pickOf (n : Nat) (g : Nat → Bool) (place : Int) : Int :=
 if cnt g n = 0 then -1 else
 match (List.range n).find? (fun i => g i && cnt g i == (place % (cnt g n : Int)).toNat) with
 | some i => i
 | none => -1
theorem find_range {p : Nat → Bool} {n i : Nat} (hi : i < n) (hp : p i = true) (h : ∀ j, j < i → p j = false) : (List.range n).find? p = some i := by
 rw [List.find?_range_eq_some]
 exact ⟨hp, by simpa using hi, fun j hj => by simp [h j hj]⟩
theorem find_range_none {p : Nat → Bool} {n : Nat} (h : ∀ j, j < n → p j = false) : (List.range n).find? p = none := by
 rw [List.find?_eq_none]
 intro x hx
 simp [h x (by simpa using hx)]
theorem pickOf_none {n : Nat} {g : Nat → Bool} {place : Int} (h : cnt g n = 0) : pickOf n g place = -1 := by simp [pickOf, h]
theorem pickOf_some {n : Nat} {g : Nat → Bool} {place : Int} {k i : Nat} (h0 : cnt g n ≠ 0) (hk : place % (cnt g n : Int) = k) (h : IsPick n g k i) : pickOf n g place = i := by
 have hf := find_range (p := fun i => g i && cnt g i == (place % (cnt g n : Int)).toNat) h.lt (by simp [h.on, h.rank, hk]) (fun j hj => by
  cases hg : g j with
  | false => rfl
  | true =>
   have := cnt_mono g (show j + 1 ≤ i by omega)
   rw [cnt_true hg, h.rank] at this
   simp [hk]; omega)
 simp only [pickOf, h0, if_false, hf]
theorem emod_cnt {c : Nat} (place : Int) (h0 : c ≠ 0) : ∃ k : Nat, place % (c : Int) = k ∧ k < c := by
 have h1 := Int.emod_nonneg place (show (c : Int) ≠ 0 by omega)
 have h2 := Int.emod_lt_of_pos place (show 0 < (c : Int) by omega)
 exact ⟨(place % (c : Int)).toNat, by omega, by omega⟩
def behindOf (n : Nat) (g : Nat → Bool) (hand : Int) : Int :=
 match (List.range n).find? (fun i => g (((hand + 1).toNat + i) % n)) with
 | some i => (((hand + 1).toNat + i) % n : Nat)
 | none => -1
theorem behindOf_some {n : Nat} {g : Nat → Bool} {hand : Int} {i : Nat} (hi : i < n) (hg : g (((hand + 1).toNat + i) % n) = true) (h : ∀ j, j < i → g (((hand + 1).toNat + j) % n) = false) :
  behindOf n g hand = (((hand + 1).toNat + i) % n : Nat) := by
 simp only [behindOf, find_range (p := fun i => g (((hand + 1).toNat + i) % n)) hi hg h]
theorem behindOf_none {n : Nat} {g : Nat → Bool} {hand : Int} (h : ∀ j, j < n → g (((hand + 1).toNat + j) % n) = false) : behindOf n g hand = -1 := by
 simp only [behindOf, find_range_none (p := fun i => g (((hand + 1).toNat + i) % n)) h]
theorem behindOf_first {n : Nat} {g : Nat → Bool} {p : Nat} (h : IsPick n g 0 p) : behindOf n g (-1) = p := by
 have hp := h.lt
 have e : ∀ j, j < n → ((-1 + 1 : Int).toNat + j) % n = j := fun j hj => by simp [Nat.mod_eq_of_lt hj]
 rw [behindOf_some (i := p) hp (by rw [e p hp]; exact h.on) (fun j hj => by
  rw [e j (by omega)]
  cases hg : g j with
  | false => rfl
  | true => have := cnt_mono g (show j + 1 ≤ p by omega); rw [cnt_true hg, h.rank] at this; omega), e p hp]
theorem behindOf_next {n : Nat} {g : Nat → Bool} {j h p : Nat} (hh : IsPick n g j h) (hp : IsPick n g (j + 1) p) : behindOf n g h = p := by
 have l1 := hh.lt
 have l2 := hp.lt
 have lt : h < p := by
  rcases Nat.lt_or_ge h p with l | l
  ·exact l
  ·have := cnt_mono g l; rw [hh.rank, hp.rank] at this; omega
 have e : ∀ i, h + 1 + i < n → (((h : Int) + 1).toNat + i) % n = h + 1 + i := fun i hi => by
  rw [show ((h : Int) + 1).toNat = h + 1 by omega, Nat.mod_eq_of_lt hi]
 rw [behindOf_some (i := p - h - 1) (by omega) (by rw [e _ (by omega), show h + 1 + (p - h - 1) = p by omega]; exact hp.on) (fun i hi => by
  rw [e i (by omega)]
  cases hg : g (h + 1 + i) with
  | false => rfl
  | true =>
   have a := cnt_mono g (show h + 1 ≤ h + 1 + i by omega)
   have b := cnt_mono g (show h + 1 + i + 1 ≤ p by omega)
   rw [cnt_true hh.on, hh.rank] at a
   rw [cnt_true hg, hp.rank] at b
   omega), e _ (by omega), show h + 1 + (p - h - 1) = p by omega]
theorem pickOf_ok {n : Nat} {g : Nat → Bool} (place : Int) : pickOf n g place = -1 ∧ cnt g n = 0 ∨ ∃ i : Nat, pickOf n g place = i ∧ i < n ∧ g i = true := by
 by_cases h0 : cnt g n = 0
 ·exact .inl ⟨pickOf_none h0, h0⟩
 ·obtain ⟨k, hk, hl⟩ := emod_cnt place h0
  obtain ⟨i, hi⟩ := exists_pick g k n hl
  exact .inr ⟨i, pickOf_some h0 hk hi, hi.lt, hi.on⟩
theorem cnt_zero {g : Nat → Bool} {n : Nat} (h : cnt g n = 0) : ∀ i, i < n → g i = false := by
 intro i hi
 cases hg : g i with
 | false => rfl
 | true => have := cnt_mono g (show i + 1 ≤ n by omega); rw [cnt_true hg] at this; omega
theorem cnt_none {g : Nat → Bool} {n : Nat} (h : ∀ i, i < n → g i = false) : cnt g n = 0 := by
 induction n with
 | zero => rfl
 | succ n ih => rw [cnt_false (h n (by omega)), ih (fun i hi => h i (by omega))]
theorem behindOf_ok {n : Nat} {g : Nat → Bool} (hand : Int) : behindOf n g hand = -1 ∧ cnt g n = 0 ∨ ∃ i : Nat, behindOf n g hand = i ∧ i < n ∧ g i = true := by
 by_cases h : ∃ j, j < n ∧ g (((hand + 1).toNat + j) % n) = true
 ·right
  unfold behindOf
  cases hf : (List.range n).find? (fun i => g (((hand + 1).toNat + i) % n)) with
  | none =>
   obtain ⟨j, hj, hg⟩ := h
   rw [List.find?_eq_none] at hf
   exact absurd hg (by simpa using hf j (by simpa using hj))
  | some i =>
   have h1 := List.find?_some hf
   have h2 := List.mem_of_find?_eq_some hf
   have : 0 < n := by have := List.mem_range.1 h2; omega
   exact ⟨_, rfl, Nat.mod_lt _ this, h1⟩
 ·left
  have hn : ∀ j, j < n → g (((hand + 1).toNat + j) % n) = false := fun j hj => by
   cases hg : g (((hand + 1).toNat + j) % n) with
   | false => rfl
   | true => exact absurd ⟨j, hj, hg⟩ h
  refine ⟨behindOf_none hn, cnt_none fun i hi => ?_⟩
  -- i is met at j = (i + n - s % n) % n
  have hs : (hand + 1).toNat % n < n := Nat.mod_lt _ (by omega)
  have key : ∃ j, j < n ∧ ((hand + 1).toNat + j) % n = i := by
   generalize hsd : (hand + 1).toNat % n = s at hs
   by_cases hsi : s ≤ i
   ·refine ⟨i - s, by omega, ?_⟩
    rw [Nat.add_mod, hsd, Nat.mod_eq_of_lt (show i - s < n by omega), show s + (i - s) = i by omega, Nat.mod_eq_of_lt hi]
   ·refine ⟨i + n - s, by omega, ?_⟩
    rw [Nat.add_mod, hsd, Nat.mod_eq_of_lt (show i + n - s < n by omega), show s + (i + n - s) = i + n by omega, Nat.add_mod_right, Nat.mod_eq_of_lt hi]
  obtain ⟨j, hj, rfl⟩ := key
  exact hn j hj
end
section
theorem cnt_upd {L : Nat → Bool} {i : Nat} (hi : L i = false) : ∀ n, cnt (fun j => !(upd L i true) j) n + (if i < n then 1 else 0) = cnt (fun j => !L j) n
 | 0 => by simp [cnt]
 | n + 1 => by
  have ih := cnt_upd hi n
  simp only [cnt]
  by_cases h : n = i
  ·subst h
   simp only [upd_same, Nat.lt_irrefl, if_false, Nat.add_zero] at ih ⊢
   simp [hi, ih]
  ·have hu : upd L i true n = L n := upd_other _ _ h
   have : (i < n + 1) = (i < n) := by apply propext; omega
   simp only [this, hu]
   omega
def lis (listed : Array Bool) : Nat → Bool := fun i => listed.getD i false
theorem lis_set {listed : Array Bool} {i : Nat} (hi : i < listed.size) : lis (listed.setIfInBounds i true) = upd (lis listed) i true := by
 funext j
 by_cases h : j = i
 ·subst h; simp [lis, hi]
 ·rw [upd_other _ _ h]
  simp [lis, Array.getElem?_setIfInBounds_ne (Ne.symm h)]
section
variable {P : Program} {ops : Array Oper} {Q : Exit → Act → World → Prop} {md : Region.Mode}
theorem wpAny_inv (hg : ∀ (i : Nat) (o : Oper), ops[i]? = some o → o.guard = none) (hback : ∀ (i : Nat) (o : Oper), ops[i]? = some o → ∀ e ∈ o.after, Region.binds md e = true → e.on < i) (I : (Nat → Bool) → Act → World → Prop)
  (hstep : ∀ (L : Nat → Bool) (a : Act) (w : World) (i : Nat) (o : Oper), I L a w → ops[i]? = some o → L i = false → (∀ e ∈ o.after, Region.binds md e = true → L e.on = true) → o.wp P a w (fun a' w' => I (upd L i true) a' w') Q)
  (hend : ∀ (L : Nat → Bool) (a : Act) (w : World), I L a w → (∀ i, i < ops.size → L i = true) → Q .normal a w) :
  ∀ fuel listed a w, listed.size = ops.size → cnt (fun i => !(lis listed) i) ops.size ≤ fuel → I (lis listed) a w → wpAny P md ops Q fuel listed a w := by
 have none_ready : ∀ listed : Array Bool, listed.size = ops.size → Region.ready md ops listed = [] → ∀ i, i < ops.size → lis listed i = true := by
  intro listed hsz hr i
  induction i using Nat.strongRecOn with
  | ind i ih =>
   intro hi
   cases hl : lis listed i with
   | true => rfl
   | false =>
    exfalso
    have hm : i ∈ Region.ready md ops listed := by
     rw [mem_ready]
     refine ⟨?_, ops[i], by simp [hi], fun e he hb => ?_⟩
     ·have hlt : i < listed.size := by omega
      simp only [lis] at hl
      simpa [hlt] using hl
     ·have hlt := hback i ops[i] (by simp [hi]) e he hb
      exact ih e.on hlt (by omega)
    rw [hr] at hm
    cases hm
 intro fuel
 induction fuel with
 | zero =>
  intro listed a w hsz hc hI
  have hall : ∀ i, i < ops.size → lis listed i = true := fun i hi => by
   have := cnt_zero (g := fun i => !(lis listed) i) (n := ops.size) (by omega) i hi
   simpa using this
  refine ⟨?_, hend _ a w hI hall⟩
  cases hr : Region.ready md ops listed with
  | nil => rfl
  | cons x xs =>
   exfalso
   have hx : x ∈ Region.ready md ops listed := by rw [hr]; simp
   rw [mem_ready] at hx
   obtain ⟨h0, o, ho, _⟩ := hx
   have hlt : x < ops.size := (Array.getElem?_eq_some_iff.1 ho).1
   have := hall x hlt
   have hlt' : x < listed.size := by omega
   simp [lis, hlt'] at this
   simp [hlt'] at h0
   rw [h0] at this
   cases this
 | succ fuel ih =>
  intro listed a w hsz hc hI
  refine ⟨fun hr => hend _ a w hI (none_ready listed hsz hr), fun i hi => ?_⟩
  rw [mem_ready] at hi
  obtain ⟨h0, o, ho, hdep⟩ := hi
  have hlt : i < ops.size := (Array.getElem?_eq_some_iff.1 ho).1
  have hlt' : i < listed.size := by omega
  have hf : lis listed i = false := by simp [hlt'] at h0; simp [lis, hlt', h0]
  have hs := hstep (lis listed) a w i o hI ho hf hdep
  unfold wpOp
  simp only [ho]
  have hw : Region.wanted o (yielded ops a.tmps) = true := by simp [Region.wanted, hg i o ho]
  rw [if_pos hw]
  left
  refine Oper.wp_mono (fun a' w' h => ?_) hs
  refine ih _ a' w' (by simpa using hsz) ?_ (by rw [lis_set hlt']; exact h)
  rw [lis_set hlt']
  have := cnt_upd hf ops.size
  rw [if_pos hlt] at this
  omega
theorem region_inv {id : Nat} {a : Act} {w : World} (hm : P.follows .mixedOrders = true) (hg : ∀ (i : Nat) (o : Oper), ops[i]? = some o → o.guard = none) (hback : ∀ (i : Nat) (o : Oper), ops[i]? = some o → ∀ e ∈ o.after, Region.binds .any e = true → e.on < i) (I : (Nat → Bool) → Act → World → Prop)
  (hstep : ∀ (L : Nat → Bool) (a : Act) (w : World) (i : Nat) (o : Oper), I L a w → ops[i]? = some o → L i = false → (∀ e ∈ o.after, Region.binds .any e = true → L e.on = true) → o.wp P a w (fun a' w' => I (upd L i true) a' w') Q)
  (hend : ∀ (L : Nat → Bool) (a : Act) (w : World), I L a w → (∀ i, i < ops.size → L i = true) → Q .normal a w)
  (h0 : I (fun _ => false) a { w with drawn := w.drawn + 1 }) : (Code.region id ops true).wp P Q a w := by
 refine wp_region_any hm (wpAny_inv hg hback I hstep hend _ _ a _ (by simp) ?_ ?_)
 ·exact cnt_le _ _
 ·have : lis (Array.replicate ops.size false) = fun _ => false := by
   funext i
   simp [lis, Array.getElem?_replicate]
   split <;> rfl
  rw [this]
  exact h0
end
end
section
def SeesB (w : World) (B : Nat) (ao : Option Addr) (n : Nat) (g : Nat → Bool) : Prop :=
 ∀ j, j < n → ∃ b off, ao = some ⟨b, off, none⟩ ∧ b < B ∧ w.cell? ⟨b, off + j, none⟩ = some (.bool (g j))
theorem SeesB.below {w w' : World} {B C : Nat} {ao : Option Addr} {n : Nat} {g : Nat → Bool} (h : SeesB w B ao n g) (hb : Below C w w') (hBC : B ≤ C) : SeesB w' B ao n g :=
 fun j hj => by obtain ⟨b, off, e, hl, hc⟩ := h j hj; exact ⟨b, off, e, hl, (hb.cell (p := ⟨b, off + j, none⟩) (by show b < C; omega)).trans hc⟩
theorem count_any {w : World} {B : Nat} {ao : Option Addr} {n cap : Nat} {g : Nat → Bool} (h : SeesB w B ao n g) (hn : n ≤ 9223372036854775807) :
  Calls Tryz.prog 111 #[.slice ao n cap] w fun e w' => e = .returned (.int .i64 (cnt g n)) ∧ w' = w := by
 have H := hide h
 clear h
 go_enter Tryz.func111, Tryz.ntmps111
 go_wp2_with fail
 go_loopw [3, 8] (fun c i wr => ∃ k : Nat, k ≤ n ∧ i = .int .i64 k ∧ c = .int .i64 (cnt g k) ∧ wr = w) (fun _ i _ => n - (intOf i).toNat)
 case atStart => exact ⟨0, Nat.zero_le _, rfl, rfl, rfl⟩
 case round =>
  obtain ⟨k, hk, rfl, rfl, rfl⟩ := hrel
  by_cases hlt : k < n
  ·obtain ⟨b, off, rfl, hbl, hcc⟩ := H.out k hlt
   have hkn : (k : Int) < (n : Int) := by omega
   have hcl := cnt_le g k
   cases hg : g k with
   | true =>
    rw [hg] at hcc
    have hct := cnt_true hg
    go_wp2
    go_roundw
    case rel => exact ⟨k + 1, by omega, by go_num, by rw [hct]; go_num, by first | rfl | trivial⟩
    case measure => simp [intOf]; omega
   | false =>
    rw [hg] at hcc
    have hct := cnt_false hg
    go_wp2
    go_roundw
    case rel => exact ⟨k + 1, by omega, by go_num, by rw [hct], by first | rfl | trivial⟩
    case measure => simp [intOf]; omega
  ·obtain rfl : k = n := by omega
   go_wp2
   go_ret
   exact ⟨rfl, rfl⟩
theorem behind_any {w : World} {B : Nat} {ao : Option Addr} {n cap : Nat} {g : Nat → Bool} (h : SeesB w B ao n g) (hn : n ≤ 4611686018427387903) (hand : Int) (h1 : -1 ≤ hand) (h2 : hand < n) :
  Calls Tryz.prog 110 #[.slice ao n cap, .int .i64 hand] w fun e w' => e = .returned (.int .i64 (behindOf n g hand)) ∧ w' = w := by
 have H := hide h
 clear h
 obtain ⟨s, hs⟩ : ∃ s : Nat, hand + 1 = s := ⟨(hand + 1).toNat, by omega⟩
 have hst : (hand + 1).toNat = s := by omega
 go_enter Tryz.func110, Tryz.ntmps110
 go_wp2_with fail
 go_loopw [9] (fun i wr => ∃ k : Nat, k ≤ n ∧ i = .int .i64 k ∧ (∀ j, j < k → g ((s + j) % n) = false) ∧ wr = w) (fun i _ => n - (intOf i).toNat)
 case atStart => exact ⟨0, Nat.zero_le _, rfl, fun j hj => by omega, rfl⟩
 case round =>
  obtain ⟨k, hk, rfl, hno, rfl⟩ := hrel
  by_cases hlt : k < n
  ·obtain ⟨r, hr⟩ : ∃ r, r = (s + k) % n := ⟨_, rfl⟩
   have hm : r < n := by rw [hr]; exact Nat.mod_lt _ (by omega)
   obtain ⟨b, off, rfl, hbl, hcc⟩ := H.out _ hm
   have hkn : (k : Int) < (n : Int) := by omega
   have hn0 : ¬ (n : Int) = 0 := by omega
   have ha1 : hand + 1 = (s : Int) := hs
   have hmod : ((s : Int) + k) % (n : Int) = (r : Int) := by rw [hr]; simp
   have hrn : (r : Int) < (n : Int) := by omega
   have HR := hide hr
   have HN := hide hno
   clear hr hno
   cases hg : g r with
   | true =>
    rw [hg] at hcc
    go_wp2_with fail
    go_ret
    exact ⟨by rw [behindOf_some hlt (by rw [hst, ← HR.out]; exact hg) (by rw [hst]; exact HN.out), hst, ← HR.out, ← hmod]; rfl, rfl⟩
   | false =>
    rw [hg] at hcc
    go_wp2_with fail
    go_roundw
    case rel => exact ⟨k + 1, by omega, by go_num, fun j hj => by rcases Nat.lt_succ_iff_lt_or_eq.1 hj with h | rfl; exact HN.out j h; rw [← HR.out]; exact hg, by first | rfl | trivial⟩
    case measure => simp [intOf]; omega
  ·obtain rfl : k = n := by omega
   go_wp2
   go_ret
   exact ⟨by rw [behindOf_none (by rw [hst]; exact hno)]; rfl, rfl⟩
theorem tmod_emod (p : Int) (c : Nat) (hc : 0 < c) : (Int.tmod p c < 0 ∧ p % (c : Int) = Int.tmod p c + c) ∨ (¬ Int.tmod p c < 0 ∧ p % (c : Int) = Int.tmod p c) := by
 have h := Int.tmod_eq_emod (a := p) (b := c)
 have h1 := Int.emod_nonneg p (show (c : Int) ≠ 0 by omega)
 have h2 := Int.emod_lt_of_pos p (show 0 < (c : Int) by omega)
 have h3 : ((c : Int).natAbs : Int) = c := by omega
 by_cases hp : 0 ≤ p ∨ (c : Int) ∣ p
 ·rw [if_pos hp] at h; right; omega
 ·rw [if_neg hp] at h
  have : p % (c : Int) ≠ 0 := fun h0 => hp (.inr (Int.dvd_of_emod_eq_zero h0))
  omega
theorem next_any {w : World} {B : Nat} {ao : Option Addr} {n cap : Nat} {g : Nat → Bool} (h : SeesB w B ao n g) (hn : n ≤ 4611686018427387903) (place : Int) :
  Calls Tryz.prog 109 #[.slice ao n cap, .int .i64 place] w fun e w' => e = .returned (.int .i64 (pickOf n g place)) ∧ w' = w := by
 have hcl := cnt_le g n
 by_cases h0 : cnt g n = 0
 ·go_enter Tryz.func109, Tryz.ntmps109
  go_wp2_with (go_at_call 111; refine (count_any h (by omega)).mono ?_; rintro e w' ⟨rfl, hw⟩; obtain rfl := hw.symm; rw [h0])
  go_ret
  exact ⟨by rw [pickOf_none h0]; rfl, rfl⟩
 ·obtain ⟨k, hk, hkl⟩ := emod_cnt place h0
  obtain ⟨i, hi⟩ := exists_pick g k n hkl
  rw [pickOf_some h0 hk hi]
  obtain ⟨p0, hp0⟩ := exists_pick g 0 n (by omega)
  have e0 := behindOf_first hp0
  have hp0l := hp0.lt
  obtain ⟨c, hc⟩ : ∃ c, c = cnt g n := ⟨_, rfl⟩
  have hc0 : ¬ (c : Int) = 0 := by omega
  have hkc : k < c := by omega
  have ht := tmod_emod place c (by omega)
  rw [hc, hk, ← hc] at ht
  have H := hide h
  have HI := hide hi
  have HP := hide hp0
  have HC := hide hc
  have hcn : c ≤ n := by omega
  clear h hi hp0 hk h0 hkl hcl hc
  obtain ⟨t, htt⟩ : ∃ t, t = Int.tmod place c := ⟨_, rfl⟩
  have key : Calls Tryz.prog 109 #[.slice ao n cap, .int .i64 place] w fun e w' => e = .returned (.int .i64 i) ∧ w' = w := by
   go_enter Tryz.func109, Tryz.ntmps109
   go_wp2_with (first
    | (go_at_call 111; refine (count_any H.out (by omega)).mono ?_; rintro e w' ⟨rfl, hw⟩; obtain rfl := hw.symm; rw [← HC.out])
    | (go_at_call 110; refine (behind_any H.out (by omega) (-1) (by omega) (by omega)).mono ?_; rintro e w' ⟨rfl, hw⟩; obtain rfl := hw.symm; rw [e0]))
   all_goals (first | rw [show place.tmod c + c = (k : Int) by omega] | rw [show place.tmod c = (k : Int) by omega])
   all_goals clear ht htt e0
   all_goals
    go_loopw [7, 23] (fun hd i wr => ∃ j q : Nat, j ≤ k ∧ i = .int .i64 j ∧ hd = .int .i64 q ∧ Hid (IsPick n g j q) ∧ wr = w) (fun _ i _ => k - (intOf i).toNat)
    case atStart => exact ⟨0, p0, Nat.zero_le _, rfl, rfl, HP, rfl⟩
    case round =>
     obtain ⟨j, q, hj, rfl, rfl, HQ, rfl⟩ := hrel
     by_cases hlt : j < k
     ·obtain ⟨q', hq'⟩ := exists_pick g (j + 1) n (by have := HC.out; omega)
      have e1 := behindOf_next HQ.out hq'
      have hql := HQ.out.lt
      have hjk : (j : Int) < (k : Int) := by omega
      have HQ' := hide hq'
      clear hq'
      go_wp2_with (go_at_call 110; refine (behind_any H.out (by omega) q (by omega) (by omega)).mono ?_; rintro e w' ⟨rfl, hw⟩; obtain rfl := hw.symm; rw [e1])
      go_roundw
      case rel => exact ⟨j + 1, q', by omega, by go_num, rfl, HQ', by first | rfl | trivial⟩
      case measure => simp [intOf]; omega
     ·obtain rfl : j = k := by omega
      have eq := HQ.out.one HI.out
      go_wp2
      go_ret
      exact ⟨by rw [← eq]; rfl, rfl⟩
  exact key
end
section
set_option linter.unusedSectionVars false
structure Par where
  n : Nat
  nh : Nat
  jn : Nat → Nat
  jb : Nat → Nat → Jb
  ns : Nat
  sched : Nat → Int
structure St (K : Kd) where
  f : Nat → Int
  done : Nat → Nat
  cur : Nat → K.σ
  k : Nat
  s : Nat → Stp
  ans : Nat → Nat → Ans
  last : Int
def St.going {K : Kd} (P : Par) (st : St K) (h : Nat) : Bool := decide (st.done h < P.jn h)
def st0 (K : Kd) (P : Par) (f : Nat → Int) : St K :=
  { f := f, done := fun _ => 0, cur := fun h => K.init h (P.jb h 0), k := 0, s := fun _ => ⟨0, 0, 0, 0, 0, false⟩, ans := fun _ _ => ⟨false, 0⟩, last := -1 }
def stepSt {K : Kd} (P : Par) (st : St K) (h : Nat) : St K :=
  { f := wordsOf P.n st.f (K.req (st.cur h))
    done := if K.ends (st.cur h) (stepOf P.n st.f (K.req (st.cur h))) = true then upd st.done h (st.done h + 1) else st.done
    cur := upd st.cur h (if K.ends (st.cur h) (stepOf P.n st.f (K.req (st.cur h))) = true then K.init h (P.jb h (st.done h + 1)) else K.next (st.cur h) (stepOf P.n st.f (K.req (st.cur h))))
    k := st.k + 1
    s := upd st.s st.k (stepOf P.n st.f (K.req (st.cur h)))
    ans := if K.ends (st.cur h) (stepOf P.n st.f (K.req (st.cur h))) = true then upd st.ans h (upd (st.ans h) (st.done h) (K.tell (K.next (st.cur h) (stepOf P.n st.f (K.req (st.cur h)))))) else st.ans
    last := h }
def St.turn {K : Kd} (P : Par) (st : St K) : Int := if st.k < P.ns then pickOf P.nh (st.going P) (P.sched st.k) else behindOf P.nh (st.going P) st.last
def runSt {K : Kd} (P : Par) (st : St K) : Nat → St K
  | 0 => st
  | m + 1 => if (runSt P st m).turn P < 0 then runSt P st m else stepSt P (runSt P st m) ((runSt P st m).turn P).toNat
theorem turn_ok {K : Kd} (P : Par) (st : St K) : (st.turn P = -1 ∧ cnt (st.going P) P.nh = 0) ∨ ∃ h : Nat, st.turn P = h ∧ h < P.nh ∧ st.done h < P.jn h := by
  unfold St.turn
  split
  · rcases pickOf_ok (n := P.nh) (g := st.going P) (P.sched st.k) with h | ⟨i, h1, h2, h3⟩
    · exact .inl h
    · exact .inr ⟨i, h1, h2, by simpa [St.going] using h3⟩
  · rcases behindOf_ok (n := P.nh) (g := st.going P) st.last with h | ⟨i, h1, h2, h3⟩
    · exact .inl h
    · exact .inr ⟨i, h1, h2, by simpa [St.going] using h3⟩
theorem runSt_stuck {K : Kd} {P : Par} {st : St K} {m : Nat} (h : (runSt P st m).turn P < 0) : ∀ j, runSt P st (m + j) = runSt P st m
  | 0 => rfl
  | j + 1 => by
    have ih := runSt_stuck h j
    show (if (runSt P st (m + j)).turn P < 0 then runSt P st (m + j) else _) = _
    rw [ih, if_pos h]
inductive Rl where
  | mem | words | run | tasks | going | answers | steps
  | trow (h : Nat) | task (h j i : Nat) | arow (h : Nat)
  deriving DecidableEq
def updT {α : Type} (g : Rl → α) (h d : Nat) (B : Nat → α) : Rl → α
  | .task h' d' i => if h' = h ∧ d' = d then B i else g (.task h' d' i)
  | .mem => g .mem
  | .words => g .words
  | .run => g .run
  | .tasks => g .tasks
  | .going => g .going
  | .answers => g .answers
  | .steps => g .steps
  | .trow h' => g (.trow h')
  | .arow h' => g (.arow h')
section
variable {α : Type} (g : Rl → α) (h d : Nat) (B : Nat → α)
theorem updT_same (i : Nat) : updT g h d B (.task h d i) = B i := by simp [updT]
theorem updT_other {r : Rl} (hr : ∀ i, r ≠ .task h d i) : updT g h d B r = g r := by
  cases r with
  | task h' d' i =>
    show (if h' = h ∧ d' = d then B i else g (.task h' d' i)) = _
    rw [if_neg]
    rintro ⟨rfl, rfl⟩
    exact hr i rfl
  | _ => rfl
theorem updT_cases (r : Rl) : (∃ i, r = .task h d i) ∨ ∀ i, r ≠ .task h d i := by
  by_cases e : ∃ i, r = .task h d i
  · exact .inl e
  · exact .inr (fun i hi => e ⟨i, hi⟩)
end
theorem Has.taskT {w w' : World} {base : Nat} {blk : Rl → Nat} {c : Rl → Option Row} {S : Nat → Prop} (H : Has w base blk c) (h d : Nat) (B : Nat → Nat) (L : Nat → Option Row) (hb : base ≤ w.heap.size) (ht : Touch w w' S)
    (hs : ∀ r x, (∀ i, r ≠ .task h d i) → c r = some x → ¬ S (blk r)) (hrow : ∀ i x, L i = some x → w'.rowIs (B i) x.t x.n x.f) (hinj : ∀ i i' x x', L i = some x → L i' = some x' → B i = B i' → i = i')
    (hold : ∀ i x, L i = some x → (∃ i0 x0, c (.task h d i0) = some x0 ∧ B i = blk (.task h d i0)) ∨ w.heap.size ≤ B i) : Has w' base (updT blk h d B) (updT c h d L) := by
  have far : ∀ i x r y, L i = some x → (∀ i, r ≠ .task h d i) → c r = some y → B i ≠ blk r := by
    intro i x r y e hr ey he
    rcases hold i x e with ⟨i0, x0, e0, h0⟩ | h0
    · exact H.ne e0 ey (fun hh => hr i0 hh.symm) (by rw [← h0, he])
    · have := H.lt ey
      omega
  refine ⟨fun r r' x x' e e' hh => ?_, fun r x e => ?_, fun r x e => ?_⟩
  · rcases updT_cases h d r with ⟨i, rfl⟩ | hr
    · rw [updT_same] at e hh
      rcases updT_cases h d r' with ⟨i', rfl⟩ | hr'
      · rw [updT_same] at e' hh
        rw [hinj i i' x x' e e' hh]
      · rw [updT_other _ _ _ _ hr'] at e' hh
        exact absurd hh (far i x r' x' e hr' e')
    · rw [updT_other _ _ _ _ hr] at e hh
      rcases updT_cases h d r' with ⟨i', rfl⟩ | hr'
      · rw [updT_same] at e' hh
        exact absurd hh.symm (far i' x' r x e' hr e)
      · rw [updT_other _ _ _ _ hr'] at e' hh
        exact H.inj r r' x x' e e' hh
  · rcases updT_cases h d r with ⟨i, rfl⟩ | hr
    · rw [updT_same] at e ⊢
      exact hrow i x e
    · rw [updT_other _ _ _ _ hr] at e ⊢
      exact (H.row r x e).of_block (ht.block _ (H.lt e) (hs r x hr e))
  · rcases updT_cases h d r with ⟨i, rfl⟩ | hr
    · rw [updT_same] at e ⊢
      rcases hold i x e with ⟨i0, x0, e0, h0⟩ | h0
      · rw [h0]; exact H.new _ _ e0
      · omega
    · rw [updT_other _ _ _ _ hr] at e ⊢
      exact H.new r x e
theorem Has.taskW {w w' : World} {base : Nat} {blk : Rl → Nat} {c : Rl → Option Row} (H : Has w base blk c) (h d : Nat) (B : Nat → Nat) (L : Nat → Option Row) (hb : base ≤ w.heap.size) {x0 : Row} (e0 : c .words = some x0) (xw : Row) (hw : w'.rowIs (blk .words) xw.t xw.n xw.f)
    (ht : Touch w w' (fun k => k = blk .words ∨ ∃ i x, c (.task h d i) = some x ∧ k = blk (.task h d i))) (hrow : ∀ i x, L i = some x → w'.rowIs (B i) x.t x.n x.f) (hinj : ∀ i i' x x', L i = some x → L i' = some x' → B i = B i' → i = i')
    (hold : ∀ i x, L i = some x → (∃ i0 x0, c (.task h d i0) = some x0 ∧ B i = blk (.task h d i0)) ∨ w.heap.size ≤ B i) : Has w' base (updT blk h d B) (upd (updT c h d L) .words (some xw)) := by
  have H0 : Has w base blk (upd c .words none) := H.weaken (fun r x e => by
    by_cases hr : r = .words
    · subst hr; rw [upd_same] at e; cases e
    · rwa [upd_other _ _ hr] at e)
  have H1 := H0.taskT h d B L hb ht (fun r x hr e => by
    by_cases hrw : r = .words
    · subst hrw; rw [upd_same] at e; cases e
    · rw [upd_other _ _ hrw] at e
      rintro (e1 | ⟨i, y, e1, e2⟩)
      · exact H.ne e e0 hrw e1
      · exact H.ne e e1 (hr i) e2) hrow hinj (fun i x e => by
    rcases hold i x e with ⟨i0, x1, e1, e2⟩ | e1
    · exact .inl ⟨i0, x1, by rw [upd_other _ _ (by simp)]; exact e1, e2⟩
    · exact .inr e1)
  have lw := H.lt e0
  have H2 := H1.move .words (blk .words) xw (Touch.refl w' (fun _ => False)) (fun _ _ _ _ => id) (fun r x hr e => by
    rcases updT_cases h d r with ⟨i, rfl⟩ | hrt
    · rw [updT_same] at e ⊢
      rcases hold i x e with ⟨i0, x1, e1, e2⟩ | e1
      · rw [e2]; exact H.ne e1 e0 (by simp)
      · omega
    · rw [updT_other _ _ _ _ hrt] at e ⊢
      rw [upd_other _ _ hr] at e
      exact H.ne e e0 hr) hw (H.new _ _ e0)
  have eb : upd (updT blk h d B) .words (blk .words) = updT blk h d B := Has.upd_self (updT blk h d B) .words
  have ec : upd (updT (upd c .words none) h d L) .words (some xw) = upd (updT c h d L) .words (some xw) := by
    funext r
    by_cases hr : r = .words
    · subst hr; simp
    · rw [upd_other _ _ hr, upd_other _ _ hr]
      rcases updT_cases h d r with ⟨i, rfl⟩ | hrt
      · rw [updT_same, updT_same]
      · rw [updT_other _ _ _ _ hrt, updT_other _ _ _ _ hrt, upd_other _ _ hr]
  rw [eb, ec] at H2
  exact H2
def ansCells (a : Nat → Ans) : Nat → List Value
  | 0 => []
  | k + 1 => ansCells a k ++ (a k).cells
theorem ansCells_length (a : Nat → Ans) (k : Nat) : (ansCells a k).length = k * 2 := by
  induction k with
  | zero => rfl
  | succ k ih => simp [ansCells, ih, Ans.cells]; omega
theorem ansCells_congr {a b : Nat → Ans} {k : Nat} (h : ∀ j, j < k → a j = b j) : ansCells a k = ansCells b k := by
  induction k with
  | zero => rfl
  | succ k ih => simp only [ansCells]; rw [ih (fun j hj => h j (by omega)), h k (by omega)]
def Stp.cells (s : Stp) : List Value := [.int .i64 s.hand, .int .i64 s.act, .int .i64 s.at_, .int .u64 s.had, .int .u64 s.put, .bool s.ok]
def stepCells (s : Nat → Stp) : Nat → List Value
  | 0 => []
  | k + 1 => stepCells s k ++ (s k).cells
theorem stepCells_length (s : Nat → Stp) (k : Nat) : (stepCells s k).length = k * 6 := by
  induction k with
  | zero => rfl
  | succ k ih => simp [stepCells, ih, Stp.cells]; omega
theorem stepCells_congr {a b : Nat → Stp} {k : Nat} (h : ∀ j, j < k → a j = b j) : stepCells a k = stepCells b k := by
  induction k with
  | zero => rfl
  | succ k ih => simp only [stepCells]; rw [ih (fun j hj => h j (by omega)), h k (by omega)]
def Grows (blk : Rl → Nat) (c : Rl → Option Row) (r : Rl) (e : TypeId) (sz k : Nat) (xs : List Value) (v : Value) : Prop :=
  (k = 0 ∧ v = .slice none 0 0 ∧ c r = none) ∨
  ∃ cap F, v = .slice (some ⟨blk r, 0, none⟩) k cap ∧ c r = some ⟨e, cap * sz, F⟩ ∧ k ≤ cap ∧ cap ≤ maxLen ∧ Pre F xs
theorem Grows.updT {blk : Rl → Nat} {c : Rl → Option Row} {r : Rl} {e : TypeId} {sz k : Nat} {xs : List Value} {v : Value} (g : Grows blk c r e sz k xs v) {h d : Nat} (hr : ∀ i, r ≠ .task h d i) (B : Nat → Nat) (L : Nat → Option Row) :
    Grows (Go.Proofs.YtppgbndoijppnaaGreat.updT blk h d B) (Go.Proofs.YtppgbndoijppnaaGreat.updT c h d L) r e sz k xs v := by
  unfold Grows at g ⊢
  rw [updT_other _ _ _ _ hr, updT_other _ _ _ _ hr]
  exact g
theorem Grows.owns {blk : Rl → Nat} {c : Rl → Option Row} {r : Rl} {e : TypeId} {sz k : Nat} {xs : List Value} {v : Value} {w : World} {base : Nat} (h : Grows blk c r e sz k xs v) (hh : Has w base blk c) (hl : xs.length = k * sz) :
    w.ownsRow base e sz v k xs := by
  rcases h with ⟨rfl, rfl, _⟩ | ⟨cap, F, rfl, hc, hk, hm, hp⟩
  · have : xs = [] := List.eq_nil_of_length_eq_zero (by simpa using hl)
    subst this
    exact World.ownsRow_nil w base e sz
  · exact owns_of_row (hh.row r _ hc) hp hl hk hm (hh.new r _ hc)
theorem Grows.appended {blk : Rl → Nat} {c : Rl → Option Row} {r : Rl} {e : TypeId} {sz k : Nat} {xs news : List Value} {v v' : Value} {w w0 w' : World} {base : Nat} (h : Grows blk c r e sz k xs v) (hh : Has w0 base blk c)
    (hb : base ≤ w0.heap.size) (h0 : Touch w0 w (fun _ => False)) (hown : w'.ownsRow base e sz v' (k + 1) (xs ++ news)) (hg : w.grownBy w' v.ownBlock) (hat : v'.ownBlock = v.ownBlock ∨ v'.ownBlock = some w.heap.size) :
    ∃ nb F cap, v' = .slice (some ⟨nb, 0, none⟩) (k + 1) cap ∧ Has w' base (upd blk r nb) (upd c r (some ⟨e, cap * sz, F⟩)) ∧ Grows (upd blk r nb) (upd c r (some ⟨e, cap * sz, F⟩)) r e sz (k + 1) (xs ++ news) v' ∧ base ≤ nb ∧ (nb = blk r ∧ (∃ x, c r = some x) ∨ w0.heap.size ≤ nb) := by
  obtain ⟨nb, cap, F, rfl, hbn, hrow, hpre, hkc, hcm⟩ := row_of_owns hown (by omega)
  have hh' := hh.touch h0 (fun _ _ _ => id)
  have hsz := h0.size
  have key : ∀ r' x', r' ≠ r → c r' = some x' → ¬ (some (blk r') = v.ownBlock) := by
    intro r' x' hne e' he
    rcases h with ⟨_, rfl, _⟩ | ⟨cap', F', rfl, hc, _⟩
    · simp [Value.ownBlock] at he
    · simp only [Value.ownBlock, Option.some.injEq] at he
      exact hh.ne e' hc hne he
  refine ⟨nb, F, cap, rfl, hh'.move r nb _ (Touch.of_grown hg) key ?_ hrow hbn, .inr ⟨cap, F, by simp, by simp, hkc, hcm, hpre⟩, hbn, ?_⟩
  · intro r' x' hne e' he
    rcases hat with hat | hat
    · simp only [Value.ownBlock] at hat
      exact key r' x' hne e' (by rw [he]; exact hat)
    · simp only [Value.ownBlock, Option.some.injEq] at hat
      have := hh'.lt e'
      omega
  · rcases hat with hat | hat
    · left
      rcases h with ⟨_, rfl, _⟩ | ⟨cap', F', rfl, hc, _⟩
      · simp [Value.ownBlock] at hat
      · simp only [Value.ownBlock, Option.some.injEq] at hat
        exact ⟨hat, _, hc⟩
    · right
      simp only [Value.ownBlock, Option.some.injEq] at hat
      omega
structure Good (K : Kd) (P : Par) (blk : Rl → Nat) (c : Rl → Option Row) (st : St K) : Prop where
  mem : c .mem = some ⟨135, 1, fun _ => .slice (some ⟨blk .words, 0, none⟩) P.n P.n⟩
  words : c .words = some ⟨140, P.n, fun i => .int .u64 (st.f i)⟩
  most : P.n ≤ 4096
  word : ∀ i, i < P.n → 0 ≤ st.f i ∧ st.f i ≤ 18446744073709551615
  run : ∃ sv RF, c .run = some ⟨164, 5, RF⟩ ∧ RF 0 = .slice (some ⟨blk .tasks, 0, none⟩) P.nh P.nh ∧ RF 1 = .slice (some ⟨blk .going, 0, none⟩) P.nh P.nh ∧ RF 2 = .int .i64 st.last ∧ RF 3 = sv ∧
    RF 4 = .slice (some ⟨blk .answers, 0, none⟩) P.nh P.nh ∧ Grows blk c .steps 69 6 st.k (stepCells st.s st.k) sv
  tasks : ∃ T, c .tasks = some ⟨184, P.nh, T⟩ ∧ ∀ h, h < P.nh → (st.done h < P.jn h → ∃ cap, P.jn h - st.done h ≤ cap ∧ T h = .slice (some ⟨blk (.trow h), st.done h, none⟩) (P.jn h - st.done h) cap) ∧ (st.done h = P.jn h → ∃ ao cap, T h = .slice ao 0 cap)
  going : ∃ G, c .going = some ⟨4, P.nh, G⟩ ∧ ∀ h, h < P.nh → G h = .bool (st.going P h)
  answers : ∃ A, c .answers = some ⟨76, P.nh, A⟩ ∧ ∀ h, h < P.nh → Grows blk c (.arow h) 56 2 (st.done h) (ansCells (st.ans h) (st.done h)) (A h)
  trow : ∀ h, h < P.nh → 0 < P.jn h → ∃ cap F, c (.trow h) = some ⟨48, cap, F⟩ ∧ P.jn h ≤ cap ∧ ∀ j, j < P.jn h → F j = .iface (K.tid (P.jb h j)) (.pointer (some ⟨blk (.task h j 0), 0, none⟩))
  task : ∀ h, h < P.nh → ∀ j, st.done h ≤ j → j < P.jn h → K.lies (P.jb h j) (fun i => blk (.task h j i)) (if j = st.done h then st.cur h else K.init h (P.jb h j)) (fun i => c (.task h j i))
  doneLe : ∀ h, h < P.nh → st.done h ≤ P.jn h
  jobs : ∀ h, h < P.nh → P.jn h ≤ 256
  hands : P.nh ≤ 8
  wf : ∀ h, h < P.nh → st.done h < P.jn h → K.wf (P.jb h (st.done h)) (st.cur h)
  jwf : ∀ h, h < P.nh → ∀ j, j < P.jn h → K.fine (P.jb h j)
  lastOk : -1 ≤ st.last ∧ st.last < P.nh
end
section
theorem wpList_append_opt {P : Program} {w : World} {ops : Array Oper} {rest : List Oper} {o : Oper} {a : Act} {Q : Exit → Act → World → Prop} (hgd : o.guard = none) (s x : Operand) (t : TypeId)
  (ho : o.op = .call { callee := .builtin .append, args := #[s, x], argTypes := #[t, t] })
  (base : Nat) (e : TypeId) (i : TypeInfo) (z : Value) (size bytes : Nat) (ht : P.underlying t = some (.slice e)) (hi : P.info? e = some i) (hz : i.zero = some z)
  (hsize : i.size = size) (hby : i.bytes = bytes) (hzs : z.cells.size = size) (hsz : 0 < size)
  (v : Value) (n : Nat) (xs : List Value) (hs : a.eval s = v) (hown : w.ownsRow base e size v n xs)
  (ao : Option Addr) (m c : Nat) (news : List Value) (hx : a.eval x = .slice ao m c) (hnil : ao = none → m = 0 ∧ c = 0) (hl : news.length = m * size) (hnews : ∀ ad, ao = some ad → ∀ j u, news[j]? = some u → w.cell? (ad.add j) = some u) (h1 : ∀ u ∈ news, u.oneCell' = true)
  (h63 : n + m ≤ maxLen) (hbytes : (n + m) * bytes ≤ 140737488355328) (hbase : base ≤ w.heap.size)
  (h : ∀ v' w', w'.ownsRow base e size v' (n + m) (xs ++ news) → w.grownBy w' v.ownBlock → ((v' = .slice none 0 0) → v = .slice none 0 0) → wpList P ops Q rest (a.put o.dst v') w') : wpList P ops Q (o :: rest) a w := by
 cases ao with
 | none =>
  obtain ⟨rfl, rfl⟩ := hnil rfl
  have hn : news = [] := by simpa using hl
  subst hn
  refine wpList_append_own_none hgd s x t ho base e i size ht hi v n xs hs hown hx (h v w (by simpa using hown) ⟨rfl, rfl, rfl, Nat.le_refl _, fun _ _ _ => rfl⟩ (fun e => e))
 | some ad =>
  exact wpList_append_own w hgd s x t ho base e i z size bytes ht hi hz hsize hby hzs hsz v n xs hs hown ad m c news hx hl (hnews ad rfl) h1 h63 hbytes hbase fun v' w' h2 h3 h4 => h v' w' h2 h3 (fun e => (h4.1 e).1)
theorem info46e : ∃ i, Tryz.prog.info? 50 = some i ∧ i.zero = some (.int .u64 0) ∧ i.size = 1 ∧ i.bytes = 8 := by
 have h : (Tryz.prog.info? 50).map (fun i => (i.zero, i.size, i.bytes)) = some (some (.int .u64 0), 1, 8) := by kernel_rfl
 cases hp : Tryz.prog.info? 50 with
 | none => rw [hp] at h; cases h
 | some i => rw [hp] at h; simp at h; exact ⟨i, rfl, h.1, h.2.1, h.2.2⟩
def wordCells (n : Nat) (f : Nat → Int) : List Value := (List.range n).map fun i => Value.int .u64 (f i)
theorem wordCells_one (n : Nat) (f : Nat → Int) : ∀ u ∈ wordCells n f, u.oneCell' = true := by intro u hu; obtain ⟨i, _, rfl⟩ := List.mem_map.1 hu; rfl
theorem Sees.news {w : World} {B : Nat} {ao : Option Addr} {n : Nat} {f : Nat → Int} (h : Sees w B ao n f) : ∀ ad, ao = some ad → ∀ j u, (wordCells n f)[j]? = some u → w.cell? (ad.add j) = some u := by
 intro ad hao j u hu
 have hj : j < n := by have := (List.getElem?_eq_some_iff.1 hu).1; simpa [wordCells] using this
 obtain ⟨b, off, he, hbl, hcc⟩ := h j hj
 rw [hao] at he
 cases he
 have : u = .int .u64 (f j) := by simp [wordCells, hj] at hu; exact hu.symm
 subst this
 rw [Go.WideShapes.add_plain]
 exact hcc
theorem Sees.alloc {w : World} {ao : Option Addr} {n : Nat} {f : Nat → Int} (h : Sees w w.heap.size ao n f) (o : Obj) : Sees (w.alloc o) w.heap.size ao n f := h.below ((Below.refl _ w).alloc (Nat.le_refl _) o) (Nat.le_refl _)
theorem owned_row {w : World} {base n : Nat} {v : Value} {f : Nat → Int} (h : w.ownsRow base 50 1 v n (wordCells n f)) (hv : ¬ v = .slice none 0 0) (hf : ∀ i, i < n → 0 ≤ f i ∧ f i ≤ 18446744073709551615) :
  ∃ g cap, v = .slice (some ⟨g, 0, none⟩) n cap ∧ IsRow w g n cap f ∧ base ≤ g := by
 obtain ⟨hl, ⟨rfl, _⟩ | ⟨g, cap, cur, rfl, hb, hg, hc, hm, hsz, ht⟩⟩ := h
 ·exact absurd rfl hv
 ·exact ⟨g, cap, rfl, IsRow.of_owns (base := base) ⟨hl, .inr ⟨g, cap, cur, rfl, hb, hg, hc, hm, hsz, ht⟩⟩ hf, hb⟩
end
end Go.Proofs.YtppgbndoijppnaaGreat
