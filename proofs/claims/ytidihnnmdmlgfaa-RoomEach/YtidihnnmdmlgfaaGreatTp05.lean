/-
  Lemmas: Kd, Picks, Runs, RBegin.
-/
import Derived.Test.YtidihnnmdmlgfaaGreatTp03
import Derived.Test.YtidihnnmdmlgfaaGreatTp04
import Derived.Test.YtidihnnmdmlgfaaGreatTp02
import Derived.Deep.RegionHeld
import Derived.Deep.MidRow
namespace Go.Proofs.YtidihnnmdmlgfaaGreat
set_option maxHeartbeats 8000000
open Go.RowKit
set_option linter.unusedVariables false
set_option linter.unusedSimpArgs false
set_option maxRecDepth 20000
section
structure Jb where
  kind : Int
  a : Int
  b : Int
  c : Int
  h : Int
def Jb.val (j : Jb) : Value := .agg #[.int .i64 j.kind, .int .i64 j.a, .int .i64 j.b, .int .i64 j.c, .int .u64 j.h]
def Jb.cell (j : Jb) (i : Nat) : Value := match i with | 0 => .int .i64 j.kind | 1 => .int .i64 j.a | 2 => .int .i64 j.b | 3 => .int .i64 j.c | _ => .int .u64 j.h
def Jb.wf (j : Jb) : Prop := 0 ≤ j.h ∧ j.h ≤ 18446744073709551615
structure Ans where
  ok : Bool
  val : Int
def Ans.value (x : Ans) : Value := .agg #[.bool x.ok, .int .u64 x.val]
def Ans.cells (x : Ans) : List Value := [.bool x.ok, .int .u64 x.val]
structure Kd where
  σ : Type
  err : Int → Jb → Int
  init : Int → Jb → σ
  req : σ → Stp
  next : σ → Stp → σ
  ends : σ → Stp → Bool
  tell : σ → Ans
  tid : Jb → TypeId
  fs : Jb → FuncId
  fa : Jb → FuncId
  lies : Jb → (Nat → Nat) → σ → (Nat → Option Row) → Prop
  wf : Jb → σ → Prop
structure Kd.Lies (K : Kd) (w : World) (j : Jb) (B : Nat → Nat) (R : Nat → Option Row) (s : K.σ) : Prop where
  lies : K.lies j B s R
  row : ∀ i x, R i = some x → w.rowIs (B i) x.t x.n x.f
  inj : ∀ i i' x x', R i = some x → R i' = some x' → B i = B i' → i = i'
theorem Kd.Lies.lt {K : Kd} {w : World} {j : Jb} {B : Nat → Nat} {R : Nat → Option Row} {s : K.σ} (h : K.Lies w j B R s) {i : Nat} {x : Row} (e : R i = some x) : B i < w.heap.size := (h.row i x e).lt
theorem Kd.Lies.touch {K : Kd} {w w' : World} {j : Jb} {B : Nat → Nat} {R : Nat → Option Row} {s : K.σ} {S : Nat → Prop} (h : K.Lies w j B R s) (ht : Touch w w' S) (hs : ∀ i x, R i = some x → ¬ S (B i)) : K.Lies w' j B R s :=
  ⟨h.lies, fun i x e => (h.row i x e).of_block (ht.block _ (h.lt e) (hs i x e)), h.inj⟩
theorem Kd.Lies.grown {K : Kd} {w w' : World} {j : Jb} {B : Nat → Nat} {R : Nat → Option Row} {s : K.σ} (h : K.Lies w j B R s) (ht : w.grownBy w' none) : K.Lies w' j B R s := h.touch (Touch.of_grown_none ht (fun _ => False)) (fun _ _ _ => id)
theorem Kd.Lies.drew {K : Kd} {w : World} {j : Jb} {B : Nat → Nat} {R : Nat → Option Row} {s : K.σ} (h : K.Lies w j B R s) : K.Lies w.drew j B R s := ⟨h.lies, fun i x e => (h.row i x e).drew, h.inj⟩
theorem Kd.Lies.alloc {K : Kd} {w : World} {j : Jb} {B : Nat → Nat} {R : Nat → Option Row} {s : K.σ} (h : K.Lies w j B R s) (o : Obj) : K.Lies (w.alloc o) j B R s := ⟨h.lies, fun i x e => (h.row i x e).alloc o, h.inj⟩
def Kd.fine (K : Kd) (j : Jb) : Prop := j.wf ∧ ∃ h, K.err h j = 0
structure Kd.Ok (K : Kd) : Prop where
  init : ∀ h j, K.fine j → K.wf j (K.init h j)
  next : ∀ j s n f, (∀ i, i < n → 0 ≤ f i ∧ f i ≤ 18446744073709551615) → K.wf j s → ¬ K.ends s (stepOf n f (K.req s)) = true → K.wf j (K.next s (stepOf n f (K.req s)))
def Kd.wfE (K : Kd) (j : Jb) (s : K.σ) : Prop := ∃ s0 n f, (∀ i, i < n → 0 ≤ f i ∧ f i ≤ 18446744073709551615) ∧ K.wf j s0 ∧ s = K.next s0 (stepOf n f (K.req s0))
theorem rowIs_cells {w : World} (vs : Array Value) (t : TypeId) (f : Nat → Value) (n : Nat) (hn : vs.size = n) (hc : ∀ i, i < n → vs[i]? = some (f i)) : (w.alloc (.cells vs t)).rowIs w.heap.size t n f := by
  subst hn
  exact World.rowIs_alloc w vs t f hc
theorem iface_nil (t : TypeId) (v : Value) (w : World) : (binOp .eql 71 (.iface t v) .nilIface).run Tryz.prog w = .ok (.bool false) w := by kernel_rfl
def zcell : Nat → Value := fun i => match i with | 0 => .int .i64 0 | 1 => .int .i64 0 | 2 => .int .i64 0 | 3 => .int .u64 0 | 4 => .int .u64 0 | _ => .bool false
theorem row0 (w : World) : (w.alloc (.cells #[.int .i64 0, .int .i64 0, .int .i64 0, .int .u64 0, .int .u64 0, .bool false] 122)).rowIs w.heap.size 122 6 zcell :=
  rowIs_cells _ 122 zcell 6 rfl (fun i hi => by
    match i, hi with
    | 0, _ | 1, _ | 2, _ | 3, _ | 4, _ | 5, _ => rfl)
def MakesAt (K : Kd) (mk : Value) (w : World) : Prop :=
  ∀ (hand : Int) (j : Jb), 0 ≤ hand → hand < 8 → j.wf →
    (K.err hand j = 0 → Calls Tryz.prog 47 #[mk, .int .i64 hand, j.val] w fun e w' => ∃ B R, e = .returned (.tuple #[.iface (K.tid j) (.pointer (some ⟨B 0, 0, none⟩)), .int .i64 0]) ∧
      K.Lies w' j B R (K.init hand j) ∧ (∀ i x, R i = some x → w.heap.size ≤ B i) ∧ w.grownBy w' none) ∧
    (¬ K.err hand j = 0 → Calls Tryz.prog 47 #[mk, .int .i64 hand, j.val] w fun e w' => e = .returned (.tuple #[.nilIface, .int .i64 (K.err hand j)]) ∧ w.grownBy w' none)
structure IsKind (K : Kd) : Prop where
  ok : K.Ok
  step : ∀ {w : World} {bm bw n : Nat} {f : Nat → Int} {B : Nat → Nat} {R : Nat → Option Row} {s : K.σ} {j : Jb}, K.fine j → K.wf j s → K.Lies w j B R s → IsMem w bm bw n f → (∀ i x, R i = some x → B i ≠ bm ∧ B i ≠ bw) →
    Calls Tryz.prog (K.fs j) #[.pointer (some ⟨B 0, 0, none⟩), .pointer (some ⟨bm, 0, none⟩)] w fun e w' => e = .returned (.tuple #[(stepOf n f (K.req s)).val, .int .i64 (if K.ends s (stepOf n f (K.req s)) = true then 1 else 0)]) ∧
      ∃ B' R', B' 0 = B 0 ∧ K.Lies w' j B' R' (K.next s (stepOf n f (K.req s))) ∧ (∀ i x, R' i = some x → (∃ i0 x0, R i0 = some x0 ∧ B' i = B i0) ∨ w.heap.size ≤ B' i) ∧
        IsMem w' bm bw n (wordsOf n f (K.req s)) ∧ Touch w w' (fun k => k = bw ∨ ∃ i x, R i = some x ∧ k = B i)
  ans : ∀ {w : World} {B : Nat → Nat} {R : Nat → Option Row} {s : K.σ} {j : Jb}, K.fine j → K.wfE j s → K.Lies w j B R s →
    Calls Tryz.prog (K.fa j) #[.pointer (some ⟨B 0, 0, none⟩)] w fun e w' => e = .returned (K.tell s).value ∧ w.grownBy w' none
  mstep : ∀ j, K.fine j → ∀ (b : Nat) (w : World), (method 283 (K.tid j) (.pointer (some ⟨b, 0, none⟩)) "Step").run Tryz.prog w = .ok (K.fs j, .pointer (some ⟨b, 0, none⟩)) w
  mans : ∀ j, K.fine j → ∀ (b : Nat) (w : World), (method 283 (K.tid j) (.pointer (some ⟨b, 0, none⟩)) "Answer").run Tryz.prog w = .ok (K.fa j, .pointer (some ⟨b, 0, none⟩)) w
  cstep : ∀ j, K.fine j → ∀ (args : Array Value) (w : World), (callFunc (K.fs j) args).run Tryz.prog w = .ok (.enter (K.fs j) args) w
  cans : ∀ j, K.fine j → ∀ (args : Array Value) (w : World), (callFunc (K.fa j) args).run Tryz.prog w = .ok (.enter (K.fa j) args) w
end
section
def SeesB (w : World) (B : Nat) (ao : Option Addr) (n : Nat) (g : Nat → Bool) : Prop :=
  ∀ j, j < n → ∃ b off, ao = some ⟨b, off, none⟩ ∧ b < B ∧ w.cell? ⟨b, off + j, none⟩ = some (.bool (g j))
theorem SeesB.below {w w' : World} {B C : Nat} {ao : Option Addr} {n : Nat} {g : Nat → Bool} (h : SeesB w B ao n g) (hb : Below C w w') (hBC : B ≤ C) : SeesB w' B ao n g :=
  fun j hj => by obtain ⟨b, off, e, hl, hc⟩ := h j hj; exact ⟨b, off, e, hl, (hb.cell (p := ⟨b, off + j, none⟩) (by show b < C; omega)).trans hc⟩
theorem count_any {w : World} {B : Nat} {ao : Option Addr} {n cap : Nat} {g : Nat → Bool} (h : SeesB w B ao n g) (hn : n ≤ 9223372036854775807) :
    Calls Tryz.prog 52 #[.slice ao n cap] w fun e w' => e = .returned (.int .i64 (cnt g n)) ∧ w' = w := by
  have H := hide h
  clear h
  go_enter Tryz.func52, Tryz.ntmps52
  go_wp2_with fail
  go_loopw [3, 8] (fun c i wr => ∃ k : Nat, k ≤ n ∧ i = .int .i64 k ∧ c = .int .i64 (cnt g k) ∧ wr = w) (fun _ i _ => n - (intOf i).toNat)
  case atStart => exact ⟨0, Nat.zero_le _, rfl, rfl, rfl⟩
  case round =>
    obtain ⟨k, hk, rfl, rfl, rfl⟩ := hrel
    by_cases hlt : k < n
    · obtain ⟨b, off, rfl, hbl, hcc⟩ := H.out k hlt
      have hkn : (k : Int) < (n : Int) := by omega
      have hcl := cnt_le g k
      cases hg : g k with
      | true =>
        rw [hg] at hcc
        have hct := cnt_true hg
        go_wp2
        go_roundw
        case rel => exact ⟨k + 1, by omega, by go_num, by rw [hct]; go_num, by first | rfl | trivial⟩
        case measure => simp [intOf]; omega
      | false =>
        rw [hg] at hcc
        have hct := cnt_false hg
        go_wp2
        go_roundw
        case rel => exact ⟨k + 1, by omega, by go_num, by rw [hct], by first | rfl | trivial⟩
        case measure => simp [intOf]; omega
    · obtain rfl : k = n := by omega
      go_wp2
      go_ret
      exact ⟨rfl, rfl⟩
theorem behind_any {w : World} {B : Nat} {ao : Option Addr} {n cap : Nat} {g : Nat → Bool} (h : SeesB w B ao n g) (hn : n ≤ 4611686018427387903) (hand : Int) (h1 : -1 ≤ hand) (h2 : hand < n) :
    Calls Tryz.prog 49 #[.slice ao n cap, .int .i64 hand] w fun e w' => e = .returned (.int .i64 (behindOf n g hand)) ∧ w' = w := by
  have H := hide h
  clear h
  obtain ⟨s, hs⟩ : ∃ s : Nat, hand + 1 = s := ⟨(hand + 1).toNat, by omega⟩
  have hst : (hand + 1).toNat = s := by omega
  go_enter Tryz.func49, Tryz.ntmps49
  go_wp2_with fail
  go_loopw [9] (fun i wr => ∃ k : Nat, k ≤ n ∧ i = .int .i64 k ∧ (∀ j, j < k → g ((s + j) % n) = false) ∧ wr = w) (fun i _ => n - (intOf i).toNat)
  case atStart => exact ⟨0, Nat.zero_le _, rfl, fun j hj => by omega, rfl⟩
  case round =>
    obtain ⟨k, hk, rfl, hno, rfl⟩ := hrel
    by_cases hlt : k < n
    · obtain ⟨r, hr⟩ : ∃ r, r = (s + k) % n := ⟨_, rfl⟩
      have hm : r < n := by rw [hr]; exact Nat.mod_lt _ (by omega)
      obtain ⟨b, off, rfl, hbl, hcc⟩ := H.out _ hm
      have hkn : (k : Int) < (n : Int) := by omega
      have hn0 : ¬ (n : Int) = 0 := by omega
      have ha1 : hand + 1 = (s : Int) := hs
      have hmod : ((s : Int) + k) % (n : Int) = (r : Int) := by rw [hr]; simp
      have hrn : (r : Int) < (n : Int) := by omega
      have HR := hide hr
      have HN := hide hno
      clear hr hno
      cases hg : g r with
      | true =>
        rw [hg] at hcc
        go_wp2_with fail
        go_ret
        exact ⟨by rw [behindOf_some hlt (by rw [hst, ← HR.out]; exact hg) (by rw [hst]; exact HN.out), hst, ← HR.out, ← hmod]; rfl, rfl⟩
      | false =>
        rw [hg] at hcc
        go_wp2_with fail
        go_roundw
        case rel => exact ⟨k + 1, by omega, by go_num, fun j hj => by rcases Nat.lt_succ_iff_lt_or_eq.1 hj with h | rfl; exact HN.out j h; rw [← HR.out]; exact hg, by first | rfl | trivial⟩
        case measure => simp [intOf]; omega
    · obtain rfl : k = n := by omega
      go_wp2
      go_ret
      exact ⟨by rw [behindOf_none (by rw [hst]; exact hno)]; rfl, rfl⟩
theorem tmod_emod (p : Int) (c : Nat) (hc : 0 < c) : (Int.tmod p c < 0 ∧ p % (c : Int) = Int.tmod p c + c) ∨ (¬ Int.tmod p c < 0 ∧ p % (c : Int) = Int.tmod p c) := by
  have h := Int.tmod_eq_emod (a := p) (b := c)
  have h1 := Int.emod_nonneg p (show (c : Int) ≠ 0 by omega)
  have h2 := Int.emod_lt_of_pos p (show 0 < (c : Int) by omega)
  have h3 : ((c : Int).natAbs : Int) = c := by omega
  by_cases hp : 0 ≤ p ∨ (c : Int) ∣ p
  · rw [if_pos hp] at h; right; omega
  · rw [if_neg hp] at h
    have : p % (c : Int) ≠ 0 := fun h0 => hp (.inr (Int.dvd_of_emod_eq_zero h0))
    omega
theorem next_any {w : World} {B : Nat} {ao : Option Addr} {n cap : Nat} {g : Nat → Bool} (h : SeesB w B ao n g) (hn : n ≤ 4611686018427387903) (place : Int) :
    Calls Tryz.prog 48 #[.slice ao n cap, .int .i64 place] w fun e w' => e = .returned (.int .i64 (pickOf n g place)) ∧ w' = w := by
  have hcl := cnt_le g n
  by_cases h0 : cnt g n = 0
  · go_enter Tryz.func48, Tryz.ntmps48
    go_wp2_with (go_at_call 52; refine (count_any h (by omega)).mono ?_; rintro e w' ⟨rfl, hw⟩; obtain rfl := hw.symm; rw [h0])
    go_ret
    exact ⟨by rw [pickOf_none h0]; rfl, rfl⟩
  · obtain ⟨k, hk, hkl⟩ := emod_cnt place h0
    obtain ⟨i, hi⟩ := exists_pick g k n hkl
    rw [pickOf_some h0 hk hi]
    obtain ⟨p0, hp0⟩ := exists_pick g 0 n (by omega)
    have e0 := behindOf_first hp0
    have hp0l := hp0.lt
    obtain ⟨c, hc⟩ : ∃ c, c = cnt g n := ⟨_, rfl⟩
    have hc0 : ¬ (c : Int) = 0 := by omega
    have hkc : k < c := by omega
    have ht := tmod_emod place c (by omega)
    rw [hc, hk, ← hc] at ht
    have H := hide h
    have HI := hide hi
    have HP := hide hp0
    have HC := hide hc
    have hcn : c ≤ n := by omega
    clear h hi hp0 hk h0 hkl hcl hc
    obtain ⟨t, htt⟩ : ∃ t, t = Int.tmod place c := ⟨_, rfl⟩
    have key : Calls Tryz.prog 48 #[.slice ao n cap, .int .i64 place] w fun e w' => e = .returned (.int .i64 i) ∧ w' = w := by
      go_enter Tryz.func48, Tryz.ntmps48
      go_wp2_with (first
        | (go_at_call 52; refine (count_any H.out (by omega)).mono ?_; rintro e w' ⟨rfl, hw⟩; obtain rfl := hw.symm; rw [← HC.out])
        | (go_at_call 49; refine (behind_any H.out (by omega) (-1) (by omega) (by omega)).mono ?_; rintro e w' ⟨rfl, hw⟩; obtain rfl := hw.symm; rw [e0]))
      all_goals (first | rw [show place.tmod c + c = (k : Int) by omega] | rw [show place.tmod c = (k : Int) by omega])
      all_goals clear ht htt e0
      all_goals
        go_loopw [7, 23] (fun hd i wr => ∃ j q : Nat, j ≤ k ∧ i = .int .i64 j ∧ hd = .int .i64 q ∧ Hid (IsPick n g j q) ∧ wr = w) (fun _ i _ => k - (intOf i).toNat)
        case atStart => exact ⟨0, p0, Nat.zero_le _, rfl, rfl, HP, rfl⟩
        case round =>
          obtain ⟨j, q, hj, rfl, rfl, HQ, rfl⟩ := hrel
          by_cases hlt : j < k
          · obtain ⟨q', hq'⟩ := exists_pick g (j + 1) n (by have := HC.out; omega)
            have e1 := behindOf_next HQ.out hq'
            have hql := HQ.out.lt
            have hjk : (j : Int) < (k : Int) := by omega
            have HQ' := hide hq'
            clear hq'
            go_wp2_with (go_at_call 49; refine (behind_any H.out (by omega) q (by omega) (by omega)).mono ?_; rintro e w' ⟨rfl, hw⟩; obtain rfl := hw.symm; rw [e1])
            go_roundw
            case rel => exact ⟨j + 1, q', by omega, by go_num, rfl, HQ', by first | rfl | trivial⟩
            case measure => simp [intOf]; omega
          · obtain rfl : j = k := by omega
            have eq := HQ.out.one HI.out
            go_wp2
            go_ret
            exact ⟨by rw [← eq]; rfl, rfl⟩
    exact key
end
section
set_option linter.unusedSectionVars false
structure Par where
  n : Nat
  nh : Nat
  jn : Nat → Nat
  jb : Nat → Nat → Jb
  ns : Nat
  sched : Nat → Int
structure St (K : Kd) where
  f : Nat → Int
  done : Nat → Nat
  cur : Nat → K.σ
  k : Nat
  s : Nat → Stp
  ans : Nat → Nat → Ans
  last : Int
def St.going {K : Kd} (P : Par) (st : St K) (h : Nat) : Bool := decide (st.done h < P.jn h)
def st0 (K : Kd) (P : Par) (f : Nat → Int) : St K :=
  { f := f, done := fun _ => 0, cur := fun h => K.init h (P.jb h 0), k := 0, s := fun _ => ⟨0, 0, 0, 0, 0, false⟩, ans := fun _ _ => ⟨false, 0⟩, last := -1 }
def stepSt {K : Kd} (P : Par) (st : St K) (h : Nat) : St K :=
  { f := wordsOf P.n st.f (K.req (st.cur h))
    done := if K.ends (st.cur h) (stepOf P.n st.f (K.req (st.cur h))) = true then upd st.done h (st.done h + 1) else st.done
    cur := upd st.cur h (if K.ends (st.cur h) (stepOf P.n st.f (K.req (st.cur h))) = true then K.init h (P.jb h (st.done h + 1)) else K.next (st.cur h) (stepOf P.n st.f (K.req (st.cur h))))
    k := st.k + 1
    s := upd st.s st.k (stepOf P.n st.f (K.req (st.cur h)))
    ans := if K.ends (st.cur h) (stepOf P.n st.f (K.req (st.cur h))) = true then upd st.ans h (upd (st.ans h) (st.done h) (K.tell (K.next (st.cur h) (stepOf P.n st.f (K.req (st.cur h)))))) else st.ans
    last := h }
def St.turn {K : Kd} (P : Par) (st : St K) : Int := if st.k < P.ns then pickOf P.nh (st.going P) (P.sched st.k) else behindOf P.nh (st.going P) st.last
def runSt {K : Kd} (P : Par) (st : St K) : Nat → St K
  | 0 => st
  | m + 1 => if (runSt P st m).turn P < 0 then runSt P st m else stepSt P (runSt P st m) ((runSt P st m).turn P).toNat
theorem turn_ok {K : Kd} (P : Par) (st : St K) : (st.turn P = -1 ∧ cnt (st.going P) P.nh = 0) ∨ ∃ h : Nat, st.turn P = h ∧ h < P.nh ∧ st.done h < P.jn h := by
  unfold St.turn
  split
  · rcases pickOf_ok (n := P.nh) (g := st.going P) (P.sched st.k) with h | ⟨i, h1, h2, h3⟩
    · exact .inl h
    · exact .inr ⟨i, h1, h2, by simpa [St.going] using h3⟩
  · rcases behindOf_ok (n := P.nh) (g := st.going P) st.last with h | ⟨i, h1, h2, h3⟩
    · exact .inl h
    · exact .inr ⟨i, h1, h2, by simpa [St.going] using h3⟩
theorem runSt_stuck {K : Kd} {P : Par} {st : St K} {m : Nat} (h : (runSt P st m).turn P < 0) : ∀ j, runSt P st (m + j) = runSt P st m
  | 0 => rfl
  | j + 1 => by
    have ih := runSt_stuck h j
    show (if (runSt P st (m + j)).turn P < 0 then runSt P st (m + j) else _) = _
    rw [ih, if_pos h]
inductive Rl where
  | mem | words | run | tasks | going | answers | steps
  | trow (h : Nat) | task (h j i : Nat) | arow (h : Nat)
  deriving DecidableEq
def updT {α : Type} (g : Rl → α) (h d : Nat) (B : Nat → α) : Rl → α
  | .task h' d' i => if h' = h ∧ d' = d then B i else g (.task h' d' i)
  | .mem => g .mem
  | .words => g .words
  | .run => g .run
  | .tasks => g .tasks
  | .going => g .going
  | .answers => g .answers
  | .steps => g .steps
  | .trow h' => g (.trow h')
  | .arow h' => g (.arow h')
section
variable {α : Type} (g : Rl → α) (h d : Nat) (B : Nat → α)
theorem updT_same (i : Nat) : updT g h d B (.task h d i) = B i := by simp [updT]
theorem updT_other {r : Rl} (hr : ∀ i, r ≠ .task h d i) : updT g h d B r = g r := by
  cases r with
  | task h' d' i =>
    show (if h' = h ∧ d' = d then B i else g (.task h' d' i)) = _
    rw [if_neg]
    rintro ⟨rfl, rfl⟩
    exact hr i rfl
  | _ => rfl
theorem updT_cases (r : Rl) : (∃ i, r = .task h d i) ∨ ∀ i, r ≠ .task h d i := by
  by_cases e : ∃ i, r = .task h d i
  · exact .inl e
  · exact .inr (fun i hi => e ⟨i, hi⟩)
end
theorem Has.taskT {w w' : World} {base : Nat} {blk : Rl → Nat} {c : Rl → Option Row} {S : Nat → Prop} (H : Has w base blk c) (h d : Nat) (B : Nat → Nat) (L : Nat → Option Row) (hb : base ≤ w.heap.size) (ht : Touch w w' S)
    (hs : ∀ r x, (∀ i, r ≠ .task h d i) → c r = some x → ¬ S (blk r)) (hrow : ∀ i x, L i = some x → w'.rowIs (B i) x.t x.n x.f) (hinj : ∀ i i' x x', L i = some x → L i' = some x' → B i = B i' → i = i')
    (hold : ∀ i x, L i = some x → (∃ i0 x0, c (.task h d i0) = some x0 ∧ B i = blk (.task h d i0)) ∨ w.heap.size ≤ B i) : Has w' base (updT blk h d B) (updT c h d L) := by
  have far : ∀ i x r y, L i = some x → (∀ i, r ≠ .task h d i) → c r = some y → B i ≠ blk r := by
    intro i x r y e hr ey he
    rcases hold i x e with ⟨i0, x0, e0, h0⟩ | h0
    · exact H.ne e0 ey (fun hh => hr i0 hh.symm) (by rw [← h0, he])
    · have := H.lt ey
      omega
  refine ⟨fun r r' x x' e e' hh => ?_, fun r x e => ?_, fun r x e => ?_⟩
  · rcases updT_cases h d r with ⟨i, rfl⟩ | hr
    · rw [updT_same] at e hh
      rcases updT_cases h d r' with ⟨i', rfl⟩ | hr'
      · rw [updT_same] at e' hh
        rw [hinj i i' x x' e e' hh]
      · rw [updT_other _ _ _ _ hr'] at e' hh
        exact absurd hh (far i x r' x' e hr' e')
    · rw [updT_other _ _ _ _ hr] at e hh
      rcases updT_cases h d r' with ⟨i', rfl⟩ | hr'
      · rw [updT_same] at e' hh
        exact absurd hh.symm (far i' x' r x e' hr e)
      · rw [updT_other _ _ _ _ hr'] at e' hh
        exact H.inj r r' x x' e e' hh
  · rcases updT_cases h d r with ⟨i, rfl⟩ | hr
    · rw [updT_same] at e ⊢
      exact hrow i x e
    · rw [updT_other _ _ _ _ hr] at e ⊢
      exact (H.row r x e).of_block (ht.block _ (H.lt e) (hs r x hr e))
  · rcases updT_cases h d r with ⟨i, rfl⟩ | hr
    · rw [updT_same] at e ⊢
      rcases hold i x e with ⟨i0, x0, e0, h0⟩ | h0
      · rw [h0]; exact H.new _ _ e0
      · omega
    · rw [updT_other _ _ _ _ hr] at e ⊢
      exact H.new r x e
theorem Has.taskW {w w' : World} {base : Nat} {blk : Rl → Nat} {c : Rl → Option Row} (H : Has w base blk c) (h d : Nat) (B : Nat → Nat) (L : Nat → Option Row) (hb : base ≤ w.heap.size) {x0 : Row} (e0 : c .words = some x0) (xw : Row) (hw : w'.rowIs (blk .words) xw.t xw.n xw.f)
    (ht : Touch w w' (fun k => k = blk .words ∨ ∃ i x, c (.task h d i) = some x ∧ k = blk (.task h d i))) (hrow : ∀ i x, L i = some x → w'.rowIs (B i) x.t x.n x.f) (hinj : ∀ i i' x x', L i = some x → L i' = some x' → B i = B i' → i = i')
    (hold : ∀ i x, L i = some x → (∃ i0 x0, c (.task h d i0) = some x0 ∧ B i = blk (.task h d i0)) ∨ w.heap.size ≤ B i) : Has w' base (updT blk h d B) (upd (updT c h d L) .words (some xw)) := by
  have H0 : Has w base blk (upd c .words none) := H.weaken (fun r x e => by
    by_cases hr : r = .words
    · subst hr; rw [upd_same] at e; cases e
    · rwa [upd_other _ _ hr] at e)
  have H1 := H0.taskT h d B L hb ht (fun r x hr e => by
    by_cases hrw : r = .words
    · subst hrw; rw [upd_same] at e; cases e
    · rw [upd_other _ _ hrw] at e
      rintro (e1 | ⟨i, y, e1, e2⟩)
      · exact H.ne e e0 hrw e1
      · exact H.ne e e1 (hr i) e2) hrow hinj (fun i x e => by
    rcases hold i x e with ⟨i0, x1, e1, e2⟩ | e1
    · exact .inl ⟨i0, x1, by rw [upd_other _ _ (by simp)]; exact e1, e2⟩
    · exact .inr e1)
  have lw := H.lt e0
  have H2 := H1.move .words (blk .words) xw (Touch.refl w' (fun _ => False)) (fun _ _ _ _ => id) (fun r x hr e => by
    rcases updT_cases h d r with ⟨i, rfl⟩ | hrt
    · rw [updT_same] at e ⊢
      rcases hold i x e with ⟨i0, x1, e1, e2⟩ | e1
      · rw [e2]; exact H.ne e1 e0 (by simp)
      · omega
    · rw [updT_other _ _ _ _ hrt] at e ⊢
      rw [upd_other _ _ hr] at e
      exact H.ne e e0 hr) hw (H.new _ _ e0)
  have eb : upd (updT blk h d B) .words (blk .words) = updT blk h d B := Has.upd_self (updT blk h d B) .words
  have ec : upd (updT (upd c .words none) h d L) .words (some xw) = upd (updT c h d L) .words (some xw) := by
    funext r
    by_cases hr : r = .words
    · subst hr; simp
    · rw [upd_other _ _ hr, upd_other _ _ hr]
      rcases updT_cases h d r with ⟨i, rfl⟩ | hrt
      · rw [updT_same, updT_same]
      · rw [updT_other _ _ _ _ hrt, updT_other _ _ _ _ hrt, upd_other _ _ hr]
  rw [eb, ec] at H2
  exact H2
def ansCells (a : Nat → Ans) : Nat → List Value
  | 0 => []
  | k + 1 => ansCells a k ++ (a k).cells
theorem ansCells_length (a : Nat → Ans) (k : Nat) : (ansCells a k).length = k * 2 := by
  induction k with
  | zero => rfl
  | succ k ih => simp [ansCells, ih, Ans.cells]; omega
theorem ansCells_congr {a b : Nat → Ans} {k : Nat} (h : ∀ j, j < k → a j = b j) : ansCells a k = ansCells b k := by
  induction k with
  | zero => rfl
  | succ k ih => simp only [ansCells]; rw [ih (fun j hj => h j (by omega)), h k (by omega)]
def Stp.cells (s : Stp) : List Value := [.int .i64 s.hand, .int .i64 s.act, .int .i64 s.at_, .int .u64 s.had, .int .u64 s.put, .bool s.ok]
def stepCells (s : Nat → Stp) : Nat → List Value
  | 0 => []
  | k + 1 => stepCells s k ++ (s k).cells
theorem stepCells_length (s : Nat → Stp) (k : Nat) : (stepCells s k).length = k * 6 := by
  induction k with
  | zero => rfl
  | succ k ih => simp [stepCells, ih, Stp.cells]; omega
theorem stepCells_congr {a b : Nat → Stp} {k : Nat} (h : ∀ j, j < k → a j = b j) : stepCells a k = stepCells b k := by
  induction k with
  | zero => rfl
  | succ k ih => simp only [stepCells]; rw [ih (fun j hj => h j (by omega)), h k (by omega)]
def Grows (blk : Rl → Nat) (c : Rl → Option Row) (r : Rl) (e : TypeId) (sz k : Nat) (xs : List Value) (v : Value) : Prop :=
  (k = 0 ∧ v = .slice none 0 0 ∧ c r = none) ∨
  ∃ cap F, v = .slice (some ⟨blk r, 0, none⟩) k cap ∧ c r = some ⟨e, cap * sz, F⟩ ∧ k ≤ cap ∧ cap ≤ maxLen ∧ Pre F xs
theorem Grows.updT {blk : Rl → Nat} {c : Rl → Option Row} {r : Rl} {e : TypeId} {sz k : Nat} {xs : List Value} {v : Value} (g : Grows blk c r e sz k xs v) {h d : Nat} (hr : ∀ i, r ≠ .task h d i) (B : Nat → Nat) (L : Nat → Option Row) :
    Grows (Go.Proofs.YtidihnnmdmlgfaaGreat.updT blk h d B) (Go.Proofs.YtidihnnmdmlgfaaGreat.updT c h d L) r e sz k xs v := by
  unfold Grows at g ⊢
  rw [updT_other _ _ _ _ hr, updT_other _ _ _ _ hr]
  exact g
theorem Grows.owns {blk : Rl → Nat} {c : Rl → Option Row} {r : Rl} {e : TypeId} {sz k : Nat} {xs : List Value} {v : Value} {w : World} {base : Nat} (h : Grows blk c r e sz k xs v) (hh : Has w base blk c) (hl : xs.length = k * sz) :
    w.ownsRow base e sz v k xs := by
  rcases h with ⟨rfl, rfl, _⟩ | ⟨cap, F, rfl, hc, hk, hm, hp⟩
  · have : xs = [] := List.eq_nil_of_length_eq_zero (by simpa using hl)
    subst this
    exact World.ownsRow_nil w base e sz
  · exact owns_of_row (hh.row r _ hc) hp hl hk hm (hh.new r _ hc)
theorem Grows.appended {blk : Rl → Nat} {c : Rl → Option Row} {r : Rl} {e : TypeId} {sz k : Nat} {xs news : List Value} {v v' : Value} {w w0 w' : World} {base : Nat} (h : Grows blk c r e sz k xs v) (hh : Has w0 base blk c)
    (hb : base ≤ w0.heap.size) (h0 : Touch w0 w (fun _ => False)) (hown : w'.ownsRow base e sz v' (k + 1) (xs ++ news)) (hg : w.grownBy w' v.ownBlock) (hat : v'.ownBlock = v.ownBlock ∨ v'.ownBlock = some w.heap.size) :
    ∃ nb F cap, v' = .slice (some ⟨nb, 0, none⟩) (k + 1) cap ∧ Has w' base (upd blk r nb) (upd c r (some ⟨e, cap * sz, F⟩)) ∧ Grows (upd blk r nb) (upd c r (some ⟨e, cap * sz, F⟩)) r e sz (k + 1) (xs ++ news) v' ∧ base ≤ nb ∧ (nb = blk r ∧ (∃ x, c r = some x) ∨ w0.heap.size ≤ nb) := by
  obtain ⟨nb, cap, F, rfl, hbn, hrow, hpre, hkc, hcm⟩ := row_of_owns hown (by omega)
  have hh' := hh.touch h0 (fun _ _ _ => id)
  have hsz := h0.size
  have key : ∀ r' x', r' ≠ r → c r' = some x' → ¬ (some (blk r') = v.ownBlock) := by
    intro r' x' hne e' he
    rcases h with ⟨_, rfl, _⟩ | ⟨cap', F', rfl, hc, _⟩
    · simp [Value.ownBlock] at he
    · simp only [Value.ownBlock, Option.some.injEq] at he
      exact hh.ne e' hc hne he
  refine ⟨nb, F, cap, rfl, hh'.move r nb _ (Touch.of_grown hg) key ?_ hrow hbn, .inr ⟨cap, F, by simp, by simp, hkc, hcm, hpre⟩, hbn, ?_⟩
  · intro r' x' hne e' he
    rcases hat with hat | hat
    · simp only [Value.ownBlock] at hat
      exact key r' x' hne e' (by rw [he]; exact hat)
    · simp only [Value.ownBlock, Option.some.injEq] at hat
      have := hh'.lt e'
      omega
  · rcases hat with hat | hat
    · left
      rcases h with ⟨_, rfl, _⟩ | ⟨cap', F', rfl, hc, _⟩
      · simp [Value.ownBlock] at hat
      · simp only [Value.ownBlock, Option.some.injEq] at hat
        exact ⟨hat, _, hc⟩
    · right
      simp only [Value.ownBlock, Option.some.injEq] at hat
      omega
structure Good (K : Kd) (P : Par) (blk : Rl → Nat) (c : Rl → Option Row) (st : St K) : Prop where
  mem : c .mem = some ⟨110, 1, fun _ => .slice (some ⟨blk .words, 0, none⟩) P.n P.n⟩
  words : c .words = some ⟨115, P.n, fun i => .int .u64 (st.f i)⟩
  most : P.n ≤ 4096
  word : ∀ i, i < P.n → 0 ≤ st.f i ∧ st.f i ≤ 18446744073709551615
  run : ∃ sv RF, c .run = some ⟨87, 5, RF⟩ ∧ RF 0 = .slice (some ⟨blk .tasks, 0, none⟩) P.nh P.nh ∧ RF 1 = .slice (some ⟨blk .going, 0, none⟩) P.nh P.nh ∧ RF 2 = .int .i64 st.last ∧ RF 3 = sv ∧
    RF 4 = .slice (some ⟨blk .answers, 0, none⟩) P.nh P.nh ∧ Grows blk c .steps 122 6 st.k (stepCells st.s st.k) sv
  tasks : ∃ T, c .tasks = some ⟨119, P.nh, T⟩ ∧ ∀ h, h < P.nh → (st.done h < P.jn h → ∃ cap, P.jn h - st.done h ≤ cap ∧ T h = .slice (some ⟨blk (.trow h), st.done h, none⟩) (P.jn h - st.done h) cap) ∧ (st.done h = P.jn h → ∃ ao cap, T h = .slice ao 0 cap)
  going : ∃ G, c .going = some ⟨4, P.nh, G⟩ ∧ ∀ h, h < P.nh → G h = .bool (st.going P h)
  answers : ∃ A, c .answers = some ⟨37, P.nh, A⟩ ∧ ∀ h, h < P.nh → Grows blk c (.arow h) 40 2 (st.done h) (ansCells (st.ans h) (st.done h)) (A h)
  trow : ∀ h, h < P.nh → 0 < P.jn h → ∃ cap F, c (.trow h) = some ⟨71, cap, F⟩ ∧ P.jn h ≤ cap ∧ ∀ j, j < P.jn h → F j = .iface (K.tid (P.jb h j)) (.pointer (some ⟨blk (.task h j 0), 0, none⟩))
  task : ∀ h, h < P.nh → ∀ j, st.done h ≤ j → j < P.jn h → K.lies (P.jb h j) (fun i => blk (.task h j i)) (if j = st.done h then st.cur h else K.init h (P.jb h j)) (fun i => c (.task h j i))
  doneLe : ∀ h, h < P.nh → st.done h ≤ P.jn h
  jobs : ∀ h, h < P.nh → P.jn h ≤ 256
  hands : P.nh ≤ 8
  wf : ∀ h, h < P.nh → st.done h < P.jn h → K.wf (P.jb h (st.done h)) (st.cur h)
  jwf : ∀ h, h < P.nh → ∀ j, j < P.jn h → K.fine (P.jb h j)
  lastOk : -1 ≤ st.last ∧ st.last < P.nh
end
section
structure Shp where
  a : Int
  b : Int
  c : Int
  d : Int
  e : Int
  f : Int
def Shp.val (s : Shp) : Value := .agg #[.int .i64 s.a, .int .i64 s.b, .int .i64 s.c, .int .i64 s.d, .int .i64 s.e, .int .i64 s.f]
def runCells (s : Shp) (vw vh vt vu vb vk vs va : Value) (la : Int) : List Value :=
  [.int .i64 s.a, .int .i64 s.b, .int .i64 s.c, .int .i64 s.d, .int .i64 s.e, .int .i64 s.f, vw, vh, vt, vu, vb, vk, vs, va, .int .i64 la]
def runVal (s : Shp) (vw vh vt vu vb vk vs va : Value) (la : Int) : Value := .agg (runCells s vw vh vt vu vb vk vs va la).toArray
section
variable {P : Program} {o : Oper} {a : Act} {w : World} {K : Act → World → Prop} {Q : Exit → Act → World → Prop}
theorem wp_value {v : Value} {w' : World} (h : (execOp a.eval o).run P w = .ok (.value v) w') (hk : K (a.put o.dst v) w') : o.wp P a w K Q := by
  unfold Oper.wp; rw [h]; exact hk
end
theorem put_eval {a : Act} {d : Nat} {v : Value} (h : d < a.tmps.size) : (a.put (some d) v).eval (.tmp d) = v := by
  simp [Act.put, Act.eval, h]
theorem put_other {a : Act} {d k : Nat} {v : Value} (h : k ≠ d) : (a.put (some d) v).eval (.tmp k) = a.eval (.tmp k) :=
  Act.eval_put (fun d' hd he => by cases hd; cases he; exact h rfl)
theorem put_size {a : Act} {d : Option Nat} {v : Value} : (a.put d v).tmps.size = a.tmps.size := by
  cases d <;> simp [Act.put]
theorem put_defs {a : Act} {d : Option Nat} {v : Value} : (a.put d v).defers = a.defers := by
  cases d <;> rfl
theorem World.rowIs_alloc' (w : World) (vs : Array Value) (t : TypeId) (n : Nat) (hn : vs.size = n) {f : Nat → Value} (hc : ∀ i, i < n → vs[i]? = some (f i)) : (w.alloc (.cells vs t)).rowIs w.heap.size t n f := by
  subst hn
  exact World.rowIs_alloc w vs t f hc
theorem touch_setCells (b : Nat) : ∀ (vs : List Value) (o : Nat) (w : World), Touch w (w.setCells b o vs) (fun k => k = b)
  | [], _, w => Touch.refl w _
  | v :: r, o, w => by
    rw [World.setCells]
    exact (Touch.setCell (S := fun k => k = b) (Touch.refl w _) ⟨b, o, none⟩ (.inl rfl) v).trans (touch_setCells b r (o + 1) _)
namespace Beg
def mv (vw vh vn vs : Value) : Nat → Option (Nat × Value)
  | 0 => some (10, vs)
  | 2 => some (12, vw)
  | 4 => some (14, vh)
  | 5 => some (15, vn)
  | 7 => some (17, vn)
  | 9 => some (19, vn)
  | 11 => some (21, vn)
  | 13 => some (23, vn)
  | _ => none
def zTask : Array Value := #[.int .i64 0, .int .i64 0, .int .i64 0, .int .i64 0, .int .i64 0, .int .i64 0, .int .i64 0, .int .i64 0, .int .i64 0, .int .i64 0, .int .i64 0, .int .u64 0, .int .i64 0, .int .u64 0, .int .u64 0, .int .u64 0, .int .u64 0, .int .u64 0, .int .u64 0, .int .u64 0, .int .u64 0, .slice none 0 0, .bool false, .int .u64 0, .int .u64 0, .int .u64 0, .int .u64 0, .int .u64 0]
def zKept : Array Value := #[.int .u64 0, .int .u64 0, .int .u64 0, .int .u64 0]
def sl (b n : Nat) : Value := .slice (some ⟨b, 0, none⟩) n n
def cellsAt (sh : Shp) (vw vh : Value) (blk : Rl → Nat) (nh : Nat) : List Value := runCells sh vw vh (sl (blk .tasks) nh) (sl (blk .going) nh) (sl (blk .run) nh) (sl (blk .mem) nh) (.slice none 0 0) (sl (blk .answers) nh) (-1)
structure Wd (N : Nat) (L : Nat → Bool) (a : Act) (blk : Rl → Nat) (c : Rl → Option Row) (n : Nat) (f : Nat → Int) : Prop where
  none : L 1 = false → c .words = .none ∧ L 3 = false
  lit : L 1 = true → L 3 = false → a.eval (.tmp 11) = .slice (some ⟨blk .words, 0, .none⟩) 0 0 ∧ N ≤ blk .words ∧ ∃ F, c .words = some ⟨38, 0, F⟩
  row : L 3 = true → ∃ cap F, a.eval (.tmp 13) = .slice (some ⟨blk .words, 0, .none⟩) n cap ∧ c .words = some ⟨38, cap, F⟩ ∧ n ≤ cap ∧ cap ≤ maxLen ∧ ∀ i, i < n → F i = .int .u64 (f i)
variable {w0 w : World} {B : Nat} {sh : Shp} {vw vh : Value} {n nh : Nat} {f : Nat → Int} {L : Nat → Bool} {a : Act} {blk : Rl → Nat} {c : Rl → Option Row}
end Beg
end
end Go.Proofs.YtidihnnmdmlgfaaGreat
