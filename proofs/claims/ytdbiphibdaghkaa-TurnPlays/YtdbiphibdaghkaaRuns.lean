/-
  A run by a schedule, told without a program: its state, its step, the hand that is picked; and how the program's run lies in memory.
-/
import Derived.Test.YtdbiphibdaghkaaKinds
import Derived.Test.YtdbiphibdaghkaaPicks
namespace Go.Proofs.Ytdbiphibdaghkaa
open Go.RowKit
set_option linter.unusedVariables false
set_option linter.unusedSimpArgs false
set_option linter.unusedSectionVars false

/-- What a run is of: n words, nh hands, hand h has jn h jobs; ns numbers of a schedule. -/
structure Par where
  n : Nat
  nh : Nat
  jn : Nat → Nat
  jb : Nat → Nat → Jb
  ns : Nat
  sched : Nat → Int

structure St (K : Kd) where
  f : Nat → Int
  done : Nat → Nat
  cur : Nat → K.σ
  k : Nat
  s : Nat → Stp
  ans : Nat → Nat → Ans
  last : Int

def St.going {K : Kd} (P : Par) (st : St K) (h : Nat) : Bool := decide (st.done h < P.jn h)

def st0 (K : Kd) (P : Par) (f : Nat → Int) : St K :=
  { f := f, done := fun _ => 0, cur := fun h => K.init h (P.jb h 0), k := 0, s := fun _ => ⟨0, 0, 0, 0, 0, false⟩, ans := fun _ _ => ⟨false, 0⟩, last := -1 }

def stepSt {K : Kd} (P : Par) (st : St K) (h : Nat) : St K :=
  { f := wordsOf P.n st.f (K.req (st.cur h))
    done := if K.ends (st.cur h) (stepOf P.n st.f (K.req (st.cur h))) = true then upd st.done h (st.done h + 1) else st.done
    cur := upd st.cur h (if K.ends (st.cur h) (stepOf P.n st.f (K.req (st.cur h))) = true then K.init h (P.jb h (st.done h + 1)) else K.next (st.cur h) (stepOf P.n st.f (K.req (st.cur h))))
    k := st.k + 1
    s := upd st.s st.k (stepOf P.n st.f (K.req (st.cur h)))
    ans := if K.ends (st.cur h) (stepOf P.n st.f (K.req (st.cur h))) = true then upd st.ans h (upd (st.ans h) (st.done h) (K.tell (K.next (st.cur h) (stepOf P.n st.f (K.req (st.cur h)))))) else st.ans
    last := h }

/-- The hand whose turn it is; -1: none goes on. -/
def St.turn {K : Kd} (P : Par) (st : St K) : Int := if st.k < P.ns then pickOf P.nh (st.going P) (P.sched st.k) else behindOf P.nh (st.going P) st.last

/-- Behind m steps, or fewer, where none goes on. -/
def runSt {K : Kd} (P : Par) (st : St K) : Nat → St K
  | 0 => st
  | m + 1 => if (runSt P st m).turn P < 0 then runSt P st m else stepSt P (runSt P st m) ((runSt P st m).turn P).toNat

theorem turn_ok {K : Kd} (P : Par) (st : St K) : (st.turn P = -1 ∧ cnt (st.going P) P.nh = 0) ∨ ∃ h : Nat, st.turn P = h ∧ h < P.nh ∧ st.done h < P.jn h := by
  unfold St.turn
  split
  · rcases pickOf_ok (n := P.nh) (g := st.going P) (P.sched st.k) with h | ⟨i, h1, h2, h3⟩
    · exact .inl h
    · exact .inr ⟨i, h1, h2, by simpa [St.going] using h3⟩
  · rcases behindOf_ok (n := P.nh) (g := st.going P) st.last with h | ⟨i, h1, h2, h3⟩
    · exact .inl h
    · exact .inr ⟨i, h1, h2, by simpa [St.going] using h3⟩

/-- Once none goes on, nothing more is done. -/
theorem runSt_stuck {K : Kd} {P : Par} {st : St K} {m : Nat} (h : (runSt P st m).turn P < 0) : ∀ j, runSt P st (m + j) = runSt P st m
  | 0 => rfl
  | j + 1 => by
    have ih := runSt_stuck h j
    show (if (runSt P st (m + j)).turn P < 0 then runSt P st (m + j) else _) = _
    rw [ih, if_pos h]

structure Kd.Ok (K : Kd) : Prop where
  init : ∀ h j, j.wf → K.wf (K.init h j)
  next : ∀ s r, K.wf s → K.wf (K.next s r)

theorem kAct_ok : kAct.Ok := ⟨fun h j hj => hj, fun s r hs => hs⟩

/-! How the program's run lies in memory. -/
inductive Rl where
  | mem | words | run | tasks | going | answers | steps
  | trow (h : Nat) | task (h j : Nat) | arow (h : Nat)
  deriving DecidableEq

def ansCells (a : Nat → Ans) : Nat → List Value
  | 0 => []
  | k + 1 => ansCells a k ++ (a k).cells
theorem ansCells_length (a : Nat → Ans) (k : Nat) : (ansCells a k).length = k * 2 := by
  induction k with
  | zero => rfl
  | succ k ih => simp [ansCells, ih, Ans.cells]; omega
theorem ansCells_congr {a b : Nat → Ans} {k : Nat} (h : ∀ j, j < k → a j = b j) : ansCells a k = ansCells b k := by
  induction k with
  | zero => rfl
  | succ k ih => simp only [ansCells]; rw [ih (fun j hj => h j (by omega)), h k (by omega)]

def Stp.cells (s : Stp) : List Value := [.int .i64 s.hand, .int .i64 s.act, .int .i64 s.at_, .int .u64 s.had, .int .u64 s.put, .bool s.ok]
def stepCells (s : Nat → Stp) : Nat → List Value
  | 0 => []
  | k + 1 => stepCells s k ++ (s k).cells
theorem stepCells_length (s : Nat → Stp) (k : Nat) : (stepCells s k).length = k * 6 := by
  induction k with
  | zero => rfl
  | succ k ih => simp [stepCells, ih, Stp.cells]; omega
theorem stepCells_congr {a b : Nat → Stp} {k : Nat} (h : ∀ j, j < k → a j = b j) : stepCells a k = stepCells b k := by
  induction k with
  | zero => rfl
  | succ k ih => simp only [stepCells]; rw [ih (fun j hj => h j (by omega)), h k (by omega)]

/-- A slice of the run's own that grows by append: k elements of sz cells, the cells xs, in role r's block. -/
def Grows (blk : Rl → Nat) (c : Rl → Option Row) (r : Rl) (e : TypeId) (sz k : Nat) (xs : List Value) (v : Value) : Prop :=
  (k = 0 ∧ v = .slice none 0 0 ∧ c r = none) ∨
  ∃ cap F, v = .slice (some ⟨blk r, 0, none⟩) k cap ∧ c r = some ⟨e, cap * sz, F⟩ ∧ k ≤ cap ∧ cap ≤ maxLen ∧ Pre F xs

theorem Grows.owns {blk : Rl → Nat} {c : Rl → Option Row} {r : Rl} {e : TypeId} {sz k : Nat} {xs : List Value} {v : Value} {w : World} {base : Nat} (h : Grows blk c r e sz k xs v) (hh : Has w base blk c) (hl : xs.length = k * sz) :
    w.ownsRow base e sz v k xs := by
  rcases h with ⟨rfl, rfl, _⟩ | ⟨cap, F, rfl, hc, hk, hm, hp⟩
  · have : xs = [] := List.eq_nil_of_length_eq_zero (by simpa using hl)
    subst this
    exact World.ownsRow_nil w base e sz
  · exact owns_of_row (hh.row r _ hc) hp hl hk hm (hh.new r _ hc)

/-- What 'append' to such a slice leaves. -/
theorem Grows.appended {blk : Rl → Nat} {c : Rl → Option Row} {r : Rl} {e : TypeId} {sz k : Nat} {xs news : List Value} {v v' : Value} {w w0 w' : World} {base : Nat} (h : Grows blk c r e sz k xs v) (hh : Has w0 base blk c)
    (hb : base ≤ w0.heap.size) (h0 : Touch w0 w (fun _ => False)) (hown : w'.ownsRow base e sz v' (k + 1) (xs ++ news)) (hg : w.grownBy w' v.ownBlock) (hat : v'.ownBlock = v.ownBlock ∨ v'.ownBlock = some w.heap.size) :
    ∃ nb F cap, v' = .slice (some ⟨nb, 0, none⟩) (k + 1) cap ∧ Has w' base (upd blk r nb) (upd c r (some ⟨e, cap * sz, F⟩)) ∧ Grows (upd blk r nb) (upd c r (some ⟨e, cap * sz, F⟩)) r e sz (k + 1) (xs ++ news) v' ∧ base ≤ nb ∧ (nb = blk r ∧ (∃ x, c r = some x) ∨ w0.heap.size ≤ nb) := by
  obtain ⟨nb, cap, F, rfl, hbn, hrow, hpre, hkc, hcm⟩ := row_of_owns hown (by omega)
  have hh' := hh.touch h0 (fun _ _ _ => id)
  have hsz := h0.size
  have key : ∀ r' x', r' ≠ r → c r' = some x' → ¬ (some (blk r') = v.ownBlock) := by
    intro r' x' hne e' he
    rcases h with ⟨_, rfl, _⟩ | ⟨cap', F', rfl, hc, _⟩
    · simp [Value.ownBlock] at he
    · simp only [Value.ownBlock, Option.some.injEq] at he
      exact hh.ne e' hc hne he
  refine ⟨nb, F, cap, rfl, hh'.move r nb _ (Touch.of_grown hg) key ?_ hrow hbn, .inr ⟨cap, F, by simp, by simp, hkc, hcm, hpre⟩, hbn, ?_⟩
  · intro r' x' hne e' he
    rcases hat with hat | hat
    · simp only [Value.ownBlock] at hat
      exact key r' x' hne e' (by rw [he]; exact hat)
    · simp only [Value.ownBlock, Option.some.injEq] at hat
      have := hh'.lt e'
      omega
  · rcases hat with hat | hat
    · left
      rcases h with ⟨_, rfl, _⟩ | ⟨cap', F', rfl, hc, _⟩
      · simp [Value.ownBlock] at hat
      · simp only [Value.ownBlock, Option.some.injEq] at hat
        exact ⟨hat, _, hc⟩
    · right
      simp only [Value.ownBlock, Option.some.injEq] at hat
      omega

/-- The run under way in memory, as the state st tells it. -/
structure Good (K : Kd) (P : Par) (blk : Rl → Nat) (c : Rl → Option Row) (st : St K) : Prop where
  mem : c .mem = some ⟨147, 1, fun _ => .slice (some ⟨blk .words, 0, none⟩) P.n P.n⟩
  words : c .words = some ⟨125, P.n, fun i => .int .u64 (st.f i)⟩
  most : P.n ≤ 4096
  word : ∀ i, i < P.n → 0 ≤ st.f i ∧ st.f i ≤ 18446744073709551615
  run : ∃ sv RF, c .run = some ⟨111, 5, RF⟩ ∧ RF 0 = .slice (some ⟨blk .tasks, 0, none⟩) P.nh P.nh ∧ RF 1 = .slice (some ⟨blk .going, 0, none⟩) P.nh P.nh ∧ RF 2 = .int .i64 st.last ∧ RF 3 = sv ∧
    RF 4 = .slice (some ⟨blk .answers, 0, none⟩) P.nh P.nh ∧ Grows blk c .steps 46 6 st.k (stepCells st.s st.k) sv
  tasks : ∃ T, c .tasks = some ⟨129, P.nh, T⟩ ∧ ∀ h, h < P.nh → (st.done h < P.jn h → ∃ cap, P.jn h - st.done h ≤ cap ∧ T h = .slice (some ⟨blk (.trow h), st.done h, none⟩) (P.jn h - st.done h) cap) ∧ (st.done h = P.jn h → ∃ ao cap, T h = .slice ao 0 cap)
  going : ∃ G, c .going = some ⟨4, P.nh, G⟩ ∧ ∀ h, h < P.nh → G h = .bool (st.going P h)
  answers : ∃ A, c .answers = some ⟨47, P.nh, A⟩ ∧ ∀ h, h < P.nh → Grows blk c (.arow h) 49 2 (st.done h) (ansCells (st.ans h) (st.done h)) (A h)
  trow : ∀ h, h < P.nh → 0 < P.jn h → ∃ cap F, c (.trow h) = some ⟨83, cap, F⟩ ∧ P.jn h ≤ cap ∧ ∀ j, j < P.jn h → F j = .iface K.tid (.pointer (some ⟨blk (.task h j), 0, none⟩))
  task : ∀ h, h < P.nh → ∀ j, st.done h ≤ j → j < P.jn h → c (.task h j) = some ⟨K.t, K.n, K.cell (if j = st.done h then st.cur h else K.init h (P.jb h j))⟩
  doneLe : ∀ h, h < P.nh → st.done h ≤ P.jn h
  jobs : ∀ h, h < P.nh → P.jn h ≤ 256
  hands : P.nh ≤ 8
  wf : ∀ h, h < P.nh → st.done h < P.jn h → K.wf (st.cur h)
  jwf : ∀ h, h < P.nh → ∀ j, j < P.jn h → (P.jb h j).wf
  lastOk : -1 ≤ st.last ∧ st.last < P.nh
end Go.Proofs.Ytdbiphibdaghkaa
