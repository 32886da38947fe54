/-
  Lemmas: RGood.
-/
import Derived.Test.YtppgbndoijppnaaGreatTp08
import Derived.Test.YtppgbndoijppnaaGreatTp09
import Derived.Test.YtppgbndoijppnaaGreatTp05
import Derived.Deep.RegionHeld
import Derived.BigRegion
namespace Go.Proofs.YtppgbndoijppnaaGreat
set_option maxHeartbeats 8000000
open Go.RowKit
set_option linter.unusedVariables false
set_option linter.unusedSimpArgs false
set_option maxRecDepth 20000
section
open Beg
def IsTk (cs : List Value) : Prop := cs.length = 28 ∧ ∀ v ∈ cs, v.oneCell' = true
structure RGood (K : Kd) (rep : List Value → K.σ → Prop) (P : Par) (blk : Rl → Nat) (c : Rl → Option Row) (st : St K) (un : Nat → Bool) (capw : Nat) (sv : Value) : Prop where
 words : ∃ F, c .words = some ⟨50, capw, F⟩ ∧ P.n ≤ capw ∧ capw ≤ maxLen ∧ ∀ i, i < P.n → F i = .int .u64 (st.f i)
 word : ∀ i, i < P.n → 0 ≤ st.f i ∧ st.f i ≤ 18446744073709551615
 tasks : ∃ T, c .tasks = some ⟨59, P.nh * 28, T⟩ ∧ ∀ h, h < P.nh → un h = true → ∃ cs, IsTk cs ∧ (∀ i u, cs[i]? = some u → T (h * 28 + i) = u) ∧ rep cs (st.cur h)
 under : ∃ U, c .going = some ⟨4, P.nh, U⟩ ∧ ∀ h, h < P.nh → U h = .bool (un h)
 begun : ∃ Bf, c .run = some ⟨3, P.nh, Bf⟩ ∧ ∀ h, h < P.nh → Bf h = .int .i64 ((st.done h + if un h = true then 1 else 0 : Nat) : Int)
 kept : ∃ Kf, c .mem = some ⟨57, P.nh * 4, Kf⟩ ∧ ∀ i, i < P.nh * 4 → Kf i = .int .u64 0
 answers : ∃ A, c .answers = some ⟨76, P.nh, A⟩ ∧ ∀ h, h < P.nh → Grows blk c (.arow h) 56 2 (st.done h) (ansCells (st.ans h) (st.done h)) (A h)
 steps : Grows blk c .steps 69 6 st.k (stepCells st.s st.k) sv
 doneLe : ∀ h, h < P.nh → st.done h ≤ P.jn h
 unLt : ∀ h, h < P.nh → un h = true → st.done h < P.jn h
 fresh : ∀ h, h < P.nh → un h = false → st.done h < P.jn h → st.cur h = K.init h (P.jb h (st.done h))
 jobs : ∀ h, h < P.nh → P.jn h ≤ 256
 hands : P.nh ≤ 8
 jwf : ∀ h, h < P.nh → ∀ j, j < P.jn h → (P.jb h j).wf
 lastOk : -1 ≤ st.last ∧ st.last < P.nh
def rv (sh : Shp) (P : Par) (blk : Rl → Nat) (capw : Nat) (vh sv : Value) (la : Int) : Value :=
 .agg (runCells sh (.slice (some ⟨blk .words, 0, none⟩) P.n capw) vh (sl (blk .tasks) P.nh) (sl (blk .going) P.nh) (sl (blk .run) P.nh) (sl (blk .mem) P.nh) sv (sl (blk .answers) P.nh) la).toArray
variable {K : Kd} {rep : List Value → K.σ → Prop} {P : Par} {blk : Rl → Nat} {c : Rl → Option Row} {st : St K} {un : Nat → Bool} {capw : Nat} {sv : Value} {w : World} {base B : Nat} {aoh aos : Option Addr} {caph caps : Nat} {sh : Shp} {la : Int}
end
end Go.Proofs.YtppgbndoijppnaaGreat
