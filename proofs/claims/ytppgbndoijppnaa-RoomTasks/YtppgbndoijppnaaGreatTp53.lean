/-
  Lemmas: LViews, L17Play, RoomW.
-/
import Derived.Test.YtppgbndoijppnaaGreatTp51
import Derived.Test.YtppgbndoijppnaaGreatTp48
import Derived.Test.YtppgbndoijppnaaGreatTp52
import Derived.Test.YtppgbndoijppnaaGreatTp50
import Derived.Test.YtppgbndoijppnaaGreatTp44
namespace Go.Proofs.YtppgbndoijppnaaGreat
set_option maxHeartbeats 8000000
open Go.RowKit
set_option linter.unusedVariables false
set_option linter.unusedSimpArgs false
set_option linter.unnecessarySimpa false
set_option maxRecDepth 20000
section
def RLAll (K : Kd) (rep : List Value → K.σ → Prop) (want : Nat) (w : World) (P : Par) (f : Nat → Int) (most : Int) (e : Ending) (w' : World) : Prop :=
 Below w.heap.size w w' ∧ ((∃ er, LErr K want P most er ∧ e = .returned (errVal er)) ∨ (P.n = want ∧ Fine P most ∧ AllOk K P ∧ ∃ v, e = .returned v ∧ RTold K rep P (runSt P (st0 K P f) most.toNat) w.heap.size v w'))
theorem rtold_touch {K : Kd} {rep : List Value → K.σ → Prop} {P : Par} {st : St K} {base base' b : Nat} {v : Value} {w w' : World} (h : RTold K rep P st base v w) (ht : Touch w w' (fun k => k = b)) (hb : b < base) (hbb : base' ≤ base) : RTold K rep P st base' v w' := by
 obtain ⟨blk, c, un, capw, sv, rfl, H, G⟩ := h
 exact ⟨blk, c, un, capw, sv, rfl, ((H.touch ht (fun r x e he => by have := H.new r x e; omega))).base_le hbb, G⟩
theorem RLAll.up {K : Kd} {rep : List Value → K.σ → Prop} {want : Nat} {w0 w w' w2 : World} {P : Par} {f : Nat → Int} {most : Int} {e : Ending} {b : Nat} (h : RLAll K rep want w P f most e w') (h0 : Below w0.heap.size w0 w) (ht : Touch w' w2 (fun k => k = b)) (hb0 : w0.heap.size ≤ b) (hb : b < w.heap.size) : RLAll K rep want w0 P f most e w2 := by
 obtain ⟨hB, hc⟩ := h
 refine ⟨(h0.trans (hB.mono h0.size)).trans (ht.below (fun k hk => by omega) (Nat.le_trans h0.size hB.size)), ?_⟩
 rcases hc with h | ⟨h1, h2, h3, v, he, hT⟩
 ·exact .inl h
 ·exact .inr ⟨h1, h2, h3, v, he, rtold_touch hT ht hb h0.size⟩
variable {K : Kd} {rep : List Value → K.σ → Prop} {sh : Shp} {want : Nat} {w : World} {ao aoh aos : Option Addr} {cap caph caps : Nat} {P : Par} {f : Nat → Int} {most : Int}
end
section
namespace L17
variable {K : Kd} {rep : List Value → K.σ → Prop} {sh : Shp} {want : Nat} {w : World} {ao aoh aos : Option Addr} {cap caph caps : Nat} {P : Par} {f : Nat → Int} {most : Int}
end L17
end
section
namespace Rom
open Hp
theorem rsize_ok {sh : Shp} (h : Shape.R5 sh.a sh.b sh.c sh.d sh.e) (w : World) : Calls Tryz.prog 12 #[sh.val] w fun e w' => e = .returned (.tuple #[.int .i64 (sizeOf sh), .int .i64 0]) ∧ w.grownBy w' none := by
 obtain ⟨o, s, hh, r, k, e0, e1, e2, e3, e4, H⟩ := natR5 h
 rw [size_eq e0 e1 e2 e3 e4]
 obtain ⟨s0, s1, s2, s3, s4, s5⟩ := sh
 simp only at e0 e1 e2 e3 e4
 subst e0 e1 e2 e3 e4
 refine (Shape.rsize_ok (s5 := s5) H w).mono ?_
 rintro e w' ⟨rfl, hb⟩
 exact ⟨rfl, below_grown hb none⟩
theorem rsize_bad {sh : Shp} (h : ¬ Shape.R5 sh.a sh.b sh.c sh.d sh.e) (w : World) : Calls Tryz.prog 12 #[sh.val] w fun e w' => e = .returned (.tuple #[.int .i64 0, .int .i64 120]) ∧ w.grownBy w' none := by
 refine (Shape.rsize_bad h w).mono ?_
 rintro e w' ⟨rfl, hb⟩
 exact ⟨rfl, below_grown hb none⟩
instance (a b c d e : Int) : Decidable (Shape.R5 a b c d e) := by unfold Shape.R5; infer_instance
variable {w : World} {ao aoh aos : Option Addr} {cap caph caps : Nat} {P : Par} {f : Nat → Int} {most : Int} {sh : Shp}
end Rom
end
end Go.Proofs.YtppgbndoijppnaaGreat
