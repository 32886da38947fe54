/-
  Lemmas: HeapC.
-/
import Derived.Test.YtidihnnmdmlgfaaGreatTp05
import Derived.Test.YtidihnnmdmlgfaaGreatTp22
namespace Go.Proofs.YtidihnnmdmlgfaaGreat
set_option maxHeartbeats 8000000
open Go.RowKit
set_option linter.unusedVariables false
set_option linter.unusedSimpArgs false
set_option maxRecDepth 20000
section
namespace Hp
def idx (x : Int) : Int := x % 4294967296
def bmp (t i : Int) : Int := hd i (t / 4294967296 + 1)
theorem idx_lo (x : Int) : 0 ≤ idx x := by unfold idx; omega
theorem idx_hi (x : Int) : idx x < 4294967296 := by unfold idx; omega
theorem bmp_lo (t i : Int) : 0 ≤ bmp t i := hd_lo _ _
theorem bmp_hi (t i : Int) : bmp t i ≤ 18446744073709551615 := by have := hd_hi i (t / 4294967296 + 1); unfold bmp; omega
def there (sh : Shp) (i : Int) : Prop := 1 ≤ i ∧ i ≤ sh.a
instance (sh : Shp) (i : Int) : Decidable (there sh i) := by unfold there; infer_instance
def headAt (sh : Shp) (i : Int) : Int := if there sh i then 8 + sh.c + sh.c * sh.d + sh.e + (i - 1) * (3 + sh.b) else -1
def linkAt (sh : Shp) (i : Int) : Int := if there sh i then 8 + sh.c + sh.c * sh.d + sh.e + (i - 1) * (3 + sh.b) + 1 else -1
def slotIn (sh : Shp) (i s : Int) : Prop := there sh i ∧ 0 ≤ s ∧ s < sh.b
instance (sh : Shp) (i s : Int) : Decidable (slotIn sh i s) := by unfold slotIn; infer_instance
def slotAt (sh : Shp) (i s : Int) : Int := if slotIn sh i s then 8 + sh.c + sh.c * sh.d + sh.e + (i - 1) * (3 + sh.b) + 3 + s else -1
theorem had_bounds {n : Nat} {f : Nat → Int} (hf : ∀ i, i < n → 0 ≤ f i ∧ f i ≤ 18446744073709551615) (q : Stp) : 0 ≤ (stepOf n f q).had ∧ (stepOf n f q).had ≤ 18446744073709551615 := by
  unfold stepOf
  split
  · rename_i h
    exact hf _ (by omega)
  · exact ⟨Int.le_refl 0, by show (0 : Int) ≤ 18446744073709551615; decide⟩
end Hp
end
end Go.Proofs.YtidihnnmdmlgfaaGreat
