/-
  Lemmas: RoomN.
-/
import Derived.Test.YtppgbndoijppnaaGreatTp29
import Derived.Test.YtppgbndoijppnaaGreatTp12
import Derived.Test.YtppgbndoijppnaaGreatTp23
namespace Go.Proofs.YtppgbndoijppnaaGreat
set_option maxHeartbeats 8000000
open Go.RowKit
set_option linter.unusedVariables false
set_option linter.unusedSimpArgs false
set_option maxRecDepth 20000
section
namespace Rom
open Hp
def base0 (sh : Shp) : Int := 8 + sh.c + sh.c * sh.d + sh.e
def all0 (sh : Shp) : Int := base0 sh + sh.a * (3 + sh.b)
def At (sh : Shp) (p : Int) : Prop := p = 1 ∨ p = 4 ∨ p = 5 ∨ (base0 sh ≤ p ∧ p < all0 sh)
def OkT (sh : Shp) (x : Stp) : Prop := At sh x.at_ ∧ (x.at_ = 1 → x.act = 5 → x.ok = true → x.put / 4294967296 = (x.had / 4294967296 + 1) % 4294967296)
def wfSt (sh : Shp) (P : Par) (st : St (kRom false sh)) : Prop := (∀ i, i < P.n → 0 ≤ st.f i ∧ st.f i ≤ 18446744073709551615) ∧ ∀ h, h < P.nh → st.done h < P.jn h → (st.cur h).j = P.jb h (st.done h) ∧ Wf sh (st.cur h)
end Rom
end
end Go.Proofs.YtppgbndoijppnaaGreat
