/-
  Hue: Strong and Weak of views that a step has turned
-/
import Derived.Test.YtnodkeoikamonabHuR
namespace Go.Proofs.Ytnodkeoikamonab
open Go.RowKit
set_option linter.unusedVariables false
set_option linter.unusedSimpArgs false
set_option linter.unnecessarySimpa false
set_option maxRecDepth 20000
namespace Hu
open Gr
theorem nsl_set {os : List Ob} {p : Nat} {o o' : Ob} (hp : os[p]? = some o) (hl : o'.sl.length = o.sl.length) : ∀ k, nsl (os.set p o') k = nsl os k
  | 0 => rfl
  | k + 1 => by
    have hpl := (List.getElem?_eq_some_iff.1 hp).1
    simp only [nsl, nsl_set hp hl k, sls_set hpl]
    by_cases e : k = p
    · subst e; rw [if_pos rfl, sls_at hp, hl]
    · rw [if_neg e]
theorem bd_set {os : List Ob} {p : Nat} {o o' : Ob} (h : Bd os) (hp : os[p]? = some o) (hl : o'.sl.length = o.sl.length) (hw : Wd o'.sl) (hg : o'.ge = o.ge) : Bd (os.set p o') := by
  have hm := List.mem_of_getElem? hp
  refine ⟨by simpa using h.no, ?_, ?_, ?_⟩
  · intro x hx
    rcases List.mem_or_eq_of_mem_set hx with hx | rfl
    · exact h.ns x hx
    · rw [hl]; exact h.ns o hm
  · intro x hx
    rcases List.mem_or_eq_of_mem_set hx with hx | rfl
    · exact h.sl x hx
    · exact hw
  · intro x hx
    rcases List.mem_or_eq_of_mem_set hx with hx | rfl
    · exact h.ge x hx
    · rw [hg]; exact h.ge o hm
theorem wd_set {l : List Int} (h : Wd l) {s : Nat} {x : Int} (hx : 0 ≤ x ∧ x < 18446744073709551616) : Wd (l.set s x) := by
  intro u hu
  rcases List.mem_or_eq_of_mem_set hu with hu | rfl
  · exact h u hu
  · exact hx
/-- What a law's answer is behind a step: OK, where z. -/
def Sk (w w' : World) (e : Ending) (z : Prop) : Prop := ∃ (r e' : Int), e = .returned (.tuple #[.int .i64 r, .int .i64 e']) ∧ (z → e' = 0) ∧ Below w.heap.size w w'
def Sk0 (w w' : World) (e : Ending) (z : Prop) : Prop := ∃ (r e' : Int), e = .returned (.tuple #[.int .i64 r, .int .i64 e']) ∧ (e' = 0 → z) ∧ Below w.heap.size w w'
section
variable {w wx : World} {c : Vc} {a : Av} {gl bs gl' bs' : List Int} {ba : Option Addr} {os' : List Ob} {la ga' ma : Option Addr} {cp cg' mc : Nat}
theorem hyS (h0 : H0 w c a gl ba bs) (hs : Sm c gl bs) (hl : os'.length = c.os.length) (hB : Bd os') (hn : nsl os' os'.length = nsl c.os c.os.length) (h1 : Sob wx la os') (h2 : Ncp wx la os') (h3 : la = none → cp = 0) (hg : SeesN wx ga' gl') (hgl : gl'.length ≤ 17592186044416) (hm : SeesN wx ma bs') (hml : bs'.length ≤ 17592186044416) : Hy wx ⟨c.rs, os', c.qu⟩ { a with oa := la, cb := cp, ga := ga', ng := gl'.length, cg := cg' } gl' ma bs' :=
  ⟨h1, hB, h2, by show nsl os' os'.length ≤ _; rw [hn]; have := hs.a; omega, h3, by show os'.length ≤ _; rw [hl]; exact h0.no, rfl, hg, hm, hgl, hml⟩
theorem st_keep (hy : Hy wx ⟨c.rs, os', c.qu⟩ { a with oa := la, cb := cp, ga := ga', ng := gl'.length, cg := cg' } gl' ma bs') (K : Kp c.os os' (gl ++ bs) (gl' ++ bs')) : Calls Try.prog 15 #[vl ⟨c.rs, os', c.qu⟩ { a with oa := la, cb := cp, ga := ga', ng := gl'.length, cg := cg' }, .slice ma bs'.length mc] wx fun e w' => Sk wx w' e (fs (stp c.os (gl ++ bs)) c.os.length = 0) := by
  refine (strong_ok hy).mono ?_
  rintro e w' ⟨rfl, hb⟩
  exact ⟨_, _, rfl, fun h => er0 (K.strong h), hb⟩
theorem wk_keep (hy : Hy wx ⟨c.rs, os', c.qu⟩ { a with oa := la, cb := cp, ga := ga', ng := gl'.length, cg := cg' } gl' ma bs') (K : Kp c.os os' (gl ++ bs) (gl' ++ bs')) : Calls Try.prog 16 #[vl ⟨c.rs, os', c.qu⟩ { a with oa := la, cb := cp, ga := ga', ng := gl'.length, cg := cg' }, .slice ma bs'.length mc] wx fun e w' => Sk wx w' e (fs (wkp c.os (gl ++ bs)) c.os.length = 0) := by
  refine (weak_ok hy).mono ?_
  rintro e w' ⟨rfl, hb⟩
  exact ⟨_, _, rfl, fun h => er0 (K.weak h), hb⟩
theorem st_old (hy : Hy wx c a gl ba bs) : Calls Try.prog 15 #[vl c a, .slice ba bs.length mc] wx fun e w' => Sk0 wx w' e (fs (stp c.os (gl ++ bs)) c.os.length = 0) := by
  refine (strong_ok hy).mono ?_
  rintro e w' ⟨rfl, hb⟩
  exact ⟨_, _, rfl, fun h => er_iff.1 h, hb⟩
theorem wk_old (hy : Hy wx c a gl ba bs) : Calls Try.prog 16 #[vl c a, .slice ba bs.length mc] wx fun e w' => Sk0 wx w' e (fs (wkp c.os (gl ++ bs)) c.os.length = 0) := by
  refine (weak_ok hy).mono ?_
  rintro e w' ⟨rfl, hb⟩
  exact ⟨_, _, rfl, fun h => er_iff.1 h, hb⟩
end
theorem wo_mem {l : List Int} {x y : Int} : y ∈ wo l x ↔ y ∈ l ∧ y ≠ x := by simp [wo]
theorem wo_len (l : List Int) (x : Int) : (wo l x).length ≤ l.length := List.length_filter_le _ _
/-- The number that is meant. -/
def wq (wi : Int) : Int := if wi < 0 then -(wi + 1) else wi
end Hu
end Go.Proofs.Ytnodkeoikamonab
