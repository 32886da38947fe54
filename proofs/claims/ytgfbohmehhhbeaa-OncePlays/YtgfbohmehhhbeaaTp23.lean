/-
  Lemmas: LayM.
-/
import Derived.Test.YtgfbohmehhhbeaaTp05
import Derived.Test.YtgfbohmehhhbeaaTp06
/-
  A layer's maker: the closure over its Task and a shape; what makeTask does with it.
-/
namespace Go.Proofs.Ytgfbohmehhhbeaa
open Go.RowKit
set_option linter.unusedVariables false
set_option linter.unusedSimpArgs false
set_option maxRecDepth 20000

/-- A layer's maker: the closure over its Task and a shape in boxes of their own. -/
def mkOf (tb sb : Nat) : Value := .func (.func 79) #[] #[.pointer (some ⟨tb, 0, none⟩), .pointer (some ⟨sb, 0, none⟩)]
theorem mkOf_nil (tb sb : Nat) (w : World) : (binOp .eql 116 (.func (.func 79) #[] #[.pointer (some ⟨tb, 0, none⟩), .pointer (some ⟨sb, 0, none⟩)]) .nilFunc).run Try.prog w = .ok (.bool false) w := by kernel_rfl

/-- The boxes of a maker. -/
structure Boxes (w : World) (tb sb : Nat) (fid : FuncId) (sh : Shp) : Prop where
  t : w.cell? ⟨tb, 0, none⟩ = some (.func (.func fid) #[] #[])
  a : w.cell? ⟨sb, 0, none⟩ = some (.int .i64 sh.a)
  b : w.cell? ⟨sb, 1, none⟩ = some (.int .i64 sh.b)
  c : w.cell? ⟨sb, 2, none⟩ = some (.int .i64 sh.c)
  d : w.cell? ⟨sb, 3, none⟩ = some (.int .i64 sh.d)
  e : w.cell? ⟨sb, 4, none⟩ = some (.int .i64 sh.e)
  f : w.cell? ⟨sb, 5, none⟩ = some (.int .i64 sh.f)
theorem Boxes.below {w w' : World} {tb sb : Nat} {fid : FuncId} {sh : Shp} {B : Nat} (h : Boxes w tb sb fid sh) (hb : Below B w w') (h1 : tb < B) (h2 : sb < B) : Boxes w' tb sb fid sh :=
  ⟨(hb.cell (p := ⟨tb, 0, none⟩) h1).trans h.t, (hb.cell (p := ⟨sb, 0, none⟩) h2).trans h.a, (hb.cell (p := ⟨sb, 1, none⟩) h2).trans h.b, (hb.cell (p := ⟨sb, 2, none⟩) h2).trans h.c, (hb.cell (p := ⟨sb, 3, none⟩) h2).trans h.d, (hb.cell (p := ⟨sb, 4, none⟩) h2).trans h.e, (hb.cell (p := ⟨sb, 5, none⟩) h2).trans h.f⟩

variable {w : World} {tb sb : Nat} {fid : FuncId} {sh : Shp} {hand : Int} {j : Jb} {vt : Value} {er : Int} {Q : World → World → Value → Prop}

set_option maxHeartbeats 4000000 in
theorem closure_any (hcf : ∀ (args : Array Value) (w : World), (callFunc fid args).run Try.prog w = .ok (.enter fid args) w) (H : Boxes w tb sb fid sh) {R : Value → World → Prop}
    (hT : Calls Try.prog fid #[sh.val, .int .i64 hand, j.val] (w.alloc (.cells #[.int .i64 j.kind, .int .i64 j.a, .int .i64 j.b, .int .i64 j.c, .int .u64 j.h] 42)) fun e w' => ∃ v er, e = .returned (.tuple #[v, .int .i64 er]) ∧ R (.tuple #[v, .int .i64 er]) w') :
    Calls Try.prog 79 #[.int .i64 hand, j.val, .pointer (some ⟨tb, 0, none⟩), .pointer (some ⟨sb, 0, none⟩)] w fun e w' => ∃ v er, e = .returned (.tuple #[v, .int .i64 er]) ∧ R (.tuple #[v, .int .i64 er]) w' := by
  obtain ⟨kind, a, b, c, hh⟩ := j
  obtain ⟨s0, s1, s2, s3, s4, s5⟩ := sh
  obtain ⟨ht, r0, r1, r2, r3, r4, r5⟩ := H
  simp only at r0 r1 r2 r3 r4 r5
  have lt := World.block_lt_of_cell? _ _ ht
  have ls := World.block_lt_of_cell? _ _ r0
  simp only at lt ls
  simp only [Shp.val, Jb.val] at hT ⊢
  have HT := hide hT
  clear hT
  go_enter Try.func79, Try.ntmps79
  go_wp2_with fail
  refine HT.out.mono ?_
  rintro e w1 ⟨v, er, rfl, hR⟩
  have HR := hide hR
  clear hR
  go_wp2_with fail
  go_ret2
  exact ⟨v, er, rfl, HR.out⟩

set_option maxHeartbeats 4000000 in
theorem maker_ok (hcf : ∀ (args : Array Value) (w : World), (callFunc fid args).run Try.prog w = .ok (.enter fid args) w) (H : Boxes w tb sb fid sh) {tid : TypeId} {t : TypeId} {n : Nat} {C : Nat → Value}
    (hT : ∀ w1 : World, Calls Try.prog fid #[sh.val, .int .i64 hand, j.val] w1 fun e w' => ∃ b, e = .returned (.tuple #[.iface tid (.pointer (some ⟨b, 0, none⟩)), .int .i64 0]) ∧ w'.rowIs b t n C ∧ w1.heap.size ≤ b ∧ w1.grownBy w' none) :
    Calls Try.prog 89 #[mkOf tb sb, .int .i64 hand, j.val] w fun e w' => ∃ b, e = .returned (.tuple #[.iface tid (.pointer (some ⟨b, 0, none⟩)), .int .i64 0]) ∧ w'.rowIs b t n C ∧ w.heap.size ≤ b ∧ w.grownBy w' none := by
  obtain ⟨kind, a, b, c, hh⟩ := j
  have lt := World.block_lt_of_cell? _ _ H.t
  have ls := World.block_lt_of_cell? _ _ H.a
  have hn := mkOf_nil tb sb
  have hi := iface_nil tid
  have H1 : Boxes (w.alloc (.cells #[.int .i64 kind, .int .i64 a, .int .i64 b, .int .i64 c, .int .u64 hh] 42)) tb sb fid sh := H.below ((Below.refl w.heap.size w).alloc (Nat.le_refl _) _) lt ls
  have CL := hide (closure_any (R := fun v w' => ∃ b, v = .tuple #[.iface tid (.pointer (some ⟨b, 0, none⟩)), .int .i64 0] ∧ w'.rowIs b t n C ∧ w.heap.size ≤ b ∧ w.grownBy w' none) hcf H1 ((hT _).mono (by
    rintro e w' ⟨b, rfl, h1, h2, h3⟩
    simp only [World.size_alloc] at h2
    exact ⟨_, _, rfl, b, rfl, h1, by omega, grown_trans (grown_alloc (grown_alloc (grown_refl _ _) _) _) h3⟩)))
  unfold mkOf
  simp only [Jb.val] at CL ⊢
  clear H H1 hT
  go_enter Try.func89, Try.ntmps89
  go_wp2_with fail
  refine CL.out.mono ?_
  rintro e w1 ⟨v, er, rfl, bb, he, hr, hb, hg⟩
  obtain ⟨rfl, rfl⟩ : v = .iface tid (.pointer (some ⟨bb, 0, none⟩)) ∧ er = 0 := by simpa using he
  have HR := hide (And.intro hr (And.intro hb hg))
  clear he hr hb hg
  go_wp2_with fail
  go_ret2
  exact ⟨bb, rfl, HR.out.1, HR.out.2.1, HR.out.2.2⟩

set_option maxHeartbeats 4000000 in
theorem maker_err (hcf : ∀ (args : Array Value) (w : World), (callFunc fid args).run Try.prog w = .ok (.enter fid args) w) (H : Boxes w tb sb fid sh) (he : ¬ er = 0)
    (hT : ∀ w1 : World, Calls Try.prog fid #[sh.val, .int .i64 hand, j.val] w1 fun e w' => e = .returned (.tuple #[.nilIface, .int .i64 er]) ∧ w1.grownBy w' none) :
    Calls Try.prog 89 #[mkOf tb sb, .int .i64 hand, j.val] w fun e w' => e = .returned (.tuple #[.nilIface, .int .i64 er]) ∧ w.grownBy w' none := by
  obtain ⟨kind, a, b, c, hh⟩ := j
  have lt := World.block_lt_of_cell? _ _ H.t
  have ls := World.block_lt_of_cell? _ _ H.a
  have hn := mkOf_nil tb sb
  have H1 : Boxes (w.alloc (.cells #[.int .i64 kind, .int .i64 a, .int .i64 b, .int .i64 c, .int .u64 hh] 42)) tb sb fid sh := H.below ((Below.refl w.heap.size w).alloc (Nat.le_refl _) _) lt ls
  have CL := hide (closure_any (R := fun v w' => v = .tuple #[.nilIface, .int .i64 er] ∧ w.grownBy w' none) hcf H1 ((hT _).mono (by
    rintro e w' ⟨rfl, h3⟩
    exact ⟨_, _, rfl, rfl, grown_trans (grown_alloc (grown_alloc (grown_refl _ _) _) _) h3⟩)))
  unfold mkOf
  simp only [Jb.val] at CL ⊢
  clear H H1 hT
  go_enter Try.func89, Try.ntmps89
  go_wp2_with fail
  refine CL.out.mono ?_
  rintro e w1 ⟨v, er', rfl, hv, hg⟩
  obtain ⟨rfl, rfl⟩ : v = .nilIface ∧ er' = er := by simpa using hv
  have HR := hide hg
  clear hv hg
  go_wp2_with fail
  go_ret2
  exact ⟨rfl, HR.out⟩
set_option maxHeartbeats 2000000 in
theorem room_ok (w : World) (sh : Shp) (h1 : 1 ≤ sh.f) (h2 : sh.f ≤ 64) : Calls Try.prog 40 #[sh.val, .int .i64 64] w fun e w' => e = .returned (.int .i64 0) ∧ w.grownBy w' none := by
  obtain ⟨s0, s1, s2, s3, s4, s5⟩ := sh
  simp only [Shp.val] at h1 h2 ⊢
  have g1 : ¬ s5 < 1 := by omega
  have g2 : ¬ 64 < s5 := by omega
  go_enter Try.func40, Try.ntmps40
  go_wp2
  go_ret
  exact ⟨rfl, grown_alloc (grown_refl _ _) _⟩
set_option maxHeartbeats 2000000 in
theorem room_bad (w : World) (sh : Shp) (h : sh.f < 1 ∨ 64 < sh.f) : Calls Try.prog 40 #[sh.val, .int .i64 64] w fun e w' => e = .returned (.int .i64 120) ∧ w.grownBy w' none := by
  obtain ⟨s0, s1, s2, s3, s4, s5⟩ := sh
  simp only [Shp.val] at h ⊢
  by_cases g1 : s5 < 1
  · go_enter Try.func40, Try.ntmps40
    go_wp2
    go_ret
    exact ⟨rfl, grown_alloc (grown_refl _ _) _⟩
  · have g2 : 64 < s5 := by omega
    go_enter Try.func40, Try.ntmps40
    go_wp2
    go_ret
    exact ⟨rfl, grown_alloc (grown_refl _ _) _⟩

end Go.Proofs.Ytgfbohmehhhbeaa
