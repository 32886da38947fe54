/-
  Lemmas: ListN, LayM.
-/
import Derived.Test.YtidihnnmdmlgfaaGreatTq42
import Derived.Laws.Build
import Derived.Test.YtidihnnmdmlgfaaGreatTq05
import Derived.Test.YtidihnnmdmlgfaaGreatTq06
namespace Go.Proofs.YtidihnnmdmlgfaaGreat
set_option maxHeartbeats 8000000
open Go.RowKit
set_option linter.unusedVariables false
set_option linter.unusedSimpArgs false
set_option maxRecDepth 20000
section
namespace Hp
theorem beginAlong_any {w : World} {b T nc : Nat} {C : Nat → Value} {hand : Int} {tid : TypeId} {p : Addr} {fb : FuncId} {first caps : Array Value} (h : w.rowIs b T nc C) (hn : 3 < nc) :
    Calls Tryz.prog 39 #[.pointer (some ⟨b, 0, none⟩), .int .i64 hand, .iface tid (.pointer (some p)), .func (.func fb) first caps] w fun e w' => e = .returned (.tuple #[]) ∧
      w'.rowIs b T nc (fun k => if k = 1 then .func (.func 63) #[.pointer (some ⟨b, 0, none⟩)] #[] else if k = 3 then .func (.func fb) first caps else if k = 2 then .iface tid (.pointer (some p)) else if k = 0 then .int .i64 hand else C k) ∧ Touch w w' (fun k => k = b) := by
  have c0 := h.cell (i := 0) (by omega)
  have f0 := h.frozen 0
  have hl := h.lt
  have R0 := hide (h.set 0 (.int .i64 hand))
  have T0 := hide ((Touch.refl w (fun k => k = b)).setCell ⟨b, 0, none⟩ (.inl rfl) (.int .i64 hand))
  clear h
  go_enter Tryz.func39, Tryz.ntmps39
  go_wp2_with fail
  refine (goAlong_any R0.out hn).mono ?_
  rintro e w1 ⟨rfl, r1, t1⟩
  have R1 := hide r1
  have T1 := hide t1
  clear r1 t1
  go_wp2_with fail
  go_end0
  exact ⟨rfl, R1.out, T0.out.trans T1.out⟩
theorem join_rows {KP : Kd} {w' : World} {b : Nat} {B2 : Nat → Nat} {R2 : Nat → Option Row} {x1 : Row} {pj : Jb} {ps : KP.σ} (hr : w'.rowIs b x1.t x1.n x1.f) (hp : KP.Lies w' pj B2 R2 ps) (hn : ∀ i x, R2 i = some x → B2 i ≠ b) :
    (∀ i x, join 0 (fun _ => some x1) R2 i = some x → w'.rowIs (join 0 (fun _ => b) B2 i) x.t x.n x.f) ∧ (∀ i i' x x', join 0 (fun _ => some x1) R2 i = some x → join 0 (fun _ => some x1) R2 i' = some x' → join 0 (fun _ => b) B2 i = join 0 (fun _ => b) B2 i' → i = i') := by
  have j1 : ∀ {α : Type} (f g : Nat → α) (i : Nat), join 0 f g (i + 1) = g i := fun f g i => by unfold join; rw [if_neg (by omega)]; congr 1
  have j0 : ∀ {α : Type} (f g : Nat → α), join 0 f g 0 = f 0 := fun f g => rfl
  refine ⟨fun i x e => ?_, fun i i' x x' e e' he => ?_⟩
  · cases i with
    | zero => cases e; exact hr
    | succ i => rw [j1] at e ⊢; exact hp.row i x e
  · cases i with
    | zero =>
      cases i' with
      | zero => rfl
      | succ i' =>
        rw [j1] at e' he
        exact absurd he.symm (hn i' x' e')
    | succ i =>
      cases i' with
      | zero =>
        rw [j1] at e he
        exact absurd he (hn i x e)
      | succ i' =>
        rw [j1] at e e' he
        rw [j1] at he
        rw [hp.inj i i' x x' e e' he]
theorem one_rows {w' : World} {b : Nat} {x1 : Row} (hr : w'.rowIs b x1.t x1.n x1.f) :
    (∀ i x, (fun i => if i = 0 then some x1 else none : Nat → Option Row) i = some x → w'.rowIs b x.t x.n x.f) ∧ (∀ i i' x x', (fun i => if i = 0 then some x1 else none : Nat → Option Row) i = some x → (fun i => if i = 0 then some x1 else none : Nat → Option Row) i' = some x' → b = b → i = i') := by
  refine ⟨fun i x e => ?_, fun i i' x x' e e' _ => ?_⟩
  · dsimp only at e
    split at e
    · cases e; exact hr
    · cases e
  · dsimp only at e e'
    split at e
    · split at e'
      · next h h' => rw [h, h']
      · cases e'
    · cases e
end Hp
namespace Ls
open Hp
theorem draw_new {sh : Shp} (hand : Int) (j : Jb) (hk : ¬ j.kind = 1) (w : World) :
    Calls Tryz.prog 40 #[sh.val, .int .i64 hand, .int .i64 j.a] w fun e w' => ∃ B R, e = .returned (.iface (tid j) (.pointer (some ⟨B 0, 0, none⟩))) ∧ (kList sh).Lies w' j B R (init sh hand j) ∧ (∀ i x, R i = some x → w.heap.size ≤ B i) ∧ w.grownBy w' none := by
  have hmi : ∀ (x : Value) (w : World), (Instr.makeInterface 130 x).run Tryz.prog w = .ok (.iface 130 x) w := fun x w => run_makeInterface w 130 x (by kernel_rfl)
  have hmf : ∀ (fn : Fn) (first cap : Array Value) (w : World), (Instr.makeFunc fn first cap).run Tryz.prog w = .ok (.func fn first cap) w := fun _ _ _ _ => rfl
  obtain ⟨kind, a, b, c, hh⟩ := j
  simp only at hk
  have FIN := hide (show ∀ (w' : World) (q : Nat), w'.rowIs q 134 15 (dC sh hand (.func (.func 54) #[.pointer (some ⟨q, 0, none⟩)] #[]) .nilIface .nilFunc ⟨false, 0⟩ a 0 0) → w.heap.size ≤ q → ∃ R, (kList sh).Lies w' ⟨kind, a, b, c, hh⟩ (fun _ => q) R (init sh hand ⟨kind, a, b, c, hh⟩) ∧ ∀ i x, R i = some x → w.heap.size ≤ q from fun w' q hr hq => by
    obtain ⟨Rf, hRf⟩ : ∃ Rf : Nat → Option Row, Rf = fun i => if i = 0 then some ⟨134, 15, dC sh hand (.func (.func 54) #[.pointer (some ⟨q, 0, none⟩)] #[]) .nilIface .nilFunc ⟨false, 0⟩ a 0 0⟩ else none := ⟨_, rfl⟩
    have r0 : ∀ i x, Rf i = some x → i = 0 ∧ x = ⟨134, 15, dC sh hand (.func (.func 54) #[.pointer (some ⟨q, 0, none⟩)] #[]) .nilIface .nilFunc ⟨false, 0⟩ a 0 0⟩ := by
      intro i x e
      rw [hRf] at e
      dsimp only at e
      split at e
      · next h => cases e; exact ⟨h, rfl⟩
      · cases e
    have ei : init sh hand ⟨kind, a, b, c, hh⟩ = ⟨⟨false, sh, hand, a, 0, 0, 0⟩, .on .find, ⟨false, 0⟩⟩ := by unfold init; rw [if_neg hk]
    have hf : W.form (init sh hand ⟨kind, a, b, c, hh⟩) (fun _ => q) Rf := by
      rw [ei]
      refine ⟨_, .nilIface, .nilFunc, ?_, rfl, fun i hi => by rw [hRf]; dsimp only; rw [if_neg (by omega)]⟩
      rw [row_draw (o := ⟨false, sh, hand, a, 0, 0, 0⟩) rfl, hRf]
      rfl
    exact ⟨Rf, ⟨hf, fun i x e => by obtain ⟨_, rfl⟩ := r0 i x e; exact hr, fun i i' x x' e e' _ => by rw [(r0 i x e).1, (r0 i' x' e').1]⟩, fun i x e => hq⟩)
  have ht : tid ⟨kind, a, b, c, hh⟩ = 130 := by unfold tid; exact if_neg hk
  rw [ht]
  clear hk ht
  obtain ⟨s0, s1, s2, s3, s4, s5⟩ := sh
  simp only [Shp.val]
  obtain ⟨W0, hW0, B0, K⟩ := Shape.box w s0 s1 s2 s3 s4 s5
  have HB := hide B0
  have sz0 : W0.heap.size = w.heap.size + 1 := by rw [← hW0]; simp
  obtain ⟨-, l0, x0, x1, x2, x3, x4, x5⟩ := K.out W0 (Below.refl _ _)
  clear B0 K
  have rs : ∀ (a : Addr) (F : FuncId) (x y : Array Value) (w1 : World), (store a (.func (.func F) x y)).run Tryz.prog w1 = stored Tryz.prog w1 a (.func (.func F) x y) .plain := fun a F x y w1 => run_store Tryz.prog w1 _ _ _ rfl
  obtain ⟨W1, hW1⟩ : ∃ W1, W0.alloc (.cells #[.int .i64 0, .nilFunc, .nilIface, .nilFunc, .bool false, .int .u64 0, .int .i64 a, .int .u64 0, .int .i64 s0, .int .i64 s1, .int .i64 s2, .int .i64 s3, .int .i64 s4, .int .i64 s5, .int .i64 0] 134) = W1 := ⟨_, rfl⟩
  have RW := hide (show W1.rowIs W0.heap.size 134 15 (dC ⟨s0, s1, s2, s3, s4, s5⟩ 0 .nilFunc .nilIface .nilFunc ⟨false, 0⟩ a 0 0) from by
    rw [← hW1]
    exact rowIs_cells _ _ _ 15 rfl (fun i hi => by
      match i, hi with
      | 0, _ | 1, _ | 2, _ | 3, _ | 4, _ | 5, _ | 6, _ | 7, _ | 8, _ | 9, _ | 10, _ | 11, _ | 12, _ | 13, _ | 14, _ => rfl))
  have BWH := hide (show Below w.heap.size w W1 from by rw [← hW1]; exact HB.out.alloc HB.out.size _)
  have s1' : w.heap.size ≤ W0.heap.size := HB.out.size
  have hB : W0.heap.size = w.heap.size + 1 := sz0
  go_enter Tryz.func40, Tryz.ntmps40
  go_wp2_with fail
  rw [← hB]
  clear hW0 hW1 x0 x1 x2 x3 x4 x5
  refine (begin_any RW.out (by omega)).mono ?_
  rintro e w2 ⟨rfl, r2, t2⟩
  have RR := hide (show w2.rowIs W0.heap.size 134 15 (dC ⟨s0, s1, s2, s3, s4, s5⟩ hand (.func (.func 54) #[.pointer (some ⟨W0.heap.size, 0, none⟩)] #[]) .nilIface .nilFunc ⟨false, 0⟩ a 0 0) from r2.congr (fun i hi => by
    match i, hi with
    | 0, _ | 1, _ | 2, _ | 3, _ | 4, _ | 5, _ | 6, _ | 7, _ | 8, _ | 9, _ | 10, _ | 11, _ | 12, _ | 13, _ | 14, _ => rfl))
  have B2 := hide (BWH.out.trans (t2.below (B := w.heap.size) (fun k hk => by subst hk; omega) BWH.out.size))
  clear r2 t2
  go_wp2_with fail
  go_ret
  obtain ⟨R, hR, hN⟩ := FIN.out w2 W0.heap.size RR.out (by omega)
  exact ⟨fun _ => W0.heap.size, R, by rw [hB]; rfl, hR, hN, below_grown B2.out none⟩
end Ls
end
section
def mkOf (tb sb : Nat) : Value := .func (.func 37) #[] #[.pointer (some ⟨tb, 0, none⟩), .pointer (some ⟨sb, 0, none⟩)]
theorem mkOf_nil (tb sb : Nat) (w : World) : (binOp .eql 68 (.func (.func 37) #[] #[.pointer (some ⟨tb, 0, none⟩), .pointer (some ⟨sb, 0, none⟩)]) .nilFunc).run Tryz.prog w = .ok (.bool false) w := by kernel_rfl
structure Boxes (w : World) (tb sb : Nat) (fid : FuncId) (sh : Shp) : Prop where
  t : w.cell? ⟨tb, 0, none⟩ = some (.func (.func fid) #[] #[])
  a : w.cell? ⟨sb, 0, none⟩ = some (.int .i64 sh.a)
  b : w.cell? ⟨sb, 1, none⟩ = some (.int .i64 sh.b)
  c : w.cell? ⟨sb, 2, none⟩ = some (.int .i64 sh.c)
  d : w.cell? ⟨sb, 3, none⟩ = some (.int .i64 sh.d)
  e : w.cell? ⟨sb, 4, none⟩ = some (.int .i64 sh.e)
  f : w.cell? ⟨sb, 5, none⟩ = some (.int .i64 sh.f)
theorem Boxes.below {w w' : World} {tb sb : Nat} {fid : FuncId} {sh : Shp} {B : Nat} (h : Boxes w tb sb fid sh) (hb : Below B w w') (h1 : tb < B) (h2 : sb < B) : Boxes w' tb sb fid sh :=
  ⟨(hb.cell (p := ⟨tb, 0, none⟩) h1).trans h.t, (hb.cell (p := ⟨sb, 0, none⟩) h2).trans h.a, (hb.cell (p := ⟨sb, 1, none⟩) h2).trans h.b, (hb.cell (p := ⟨sb, 2, none⟩) h2).trans h.c, (hb.cell (p := ⟨sb, 3, none⟩) h2).trans h.d, (hb.cell (p := ⟨sb, 4, none⟩) h2).trans h.e, (hb.cell (p := ⟨sb, 5, none⟩) h2).trans h.f⟩
variable {w : World} {tb sb : Nat} {fid : FuncId} {sh : Shp} {hand : Int} {j : Jb} {vt : Value} {er : Int} {Q : World → World → Value → Prop}
theorem closure_any (hcf : ∀ (args : Array Value) (w : World), (callFunc fid args).run Tryz.prog w = .ok (.enter fid args) w) (H : Boxes w tb sb fid sh) {R : Value → World → Prop}
    (hT : Calls Tryz.prog fid #[sh.val, .int .i64 hand, j.val] (w.alloc (.cells #[.int .i64 j.kind, .int .i64 j.a, .int .i64 j.b, .int .i64 j.c, .int .u64 j.h] 42)) fun e w' => ∃ v er, e = .returned (.tuple #[v, .int .i64 er]) ∧ R (.tuple #[v, .int .i64 er]) w') :
    Calls Tryz.prog 37 #[.int .i64 hand, j.val, .pointer (some ⟨tb, 0, none⟩), .pointer (some ⟨sb, 0, none⟩)] w fun e w' => ∃ v er, e = .returned (.tuple #[v, .int .i64 er]) ∧ R (.tuple #[v, .int .i64 er]) w' := by
  obtain ⟨kind, a, b, c, hh⟩ := j
  obtain ⟨s0, s1, s2, s3, s4, s5⟩ := sh
  obtain ⟨ht, r0, r1, r2, r3, r4, r5⟩ := H
  simp only at r0 r1 r2 r3 r4 r5
  have lt := World.block_lt_of_cell? _ _ ht
  have ls := World.block_lt_of_cell? _ _ r0
  simp only at lt ls
  simp only [Shp.val, Jb.val] at hT ⊢
  have HT := hide hT
  clear hT
  go_enter Tryz.func37, Tryz.ntmps37
  go_wp2_with fail
  refine HT.out.mono ?_
  rintro e w1 ⟨v, er, rfl, hR⟩
  have HR := hide hR
  clear hR
  go_wp2_with fail
  go_ret2
  exact ⟨v, er, rfl, HR.out⟩
theorem maker_okP (hcf : ∀ (args : Array Value) (w : World), (callFunc fid args).run Tryz.prog w = .ok (.enter fid args) w) (H : Boxes w tb sb fid sh) {tid : TypeId} {K : Kd} {s : K.σ}
    (hT : ∀ w1 : World, Calls Tryz.prog fid #[sh.val, .int .i64 hand, j.val] w1 fun e w' => ∃ B R, e = .returned (.tuple #[.iface tid (.pointer (some ⟨B 0, 0, none⟩)), .int .i64 0]) ∧ K.Lies w' j B R s ∧ (∀ i x, R i = some x → w1.heap.size ≤ B i) ∧ w1.grownBy w' none) :
    Calls Tryz.prog 47 #[mkOf tb sb, .int .i64 hand, j.val] w fun e w' => ∃ B R, e = .returned (.tuple #[.iface tid (.pointer (some ⟨B 0, 0, none⟩)), .int .i64 0]) ∧ K.Lies w' j B R s ∧ (∀ i x, R i = some x → w.heap.size ≤ B i) ∧ w.grownBy w' none := by
  have HJ := hide (rfl : j = j)
  obtain ⟨jv, hjv⟩ : ∃ v, j = v := ⟨_, rfl⟩
  obtain ⟨kind, a, b, c, hh⟩ := j
  have lt := World.block_lt_of_cell? _ _ H.t
  have ls := World.block_lt_of_cell? _ _ H.a
  have hn := mkOf_nil tb sb
  have hi := iface_nil tid
  have H1 : Boxes (w.alloc (.cells #[.int .i64 kind, .int .i64 a, .int .i64 b, .int .i64 c, .int .u64 hh] 42)) tb sb fid sh := H.below ((Below.refl w.heap.size w).alloc (Nat.le_refl _) _) lt ls
  have CL := hide (closure_any (R := fun v w' => ∃ B R, v = .tuple #[.iface tid (.pointer (some ⟨B 0, 0, none⟩)), .int .i64 0] ∧ K.Lies w' jv B R s ∧ (∀ i x, R i = some x → w.heap.size ≤ B i) ∧ w.grownBy w' none) hcf H1 ((hT _).mono (by
    rintro e w' ⟨B, R, rfl, h1, h2, h3⟩
    refine ⟨_, _, rfl, B, R, rfl, hjv ▸ h1, fun i x e => ?_, grown_trans (grown_alloc (grown_alloc (grown_refl _ _) _) _) h3⟩
    have := h2 i x e
    simp only [World.size_alloc] at this
    omega)))
  rw [hjv]
  unfold mkOf
  rw [← hjv]
  simp only [Jb.val] at CL ⊢
  clear H H1 hT
  go_enter Tryz.func47, Tryz.ntmps47
  go_wp2_with fail
  refine CL.out.mono ?_
  rintro e w1 ⟨v, er, rfl, B, R, he, hr, hb, hg⟩
  obtain ⟨rfl, rfl⟩ : v = .iface tid (.pointer (some ⟨B 0, 0, none⟩)) ∧ er = 0 := by simpa using he
  have HR := hide (And.intro hr (And.intro hb hg))
  clear he hr hb hg
  go_wp2_with fail
  go_ret2
  exact ⟨B, R, rfl, hjv ▸ HR.out.1, HR.out.2.1, HR.out.2.2⟩
theorem maker_err (hcf : ∀ (args : Array Value) (w : World), (callFunc fid args).run Tryz.prog w = .ok (.enter fid args) w) (H : Boxes w tb sb fid sh) (he : ¬ er = 0)
    (hT : ∀ w1 : World, Calls Tryz.prog fid #[sh.val, .int .i64 hand, j.val] w1 fun e w' => e = .returned (.tuple #[.nilIface, .int .i64 er]) ∧ w1.grownBy w' none) :
    Calls Tryz.prog 47 #[mkOf tb sb, .int .i64 hand, j.val] w fun e w' => e = .returned (.tuple #[.nilIface, .int .i64 er]) ∧ w.grownBy w' none := by
  obtain ⟨kind, a, b, c, hh⟩ := j
  have lt := World.block_lt_of_cell? _ _ H.t
  have ls := World.block_lt_of_cell? _ _ H.a
  have hn := mkOf_nil tb sb
  have H1 : Boxes (w.alloc (.cells #[.int .i64 kind, .int .i64 a, .int .i64 b, .int .i64 c, .int .u64 hh] 42)) tb sb fid sh := H.below ((Below.refl w.heap.size w).alloc (Nat.le_refl _) _) lt ls
  have CL := hide (closure_any (R := fun v w' => v = .tuple #[.nilIface, .int .i64 er] ∧ w.grownBy w' none) hcf H1 ((hT _).mono (by
    rintro e w' ⟨rfl, h3⟩
    exact ⟨_, _, rfl, rfl, grown_trans (grown_alloc (grown_alloc (grown_refl _ _) _) _) h3⟩)))
  unfold mkOf
  simp only [Jb.val] at CL ⊢
  clear H H1 hT
  go_enter Tryz.func47, Tryz.ntmps47
  go_wp2_with fail
  refine CL.out.mono ?_
  rintro e w1 ⟨v, er', rfl, hv, hg⟩
  obtain ⟨rfl, rfl⟩ : v = .nilIface ∧ er' = er := by simpa using hv
  have HR := hide hg
  clear hv hg
  go_wp2_with fail
  go_ret2
  exact ⟨rfl, HR.out⟩
end
end Go.Proofs.YtidihnnmdmlgfaaGreat
