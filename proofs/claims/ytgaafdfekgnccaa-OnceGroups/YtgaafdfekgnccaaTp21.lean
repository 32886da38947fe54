/-
  Lemmas: RRetC, LayM, LayP, RAInv, RSame, Cells0.
-/
import Derived.Test.YtgaafdfekgnccaaTp20
import Derived.Test.YtgaafdfekgnccaaTp05
import Derived.Test.YtgaafdfekgnccaaTp19
import Derived.Deep.CutRange
import Derived.Test.YtgaafdfekgnccaaTp15
/-
  A region that draws its order: it reads by a table, makes one call and writes one variable made ahead of it with what the call told.
-/
namespace Go.Proofs.Ytgaafdfekgnccaa
open Go.RowKit
set_option linter.unusedVariables false
set_option linter.unusedSimpArgs false
set_option linter.unnecessarySimpa false

namespace RetC
open RetN (pv D)

structure In (ks : List (Nat × Nat)) (vals : Nat → Value) (kc sc : Nat) (vc : Value) (WI : Bool → World → Prop) (a0 : Act) (E iE : Nat) (ls : List Value) (L : Nat → Bool) (a : Act) (w : World) : Prop where
  sz : a.tmps.size = a0.tmps.size
  df : a.defers = a0.defers
  fix : ∀ k, ¬ D ks k → k ≠ sc → a.eval (.tmp k) = a0.eval (.tmp k)
  pure : ∀ i d v, pv ks vals i = some (d, v) → L i = true → a.eval (.tmp d) = v
  call : L kc = true → a.eval (.tmp sc) = vc
  dep : L iE = true → L kc = true
  world : WI (L kc) w
  tE : w.there E 0 ls.length
  sE : L iE = true → w.rangeAt E 0 ls

theorem region {P : Program} {id : Nat} {ops : Array Oper} {Q : Exit → Act → World → Prop} {ks : List (Nat × Nat)} {vals : Nat → Value} {w0 : World} {a0 : Act} {kc sc : Nat} {vc : Value} {WI : Bool → World → Prop} {E iE : Nat} {ls : List Value}
    (hm : P.follows .mixedOrders = true) (hg : ∀ (i : Nat) (o : Oper), ops[i]? = some o → o.guard = none) (hback : ∀ (i : Nat) (o : Oper), ops[i]? = some o → ∀ e ∈ o.after, Region.binds .any e = true → e.on < i)
    (hgood : (ks.all fun p => (ks.all fun q => p.1 == q.1 || p.2 != q.2) && (p.1 != kc && p.1 != iE && p.2 != sc)) = true) (hki : kc ≠ iE) (hD : ∀ k, D ks k → k < a0.tmps.size) (hsc : sc < a0.tmps.size)
    (hs : ∀ u ∈ ls, u.oneCell' = true) (tE : w0.there E 0 ls.length) (hW0 : WI false { w0 with drawn := w0.drawn + 1 }) (hWE : ∀ w, WI true w → WI true (w.setCells E 0 ls))
    (kinds : ∀ (i : Nat) (o : Oper), ops[i]? = some o →
      (∃ d v, pv ks vals i = some (d, v) ∧ o.dst = some d ∧ ∀ L a w, In ks vals kc sc vc WI a0 E iE ls L a w → (∀ e ∈ o.after, Region.binds .any e = true → L e.on = true) → (execOp a.eval o).run P w = .ok (.value v) w) ∨
      (i = kc ∧ o.dst = some sc ∧ ∀ L a w (K : Act → World → Prop), In ks vals kc sc vc WI a0 E iE ls L a w → L kc = false → (∀ e ∈ o.after, Region.binds .any e = true → L e.on = true) → (∀ w', WI true w' → w'.there E 0 ls.length → K (a.put (some sc) vc) w') → o.wp P a w K Q) ∨
      (i = iE ∧ o.dst = none ∧ ∃ ty x y, o.op = .store ty x y ∧ (P.info? ty).map (·.size) = some ls.length ∧ ∀ L a w, In ks vals kc sc vc WI a0 E iE ls L a w → (∀ e ∈ o.after, Region.binds .any e = true → L e.on = true) → a.eval x = .pointer (some ⟨E, 0, none⟩) ∧ a.eval y = .agg ls.toArray ∧ L kc = true))
    (fin : ∀ L a w, In ks vals kc sc vc WI a0 E iE ls L a w → (∀ i, i < ops.size → L i = true) → Q .normal a w) :
    (Code.region id ops true).wp P Q a0 w0 := by
  simp only [Bool.and_eq_true, List.all_eq_true, bne_iff_ne, Bool.or_eq_true, beq_iff_eq] at hgood
  have pvm : ∀ {i d v}, pv ks vals i = some (d, v) → (i, d) ∈ ks := fun {i d v} h => by
    obtain ⟨d', h1, h2⟩ := Option.map_eq_some_iff.1 h
    cases h2; exact Reg.look_mem h1
  refine region_inv hm hg hback (fun L a w => In ks vals kc sc vc WI a0 E iE ls L a w) ?step (fun L a w h hall => fin L a w h hall) ?start
  case start => exact ⟨rfl, rfl, fun _ _ _ => rfl, fun _ _ _ _ h => (by cases h), fun h => (by cases h), fun h => (by cases h), hW0, tE, fun h => (by cases h)⟩
  case step =>
    rintro L a w i o h ho hL hd
    rcases kinds i o ho with ⟨d, v, hv, hdst, hrun⟩ | ⟨rfl, hdst, hcall⟩ | ⟨rfl, hdst, ty, x, y, hop, hsz, hev⟩
    · refine wp_value (hrun L a w h hd) ?_
      rw [hdst]
      have hm' := pvm hv
      obtain ⟨hap, ⟨hnC, hnE⟩, hns⟩ := hgood _ hm'
      have hDd : D ks d := by simp only [D, List.any_eq_true, beq_iff_eq]; exact ⟨_, hm', rfl⟩
      have e : ∀ k : Nat, k ≠ d → (a.put (some d) v).eval (.tmp k) = a.eval (.tmp k) := fun k hk => put_other hk
      have uc : upd L i true kc = L kc := upd_other _ _ (Ne.symm hnC)
      have uE : upd L i true iE = L iE := upd_other _ _ (Ne.symm hnE)
      refine ⟨by rw [put_size]; exact h.sz, by rw [put_defs]; exact h.df, fun k hk hk2 => ?_, fun j d' v' hj hLj => ?_, fun h1 => ?_, by rw [uc, uE]; exact h.dep, by rw [uc]; exact h.world, h.tE, by rw [uE]; exact h.sE⟩
      · rw [e k (fun he => hk (he ▸ hDd))]; exact h.fix k hk hk2
      · by_cases hij : j = i
        · subst hij
          rw [hv] at hj; cases hj
          exact put_eval (by rw [h.sz]; exact hD _ hDd)
        · rw [upd_other _ _ hij] at hLj
          have : d' ≠ d := by
            rcases hap _ (pvm hj) with e1 | e1
            · exact absurd e1.symm hij
            · exact Ne.symm e1
          rw [e d' this]
          exact h.pure j d' v' hj hLj
      · rw [uc] at h1
        rw [e sc (Ne.symm hns)]
        exact h.call h1
    · refine hcall L a w _ h hL hd (fun w' hW ht => ?_)
      have e : ∀ k : Nat, k ≠ sc → (a.put (some sc) vc).eval (.tmp k) = a.eval (.tmp k) := fun k hk => put_other hk
      have nE : L iE = false := by
        cases hE : L iE with
        | false => rfl
        | true => exact absurd (h.dep hE) (by rw [hL]; decide)
      refine ⟨by rw [put_size]; exact h.sz, by rw [put_defs]; exact h.df, fun k hk hk2 => by rw [e k hk2]; exact h.fix k hk hk2, fun j d' v' hj hLj => ?_, fun _ => put_eval (by rw [h.sz]; exact hsc), fun _ => upd_same _ _ _, by rw [upd_same]; exact hW, ht, fun h1 => ?_⟩
      · obtain ⟨_, ⟨hnC, hnE⟩, hns⟩ := hgood _ (pvm hj)
        rw [upd_other _ _ hnC] at hLj
        rw [e d' hns]
        exact h.pure j d' v' hj hLj
      · rw [upd_other _ _ (Ne.symm hki), nE] at h1
        cases h1
    · obtain ⟨px, py, hk⟩ := hev L a w h hd
      refine wp_store_mid ty x y hop E 0 ls.toArray px py (by simpa using h.tE) (by simpa using hsz) (all_oneCell_toArray hs) ?_
      rw [hdst]
      have sm := World.rangeAt_setCells_same w E 0 ls h.tE
      have nk : ∀ {j d v}, pv ks vals j = some (d, v) → j ≠ i := fun {j d v} hj => (hgood _ (pvm hj)).2.1.2
      have uc : upd L i true kc = L kc := upd_other _ _ hki
      have hw := h.world
      rw [hk] at hw
      exact ⟨h.sz, h.df, h.fix, fun j d' v' hj hLj => h.pure j d' v' hj (by rwa [upd_other _ _ (nk hj)] at hLj), fun _ => h.call hk, fun _ => by rw [uc]; exact hk, by rw [uc, hk]; exact hWE _ hw, World.there_setCells h.tE _ _ _, fun _ => sm⟩
end RetC

theorem call6 {ev : Operand → Value} {o : Oper} {w : World} {f : FuncId} {x0 x1 x2 x3 x4 x5 : Operand} {ts : Array TypeId} {v0 v1 v2 v3 v4 v5 : Value} (ho : o.op = Op.call { callee := Callee.value (Operand.func f), args := #[x0, x1, x2, x3, x4, x5], argTypes := ts }) (h0 : ev x0 = v0) (h1 : ev x1 = v1) (h2 : ev x2 = v2) (h3 : ev x3 = v3) (h4 : ev x4 = v4) (h5 : ev x5 = v5) (hf : ev (Operand.func f) = .func (.func f) #[] #[]) (hcf : (callFunc f #[v0, v1, v2, v3, v4, v5]).run Try.prog w = .ok (.enter f #[v0, v1, v2, v3, v4, v5]) w) :
    (execOp ev o).run Try.prog w = .ok (.enter f #[v0, v1, v2, v3, v4, v5]) w := by
  simp [execOp, ho, h0, h1, h2, h3, h4, h5, hf, resolve, invoke, go_sem, hcf]
theorem callDo (args : Array Value) (w : World) : (callFunc 89 args).run Try.prog w = .ok (.enter 89 args) w := by simp [go_sem]
theorem ex_nil {ev : Operand → Value} {o : Oper} {w : World} {x : Operand} {a : Addr} (ho : o.op = .nilCheck x) (hx : ev x = .pointer (some a)) : (execOp ev o).run Try.prog w = .ok (.value (.pointer (some a))) w := by
  simp [execOp, ho, hx, go_sem]
end Go.Proofs.Ytgaafdfekgnccaa

/-
  A layer's maker: the closure over its Task and a shape; what makeTask does with it.
-/
namespace Go.Proofs.Ytgaafdfekgnccaa
open Go.RowKit
set_option linter.unusedVariables false
set_option linter.unusedSimpArgs false
set_option maxRecDepth 20000

/-- A layer's maker: the closure over its Task and a shape in boxes of their own. -/
def mkOf (tb sb : Nat) : Value := .func (.func 36) #[] #[.pointer (some ⟨tb, 0, none⟩), .pointer (some ⟨sb, 0, none⟩)]
theorem mkOf_nil (tb sb : Nat) (w : World) : (binOp .eql 80 (.func (.func 36) #[] #[.pointer (some ⟨tb, 0, none⟩), .pointer (some ⟨sb, 0, none⟩)]) .nilFunc).run Try.prog w = .ok (.bool false) w := by kernel_rfl

/-- The boxes of a maker. -/
structure Boxes (w : World) (tb sb : Nat) (fid : FuncId) (sh : Shp) : Prop where
  t : w.cell? ⟨tb, 0, none⟩ = some (.func (.func fid) #[] #[])
  a : w.cell? ⟨sb, 0, none⟩ = some (.int .i64 sh.a)
  b : w.cell? ⟨sb, 1, none⟩ = some (.int .i64 sh.b)
  c : w.cell? ⟨sb, 2, none⟩ = some (.int .i64 sh.c)
  d : w.cell? ⟨sb, 3, none⟩ = some (.int .i64 sh.d)
  e : w.cell? ⟨sb, 4, none⟩ = some (.int .i64 sh.e)
  f : w.cell? ⟨sb, 5, none⟩ = some (.int .i64 sh.f)
theorem Boxes.below {w w' : World} {tb sb : Nat} {fid : FuncId} {sh : Shp} {B : Nat} (h : Boxes w tb sb fid sh) (hb : Below B w w') (h1 : tb < B) (h2 : sb < B) : Boxes w' tb sb fid sh :=
  ⟨(hb.cell (p := ⟨tb, 0, none⟩) h1).trans h.t, (hb.cell (p := ⟨sb, 0, none⟩) h2).trans h.a, (hb.cell (p := ⟨sb, 1, none⟩) h2).trans h.b, (hb.cell (p := ⟨sb, 2, none⟩) h2).trans h.c, (hb.cell (p := ⟨sb, 3, none⟩) h2).trans h.d, (hb.cell (p := ⟨sb, 4, none⟩) h2).trans h.e, (hb.cell (p := ⟨sb, 5, none⟩) h2).trans h.f⟩

variable {w : World} {tb sb : Nat} {fid : FuncId} {sh : Shp} {hand : Int} {j : Jb} {vt : Value} {er : Int} {Q : World → World → Value → Prop}

set_option maxHeartbeats 4000000 in
theorem closure_any (hcf : ∀ (args : Array Value) (w : World), (callFunc fid args).run Try.prog w = .ok (.enter fid args) w) (H : Boxes w tb sb fid sh) {R : Value → World → Prop}
    (hT : Calls Try.prog fid #[sh.val, .int .i64 hand, j.val] (w.alloc (.cells #[.int .i64 j.kind, .int .i64 j.a, .int .i64 j.b, .int .i64 j.c, .int .u64 j.h] 48)) fun e w' => ∃ v er, e = .returned (.tuple #[v, .int .i64 er]) ∧ R (.tuple #[v, .int .i64 er]) w') :
    Calls Try.prog 36 #[.int .i64 hand, j.val, .pointer (some ⟨tb, 0, none⟩), .pointer (some ⟨sb, 0, none⟩)] w fun e w' => ∃ v er, e = .returned (.tuple #[v, .int .i64 er]) ∧ R (.tuple #[v, .int .i64 er]) w' := by
  obtain ⟨kind, a, b, c, hh⟩ := j
  obtain ⟨s0, s1, s2, s3, s4, s5⟩ := sh
  obtain ⟨ht, r0, r1, r2, r3, r4, r5⟩ := H
  simp only at r0 r1 r2 r3 r4 r5
  have lt := World.block_lt_of_cell? _ _ ht
  have ls := World.block_lt_of_cell? _ _ r0
  simp only at lt ls
  simp only [Shp.val, Jb.val] at hT ⊢
  have HT := hide hT
  clear hT
  go_enter Try.func36, Try.ntmps36
  go_wp2_with fail
  refine HT.out.mono ?_
  rintro e w1 ⟨v, er, rfl, hR⟩
  have HR := hide hR
  clear hR
  go_wp2_with fail
  go_ret2
  exact ⟨v, er, rfl, HR.out⟩

set_option maxHeartbeats 4000000 in
theorem maker_okB (hcf : ∀ (args : Array Value) (w : World), (callFunc fid args).run Try.prog w = .ok (.enter fid args) w) (H : Boxes w tb sb fid sh) {tid : TypeId} {t : TypeId} {n : Nat} {C : Nat → Nat → Value}
    (hT : ∀ w1 : World, Calls Try.prog fid #[sh.val, .int .i64 hand, j.val] w1 fun e w' => ∃ b, e = .returned (.tuple #[.iface tid (.pointer (some ⟨b, 0, none⟩)), .int .i64 0]) ∧ w'.rowIs b t n (C b) ∧ w1.heap.size ≤ b ∧ w1.grownBy w' none) :
    Calls Try.prog 43 #[mkOf tb sb, .int .i64 hand, j.val] w fun e w' => ∃ b, e = .returned (.tuple #[.iface tid (.pointer (some ⟨b, 0, none⟩)), .int .i64 0]) ∧ w'.rowIs b t n (C b) ∧ w.heap.size ≤ b ∧ w.grownBy w' none := by
  obtain ⟨kind, a, b, c, hh⟩ := j
  have lt := World.block_lt_of_cell? _ _ H.t
  have ls := World.block_lt_of_cell? _ _ H.a
  have hn := mkOf_nil tb sb
  have hi := iface_nil tid
  have H1 : Boxes (w.alloc (.cells #[.int .i64 kind, .int .i64 a, .int .i64 b, .int .i64 c, .int .u64 hh] 48)) tb sb fid sh := H.below ((Below.refl w.heap.size w).alloc (Nat.le_refl _) _) lt ls
  have CL := hide (closure_any (R := fun v w' => ∃ b, v = .tuple #[.iface tid (.pointer (some ⟨b, 0, none⟩)), .int .i64 0] ∧ w'.rowIs b t n (C b) ∧ w.heap.size ≤ b ∧ w.grownBy w' none) hcf H1 ((hT _).mono (by
    rintro e w' ⟨b, rfl, h1, h2, h3⟩
    simp only [World.size_alloc] at h2
    exact ⟨_, _, rfl, b, rfl, h1, by omega, grown_trans (grown_alloc (grown_alloc (grown_refl _ _) _) _) h3⟩)))
  unfold mkOf
  simp only [Jb.val] at CL ⊢
  clear H H1 hT
  go_enter Try.func43, Try.ntmps43
  go_wp2_with fail
  refine CL.out.mono ?_
  rintro e w1 ⟨v, er, rfl, bb, he, hr, hb, hg⟩
  obtain ⟨rfl, rfl⟩ : v = .iface tid (.pointer (some ⟨bb, 0, none⟩)) ∧ er = 0 := by simpa using he
  have HR := hide (And.intro hr (And.intro hb hg))
  clear he hr hb hg
  go_wp2_with fail
  go_ret2
  exact ⟨bb, rfl, HR.out.1, HR.out.2.1, HR.out.2.2⟩

theorem maker_ok (hcf : ∀ (args : Array Value) (w : World), (callFunc fid args).run Try.prog w = .ok (.enter fid args) w) (H : Boxes w tb sb fid sh) {tid : TypeId} {t : TypeId} {n : Nat} {C : Nat → Value}
    (hT : ∀ w1 : World, Calls Try.prog fid #[sh.val, .int .i64 hand, j.val] w1 fun e w' => ∃ b, e = .returned (.tuple #[.iface tid (.pointer (some ⟨b, 0, none⟩)), .int .i64 0]) ∧ w'.rowIs b t n C ∧ w1.heap.size ≤ b ∧ w1.grownBy w' none) :
    Calls Try.prog 43 #[mkOf tb sb, .int .i64 hand, j.val] w fun e w' => ∃ b, e = .returned (.tuple #[.iface tid (.pointer (some ⟨b, 0, none⟩)), .int .i64 0]) ∧ w'.rowIs b t n C ∧ w.heap.size ≤ b ∧ w.grownBy w' none :=
  maker_okB (C := fun _ => C) hcf H hT

set_option maxHeartbeats 4000000 in
theorem maker_err (hcf : ∀ (args : Array Value) (w : World), (callFunc fid args).run Try.prog w = .ok (.enter fid args) w) (H : Boxes w tb sb fid sh) (he : ¬ er = 0)
    (hT : ∀ w1 : World, Calls Try.prog fid #[sh.val, .int .i64 hand, j.val] w1 fun e w' => e = .returned (.tuple #[.nilIface, .int .i64 er]) ∧ w1.grownBy w' none) :
    Calls Try.prog 43 #[mkOf tb sb, .int .i64 hand, j.val] w fun e w' => e = .returned (.tuple #[.nilIface, .int .i64 er]) ∧ w.grownBy w' none := by
  obtain ⟨kind, a, b, c, hh⟩ := j
  have lt := World.block_lt_of_cell? _ _ H.t
  have ls := World.block_lt_of_cell? _ _ H.a
  have hn := mkOf_nil tb sb
  have H1 : Boxes (w.alloc (.cells #[.int .i64 kind, .int .i64 a, .int .i64 b, .int .i64 c, .int .u64 hh] 48)) tb sb fid sh := H.below ((Below.refl w.heap.size w).alloc (Nat.le_refl _) _) lt ls
  have CL := hide (closure_any (R := fun v w' => v = .tuple #[.nilIface, .int .i64 er] ∧ w.grownBy w' none) hcf H1 ((hT _).mono (by
    rintro e w' ⟨rfl, h3⟩
    exact ⟨_, _, rfl, rfl, grown_trans (grown_alloc (grown_alloc (grown_refl _ _) _) _) h3⟩)))
  unfold mkOf
  simp only [Jb.val] at CL ⊢
  clear H H1 hT
  go_enter Try.func43, Try.ntmps43
  go_wp2_with fail
  refine CL.out.mono ?_
  rintro e w1 ⟨v, er', rfl, hv, hg⟩
  obtain ⟨rfl, rfl⟩ : v = .nilIface ∧ er' = er := by simpa using hv
  have HR := hide hg
  clear hv hg
  go_wp2_with fail
  go_ret2
  exact ⟨rfl, HR.out⟩
set_option maxHeartbeats 2000000 in
theorem room_ok (w : World) (sh : Shp) (h1 : 1 ≤ sh.f) (h2 : sh.f ≤ 64) : Calls Try.prog 20 #[sh.val, .int .i64 64] w fun e w' => e = .returned (.int .i64 0) ∧ w.grownBy w' none := by
  obtain ⟨s0, s1, s2, s3, s4, s5⟩ := sh
  simp only [Shp.val] at h1 h2 ⊢
  have g1 : ¬ s5 < 1 := by omega
  have g2 : ¬ 64 < s5 := by omega
  go_enter Try.func20, Try.ntmps20
  go_wp2
  go_ret
  exact ⟨rfl, grown_alloc (grown_refl _ _) _⟩
set_option maxHeartbeats 2000000 in
theorem room_bad (w : World) (sh : Shp) (h : sh.f < 1 ∨ 64 < sh.f) : Calls Try.prog 20 #[sh.val, .int .i64 64] w fun e w' => e = .returned (.int .i64 120) ∧ w.grownBy w' none := by
  obtain ⟨s0, s1, s2, s3, s4, s5⟩ := sh
  simp only [Shp.val] at h ⊢
  by_cases g1 : s5 < 1
  · go_enter Try.func20, Try.ntmps20
    go_wp2
    go_ret
    exact ⟨rfl, grown_alloc (grown_refl _ _) _⟩
  · have g2 : 64 < s5 := by omega
    go_enter Try.func20, Try.ntmps20
    go_wp2
    go_ret
    exact ⟨rfl, grown_alloc (grown_refl _ _) _⟩

end Go.Proofs.Ytgaafdfekgnccaa

/-
  layer.Play, whatever the layer: a wrong number of words, or turn's Play over the layer's maker.
-/
namespace Go.Proofs.Ytgaafdfekgnccaa
open Go.RowKit
set_option linter.unusedVariables false
set_option linter.unusedSimpArgs false
set_option maxRecDepth 20000

/-- What a run answers, as a value. -/
def tv3 (sa : Option Addr) (k sc : Nat) (wa : Option Addr) (n wc : Nat) (en : Bool) (aa : Option Addr) (m ac : Nat) (er : Int) : Value :=
  .tuple #[.agg #[.slice sa k sc, .slice wa n wc, .bool en], .slice aa m ac, .int .i64 er]

/-- What a layer's Play tells, where the shape is taken: want words are wanted. -/
def LErr (K : Kd) (want : Nat) (P : Par) (most er : Int) : Prop := (P.n ≠ want ∧ er = 121) ∨ (P.n = want ∧ ErrOf K P most er)
def LAll (K : Kd) (want : Nat) (w : World) (P : Par) (f : Nat → Int) (most : Int) (e : Ending) (w' : World) : Prop :=
  Below w.heap.size w w' ∧ ((∃ er, LErr K want P most er ∧ e = .returned (errVal er)) ∨ (P.n = want ∧ Fine P most ∧ AllOk K P ∧ ∃ v, e = .returned v ∧ Told K P (runSt P (st0 K P f) most.toNat) w.heap.size v w'))

theorem told_touch {K : Kd} {P : Par} {st : St K} {base base' b : Nat} {v : Value} {w w' : World} (h : Told K P st base v w) (ht : Touch w w' (fun k => k = b)) (hb : b < base) (hbb : base' ≤ base) : Told K P st base' v w' := by
  obtain ⟨blk, c, g, sv, rfl, H, G, GS, R, hg, hne⟩ := h
  exact ⟨blk, c, g, sv, rfl, ((H.touch ht (fun r x e he => by have := H.new r x e; omega))).base_le hbb, G, GS, R.block (ht.block g R.lt (fun he => by omega)), by omega, hne⟩
theorem told_shape {K : Kd} {P : Par} {st : St K} {base : Nat} {v : Value} {w : World} (h : Told K P st base v w) : ∃ sa k sc wa n wc en aa m ac, v = tv3 sa k sc wa n wc en aa m ac 0 := by
  obtain ⟨blk, c, g, sv, rfl, H, G, GS, R, hg, hne⟩ := h
  obtain ⟨sa, sc, rfl⟩ := GS.isSlice
  exact ⟨_, _, _, _, _, _, _, _, _, _, rfl⟩

/-- The same run told out of a later world, with memory of the callers' own beneath it. -/
theorem LAll.up {K : Kd} {want : Nat} {w0 w w' w2 : World} {P : Par} {f : Nat → Int} {most : Int} {e : Ending} {b : Nat} (h : LAll K want w P f most e w') (h0 : Below w0.heap.size w0 w) (ht : Touch w' w2 (fun k => k = b)) (hb0 : w0.heap.size ≤ b) (hb : b < w.heap.size) : LAll K want w0 P f most e w2 := by
  obtain ⟨hB, hc⟩ := h
  refine ⟨(h0.trans (hB.mono h0.size)).trans (ht.below (fun k hk => by omega) (Nat.le_trans h0.size hB.size)), ?_⟩
  rcases hc with h | ⟨h1, h2, h3, v, he, hT⟩
  · exact .inl h
  · exact .inr ⟨h1, h2, h3, v, he, told_touch hT ht hb h0.size⟩
theorem LAll.shape {K : Kd} {want : Nat} {w w' : World} {P : Par} {f : Nat → Int} {most : Int} {e : Ending} (h : LAll K want w P f most e w') : ∃ sa k sc wa n wc en aa m ac er, e = .returned (tv3 sa k sc wa n wc en aa m ac er) := by
  rcases h.2 with ⟨er, _, rfl⟩ | ⟨_, _, _, v, rfl, hT⟩
  · exact ⟨none, 0, 0, none, 0, 0, false, none, 0, 0, er, rfl⟩
  · obtain ⟨sa, k, sc, wa, n, wc, en, aa, m, ac, rfl⟩ := told_shape hT
    exact ⟨_, _, _, _, _, _, _, _, _, _, _, rfl⟩

theorem makerOf_any (w : World) (ft : FuncId) (sh : Shp) : Calls Try.prog 22 #[.func (.func ft) #[] #[], sh.val] w fun e w' => e = .returned (mkOf w.heap.size (w.heap.size + 1)) ∧
    w' = (w.alloc (.cells #[.func (.func ft) #[] #[]] 77)).alloc (.cells #[.int .i64 sh.a, .int .i64 sh.b, .int .i64 sh.c, .int .i64 sh.d, .int .i64 sh.e, .int .i64 sh.f] 36) := by
  obtain ⟨s0, s1, s2, s3, s4, s5⟩ := sh
  simp only [Shp.val, mkOf]
  go_enter Try.func22, Try.ntmps22
  go_wp2
  go_ret
  exact ⟨rfl, rfl⟩

variable {K : Kd} {w : World} {ao aoh aos : Option Addr} {cap caph caps : Nat} {P : Par} {f : Nat → Int} {most : Int} {fsz ft : FuncId} {sh : Shp} {want : Nat}

theorem SeesH.up {w : World} {B C : Nat} {aoh : Option Addr} {nh : Nat} {jn : Nat → Nat} {jb : Nat → Nat → Jb} (h : SeesH w B aoh nh jn jb) (hl : B ≤ C) : SeesH w C aoh nh jn jb := fun i hi => by
  obtain ⟨b, off, ao', cap, e, hb, hc, hj⟩ := h i hi
  exact ⟨b, off, ao', cap, e, by omega, hc, fun q hq => by obtain ⟨b', off', e', hb', hc'⟩ := hj q hq; exact ⟨b', off', e', by omega, hc'⟩⟩
theorem SeesI.up {w : World} {B C : Nat} {ao : Option Addr} {n : Nat} {s : Nat → Int} (h : SeesI w B ao n s) (hl : B ≤ C) : SeesI w C ao n s := fun i hi => by
  obtain ⟨b, off, e, hb, hc⟩ := h i hi
  exact ⟨b, off, e, by omega, hc⟩

set_option maxHeartbeats 4000000 in
theorem lay_size_err {er : Int} (her : ¬ er = 0) (hcs : ∀ (args : Array Value) (w : World), (callFunc fsz args).run Try.prog w = .ok (.enter fsz args) w)
    (hS : ∀ w : World, Calls Try.prog fsz #[sh.val] w fun e w' => e = .returned (.tuple #[.int .i64 0, .int .i64 er]) ∧ w.grownBy w' none) :
    Calls Try.prog 16 #[.func (.func fsz) #[] #[], .func (.func ft) #[] #[], sh.val, .slice ao P.n cap, .slice aoh P.nh caph, .slice aos P.ns caps, .int .i64 most] w fun e w' => e = .returned (errVal er) ∧ Below w.heap.size w w' := by
  obtain ⟨s0, s1, s2, s3, s4, s5⟩ := sh
  simp only [Shp.val] at hS ⊢
  have HS := hide hS
  clear hS
  unfold errVal
  go_enter Try.func16, Try.ntmps16
  go_wp2_with fail
  refine (HS.out _).mono ?_
  rintro e w1 ⟨rfl, hg⟩
  have HB := hide ((((Below.refl w.heap.size w).alloc (Nat.le_refl _) (.cells #[.int .i64 s0, .int .i64 s1, .int .i64 s2, .int .i64 s3, .int .i64 s4, .int .i64 s5] 36)).alloc (by simp) (.cells #[.slice none 0 0, .slice none 0 0, .bool false] 42)).trans (below_of_grown_none hg w.heap.size (by simp; omega)))
  have hb := below_of_grown_none hg (w.heap.size + 2) (by simp)
  have z0 := hb.cell (p := ⟨w.heap.size + 1, 0, none⟩) (by simp)
  have z1 := hb.cell (p := ⟨w.heap.size + 1, 1, none⟩) (by simp)
  have z2 := hb.cell (p := ⟨w.heap.size + 1, 2, none⟩) (by simp)
  have y0 := hb.frozen (p := ⟨w.heap.size + 1, 0, none⟩) (by simp)
  have y1 := hb.frozen (p := ⟨w.heap.size + 1, 1, none⟩) (by simp)
  have y2 := hb.frozen (p := ⟨w.heap.size + 1, 2, none⟩) (by simp)
  simp at z0 z1 z2 y0 y1 y2
  clear hb hg
  go_wp2_with fail
  go_light
  refine bodyPost_ret (v := errVal er) ?_ rfl ⟨rfl, ((HB.out.setCell (by simp) _).setCell (by simp) _).setCell (by simp) _⟩
  simp [results, Try.results16, go_sem, errVal, *]

set_option maxHeartbeats 8000000 in
theorem lay_any (hcs : ∀ (args : Array Value) (w : World), (callFunc fsz args).run Try.prog w = .ok (.enter fsz args) w)
    (hS : ∀ w : World, Calls Try.prog fsz #[sh.val] w fun e w' => e = .returned (.tuple #[.int .i64 want, .int .i64 0]) ∧ w.grownBy w' none) (IK : IsKind K) (MK : ∀ w' tb sb, Boxes w' tb sb ft sh → MakesAt K (mkOf tb sb) w')
    (S : Sees w w.heap.size ao P.n f) (hf : ∀ i, i < P.n → 0 ≤ f i ∧ f i ≤ 18446744073709551615) (SH : SeesH w w.heap.size aoh P.nh P.jn P.jb) (hn63 : P.nh ≤ 9223372036854775807) (SI : SeesI w w.heap.size aos P.ns P.sched) (hjw : ∀ h, h < P.nh → ∀ j, j < P.jn h → (P.jb h j).wf) :
    Calls Try.prog 16 #[.func (.func fsz) #[] #[], .func (.func ft) #[] #[], sh.val, .slice ao P.n cap, .slice aoh P.nh caph, .slice aos P.ns caps, .int .i64 most] w (LAll K want w P f most) := by
  have MO := fun w' => makerOf_any w' ft sh
  obtain ⟨s0, s1, s2, s3, s4, s5⟩ := sh
  simp only [Shp.val] at hS MO ⊢
  have HS := hide hS
  have HMO := hide MO
  have HSW := hide S
  have HF := hide hf
  have HSH := hide SH
  have HSI := hide SI
  have HJW := hide hjw
  have HIK := hide IK
  have HMK := hide MK
  clear hS MO S hf SH SI hjw IK MK
  go_enter Try.func16, Try.ntmps16
  go_wp2_with fail
  refine (HS.out _).mono ?_
  rintro e w1 ⟨rfl, hg⟩
  have HB := hide ((((Below.refl w.heap.size w).alloc (Nat.le_refl _) (.cells #[.int .i64 s0, .int .i64 s1, .int .i64 s2, .int .i64 s3, .int .i64 s4, .int .i64 s5] 36)).alloc (by simp) (.cells #[.slice none 0 0, .slice none 0 0, .bool false] 42)).trans (below_of_grown_none hg w.heap.size (by simp; omega)))
  have hb := below_of_grown_none hg (w.heap.size + 2) (by simp)
  have sz1 := hg.size
  simp only [World.size_alloc] at sz1
  have c0 := hb.cell (p := ⟨w.heap.size, 0, none⟩) (by simp)
  have c1 := hb.cell (p := ⟨w.heap.size, 1, none⟩) (by simp)
  have c2 := hb.cell (p := ⟨w.heap.size, 2, none⟩) (by simp)
  have c3 := hb.cell (p := ⟨w.heap.size, 3, none⟩) (by simp)
  have c4 := hb.cell (p := ⟨w.heap.size, 4, none⟩) (by simp)
  have c5 := hb.cell (p := ⟨w.heap.size, 5, none⟩) (by simp)
  have z0 := hb.cell (p := ⟨w.heap.size + 1, 0, none⟩) (by simp)
  have z1 := hb.cell (p := ⟨w.heap.size + 1, 1, none⟩) (by simp)
  have z2 := hb.cell (p := ⟨w.heap.size + 1, 2, none⟩) (by simp)
  have y0 := hb.frozen (p := ⟨w.heap.size + 1, 0, none⟩) (by simp)
  have y1 := hb.frozen (p := ⟨w.heap.size + 1, 1, none⟩) (by simp)
  have y2 := hb.frozen (p := ⟨w.heap.size + 1, 2, none⟩) (by simp)
  simp at c0 c1 c2 c3 c4 c5 z0 z1 z2 y0 y1 y2
  clear hb hg
  by_cases hne : P.n = want
  · subst hne
    go_wp2_with fail
    refine (HMO.out _).mono ?_
    rintro e w2 ⟨rfl, hw2⟩
    have B2 : Below w1.heap.size w1 w2 := by rw [hw2]; exact ((Below.refl _ w1).alloc (Nat.le_refl _) _).alloc (by simp) _
    have BX : Boxes w2 w1.heap.size (w1.heap.size + 1) ft ⟨s0, s1, s2, s3, s4, s5⟩ := by rw [hw2]; constructor <;> simp
    have sz2 : w2.heap.size = w1.heap.size + 2 := by rw [hw2]; simp
    have BW2 := HB.out.trans (B2.mono (by omega))
    have HBX := hide BX
    have HBW2 := hide BW2
    have HB2 := hide B2
    clear hw2 B2 BX BW2
    go_wp2_with fail
    refine (OfAny.play_all ((HSW.out.below HBW2.out (Nat.le_refl _)).mono (by omega)) HF.out ((HSH.out.below HBW2.out (Nat.le_refl _)).up (by omega)) hn63 ((HSI.out.below HBW2.out (Nat.le_refl _)).up (by omega)) HJW.out HIK.out (fun w' hb => HMK.out w' _ _ (HBX.out.below hb (by omega) (by omega)))).mono ?_
    rintro e w3 ⟨hb3, hc3⟩
    have sz3 := hb3.size
    have LA : LAll K P.n w2 P f most e w3 := ⟨hb3, by
      rcases hc3 with ⟨er, h1, h2⟩ | ⟨h1, h2, v, h3, h4⟩
      · exact .inl ⟨er, .inr ⟨rfl, h1⟩, h2⟩
      · exact .inr ⟨rfl, h1, h2, v, h3, told_touch h4 ((Touch.refl w3 (fun k => k = 0))) (by omega) (by omega)⟩⟩
    obtain ⟨sa, k, sc, wa, n, wc, en, aa, m, ac, er, rfl⟩ := LA.shape
    have hb13 := HB2.out.trans (hb3.mono (by omega))
    have u0 := (hb13.cell (p := ⟨w.heap.size + 1, 0, none⟩) (by show w.heap.size + 1 < _; omega)).trans z0
    have u1 := (hb13.cell (p := ⟨w.heap.size + 1, 1, none⟩) (by show w.heap.size + 1 < _; omega)).trans z1
    have u2 := (hb13.cell (p := ⟨w.heap.size + 1, 2, none⟩) (by show w.heap.size + 1 < _; omega)).trans z2
    have v0 := (hb13.frozen (p := ⟨w.heap.size + 1, 0, none⟩) (by show w.heap.size + 1 < _; omega)).trans y0
    have v1 := (hb13.frozen (p := ⟨w.heap.size + 1, 1, none⟩) (by show w.heap.size + 1 < _; omega)).trans y1
    have v2 := (hb13.frozen (p := ⟨w.heap.size + 1, 2, none⟩) (by show w.heap.size + 1 < _; omega)).trans y2
    have FIN := hide (LA.up HBW2.out (touch3 w3 (w.heap.size + 1) (.slice sa k sc) (.slice wa n wc) (.bool en)) (by omega) (by omega))
    clear hb3 hc3 LA hb13 c0 c1 c2 c3 c4 c5 z0 z1 z2 y0 y1 y2
    unfold tv3
    go_wp2_with fail
    go_light
    refine bodyPost_ret (v := tv3 sa k sc wa n wc en aa m ac er) ?_ rfl FIN.out
    simp [results, Try.results16, go_sem, tv3, *]
  · have hne' : ¬ (P.n : Int) = (want : Int) := by omega
    go_wp2_with fail
    go_light
    refine bodyPost_ret (v := errVal 121) ?_ rfl ⟨((HB.out.setCell (by simp) _).setCell (by simp) _).setCell (by simp) _, .inl ⟨121, .inl ⟨hne, rfl⟩, rfl⟩⟩
    simp [results, Try.results16, go_sem, errVal, *]
end Go.Proofs.Ytgaafdfekgnccaa

/-
  The reference's run between two steps.
-/
namespace Go.Proofs.Ytgaafdfekgnccaa
open Go.RowKit
set_option linter.unusedVariables false
set_option linter.unusedSimpArgs false
set_option linter.unnecessarySimpa false
set_option maxRecDepth 20000
open Beg

/-- The run's own variable, as a list. -/
def rvL (sh : Shp) (P : Par) (blk : Rl → Nat) (capw : Nat) (vh sv : Value) (la : Int) : List Value := runCells sh (.slice (some ⟨blk .words, 0, none⟩) P.n capw) vh (sl (blk .tasks) P.nh) (sl (blk .going) P.nh) (sl (blk .run) P.nh) (sl (blk .mem) P.nh) sv (sl (blk .answers) P.nh) la
theorem rvL_val (sh : Shp) (P : Par) (blk : Rl → Nat) (capw : Nat) (vh sv : Value) (la : Int) : rv sh P blk capw vh sv la = .agg (rvL sh P blk capw vh sv la).toArray := rfl
theorem rvL_len (sh : Shp) (P : Par) (blk : Rl → Nat) (capw : Nat) (vh sv : Value) (la : Int) : (rvL sh P blk capw vh sv la).length = 15 := rfl
theorem rvL_one {sh : Shp} {P : Par} {blk : Rl → Nat} {capw : Nat} {vh sv : Value} {la : Int} (h1 : vh.oneCell' = true) (h2 : sv.oneCell' = true) : ∀ v ∈ rvL sh P blk capw vh sv la, v.oneCell' = true := by
  simp [rvL, runCells, sl, Value.oneCell'] at *
  exact ⟨h1, h2⟩

end Go.Proofs.Ytgaafdfekgnccaa

/-
  The reference's comparisons: of steps, of traces.
-/
namespace Go.Proofs.Ytgaafdfekgnccaa
open Go.RowKit
set_option linter.unusedVariables false
set_option linter.unusedSimpArgs false
set_option linter.unnecessarySimpa false
set_option maxRecDepth 20000

theorem ex_not {ev : Operand → Value} {o : Oper} {w : World} {x : Operand} (ho : o.op = .unOp .not 4 x) (hx : ev x = .bool true) : (execOp ev o).run Try.prog w = .ok (.value (.bool false)) w := by
  simp [execOp, ho, hx, go_sem]
theorem field28 (w : World) (b : Nat) : (Instr.fieldAt 42 (.pointer (some ⟨b, 0, none⟩)) 0).run Try.prog w = .ok (.pointer (some ⟨b, 0, none⟩)) w := by simp [go_sem]
theorem agg26 (w : World) : (isAgg 40).run Try.prog w = .ok false w := by simp [go_sem]
theorem sz46 : (Try.prog.info? 122).map (·.size) = some 6 := by kernel_rfl
end Go.Proofs.Ytgaafdfekgnccaa

/-
  Single cells of rows that grow.
-/
namespace Go.Proofs.Ytgaafdfekgnccaa
open Go.RowKit
set_option linter.unusedVariables false
set_option linter.unusedSimpArgs false
set_option maxRecDepth 20000

/-- One cell of what a row that grows holds. -/
theorem grows_cell {blk : Rl → Nat} {c : Rl → Option Row} {r : Rl} {e : TypeId} {sz k : Nat} {xs : List Value} {v : Value} {w : World} {base : Nat} (h : Grows blk c r e sz k xs v) (H : Has w base blk c) (hl : xs.length = k * sz) (hk : 0 < k) :
    ∃ b cap, v = .slice (some ⟨b, 0, none⟩) k cap ∧ b < w.heap.size ∧ base ≤ b ∧ ∀ i u, xs[i]? = some u → w.cell? ⟨b, i, none⟩ = some u := by
  rcases h with ⟨rfl, _⟩ | ⟨cap, F, rfl, hc, hkc, hcm, hp⟩
  · omega
  · refine ⟨blk r, cap, rfl, H.lt hc, H.new _ _ hc, fun i u hu => ?_⟩
    have hi : i < xs.length := by rcases Nat.lt_or_ge i xs.length with l | l; exact l; rw [List.getElem?_eq_none l] at hu; cases hu
    have hlt : i < cap * sz := by have := Nat.mul_le_mul_right sz hkc; omega
    rw [H.cell hc hlt]
    show some (F i) = _
    rw [hp i u hu]

theorem stepCells_get (s : Nat → Stp) (k j i : Nat) (hj : j < k) (hi : i < 6) : (stepCells s k)[j * 6 + i]? = some ((s j).cell i) := by
  induction k with
  | zero => omega
  | succ k ih =>
    simp only [stepCells]
    by_cases e : j = k
    · subst e
      rw [List.getElem?_append_right (by rw [stepCells_length]; omega), stepCells_length, show j * 6 + i - j * 6 = i by omega]
      match i, hi with
      | 0, _ | 1, _ | 2, _ | 3, _ | 4, _ | 5, _ => rfl
    · rw [List.getElem?_append_left (by rw [stepCells_length]; omega)]
      exact ih (by omega)
def Ans.cell (x : Ans) (i : Nat) : Value := match i with | 0 => .bool x.ok | _ => .int .u64 x.val
theorem ansCells_get (a : Nat → Ans) (k j i : Nat) (hj : j < k) (hi : i < 2) : (ansCells a k)[j * 2 + i]? = some (Ans.cell (a j) i) := by
  induction k with
  | zero => omega
  | succ k ih =>
    simp only [ansCells]
    by_cases e : j = k
    · subst e
      rw [List.getElem?_append_right (by rw [ansCells_length]; omega), ansCells_length, show j * 2 + i - j * 2 = i by omega]
      match i, hi with
      | 0, _ | 1, _ => rfl
    · rw [List.getElem?_append_left (by rw [ansCells_length]; omega)]
      exact ih (by omega)

theorem row_arr (w : World) (arr : Array Value) (t : TypeId) : (w.alloc (.cells arr t)).rowIs w.heap.size t arr.size (fun i => arr.getD i undef) :=
  World.rowIs_alloc w arr t _ (fun i hi => by simp [Array.getD, hi])

end Go.Proofs.Ytgaafdfekgnccaa
