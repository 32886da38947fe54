/-
  Lemmas: HeapG, LtR, VsF, VsO, HeapP, WordVP.
-/
import Derived.Test.YtmikhglnomgbfaaGreatTp27
import Derived.Test.YtmikhglnomgbfaaGreatTp18
import Derived.Test.YtmikhglnomgbfaaGreatTp22
import Derived.Orders
import Derived.Test.YtmikhglnomgbfaaGreatTp26
import Derived.Deep.QuietTactic
import Derived.BigQuiet
namespace Go.Proofs.YtmikhglnomgbfaaGreat
set_option maxHeartbeats 8000000
open Go.RowKit
set_option linter.unusedVariables false
set_option linter.unusedSimpArgs false
set_option linter.unnecessarySimpa false
set_option maxRecDepth 20000
section
namespace Hp
theorem goon9 {id : Nat} {Q : Exit → Act → World → Prop} {a0 : Act} {w V : World} {b T nc bm bw n q : Nat} {C C' : Nat → Value} {f' : Nat → Int} {x : Stp} {F : FuncId} {o0 o1 o2 o3 o4 o5 o6 o7 o8 : Oper} {D : Nat} {ts : Array TypeId}
  (R : V.rowIs b T nc C) (M : IsMem V bm bw n f') (QZ : V.rowIs w.heap.size 75 6 zcell) (S : V.rangeAt q 0 x.cells) (hq : q < V.heap.size ∧ q ≠ b ∧ q ≠ bw ∧ q ≠ w.heap.size) (hne : b ≠ bm ∧ b ≠ bw ∧ w.heap.size ≠ b ∧ w.heap.size ≠ bm ∧ w.heap.size ≠ bw) (hnc : 1 < nc)
  (hC : ∀ i, i < nc → (fun i => if i = 1 then .func (.func F) #[.pointer (some ⟨b, 0, none⟩)] #[] else C i) i = C' i) (hm : Tryz.prog.follows .mixedOrders = true) (hk : RG.okB 9 #[o0, o1, o2, o3, o4, o5, o6, o7, o8] = true)
  (e0 : a0.eval (.tmp 0) = .pointer (some ⟨b, 0, none⟩)) (e4 : a0.eval (.tmp 4) = .pointer (some ⟨w.heap.size, 0, none⟩)) (e6 : a0.eval (.tmp 6) = .pointer (some ⟨q, 0, none⟩))
  (q0 : o0.dst = some D) (q1 : o1.dst = some (D + 1)) (q2 : o2.dst = some (D + 2)) (q3 : o3.dst = some (D + 3)) (q4 : o4.dst = some (D + 4)) (q5 : o5.dst = some (D + 5)) (q6 : o6.dst = some (D + 6)) (q7 : o7.dst = none) (q8 : o8.dst = some 5)
  (p0 : o0.op = .load 75 (.tmp 6)) (p1 : o1.op = .move (.tmp 0)) (p2 : o2.op = .nilCheck (.tmp (D + 1))) (p3 : o3.op = .fieldAddr T (.tmp (D + 2)) 0) (p4 : o4.op = .move (.tmp 0)) (p5 : o5.op = .makeFunc (Fn.func F) #[.tmp (D + 4)] #[]) (p6 : o6.op = Op.call { callee := Callee.value (Operand.func 57), args := #[.tmp (D + 3), .tmp (D + 5)], argTypes := ts }) (p7 : o7.op = .store 75 (.tmp 4) (.tmp D)) (p8 : o8.op = .assign (.tmp (D + 6)))
  (hfl : ∀ w' : World, (Instr.fieldAt T (.pointer (some ⟨b, 0, none⟩)) 0).run Tryz.prog w' = .ok (.pointer (some ⟨b, 0, none⟩)) w')
  (m2 : ⟨1, .data⟩ ∈ o2.after) (m3 : ⟨2, .data⟩ ∈ o3.after) (m5 : ⟨4, .data⟩ ∈ o5.after) (m6 : ⟨3, .data⟩ ∈ o6.after) (m6' : ⟨5, .data⟩ ∈ o6.after) (m7 : ⟨0, .data⟩ ∈ o7.after) (m8 : ⟨6, .data⟩ ∈ o8.after) (hD : 7 ≤ D) (hs : D + 6 < a0.tmps.size)
  (fin : ∀ a w', a.eval (.tmp 4) = .pointer (some ⟨w.heap.size, 0, none⟩) → a.eval (.tmp 5) = .int .i64 0 → a.defers = a0.defers → w'.rangeAt w.heap.size 0 x.cells → w'.rowIs b T nc C' → IsMem w' bm bw n f' → Touch V w' (fun k => k = b ∨ k = bw ∨ k = w.heap.size) → Q .normal a w') :
  (Code.region id #[o0, o1, o2, o3, o4, o5, o6, o7, o8] true).wp Tryz.prog Q a0 V := by
 obtain ⟨dS, hdS1, hdS2⟩ := row46
 have nD : ∀ k, k < 7 → k ≠ 5 → ¬ RetN.D [(0, D), (1, D + 1), (2, D + 2), (3, D + 3), (4, D + 4), (5, D + 5), (6, D + 6), (8, 5)] k := fun k hk h5 => by simp [RetN.D]; omega
 refine RG.regionB (ks := [(0, D), (1, D + 1), (2, D + 2), (3, D + 3), (4, D + 4), (5, D + 5), (6, D + 6), (8, 5)]) (vals := fun i => match i with
   | 0 => x.val
   | 1 => .pointer (some ⟨b, 0, none⟩)
   | 2 => .pointer (some ⟨b, 0, none⟩)
   | 3 => .pointer (some ⟨b, 0, none⟩)
   | 4 => .pointer (some ⟨b, 0, none⟩)
   | 5 => .func (.func F) #[.pointer (some ⟨b, 0, none⟩)] #[]
   | 6 => .int .i64 0
   | 8 => .int .i64 0
   | _ => undef) (x := 2) (WI := fun L v_ w' => RG.SX b T nc (fun _ g_ i => if g_ = true then (if i = 1 then .func (.func F) #[.pointer (some ⟨b, 0, none⟩)] #[] else C i) else C i) bm bw n f' f' x w.heap.size (some q) V true (L 6) (L 7) w') 9 hm hk (by simp; omega) (by simp; omega) (by simp; omega) (RG.SX.start (c := true) (g := false) R (by simpa using M) QZ hne (fun k e => by cases e; exact ⟨S, hq⟩)) ?does ?fin
 case does =>
  intro i o ho
  have hi : i < 9 := RG.lt_of ho rfl
  match i, hi with
  | 0, _ => cases ho; exact RG.Does.read q0 (fun L v_ w' h => RG.SX.skip2 (by decide) (by decide) h) (fun L a w' hI hd => ex_load_row p0 ((hI.fix 6 (nD 6 (by omega) (by omega)) (by decide)).trans e6) (hI.world.var _ rfl).1 hdS1 hdS2 size46)
  | 1, _ => cases ho; exact RG.Does.read q1 (fun L v_ w' h => RG.SX.skip2 (by decide) (by decide) h) (fun L a w' hI hd => ex_move p1 ((hI.fix 0 (nD 0 (by omega) (by omega)) (by decide)).trans e0))
  | 2, _ => cases ho; exact RG.Does.read q2 (fun L v_ w' h => RG.SX.skip2 (by decide) (by decide) h) (fun L a w' hI hd => ex_nil p2 (hI.pure 1 _ _ rfl (hd _ m2 rfl)))
  | 3, _ => cases ho; exact RG.Does.read q3 (fun L v_ w' h => RG.SX.skip2 (by decide) (by decide) h) (fun L a w' hI hd => ex_field p3 (hI.pure 2 _ _ rfl (hd _ m3 rfl)) (hfl w'))
  | 4, _ => cases ho; exact RG.Does.read q4 (fun L v_ w' h => RG.SX.skip2 (by decide) (by decide) h) (fun L a w' hI hd => ex_move p4 ((hI.fix 0 (nD 0 (by omega) (by omega)) (by decide)).trans e0))
  | 5, _ => cases ho; exact RG.Does.read q5 (fun L v_ w' h => RG.SX.skip2 (by decide) (by decide) h) (fun L a w' hI hd => ex_func p5 (hI.pure 4 _ _ rfl (hd _ m5 rfl)))
  | 6, _ => cases ho; exact RG.Does.call q6 (fun L a w' hI hd => call2 p6 (hI.pure 3 _ _ rfl (hd _ m6 rfl)) (hI.pure 5 _ _ rfl (hd _ m6' rfl)) rfl (by simp [go_sem])) (fun L v_ w2 hI hL => by
    have h3 := hI
    rw [hL] at h3
    refine (goOn_any F h3.row (by omega)).mono ?_
    rintro e w3 ⟨rfl, r3, t3⟩
    refine ⟨rfl, ?_⟩
    rw [upd_same, upd_other _ _ (show 7 ≠ 6 by decide)]
    exact h3.turn (g' := true) (by simpa using r3) ⟨h3.mem.head.of_block (t3.block _ h3.mem.head.lt (fun e => hne.1 e.symm)), h3.mem.row.of_block (t3.block _ h3.mem.row.lt (fun e => hne.2.1 e.symm)), h3.mem.most, h3.mem.word⟩ t3 (fun k e => .inl e))
  | 7, _ => cases ho; exact RG.Does.put (ls := x.cells) q7 rfl p7 size46 (by simp [Stp.cells, Value.oneCell']) (fun L a w' hI hL hdd => ⟨(hI.pure 0 _ _ rfl (hdd _ m7 rfl)), by obtain ⟨e2, e3⟩ := RG.SX.put hI.world; exact ⟨w.heap.size, 0, (hI.fix 4 (nD 4 (by omega) (by omega)) (by decide)).trans e4, e2, by show RG.SX b T nc (fun _ g_ i => if g_ = true then (if i = 1 then .func (.func F) #[.pointer (some ⟨b, 0, none⟩)] #[] else C i) else C i) bm bw n f' f' x w.heap.size (some q) V true (upd L 7 true 6) (upd L 7 true 7) _; rw [upd_same, upd_other _ _ (show 6 ≠ 7 by decide)]; exact e3⟩⟩)
  | 8, _ => cases ho; exact RG.Does.read q8 (fun L v_ w' h => RG.SX.skip2 (by decide) (by decide) h) (fun L a w' hI hd => ex_assign p8 (hI.pure 6 _ _ rfl (hd _ m8 rfl)))
 case fin =>
  intro L a' w' hI hall
  have hw := hI.world
  simp only [hall 6 (by simp), hall 7 (by simp)] at hw
  exact fin a' w' ((hI.fix 4 (nD 4 (by omega) (by omega)) (by decide)).trans e4) (hI.pure 8 5 _ rfl (hall 8 (by simp))) hI.df (hw.sto rfl) (hw.row.congr (fun i hi => by simpa using hC i hi)) (by simpa using hw.mem) hw.tch
theorem goon9v {fn : Func} {a' : Act} {r : Nat} {w' : World} {x : Stp} {e : Int} (hf : fn.results = #[.cell 4 75, .tmp 5]) (pE : a'.eval (.tmp 4) = .pointer (some ⟨r, 0, none⟩)) (pe : a'.eval (.tmp 5) = .int .i64 e) (rE : w'.rangeAt r 0 x.cells) :
  (results fn a'.tmps).run Tryz.prog w' = .ok (.tuple #[x.val, .int .i64 e]) w' := by
 obtain ⟨dS, hdS1, hdS2⟩ := row46
 have hS := run_loadVar_mid (P := Tryz.prog) w' r 0 _ _ dS rE hdS1 hdS2 size46
 have hres := results_ct (Q := Tryz.prog) (fn := fn) (tmps := a'.tmps) (t := 4) (t' := 5) (W := w') hf pE hS
 rw [show a'.tmps.getD 5 undef = .int .i64 e from pe] at hres
 exact hres
end Hp
end
section
namespace Lt
def cnt (g : Nat → Bool) : Nat → Nat
  | 0 => 0
  | i + 1 => cnt g i + (if g i then 1 else 0)
theorem cnt_le (g : Nat → Bool) : ∀ i, cnt g i ≤ i
  | 0 => Nat.le_refl _
  | i + 1 => by have := cnt_le g i; simp only [cnt]; split <;> omega
theorem cnt_zero {g : Nat → Bool} : ∀ {n : Nat}, cnt g n = 0 → ∀ i, i < n → g i = false
  | 0, _, i, hi => absurd hi (by omega)
  | n + 1, h, i, hi => by
    simp only [cnt] at h
    cases hn : g n with
    | true => rw [hn] at h; simp at h
    | false =>
      by_cases e : i = n
      · subst e; exact hn
      · exact cnt_zero (n := n) (by rw [hn] at h; simpa using h) i (by omega)
def up (L : Nat → Bool) (i : Nat) : Nat → Bool := fun j => if j = i then true else L j
theorem up_same (L : Nat → Bool) (i : Nat) : up L i i = true := by simp [up]
theorem up_other (L : Nat → Bool) {i j : Nat} (h : j ≠ i) : up L i j = L j := by simp [up, h]
theorem cnt_up {L : Nat → Bool} {i : Nat} (hi : L i = false) : ∀ n, cnt (fun j => !(up L i) j) n + (if i < n then 1 else 0) = cnt (fun j => !L j) n
  | 0 => by simp [cnt]
  | n + 1 => by
    have ih := cnt_up hi n
    simp only [cnt]
    by_cases h : n = i
    · subst h
      simp only [up_same, Nat.lt_irrefl, if_false, Nat.add_zero] at ih ⊢
      simp [hi, ih]
    · have hu : up L i n = L n := up_other _ h
      have : (i < n + 1) = (i < n) := by apply propext; omega
      simp only [this, hu]
      omega
def lis (listed : Array Bool) : Nat → Bool := fun i => listed.getD i false
theorem lis_set {listed : Array Bool} {i : Nat} (hi : i < listed.size) : lis (listed.setIfInBounds i true) = up (lis listed) i := by
  funext j
  by_cases h : j = i
  · subst h; simp [lis, hi, up]
  · rw [up_other _ h]
    simp [lis, Array.getElem?_setIfInBounds_ne (Ne.symm h)]
section
variable {P : Program} {ops : Array Oper} {Q : Exit → Act → World → Prop} {md : Region.Mode}
theorem wpAny_inv (hback : ∀ (i : Nat) (o : Oper), ops[i]? = some o → ∀ e ∈ o.after, Region.binds md e = true → e.on < i) (I : (Nat → Bool) → Act → World → Prop)
    (hstep : ∀ (L : Nat → Bool) (a : Act) (w : World) (i : Nat) (o : Oper), I L a w → ops[i]? = some o → L i = false → (∀ e ∈ o.after, Region.binds md e = true → L e.on = true) → (Region.wanted o (yielded ops a.tmps) = true ∧ o.wp P a w (fun a' w' => I (up L i) a' w') Q) ∨ (Region.wanted o (yielded ops a.tmps) = false ∧ I (up L i) (a.put o.dst undef) w))
    (hend : ∀ (L : Nat → Bool) (a : Act) (w : World), I L a w → (∀ i, i < ops.size → L i = true) → Q .normal a w) :
    ∀ fuel listed a w, listed.size = ops.size → cnt (fun i => !(lis listed) i) ops.size ≤ fuel → I (lis listed) a w → wpAny P md ops Q fuel listed a w := by
  have none_ready : ∀ listed : Array Bool, listed.size = ops.size → Region.ready md ops listed = [] → ∀ i, i < ops.size → lis listed i = true := by
    intro listed hsz hr i
    induction i using Nat.strongRecOn with
    | ind i ih =>
      intro hi
      cases hl : lis listed i with
      | true => rfl
      | false =>
        exfalso
        have hm : i ∈ Region.ready md ops listed := by
          rw [mem_ready]
          refine ⟨?_, ops[i], by simp [hi], fun e he hb => ?_⟩
          · have hlt : i < listed.size := by omega
            simp only [lis] at hl
            simpa [hlt] using hl
          · have hlt := hback i ops[i] (by simp [hi]) e he hb
            exact ih e.on hlt (by omega)
        rw [hr] at hm
        cases hm
  intro fuel
  induction fuel with
  | zero =>
    intro listed a w hsz hc hI
    have hall : ∀ i, i < ops.size → lis listed i = true := fun i hi => by
      have := cnt_zero (g := fun i => !(lis listed) i) (n := ops.size) (by omega) i hi
      simpa using this
    refine ⟨?_, hend _ a w hI hall⟩
    cases hr : Region.ready md ops listed with
    | nil => rfl
    | cons x xs =>
      exfalso
      have hx : x ∈ Region.ready md ops listed := by rw [hr]; simp
      rw [mem_ready] at hx
      obtain ⟨h0, o, ho, _⟩ := hx
      have hlt : x < ops.size := (Array.getElem?_eq_some_iff.1 ho).1
      have := hall x hlt
      have hlt' : x < listed.size := by omega
      simp [lis, hlt'] at this
      simp [hlt'] at h0
      rw [h0] at this
      cases this
  | succ fuel ih =>
    intro listed a w hsz hc hI
    refine ⟨fun hr => hend _ a w hI (none_ready listed hsz hr), fun i hi => ?_⟩
    rw [mem_ready] at hi
    obtain ⟨h0, o, ho, hdep⟩ := hi
    have hlt : i < ops.size := (Array.getElem?_eq_some_iff.1 ho).1
    have hlt' : i < listed.size := by omega
    have hf : lis listed i = false := by simp [hlt'] at h0; simp [lis, hlt', h0]
    have hs := hstep (lis listed) a w i o hI ho hf hdep
    have go : ∀ a' w', I (up (lis listed) i) a' w' → wpAny P md ops Q fuel (listed.setIfInBounds i true) a' w' := fun a' w' h => by
      refine ih _ a' w' (by simpa using hsz) ?_ (by rw [lis_set hlt']; exact h)
      rw [lis_set hlt']
      have := cnt_up hf ops.size
      rw [if_pos hlt] at this
      omega
    unfold wpOp
    simp only [ho]
    rcases hs with ⟨hw, hs⟩ | ⟨hw, hs⟩
    · rw [if_pos hw]
      left
      exact Oper.wp_mono go hs
    · rw [hw]
      simp only [Bool.false_eq_true, if_false]
      exact go _ _ hs
theorem region_inv {id : Nat} {a : Act} {w : World} (hm : P.follows .mixedOrders = true) (hback : ∀ (i : Nat) (o : Oper), ops[i]? = some o → ∀ e ∈ o.after, Region.binds .any e = true → e.on < i) (I : (Nat → Bool) → Act → World → Prop)
    (hstep : ∀ (L : Nat → Bool) (a : Act) (w : World) (i : Nat) (o : Oper), I L a w → ops[i]? = some o → L i = false → (∀ e ∈ o.after, Region.binds .any e = true → L e.on = true) → (Region.wanted o (yielded ops a.tmps) = true ∧ o.wp P a w (fun a' w' => I (up L i) a' w') Q) ∨ (Region.wanted o (yielded ops a.tmps) = false ∧ I (up L i) (a.put o.dst undef) w))
    (hend : ∀ (L : Nat → Bool) (a : Act) (w : World), I L a w → (∀ i, i < ops.size → L i = true) → Q .normal a w)
    (h0 : I (fun _ => false) a { w with drawn := w.drawn + 1 }) : (Code.region id ops true).wp P Q a w := by
  refine wp_region_any hm (wpAny_inv hback I hstep hend _ _ a _ (by simp) ?_ ?_)
  · exact cnt_le _ _
  · have : lis (Array.replicate ops.size false) = fun _ => false := by
      funext i
      simp [lis, Array.getElem?_replicate]
      split <;> rfl
    rw [this]
    exact h0
end
theorem put_eval {a : Act} {d : Nat} {v : Value} (h : d < a.tmps.size) : (a.put (some d) v).eval (.tmp d) = v := by
  simp [Act.put, Act.eval, h]
theorem put_other {a : Act} {d k : Nat} {v : Value} (h : k ≠ d) : (a.put (some d) v).eval (.tmp k) = a.eval (.tmp k) :=
  Act.eval_put (fun d' hd he => by cases hd; cases he; exact h rfl)
theorem put_size {a : Act} {d : Option Nat} {v : Value} : (a.put d v).tmps.size = a.tmps.size := by
  cases d <;> simp [Act.put]
theorem put_defs {a : Act} {d : Option Nat} {v : Value} : (a.put d v).defers = a.defers := by
  cases d <;> rfl
def look (l : List (Nat × Nat)) (i : Nat) : Option Nat := (l.find? (fun p => p.1 == i)).map (·.2)
theorem look_mem {l : List (Nat × Nat)} {i d : Nat} (h : look l i = some d) : (i, d) ∈ l := by
  unfold look at h
  obtain ⟨p, hp, hd⟩ := Option.map_eq_some_iff.1 h
  have h1 := List.find?_some hp
  have h2 := List.mem_of_find?_eq_some hp
  simp at h1
  subst h1; subst hd
  exact h2
theorem notD {b : Bool} (h : b = false) : ¬ b = true := by simp [h]
def pv (ks : List (Nat × Nat)) (vals : Nat → Value) (i : Nat) : Option (Nat × Value) := (look ks i).map (fun d => (d, vals i))
def D (ks : List (Nat × Nat)) (k : Nat) : Prop := (ks.any (fun p => p.2 == k)) = true
structure In (ks : List (Nat × Nat)) (vals : Nat → Value) (WI : World → Prop) (a0 : Act) (L : Nat → Bool) (a : Act) (w : World) : Prop where
  sz : a.tmps.size = a0.tmps.size
  df : a.defers = a0.defers
  fix : ∀ k, ¬ D ks k → a.eval (.tmp k) = a0.eval (.tmp k)
  pure : ∀ i d v, pv ks vals i = some (d, v) → L i = true → a.eval (.tmp d) = v
  world : WI w
abbrev Deps (o : Oper) (L : Nat → Bool) : Prop := ∀ e ∈ o.after, Region.binds .any e = true → L e.on = true
inductive Does (P : Program) (Q : Exit → Act → World → Prop) (ops : Array Oper) (ks : List (Nat × Nat)) (vals : Nat → Value) (WI : World → Prop) (a0 : Act) (i : Nat) (o : Oper) : Prop where
  | run (dst : o.dst = look ks i) (wn : ∀ L a w, In ks vals WI a0 L a w → Deps o L → Region.wanted o (yielded ops a.tmps) = true) (wp : ∀ L a w (K : Act → World → Prop), In ks vals WI a0 L a w → Deps o L → (∀ w' v, (∀ d, o.dst = some d → v = vals i) → WI w' → K (a.put o.dst v) w') → o.wp P a w K Q)
  | skip (dst : o.dst = look ks i) (wn : ∀ L a w, In ks vals WI a0 L a w → Deps o L → Region.wanted o (yielded ops a.tmps) = false) (hv : vals i = undef)
theorem region {P : Program} {id : Nat} {ops : Array Oper} {Q : Exit → Act → World → Prop} {ks : List (Nat × Nat)} {vals : Nat → Value} {WI : World → Prop} {w0 : World} {a0 : Act}
    (hm : P.follows .mixedOrders = true) (hback : ∀ (i : Nat) (o : Oper), ops[i]? = some o → ∀ e ∈ o.after, Region.binds .any e = true → e.on < i)
    (hgood : (ks.all fun p => ks.all fun q => p.1 == q.1 || p.2 != q.2) = true) (hD : ∀ k, D ks k → k < a0.tmps.size) (hW0 : WI { w0 with drawn := w0.drawn + 1 })
    (does : ∀ (i : Nat) (o : Oper), ops[i]? = some o → Does P Q ops ks vals WI a0 i o)
    (fin : ∀ L a w, In ks vals WI a0 L a w → (∀ i, i < ops.size → L i = true) → Q .normal a w) :
    (Code.region id ops true).wp P Q a0 w0 := by
  simp only [List.all_eq_true, bne_iff_ne, Bool.or_eq_true, beq_iff_eq] at hgood
  have pvm : ∀ {i d v}, pv ks vals i = some (d, v) → (i, d) ∈ ks := fun {i d v} h => by
    obtain ⟨d', h1, h2⟩ := Option.map_eq_some_iff.1 h
    cases h2; exact look_mem h1
  refine region_inv hm hback (fun L a w => In ks vals WI a0 L a w) ?step (fun L a w h hall => fin L a w h hall) ?start
  case start => exact ⟨rfl, rfl, fun _ _ => rfl, fun _ _ _ _ h => (by cases h), hW0⟩
  case step =>
    rintro L a w i o h ho hL hd
    have on : ∀ w' v, o.dst = look ks i → (∀ d, o.dst = some d → v = vals i) → WI w' → In ks vals WI a0 (up L i) (a.put o.dst v) w' := fun w' v hdst hv hW => by
      cases hlk : look ks i with
      | none =>
        rw [hdst, hlk]
        refine ⟨h.sz, h.df, h.fix, fun j d' v' hj hLj => h.pure j d' v' hj ?_, hW⟩
        have hji : j ≠ i := fun e => by
          subst e
          obtain ⟨d'', h1, _⟩ := Option.map_eq_some_iff.1 hj
          rw [hlk] at h1; cases h1
        rwa [up_other _ hji] at hLj
      | some d =>
        have hv' := hv d (hdst.trans hlk)
        subst hv'
        rw [hdst, hlk]
        have hm' : (i, d) ∈ ks := look_mem hlk
        have hDd : D ks d := by simp only [D, List.any_eq_true, beq_iff_eq]; exact ⟨_, hm', rfl⟩
        have e : ∀ k : Nat, k ≠ d → (a.put (some d) (vals i)).eval (.tmp k) = a.eval (.tmp k) := fun k hk => put_other hk
        refine ⟨by rw [put_size]; exact h.sz, by rw [put_defs]; exact h.df, fun k hk => ?_, fun j d' v' hj hLj => ?_, hW⟩
        · rw [e k (fun he => hk (he ▸ hDd))]; exact h.fix k hk
        · by_cases hij : j = i
          · subst hij
            rw [pv, hlk] at hj
            cases hj
            exact put_eval (by rw [h.sz]; exact hD _ hDd)
          · rw [up_other _ hij] at hLj
            have : d' ≠ d := by
              rcases hgood _ hm' _ (pvm hj) with e1 | e1
              · exact absurd e1.symm hij
              · exact Ne.symm e1
            rw [e d' this]
            exact h.pure j d' v' hj hLj
    rcases does i o ho with ⟨hdst, hwn, hwp⟩ | ⟨hdst, hwn, hv⟩
    · exact .inl ⟨hwn L a w h hd, hwp L a w _ h hd (fun w' v hv hW => on w' v hdst hv hW)⟩
    · exact .inr ⟨hwn L a w h hd, on w undef hdst (fun _ _ => hv.symm) h.world⟩
section
variable {P : Program} {Q : Exit → Act → World → Prop} {ops : Array Oper} {ks : List (Nat × Nat)} {vals : Nat → Value} {WI : World → Prop} {a0 : Act} {i : Nat} {o : Oper}
theorem wn0 (hg : o.guard = none) {y : Nat → Option Bool} : Region.wanted o y = true := by simp [Region.wanted, hg]
theorem wnG {a : Act} {j d : Nat} {b c q : Bool} (hg : o.guard = some (j, b)) (hd : (ops[j]?).bind (·.dst) = some d) (hv : a.eval (.tmp d) = .bool c) (hq : (c == b) = q) : Region.wanted o (yielded ops a.tmps) = q := by
  have e : a.tmps[d]? = some (.bool c) := by
    cases h : a.tmps[d]? with
    | none => simp [Act.eval, h, undef] at hv
    | some v => simp [Act.eval, h] at hv; rw [hv]
  unfold Region.wanted yielded
  rw [hg]
  simp only [hd, Option.bind_some, e]
  rw [← hq]
  cases b <;> cases c <;> rfl
theorem wp_value {a : Act} {w : World} {K : Act → World → Prop} {v : Value} {w' : World} (h : (execOp a.eval o).run P w = .ok (.value v) w') (hk : K (a.put o.dst v) w') : o.wp P a w K Q := by
  unfold Oper.wp; rw [h]; exact hk
theorem wp_call {a : Act} {w : World} {K : Act → World → Prop} {f : FuncId} {args : Array Value} (hrun : (execOp a.eval o).run P w = .ok (.enter f args) w) (hc : Calls P f args w fun e w' => ∃ v, e = .returned v ∧ K (a.put o.dst v) w') : o.wp P a w K Q := by
  unfold Oper.wp
  rw [hrun, Oper.upon_enter]
  exact hc.mono (fun e w' ⟨v, he, hk⟩ => by subst he; exact hk)
theorem Does.read (hd : o.dst = look ks i) (wn : ∀ L a w, In ks vals WI a0 L a w → Deps o L → Region.wanted o (yielded ops a.tmps) = true) (h : ∀ L a w, In ks vals WI a0 L a w → Deps o L → (execOp a.eval o).run P w = .ok (.value (vals i)) w) : Does P Q ops ks vals WI a0 i o :=
  .run hd wn fun L a w K hI hdep hk => wp_value (h L a w hI hdep) (hk w _ (fun _ _ => rfl) hI.world)
theorem Does.make (hd : o.dst = look ks i) (wn : ∀ L a w, In ks vals WI a0 L a w → Deps o L → Region.wanted o (yielded ops a.tmps) = true) (h : ∀ L a w, In ks vals WI a0 L a w → Deps o L → ∃ w', (execOp a.eval o).run P w = .ok (.value (vals i)) w' ∧ WI w') : Does P Q ops ks vals WI a0 i o :=
  .run hd wn fun L a w K hI hdep hk => by
    obtain ⟨w', h1, h2⟩ := h L a w hI hdep
    exact wp_value h1 (hk w' _ (fun _ _ => rfl) h2)
theorem Does.call {f : FuncId} {args : Array Value} (hd : o.dst = look ks i) (wn : ∀ L a w, In ks vals WI a0 L a w → Deps o L → Region.wanted o (yielded ops a.tmps) = true) (h : ∀ L a w, In ks vals WI a0 L a w → Deps o L → (execOp a.eval o).run P w = .ok (.enter f args) w)
    (hc : ∀ w, WI w → Calls P f args w fun e w' => e = .returned (vals i) ∧ WI w') : Does P Q ops ks vals WI a0 i o :=
  .run hd wn fun L a w K hI hdep hk => wp_call (h L a w hI hdep) ((hc w hI.world).mono (by rintro e w' ⟨rfl, hw⟩; exact ⟨_, rfl, hk _ _ (fun _ _ => rfl) hw⟩))
end
theorem act_eq (a : Act) (l : List Value) (hd : a.defers = []) (hn : a.tmps.size = l.length) (h : ∀ k, k < l.length → a.eval (.tmp k) = l.getD k undef) : a = ⟨l.toArray, []⟩ := by
  obtain ⟨tmps, defers⟩ := a
  simp only at hn hd
  subst hd
  congr 1
  apply Array.ext
  · simp [hn]
  · intro i h1 h2
    have := h i (by omega)
    have h3 : i < l.length := by omega
    simpa [Act.eval, h1, h3] using this
section
variable {ev : Operand → Value} {o : Oper} {w : World}
theorem ex_move {x : Operand} {v : Value} (ho : o.op = .move x) (hx : ev x = v) : (execOp ev o).run Tryz.prog w = .ok (.value v) w := by simp [execOp, ho, hx]
theorem ex_assign {x : Operand} {v : Value} (ho : o.op = .assign x) (hx : ev x = v) : (execOp ev o).run Tryz.prog w = .ok (.value v) w := by simp [execOp, ho, hx]
theorem ex_extract {x : Operand} {vs : Array Value} {i : Nat} {v : Value} (ho : o.op = .extract x i) (hx : ev x = .tuple vs) (hv : vs[i]? = some v) : (execOp ev o).run Tryz.prog w = .ok (.value v) w := by
  simp [execOp, ho, hx, go_sem, hv]
theorem ex_pick {x y z : Operand} {b : Bool} {v : Value} (ho : o.op = .pick x y z) (hx : ev x = .bool b) (hv : (if b = true then ev y else ev z) = v) : (execOp ev o).run Tryz.prog w = .ok (.value v) w := by
  cases b <;> simp at hv <;> simp [execOp, ho, hx, hv, go_sem]
theorem ex_load {x : Operand} {ty : TypeId} {a : Addr} {v : Value} (ho : o.op = .load ty x) (hx : ev x = .pointer (some a)) (hagg : (isAgg ty).run Tryz.prog w = .ok false w) (hc : w.cell? a = some v) : (execOp ev o).run Tryz.prog w = .ok (.value v) w := by
  simp [execOp, ho, hx, Instr.loadAt, Instr.sureAddr, loadVar, Sem.run_bind, hagg, go_sem, hc]
theorem ex_field {x : Operand} {b k q : Nat} {ty : TypeId} (ho : o.op = .fieldAddr ty x k) (hx : ev x = .pointer (some ⟨b, 0, none⟩)) (hf : (Instr.fieldAt ty (.pointer (some ⟨b, 0, none⟩)) k).run Tryz.prog w = .ok (.pointer (some ⟨b, q, none⟩)) w) : (execOp ev o).run Tryz.prog w = .ok (.value (.pointer (some ⟨b, q, none⟩))) w := by
  simp [execOp, ho, hx, hf]
theorem call1 {f : FuncId} {x0 : Operand} {ts : Array TypeId} {v0 : Value} (ho : o.op = Op.call { callee := Callee.value (Operand.func f), args := #[x0], argTypes := ts }) (h0 : ev x0 = v0) (hf : ev (Operand.func f) = .func (.func f) #[] #[]) (hcf : (callFunc f #[v0]).run Tryz.prog w = .ok (.enter f #[v0]) w) :
    (execOp ev o).run Tryz.prog w = .ok (.enter f #[v0]) w := by
  simp [execOp, ho, h0, hf, resolve, invoke, go_sem, hcf]
theorem call2 {f : FuncId} {x0 x1 : Operand} {ts : Array TypeId} {v0 v1 : Value} (ho : o.op = Op.call { callee := Callee.value (Operand.func f), args := #[x0, x1], argTypes := ts }) (h0 : ev x0 = v0) (h1 : ev x1 = v1) (hf : ev (Operand.func f) = .func (.func f) #[] #[]) (hcf : (callFunc f #[v0, v1]).run Tryz.prog w = .ok (.enter f #[v0, v1]) w) :
    (execOp ev o).run Tryz.prog w = .ok (.enter f #[v0, v1]) w := by
  simp [execOp, ho, h0, h1, hf, resolve, invoke, go_sem, hcf]
theorem call3 {f : FuncId} {x0 x1 x2 : Operand} {ts : Array TypeId} {v0 v1 v2 : Value} (ho : o.op = Op.call { callee := Callee.value (Operand.func f), args := #[x0, x1, x2], argTypes := ts }) (h0 : ev x0 = v0) (h1 : ev x1 = v1) (h2 : ev x2 = v2) (hf : ev (Operand.func f) = .func (.func f) #[] #[]) (hcf : (callFunc f #[v0, v1, v2]).run Tryz.prog w = .ok (.enter f #[v0, v1, v2]) w) :
    (execOp ev o).run Tryz.prog w = .ok (.enter f #[v0, v1, v2]) w := by
  simp [execOp, ho, h0, h1, h2, hf, resolve, invoke, go_sem, hcf]
theorem call4 {f : FuncId} {x0 x1 x2 x3 : Operand} {ts : Array TypeId} {v0 v1 v2 v3 : Value} (ho : o.op = Op.call { callee := Callee.value (Operand.func f), args := #[x0, x1, x2, x3], argTypes := ts }) (h0 : ev x0 = v0) (h1 : ev x1 = v1) (h2 : ev x2 = v2) (h3 : ev x3 = v3) (hf : ev (Operand.func f) = .func (.func f) #[] #[]) (hcf : (callFunc f #[v0, v1, v2, v3]).run Tryz.prog w = .ok (.enter f #[v0, v1, v2, v3]) w) :
    (execOp ev o).run Tryz.prog w = .ok (.enter f #[v0, v1, v2, v3]) w := by
  simp [execOp, ho, h0, h1, h2, h3, hf, resolve, invoke, go_sem, hcf]
theorem ex_addI {x y : Operand} {m n z : Int} (ho : o.op = .binOp .add 3 x y 3) (hx : ev x = .int .i64 m) (hy : ev y = .int .i64 n) (hz : IntKind.i64.wrap (m + n) = z) : (execOp ev o).run Tryz.prog w = .ok (.value (.int .i64 z)) w := by
  subst hz; simp [execOp, ho, hx, hy, go_sem]
theorem ex_subI {x y : Operand} {m n z : Int} (ho : o.op = .binOp .sub 3 x y 3) (hx : ev x = .int .i64 m) (hy : ev y = .int .i64 n) (hz : IntKind.i64.wrap (m - n) = z) : (execOp ev o).run Tryz.prog w = .ok (.value (.int .i64 z)) w := by
  subst hz; simp [execOp, ho, hx, hy, go_sem]
theorem ex_mulI {x y : Operand} {m n z : Int} (ho : o.op = .binOp .mul 3 x y 3) (hx : ev x = .int .i64 m) (hy : ev y = .int .i64 n) (hz : IntKind.i64.wrap (m * n) = z) : (execOp ev o).run Tryz.prog w = .ok (.value (.int .i64 z)) w := by
  subst hz; simp [execOp, ho, hx, hy, go_sem]
theorem isRow_of {ty : TypeId} (h : (Tryz.prog.underlying ty).map (fun d => d.isRow) = some true) : ∃ d, Tryz.prog.underlying ty = some d ∧ d.isRow = true := Option.map_eq_some_iff.1 h
theorem ex_load_row {x : Operand} {ty : TypeId} {b off : Nat} {cs : List Value} (ho : o.op = .load ty x) (hx : ev x = .pointer (some ⟨b, off, none⟩)) (hc : w.rangeAt b off cs) (hu : (Tryz.prog.underlying ty).map (fun d => d.isRow) = some true) (hi : (Tryz.prog.info? ty).map (·.size) = some cs.length) :
    (execOp ev o).run Tryz.prog w = .ok (.value (.agg cs.toArray)) w := by
  obtain ⟨d, h1, h2⟩ := isRow_of hu
  simp [execOp, ho, hx, run_loadAt_mid w b off ty cs d hc h1 h2 hi]
end
end Lt
end
section
namespace Shape
theorem rng {w' : World} {b : Nat} {v0 v1 v2 v3 v4 v5 : Value} (y0 : w'.cell? ⟨b, 0, none⟩ = some v0) (y1 : w'.cell? ⟨b, 1, none⟩ = some v1) (y2 : w'.cell? ⟨b, 2, none⟩ = some v2) (y3 : w'.cell? ⟨b, 3, none⟩ = some v3) (y4 : w'.cell? ⟨b, 4, none⟩ = some v4) (y5 : w'.cell? ⟨b, 5, none⟩ = some v5) : w'.rangeAt b 0 [v0, v1, v2, v3, v4, v5] := by
 intro j v hv
 match j, hv with
 | 0, hv => cases hv; simpa using y0
 | 1, hv => cases hv; simpa using y1
 | 2, hv => cases hv; simpa using y2
 | 3, hv => cases hv; simpa using y3
 | 4, hv => cases hv; simpa using y4
 | 5, hv => cases hv; simpa using y5
end Shape
end
section
namespace Shape
theorem slot_arg1 {s0 s1 s2 s3 s4 s5 : Int} {a b : Int} (H : R5 s0 s1 s2 s3 s4) (ha : ¬ (1 ≤ a ∧ a ≤ s0)) (w : World) : Calls Tryz.prog 90 #[.agg #[.int .i64 s0, .int .i64 s1, .int .i64 s2, .int .i64 s3, .int .i64 s4, .int .i64 s5], .int .i64 a, .int .i64 b] w fun e w' => e = .returned (.tuple #[.int .i64 0, .int .i64 2]) ∧ Below w.heap.size w w' := by
 have HH := hide H
 have T1 := hide (fun w1 : World => within_f ha w1)
 clear H ha
 obtain ⟨W0, hW0, B0, K⟩ := box w s0 s1 s2 s3 s4 s5
 have HB := hide B0
 obtain ⟨-, l0, x0, x1, x2, x3, x4, x5⟩ := K.out W0 (Below.refl _ _)
 clear B0
 go_enter Tryz.func90, Tryz.ntmps90
 go_wp2_with fail
 refine Lt.region (ks := [(0, 9), (1, 10), (2, 11), (3, 12), (4, 13), (5, 14), (6, 15), (7, 16), (8, 17), (9, 18), (10, 19), (11, 20), (12, 8)]) (vals := fun iv => match iv with
   | 0 => .agg #[.int .i64 s0, .int .i64 s1, .int .i64 s2, .int .i64 s3, .int .i64 s4, .int .i64 s5]
   | 1 => .int .i64 a
   | 2 => .pointer (some ⟨w.heap.size, 0, none⟩)
   | 3 => .int .i64 s0
   | 4 => .bool false
   | 5 => .bool false
   | 6 => undef
   | 7 => undef
   | 8 => undef
   | 9 => undef
   | 10 => .bool false
   | 11 => .int .i64 2
   | 12 => .int .i64 2
   | _ => undef) (WI := fun w' => Below W0.heap.size W0 w') (by kernel_rfl) ?bk rfl ?dd (⟨rfl, rfl, rfl, Nat.le_refl _, fun _ _ => rfl⟩) ?does ?fin
 case bk =>
  intro iq oq ho
  have hiq : iq < 13 := by have := (Array.getElem?_eq_some_iff.1 ho).1; simpa using this
  match iq, hiq with
  | 0, _ | 1, _ | 2, _ | 3, _ | 4, _ | 5, _ | 6, _ | 7, _ | 8, _ | 9, _ | 10, _ | 11, _ | 12, _ => injection ho with ho; subst ho; simp [Region.binds]
 case dd =>
  intro k hk
  have hk' : k < 30 := by
   simp [Lt.D] at hk
   omega
  simpa using hk'
 case does =>
  intro iq oq ho
  have hiq : iq < 13 := by have := (Array.getElem?_eq_some_iff.1 ho).1; simpa using this
  match iq, hiq with
  | 0, _ => injection ho with ho; subst ho; exact Lt.Does.read rfl (fun Lq aq w' hI hq => Lt.wn0 rfl) (fun Lq aq w' hI hq => Lt.ex_load_row rfl (hI.fix 3 (Lt.notD rfl)) (by obtain ⟨-, -, y0, y1, y2, y3, y4, y5⟩ := K.out w' hI.world; exact rng y0 y1 y2 y3 y4 y5) (by kernel_rfl) (by kernel_rfl))
  | 1, _ => injection ho with ho; subst ho; exact Lt.Does.read rfl (fun Lq aq w' hI hq => Lt.wn0 rfl) (fun Lq aq w' hI hq => Lt.ex_move rfl (hI.fix 1 (Lt.notD rfl)))
  | 2, _ => injection ho with ho; subst ho; exact Lt.Does.read rfl (fun Lq aq w' hI hq => Lt.wn0 rfl) (fun Lq aq w' hI hq => Lt.ex_field rfl (hI.fix 3 (Lt.notD rfl)) (by simp [go_sem]))
  | 3, _ => injection ho with ho; subst ho; exact Lt.Does.read rfl (fun Lq aq w' hI hq => Lt.wn0 rfl) (fun Lq aq w' hI hq => Lt.ex_load rfl (hI.pure 2 _ _ rfl (hq ⟨2, .data⟩ (by simp) rfl)) (by simp [go_sem]) (by obtain ⟨-, -, y0, y1, y2, y3, y4, y5⟩ := K.out w' hI.world; exact y0))
  | 4, _ => injection ho with ho; subst ho; exact Lt.Does.call rfl (fun Lq aq w' hI hq => Lt.wn0 rfl) (fun Lq aq w' hI hq => Lt.call3 rfl (hI.pure 1 _ _ rfl (hq ⟨1, .data⟩ (by simp) rfl)) rfl (hI.pure 3 _ _ rfl (hq ⟨3, .data⟩ (by simp) rfl)) rfl (by simp [go_sem])) (fun w1 hw1 => (T1.out w1).mono (by rintro e w2 ⟨rfl, hw2⟩; obtain rfl := hw2.symm; exact ⟨rfl, hw1⟩))
  | 5, _ => injection ho with ho; subst ho; exact Lt.Does.read rfl (fun Lq aq w' hI hq => Lt.wn0 rfl) (fun Lq aq w' hI hq => Lt.ex_move rfl (hI.pure 4 _ _ rfl (hq ⟨4, .data⟩ (by simp) rfl)))
  | 6, _ => injection ho with ho; subst ho; exact .skip rfl (fun Lq aq w' hI hq => Lt.wnG (d := 14) (c := false) rfl rfl (hI.pure 5 _ _ rfl (hq ⟨5, .guard⟩ (by simp) rfl)) rfl) rfl
  | 7, _ => injection ho with ho; subst ho; exact .skip rfl (fun Lq aq w' hI hq => Lt.wnG (d := 14) (c := false) rfl rfl (hI.pure 5 _ _ rfl (hq ⟨5, .guard⟩ (by simp) rfl)) rfl) rfl
  | 8, _ => injection ho with ho; subst ho; exact .skip rfl (fun Lq aq w' hI hq => Lt.wnG (d := 14) (c := false) rfl rfl (hI.pure 5 _ _ rfl (hq ⟨5, .guard⟩ (by simp) rfl)) rfl) rfl
  | 9, _ => injection ho with ho; subst ho; exact .skip rfl (fun Lq aq w' hI hq => Lt.wnG (d := 14) (c := false) rfl rfl (hI.pure 5 _ _ rfl (hq ⟨5, .guard⟩ (by simp) rfl)) rfl) rfl
  | 10, _ => injection ho with ho; subst ho; exact Lt.Does.read rfl (fun Lq aq w' hI hq => Lt.wn0 rfl) (fun Lq aq w' hI hq => Lt.ex_pick (b := false) rfl (hI.pure 5 _ _ rfl (hq ⟨5, .data⟩ (by simp) rfl)) (by first | exact rfl | simpa using rfl))
  | 11, _ => injection ho with ho; subst ho; exact Lt.Does.call rfl (fun Lq aq w' hI hq => Lt.wn0 rfl) (fun Lq aq w' hI hq => Lt.call2 rfl (hI.pure 0 _ _ rfl (hq ⟨0, .data⟩ (by simp) rfl)) (hI.pure 10 _ _ rfl (hq ⟨10, .data⟩ (by simp) rfl)) rfl (by simp [go_sem])) (fun w1 hw1 => (cw_arg HH.out w1).mono (by rintro e w2 ⟨rfl, hb⟩; exact ⟨rfl, hw1.trans (hb.mono hw1.size)⟩))
  | 12, _ => injection ho with ho; subst ho; exact Lt.Does.read rfl (fun Lq aq w' hI hq => Lt.wn0 rfl) (fun Lq aq w' hI hq => Lt.ex_assign rfl (hI.pure 11 _ _ rfl (hq ⟨11, .data⟩ (by simp) rfl)))
 case fin =>
  intro Lq a' w' hI hall
  have hw := hI.world
  obtain rfl : a' = ⟨#[.agg #[.int .i64 s0, .int .i64 s1, .int .i64 s2, .int .i64 s3, .int .i64 s4, .int .i64 s5], .int .i64 a, .int .i64 b, .pointer (some ⟨w.heap.size, 0, none⟩), undef, undef, .int .i64 0, .int .i64 0, .int .i64 2, .agg #[.int .i64 s0, .int .i64 s1, .int .i64 s2, .int .i64 s3, .int .i64 s4, .int .i64 s5], .int .i64 a, .pointer (some ⟨w.heap.size, 0, none⟩), .int .i64 s0, .bool false, .bool false, undef, undef, undef, undef, .bool false, .int .i64 2, undef, undef, undef, undef, undef, undef, undef, undef, undef], []⟩ := Lt.act_eq a' [.agg #[.int .i64 s0, .int .i64 s1, .int .i64 s2, .int .i64 s3, .int .i64 s4, .int .i64 s5], .int .i64 a, .int .i64 b, .pointer (some ⟨w.heap.size, 0, none⟩), undef, undef, .int .i64 0, .int .i64 0, .int .i64 2, .agg #[.int .i64 s0, .int .i64 s1, .int .i64 s2, .int .i64 s3, .int .i64 s4, .int .i64 s5], .int .i64 a, .pointer (some ⟨w.heap.size, 0, none⟩), .int .i64 s0, .bool false, .bool false, undef, undef, undef, undef, .bool false, .int .i64 2, undef, undef, undef, undef, undef, undef, undef, undef, undef] hI.df (by rw [hI.sz]; rfl) (fun k hk => by
   have hk' : k < 30 := hk
   match k, hk' with
   | 0, _ => exact hI.fix 0 (Lt.notD rfl)
   | 1, _ => exact hI.fix 1 (Lt.notD rfl)
   | 2, _ => exact hI.fix 2 (Lt.notD rfl)
   | 3, _ => exact hI.fix 3 (Lt.notD rfl)
   | 4, _ => exact hI.fix 4 (Lt.notD rfl)
   | 5, _ => exact hI.fix 5 (Lt.notD rfl)
   | 6, _ => exact hI.fix 6 (Lt.notD rfl)
   | 7, _ => exact hI.fix 7 (Lt.notD rfl)
   | 8, _ => exact hI.pure 12 8 _ rfl (hall 12 (by decide))
   | 9, _ => exact hI.pure 0 9 _ rfl (hall 0 (by decide))
   | 10, _ => exact hI.pure 1 10 _ rfl (hall 1 (by decide))
   | 11, _ => exact hI.pure 2 11 _ rfl (hall 2 (by decide))
   | 12, _ => exact hI.pure 3 12 _ rfl (hall 3 (by decide))
   | 13, _ => exact hI.pure 4 13 _ rfl (hall 4 (by decide))
   | 14, _ => exact hI.pure 5 14 _ rfl (hall 5 (by decide))
   | 15, _ => exact hI.pure 6 15 _ rfl (hall 6 (by decide))
   | 16, _ => exact hI.pure 7 16 _ rfl (hall 7 (by decide))
   | 17, _ => exact hI.pure 8 17 _ rfl (hall 8 (by decide))
   | 18, _ => exact hI.pure 9 18 _ rfl (hall 9 (by decide))
   | 19, _ => exact hI.pure 10 19 _ rfl (hall 10 (by decide))
   | 20, _ => exact hI.pure 11 20 _ rfl (hall 11 (by decide))
   | 21, _ => exact hI.fix 21 (Lt.notD rfl)
   | 22, _ => exact hI.fix 22 (Lt.notD rfl)
   | 23, _ => exact hI.fix 23 (Lt.notD rfl)
   | 24, _ => exact hI.fix 24 (Lt.notD rfl)
   | 25, _ => exact hI.fix 25 (Lt.notD rfl)
   | 26, _ => exact hI.fix 26 (Lt.notD rfl)
   | 27, _ => exact hI.fix 27 (Lt.notD rfl)
   | 28, _ => exact hI.fix 28 (Lt.notD rfl)
   | 29, _ => exact hI.fix 29 (Lt.notD rfl)
   | q + 30, hq => exact absurd hq (by omega))
  rename_i K2 hK2
  refine hK2 _ _ ?_
  go_wp2_with fail
  go_ret2
  exact ⟨rfl, (K.out _ hw).1⟩
theorem slot_arg2 {s0 s1 s2 s3 s4 s5 : Int} {a b : Int} (H : R5 s0 s1 s2 s3 s4) (ha : 1 ≤ a ∧ a ≤ s0) (hb : ¬ (0 ≤ b ∧ b < s1)) (w : World) : Calls Tryz.prog 90 #[.agg #[.int .i64 s0, .int .i64 s1, .int .i64 s2, .int .i64 s3, .int .i64 s4, .int .i64 s5], .int .i64 a, .int .i64 b] w fun e w' => e = .returned (.tuple #[.int .i64 0, .int .i64 2]) ∧ Below w.heap.size w w' := by
 have HH := hide H
 have T1 := hide (fun w1 : World => within_t ha.1 ha.2 w1)
 have T2 := hide (fun w1 : World => isn_f hb w1)
 clear H ha hb
 obtain ⟨W0, hW0, B0, K⟩ := box w s0 s1 s2 s3 s4 s5
 have HB := hide B0
 obtain ⟨-, l0, x0, x1, x2, x3, x4, x5⟩ := K.out W0 (Below.refl _ _)
 clear B0
 go_enter Tryz.func90, Tryz.ntmps90
 go_wp2_with fail
 go_region_held (fun w' => w'.cell? ⟨w.heap.size, 0, none⟩ = some (.int .i64 s0) ∧ w'.cell? ⟨w.heap.size, 1, none⟩ = some (.int .i64 s1) ∧ w'.cell? ⟨w.heap.size, 2, none⟩ = some (.int .i64 s2) ∧ w'.cell? ⟨w.heap.size, 3, none⟩ = some (.int .i64 s3) ∧ w'.cell? ⟨w.heap.size, 4, none⟩ = some (.int .i64 s4) ∧ w'.cell? ⟨w.heap.size, 5, none⟩ = some (.int .i64 s5)) (go_keep) (first | (go_at_call 77; refine (T1.out _).mono ?_; rintro e wq ⟨rfl, hwq⟩; obtain rfl := hwq.symm) | (go_at_call 108; refine (T2.out _).mono ?_; rintro e wq ⟨rfl, hwq⟩; obtain rfl := hwq.symm) | (go_at_call 107; refine (cw_arg HH.out _).mono ?_; rintro e w1 ⟨rfl, hb1⟩; have HB1 := hide (show Below W0.heap.size W0 w1 from ⟨hb1.os, hb1.tape, hb1.output, hb1.size, hb1.block⟩); clear hb1; obtain ⟨-, m1, y10, y11, y12, y13, y14, y15⟩ := K.out w1 HB1.out))
 all_goals go_wp2_with fail
 all_goals go_ret2
 all_goals exact ⟨rfl, (K.out _ HB1.out).1⟩
theorem slot_ok {o s h r k : Nat} {s5 : Int} {a b p q : Nat} (H : (⟨o, s, h, r, k⟩ : Sh).Ok) (hp : h * r = p) (ha1 : 1 ≤ a) (ha : a ≤ o) (hq : (a - 1) * (3 + s) = q) (hq2 : q ≤ 448) (hb : b < s) (w : World) : Calls Tryz.prog 90 #[.agg #[.int .i64 (o : Int), .int .i64 (s : Int), .int .i64 (h : Int), .int .i64 (r : Int), .int .i64 (k : Int), .int .i64 s5], .int .i64 (a : Int), .int .i64 (b : Int)] w fun e w' => e = .returned (.tuple #[.int .i64 (8 + (h : Int) + (p : Int) + (k : Int) + (q : Int) + 3 + (b : Int)), .int .i64 0]) ∧ Below w.heap.size w w' := by
 have HH := hide (r5 H)
 obtain ⟨b1, b2, b3, b4, b5, b6, b7, b8, b9, b10⟩ := bnds H
 rw [hp] at b6
 have T1 := hide (fun w1 : World => within_t (n := (a : Int)) (lo := 1) (hi := (o : Int)) (by omega) (by omega) w1)
 have T2 := hide (fun w1 : World => isn_t (n := (b : Int)) (c := (s : Int)) (by omega) (by omega) w1)
 have RA := hide (fun w1 => objectAt_any (o := o) (s := s) (h := h) (r := r) (k := k) (s5 := s5) (i := a) (p := p) (q := q) b3 b2 b5 hp (by omega) ha1 (by omega) hq hq2 w1)
 clear hp hq
 clear H b7
 obtain ⟨W0, hW0, B0, K⟩ := box w (o : Int) (s : Int) (h : Int) (r : Int) (k : Int) s5
 have HB := hide B0
 obtain ⟨-, l0, x0, x1, x2, x3, x4, x5⟩ := K.out W0 (Below.refl _ _)
 clear B0
 go_enter Tryz.func90, Tryz.ntmps90
 go_wp2_with fail
 go_region_held (fun w' => w'.cell? ⟨w.heap.size, 0, none⟩ = some (.int .i64 (o : Int)) ∧ w'.cell? ⟨w.heap.size, 1, none⟩ = some (.int .i64 (s : Int)) ∧ w'.cell? ⟨w.heap.size, 2, none⟩ = some (.int .i64 (h : Int)) ∧ w'.cell? ⟨w.heap.size, 3, none⟩ = some (.int .i64 (r : Int)) ∧ w'.cell? ⟨w.heap.size, 4, none⟩ = some (.int .i64 (k : Int)) ∧ w'.cell? ⟨w.heap.size, 5, none⟩ = some (.int .i64 s5)) (go_keep) (first | (go_at_call 77; refine (T1.out _).mono ?_; rintro e wq ⟨rfl, hwq⟩; obtain rfl := hwq.symm) | (go_at_call 108; refine (T2.out _).mono ?_; rintro e wq ⟨rfl, hwq⟩; obtain rfl := hwq.symm) | (go_at_call 107; refine (cw_ok HH.out _).mono ?_; rintro e w1 ⟨rfl, hb1⟩; have HB1 := hide (show Below W0.heap.size W0 w1 from ⟨hb1.os, hb1.tape, hb1.output, hb1.size, hb1.block⟩); clear hb1; obtain ⟨-, m1, y10, y11, y12, y13, y14, y15⟩ := K.out w1 HB1.out))
 all_goals go_wp2_with (go_at_call 35; refine (RA.out _).mono ?_; rintro e w2 ⟨rfl, hb2⟩; have HB2 := hide (HB1.out.trans (hb2.mono HB1.out.size)); clear hb2)
 all_goals go_ret2
 all_goals exact ⟨rfl, (K.out _ HB2.out).1⟩
end Shape
end
section
namespace Hp
theorem natR5 {sh : Shp} (h : Shape.R5 sh.a sh.b sh.c sh.d sh.e) : ∃ o s hh r k : Nat, sh.a = o ∧ sh.b = s ∧ sh.c = hh ∧ sh.d = r ∧ sh.e = k ∧ (⟨o, s, hh, r, k⟩ : Shape.Sh).Ok := by
 obtain ⟨⟨a1, a2⟩, ⟨b1, b2⟩, ⟨c1, c2⟩, ⟨d1, d2⟩, e1, e2⟩ := h
 exact ⟨sh.a.toNat, sh.b.toNat, sh.c.toNat, sh.d.toNat, sh.e.toNat, by omega, by omega, by omega, by omega, by omega, by constructor <;> simp only <;> omega⟩
theorem object_no {sh : Shp} (h : Shape.R5 sh.a sh.b sh.c sh.d sh.e) {i : Int} (ht : ¬ there sh i) (w : World) : Calls Tryz.prog 109 #[sh.val, .int .i64 i] w fun e w' => e = .returned (.tuple #[.int .i64 0, .int .i64 2]) ∧ Below w.heap.size w w' := Shape.object_arg h ht w
theorem object_yes {sh : Shp} (h : Shape.R5 sh.a sh.b sh.c sh.d sh.e) {i : Int} (ht : there sh i) (w : World) : Calls Tryz.prog 109 #[sh.val, .int .i64 i] w fun e w' => e = .returned (.tuple #[.int .i64 (headAt sh i), .int .i64 0]) ∧ Below w.heap.size w w' := by
 obtain ⟨o, s, hh, r, k, e0, e1, e2, e3, e4, H⟩ := natR5 h
 obtain ⟨s0, s1, s2, s3, s4, s5⟩ := sh
 simp only at e0 e1 e2 e3 e4
 subst e0 e1 e2 e3 e4
 obtain ⟨h1, h2⟩ := ht
 simp only at h1 h2
 obtain ⟨a, rfl⟩ := Int.eq_ofNat_of_zero_le (show 0 ≤ i by omega)
 have ho : (a : Int) ≤ (o : Int) := h2
 have hq2 : (a - 1) * (3 + s) ≤ 448 := by
  have o2 : o ≤ 64 := H.o2
  have s2 : s ≤ 4 := H.s2
  exact Nat.mul_le_mul (show a - 1 ≤ 64 by omega) (show 3 + s ≤ 7 by omega)
 have K := Shape.object_ok (s5 := s5) (p := hh * r) H rfl (show 1 ≤ a by omega) (show a ≤ o by omega) rfl hq2 w
 have eq : headAt ⟨o, s, hh, r, k, s5⟩ (a : Int) = 8 + (hh : Int) + ((hh * r : Nat) : Int) + (k : Int) + (((a - 1) * (3 + s) : Nat) : Int) := by
  unfold headAt
  rw [if_pos (show there ⟨o, s, hh, r, k, s5⟩ (a : Int) from ⟨h1, h2⟩)]
  have c : ((a - 1 : Nat) : Int) = (a : Int) - 1 := by omega
  push_cast [c]
  rfl
 rw [eq]
 exact K
theorem slot_no {sh : Shp} (h : Shape.R5 sh.a sh.b sh.c sh.d sh.e) {i s : Int} (ht : ¬ slotIn sh i s) (w : World) : Calls Tryz.prog 90 #[sh.val, .int .i64 i, .int .i64 s] w fun e w' => e = .returned (.tuple #[.int .i64 0, .int .i64 2]) ∧ Below w.heap.size w w' := by
 by_cases h1 : there sh i
 ·exact Shape.slot_arg2 h h1 (fun h2 => ht ⟨h1, h2⟩) w
 ·exact Shape.slot_arg1 h h1 w
theorem slot_yes {sh : Shp} (h : Shape.R5 sh.a sh.b sh.c sh.d sh.e) {i j : Int} (ht : slotIn sh i j) (w : World) : Calls Tryz.prog 90 #[sh.val, .int .i64 i, .int .i64 j] w fun e w' => e = .returned (.tuple #[.int .i64 (slotAt sh i j), .int .i64 0]) ∧ Below w.heap.size w w' := by
 obtain ⟨o, s, hh, r, k, e0, e1, e2, e3, e4, H⟩ := natR5 h
 obtain ⟨s0, s1, s2, s3, s4, s5⟩ := sh
 simp only at e0 e1 e2 e3 e4
 subst e0 e1 e2 e3 e4
 have ht' := ht
 obtain ⟨⟨h1, h2⟩, h3, h4⟩ := ht
 simp only at h1 h2 h3 h4
 obtain ⟨a, rfl⟩ := Int.eq_ofNat_of_zero_le (show 0 ≤ i by omega)
 obtain ⟨b, rfl⟩ := Int.eq_ofNat_of_zero_le h3
 have ho : (a : Int) ≤ (o : Int) := h2
 have hq2 : (a - 1) * (3 + s) ≤ 448 := by
  have o2 : o ≤ 64 := H.o2
  have s2 : s ≤ 4 := H.s2
  exact Nat.mul_le_mul (show a - 1 ≤ 64 by omega) (show 3 + s ≤ 7 by omega)
 have K := Shape.slot_ok (s5 := s5) (p := hh * r) (b := b) H rfl (show 1 ≤ a by omega) (show a ≤ o by omega) rfl hq2 (by omega) w
 have eq : slotAt ⟨o, s, hh, r, k, s5⟩ (a : Int) (b : Int) = 8 + (hh : Int) + ((hh * r : Nat) : Int) + (k : Int) + (((a - 1) * (3 + s) : Nat) : Int) + 3 + (b : Int) := by
  unfold slotAt
  rw [if_pos ht']
  have c : ((a - 1 : Nat) : Int) = (a : Int) - 1 := by omega
  push_cast [c]
  rfl
 rw [eq]
 exact K
theorem head_bd {sh : Shp} (h : Shape.R5 sh.a sh.b sh.c sh.d sh.e) {i : Int} (ht : there sh i) : 8 ≤ headAt sh i ∧ headAt sh i ≤ 1000 ∧ linkAt sh i = headAt sh i + 1 := by
 obtain ⟨o, s, hh, r, k, e0, e1, e2, e3, e4, H⟩ := natR5 h
 unfold headAt linkAt
 rw [if_pos ht, if_pos ht]
 obtain ⟨⟨a1, a2⟩, ⟨b1, b2⟩, ⟨c1, c2⟩, ⟨d1, d2⟩, f1, f2⟩ := h
 have p1 : 0 ≤ sh.c * sh.d ∧ sh.c * sh.d ≤ 7 * 8 := ⟨Int.mul_nonneg (by omega) (by omega), Int.mul_le_mul c2 d2 (by omega) (by omega)⟩
 have p2 : 0 ≤ (i - 1) * (3 + sh.b) ∧ (i - 1) * (3 + sh.b) ≤ 64 * 7 := ⟨Int.mul_nonneg (by have := ht.1; omega) (by omega), Int.mul_le_mul (by have := ht.2; omega) (by omega) (by omega) (by omega)⟩
 omega
theorem slot_bd {sh : Shp} (h : Shape.R5 sh.a sh.b sh.c sh.d sh.e) {i s : Int} (ht : slotIn sh i s) : slotAt sh i s = headAt sh i + 3 + s := by
 unfold slotAt headAt
 rw [if_pos ht, if_pos ht.1]
theorem placeIf_no (p e : Int) (he : (e != 0) = true) (w : World) : Calls Tryz.prog 91 #[.int .i64 p, .int .i64 e] w fun e w' => e = .returned (.int .i64 (-1)) ∧ w' = w := by
 go_enter Tryz.func91, Tryz.ntmps91
 go_wp2_with fail
 go_ret
 exact ⟨rfl, rfl⟩
theorem placeIf_ok (p : Int) (w : World) : Calls Tryz.prog 91 #[.int .i64 p, .int .i64 0] w fun e w' => e = .returned (.int .i64 p) ∧ w' = w := by
 go_enter Tryz.func91, Tryz.ntmps91
 go_wp2_with fail
 go_ret
 exact ⟨rfl, rfl⟩
theorem headAt_of {sh : Shp} {i p v e : Int} (OB : ∀ w : World, Calls Tryz.prog 109 #[sh.val, .int .i64 i] w fun e' w' => e' = .returned (.tuple #[.int .i64 v, .int .i64 e]) ∧ Below w.heap.size w w')
  (PI : ∀ w : World, Calls Tryz.prog 91 #[.int .i64 v, .int .i64 e] w fun e w' => e = .returned (.int .i64 p) ∧ w' = w) (w : World) : Calls Tryz.prog 92 #[sh.val, .int .i64 i] w fun e w' => e = .returned (.int .i64 p) ∧ Below w.heap.size w w' := by
 have OB := hide OB
 have PI := hide PI
 obtain ⟨s0, s1, s2, s3, s4, s5⟩ := sh
 simp only [Shp.val] at OB ⊢
 obtain ⟨W0, hW0, B0, K⟩ := Shape.box w s0 s1 s2 s3 s4 s5
 have HB := hide B0
 obtain ⟨-, l0, x0, x1, x2, x3, x4, x5⟩ := K.out W0 (Below.refl _ _)
 clear B0
 go_enter Tryz.func92, Tryz.ntmps92
 go_wp2_with (first | (go_at_call 109; refine (OB.out _).mono ?_; rintro e w1 ⟨rfl, hb1⟩; have HB1 := hide (HB.out.trans (hb1.mono HB.out.size)); clear hb1) | (go_at_call 91; refine (PI.out _).mono ?_; rintro e wq ⟨rfl, hwq⟩; obtain rfl := hwq.symm))
 go_ret
 exact ⟨rfl, HB1.out⟩
theorem headAt_any {sh : Shp} (h : Shape.R5 sh.a sh.b sh.c sh.d sh.e) (i : Int) (w : World) : Calls Tryz.prog 92 #[sh.val, .int .i64 i] w fun e w' => e = .returned (.int .i64 (headAt sh i)) ∧ Below w.heap.size w w' := by
 by_cases ht : there sh i
 ·exact headAt_of (fun w => object_yes h ht w) (fun w => placeIf_ok _ w) w
 ·rw [show headAt sh i = -1 from by simp [headAt, ht]]
  exact headAt_of (fun w => object_no h ht w) (fun w => placeIf_no 0 2 (by decide) w) w
theorem slotAt_of {sh : Shp} {i j p v e : Int} (OB : ∀ w : World, Calls Tryz.prog 90 #[sh.val, .int .i64 i, .int .i64 j] w fun e' w' => e' = .returned (.tuple #[.int .i64 v, .int .i64 e]) ∧ Below w.heap.size w w')
  (PI : ∀ w : World, Calls Tryz.prog 91 #[.int .i64 v, .int .i64 e] w fun e w' => e = .returned (.int .i64 p) ∧ w' = w) (w : World) : Calls Tryz.prog 59 #[sh.val, .int .i64 i, .int .i64 j] w fun e w' => e = .returned (.int .i64 p) ∧ Below w.heap.size w w' := by
 have OB := hide OB
 have PI := hide PI
 obtain ⟨s0, s1, s2, s3, s4, s5⟩ := sh
 simp only [Shp.val] at OB ⊢
 obtain ⟨W0, hW0, B0, K⟩ := Shape.box w s0 s1 s2 s3 s4 s5
 have HB := hide B0
 obtain ⟨-, l0, x0, x1, x2, x3, x4, x5⟩ := K.out W0 (Below.refl _ _)
 clear B0
 go_enter Tryz.func59, Tryz.ntmps59
 go_wp2_with (first | (go_at_call 90; refine (OB.out _).mono ?_; rintro e w1 ⟨rfl, hb1⟩; have HB1 := hide (HB.out.trans (hb1.mono HB.out.size)); clear hb1) | (go_at_call 91; refine (PI.out _).mono ?_; rintro e wq ⟨rfl, hwq⟩; obtain rfl := hwq.symm))
 go_ret
 exact ⟨rfl, HB1.out⟩
theorem slotAt_any {sh : Shp} (h : Shape.R5 sh.a sh.b sh.c sh.d sh.e) (i j : Int) (w : World) : Calls Tryz.prog 59 #[sh.val, .int .i64 i, .int .i64 j] w fun e w' => e = .returned (.int .i64 (slotAt sh i j)) ∧ Below w.heap.size w w' := by
 by_cases ht : slotIn sh i j
 ·exact slotAt_of (fun w => slot_yes h ht w) (fun w => placeIf_ok _ w) w
 ·rw [show slotAt sh i j = -1 from by simp [slotAt, ht]]
  exact slotAt_of (fun w => slot_no h ht w) (fun w => placeIf_no 0 2 (by decide) w) w
theorem linkAt_any {sh : Shp} (h : Shape.R5 sh.a sh.b sh.c sh.d sh.e) (i : Int) (w : World) : Calls Tryz.prog 88 #[sh.val, .int .i64 i] w fun e w' => e = .returned (.int .i64 (linkAt sh i)) ∧ Below w.heap.size w w' := by
 have OB := hide (fun w1 : World => headAt_any h i w1)
 by_cases ht : there sh i
 ·obtain ⟨hb1, hb2, hb3⟩ := head_bd h ht
  rw [hb3]
  obtain ⟨p, hp⟩ : ∃ p, headAt sh i = p := ⟨_, rfl⟩
  rw [hp] at hb1 hb2 OB ⊢
  clear h ht hp hb3
  obtain ⟨s0, s1, s2, s3, s4, s5⟩ := sh
  simp only [Shp.val] at OB ⊢
  have g1 : wrap64 (p + 1) = p + 1 := by unfold wrap64; omega
  have g2 : (p == -1) = false := by simp; omega
  obtain ⟨W0, hW0, B0, K⟩ := Shape.box w s0 s1 s2 s3 s4 s5
  have HB := hide B0
  obtain ⟨-, l0, x0, x1, x2, x3, x4, x5⟩ := K.out W0 (Below.refl _ _)
  clear B0
  go_enter Tryz.func88, Tryz.ntmps88
  go_wp2_with (go_at_call 92; refine (OB.out _).mono ?_; rintro e w1 ⟨rfl, hb1'⟩; have HB1 := hide (HB.out.trans (hb1'.mono HB.out.size)); clear hb1')
  go_ret
  exact ⟨rfl, HB1.out⟩
 ·rw [show linkAt sh i = -1 from by simp [linkAt, ht]]
  rw [show headAt sh i = -1 from by simp [headAt, ht]] at OB
  clear h ht
  obtain ⟨s0, s1, s2, s3, s4, s5⟩ := sh
  simp only [Shp.val] at OB ⊢
  obtain ⟨W0, hW0, B0, K⟩ := Shape.box w s0 s1 s2 s3 s4 s5
  have HB := hide B0
  obtain ⟨-, l0, x0, x1, x2, x3, x4, x5⟩ := K.out W0 (Below.refl _ _)
  clear B0
  go_enter Tryz.func88, Tryz.ntmps88
  go_wp2_with (go_at_call 92; refine (OB.out _).mono ?_; rintro e w1 ⟨rfl, hb1'⟩; have HB1 := hide (HB.out.trans (hb1'.mono HB.out.size)); clear hb1')
  go_ret
  exact ⟨rfl, HB1.out⟩
theorem isNumber_any (sh : Shp) (i : Int) (w : World) : Calls Tryz.prog 47 #[sh.val, .int .i64 i] w fun e w' => e = .returned (.bool (decide (there sh i))) ∧ Below w.heap.size w w' := by
 obtain ⟨s0, s1, s2, s3, s4, s5⟩ := sh
 simp only [Shp.val]
 obtain ⟨W0, hW0, B0, K⟩ := Shape.box w s0 s1 s2 s3 s4 s5
 have HB := hide B0
 obtain ⟨-, l0, x0, x1, x2, x3, x4, x5⟩ := K.out W0 (Below.refl _ _)
 clear B0
 by_cases h1 : (1 : Int) ≤ i
 ·have g1 : decide (there ⟨s0, s1, s2, s3, s4, s5⟩ i) = decide (i ≤ s0) := by simp [there, h1]
  rw [g1]
  have g2 : decide (i ≥ 1) = true := by simpa using h1
  clear g1
  go_enter Tryz.func47, Tryz.ntmps47
  go_wp2_with fail
  go_ret
  exact ⟨rfl, HB.out⟩
 ·have g1 : decide (there ⟨s0, s1, s2, s3, s4, s5⟩ i) = false := by simp [there, h1]
  rw [g1]
  have g2 : decide (i ≥ 1) = false := by simpa using h1
  clear g1
  go_enter Tryz.func47, Tryz.ntmps47
  go_wp2_with fail
  go_ret
  exact ⟨rfl, HB.out⟩
end Hp
end
section
theorem pack_word_ok_true0 (used final taken : Bool) (age gen link next : Int) (s : Value) (ha0 : 0 ≤ age) (ha1 : age ≤ 255) (hg0 : 0 ≤ gen) (hg1 : gen ≤ 4294967295) (w : World) :
    Calls Tryz.prog 127 #[.agg #[.bool used, .bool true, .bool final, .bool taken, .int .i64 age, .int .u64 gen, .int .u64 link, .int .u64 next, s], .int .i64 0] w fun e w' =>
      e = .returned (.tuple #[.int .u64 (packW used false final taken age gen), .int .i64 0]) ∧ Below w.heap.size w w' := by
  go_enter Tryz.func127, Tryz.ntmps127
  go_wp2_with (go_at_call 131; refine (isColour_any _ _).mono ?_; rintro e w' ⟨rfl, rfl⟩)
  go_quiet ((go_at_call 132; exact Calls.quiet_of_same (bitIf_any _ _ _)))
  go_wp2
  go_ret2
  exact ⟨ret_two (pack_eq used false final taken age gen ha0 ha1 hg0 hg1) rfl, below_box _ _ _⟩
theorem pack_word_ok_true1 (used final taken : Bool) (age gen link next : Int) (s : Value) (ha0 : 0 ≤ age) (ha1 : age ≤ 255) (hg0 : 0 ≤ gen) (hg1 : gen ≤ 4294967295) (w : World) :
    Calls Tryz.prog 127 #[.agg #[.bool used, .bool true, .bool final, .bool taken, .int .i64 age, .int .u64 gen, .int .u64 link, .int .u64 next, s], .int .i64 1] w fun e w' =>
      e = .returned (.tuple #[.int .u64 (packW used true final taken age gen), .int .i64 0]) ∧ Below w.heap.size w w' := by
  go_enter Tryz.func127, Tryz.ntmps127
  go_wp2_with (go_at_call 131; refine (isColour_any _ _).mono ?_; rintro e w' ⟨rfl, rfl⟩)
  go_quiet ((go_at_call 132; exact Calls.quiet_of_same (bitIf_any _ _ _)))
  go_wp2
  go_ret2
  exact ⟨ret_two (pack_eq used true final taken age gen ha0 ha1 hg0 hg1) rfl, below_box _ _ _⟩
end
end Go.Proofs.YtmikhglnomgbfaaGreat
