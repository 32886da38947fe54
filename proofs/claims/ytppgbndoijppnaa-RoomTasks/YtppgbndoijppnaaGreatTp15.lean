/-
  Lemmas: AlongK, AlongF, AlongG.
-/
import Derived.Test.YtppgbndoijppnaaGreatTp14
namespace Go.Proofs.YtppgbndoijppnaaGreat
set_option maxHeartbeats 8000000
open Go.RowKit
set_option linter.unusedVariables false
set_option linter.unusedSimpArgs false
set_option maxRecDepth 20000
section
namespace Hp
inductive Goes (A P β : Type) where
 | on (a : A)
 | along (pj : Jb) (ps : P) (b : β)
 | done (t : Ans)
 | stop
inductive Md (A P β : Type) where
 | on (a : A)
 | along (pj : Jb) (ps : P) (b : β)
 | ended
structure Wk (KP : Kd) where
 τ : Type
 A : Type
 β : Type
 T : τ → TypeId
 n : τ → Nat
 c : Nat
 hand : τ → Int
 own : τ → Nat → Value
 act : A → FuncId
 fb : β → FuncId
 first : β → (Nat → Nat) → Array Value
 caps : β → (Nat → Nat) → Array Value
 box : β → τ → (Nat → Nat) → Nat → Option Row
 req : A → τ → Stp
 out : A → τ → Stp → τ × Goes A KP.σ β
 beh : β → τ → Ans → τ × Goes A KP.σ β
structure WS {KP : Kd} (W : Wk KP) where
 own : W.τ
 md : Md W.A KP.σ W.β
 told : Ans
namespace Wk
variable {KP : Kd} (W : Wk KP)
def apply (told : Ans) (o : W.τ × Goes W.A KP.σ W.β) : WS W :=
 match o.2 with
 | .on a => ⟨o.1, .on a, told⟩
 | .along pj ps b => ⟨o.1, .along pj ps b, told⟩
 | .done t => ⟨o.1, .ended, t⟩
 | .stop => ⟨o.1, .ended, told⟩
def req' (s : WS W) : Stp :=
 match s.md with
 | .on a => W.req a s.own
 | .along _ ps _ => KP.req ps
 | .ended => ⟨0, 0, 0, 0, 0, false⟩
def next' (s : WS W) (x : Stp) : WS W :=
 match s.md with
 | .on a => W.apply s.told (W.out a s.own x)
 | .along pj ps b => if KP.ends ps x = true then W.apply s.told (W.beh b s.own (KP.tell (KP.next ps x))) else ⟨s.own, .along pj (KP.next ps x) b, s.told⟩
 | .ended => s
def over (s : WS W) : Bool := match s.md with | .ended => true | _ => false
def mrow (o : W.τ) (v1 v2 v3 : Value) (t : Ans) : Nat → Value
 | 0 => .int .i64 (W.hand o)
 | 1 => v1
 | 2 => v2
 | 3 => v3
 | 4 => .bool t.ok
 | 5 => .int .u64 t.val
 | k + 6 => W.own o k
def ptr (b : Nat) : Value := .pointer (some ⟨b, 0, none⟩)
def form (s : WS W) : Form := fun B R => ∃ v1 v2 v3, R 0 = some ⟨W.T s.own, W.n s.own, W.mrow s.own v1 v2 v3 s.told⟩ ∧
 match s.md with
 | .on a => v1 = .func (.func (W.act a)) #[ptr (B 0)] #[] ∧ ∀ i, 0 < i → R i = none
 | .along pj ps b => v1 = .func (.func 93) #[ptr (B 0)] #[] ∧ v2 = .iface (KP.tid pj) (ptr (B (W.c + 1))) ∧ v3 = .func (.func (W.fb b)) (W.first b B) (W.caps b B) ∧
   (∀ i, 0 < i → i ≤ W.c → R i = W.box b s.own B i) ∧ KP.lies pj (fun i => B (W.c + 1 + i)) ps (fun i => R (W.c + 1 + i))
 | .ended => ∀ i, 0 < i → R i = none
def formB (o : W.τ) (b : W.β) (t : Ans) : Form := fun B R => ∃ v1 v2 v3, R 0 = some ⟨W.T o, W.n o, W.mrow o v1 v2 v3 t⟩ ∧ v3 = .func (.func (W.fb b)) (W.first b B) (W.caps b B) ∧ (∀ i, 0 < i → i ≤ W.c → R i = W.box b o B i) ∧ ∀ i, W.c < i → R i = none
def en (s : WS W) : Int := if W.over s = true then 1 else 0
def ActOk (a : W.A) (o : W.τ) : Prop :=
 ∀ {w : World} {B : Nat → Nat} {R : Nat → Option Row} {bm bw n : Nat} {f : Nat → Int} (t : Ans), Lay (W.form ⟨o, .on a, t⟩) w B R → IsMem w bm bw n f → (∀ i x, R i = some x → B i ≠ bm ∧ B i ≠ bw) →
  Calls Tryz.prog (W.act a) #[ptr (B 0), ptr bm] w fun e w' => e = .returned (.tuple #[(stepOf n f (W.req a o)).val, .int .i64 (W.en (W.apply t (W.out a o (stepOf n f (W.req a o)))))]) ∧
   ∃ B' R', Post (W.form (W.apply t (W.out a o (stepOf n f (W.req a o))))) w B R w' B' R' (fun k => k = bw) ∧ IsMem w' bm bw n (wordsOf n f (W.req a o))
def BehOk (b : W.β) (o : W.τ) (u : Ans) : Prop :=
 ∀ {w : World} {B : Nat → Nat} {R : Nat → Option Row} (t : Ans), Lay (W.formB o b t) w B R →
  Calls Tryz.prog (W.fb b) (W.first b B ++ #[u.value] ++ W.caps b B) w fun e w' => e = .returned (.int .i64 (W.en (W.apply t (W.beh b o u)))) ∧ ∃ B' R', Post (W.form (W.apply t (W.beh b o u))) w B R w' B' R' (fun _ => False)
structure Loc : Prop where
 first : ∀ b B B', (∀ i, i ≤ W.c → B' i = B i) → W.first b B' = W.first b B
 caps : ∀ b B B', (∀ i, i ≤ W.c → B' i = B i) → W.caps b B' = W.caps b B
 box : ∀ b o B B', (∀ i, i ≤ W.c → B' i = B i) → ∀ i, W.box b o B' i = W.box b o B i
 six : ∀ o, 6 ≤ W.n o
 actF : ∀ a (args : Array Value) (w : World), (callFunc (W.act a) args).run Tryz.prog w = .ok (.enter (W.act a) args) w
 behF : ∀ b (B : Nat → Nat) (w : World) (t : Value), (invoke (.fn (.func (W.fb b)) (W.caps b B)) (W.first b B ++ #[t])).run Tryz.prog w = .ok (.enter (W.fb b) (W.first b B ++ #[t] ++ W.caps b B)) w
end Wk
def join {α : Type} (c : Nat) (f g : Nat → α) (i : Nat) : α := if i ≤ c then f i else g (i - (c + 1))
theorem join_low {α : Type} {c : Nat} {f g : Nat → α} {i : Nat} (h : i ≤ c) : join c f g i = f i := by unfold join; rw [if_pos h]
theorem join_high {α : Type} {c : Nat} {f g : Nat → α} (i : Nat) : join c f g (c + 1 + i) = g i := by
 unfold join
 rw [if_neg (by omega)]
 congr 1
 omega
theorem join_up {α : Type} {c : Nat} {f g : Nat → α} {i : Nat} (h : c < i) : ∃ k, i = c + 1 + k ∧ join c f g i = g k := ⟨i - (c + 1), by omega, by
 have e := join_high (f := f) (g := g) (c := c) (i - (c + 1))
 rwa [show c + 1 + (i - (c + 1)) = i by omega] at e⟩
theorem splice {c : Nat} {L Lp L' : Form} {w w' : World} {B Bp' : Nat → Nat} {R Rp' : Nat → Option Row} {S : Nat → Prop} (H : Lay L w B R) (P : Post Lp w (fun i => B (c + 1 + i)) (fun i => R (c + 1 + i)) w' Bp' Rp' S)
  (hS : ∀ i x, R i = some x → ¬ S (B i)) (hL : L' (join c B Bp') (join c R Rp')) : Post L' w B R w' (join c B Bp') (join c R Rp') S := by
 have far : ∀ i k x y, i ≤ c → R i = some x → Rp' k = some y → B i ≠ Bp' k := by
  intro i k x y hi e e' he
  rcases P.old k y e' with ⟨i0, x0, e0, e1⟩ | h
  ·have := H.inj i (c + 1 + i0) x x0 e e0 (by rw [he, e1])
   omega
  ·have := H.lt e
   omega
 refine ⟨join_low (Nat.zero_le _), ⟨hL, fun i x e => ?_, fun i i' x x' e e' he => ?_⟩, fun i x e => ?_, P.tch.mono (fun k _ h => h.elim .inl (fun ⟨i, x, e, e'⟩ => .inr ⟨c + 1 + i, x, e, e'⟩))⟩
 ·by_cases hi : i ≤ c
  ·rw [join_low hi] at e ⊢
   refine (H.row i x e).of_block (P.tch.block _ (H.lt e) ?_)
   rintro (h | ⟨i0, x0, e0, e1⟩)
   ·exact hS i x e h
   ·have := H.inj i (c + 1 + i0) x x0 e e0 e1
    omega
  ·obtain ⟨k, rfl, _⟩ := join_up (f := R) (g := Rp') (show c < i by omega)
   rw [join_high] at e ⊢
   exact P.lay.row k x e
 ·by_cases hi : i ≤ c
  ·rw [join_low hi] at e he
   by_cases hi' : i' ≤ c
   ·rw [join_low hi'] at e' he
    exact H.inj i i' x x' e e' he
   ·obtain ⟨k, rfl, _⟩ := join_up (f := R) (g := Rp') (show c < i' by omega)
    rw [join_high] at e' he
    exact absurd he (far i k x x' hi e e')
  ·obtain ⟨k, rfl, _⟩ := join_up (f := R) (g := Rp') (show c < i by omega)
   rw [join_high] at e he
   by_cases hi' : i' ≤ c
   ·rw [join_low hi'] at e' he
    exact absurd he.symm (far i' k x' x hi' e' e)
   ·obtain ⟨k', rfl, _⟩ := join_up (f := R) (g := Rp') (show c < i' by omega)
    rw [join_high] at e' he
    rw [P.lay.inj k k' x x' e e' he]
 ·by_cases hi : i ≤ c
  ·rw [join_low hi] at e ⊢
   exact .inl ⟨i, x, e, rfl⟩
  ·obtain ⟨k, rfl, _⟩ := join_up (f := R) (g := Rp') (show c < i by omega)
   rw [join_high] at e ⊢
   exact (P.old k x e).imp (fun ⟨i0, x0, e0, e1⟩ => ⟨c + 1 + i0, x0, e0, e1⟩) id
def cut (c : Nat) (R : Nat → Option Row) (i : Nat) : Option Row := if i ≤ c then R i else none
theorem cut_some {c : Nat} {R : Nat → Option Row} {i : Nat} {x : Row} (h : cut c R i = some x) : i ≤ c ∧ R i = some x := by
 unfold cut at h
 split at h
 ·exact ⟨by assumption, h⟩
 ·cases h
theorem after {c : Nat} {L Lp Lb L' : Form} {w w1 w2 w3 : World} {B Bp' B' : Nat → Nat} {R Rp' R' : Nat → Option Row} {S : Nat → Prop} (H : Lay L w B R) (P : Post Lp w (fun i => B (c + 1 + i)) (fun i => R (c + 1 + i)) w1 Bp' Rp' S)
  (h12 : Below w1.heap.size w1 w2) (P3 : Post L' w2 B (cut c R) w3 B' R' (fun _ => False)) : Post L' w B R w3 B' R' S := by
 have hs1 := P.tch.size
 have hs2 := h12.size
 refine ⟨P3.own, P3.lay, fun i x e => (P3.old i x e).imp (fun ⟨i0, x0, e0, e1⟩ => ⟨i0, x0, (cut_some e0).2, e1⟩) (fun h => by omega), ?_⟩
 refine (P.tch.mono (fun k _ h => h.elim .inl (fun ⟨i, x, e, e'⟩ => .inr ⟨c + 1 + i, x, e, e'⟩))).trans' (S' := fun k => Of B R k) (S := fun k => S k ∨ Of B R k) ?_ (fun i _ h => .inr h)
 refine (Touch.of_below h12 (fun k => Of B R k)).trans' (S' := fun k => Of B R k) (P3.tch.mono (fun k _ h => h.elim (fun h => h.elim) (fun ⟨i, x, e, e'⟩ => ⟨i, x, (cut_some e).2, e'⟩))) (fun i _ h => h)
theorem left_lay {c : Nat} {L Lp Lb : Form} {w w1 w2 : World} {B Bp' : Nat → Nat} {R Rp' : Nat → Option Row} {S : Nat → Prop} (H : Lay L w B R) (P : Post Lp w (fun i => B (c + 1 + i)) (fun i => R (c + 1 + i)) w1 Bp' Rp' S)
  (hS : ∀ i x, R i = some x → ¬ S (B i)) (h12 : Below w1.heap.size w1 w2) (hb : Lb B (cut c R)) : Lay Lb w2 B (cut c R) := by
 refine ⟨hb, fun i x e => ?_, fun i i' x x' e e' => H.inj i i' x x' (cut_some e).2 (cut_some e').2⟩
 obtain ⟨hi, e0⟩ := cut_some e
 have hl := H.lt e0
 have hs := P.tch.size
 refine ((H.row i x e0).of_block (P.tch.block _ hl ?_)).of_block (h12.block _ (by omega))
 rintro (h | ⟨i0, x0, e1, e2⟩)
 ·exact hS i x e0 h
 ·have := H.inj i (c + 1 + i0) x x0 e0 e1 e2
  omega
end Hp
end
section
namespace Hp
namespace Wk
variable {KP : Kd} (W : Wk KP)
def kd (err : Int → Jb → Int) (init : Int → Jb → WS W) (tid : Jb → TypeId) (wf : Jb → WS W → Prop) : Kd where
 σ := WS W
 err := err
 init := init
 req := W.req'
 next := W.next'
 ends := fun s x => W.over (W.next' s x)
 tell := fun s => s.told
 tid := tid
 fs := fun _ => 164
 fa := fun _ => 163
 lies := fun _ B s R => W.form s B R
 wf := wf
structure Fits (err : Int → Jb → Int) (init : Int → Jb → WS W) (tid : Jb → TypeId) (wf : Jb → WS W → Prop) : Prop where
 loc : W.Loc
 part : IsKind KP
 start : ∀ h j, (W.kd err init tid wf).fine j → wf j (init h j)
 keep : ∀ j s n f, (∀ i, i < n → 0 ≤ f i ∧ f i ≤ 18446744073709551615) → wf j s → ¬ W.over (W.next' s (stepOf n f (W.req' s))) = true → wf j (W.next' s (stepOf n f (W.req' s)))
 act : ∀ j a o t, (W.kd err init tid wf).fine j → wf j ⟨o, .on a, t⟩ → W.ActOk a o
 beh : ∀ j pj ps b o t n f, (W.kd err init tid wf).fine j → wf j ⟨o, .along pj ps b, t⟩ → (∀ i, i < n → 0 ≤ f i ∧ f i ≤ 18446744073709551615) → KP.ends ps (stepOf n f (KP.req ps)) = true → W.BehOk b o (KP.tell (KP.next ps (stepOf n f (KP.req ps))))
 mate : ∀ j pj ps b o t, wf j ⟨o, .along pj ps b, t⟩ → KP.fine pj ∧ KP.wf pj ps
 live : ∀ j o t, ¬ wf j ⟨o, .ended, t⟩
 meth : ∀ j, (W.kd err init tid wf).fine j → ∀ (b : Nat) (w : World), (method 321 (tid j) (ptr b) "Step").run Tryz.prog w = .ok (164, ptr b) w ∧ (method 321 (tid j) (ptr b) "Answer").run Tryz.prog w = .ok (163, ptr b) w
variable {W} {err : Int → Jb → Int} {init : Int → Jb → WS W} {tid : Jb → TypeId} {wf : Jb → WS W → Prop}
theorem finish {s' : WS W} {j : Jb} {w wz w1 w' : World} {B B' : Nat → Nat} {R R' : Nat → Option Row} {bm bw n : Nat} {f' : Nat → Int} {L : Form} (H : Lay L w B R) (hz : Below w.heap.size w wz) (hzs : wz.heap.size = w.heap.size + 1) (hm : bm < w.heap.size) (hw : bw < w.heap.size)
  (P : Post (W.form s') wz B R w1 B' R' (fun k => k = bw)) (M : IsMem w1 bm bw n f') (T : Touch w1 w' (fun k => k = w.heap.size)) :
  ∃ B' R', B' 0 = B 0 ∧ (W.kd err init tid wf).Lies w' j B' R' s' ∧ (∀ i x, R' i = some x → (∃ i0 x0, R i0 = some x0 ∧ B' i = B i0) ∨ w.heap.size ≤ B' i) ∧ IsMem w' bm bw n f' ∧ Touch w w' (fun k => k = bw ∨ ∃ i x, R i = some x ∧ k = B i) := by
 have P' := P.wrap (w2 := w') hz (fun i x e => H.lt e) (T.mono (fun k _ h => ⟨by omega, by omega⟩))
 exact ⟨B', R', P'.own, ⟨P'.lay.lies, P'.lay.row, P'.lay.inj⟩, P'.old, isMem_touch M T (by omega) (by omega), P'.tch⟩
theorem quiet {L' : Form} {w wz w1 : World} {B B' : Nat → Nat} {R R' : Nat → Option Row} {bw : Nat} {L : Form} (H : Lay L w B R) (hz : wz.heap.size = w.heap.size + 1) (hw : bw < w.heap.size) (P : Post L' wz B R w1 B' R' (fun k => k = bw)) :
  w.heap.size < w1.heap.size ∧ w1.heap[w.heap.size]? = wz.heap[w.heap.size]? := by
 have hs := P.tch.size
 refine ⟨by omega, P.tch.block _ (by omega) ?_⟩
 rintro (h | ⟨i, x, e, e'⟩)
 ·omega
 ·have := H.lt e; omega
theorem zbelow (w : World) : Below w.heap.size w (w.alloc zstep) := (Below.refl _ w).alloc (Nat.le_refl _) _
theorem zsize (w : World) : (w.alloc zstep).heap.size = w.heap.size + 1 := by simp
theorem main_row {s : WS W} {w : World} {B : Nat → Nat} {R : Nat → Option Row} (H : Lay (W.form s) w B R) : ∃ v1 v2 v3, w.rowIs (B 0) (W.T s.own) (W.n s.own) (W.mrow s.own v1 v2 v3 s.told) ∧ R 0 = some ⟨W.T s.own, W.n s.own, W.mrow s.own v1 v2 v3 s.told⟩ := by
 obtain ⟨v1, v2, v3, e, _⟩ := H.lies
 exact ⟨v1, v2, v3, H.row 0 _ e, e⟩
theorem callAlong (args : Array Value) (w : World) : (callFunc 93 args).run Tryz.prog w = .ok (.enter 93 args) w := by simp [go_sem]
theorem step_ok (F : W.Fits err init tid wf) {w : World} {bm bw n : Nat} {f : Nat → Int} {B : Nat → Nat} {R : Nat → Option Row} {s : WS W} {j : Jb} (hj : (W.kd err init tid wf).fine j) (hw : wf j s) (H : Lay (W.form s) w B R) (M : IsMem w bm bw n f)
  (hne : ∀ i x, R i = some x → B i ≠ bm ∧ B i ≠ bw) :
  Calls Tryz.prog 164 #[ptr (B 0), ptr bm] w fun e w' => e = .returned (.tuple #[(stepOf n f (W.req' s)).val, .int .i64 (if W.over (W.next' s (stepOf n f (W.req' s))) = true then 1 else 0)]) ∧
   ∃ B' R', B' 0 = B 0 ∧ (W.kd err init tid wf).Lies w' j B' R' (W.next' s (stepOf n f (W.req' s))) ∧ (∀ i x, R' i = some x → (∃ i0 x0, R i0 = some x0 ∧ B' i = B i0) ∨ w.heap.size ≤ B' i) ∧ IsMem w' bm bw n (wordsOf n f (W.req' s)) ∧
    Touch w w' (fun k => k = bw ∨ ∃ i x, R i = some x ∧ k = B i) := by
 have lm := M.head.lt
 have lw := M.row.lt
 obtain ⟨o, md, t⟩ := s
 have six := F.loc.six o
 have Hz := H.below (zbelow w)
 have Mz : IsMem (w.alloc zstep) bm bw n f := M.alloc zstep
 cases md with
 | ended => exact absurd hw (F.live j o t)
 | on a =>
  obtain ⟨v1, v2, v3, e0, e1, e2⟩ := H.lies
  have hrow := H.row 0 _ e0
  have c1 := hrow.cell (i := 1) (by show 1 < W.n o; omega)
  simp only [mrow, e1] at c1
  refine (wstep (F.loc.actF a) hrow.lt c1 (Q := fun w1 => ∃ B' R', Post (W.form (W.apply t (W.out a o (stepOf n f (W.req a o))))) (w.alloc zstep) B R w1 B' R' (fun k => k = bw) ∧ IsMem w1 bm bw n (wordsOf n f (W.req a o)))
   (fun w1 ⟨B', R', P, _⟩ => quiet H (zsize w) lw P) (F.act j a o t hj hw t Hz Mz hne)).mono ?_
  rintro e w' ⟨rfl, w1, ⟨B', R', P, M1⟩, T⟩
  exact ⟨rfl, finish H (zbelow w) (zsize w) lm lw P M1 T⟩
 | along pj ps b =>
  obtain ⟨v1, v2, v3, e0, e1, e2, e3, e4, e5⟩ := H.lies
  simp only at e0 e1 e2 e3 e4 e5
  obtain ⟨hpj, hps⟩ := F.mate j pj ps b o t hw
  have IK := F.part
  have hrow := H.row 0 _ e0
  have c1 := hrow.cell (i := 1) (by show 1 < W.n o; omega)
  have zrow := Hz.row 0 _ e0
  have c2 := zrow.cell (i := 2) (by show 2 < W.n o; omega)
  have c3 := zrow.cell (i := 3) (by show 3 < W.n o; omega)
  simp only [mrow, e1] at c1
  simp only [mrow, e2] at c2
  simp only [mrow, e3] at c3
  have Hzz := Hz.below (zbelow (w.alloc zstep))
  have Mzz : IsMem ((w.alloc zstep).alloc zstep) bm bw n f := Mz.alloc zstep
  have PL : KP.Lies ((w.alloc zstep).alloc zstep) pj (fun i => B (W.c + 1 + i)) (fun i => R (W.c + 1 + i)) ps := ⟨e5, fun i x e => Hzz.row _ x e, fun i i' x x' e e' he => by have := Hzz.inj _ _ x x' e e' he; omega⟩
  have KS := IK.step hpj hps PL Mzz (fun i x e => hne _ x e)
  have hnS : ∀ i x, R i = some x → ¬ B i = bw := fun i x e => (hne i x e).2
  have z2 : ((w.alloc zstep).alloc zstep).heap.size = (w.alloc zstep).heap.size + 1 := zsize _
  have z1 := zsize w
  -- what the part's step leaves
  have asPost : ∀ {w1 : World} {Bp Rp}, Bp 0 = B (W.c + 1) → KP.Lies w1 pj Bp Rp (KP.next ps (stepOf n f (KP.req ps))) → (∀ i x, Rp i = some x → (∃ i0 x0, R (W.c + 1 + i0) = some x0 ∧ Bp i = B (W.c + 1 + i0)) ∨ ((w.alloc zstep).alloc zstep).heap.size ≤ Bp i) →
    Touch ((w.alloc zstep).alloc zstep) w1 (fun k => k = bw ∨ ∃ i x, R (W.c + 1 + i) = some x ∧ k = B (W.c + 1 + i)) →
    Post (fun B R => KP.lies pj B (KP.next ps (stepOf n f (KP.req ps))) R) ((w.alloc zstep).alloc zstep) (fun i => B (W.c + 1 + i)) (fun i => R (W.c + 1 + i)) w1 Bp Rp (fun k => k = bw) :=
   fun h0 h1 h2 h3 => ⟨h0, ⟨h1.lies, h1.row, h1.inj⟩, h2, h3⟩
  cases hend : KP.ends ps (stepOf n f (KP.req ps)) with
  | false =>
   have nx : W.next' ⟨o, .along pj ps b, t⟩ (stepOf n f (KP.req ps)) = ⟨o, .along pj (KP.next ps (stepOf n f (KP.req ps))) b, t⟩ := by simp [next', hend]
   rw [hend, if_neg (by decide)] at KS
   show Calls Tryz.prog _ _ w fun e w' => e = .returned (.tuple #[(stepOf n f (KP.req ps)).val, .int .i64 (if W.over (W.next' ⟨o, .along pj ps b, t⟩ (stepOf n f (KP.req ps))) = true then 1 else 0)]) ∧ _
   simp only [req', nx]
   refine (wstep (x := stepOf n f (KP.req ps)) (en := 0) callAlong hrow.lt c1 (Q := fun w1 => ∃ B' R', Post (W.form ⟨o, .along pj (KP.next ps (stepOf n f (KP.req ps))) b, t⟩) (w.alloc zstep) B R w1 B' R' (fun k => k = bw) ∧ IsMem w1 bm bw n (wordsOf n f (KP.req ps)))
    (fun w1 ⟨B', R', P, _⟩ => quiet H (zsize w) lw P) ((along_goes (x := stepOf n f (KP.req ps)) (IK.cstep _ hpj) (IK.mstep _ hpj (B (W.c + 1))) zrow.lt c2 (Q := fun w1 => ∃ Bp Rp, Post (fun B R => KP.lies pj B (KP.next ps (stepOf n f (KP.req ps))) R) ((w.alloc zstep).alloc zstep) (fun i => B (W.c + 1 + i)) (fun i => R (W.c + 1 + i)) w1 Bp Rp (fun k => k = bw) ∧ IsMem w1 bm bw n (wordsOf n f (KP.req ps))) ?_ (KS.mono ?_)).mono ?_)).mono ?_
   ·rintro w1 ⟨Bp, Rp, P, _⟩
    have hs := P.tch.size
    refine ⟨by omega, P.tch.block _ (by omega) ?_⟩
    rintro (h | ⟨i, x, e, e'⟩)
    ·omega
    ·dsimp only at e'; have := H.lt e; omega
   ·rintro e w1 ⟨rfl, Bp, Rp, h0, h1, h2, h3, h4⟩
    exact ⟨rfl, Bp, Rp, asPost h0 h1 h2 h4, h3⟩
   ·rintro e w2 ⟨rfl, w1, ⟨Bp, Rp, P, M1⟩, T⟩
    have Q := splice (L' := W.form ⟨o, .along pj (KP.next ps (stepOf n f (KP.req ps))) b, t⟩) Hzz P hnS ⟨v1, v2, v3, by rw [join_low (Nat.zero_le _)]; exact e0, by
     have lowB : ∀ i, i ≤ W.c → join W.c B Bp i = B i := fun i hi => join_low hi
     refine ⟨by rw [lowB 0 (Nat.zero_le _)]; exact e1, ?_, ?_, ?_, ?_⟩
     ·have e := join_high (c := W.c) (f := B) (g := Bp) 0
      simp only [Nat.add_zero] at e
      rw [e, P.own]
      exact e2
     ·rw [F.loc.first b B _ lowB, F.loc.caps b B _ lowB]; exact e3
     ·intro i hi hic
      rw [join_low hic, F.loc.box b o B _ lowB]
      exact e4 i hi hic
     ·have eB : (fun i => join W.c B Bp (W.c + 1 + i)) = Bp := funext fun i => join_high i
      have eR : (fun i => join W.c R Rp (W.c + 1 + i)) = Rp := funext fun i => join_high i
      rw [eB, eR]
      exact P.lay.lies⟩
    have Q' := Q.wrap (w := w.alloc zstep) (w2 := w2) (zbelow _) (fun i x e => Hz.lt e) (T.mono (fun k _ h => ⟨by omega, by omega⟩))
    exact ⟨rfl, _, _, Q', isMem_touch M1 T (by omega) (by omega)⟩
   ·rintro e w' ⟨rfl, w1, ⟨B', R', P, M1⟩, T⟩
    exact ⟨rfl, finish H (zbelow w) (zsize w) lm lw P M1 T⟩
  | true =>
   have hu : ∃ u, KP.tell (KP.next ps (stepOf n f (KP.req ps))) = u := ⟨_, rfl⟩
   have BO : W.BehOk b o (KP.tell (KP.next ps (stepOf n f (KP.req ps)))) := F.beh j pj ps b o t n f hj hw M.word hend
   have KAN : ∀ {w1 : World} {Bp Rp}, KP.Lies w1 pj Bp Rp (KP.next ps (stepOf n f (KP.req ps))) → Calls Tryz.prog (KP.fa pj) #[.pointer (some ⟨Bp 0, 0, none⟩)] w1 fun e w' => e = .returned (KP.tell (KP.next ps (stepOf n f (KP.req ps)))).value ∧ w1.grownBy w' none :=
    fun h => IK.ans hpj ⟨ps, n, f, M.word, hps, rfl⟩ h
   obtain ⟨u, hu⟩ := hu
   have nx : W.next' ⟨o, .along pj ps b, t⟩ (stepOf n f (KP.req ps)) = W.apply t (W.beh b o u) := by simp [next', hend, hu]
   rw [hu] at BO KAN
   rw [hend, if_pos rfl] at KS
   show Calls Tryz.prog _ _ w fun e w' => e = .returned (.tuple #[(stepOf n f (KP.req ps)).val, .int .i64 (if W.over (W.next' ⟨o, .along pj ps b, t⟩ (stepOf n f (KP.req ps))) = true then 1 else 0)]) ∧ _
   simp only [req', nx]
   refine (wstep (x := stepOf n f (KP.req ps)) (en := W.en (W.apply t (W.beh b o u))) callAlong hrow.lt c1 (Q := fun w1 => ∃ B' R', Post (W.form (W.apply t (W.beh b o u))) (w.alloc zstep) B R w1 B' R' (fun k => k = bw) ∧ IsMem w1 bm bw n (wordsOf n f (KP.req ps)))
    (fun w1 ⟨B', R', P, _⟩ => quiet H (zsize w) lw P) ((along_ends (x := stepOf n f (KP.req ps)) (t := u) (v := W.en (W.apply t (W.beh b o u))) (IK.cstep _ hpj) (IK.cans _ hpj) (fun w tv => F.loc.behF b B w tv) (IK.mstep _ hpj (B (W.c + 1))) (IK.mans _ hpj (B (W.c + 1))) zrow.lt c2
     (Q := fun w1 => ∃ Bp Rp, Post (fun B R => KP.lies pj B (KP.next ps (stepOf n f (KP.req ps))) R) ((w.alloc zstep).alloc zstep) (fun i => B (W.c + 1 + i)) (fun i => R (W.c + 1 + i)) w1 Bp Rp (fun k => k = bw) ∧ IsMem w1 bm bw n (wordsOf n f (KP.req ps)))
     (Q2 := fun w2 w3 => ∃ B' R', Post (W.form (W.apply t (W.beh b o u))) w2 B (cut W.c R) w3 B' R' (fun _ => False)) ?_ c3 (KS.mono ?_) ?_ ?_ ?_).mono ?_)).mono ?_
   ·rintro w1 ⟨Bp, Rp, P, _⟩
    have hs := P.tch.size
    refine ⟨by omega, P.tch.block _ (by omega) ?_, (P.tch.block _ (by have := H.lt e0; omega) ?_).trans ((zbelow (w.alloc zstep)).block _ (by have := H.lt e0; omega))⟩
    ·rintro (h | ⟨i, x, e, e'⟩)
     ·omega
     ·dsimp only at e'; have := H.lt e; omega
    ·rintro (h | ⟨i, x, e, e'⟩)
     ·exact hnS 0 _ e0 h
     ·have := H.inj 0 (W.c + 1 + i) _ x e0 e e'
      omega
   ·rintro e w1 ⟨rfl, Bp, Rp, h0, h1, h2, h3, h4⟩
    exact ⟨rfl, Bp, Rp, asPost h0 h1 h2 h4, h3⟩
   ·rintro w1 w2 ⟨Bp, Rp, P, _⟩ h12
    have hl := P.lay.below h12
    have ka := KAN (w1 := w2) (Bp := Bp) (Rp := Rp) ⟨hl.lies, hl.row, hl.inj⟩
    have ho := P.own
    simp only [Nat.add_zero] at ho
    rw [ho] at ka
    exact ka
   ·rintro w1 w2 ⟨Bp, Rp, P, _⟩ h12
    refine (BO t (left_lay Hzz P hnS h12 ⟨v1, v2, v3, by unfold cut; rw [if_pos (Nat.zero_le _)]; exact e0, e3, fun i hi hic => by unfold cut; rw [if_pos hic]; exact e4 i hi hic, fun i hi => by unfold cut; rw [if_neg (by omega)]⟩)).mono ?_
    rintro e w3 ⟨rfl, B', R', P3⟩
    exact ⟨rfl, B', R', P3⟩
   ·rintro w2 w3 ⟨B', R', P3⟩
    refine ⟨P3.tch.size, fun k h1 h2 => P3.tch.block k h2 ?_⟩
    rintro (h | ⟨i, x, e, e'⟩)
    ·exact h
    ·have := H.lt (cut_some e).2; omega
   ·rintro e w' ⟨rfl, w1, w2, w3, ⟨Bp, Rp, P, M1⟩, h12, ⟨B', R', P3⟩, T⟩
    have Q := after (Lb := W.formB o b t) Hzz P h12 P3
    have Q' := Q.wrap (w := w.alloc zstep) (w2 := w') (zbelow _) (fun i x e => Hz.lt e) (T.mono (fun k _ h => ⟨by omega, by omega⟩))
    have hs1 := P.tch.size
    have M2 : IsMem w2 bm bw n (wordsOf n f (KP.req ps)) := isMem_touch M1 (Touch.of_below h12 (fun _ => False)) id id
    have M3 := isMem_touch M2 P3.tch (by rintro (h | ⟨i, x, e, e'⟩); exact h; exact (hne i x (cut_some e).2).1 e'.symm) (by rintro (h | ⟨i, x, e, e'⟩); exact h; exact (hne i x (cut_some e).2).2 e'.symm)
    exact ⟨rfl, _, _, Q', isMem_touch M3 T (by omega) (by omega)⟩
   ·rintro e w' ⟨rfl, w1, ⟨B', R', P, M1⟩, T⟩
    exact ⟨rfl, finish H (zbelow w) (zsize w) lm lw P M1 T⟩
theorem answer_any {w : World} {b : Nat} {t : Ans} (hl : b < w.heap.size) (h4 : w.cell? ⟨b, 4, none⟩ = some (.bool t.ok)) (h5 : w.cell? ⟨b, 5, none⟩ = some (.int .u64 t.val)) :
  Calls Tryz.prog 163 #[.pointer (some ⟨b, 0, none⟩)] w fun e w' => e = .returned t.value ∧ w.grownBy w' none := by
 obtain ⟨ok, val⟩ := t
 simp only at h4 h5
 go_enter Tryz.func163, Tryz.ntmps163
 go_wp2
 go_light
 refine bodyPost_ret (v := Ans.value ⟨ok, val⟩) ?_ rfl ⟨rfl, grown_alloc (grown_refl _ _) _⟩
 simp [results, Tryz.results163, go_sem, Ans.value]
theorem isKind (F : W.Fits err init tid wf) : IsKind (W.kd err init tid wf) where
 ok := ⟨F.start, F.keep⟩
 step := fun hf hw hL hM hne => step_ok F hf hw ⟨hL.lies, hL.row, hL.inj⟩ hM hne
 ans := fun {w B R s j} hf hw hL => by
  obtain ⟨o, md, t⟩ := s
  have hL' : Lay (W.form ⟨o, md, t⟩) w B R := ⟨hL.lies, hL.row, hL.inj⟩
  obtain ⟨v1, v2, v3, hr, _⟩ := main_row hL'
  have six := F.loc.six o
  exact answer_any hr.lt (hr.cell (i := 4) (by show 4 < W.n o; omega)) (hr.cell (i := 5) (by show 5 < W.n o; omega))
 mstep := fun j hf b w => (F.meth j hf b w).1
 mans := fun j hf b w => (F.meth j hf b w).2
 cstep := fun j hf args w => by simp [kd, go_sem]
 cans := fun j hf args w => by simp [kd, go_sem]
end Wk
end Hp
end
section
namespace Hp
def kNone : Kd where
 σ := Unit
 err := fun _ _ => 1
 init := fun _ _ => ()
 req := fun _ => ⟨0, 0, 0, 0, 0, false⟩
 next := fun s _ => s
 ends := fun _ _ => true
 tell := fun _ => ⟨false, 0⟩
 tid := fun _ => 0
 fs := fun _ => 0
 fa := fun _ => 0
 lies := fun _ _ _ _ => True
 wf := fun _ _ => True
theorem kNone_fine (j : Jb) : ¬ kNone.fine j := by
 rintro ⟨_, h, e⟩
 exact absurd (show (1 : Int) = 0 from e) (by decide)
theorem isKindNone : IsKind kNone where
 ok := ⟨fun _ j h => absurd h (kNone_fine j), fun _ _ _ _ _ _ _ => trivial⟩
 step := fun {w bm bw n f B R s j} h => absurd h (kNone_fine j)
 ans := fun {w B R s j} h => absurd h (kNone_fine j)
 mstep := fun j h => absurd h (kNone_fine j)
 mans := fun j h => absurd h (kNone_fine j)
 cstep := fun j h => absurd h (kNone_fine j)
 cans := fun j h => absurd h (kNone_fine j)
namespace Wk
variable {KP : Kd} (W : Wk KP)
def nextCell (b : Nat) (v : Value) : Goes W.A KP.σ W.β → Prop
 | .on a => v = .func (.func (W.act a)) #[ptr b] #[]
 | .done _ => True
 | .stop => True
 | .along _ _ _ => False
def toldBy (t : Ans) : Goes W.A KP.σ W.β → Ans
 | .done u => u
 | _ => t
def FlatOk (a : W.A) (o : W.τ) : Prop :=
 ∀ {w : World} {b bm bw n : Nat} {f : Nat → Int} (v2 v3 : Value) (t : Ans), w.rowIs b (W.T o) (W.n o) (W.mrow o (.func (.func (W.act a)) #[ptr b] #[]) v2 v3 t) → IsMem w bm bw n f → b ≠ bm → b ≠ bw →
  W.T (W.out a o (stepOf n f (W.req a o))).1 = W.T o ∧ W.n (W.out a o (stepOf n f (W.req a o))).1 = W.n o ∧
  Calls Tryz.prog (W.act a) #[ptr b, ptr bm] w fun e w' => e = .returned (.tuple #[(stepOf n f (W.req a o)).val, .int .i64 (W.en (W.apply t (W.out a o (stepOf n f (W.req a o)))))]) ∧
   (∃ v1, W.nextCell b v1 (W.out a o (stepOf n f (W.req a o))).2 ∧ w'.rowIs b (W.T o) (W.n o) (W.mrow (W.out a o (stepOf n f (W.req a o))).1 v1 v2 v3 (W.toldBy t (W.out a o (stepOf n f (W.req a o))).2))) ∧
   IsMem w' bm bw n (wordsOf n f (W.req a o)) ∧ Touch w w' (fun k => k = b ∨ k = bw)
theorem FlatOk.act {a : W.A} {o : W.τ} (H : W.FlatOk a o) : W.ActOk a o := by
 intro w B R bm bw n f t L M hne
 obtain ⟨v1, v2, v3, e0, e1, e2⟩ := L.lies
 simp only at e0 e1 e2
 subst e1
 have hb := hne 0 _ e0
 obtain ⟨hT, hn, K⟩ := H v2 v3 t (L.row 0 _ e0) M hb.1 hb.2
 refine K.mono ?_
 rintro e w' ⟨rfl, ⟨v1, c1, hr⟩, M', T⟩
 refine ⟨rfl, B, fun i => if i = 0 then some ⟨W.T o, W.n o, W.mrow (W.out a o (stepOf n f (W.req a o))).1 v1 v2 v3 (W.toldBy t (W.out a o (stepOf n f (W.req a o))).2)⟩ else none, ⟨rfl, ⟨?_, fun i x e => ?_, fun i i' x x' e e' _ => ?_⟩, fun i x e => ?_, T.mono (fun k _ h => h.elim (fun h => .inr ⟨0, _, e0, h⟩) .inl)⟩, M'⟩
 ·cases hg : W.out a o (stepOf n f (W.req a o)) with
  | mk o' g =>
   rw [hg] at hT hn c1
   cases g with
   | on a' => exact ⟨v1, v2, v3, by simp [apply, toldBy, hT, hn], c1, fun i hi => by simp; omega⟩
   | done u => exact ⟨v1, v2, v3, by simp [apply, toldBy, hT, hn], fun i hi => by simp; omega⟩
   | along pj ps b => exact c1.elim
   | stop => exact ⟨v1, v2, v3, by simp [apply, toldBy, hT, hn], fun i hi => by simp; omega⟩
 ·split at e
  ·next h => cases e; rw [h]; exact hr
  ·cases e
 ·split at e
  ·split at e'
   ·next h h' => rw [h, h']
   ·cases e'
  ·cases e
 ·split at e
  ·next h => rw [h]; exact .inl ⟨0, _, e0, rfl⟩
  ·cases e
end Wk
end Hp
end
end Go.Proofs.YtppgbndoijppnaaGreat
