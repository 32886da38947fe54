/-
  Lemmas: ListW, RHB, RoomAB.
-/
import Derived.Test.YtidihnnmdmlgfaaGreatTq05
import Derived.Test.YtidihnnmdmlgfaaGreatTq03
import Derived.Test.YtidihnnmdmlgfaaGreatTq35
import Derived.Test.YtidihnnmdmlgfaaGreatTq34
namespace Go.Proofs.YtidihnnmdmlgfaaGreat
set_option maxHeartbeats 8000000
open Go.RowKit
set_option linter.unusedVariables false
set_option linter.unusedSimpArgs false
set_option maxRecDepth 20000
section
namespace PKept
def lenV : Value → Nat
  | .slice _ n _ => n
  | _ => 0
theorem grown_below {B : Nat} {w wr w1 : World} {v : Value} {o : Obj} {e : TypeId} {n : Nat} {xs : List Value} (HB : Below B w wr) (hB : B ≤ wr.heap.size) (HO : wr.ownsRow B e 1 v n xs) (G : (wr.alloc o).grownBy w1 v.ownBlock) : Below B w w1 := by
  have HA : Below B w (wr.alloc o) := HB.alloc hB o
  refine ⟨G.os.trans HA.os, G.tape.trans HA.tape, G.output.trans HA.output, Nat.le_trans HA.size G.size, fun k hk => ?_⟩
  refine (G.block k (by simp; omega) (fun e => ?_)).trans (HA.block k hk)
  have := (HO.lt k e.symm).1
  omega
def wc (l : List Int) : List Value := l.map fun x => Value.int .u64 x
theorem wp_append_opt {P : Program} {w : World} {o : Oper} {a : Act} {K : Act → World → Prop} {Q : Exit → Act → World → Prop} (s x : Operand) (t : TypeId)
    (ho : o.op = .call { callee := .builtin .append, args := #[s, x], argTypes := #[t, t] })
    (base : Nat) (e : TypeId) (i : TypeInfo) (z : Value) (size bytes : Nat) (ht : P.underlying t = some (.slice e)) (hi : P.info? e = some i) (hz : i.zero = some z)
    (hsize : i.size = size) (hby : i.bytes = bytes) (hzs : z.cells.size = size) (hsz : 0 < size)
    (v : Value) (n : Nat) (xs : List Value) (hs : a.eval s = v) (hown : w.ownsRow base e size v n xs)
    (ao : Option Addr) (m c : Nat) (news : List Value) (hx : a.eval x = .slice ao m c) (hnil : ao = none → m = 0 ∧ c = 0) (hl : news.length = m * size) (hnews : ∀ ad, ao = some ad → ∀ j u, news[j]? = some u → w.cell? (ad.add j) = some u) (h1 : ∀ u ∈ news, u.oneCell' = true)
    (h63 : n + m ≤ maxLen) (hbytes : (n + m) * bytes ≤ 140737488355328) (hbase : base ≤ w.heap.size)
    (h : ∀ v' w', w'.ownsRow base e size v' (n + m) (xs ++ news) → w.grownBy w' v.ownBlock → K (a.put o.dst v') w') : o.wp P a w K Q := by
  cases ao with
  | none =>
    obtain ⟨rfl, rfl⟩ := hnil rfl
    have hn : news = [] := by simpa using hl
    subst hn
    have hrun := run_append_owned_none (P := P) (w := w) base t o.type e i size ht hi v n xs hown
    unfold Oper.wp
    simp [execOp, ho, resolve, invoke, builtin, hs, hx, hrun, Result.andThen]
    exact h v w (by simpa using hown) ⟨rfl, rfl, rfl, Nat.le_refl _, fun _ _ _ => rfl⟩
  | some ad =>
    obtain ⟨v', w', hr, h2, h3, _, _⟩ := run_append_own_at (P := P) w base t o.type e i z size bytes ht hi hz hsize hby hzs hsz v n xs hown ad m c news hl (hnews ad rfl) h1 h63 hbytes hbase
    unfold Oper.wp execOp
    simp only [ho, resolve, invoke, builtin, Sem.run_bind, Sem.run_pure, Result.andThen_ok, List.map_toArray, List.map_cons, List.map_nil, hs, hx, hr]
    exact h v' w' h2 h3
end PKept
end
section
namespace RH
open RetN (pv D)
theorem region2 {P : Program} {id : Nat} {ops : Array Oper} {Q : Exit → Act → World → Prop} {ks : List (Nat × Nat)} {vals : Nat → Value} {xs : List Nat} {WI : (Nat → Bool) → (Nat → Value) → World → Prop} {w0 : World} {a0 : Act}
    (hm : P.follows .mixedOrders = true) (hg : ∀ (i : Nat) (o : Oper), ops[i]? = some o → o.guard = none) (hback : ∀ (i : Nat) (o : Oper), ops[i]? = some o → ∀ e ∈ o.after, Region.binds .any e = true → e.on < i)
    (hgood : (ks.all fun p => (ks.all fun q => p.1 == q.1 || p.2 != q.2) && !xs.contains p.2) = true) (hD : ∀ k, D ks k → k < a0.tmps.size) (hX : ∀ k, xs.contains k = true → k < a0.tmps.size)
    (hloc : ∀ L s s' w, (∀ k, xs.contains k = true → s k = s' k) → WI L s w → WI L s' w) (hW0 : WI (fun _ => false) (fun k => a0.eval (.tmp k)) { w0 with drawn := w0.drawn + 1 })
    (does : ∀ (i : Nat) (o : Oper), ops[i]? = some o → Does P Q ks vals xs WI a0 i o)
    (fin : ∀ L a w, In ks vals xs WI a0 L a w → (∀ i, i < ops.size → L i = true) → Q .normal a w) :
    (Code.region id ops true).wp P Q a0 w0 := by
  simp only [List.all_eq_true, bne_iff_ne, Bool.or_eq_true, beq_iff_eq, Bool.and_eq_true, Bool.not_eq_true'] at hgood
  have pvm : ∀ {i d v}, pv ks vals i = some (d, v) → (i, d) ∈ ks := fun {i d v} h => by
    obtain ⟨d', h1, h2⟩ := Option.map_eq_some_iff.1 h
    cases h2; exact Reg.look_mem h1
  refine region_inv hm hg hback (fun L a w => In ks vals xs WI a0 L a w) ?step (fun L a w h hall => fin L a w h hall) ?start
  case start => exact ⟨rfl, rfl, fun _ _ _ => rfl, fun _ _ _ _ h => (by cases h), hW0⟩
  case step =>
    rintro L a w i o h ho hL hd
    have none_ok : ∀ {j d' v'}, Reg.look ks i = none → pv ks vals j = some (d', v') → upd L i true j = true → L j = true := fun {j d' v'} hlk hj hLj => by
      have hji : j ≠ i := fun e => by
        subst e
        obtain ⟨d'', h1, _⟩ := Option.map_eq_some_iff.1 hj
        rw [hlk] at h1; cases h1
      rwa [upd_other _ _ hji] at hLj
    rcases does i o ho with ⟨hdst, hwp⟩ | ⟨x, hdst, hx, hno, hwp⟩
    · refine hwp L a w _ h hL hd (fun w' v hv hW => ?_)
      cases hlk : Reg.look ks i with
      | none =>
        rw [hdst, hlk]
        exact ⟨h.sz, h.df, h.fix, fun j d' v' hj hLj => h.pure j d' v' hj (none_ok hlk hj hLj), hW⟩
      | some d =>
        have hv' := hv d (hdst.trans hlk)
        subst hv'
        rw [hdst, hlk]
        have hm' : (i, d) ∈ ks := Reg.look_mem hlk
        have hDd : D ks d := by simp only [D, List.any_eq_true, beq_iff_eq]; exact ⟨_, hm', rfl⟩
        have e : ∀ k : Nat, k ≠ d → (a.put (some d) (vals i)).eval (.tmp k) = a.eval (.tmp k) := fun k hk => put_other hk
        refine ⟨by rw [put_size]; exact h.sz, by rw [put_defs]; exact h.df, fun k hk hkx => ?_, fun j d' v' hj hLj => ?_, hloc _ _ _ _ (fun k hk => (e k (fun he => by subst he; rw [(hgood _ hm').2] at hk; cases hk)).symm) hW⟩
        · rw [e k (fun he => hk (he ▸ hDd))]; exact h.fix k hk hkx
        · by_cases hij : j = i
          · subst hij
            rw [pv, hlk] at hj
            cases hj
            exact put_eval (by rw [h.sz]; exact hD _ hDd)
          · rw [upd_other _ _ hij] at hLj
            have : d' ≠ d := by
              rcases (hgood _ hm').1 _ (pvm hj) with e1 | e1
              · exact absurd e1.symm hij
              · exact Ne.symm e1
            rw [e d' this]
            exact h.pure j d' v' hj hLj
    · refine hwp L a w _ h hL hd (fun w' v hW => ?_)
      have e : ∀ k : Nat, k ≠ x → (a.put (some x) v).eval (.tmp k) = a.eval (.tmp k) := fun k hk => put_other hk
      have ex : (a.put (some x) v).eval (.tmp x) = v := put_eval (by rw [h.sz]; exact hX x hx)
      refine ⟨by rw [put_size]; exact h.sz, by rw [put_defs]; exact h.df, fun k hk hkx => by rw [e k (fun he => by subst he; rw [hx] at hkx; cases hkx)]; exact h.fix k hk hkx, fun j d' v' hj hLj => ?_, hloc _ _ _ _ (fun k hk => ?_) hW⟩
      · rw [e d' (fun he => by subst he; have := (hgood _ (pvm hj)).2; rw [hx] at this; cases this)]
        exact h.pure j d' v' hj (none_ok hno hj hLj)
      · by_cases he : k = x
        · subst he; simp [ex]
        · simp [he, e k he]
end RH
end
section
namespace Rom
open PKept
def ics (l : List Int) : List Value := l.map fun x => Value.int .i64 x
theorem ics_len (l : List Int) : (ics l).length = l.length := by simp [ics]
theorem ics_more (l : List Int) (x : Int) : ics (l ++ [x]) = ics l ++ [.int .i64 x] := by simp [ics]
theorem ics_get {l : List Int} {j : Nat} {x : Int} (h : l[j]? = some x) : (ics l)[j]? = some (.int .i64 x) := by simp [ics, h]
structure AB (W : World) (l : List Int) (hv : Int) (v0 : Value) (L0 L1 L2 L8 L9 L10 : Bool) (s71 s73 s79 s80 s8 : Value) (w : World) : Prop where
  bel : Below W.heap.size W w
  d0 : L2 = true → L0 = true ∧ L1 = true
  d1 : L9 = true → L2 = true ∧ L8 = true
  d2 : L10 = true → L9 = true
  a : L0 = true → L2 = false → w.ownsRow W.heap.size 3 1 s71 0 []
  b : L2 = true → L9 = false → w.ownsRow W.heap.size 3 1 s73 l.length (ics l)
  c : L8 = true → L9 = false → ∃ q, s79 = .slice (some ⟨q, 0, none⟩) 1 1 ∧ q < w.heap.size ∧ w.cell? ⟨q, 0, none⟩ = some (.int .i64 hv) ∧ (L0 = true → L2 = false → s71.ownBlock ≠ some q)
  e : L9 = true → w.ownsRow W.heap.size 3 1 s80 (l ++ [hv]).length (ics (l ++ [hv]))
  f : L10 = true → s8 = s80
  g : L10 = false → s8 = v0
section
variable {W w w' : World} {l : List Int} {hv : Int} {v0 : Value} {L0 L1 L2 L8 L9 L10 : Bool} {s71 s73 s79 s80 s8 : Value}
theorem AB.start (hg : s8 = v0) : AB W l hv v0 false false false false false false s71 s73 s79 s80 s8 { W with drawn := W.drawn + 1 } :=
  ⟨⟨rfl, rfl, rfl, Nat.le_refl _, fun _ _ => rfl⟩, fun h => (by cases h), fun h => (by cases h), fun h => (by cases h), fun h => (by cases h), fun h => (by cases h), fun h => (by cases h), fun h => (by cases h), fun h => (by cases h), fun _ => hg⟩
theorem AB.skip {L : Nat → Bool} {i : Nat} (n0 : 0 ≠ i) (n1 : 1 ≠ i) (n2 : 2 ≠ i) (n8 : 13 ≠ i) (n9 : 14 ≠ i) (n10 : 15 ≠ i) (h : AB W l hv v0 (L 0) (L 1) (L 2) (L 13) (L 14) (L 15) s71 s73 s79 s80 s8 w) : AB W l hv v0 (upd L i true 0) (upd L i true 1) (upd L i true 2) (upd L i true 13) (upd L i true 14) (upd L i true 15) s71 s73 s79 s80 s8 w := by
  rwa [upd_other _ _ n0, upd_other _ _ n1, upd_other _ _ n2, upd_other _ _ n8, upd_other _ _ n9, upd_other _ _ n10]
theorem AB.no9 (h : AB W l hv v0 L0 L1 L2 L8 L9 L10 s71 s73 s79 s80 s8 w) (hL : L2 = false ∨ L8 = false) : L9 = false := by
  cases e : L9 with
  | false => rfl
  | true =>
    obtain ⟨a, b⟩ := h.d1 e
    rcases hL with hL | hL
    · rw [a] at hL; cases hL
    · rw [b] at hL; cases hL
theorem AB.no2 (h : AB W l hv v0 L0 L1 L2 L8 L9 L10 s71 s73 s79 s80 s8 w) (hL : L0 = false ∨ L1 = false) : L2 = false := by
  cases e : L2 with
  | false => rfl
  | true =>
    obtain ⟨a, b⟩ := h.d0 e
    rcases hL with hL | hL
    · rw [a] at hL; cases hL
    · rw [b] at hL; cases hL
theorem AB.no10 (h : AB W l hv v0 L0 L1 L2 L8 L9 L10 s71 s73 s79 s80 s8 w) (hL : L9 = false) : L10 = false := by
  cases e : L10 with
  | false => rfl
  | true => have := h.d2 e; rw [hL] at this; cases this
theorem AB.was (h : AB W l hv v0 L0 L1 L2 L8 L9 L10 s71 s73 s79 s80 s8 w) (hL : L1 = false) : s8 = v0 := h.g (h.no10 (h.no9 (.inl (h.no2 (.inr hL)))))
theorem AB.moved (h : AB W l hv v0 L0 L1 L2 L8 L9 L10 s71 s73 s79 s80 s8 w) (hL : L1 = false) : AB W l hv v0 L0 true L2 L8 L9 L10 s71 s73 s79 s80 s8 w :=
  ⟨h.bel, fun h2 => ⟨(h.d0 h2).1, rfl⟩, h.d1, h.d2, h.a, h.b, h.c, h.e, h.f, h.g⟩
theorem AB.build (h : AB W l hv v0 L0 L1 L2 L8 L9 L10 s71 s73 s79 s80 s8 w) (hL : L0 = false) : AB W l hv v0 true L1 L2 L8 L9 L10 (.slice (some ⟨w.heap.size, 0, none⟩) 0 0) s73 s79 s80 s8 (w.alloc (.cells #[] 3)) := by
  have h2 := h.no2 (.inl hL)
  have h9 := h.no9 (.inl h2)
  have B : Below w.heap.size w (w.alloc (.cells #[] 3)) := (Below.refl _ w).alloc (Nat.le_refl _) _
  subst h2 h9
  refine ⟨h.bel.alloc h.bel.size _, fun h => (by cases h), fun h => (by cases h), h.d2, fun _ _ => ?_, fun h => (by cases h), fun h8 _ => ?_, fun h => (by cases h), fun h10 => absurd (h.d2 h10) (by decide), h.g⟩
  · exact ⟨rfl, .inr ⟨w.heap.size, 0, #[], rfl, h.bel.size, by show (w.heap.push _)[w.heap.size]? = _; simp, Nat.le_refl _, by decide, rfl, rfl⟩⟩
  · obtain ⟨q, e1, hq, hc, _⟩ := h.c h8 rfl
    refine ⟨q, e1, Nat.lt_of_lt_of_le hq B.size, (B.cell (p := ⟨q, 0, none⟩) hq).trans hc, fun _ _ he => ?_⟩
    have h2 : w.heap.size = q := by simpa [Value.ownBlock] using he
    omega
theorem AB.built (h : AB W l hv v0 L0 L1 L2 L8 L9 L10 s71 s73 s79 s80 s8 w) (hL : L8 = false) : AB W l hv v0 L0 L1 L2 true L9 L10 s71 s73 (.slice (some ⟨w.heap.size, 0, none⟩) 1 1) s80 s8 (w.alloc (.cells #[.int .i64 hv] 3)) := by
  have h9 := h.no9 (.inr hL)
  subst h9
  refine ⟨h.bel.alloc h.bel.size _, h.d0, fun h => (by cases h), h.d2, fun a b => (h.a a b).alloc _, fun a b => (h.b a b).alloc _, fun _ _ => ⟨w.heap.size, rfl, by simp, by simp, fun a b he => ?_⟩, fun h => (by cases h), fun h10 => absurd (h.d2 h10) (by decide), h.g⟩
  have := ((h.a a b).lt _ he).2
  omega
theorem AB.app1 (h : AB W l hv v0 L0 L1 L2 L8 L9 L10 s71 s73 s79 s80 s8 w) (hL : L2 = false) (h0 : L0 = true) (h1 : L1 = true) {v : Value} (own : w'.ownsRow W.heap.size 3 1 v (0 + l.length) ([] ++ ics l)) (gr : w.grownBy w' s71.ownBlock) : AB W l hv v0 L0 L1 true L8 L9 L10 s71 v s79 s80 s8 w' := by
  have h9 := h.no9 (.inl hL)
  subst h9 hL
  rw [Nat.zero_add, List.nil_append] at own
  have ha := h.a h0 rfl
  refine ⟨⟨gr.os.trans h.bel.os, gr.tape.trans h.bel.tape, gr.output.trans h.bel.output, Nat.le_trans h.bel.size gr.size, fun k hk => (gr.block k (Nat.lt_of_lt_of_le hk h.bel.size) (fun e => by have := (ha.lt k e.symm).1; omega)).trans (h.bel.block k hk)⟩, fun _ => ⟨h0, h1⟩, fun h => (by cases h), h.d2, fun _ h => (by cases h), fun _ _ => own, fun h8 _ => ?_, fun h => (by cases h), fun h10 => absurd (h.d2 h10) (by decide), h.g⟩
  obtain ⟨q, e1, hq, hc, hn⟩ := h.c h8 rfl
  exact ⟨q, e1, Nat.lt_of_lt_of_le hq gr.size, (World.cell?_of_block (a := ⟨q, 0, none⟩) (gr.block q hq (fun e => hn h0 rfl e.symm))).trans hc, fun _ h => (by cases h)⟩
theorem AB.app2 (h : AB W l hv v0 L0 L1 L2 L8 L9 L10 s71 s73 s79 s80 s8 w) (hL : L9 = false) (h2 : L2 = true) (h8 : L8 = true) {v : Value} (own : w'.ownsRow W.heap.size 3 1 v (l.length + 1) (ics l ++ [.int .i64 hv])) (gr : w.grownBy w' s73.ownBlock) : AB W l hv v0 L0 L1 L2 L8 true L10 s71 s73 s79 v s8 w' := by
  subst hL h2 h8
  have hb := h.b rfl rfl
  refine ⟨⟨gr.os.trans h.bel.os, gr.tape.trans h.bel.tape, gr.output.trans h.bel.output, Nat.le_trans h.bel.size gr.size, fun k hk => (gr.block k (Nat.lt_of_lt_of_le hk h.bel.size) (fun e => by have := (hb.lt k e.symm).1; omega)).trans (h.bel.block k hk)⟩, h.d0, fun _ => ⟨rfl, rfl⟩, fun _ => rfl, fun _ h => (by cases h), fun _ h => (by cases h), fun _ h => (by cases h), fun _ => ?_, fun h10 => absurd (h.d2 h10) (by decide), h.g⟩
  rw [ics_more, List.length_append]
  exact own
theorem AB.told (h : AB W l hv v0 L0 L1 L2 L8 L9 L10 s71 s73 s79 s80 s8 w) (h9 : L9 = true) : AB W l hv v0 L0 L1 L2 L8 L9 true s71 s73 s79 s80 s80 w :=
  ⟨h.bel, h.d0, h.d1, fun _ => h9, h.a, h.b, h.c, h.e, fun _ => rfl, fun h => (by cases h)⟩
end
theorem one_newi {w : World} {q : Nat} {hv : Int} (hc : w.cell? ⟨q, 0, none⟩ = some (.int .i64 hv)) {j : Nat} {u : Value} (hj : [Value.int .i64 hv][j]? = some u) : w.cell? (Addr.add ⟨q, 0, none⟩ j) = some u := by
  have h0 : j = 0 := by have := (List.getElem?_eq_some_iff.1 hj).1; simp at this; exact this
  subst h0
  rw [Go.WideShapes.add_plain]
  cases hj
  exact hc
theorem one_onei {hv : Int} : ∀ u ∈ [Value.int .i64 hv], u.oneCell' = true := fun u hu => by
  simp at hu
  subst hu
  rfl
theorem ics_one (l : List Int) : ∀ u, u ∈ ics l → u.oneCell' = true := fun u hu => by
  obtain ⟨q, _, rfl⟩ := List.mem_map.1 hu
  rfl
theorem ex_bslice0i {ev : Operand → Value} {o : Oper} {w : World} (ho : o.op = .buildSlice 26 0 #[]) : (execOp ev o).run Tryz.prog w = .ok (.value (.slice (some ⟨w.heap.size, 0, none⟩) 0 0)) (w.alloc (.cells #[] 3)) := by
  simp [execOp, ho, go_sem]
theorem ex_bslice1i {ev : Operand → Value} {o : Oper} {w : World} {x : Operand} {v : Int} (ho : o.op = .buildSlice 26 1 #[(0, x)]) (hx : ev x = .int .i64 v) : (execOp ev o).run Tryz.prog w = .ok (.value (.slice (some ⟨w.heap.size, 0, none⟩) 1 1)) (w.alloc (.cells #[.int .i64 v] 3)) := by
  simp [execOp, ho, hx, go_sem]
def IL (w : World) (B : Nat) (v : Value) (l : List Int) : Prop := (v = .slice none 0 0 ∧ l = []) ∨ ∃ (g cap : Nat) (F : Nat → Value), v = .slice (some ⟨g, 0, none⟩) l.length cap ∧ B ≤ g ∧ w.rowIs g 3 cap F ∧ (∀ k x, l[k]? = some x → F k = .int .i64 x) ∧ l.length ≤ cap
theorem IL.nil (w : World) (B : Nat) : IL w B (.slice none 0 0) [] := .inl ⟨rfl, rfl⟩
theorem IL.keep {w w' : World} {B : Nat} {v : Value} {l : List Int} (h : IL w B v l) (hb : Below w.heap.size w w') : IL w' B v l := by
  rcases h with h | ⟨g, cap, F, e, hg, R, r⟩
  · exact .inl h
  · exact .inr ⟨g, cap, F, e, hg, R.of_block (hb.block g R.lt), r⟩
theorem IL.down {w : World} {B B' : Nat} {v : Value} {l : List Int} (h : IL w B v l) (hb : B' ≤ B) : IL w B' v l := by
  rcases h with h | ⟨g, cap, F, e, hg, r⟩
  · exact .inl h
  · exact .inr ⟨g, cap, F, e, Nat.le_trans hb hg, r⟩
theorem IL.of_own {w : World} {B : Nat} {v : Value} {l : List Int} (h : w.ownsRow B 3 1 v l.length (ics l)) (hl : 0 < l.length) : IL w B v l := by
  obtain ⟨g, cap, F, e, hb, R, hp, hc, _⟩ := row_of_owns h hl
  refine .inr ⟨g, cap, F, e, hb, by rwa [Nat.mul_one] at R, fun k x hk => hp k _ (ics_get hk), hc⟩
theorem IL.cons {w : World} {B : Nat} {v : Value} {l : List Int} (h : IL w B v l) : ∃ ao cp, v = .slice ao l.length cp := by
  rcases h with ⟨rfl, rfl⟩ | ⟨g, cap, F, e, _⟩
  · exact ⟨_, _, rfl⟩
  · exact ⟨_, _, e⟩
theorem IL.at_ {w : World} {B cp : Nat} {ao : Option Addr} {l : List Int} (h : IL w B (.slice ao l.length cp) l) {k : Nat} (hk : k < l.length) : ∃ g x, ao = some ⟨g, 0, none⟩ ∧ B ≤ g ∧ g < w.heap.size ∧ w.cell? ⟨g, 0 + k, none⟩ = some (.int .i64 x) ∧ l[k]? = some x ∧ w.frozen? ⟨g, 0 + k, none⟩ = false := by
  rcases h with ⟨_, rfl⟩ | ⟨g, cap, F, e, hb, R, hp, hc⟩
  · cases hk
  · cases e
    have hx : l[k]? = some l[k] := List.getElem?_eq_getElem hk
    refine ⟨g, l[k], rfl, hb, R.lt, ?_, hx, R.frozen _⟩
    rw [Nat.zero_add, R.cell (i := k) (by omega), hp k _ hx]
theorem IL.put {w : World} {B cp g : Nat} {l : List Int} (h : IL w B (.slice (some ⟨g, 0, none⟩) l.length cp) l) (k : Nat) (x : Int) : IL (w.setCell ⟨g, 0 + k, none⟩ (.int .i64 x)) B (.slice (some ⟨g, 0, none⟩) l.length cp) (l.set k x) := by
  rcases h with ⟨e, _⟩ | ⟨g', cap, F, e, hb, R, hp, hc⟩
  · cases e
  · cases e
    rw [Nat.zero_add]
    refine .inr ⟨g, cp, _, by rw [List.length_set], hb, R.set k (.int .i64 x), fun j y hj => ?_, by rw [List.length_set]; exact hc⟩
    rw [List.getElem?_set] at hj
    by_cases e : k = j
    · subst e
      rw [if_pos rfl] at hj
      split at hj
      · cases hj; simp
      · cases hj
    · rw [if_neg e] at hj
      rw [if_neg (fun h => e h.symm)]
      exact hp j y hj
theorem IL.news {w : World} {B cp : Nat} {ao : Option Addr} {l : List Int} (h : IL w B (.slice ao l.length cp) l) : (ao = none → l.length = 0 ∧ cp = 0) ∧ ∀ ad, ao = some ad → ∀ j u, (ics l)[j]? = some u → w.cell? (ad.add j) = some u := by
  refine ⟨fun e0 => ?_, fun ad e0 j u hj => ?_⟩
  · rcases h with ⟨e, rfl⟩ | ⟨g, cap, F, e, _⟩
    · cases e; exact ⟨rfl, rfl⟩
    · rw [e0] at e; cases e
  · simp only [ics, List.getElem?_map, Option.map_eq_some_iff] at hj
    obtain ⟨x, hx, rfl⟩ := hj
    obtain ⟨g, x', e, _, _, hc, hx', _⟩ := h.at_ (List.getElem?_eq_some_iff.1 hx).1
    rw [e0] at e
    cases e
    rw [hx] at hx'
    cases hx'
    rw [Go.WideShapes.add_plain]
    exact hc
end Rom
end
end Go.Proofs.YtidihnnmdmlgfaaGreat
