/-
  A region that draws its order, whose last operation hangs on all the others, which only read: whatever the order, the others first and then the last.
-/
import Derived.Test.YtlbcjolbgeficaaLtR
namespace Go.Proofs.Ytlbcjolbgeficaa
open Go.RowKit
set_option linter.unusedVariables false
set_option linter.unusedSimpArgs false
set_option linter.unnecessarySimpa false
namespace Lz
open Lt

theorem in_on {ks : List (Nat × Nat)} {vals : Nat → Value} {WI : World → Prop} {a0 a : Act} {L : Nat → Bool} {w w' : World} {i : Nat} {dst : Option Nat} {v : Value}
    (hgood : ∀ p ∈ ks, ∀ q ∈ ks, p.1 = q.1 ∨ p.2 ≠ q.2) (hD : ∀ k, D ks k → k < a0.tmps.size)
    (h : In ks vals WI a0 L a w) (hdst : dst = Lt.look ks i) (hv : ∀ d, dst = some d → v = vals i) (hW : WI w') : In ks vals WI a0 (up L i) (a.put dst v) w' := by
  have pvm : ∀ {i d v}, pv ks vals i = some (d, v) → (i, d) ∈ ks := fun {i d v} h => by
    obtain ⟨d', h1, h2⟩ := Option.map_eq_some_iff.1 h
    cases h2; exact look_mem h1
  cases hlk : Lt.look ks i with
  | none =>
    rw [hdst, hlk]
    refine ⟨h.sz, h.df, h.fix, fun j d' v' hj hLj => h.pure j d' v' hj ?_, hW⟩
    have hji : j ≠ i := fun e => by
      subst e
      obtain ⟨d'', h1, _⟩ := Option.map_eq_some_iff.1 hj
      rw [hlk] at h1; cases h1
    rwa [up_other _ hji] at hLj
  | some d =>
    have hv' := hv d (hdst.trans hlk)
    subst hv'
    rw [hdst, hlk]
    have hm' : (i, d) ∈ ks := look_mem hlk
    have hDd : D ks d := by simp only [D, List.any_eq_true, beq_iff_eq]; exact ⟨_, hm', rfl⟩
    have e : ∀ k : Nat, k ≠ d → (a.put (some d) (vals i)).eval (.tmp k) = a.eval (.tmp k) := fun k hk => put_other hk
    refine ⟨by rw [put_size]; exact h.sz, by rw [put_defs]; exact h.df, fun k hk => ?_, fun j d' v' hj hLj => ?_, hW⟩
    · rw [e k (fun he => hk (he ▸ hDd))]; exact h.fix k hk
    · by_cases hij : j = i
      · subst hij
        rw [pv, hlk] at hj
        cases hj
        exact put_eval (by rw [h.sz]; exact hD _ hDd)
      · rw [up_other _ hij] at hLj
        have : d' ≠ d := by
          rcases hgood _ hm' _ (pvm hj) with e1 | e1
          · exact absurd e1.symm hij
          · exact Ne.symm e1
        rw [e d' this]
        exact h.pure j d' v' hj hLj

theorem region {P : Program} {id : Nat} {ops : Array Oper} {Q : Exit → Act → World → Prop} {ks : List (Nat × Nat)} {vals : Nat → Value} {w0 : World} {a0 : Act} {m : Nat}
    (hm : P.follows .mixedOrders = true) (hsz : ops.size = m + 1) (hback : ∀ (i : Nat) (o : Oper), ops[i]? = some o → ∀ e ∈ o.after, Region.binds .any e = true → e.on < i)
    (hgood : (ks.all fun p => ks.all fun q => p.1 == q.1 || p.2 != q.2) = true) (hD : ∀ k, D ks k → k < a0.tmps.size)
    (hcl : ∀ L : Nat → Bool, (∀ i o, ops[i]? = some o → L i = true → Deps o L) → (∀ o, ops[m]? = some o → Deps o L) → ∀ j, j < m → L j = true)
    (hg : ∀ o, ops[m]? = some o → o.guard = none)
    (does : ∀ (i : Nat) (o : Oper), i < m → ops[i]? = some o → Does P Q ops ks vals (fun w' => w' = w0.drew) a0 i o)
    (last : ∀ L a o, ops[m]? = some o → In ks vals (fun w' => w' = w0.drew) a0 L a w0.drew → (∀ j, j < m → L j = true) → o.wp P a w0.drew (fun a' w' => Q .normal a' w') Q) :
    (Code.region id ops true).wp P Q a0 w0 := by
  simp only [List.all_eq_true, bne_iff_ne, Bool.or_eq_true, beq_iff_eq] at hgood
  refine region_inv hm hback (fun L a w => (L m = false ∧ In ks vals (fun w' => w' = w0.drew) a0 L a w ∧ ∀ i o, ops[i]? = some o → L i = true → Deps o L) ∨ ((∀ i, i < ops.size → L i = true) ∧ Q .normal a w)) ?step ?fin ?start
  case start => exact .inl ⟨rfl, ⟨rfl, rfl, fun _ _ => rfl, fun _ _ _ _ h => (by cases h), rfl⟩, fun _ _ _ h => by cases h⟩
  case fin =>
    rintro L a w (⟨h1, _⟩ | ⟨_, h⟩) hall
    · rw [hall m (by omega)] at h1; cases h1
    · exact h
  case step =>
    rintro L a w i o hI ho hL hd
    have hi : i < ops.size := (Array.getElem?_eq_some_iff.1 ho).1
    rcases hI with ⟨hLm, hI, hC⟩ | ⟨hall, _⟩
    · by_cases him : i = m
      · subst him
        have hall := hcl L hC (fun o' ho' => by rw [ho] at ho'; cases ho'; exact hd)
        obtain rfl : w = w0.drew := hI.world
        refine .inl ⟨wn0 (hg o ho), Oper.wp_mono (fun a' w' h => ?_) (last L a o ho hI hall)⟩
        refine .inr ⟨fun j hj => ?_, h⟩
        by_cases e : j = i
        · subst e; exact up_same _ _
        · rw [up_other _ e]; exact hall j (by omega)
      · have him' : i < m := by omega
        have up' : ∀ a' w', In ks vals (fun w' => w' = w0.drew) a0 (up L i) a' w' → ((up L i) m = false ∧ In ks vals (fun w' => w' = w0.drew) a0 (up L i) a' w' ∧ ∀ i' o', ops[i']? = some o' → (up L i) i' = true → Deps o' (up L i)) ∨ ((∀ j, j < ops.size → (up L i) j = true) ∧ Q .normal a' w') := fun a' w' h => by
          refine .inl ⟨by rw [up_other _ (Ne.symm him)]; exact hLm, h, fun i' o' ho' hL' => ?_⟩
          have mono : ∀ j, L j = true → up L i j = true := fun j hj => by unfold up; split <;> simp_all
          by_cases e : i' = i
          · subst e
            rw [ho] at ho'
            cases ho'
            exact fun e he hb => mono _ (hd e he hb)
          · rw [up_other _ e] at hL'
            exact fun e he hb => mono _ (hC i' o' ho' hL' e he hb)
        rcases does i o him' ho with ⟨hdst, hwn, hwp⟩ | ⟨hdst, hwn, hv⟩
        · exact .inl ⟨hwn L a w hI hd, hwp L a w _ hI hd (fun w' v hv hW => up' _ _ (in_on hgood hD hI hdst hv hW))⟩
        · exact .inr ⟨hwn L a w hI hd, up' _ _ (in_on hgood hD hI hdst (fun _ _ => hv.symm) hI.world)⟩
    · rw [hall i hi] at hL; cases hL

section
variable {ev : Operand → Value} {o : Oper} {w : World}
theorem ex_idx {x y : Operand} {b off n cap k s : Nat} {t e : TypeId} (ho : o.op = .indexAddr t x y) (hx : ev x = .slice (some ⟨b, off, none⟩) n cap) (hy : ev y = .int .i64 (k : Int)) (hk : k < n) (ht : Try.prog.underlying t = some (.slice e)) (hs : (sizeOf e).run Try.prog w = .ok s w) : (execOp ev o).run Try.prog w = .ok (.value (.pointer (some ⟨b, off + k * s, none⟩))) w := by
  have h1 : (k : Int) < (n : Int) := by omega
  simp [execOp, ho, hx, hy, go_sem, ht, hs, h1]
theorem ex_idx1 {x y : Operand} {b off n cap k : Nat} {t e : TypeId} (ho : o.op = .indexAddr t x y) (hx : ev x = .slice (some ⟨b, off, none⟩) n cap) (hy : ev y = .int .i64 (k : Int)) (hk : k < n) (ht : Try.prog.underlying t = some (.slice e)) (hs : (sizeOf e).run Try.prog w = .ok 1 w) : (execOp ev o).run Try.prog w = .ok (.value (.pointer (some ⟨b, off + k, none⟩))) w := by
  have := ex_idx ho hx hy hk ht hs
  simpa using this
theorem ex_idx0 {x y : Operand} {b n cap k : Nat} {t e : TypeId} (ho : o.op = .indexAddr t x y) (hx : ev x = .slice (some ⟨b, 0, none⟩) n cap) (hy : ev y = .int .i64 (k : Int)) (hk : k < n) (ht : Try.prog.underlying t = some (.slice e)) (hs : (sizeOf e).run Try.prog w = .ok 1 w) : (execOp ev o).run Try.prog w = .ok (.value (.pointer (some ⟨b, k, none⟩))) w := by
  have := ex_idx ho hx hy hk ht hs
  simpa using this
theorem ex_field {x : Operand} {b p k q : Nat} {ty : TypeId} (ho : o.op = .fieldAddr ty x k) (hx : ev x = .pointer (some ⟨b, p, none⟩)) (hf : (Instr.fieldAt ty (.pointer (some ⟨b, p, none⟩)) k).run Try.prog w = .ok (.pointer (some ⟨b, q, none⟩)) w) : (execOp ev o).run Try.prog w = .ok (.value (.pointer (some ⟨b, q, none⟩))) w := by
  simp [execOp, ho, hx, hf]
end
end Lz
end Go.Proofs.Ytlbcjolbgeficaa
