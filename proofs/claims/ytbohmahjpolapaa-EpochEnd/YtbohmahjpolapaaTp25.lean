/-
  Lemmas: EpochG.
-/
import Derived.Test.YtbohmahjpolapaaTp21
/-
  The tasks of an epoch: what 'return s, r.goOn()' does.
-/
namespace Go.Proofs.Ytbohmahjpolapaa
open Go.RowKit
set_option linter.unusedVariables false
set_option linter.unusedSimpArgs false
set_option maxRecDepth 20000
namespace Epoch


/-- The region 'return s, r.goOn()': c: goOn is done; st: the step is told. -/
structure GO (b T nc : Nat) (C C' : Nat → Value) (bm bw n : Nat) (f : Nat → Int) (X : Stp) (q r : Nat) (w0 : World) (c st : Bool) (w : World) : Prop where
  row : w.rowIs b T nc (if c = true then C' else C)
  mem : IsMem w bm bw n f
  tch : Touch w0 w (fun k => k = b ∨ k = r)
  lts : b < w0.heap.size ∧ bm < w0.heap.size ∧ bw < w0.heap.size ∧ r < w0.heap.size ∧ q < w0.heap.size
  src : w.rangeAt q 0 X.cells
  thr : w.there r 0 X.cells.length
  sto : st = true → w.rangeAt r 0 X.cells

section
variable {b T nc : Nat} {C C' : Nat → Value} {bm bw n : Nat} {f : Nat → Int} {X : Stp} {q r : Nat} {w0 w w' : World} {c st : Bool}
theorem GO.start (h : w0.rowIs b T nc C) (hm : IsMem w0 bm bw n f) (hq : w0.rangeAt q 0 X.cells) (hql : q < w0.heap.size) (hr : w0.rowIs r 47 6 zcell) : GO b T nc C C' bm bw n f X q r w0 false false { w0 with drawn := w0.drawn + 1 } :=
  ⟨h.drew, hm.drew, (Touch.refl w0 _).drew, ⟨h.lt, hm.head.lt, hm.row.lt, hr.lt, hql⟩, rangeAt_block hq rfl, rowIs.there (hr.drew) (by simp [Stp.cells]), fun h => (by cases h)⟩
theorem GO.act (h : GO b T nc C C' bm bw n f X q r w0 c st w) (hbm : b ≠ bm) (hbw : b ≠ bw) (hbq : b ≠ q) (hbr : b ≠ r) (hrow : w'.rowIs b T nc C') (ht : Touch w w' (fun k => k = b)) : GO b T nc C C' bm bw n f X q r w0 true st w' := by
  have hl := h.lts
  have hs := h.tch.size
  exact ⟨by simpa using hrow, ⟨h.mem.head.of_block (ht.block _ h.mem.head.lt (Ne.symm hbm)), h.mem.row.of_block (ht.block _ h.mem.row.lt (Ne.symm hbw)), h.mem.most, h.mem.word⟩, h.tch.trans' ht (fun k _ e => .inl e), h.lts, rangeAt_block h.src (ht.block _ (by omega) (Ne.symm hbq)), there_block h.thr (ht.block r (by omega) (Ne.symm hbr)), fun e => rangeAt_block (h.sto e) (ht.block r (by omega) (Ne.symm hbr))⟩
theorem GO.put (h : GO b T nc C C' bm bw n f X q r w0 c st w) (hb : b ≠ r) (hm : bm ≠ r) (hw : bw ≠ r) (hq : q ≠ r) : w.there r 0 X.cells.length ∧ GO b T nc C C' bm bw n f X q r w0 c true (w.setCells r 0 X.cells) := by
  have tt := touch_setCells r X.cells 0 w
  have hl := h.lts
  have hs := h.tch.size
  exact ⟨h.thr, h.row.of_block (tt.block _ h.row.lt hb), ⟨h.mem.head.of_block (tt.block _ h.mem.head.lt hm), h.mem.row.of_block (tt.block _ h.mem.row.lt hw), h.mem.most, h.mem.word⟩, h.tch.trans' tt (fun k hk h => .inr h), h.lts, rangeAt_block h.src (tt.block _ (by omega) hq), World.there_setCells h.thr _ _ _, fun _ => World.rangeAt_setCells_same w r 0 X.cells h.thr⟩
theorem GO.skip {L : Nat → Bool} {i kc is : Nat} (h1 : kc ≠ i) (h3 : is ≠ i) (h : GO b T nc C C' bm bw n f X q r w0 (L kc) (L is) w) : GO b T nc C C' bm bw n f X q r w0 (upd L i true kc) (upd L i true is) w := by
  rwa [upd_other _ _ h1, upd_other _ _ h3]
theorem GOcalls {fd : FuncId} {args : Array Value} {v : Value} {kc is : Nat} (hbm : b ≠ bm) (hbw : b ≠ bw) (hbq : b ≠ q) (hbr : b ≠ r) (n2 : is ≠ kc)
    (hc : ∀ w : World, w.rowIs b T nc C → Calls Try.prog fd args w fun e w' => e = .returned v ∧ w'.rowIs b T nc C' ∧ Touch w w' (fun k => k = b)) :
    ∀ (L : Nat → Bool) (u : Value) w, GO b T nc C C' bm bw n f X q r w0 (L kc) (L is) w → L kc = false →
      Calls Try.prog fd args w fun e w' => e = .returned v ∧ GO b T nc C C' bm bw n f X q r w0 (upd L kc true kc) (upd L kc true is) w' := by
  intro L u w h hL
  have hr := h.row
  rw [hL, if_neg (by decide)] at hr
  refine (hc w hr).mono ?_
  rintro e w' ⟨rfl, hr', ht⟩
  rw [upd_same, upd_other _ _ n2]
  exact ⟨rfl, h.act hbm hbw hbq hbr hr' ht⟩
end


theorem mput_or {m nx : Int} (hm : 0 ≤ m ∧ m ≤ 18446744073709551615) (hn : 0 ≤ nx ∧ nx < 64) : IntKind.u64.wrap ((BitVec.ofInt 64 m ||| BitVec.ofInt 64 (IntKind.u64.wrap (1 * 2 ^ min nx.toNat 64))).toNat : Int) = mput m nx := by
  obtain ⟨k, rfl⟩ : ∃ k : Nat, nx = k := ⟨nx.toNat, by omega⟩
  obtain ⟨a, rfl⟩ : ∃ a : Nat, m = a := ⟨m.toNat, by omega⟩
  have h1 : a < 2 ^ 64 := by omega
  have h2 : 2 ^ k < 2 ^ 64 := Nat.pow_lt_pow_right (by omega) (by omega)
  have h3 := Nat.or_lt_two_pow h1 h2
  have e1 : (BitVec.ofInt 64 (a : Int)).toNat = a := by
    rw [BitVec.ofInt_natCast, BitVec.toNat_ofNat, Nat.mod_eq_of_lt h1]
  have e0 : IntKind.u64.wrap (1 * 2 ^ min (k : Int).toNat 64) = ((2 ^ k : Nat) : Int) := by
    rw [IntKind.wrap_u64, Int.toNat_natCast, Nat.min_eq_left (by omega), Int.one_mul]
    have : ((2 : Int) ^ k) = ((2 ^ k : Nat) : Int) := by simp
    rw [this]
    have h2' : ((2 ^ k : Nat) : Int) < 18446744073709551616 := Int.ofNat_lt.2 h2
    exact Int.emod_eq_of_lt (Int.natCast_nonneg _) h2'
  have e2 : (BitVec.ofInt 64 (((2 ^ k : Nat) : Int))).toNat = 2 ^ k := by
    rw [BitVec.ofInt_natCast, BitVec.toNat_ofNat, Nat.mod_eq_of_lt h2]
  rw [e0, BitVec.toNat_or, e1, e2, IntKind.wrap_u64]
  unfold mput
  rw [Int.toNat_natCast, Int.toNat_natCast]
  omega
theorem mput_bits {m nx : Int} (hm : 0 ≤ m ∧ m ≤ 18446744073709551615) (hn : 0 ≤ nx ∧ nx < 64) : bits .or .u64 m (IntKind.u64.wrap (2 ^ nx.toNat)) = mput m nx := by
  rw [← mput_or hm hn, Int.one_mul, Nat.min_eq_left (by omega)]
  rfl

end Epoch
end Go.Proofs.Ytbohmahjpolapaa
