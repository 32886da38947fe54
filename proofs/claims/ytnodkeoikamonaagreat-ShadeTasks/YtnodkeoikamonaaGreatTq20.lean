/-
  Lemmas: RGT, RKind, LA16Wrong, LA16RanE, RViews.
-/
import Derived.Test.YtnodkeoikamonaaGreatTq19
/-
  A reference's Step, whatever the layer: its task in a variable, the two variables that it answers by, the words; and its regions that draw their order, with calls that make memory.
-/
namespace Go.Proofs.YtnodkeoikamonaaGreat
open Go.RowKit
set_option linter.unusedVariables false
set_option linter.unusedSimpArgs false
structure RT (w0 : World) (g n cap : Nat) (l : List Value) (f : Nat → Int) (w : World) : Prop where
  tk : w.rowIs w0.heap.size 85 28 (lrow l)
  rt : w.rowIs (w0.heap.size + 1) 85 28 (lrow tk0)
  rs : w.rowIs (w0.heap.size + 2) 71 6 zcell
  row : IsRow w g n cap f
  gro : w0.grownBy w (some g)
  lg : g < w0.heap.size
  len : l.length = 28
namespace RT
variable {w0 w w' : World} {g n cap : Nat} {l : List Value} {f f' : Nat → Int}
theorem size (h : RT w0 g n cap l f w) : w0.heap.size + 3 ≤ w.heap.size := by have := h.rs.lt; omega
theorem belowB {B : Nat} (h : RT w0 g n cap l f w) (hB : w0.heap.size + 3 ≤ B) (hb : Below B w w') (hs : B ≤ w.heap.size) : RT w0 g n cap l f w' := by
  have := h.lg
  have sz := h.size
  refine ⟨h.tk.of_block (hb.block _ (by omega)), h.rt.of_block (hb.block _ (by omega)), h.rs.of_block (hb.block _ (by omega)), h.row.block (hb.block _ (by omega)), ?_, h.lg, h.len⟩
  exact ⟨hb.os.trans h.gro.os, hb.tape.trans h.gro.tape, hb.output.trans h.gro.output, Nat.le_trans h.gro.size hb.size, fun k hk hn => (hb.block k (by omega)).trans (h.gro.block k hk hn)⟩
theorem below (h : RT w0 g n cap l f w) (hb : Below w.heap.size w w') : RT w0 g n cap l f w' := h.belowB h.size hb (Nat.le_refl _)
theorem act (h : RT w0 g n cap l f w) (hr : IsRow w' g n cap f') (hg : w.grownBy w' (some g)) : RT w0 g n cap l f' w' := by
  have := h.lg
  have sz := h.size
  exact ⟨h.tk.of_block (hg.block _ (by omega) (by simp; omega)), h.rt.of_block (hg.block _ (by omega) (by simp; omega)), h.rs.of_block (hg.block _ (by omega) (by simp; omega)), hr, grown_trans h.gro hg, h.lg, h.len⟩
theorem cell (h : RT w0 g n cap l f w) {i : Nat} {v : Value} (hv : l[i]? = some v) : w.cell? ⟨w0.heap.size, i, none⟩ = some v := by
  have hi := (List.getElem?_eq_some_iff.1 hv).1
  rw [h.tk.cell (i := i) (by have := h.len; omega), lrow_of hv]
theorem range (h : RT w0 g n cap l f w) : w.rangeAt w0.heap.size 0 l := rowIs.range h.tk h.len
theorem part (h : RT w0 g n cap l f w) {vs : List Value} (hv : ∀ (j : Nat) (v : Value), vs[j]? = some v → l[j]? = some v) : w.rangeAt w0.heap.size 0 vs := fun j v hj => by
  rw [Nat.zero_add]; exact h.cell (hv j v hj)
theorem frozen (h : RT w0 g n cap l f w) (i : Nat) : w.frozen? ⟨w0.heap.size, i, none⟩ = false := h.tk.frozen i
theorem set (h : RT w0 g n cap l f w) (i : Nat) (hi : i < 28) (v : Value) : RT w0 g n cap (l.set i v) f (w.setCell ⟨w0.heap.size, i, none⟩ v) := by
  have hl := h.lg
  refine ⟨rowIs.setL h.tk (by have := h.len; omega) v, h.rt.setOther (by simp) v, h.rs.setOther (by simp) v, h.row.setOther (by simp; omega) v, grown_setCell h.gro _ (.inr (Nat.le_refl _)) v, h.lg, by simp [h.len]⟩
theorem alloc (h : RT w0 g n cap l f w) (o : Obj) : RT w0 g n cap l f (w.alloc o) := h.below ((Below.refl _ w).alloc (Nat.le_refl _) o)
theorem start (hr : IsRow w0 g n cap f) (hl : l.length = 28) : RT w0 g n cap l f (((w0.alloc (.cells l.toArray 85)).alloc (.cells tk0.toArray 85)).alloc (.cells [Value.int .i64 0, .int .i64 0, .int .i64 0, .int .u64 0, .int .u64 0, .bool false].toArray 71)) := by
  refine ⟨((rowL_alloc w0 l _ hl).alloc _).alloc _, ?_, ?_, ((hr.alloc _).alloc _).alloc _, grown_alloc (grown_alloc (grown_alloc (grown_refl _ _) _) _) _, hr.lt, hl⟩
  · have := (rowL_alloc (w0.alloc (.cells l.toArray 85)) tk0 85 (n := 28) rfl).alloc (.cells [Value.int .i64 0, .int .i64 0, .int .i64 0, .int .u64 0, .int .u64 0, .bool false].toArray 71)
    rwa [World.size_alloc] at this
  · have := row0 ((w0.alloc (.cells l.toArray 85)).alloc (.cells tk0.toArray 85))
    rwa [World.size_alloc, World.size_alloc] at this
end RT
structure RD (w0 : World) (g n cap : Nat) (l : List Value) (f : Nat → Int) (q : Option Nat) (X : Stp) (w : World) : Prop where
  tk : w.rowIs w0.heap.size 85 28 (lrow l)
  row : IsRow w g n cap f
  gro : w0.grownBy w (some g)
  lg : g < w0.heap.size
  len : l.length = 28
  sz : w0.heap.size + 3 ≤ w.heap.size
  var : ∀ k, q = some k → w.rangeAt k 0 X.cells ∧ w0.heap.size + 3 ≤ k ∧ k < w.heap.size
namespace RD
variable {w0 w w' : World} {g n cap : Nat} {l : List Value} {f f' : Nat → Int} {q : Option Nat} {X : Stp}
theorem of (h : RT w0 g n cap l f w) (hq : ∀ k, q = some k → w.rangeAt k 0 X.cells ∧ w0.heap.size + 3 ≤ k ∧ k < w.heap.size) : RD w0 g n cap l f q X w := ⟨h.tk, h.row, h.gro, h.lg, h.len, h.size, hq⟩
theorem drew (h : RD w0 g n cap l f q X w) : RD w0 g n cap l f q X { w with drawn := w.drawn + 1 } :=
  ⟨h.tk.drew, h.row.block rfl, grown_drew h.gro, h.lg, h.len, h.sz, fun k e => ⟨rangeAt_block (h.var k e).1 rfl, (h.var k e).2⟩⟩
theorem touch (h : RD w0 g n cap l f q X w) (ht : Touch w w' (fun k => k = w0.heap.size + 1 ∨ k = w0.heap.size + 2)) : RD w0 g n cap l f q X w' := by
  have := h.lg
  have sz := h.sz
  refine ⟨h.tk.of_block (ht.block _ (by omega) (by omega)), h.row.block (ht.block _ (by omega) (by omega)), ?_, h.lg, h.len, Nat.le_trans h.sz ht.size, fun k e => ?_⟩
  · exact ⟨ht.os.trans h.gro.os, ht.tape.trans h.gro.tape, ht.output.trans h.gro.output, Nat.le_trans h.gro.size ht.size, fun k hk hn => (ht.block k (by omega) (by omega)).trans (h.gro.block k hk hn)⟩
  · obtain ⟨a1, a2, a3⟩ := h.var k e
    exact ⟨rangeAt_block a1 (ht.block k a3 (by omega)), a2, Nat.lt_of_lt_of_le a3 ht.size⟩
theorem below (h : RD w0 g n cap l f q X w) (hb : Below w.heap.size w w') : RD w0 g n cap l f q X w' :=
  h.touch ⟨hb.os, hb.tape, hb.output, hb.size, fun k hk _ => hb.block k hk⟩
theorem act (h : RD w0 g n cap l f q X w) (hr : IsRow w' g n cap f') (hg : w.grownBy w' (some g)) : RD w0 g n cap l f' q X w' := by
  have := h.lg
  have sz := h.sz
  refine ⟨h.tk.of_block (hg.block _ (by omega) (by simp; omega)), hr, grown_trans h.gro hg, h.lg, h.len, Nat.le_trans h.sz hg.size, fun k e => ?_⟩
  obtain ⟨a1, a2, a3⟩ := h.var k e
  exact ⟨rangeAt_block a1 (hg.block k a3 (by simp; omega)), a2, Nat.lt_of_lt_of_le a3 hg.size⟩
theorem cell (h : RD w0 g n cap l f q X w) {i : Nat} {v : Value} (hv : l[i]? = some v) : w.cell? ⟨w0.heap.size, i, none⟩ = some v := by
  have hi := (List.getElem?_eq_some_iff.1 hv).1
  rw [h.tk.cell (i := i) (by have := h.len; omega), lrow_of hv]
theorem range (h : RD w0 g n cap l f q X w) : w.rangeAt w0.heap.size 0 l := rowIs.range h.tk h.len
theorem part (h : RD w0 g n cap l f q X w) {vs : List Value} (hv : ∀ (j : Nat) (v : Value), vs[j]? = some v → l[j]? = some v) : w.rangeAt w0.heap.size 0 vs := fun j v hj => by
  rw [Nat.zero_add]; exact h.cell (hv j v hj)
theorem scell (h : RD w0 g n cap l f q X w) {k i : Nat} {v : Value} (e : q = some k) (hv : X.cells[i]? = some v) : w.cell? ⟨k, i, none⟩ = some v := by
  have := (h.var k e).1 i v hv
  simpa using this
end RD
namespace RG
section
variable {I : Bool → World → Prop} {X : Stp} {w0 w w' : World} {c al st : Bool} {v : Value}
theorem SG.quiet (hI : ∀ c w w', Below w0.heap.size w w' → w0.heap.size ≤ w.heap.size → I c w → I c w') (h : SG I X w0 c al st v w) (hb : Below w.heap.size w w') : SG I X w0 c al st v w' := by
  refine ⟨hI _ _ _ (hb.mono h.siz) h.siz h.inv, Nat.le_trans h.siz hb.size, fun ha => ?_, h.dep⟩
  obtain ⟨q, e, hq, hq2, h1, h2⟩ := h.own ha
  exact ⟨q, e, hq, Nat.lt_of_lt_of_le hq2 hb.size, fun hs => (h1 hs).of_block (hb.block q hq2), fun hs => rangeAt_block (h2 hs) (hb.block q hq2)⟩
end
section
variable {I : Bool → World → Prop} {C E : Nat} {lt : List Value} {X : Stp} {w0 w w' : World} {c sc se : Bool}
theorem SM.begin (h : I c w) (hC : w.there C 0 lt.length) (hE : w.there E 0 X.cells.length) : SM I C E lt X c false false w :=
  ⟨h, hC, hE, fun h => (by cases h), fun h => (by cases h), fun h => (by cases h)⟩
theorem SM.quiet (hI : I c w') (hC : C < w.heap.size) (hE : E < w.heap.size) (h : SM I C E lt X c sc se w) (hb : Below w.heap.size w w') : SM I C E lt X c sc se w' :=
  ⟨hI, there_block h.tC (hb.block C hC), there_block h.tE (hb.block E hE), fun h1 => rangeAt_block (h.stoC h1) (hb.block C hC), fun h1 => rangeAt_block (h.stoE h1) (hb.block E hE), h.dep⟩
theorem SM.skip2 {L : Nat → Bool} {i iC iE : Nat} (h2 : iC ≠ i) (h3 : iE ≠ i) (h : SM I C E lt X c (L iC) (L iE) w) : SM I C E lt X c (upd L i true iC) (upd L i true iE) w := by
  rwa [upd_other _ _ h2, upd_other _ _ h3]
end
end RG
end Go.Proofs.YtnodkeoikamonaaGreat
/-
  What a layer's reference does with its tasks.
-/
namespace Go.Proofs.YtnodkeoikamonaaGreat
open Go.RowKit
set_option linter.unusedVariables false
structure RKind (K : Kd) (rep : List Value → K.σ → Prop) (sh : Shp) (fst fsp : FuncId) : Prop where
  start : ∀ (k : Int) (j : Jb), 0 ≤ k → k < 8 → j.wf → ∃ cs, IsTk cs ∧ (K.err k j = 0 → rep cs (K.init k j)) ∧ ∀ w : World, Calls Tryz.prog fst #[sh.val, .int .i64 k, j.val, kept0] w fun e w' => e = .returned (.tuple #[.agg cs.toArray, .int .i64 (K.err k j)]) ∧ Below w.heap.size w w'
  step : ∀ (cs : List Value) (s : K.σ), IsTk cs → rep cs s → ∀ (n : Nat) (f : Nat → Int), (∀ i, i < n → 0 ≤ f i ∧ f i ≤ 18446744073709551615) → ∃ cs', IsTk cs' ∧ (¬ K.ends s (stepOf n f (K.req s)) = true → rep cs' (K.next s (stepOf n f (K.req s)))) ∧
    (K.ends s (stepOf n f (K.req s)) = true → cs'[22]? = some (.bool (K.tell (K.next s (stepOf n f (K.req s)))).ok) ∧ cs'[23]? = some (.int .u64 (K.tell (K.next s (stepOf n f (K.req s)))).val)) ∧ (∀ q, q < 4 → cs'[24 + q]? = some (.int .u64 0)) ∧
    ∀ (w : World) (g cap : Nat), IsRow w g n cap f → Calls Tryz.prog fsp #[.agg cs.toArray, .slice (some ⟨g, 0, none⟩) n cap] w fun e w' => e = .returned (.tuple #[.agg cs'.toArray, (stepOf n f (K.req s)).val, .bool (K.ends s (stepOf n f (K.req s)))]) ∧ IsRow w' g n cap (wordsOf n f (K.req s)) ∧ w.grownBy w' (some g)
end Go.Proofs.YtnodkeoikamonaaGreat
/-
  The statement's own reference of tasks of several steps: wrong.
-/
namespace Go.Proofs.YtnodkeoikamonaaGreat
namespace LA16
open Go.RowKit
set_option linter.unusedVariables false
set_option linter.unusedSimpArgs false
set_option linter.unnecessarySimpa false
set_option maxRecDepth 20000
variable {K : Kd} {rep : List Value → K.σ → Prop} {sh : Shp} {w : World} {aoh aos : Option Addr} {caph caps : Nat} {P : Par} {most : Int}
theorem build77 {ev : Operand → Value} {o : Oper} {w : World} (ho : o.op = .build 83 #[]) : (execOp ev o).run Tryz.prog w = .ok (.value (.agg #[.int .u64 0, .int .u64 0, .int .u64 0, .int .u64 0])) w := by
  simp [execOp, ho, go_sem]
theorem callStartW (args : Array Value) (w : World) : (callFunc 33 args).run Tryz.prog w = .ok (.enter 33 args) w := by
  simp [go_sem]
set_option maxHeartbeats 8000000 in
theorem wrong_fine (RK : RKind K rep sh 33 35) (hjw : ∀ h, h < P.nh → ∀ j, j < P.jn h → (P.jb h j).wf) (SH : SeesH w w.heap.size aoh P.nh P.jn P.jb) (hl : ¬ LongHands P.nh P.jn) (hs : P.ns ≤ 65536) (hm0 : 0 ≤ most) (hm : most ≤ 65536) :
    Calls Tryz.prog 30 #[sh.val, .slice aoh P.nh caph, .slice aos P.ns caps, .int .i64 most] w fun e w' => Below w.heap.size w w' ∧ ((AllOk K P ∧ e = .returned (.int .i64 0)) ∨ ∃ er, FirstErr K P er ∧ e = .returned (.int .i64 er)) := by
  have hnh : P.nh ≤ 8 := by rcases Nat.lt_or_ge 8 P.nh with l | l; exact absurd (.inl l) hl; exact l
  have hjn : ∀ i, i < P.nh → P.jn i ≤ 256 := fun i hi => by rcases Nat.lt_or_ge 256 (P.jn i) with l | l; exact absurd (.inr ⟨i, hi, l⟩) hl; exact l
  have HSH := hide SH
  have HRK := hide RK
  have HJW := hide hjw
  have HL := hide hl
  have HJN := hide hjn
  obtain ⟨W1, hW1⟩ : ∃ W1, w.alloc (.cells #[.int .i64 sh.a, .int .i64 sh.b, .int .i64 sh.c, .int .i64 sh.d, .int .i64 sh.e, .int .i64 sh.f] 23) = W1 := ⟨_, rfl⟩
  have b1 : Below w.heap.size w W1 := by rw [← hW1]; exact (Below.refl _ w).alloc (Nat.le_refl _) _
  have sz1 : W1.heap.size = w.heap.size + 1 := by rw [← hW1]; simp
  have R1 := hide (show W1.rangeAt w.heap.size 0 [Value.int .i64 sh.a, .int .i64 sh.b, .int .i64 sh.c, .int .i64 sh.d, .int .i64 sh.e, .int .i64 sh.f] from by rw [← hW1]; exact rowIs.range (rowL_alloc w [Value.int .i64 sh.a, .int .i64 sh.b, .int .i64 sh.c, .int .i64 sh.d, .int .i64 sh.e, .int .i64 sh.f] 23 (n := 6) rfl) rfl)
  have BW := hide b1
  clear SH RK hjw hl hjn b1
  simp only [Shp.val]
  go_enter Tryz.func30, Tryz.ntmps30
  go_wp2_with (go_at_call 59; refine (fits_fine (HSH.out.below BW.out (Nat.le_refl _)) HL.out hs most hm 0 (.inl ⟨hm0, rfl⟩)).mono ?_; rintro e w' ⟨rfl, hw⟩; obtain rfl := hw.symm)
  go_loopw [9, 10] (fun e i wr => ∃ (k : Nat) (er : Int), k ≤ P.nh ∧ i = .int .i64 k ∧ Below W1.heap.size W1 wr ∧ e = .int .i64 er ∧ ((er = 0 ∧ ∀ h, h < k → ∀ j, j < P.jn h → K.err h (P.jb h j) = 0) ∨ FirstErr K P er)) (fun _ i _ => P.nh - (intOf i).toNat)
  case atStart => exact ⟨0, 0, Nat.zero_le _, rfl, Below.refl _ _, rfl, .inl ⟨rfl, fun h hh => absurd hh (Nat.not_lt_zero h)⟩⟩
  case round =>
    obtain ⟨wo, rfl⟩ : ∃ x, x = wr := ⟨_, rfl⟩
    obtain ⟨k, er, hk, rfl, hb, rfl, hcase⟩ := hrel
    have HB := hide hb
    clear hb
    rcases hcase with ⟨rfl, hall⟩ | hfe
    · have HALL := hide hall
      clear hall
      by_cases hlt : k < P.nh
      · have hkn : (k : Int) < (P.nh : Int) := by omega
        obtain ⟨b, off, ao', cap', hao, hbl, hcc, hjj⟩ := (HSH.out.below (BW.out.trans (HB.out.mono (by omega))) (Nat.le_refl _)) k hlt
        subst hao
        have hjk := HJN.out k hlt
        have HJJ := hide hjj
        clear hjj
        go_wp2_with fail
        go_loopw [9, 11] (fun e i wr => ∃ (q : Nat) (er : Int), q ≤ P.jn k ∧ i = .int .i64 q ∧ Below W1.heap.size W1 wr ∧ e = .int .i64 er ∧ ((er = 0 ∧ ∀ j, j < q → K.err k (P.jb k j) = 0) ∨ (FirstErr K P er ∧ ¬ er = 0))) (fun _ i _ => P.jn k - (intOf i).toNat)
        case atStart => exact ⟨0, 0, Nat.zero_le _, rfl, HB.out, rfl, .inl ⟨rfl, fun j hj => absurd hj (Nat.not_lt_zero j)⟩⟩
        case round =>
          obtain ⟨q, er, hq, rfl, hb2, rfl, hcase2⟩ := hrel
          have HB2' := hide hb2
          have hccr := (hb2.cell (p := ⟨b, off + k, none⟩) (by show b < _; omega)).trans ((HB.out.cell (p := ⟨b, off + k, none⟩) (by show b < _; omega)).symm.trans hcc)
          rcases hcase2 with ⟨rfl, hall2⟩ | ⟨hfe2, hne2⟩
          · have HALL2 := hide hall2
            clear hall2
            by_cases hlq : q < P.jn k
            · have hqn : (q : Int) < (P.jn k : Int) := by omega
              obtain ⟨b', off', hao', hbl', hc'⟩ := HJJ.out q hlq
              subst hao'
              obtain ⟨cs, hcs1, hcs2, hcs⟩ := HRK.out.start k (P.jb k q) (by omega) (by omega) (HJW.out k hlt q hlq)
              have ST := hide hcs
              obtain ⟨ev, hev⟩ : ∃ ev, K.err k (P.jb k q) = ev := ⟨_, rfl⟩
              rw [hev] at ST
              have HEV := hide hev
              have lwr : W1.heap.size ≤ wr.heap.size := hb2.size
              obtain ⟨jb, hjb⟩ : ∃ jb, P.jb k q = jb := ⟨_, rfl⟩
              rw [hjb] at hc' ST
              obtain ⟨jk, ja, jbb, jc, jh⟩ := jb
              simp only [Shp.val, Jb.val, kept0] at ST
              have W0 : Below wr.heap.size wr wr.drew ∧ wr.rangeAt w.heap.size 0 [Value.int .i64 sh.a, .int .i64 sh.b, .int .i64 sh.c, .int .i64 sh.d, .int .i64 sh.e, .int .i64 sh.f] ∧ wr.cell? ⟨b, off + k * 1, none⟩ = some (.slice (some ⟨b', off', none⟩) (P.jn k) cap') ∧ wr.rangeAt b' (off' + q * 5) [.int .i64 jk, .int .i64 ja, .int .i64 jbb, .int .i64 jc, .int .u64 jh] := by
                refine ⟨(Below.refl _ _).drew, rangeAt_block R1.out (hb2.block _ (by omega)), by rw [Nat.mul_one]; exact hccr, fun j v hv => ?_⟩
                have hj : j < 5 := (List.getElem?_eq_some_iff.1 hv).1
                rw [show wr.cell? ⟨b', off' + q * 5 + j, none⟩ = wo.cell? ⟨b', off' + q * 5 + j, none⟩ from (hb2.cell (p := ⟨b', off' + q * 5 + j, none⟩) (by show b' < _; omega)).trans (HB.out.cell (p := ⟨b', off' + q * 5 + j, none⟩) (by show b' < _; omega)).symm, hc' j hj]
                match j, hj with
                | 0, _ | 1, _ | 2, _ | 3, _ | 4, _ => exact congrArg some (Option.some.inj hv)
              have HW0 := hide W0
              obtain ⟨dJ, hdJ⟩ := row54
              obtain ⟨dS, hdS⟩ := row42
              have DJ := hide hdJ
              have DS := hide hdS
              clear W0 hcs hcs1 hcs2 hev hjb hc' hb2 hdJ hdS
              go_wp2_with fail
              ·
                refine Reg.region (t := (⟨[(0, 40), (1, 41), (2, 42), (3, 43), (4, 44), (5, 45), (6, 46), (7, 47), (8, 48), (9, 49), (11, 39), (12, 51), (13, 52), (14, 9)],
                    fun i => match i with
                      | 0 => .agg #[.int .i64 sh.a, .int .i64 sh.b, .int .i64 sh.c, .int .i64 sh.d, .int .i64 sh.e, .int .i64 sh.f]
                      | 2 => .slice (some ⟨b, off, none⟩) P.nh caph
                      | 4 => .pointer (some ⟨b, off + k * 1, none⟩)
                      | 5 => .slice (some ⟨b', off', none⟩) (P.jn k) cap'
                      | 6 => .int .i64 (q : Int)
                      | 7 => .pointer (some ⟨b', off' + q * 5, none⟩)
                      | 8 => .agg #[.int .i64 jk, .int .i64 ja, .int .i64 jbb, .int .i64 jc, .int .u64 jh]
                      | 9 => .agg #[.int .u64 0, .int .u64 0, .int .u64 0, .int .u64 0]
                      | 11 => .tuple #[.agg cs.toArray, .int .i64 ev]
                      | 12 => .agg cs.toArray
                      | 13 => .int .i64 ev
                      | 14 => .int .i64 ev
                      | _ => .int .i64 (k : Int),
                    10, 50, .tuple #[.agg cs.toArray, .int .i64 ev], [], fun _ => (3, []), [], fun _ => []⟩ : Reg.TabL).tab)
                  (WI := fun _ w' => Below wr.heap.size wr w' ∧ w'.rangeAt w.heap.size 0 [Value.int .i64 sh.a, .int .i64 sh.b, .int .i64 sh.c, .int .i64 sh.d, .int .i64 sh.e, .int .i64 sh.f] ∧ w'.cell? ⟨b, off + k * 1, none⟩ = some (.slice (some ⟨b', off', none⟩) (P.jn k) cap') ∧ w'.rangeAt b' (off' + q * 5) [.int .i64 jk, .int .i64 ja, .int .i64 jbb, .int .i64 jc, .int .u64 jh])
                  (gw := w.heap.size) (by kernel_rfl) (Reg.TabL.ok _ rfl (fun i j hm => by simp at hm)) ?g8 ?b8 (by omega) ?alo ?sto ?dd HW0.out ?kinds ?fin
                case g8 =>
                  intro i o ho
                  have hi : i < 15 := by have := (Array.getElem?_eq_some_iff.1 ho).1; simpa using this
                  match i, hi with
                  | 0, _ | 1, _ | 2, _ | 3, _ | 4, _ | 5, _ | 6, _ | 7, _ | 8, _ | 9, _ | 10, _ | 11, _ | 12, _ | 13, _ | 14, _ => injection ho with ho; subst ho; rfl
                case b8 =>
                  intro i o ho
                  have hi : i < 15 := by have := (Array.getElem?_eq_some_iff.1 ho).1; simpa using this
                  match i, hi with
                  | 0, _ | 1, _ | 2, _ | 3, _ | 4, _ | 5, _ | 6, _ | 7, _ | 8, _ | 9, _ | 10, _ | 11, _ | 12, _ | 13, _ | 14, _ => injection ho with ho; subst ho; simp [Region.binds]
                case alo =>
                  rintro _ w' o ⟨h0, h1, h2, h3⟩
                  exact ⟨h0.alloc h0.size _, World.rangeAt_alloc h1 o, (World.cell?_alloc_lt _ _ _ (World.block_lt_of_cell? _ _ h2)).trans h2, World.rangeAt_alloc h3 o⟩
                case sto =>
                  rintro _ w' x vs ⟨h0, h1, h2, h3⟩ hk
                  have tt := touch_setCells x vs 0 w'
                  exact ⟨h0.trans (tt.below (fun y hy => by omega) h0.size), rangeAt_block h1 (tt.block _ (World.block_lt_of_cell? _ _ (h1 0 _ rfl)) (by show w.heap.size ≠ x; omega)), (World.cell?_of_block (a := ⟨b, off + k * 1, none⟩) (tt.block _ (World.block_lt_of_cell? _ _ h2) (by show b ≠ x; omega))).trans h2, rangeAt_block h3 (tt.block _ (World.block_lt_of_cell? _ _ (h3 0 _ rfl)) (by show b' ≠ x; omega))⟩
                case dd =>
                  intro x hx
                  have hx' : x < 54 := by
                    simp [Reg.TabL.tab] at hx
                    omega
                  simpa using hx'
                case kinds =>
                  have hWb : ∀ w1 w2 : World, (Below wr.heap.size wr w1 ∧ w1.rangeAt w.heap.size 0 [Value.int .i64 sh.a, .int .i64 sh.b, .int .i64 sh.c, .int .i64 sh.d, .int .i64 sh.e, .int .i64 sh.f] ∧ w1.cell? ⟨b, off + k * 1, none⟩ = some (.slice (some ⟨b', off', none⟩) (P.jn k) cap') ∧ w1.rangeAt b' (off' + q * 5) [.int .i64 jk, .int .i64 ja, .int .i64 jbb, .int .i64 jc, .int .u64 jh]) → Below w1.heap.size w1 w2 → (Below wr.heap.size wr w2 ∧ w2.rangeAt w.heap.size 0 [Value.int .i64 sh.a, .int .i64 sh.b, .int .i64 sh.c, .int .i64 sh.d, .int .i64 sh.e, .int .i64 sh.f] ∧ w2.cell? ⟨b, off + k * 1, none⟩ = some (.slice (some ⟨b', off', none⟩) (P.jn k) cap') ∧ w2.rangeAt b' (off' + q * 5) [.int .i64 jk, .int .i64 ja, .int .i64 jbb, .int .i64 jc, .int .u64 jh]) := by
                    rintro w1 w2 ⟨h0, h1, h2, h3⟩ hb
                    exact ⟨h0.trans (hb.mono h0.size), rangeAt_block h1 (hb.block _ (World.block_lt_of_cell? _ _ (h1 0 _ rfl))), (hb.cell (p := ⟨b, off + k * 1, none⟩) (World.block_lt_of_cell? _ _ h2)).trans h2, rangeAt_block h3 (hb.block _ (World.block_lt_of_cell? _ _ (h3 0 _ rfl)))⟩
                  intro i o ho
                  have hi : i < 15 := by have := (Array.getElem?_eq_some_iff.1 ho).1; simpa using this
                  match i, hi with
                  | 0, _ => injection ho with ho; subst ho; exact .inl ⟨40, _, rfl, rfl, fun L a w' bk hI hd => ex_load_row rfl (hI.fix 4 (Reg.notD rfl)) hI.world.2.1 DS.out.1 DS.out.2 size42⟩
                  | 1, _ => injection ho with ho; subst ho; exact .inl ⟨41, _, rfl, rfl, fun L a w' bk hI hd => ex_move rfl (hI.fix 10 (Reg.notD rfl))⟩
                  | 2, _ => injection ho with ho; subst ho; exact .inl ⟨42, _, rfl, rfl, fun L a w' bk hI hd => ex_move rfl (hI.fix 1 (Reg.notD rfl))⟩
                  | 3, _ => injection ho with ho; subst ho; exact .inl ⟨43, _, rfl, rfl, fun L a w' bk hI hd => ex_move rfl (hI.fix 10 (Reg.notD rfl))⟩
                  | 4, _ => injection ho with ho; subst ho; exact .inl ⟨44, _, rfl, rfl, fun L a w' bk hI hd => ex_index rfl (hI.pure 2 _ _ rfl (hd ⟨2, .data⟩ (by simp) rfl)) (hI.pure 3 _ _ rfl (hd ⟨3, .data⟩ (by simp) rfl)) hlt Tryz.underlying25 sz52⟩
                  | 5, _ => injection ho with ho; subst ho; exact .inl ⟨45, _, rfl, rfl, fun L a w' bk hI hd => ex_load rfl (hI.pure 4 _ _ rfl (hd ⟨4, .data⟩ (by simp) rfl)) (agg_no w').2.2.1 hI.world.2.2.1⟩
                  | 6, _ => injection ho with ho; subst ho; exact .inl ⟨46, _, rfl, rfl, fun L a w' bk hI hd => ex_move rfl (hI.fix 11 (Reg.notD rfl))⟩
                  | 7, _ => injection ho with ho; subst ho; exact .inl ⟨47, _, rfl, rfl, fun L a w' bk hI hd => ex_index rfl (hI.pure 5 _ _ rfl (hd ⟨5, .data⟩ (by simp) rfl)) (hI.pure 6 _ _ rfl (hd ⟨6, .data⟩ (by simp) rfl)) hlq Tryz.underlying60 sz54⟩
                  | 8, _ => injection ho with ho; subst ho; exact .inl ⟨48, _, rfl, rfl, fun L a w' bk hI hd => ex_load_row rfl (hI.pure 7 _ _ rfl (hd ⟨7, .data⟩ (by simp) rfl)) hI.world.2.2.2 DJ.out.1 DJ.out.2 size54⟩
                  | 9, _ => injection ho with ho; subst ho; exact .inl ⟨49, _, rfl, rfl, fun L a w' bk hI hd => build77 rfl⟩
                  | 10, _ => injection ho with ho; subst ho; exact .inr (.inl ⟨rfl, rfl, fun L a w' bk K hI hL hd hk => wp_call (f := 33) (call4 rfl (hI.pure 0 _ _ rfl (hd ⟨0, .data⟩ (by simp) rfl)) (hI.pure 1 _ _ rfl (hd ⟨1, .data⟩ (by simp) rfl)) (hI.pure 8 _ _ rfl (hd ⟨8, .data⟩ (by simp) rfl)) (hI.pure 9 _ _ rfl (hd ⟨9, .data⟩ (by simp) rfl)) rfl (callStartW _ _)) ((ST.out w').mono (fun e w'' ⟨he, hb⟩ => ⟨_, he, hk w'' (hWb w' w'' hI.world hb) (Touch.of_below hb _)⟩))⟩)
                  | 11, _ => injection ho with ho; subst ho; exact .inl ⟨39, _, rfl, rfl, fun L a w' bk hI hd => ex_move rfl (hI.call (hd ⟨10, .data⟩ (by simp) rfl))⟩
                  | 12, _ => injection ho with ho; subst ho; exact .inl ⟨51, _, rfl, rfl, fun L a w' bk hI hd => ex_extract rfl (hI.pure 11 _ _ rfl (hd ⟨11, .data⟩ (by simp) rfl)) rfl⟩
                  | 13, _ => injection ho with ho; subst ho; exact .inl ⟨52, _, rfl, rfl, fun L a w' bk hI hd => ex_extract rfl (hI.pure 11 _ _ rfl (hd ⟨11, .data⟩ (by simp) rfl)) rfl⟩
                  | 14, _ => injection ho with ho; subst ho; exact .inl ⟨9, _, rfl, rfl, fun L a w' bk hI hd => ex_assign rfl (hI.pure 13 _ _ rfl (hd ⟨13, .data⟩ (by simp) rfl))⟩
                case fin =>
                  intro L a' w' bk hI hall
                  have ea := act_all a' 54 (by rw [hI.sz]; rfl) hI.df
                  simp only [List.range, List.range.loop, List.map] at ea
                  rw [hI.fix 0 (Reg.notD rfl), hI.fix 1 (Reg.notD rfl), hI.fix 2 (Reg.notD rfl), hI.fix 3 (Reg.notD rfl), hI.fix 4 (Reg.notD rfl), hI.fix 5 (Reg.notD rfl), hI.fix 6 (Reg.notD rfl), hI.fix 7 (Reg.notD rfl), hI.fix 8 (Reg.notD rfl), hI.fix 10 (Reg.notD rfl), hI.fix 11 (Reg.notD rfl), hI.fix 12 (Reg.notD rfl), hI.fix 13 (Reg.notD rfl), hI.fix 14 (Reg.notD rfl), hI.fix 15 (Reg.notD rfl), hI.fix 16 (Reg.notD rfl), hI.fix 17 (Reg.notD rfl), hI.fix 18 (Reg.notD rfl), hI.fix 19 (Reg.notD rfl), hI.fix 20 (Reg.notD rfl), hI.fix 21 (Reg.notD rfl), hI.fix 22 (Reg.notD rfl), hI.fix 23 (Reg.notD rfl), hI.fix 24 (Reg.notD rfl), hI.fix 25 (Reg.notD rfl), hI.fix 26 (Reg.notD rfl), hI.fix 27 (Reg.notD rfl), hI.fix 28 (Reg.notD rfl), hI.fix 29 (Reg.notD rfl), hI.fix 30 (Reg.notD rfl), hI.fix 31 (Reg.notD rfl), hI.fix 32 (Reg.notD rfl), hI.fix 33 (Reg.notD rfl), hI.fix 34 (Reg.notD rfl), hI.fix 35 (Reg.notD rfl), hI.fix 36 (Reg.notD rfl), hI.fix 37 (Reg.notD rfl), hI.fix 38 (Reg.notD rfl), hI.fix 53 (Reg.notD rfl)] at ea
                  have p9 := hI.pure 14 9 _ rfl (hall 14 (by decide))
                  have hbx := hI.world.1
                  rw [p9] at ea
                  clear hI hall p9
                  generalize a'.eval (.tmp 39) = u39 at ea
                  generalize a'.eval (.tmp 40) = u40 at ea
                  generalize a'.eval (.tmp 41) = u41 at ea
                  generalize a'.eval (.tmp 42) = u42 at ea
                  generalize a'.eval (.tmp 43) = u43 at ea
                  generalize a'.eval (.tmp 44) = u44 at ea
                  generalize a'.eval (.tmp 45) = u45 at ea
                  generalize a'.eval (.tmp 46) = u46 at ea
                  generalize a'.eval (.tmp 47) = u47 at ea
                  generalize a'.eval (.tmp 48) = u48 at ea
                  generalize a'.eval (.tmp 49) = u49 at ea
                  generalize a'.eval (.tmp 50) = u50 at ea
                  generalize a'.eval (.tmp 51) = u51 at ea
                  generalize a'.eval (.tmp 52) = u52 at ea
                  simp only [show ∀ (ts : Array Value) (ds) (i : Nat), (Act.mk ts ds).eval (.tmp i) = ts.getD i undef from fun _ _ _ => rfl] at ea
                  simp at ea
                  subst ea
                  go_wp2_with fail
                  go_roundw
                  case rel =>
                    refine ⟨q + 1, ev, by omega, by go_num, HB2'.out.trans (hbx.mono HB2'.out.size), rfl, ?_⟩
                    by_cases h0 : ev = 0
                    · exact .inl ⟨h0, fun j hj => by rcases Nat.lt_or_ge j q with l | l; exact HALL2.out j l; obtain rfl : j = q := (by omega); rw [HEV.out, h0]⟩
                    · exact .inr ⟨⟨k, q, hlt, hlq, HEV.out, h0, HALL.out, HALL2.out⟩, h0⟩
                  case measure => simp [intOf]; omega
            · have hqn : ¬ (q : Int) < (P.jn k : Int) := by omega
              go_wp2_with fail
              go_roundw
              case rel => exact ⟨k + 1, 0, by omega, by go_num, HB2'.out, rfl, .inl ⟨rfl, fun h hh j hj => by rcases Nat.lt_or_ge h k with l | l; exact HALL.out h l j hj; obtain rfl : h = k := (by omega); exact HALL2.out j (by omega)⟩⟩
              case measure => simp [intOf]; omega
          · have HFE := hide hfe2
            clear hfe2
            by_cases hlq : q < P.jn k
            · have hqn : (q : Int) < (P.jn k : Int) := by omega
              go_wp2_with fail
              go_roundw
              case rel => exact ⟨k + 1, er, by omega, by go_num, HB2'.out, rfl, .inr HFE.out⟩
              case measure => simp [intOf]; omega
            · have hqn : ¬ (q : Int) < (P.jn k : Int) := by omega
              go_wp2_with fail
              go_roundw
              case rel => exact ⟨k + 1, er, by omega, by go_num, HB2'.out, rfl, .inr HFE.out⟩
              case measure => simp [intOf]; omega
      · have hkn : ¬ (k : Int) < (P.nh : Int) := by omega
        go_wp2_with fail
        go_ret
        exact ⟨BW.out.trans (HB.out.mono (by omega)), .inl ⟨fun h hh j hj => HALL.out h (by omega) j hj, rfl⟩⟩
    · have hne : ¬ er = 0 := by obtain ⟨_, _, _, _, _, h, _⟩ := hfe; exact h
      have HFE := hide hfe
      clear hfe
      by_cases hlt : k < P.nh
      · have hkn : (k : Int) < (P.nh : Int) := by omega
        go_wp2_with fail
        go_ret
        exact ⟨BW.out.trans (HB.out.mono (by omega)), .inr ⟨er, HFE.out, rfl⟩⟩
      · have hkn : ¬ (k : Int) < (P.nh : Int) := by omega
        go_wp2_with fail
        go_ret
        exact ⟨BW.out.trans (HB.out.mono (by omega)), .inr ⟨er, HFE.out, rfl⟩⟩
set_option maxHeartbeats 4000000 in
theorem wrong_fits (er : Int) (her : er ≠ 0) (h : ∀ w' : World, Below w.heap.size w w' → Calls Tryz.prog 59 #[.slice aoh P.nh caph, .slice aos P.ns caps, .int .i64 most] w' fun e w'' => e = .returned (.int .i64 er) ∧ w'' = w') :
    Calls Tryz.prog 30 #[sh.val, .slice aoh P.nh caph, .slice aos P.ns caps, .int .i64 most] w fun e w' => Below w.heap.size w w' ∧ e = .returned (.int .i64 er) := by
  have her' : ¬ er = 0 := her
  have HH := hide (h _ ((Below.refl _ w).alloc (Nat.le_refl _) (.cells #[.int .i64 sh.a, .int .i64 sh.b, .int .i64 sh.c, .int .i64 sh.d, .int .i64 sh.e, .int .i64 sh.f] 23)))
  clear h her
  simp only [Shp.val]
  go_enter Tryz.func30, Tryz.ntmps30
  go_wp2_with (go_at_call 59; refine HH.out.mono ?_; rintro e w' ⟨rfl, hw⟩; obtain rfl := hw.symm)
  go_loopw [9, 10] (fun e i wr => ∃ k : Nat, k ≤ P.nh ∧ e = .int .i64 er ∧ i = .int .i64 k ∧ wr = w.alloc (.cells #[.int .i64 sh.a, .int .i64 sh.b, .int .i64 sh.c, .int .i64 sh.d, .int .i64 sh.e, .int .i64 sh.f] 23)) (fun _ _ _ => 0)
  case atStart => exact ⟨0, Nat.zero_le _, rfl, rfl, rfl⟩
  case round =>
    obtain ⟨k, hk, rfl, rfl, rfl⟩ := hrel
    by_cases hlt : k < P.nh
    · have hkn : (k : Int) < (P.nh : Int) := by omega
      go_wp2_with fail
      go_ret
      exact ⟨(Below.refl _ w).alloc (Nat.le_refl _) _, rfl⟩
    · have hkn : ¬ (k : Int) < (P.nh : Int) := by omega
      go_wp2_with fail
      go_ret
      exact ⟨(Below.refl _ w).alloc (Nat.le_refl _) _, rfl⟩
end LA16
end Go.Proofs.YtnodkeoikamonaaGreat
/-
  The statement's own reference of tasks of several steps: ran, where it refuses.
-/
namespace Go.Proofs.YtnodkeoikamonaaGreat
namespace LA16
open Go.RowKit
set_option linter.unusedVariables false
set_option linter.unusedSimpArgs false
set_option linter.unnecessarySimpa false
set_option maxRecDepth 20000
def WrongB (K : Kd) (w : World) (P : Par) (most : Int) (e : Ending) (w' : World) : Prop :=
  Below w.heap.size w w' ∧ ((Fine P most ∧ AllOk K P ∧ e = .returned (.int .i64 0)) ∨ ∃ er, ErrOf K P most er ∧ e = .returned (.int .i64 er))
variable {K : Kd} {rep : List Value → K.σ → Prop} {sh : Shp} {w : World} {ao aoh aos : Option Addr} {cap caph caps : Nat} {P : Par} {most : Int}
theorem wrong_all (RK : RKind K rep sh 33 35) (hjw : ∀ h, h < P.nh → ∀ j, j < P.jn h → (P.jb h j).wf) (hn : P.n ≤ 4096) (SH : SeesH w w.heap.size aoh P.nh P.jn P.jb) (hn63 : P.nh ≤ 9223372036854775807) :
    Calls Tryz.prog 30 #[sh.val, .slice aoh P.nh caph, .slice aos P.ns caps, .int .i64 most] w (WrongB K w P most) := by
  by_cases h2 : LongHands P.nh P.jn ∨ 65536 < P.ns ∨ 65536 < most
  · exact (wrong_fits 1 (by decide) (fun w' hb => fits_long (SH.below hb (Nat.le_refl _)) hn63 most h2)).mono fun e w' ⟨hb, he⟩ => ⟨hb, .inr ⟨1, .inr (.inl ⟨hn, h2, rfl⟩), he⟩⟩
  · have hl : ¬ LongHands P.nh P.jn := fun h => h2 (.inl h)
    have hs : P.ns ≤ 65536 := by rcases Nat.lt_or_ge 65536 P.ns with l | l; exact absurd (.inr (.inl l)) h2; exact l
    have hm : most ≤ 65536 := by rcases Int.lt_or_le 65536 most with l | l; exact absurd (.inr (.inr l)) h2; exact l
    by_cases h3 : most < 0
    · exact (wrong_fits 2 (by decide) (fun w' hb => fits_fine (SH.below hb (Nat.le_refl _)) hl hs most hm 2 (.inr ⟨h3, rfl⟩))).mono fun e w' ⟨hb, he⟩ => ⟨hb, .inr ⟨2, .inr (.inr (.inl ⟨hn, hl, hs, h3, rfl⟩)), he⟩⟩
    · have hF : Fine P most := ⟨hn, hl, hs, by omega, hm⟩
      refine (wrong_fine RK hjw SH hl hs (by omega) hm).mono fun e w' ⟨hb, hc⟩ => ⟨hb, ?_⟩
      rcases hc with ⟨hok, he⟩ | ⟨er, hfe, he⟩
      · exact .inl ⟨hF, hok, he⟩
      · exact .inr ⟨er, .inr (.inr (.inr ⟨hF, hfe⟩)), he⟩
set_option maxHeartbeats 4000000 in
theorem ran_err (RK : RKind K rep sh 33 35) (hjw : ∀ h, h < P.nh → ∀ j, j < P.jn h → (P.jb h j).wf) (hn : P.n ≤ 4096) (SH : SeesH w w.heap.size aoh P.nh P.jn P.jb) (hn63 : P.nh ≤ 9223372036854775807) {er : Int} (he : ErrOf K P most er) :
    Calls Tryz.prog 16 #[sh.val, .slice ao P.n cap, .slice aoh P.nh caph, .slice aos P.ns caps, .int .i64 most] w fun e w' => e = .returned (errVal er) ∧ Below w.heap.size w w' := by
  have her' : ¬ er = 0 := he.ne
  obtain ⟨W2, hW2⟩ : ∃ W2, (w.alloc (.cells #[.int .i64 sh.a, .int .i64 sh.b, .int .i64 sh.c, .int .i64 sh.d, .int .i64 sh.e, .int .i64 sh.f] 23)).alloc (.cells #[.slice none 0 0, .slice none 0 0, .bool false] 32) = W2 := ⟨_, rfl⟩
  have b2 : Below w.heap.size w W2 := by rw [← hW2]; exact ((Below.refl _ w).alloc (Nat.le_refl _) _).alloc (by simp) _
  have sz2 : W2.heap.size = w.heap.size + 2 := by rw [← hW2]; simp
  have R1 : W2.rowIs w.heap.size 23 6 (lrow [Value.int .i64 sh.a, .int .i64 sh.b, .int .i64 sh.c, .int .i64 sh.d, .int .i64 sh.e, .int .i64 sh.f]) := by rw [← hW2]; exact (rowL_alloc w [Value.int .i64 sh.a, .int .i64 sh.b, .int .i64 sh.c, .int .i64 sh.d, .int .i64 sh.e, .int .i64 sh.f] _ rfl).alloc _
  have R2 := hide (show W2.rowIs (w.heap.size + 1) 32 3 (lrow [.slice none 0 0, .slice none 0 0, .bool false]) from by rw [← hW2]; have := rowL_alloc (w.alloc (.cells #[.int .i64 sh.a, .int .i64 sh.b, .int .i64 sh.c, .int .i64 sh.d, .int .i64 sh.e, .int .i64 sh.f] 23)) [.slice none 0 0, .slice none 0 0, .bool false] 32 (n := 3) rfl; rwa [World.size_alloc] at this)
  have c0 : W2.cell? ⟨w.heap.size, 0, none⟩ = some (.int .i64 sh.a) := R1.cell (i := 0) (by omega)
  have c1 : W2.cell? ⟨w.heap.size, 1, none⟩ = some (.int .i64 sh.b) := R1.cell (i := 1) (by omega)
  have c2 : W2.cell? ⟨w.heap.size, 2, none⟩ = some (.int .i64 sh.c) := R1.cell (i := 2) (by omega)
  have c3 : W2.cell? ⟨w.heap.size, 3, none⟩ = some (.int .i64 sh.d) := R1.cell (i := 3) (by omega)
  have c4 : W2.cell? ⟨w.heap.size, 4, none⟩ = some (.int .i64 sh.e) := R1.cell (i := 4) (by omega)
  have c5 : W2.cell? ⟨w.heap.size, 5, none⟩ = some (.int .i64 sh.f) := R1.cell (i := 5) (by omega)
  have WR := hide (wrong_all RK hjw (caph := caph) (aos := aos) (caps := caps) (most := most) hn (w := W2) (fun i hi => by
    obtain ⟨b, off, ao', cap, e, hb, hc, hj⟩ := SH.below b2 (Nat.le_refl _) i hi
    exact ⟨b, off, ao', cap, e, by omega, hc, fun q hq => by obtain ⟨b', off', e', hb', hc'⟩ := hj q hq; exact ⟨b', off', e', by omega, hc'⟩⟩) hn63)
  have HE := hide he
  have BW := hide b2
  clear SH RK hjw R1 he b2
  simp only [Shp.val] at WR ⊢
  unfold errVal
  go_enter Tryz.func16, Tryz.ntmps16
  go_wp2_with (go_at_call 30; refine WR.out.mono ?_; rintro e w' ⟨hb, hc⟩; obtain rfl : e = .returned (.int .i64 er) := (by rcases hc with ⟨h1, h2, _⟩ | ⟨er', h, rfl⟩; exact absurd ⟨h1, h2⟩ HE.out.not; rw [h.one HE.out]); have HB := hide hb; have sz3 := hb.size; have rT := R2.out.of_block (hb.block _ (by omega)); have z0 : w'.cell? ⟨w.heap.size + 1, 0, none⟩ = some (.slice none 0 0) := rT.cell (i := 0) (by omega); have z1 : w'.cell? ⟨w.heap.size + 1, 1, none⟩ = some (.slice none 0 0) := rT.cell (i := 1) (by omega); have z2 : w'.cell? ⟨w.heap.size + 1, 2, none⟩ = some (.bool false) := rT.cell (i := 2) (by omega); have y0 := rT.frozen 0; have y1 := rT.frozen 1; have y2 := rT.frozen 2; clear hb hc rT)
  go_light
  refine bodyPost_ret (v := errVal er) ?_ rfl ⟨rfl, (((BW.out.trans (HB.out.mono (by omega))).setCell (by simp) _).setCell (by simp) _).setCell (by simp) _⟩
  simp [results, Tryz.results16, go_sem, errVal, *]
end LA16
end Go.Proofs.YtnodkeoikamonaaGreat
/-
  What both sides tell of a run.
-/
namespace Go.Proofs.YtnodkeoikamonaaGreat
open Go.RowKit
set_option linter.unusedVariables false
set_option linter.unusedSimpArgs false
set_option linter.unnecessarySimpa false
set_option maxRecDepth 20000
structure Vw where
  k : Nat
  s : Nat → Stp
  n : Nat
  f : Nat → Int
  en : Bool
  m : Nat
  dn : Nat → Nat
  an : Nat → Nat → Ans
  er : Int
def TV (w : World) (V : Vw) (v : Value) : Prop :=
  ∃ sa sc wa wc aa ac, v = .tuple #[.agg #[.slice sa V.k sc, .slice wa V.n wc, .bool V.en], .slice aa V.m ac, .int .i64 V.er] ∧ SeesS w w.heap.size sa V.k V.s ∧ Sees w w.heap.size wa V.n V.f ∧ SeesA w w.heap.size aa V.m V.dn V.an
def RAllR (K : Kd) (rep : List Value → K.σ → Prop) (w : World) (P : Par) (f : Nat → Int) (most : Int) (e : Ending) (w' : World) : Prop :=
  Below w.heap.size w w' ∧ ((∃ er, ErrOf K P most er ∧ e = .returned (errVal er)) ∨ (Fine P most ∧ AllOk K P ∧ ∃ v, e = .returned v ∧ RTold K rep P (runSt P (st0 K P f) most.toNat) (w.heap.size + 1) v w'))
theorem views (K : Kd) (rep : List Value → K.σ → Prop) (P : Par) (f : Nat → Int) (most : Int) : ∃ V : Vw, V.k ≤ 65536 ∧ V.n ≤ 4096 ∧ V.m ≤ 8 ∧ (∀ h, h < V.m → V.dn h ≤ 256) ∧
    (∀ w e w', RAllR K rep w P f most e w' → Below w.heap.size w w' ∧ ∃ v, e = .returned v ∧ TV w' V v) ∧ (∀ w e w', OfAny.AllB K w P f most e w' → Below w.heap.size w w' ∧ ∃ v, e = .returned v ∧ TV w' V v) := by
  by_cases hE : ∃ er, ErrOf K P most er
  · obtain ⟨er, hE⟩ := hE
    have tv : ∀ w, TV w ⟨0, fun _ => ⟨0, 0, 0, 0, 0, false⟩, 0, fun _ => 0, false, 0, fun _ => 0, fun _ _ => ⟨false, 0⟩, er⟩ (errVal er) := fun w => ⟨none, 0, none, 0, none, 0, rfl, fun j hj => absurd hj (Nat.not_lt_zero j), fun j hj => absurd hj (Nat.not_lt_zero j), fun j hj => absurd hj (Nat.not_lt_zero j)⟩
    refine ⟨⟨0, fun _ => ⟨0, 0, 0, 0, 0, false⟩, 0, fun _ => 0, false, 0, fun _ => 0, fun _ _ => ⟨false, 0⟩, er⟩, Nat.zero_le _, Nat.zero_le _, Nat.zero_le _, fun _ _ => Nat.zero_le _, ?_, ?_⟩
    · rintro w e w' ⟨hb, ⟨er', h, rfl⟩ | ⟨h1, h2, _⟩⟩
      · obtain rfl := h.one hE
        exact ⟨hb, _, rfl, tv w'⟩
      · exact absurd ⟨h1, h2⟩ hE.not
    · rintro w e w' ⟨hb, ⟨er', h, rfl⟩ | ⟨h1, h2, _⟩⟩
      · obtain rfl := h.one hE
        exact ⟨hb, _, rfl, tv w'⟩
      · exact absurd ⟨h1, h2⟩ hE.not
  · by_cases hf : Fine P most
    · have st := runSt P (st0 K P f) most.toNat
      have hk : (runSt P (st0 K P f) most.toNat).k ≤ 65536 := by
        have := (runSt_k P (st0 K P f) rfl most.toNat).1
        have := hf.2.2.2
        omega
      have hnh : P.nh ≤ 8 := by rcases Nat.lt_or_ge 8 P.nh with l | l; exact absurd (.inl l) hf.2.1; exact l
      by_cases hd : ∀ h, h < P.nh → (runSt P (st0 K P f) most.toNat).done h ≤ 256
      · refine ⟨⟨(runSt P (st0 K P f) most.toNat).k, (runSt P (st0 K P f) most.toNat).s, P.n, (runSt P (st0 K P f) most.toNat).f, decide (cnt ((runSt P (st0 K P f) most.toNat).going P) P.nh = 0), P.nh, (runSt P (st0 K P f) most.toNat).done, (runSt P (st0 K P f) most.toNat).ans, 0⟩, hk, hf.1, hnh, hd, ?_, ?_⟩
        · rintro w e w' ⟨hb, ⟨er', h, rfl⟩ | ⟨h1, h2, v, rfl, blk, c, un, capw, sv, rfl, H, G⟩⟩
          · exact absurd ⟨_, h⟩ hE
          · obtain ⟨sa, sc, rfl⟩ := G.steps.isSlice'
            exact ⟨hb, _, rfl, sa, sc, _, _, _, _, rfl, G.steps.seesS H, G.seesW H, seesA_of G.answers H⟩
        · rintro w e w' ⟨hb, ⟨er', h, rfl⟩ | ⟨h1, h2, v, rfl, blk, c, g, sv, rfl, H, G, GS, R, hg, hne⟩⟩
          · exact absurd ⟨_, h⟩ hE
          · obtain ⟨sa, sc, rfl⟩ := GS.isSlice'
            exact ⟨hb, _, rfl, sa, sc, _, _, _, _, rfl, GS.seesS H, R.sees, seesA_of G.answers H⟩
      · refine ⟨⟨0, fun _ => ⟨0, 0, 0, 0, 0, false⟩, 0, fun _ => 0, false, 0, fun _ => 0, fun _ _ => ⟨false, 0⟩, 0⟩, Nat.zero_le _, Nat.zero_le _, Nat.zero_le _, fun _ _ => Nat.zero_le _, ?_, ?_⟩
        · rintro w e w' ⟨hb, ⟨er', h, rfl⟩ | ⟨h1, h2, v, rfl, blk, c, un, capw, sv, rfl, H, G⟩⟩
          · exact absurd ⟨_, h⟩ hE
          · exact absurd (fun h hh => Nat.le_trans (G.doneLe h hh) (G.jobs h hh)) hd
        · rintro w e w' ⟨hb, ⟨er', h, rfl⟩ | ⟨h1, h2, v, rfl, blk, c, g, sv, rfl, H, G, GS, R, hg, hne⟩⟩
          · exact absurd ⟨_, h⟩ hE
          · exact absurd (fun h hh => Nat.le_trans (G.doneLe h hh) (G.jobs h hh)) hd
    · refine ⟨⟨0, fun _ => ⟨0, 0, 0, 0, 0, false⟩, 0, fun _ => 0, false, 0, fun _ => 0, fun _ _ => ⟨false, 0⟩, 0⟩, Nat.zero_le _, Nat.zero_le _, Nat.zero_le _, fun _ _ => Nat.zero_le _, ?_, ?_⟩
      · rintro w e w' ⟨hb, ⟨er', h, rfl⟩ | ⟨h1, _⟩⟩
        · exact absurd ⟨_, h⟩ hE
        · exact absurd h1 hf
      · rintro w e w' ⟨hb, ⟨er', h, rfl⟩ | ⟨h1, _⟩⟩
        · exact absurd ⟨_, h⟩ hE
        · exact absurd h1 hf
end Go.Proofs.YtnodkeoikamonaaGreat
