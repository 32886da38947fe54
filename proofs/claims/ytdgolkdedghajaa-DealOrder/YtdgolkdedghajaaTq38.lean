/-
  Lemmas: DealOG.
-/
import Derived.Test.YtdgolkdedghajaaTq37
import Derived.Test.YtdgolkdedghajaaTq21
import Derived.Test.YtdgolkdedghajaaTq22
import Derived.Test.YtdgolkdedghajaaTq05
import Derived.Deep.CutBlock
import Derived.Deep.CutRange
/-
  DealOnce: lists of values as the law handles them: gone, between, alike.
-/
namespace Go.Proofs.Ytdgolkdedghajaa
open Go.RowKit PKept
set_option linter.unusedVariables false
set_option linter.unusedSimpArgs false
set_option linter.unnecessarySimpa false
set_option maxRecDepth 20000
namespace Deal

theorem measG {k n : Nat} (h : k < n) : n - (intOf (.int .i64 ((k : Int) + 1))).toNat < n - (intOf (.int .i64 (k : Int))).toNat := by
  show n - ((k : Int) + 1).toNat < n - (k : Int).toNat
  omega
theorem viG {i : Nat} : Value.int .i64 ((i : Int) + 1) = .int .i64 ((i + 1 : Nat) : Int) := by simp

/-- A list that is seen: whatever slice. -/
structure LW (w : World) (lo : Option Addr) (l : List Int) (cp : Nat) : Prop where
  nil : lo = none → l.length = 0 ∧ cp = 0
  cap : l.length ≤ cp
  see : ∀ k v, l[k]? = some v → ∃ b off, lo = some ⟨b, off, none⟩ ∧ b < w.heap.size ∧ w.cell? ⟨b, off + k, none⟩ = some (.int .u64 v)
theorem LW.below {w w' : World} {lo : Option Addr} {l : List Int} {cp : Nat} (h : LW w lo l cp) (hb : Below w.heap.size w w') : LW w' lo l cp :=
  ⟨h.nil, h.cap, fun k v hk => by obtain ⟨b, off, e, hl, hc⟩ := h.see k v hk; exact ⟨b, off, e, Nat.lt_of_lt_of_le hl hb.size, (hb.cell (p := ⟨b, off + k, none⟩) hl).trans hc⟩⟩
theorem LW.nilS (w : World) : LW w none [] 0 := ⟨fun _ => ⟨rfl, rfl⟩, Nat.le_refl _, fun k v hk => by simp at hk⟩
theorem LW.own {w : World} {B : Nat} {v : Value} {l : List Int} (h : w.ownsRow B 39 1 v l.length (wc l)) : ∃ lo cp, v = .slice lo l.length cp ∧ LW w lo l cp := by
  rcases Nat.eq_zero_or_pos l.length with e | e
  · have e' : l = [] := List.length_eq_zero_iff.1 e
    subst e'
    obtain ⟨_, ⟨rfl, _⟩ | ⟨g, cap, cur, rfl, _⟩⟩ := h
    · exact ⟨none, 0, rfl, LW.nilS w⟩
    · exact ⟨_, cap, rfl, fun h => (by cases h), Nat.zero_le _, fun k v hk => by simp at hk⟩
  · obtain ⟨g, cap, F, rfl, hb, R, hp, hc, _⟩ := row_of_owns h e
    refine ⟨_, cap, rfl, fun h => (by cases h), hc, fun k v hk => ⟨g, 0, rfl, R.lt, ?_⟩⟩
    have hkl := (List.getElem?_eq_some_iff.1 hk).1
    rw [Nat.zero_add, R.cell (i := k) (by omega)]
    exact congrArg some (hp k _ (wc_get hk))
theorem wc_one' (l : List Int) : ∀ u, u ∈ wc l → u.oneCell' = true := fun u hu => by
  obtain ⟨x, _, rfl⟩ := List.mem_map.1 hu
  rfl
theorem news_at {w : World} {b off : Nat} {l : List Int} {cp : Nat} (h : LW w (some ⟨b, off, none⟩) l cp) (s : Nat) (m : List Int) (hm : ∀ j v, m[j]? = some v → l[s + j]? = some v) : ∀ j u, (wc m)[j]? = some u → w.cell? ((⟨b, off + s, none⟩ : Addr).add j) = some u := fun j u hj => by
  simp only [wc, List.getElem?_map, Option.map_eq_some_iff] at hj
  obtain ⟨v, hv, rfl⟩ := hj
  obtain ⟨b', off', e', _, hc⟩ := h.see _ v (hm j v hv)
  cases e'
  rw [Go.WideShapes.add_plain, show off + s + j = off + (s + j) by omega]
  exact hc
theorem erase_at : ∀ (l : List Int) (i : Nat) (v : Int), l[i]? = some v → (∀ j, j < i → ¬ l[j]? = some v) → l.erase v = l.take i ++ l.drop (i + 1)
  | [], i, v, h, _ => by simp at h
  | a :: l, 0, v, h, _ => by
    have h : a = v := by simpa using h
    subst h
    simp
  | a :: l, i + 1, v, h, hn => by
    have ne : ¬ a = v := fun e => hn 0 (by omega) (by simp [e])
    rw [List.erase_cons_tail (by simpa using ne), erase_at l i v (by simpa using h) (fun j hj e => hn (j + 1) (by omega) (by simpa using e))]
    simp
theorem in_at {l : List Int} {i : Nat} {v : Int} (hm : v ∈ l) (hn : ∀ j, j < i → ¬ l[j]? = some v) : i < l.length := by
  obtain ⟨j, hj⟩ := List.getElem?_of_mem hm
  have hl := (List.getElem?_eq_some_iff.1 hj).1
  rcases Nat.lt_or_ge j i with c | c
  · exact absurd hj (hn j c)
  · omega

set_option maxHeartbeats 4000000 in
theorem gone_ok {w : World} {lo : Option Addr} {l : List Int} {cp : Nat} {v : Int} (S : LW w lo l cp) (hm : v ∈ l) (hl : l.length ≤ 100000) :
    Calls Try.prog 11 #[.slice lo l.length cp, .int .u64 v] w fun e w' => ∃ v', e = .returned (.tuple #[v', .bool true]) ∧ w'.ownsRow w.heap.size 39 1 v' (l.erase v).length (wc (l.erase v)) ∧ Below w.heap.size w w' := by
  have HS := hide S
  have HM := hide hm
  have HL := hide hl
  obtain ⟨n, hn⟩ : ∃ n, l.length = n := ⟨_, rfl⟩
  have HN := hide hn
  have hc := S.cap
  rw [hn] at hl hc ⊢
  obtain ⟨i46, hi46, hz46, hs46, hy46⟩ := info46e
  clear S hm hn
  go_enter Try.func11, Try.ntmps11
  go_wp2_with fail
  go_loopw [6] (fun v6 wr => ∃ i : Nat, i ≤ n ∧ v6 = .int .i64 (i : Int) ∧ wr = w ∧ ∀ j, j < i → ¬ l[j]? = some v) (fun v6 _ => n - (intOf v6).toNat)
  case atStart => exact ⟨0, Nat.zero_le _, rfl, rfl, fun j hj => absurd hj (Nat.not_lt_zero j)⟩
  case round =>
    obtain ⟨i, hi, rfl, hw, hnot⟩ := hrel
    have hw' := hw.symm
    subst hw'
    clear hw
    have hlt : i < n := by have := in_at HM.out hnot; rw [HN.out] at this; exact this
    have hlt' : (i : Int) < n := by omega
    obtain ⟨u, hu⟩ : ∃ u, l[i]? = some u := ⟨_, List.getElem?_eq_getElem (by rw [HN.out]; exact hlt)⟩
    obtain ⟨b, off, rfl, lb, cb⟩ := HS.out.see i u hu
    have HNOT := hide hnot
    have HU := hide hu
    clear hnot hu
    by_cases e : u = v
    · subst e
      have ER := hide (erase_at l i u HU.out HNOT.out)
      have NA := hide (fun (w' : World) (hb : Below w.heap.size w w') => show ∀ j u, (wc (l.take i))[j]? = some u → w'.cell? ((⟨b, off, none⟩ : Addr).add j) = some u from news_at (HS.out.below hb) 0 (l.take i) (fun j v hj => by
        rw [Nat.zero_add]
        rw [List.getElem?_take] at hj
        split at hj
        · exact hj
        · cases hj))
      have NB := hide (fun (w' : World) (hb : Below w.heap.size w w') => news_at (HS.out.below hb) (i + 1) (l.drop (i + 1)) (fun j v hj => by rw [List.getElem?_drop] at hj; exact hj))
      have TK : (l.take i).length = i := by rw [List.length_take, HN.out]; omega
      have HTK := hide TK
      have HDR := hide (show (l.drop (i + 1)).length = n - (i + 1) by rw [List.length_drop, HN.out])
      clear TK
      have ib : (i : Int) ≤ 100000 := by omega
      by_cases hz : cp = i + 1
      · subst hz
        obtain rfl : n = i + 1 := by omega
        go_wp2_with (first
          | (at_builtin; refine wpList_append_opt rfl (.tmp 20) (.tmp 23) 24 rfl w.heap.size 39 i46 (.int .u64 0) 1 8 Try.underlying24 hi46 hz46 hs46 hy46 rfl (by decide) (.slice (some ⟨w.heap.size, 0, none⟩) 0 0) 0 [] rfl (by have := World.ownsRow_lit (base := w.heap.size) (e := 39) (size := 1) w #[] 0 (by simp) (by unfold maxLen; omega) rfl; simpa using this) (some ⟨b, off, none⟩) i _ (wc (l.take i)) rfl (fun h => by cases h) (by rw [wc_len, HTK.out, Nat.mul_one]) (fun ad had => by cases had; exact NA.out _ ((Below.refl _ w).alloc (Nat.le_refl _) _)) (wc_one' _) (by unfold maxLen; omega) (by omega) (by simp) ?_; intro v4 w4 hown4 hgrow4 hnn; rw [Nat.zero_add, List.nil_append] at hown4; have B4 := hide (show Below w.heap.size w w4 from ((Below.refl _ w).alloc (Nat.le_refl _) (.cells #[] 39)).grown hgrow4 (by simp) (by simp [Value.ownBlock])); obtain ⟨ao4, cp4, rfl⟩ := own_slice hown4; have O4 := hide hown4; clear hown4 hgrow4 hnn)
          | (at_builtin; refine wpList_append_opt rfl (.tmp 25) (.tmp 29) 24 rfl w.heap.size 39 i46 (.int .u64 0) 1 8 Try.underlying24 hi46 hz46 hs46 hy46 rfl (by decide) (.slice ao4 i cp4) i (wc (l.take i)) rfl O4.out (some ⟨b, off, none⟩) 0 0 [] rfl (fun h => by cases h) rfl (fun ad had => by cases had; intro j u hj; simp at hj) (fun u hu => by simp at hu) (by unfold maxLen; omega) (by omega) B4.out.size ?_; intro v5 w5 hown5 hgrow5 hnn5; have B5 := hide (show Below w.heap.size w w5 from B4.out.grown hgrow5 (by exact B4.out.size) (fun q hq => (O4.out.lt q hq).1)); have O5 := hide hown5; clear hown5 hgrow5 hnn5))
        have OW := hide (show w5.ownsRow w.heap.size 39 1 v5 (l.erase u).length (wc (l.erase u)) from by
          have := O5.out
          rw [ER.out, show l.drop (i + 1) = [] from List.drop_eq_nil_of_le (by rw [HN.out]; omega), List.append_nil, HTK.out]
          simpa using this)
        go_light
        refine bodyPost_ret (v := .tuple #[v5, .bool true]) ?_ rfl ⟨v5, rfl, OW.out, B5.out⟩
        simp [results, Try.results11, go_sem, *]
      · have hz1 : ¬ cp - (i + 1) = 0 := by omega
        go_wp2_with (first
          | (at_builtin; refine wpList_append_opt rfl (.tmp 20) (.tmp 23) 24 rfl w.heap.size 39 i46 (.int .u64 0) 1 8 Try.underlying24 hi46 hz46 hs46 hy46 rfl (by decide) (.slice (some ⟨w.heap.size, 0, none⟩) 0 0) 0 [] rfl (by have := World.ownsRow_lit (base := w.heap.size) (e := 39) (size := 1) w #[] 0 (by simp) (by unfold maxLen; omega) rfl; simpa using this) (some ⟨b, off, none⟩) i _ (wc (l.take i)) rfl (fun h => by cases h) (by rw [wc_len, HTK.out, Nat.mul_one]) (fun ad had => by cases had; exact NA.out _ ((Below.refl _ w).alloc (Nat.le_refl _) _)) (wc_one' _) (by unfold maxLen; omega) (by omega) (by simp) ?_; intro v4 w4 hown4 hgrow4 hnn; rw [Nat.zero_add, List.nil_append] at hown4; have B4 := hide (show Below w.heap.size w w4 from ((Below.refl _ w).alloc (Nat.le_refl _) (.cells #[] 39)).grown hgrow4 (by simp) (by simp [Value.ownBlock])); obtain ⟨ao4, cp4, rfl⟩ := own_slice hown4; have O4 := hide hown4; clear hown4 hgrow4 hnn)
          | (at_builtin; refine wpList_append_opt rfl (.tmp 25) (.tmp 29) 24 rfl w.heap.size 39 i46 (.int .u64 0) 1 8 Try.underlying24 hi46 hz46 hs46 hy46 rfl (by decide) (.slice ao4 i cp4) i (wc (l.take i)) rfl O4.out (some ⟨b, off + (i + 1), none⟩) (n - (i + 1)) (cp - (i + 1)) (wc (l.drop (i + 1))) rfl (fun h => by cases h) (by rw [wc_len, HDR.out, Nat.mul_one]) (fun ad had => by cases had; exact NB.out _ B4.out) (wc_one' _) (by unfold maxLen; omega) (by omega) B4.out.size ?_; intro v5 w5 hown5 hgrow5 hnn5; have B5 := hide (show Below w.heap.size w w5 from B4.out.grown hgrow5 (by exact B4.out.size) (fun q hq => (O4.out.lt q hq).1)); have O5 := hide hown5; clear hown5 hgrow5 hnn5))
        have OW := hide (show w5.ownsRow w.heap.size 39 1 v5 (l.erase u).length (wc (l.erase u)) from by
          have := O5.out
          rw [ER.out, List.length_append, HTK.out, HDR.out]
          simpa [wc] using this)
        go_light
        refine bodyPost_ret (v := .tuple #[v5, .bool true]) ?_ rfl ⟨v5, rfl, OW.out, B5.out⟩
        simp [results, Try.results11, go_sem, *]
    · have e' : (u == v) = false := by simpa using e
      go_wp2_with fail
      go_roundw
      case rel => exact ⟨i + 1, hlt, viG, (by first | trivial | rfl), fun j hj h => by
        rcases Nat.lt_or_ge j i with c | c
        · exact HNOT.out j c h
        · have : j = i := by omega
          subst this
          rw [HU.out] at h
          injection h with h
          exact e h⟩
      case measure => exact measG hlt

set_option maxHeartbeats 4000000 in
theorem alike_ok {w : World} {lo lo2 : Option Addr} {l m : List Int} {cp cp2 : Nat} (S : LW w lo l cp) (S2 : LW w lo2 m cp2) (hp : l.Perm m) (hl : l.length ≤ 100000) :
    Calls Try.prog 12 #[.slice lo l.length cp, .slice lo2 m.length cp2] w fun e w' => e = .returned (.bool true) ∧ Below w.heap.size w w' := by
  have HS2 := hide S2
  have HL := hide hl
  have HM := hide (show m.length ≤ 100000 from by rw [← hp.length_eq]; exact hl)
  have ST := hide (show ∃ (L : List Int) (lo' : Option Addr) (cp' : Nat), Value.slice lo l.length cp = .slice lo' L.length cp' ∧ LW w lo' L cp' ∧ L.Perm (m.drop 0) ∧ L.length ≤ 100000 from ⟨l, lo, cp, rfl, S, hp, hl⟩)
  obtain ⟨n, hn⟩ : ∃ n, m.length = n := ⟨_, rfl⟩
  have HN := hide hn
  rw [hn]
  have hn5 : n ≤ 100000 := by rw [← hn]; exact HM.out
  have HN5 := hide hn5
  clear S S2 hp hn hl hn5
  generalize Value.slice lo l.length cp = v0 at ST
  clear HL
  go_enter Try.func12, Try.ntmps12
  go_wp2_with fail
  go_loopw [0, 5] (fun v0 v5 wr => ∃ (i : Nat) (L : List Int) (lo' : Option Addr) (cp' : Nat), i ≤ n ∧ v5 = .int .i64 (i : Int) ∧ v0 = .slice lo' L.length cp' ∧ LW wr lo' L cp' ∧ L.Perm (m.drop i) ∧ L.length ≤ 100000 ∧ Below w.heap.size w wr) (fun _ v5 _ => n - (intOf v5).toNat)
  case atStart =>
    obtain ⟨L, lo', cp', e, S, hp, hl⟩ := ST.out
    exact ⟨0, L, lo', cp', Nat.zero_le _, rfl, e, S, hp, hl, Below.refl _ _⟩
  case round =>
    clear ST
    obtain ⟨i, L, lo', cp', hi, rfl, rfl, S, hp, hl, hb⟩ := hrel
    have HB := hide hb
    have HP := hide hp
    have HLL := hide hl
    have HS := hide S
    clear hb hp hl S
    by_cases hlt : i < n
    · have hlt' : (i : Int) < n := by omega
      have i5 : (i : Int) ≤ 100000 := by have := HN5.out; omega
      obtain ⟨u, hu⟩ : ∃ u, m[i]? = some u := ⟨_, List.getElem?_eq_getElem (by rw [HN.out]; exact hlt)⟩
      obtain ⟨b, off, rfl, lb, cb⟩ := HS2.out.see i u hu
      have cb := (HB.out.cell (p := ⟨b, off + i, none⟩) lb).trans cb
      have DR := hide (show m.drop i = u :: m.drop (i + 1) from by
        obtain ⟨h1, h2⟩ := List.getElem?_eq_some_iff.1 hu
        rw [List.drop_eq_getElem_cons h1, h2])
      have GN := hide (gone_ok HS.out (show u ∈ L from HP.out.mem_iff.mpr (by rw [DR.out]; exact List.mem_cons_self ..)) HLL.out)
      have lb2 : b < wr.heap.size := Nat.lt_of_lt_of_le lb HB.out.size
      clear hu
      go_wp2_with fail
      refine GN.out.mono ?_
      rintro e w5 ⟨v', rfl, ow, hb5⟩
      obtain ⟨lo5, cp5, rfl, S5⟩ := LW.own ow
      have HS5 := hide S5
      have HB5 := hide (HB.out.trans (hb5.mono HB.out.size))
      have HP5 := hide (show (L.erase u).Perm (m.drop (i + 1)) from by
        have := HP.out.erase u
        rw [DR.out, List.erase_cons_head] at this
        exact this)
      have HL5 := hide (show (L.erase u).length ≤ 100000 from Nat.le_trans (List.length_erase_le ..) HLL.out)
      clear ow hb5 S5 cb
      go_wp2_with fail
      go_roundw
      case rel => exact ⟨i + 1, _, lo5, cp5, hlt, viG, rfl, HS5.out, HP5.out, HL5.out, HB5.out⟩
      case measure => exact measG hlt
    · have hlt' : ¬ (i : Int) < n := by omega
      have e : i = n := by omega
      subst e
      have L0 : L.length = 0 := by
        have := HP.out.length_eq
        rw [List.length_drop, HN.out] at this
        omega
      have L0' : ((L.length : Int) == 0) = true := by rw [L0]; rfl
      have E0 : L = [] := List.length_eq_zero_iff.1 L0
      subst E0
      clear L0 L0'
      go_wp2_with fail
      go_ret
      exact ⟨rfl, HB.out⟩

theorem std_len (r : Nat) (f : Nat → Int) (T : Int) : ∀ m, (std r f T m).length = m
  | 0 => rfl
  | m + 1 => by show (std r f T m ++ _).length = _; rw [List.length_append, std_len r f T m]; rfl

theorem dahd1 (x y : Int) : IntKind.i64.wrap (u64 (x - y)) = ahd x y := by rw [IntKind.wrap_i64]; unfold ahd wrap64; omega
theorem dahd2 (x y : Int) : wrap64 (u64 (x - y)) = ahd x y := rfl

set_option maxHeartbeats 4000000 in
theorem between_ok {w : World} {ao : Option Addr} {n r cap : Nat} {f : Nat → Int} (S : Sees w w.heap.size ao n f) (hn : n = 2 + r) (hr1 : 1 ≤ r) (hr2 : r ≤ 64) (h0 : 0 ≤ f 0) (h1 : f 0 ≤ f 1) (h2 : f 1 ≤ 65536) (h3 : f 1 ≤ f 0 + r) :
    Calls Try.prog 13 #[.int .i64 (r : Int), .slice ao n cap] w fun e w' => ∃ v', e = .returned v' ∧ w'.ownsRow w.heap.size 39 1 v' (std r f (f 0) (f 1 - f 0).toNat).length (wc (std r f (f 0) (f 1 - f 0).toNat)) ∧ Below w.heap.size w w' := by
  obtain ⟨b, off, rfl, lb, c0⟩ := S 0 (by omega)
  have c1 : w.cell? ⟨b, off + 1, none⟩ = some (.int .u64 (f 1)) := by
    obtain ⟨b', off', e, _, c⟩ := S 1 (by omega)
    cases e
    exact c
  have SS := hide (fun (q : Nat) (hq : q < n) => show w.cell? ⟨b, off + q, none⟩ = some (.int .u64 (f q)) from by
    obtain ⟨b', off', e, _, c⟩ := S q hq
    cases e
    exact c)
  obtain ⟨T, hT⟩ : ∃ T, f 0 = T := ⟨_, rfl⟩
  obtain ⟨B, hB⟩ : ∃ B, f 1 = B := ⟨_, rfl⟩
  rw [hT] at c0 h0 h1 h3 ⊢
  rw [hB] at c1 h1 h2 h3 ⊢
  simp only [Nat.add_zero] at c0
  obtain ⟨i46, hi46, hz46, hs46, hy46⟩ := info46e
  have HH := hide (And.intro h0 (And.intro h1 (And.intro h2 (And.intro h3 (And.intro hr1 (And.intro hr2 hn))))))
  have n0 : (0 : Int) < n := by omega
  have n1 : (1 : Int) < n := by omega
  clear S hT hB h0 h1 h2 h3 hr1 hr2 hn
  go_enter Try.func13, Try.ntmps13
  go_wp2_with fail
  go_loopw [5, 6] (fun v5 v6 wr => ∃ j : Nat, j ≤ (B - T).toNat ∧ v6 = .int .u64 (T + j) ∧ wr.ownsRow w.heap.size 39 1 v5 j (wc (std r f T j)) ∧ Below w.heap.size w wr) (fun _ v6 _ => (B - intOf v6).toNat)
  case atStart => exact ⟨0, Nat.zero_le _, by simp, World.ownsRow_nil _ _ _ _, Below.refl _ _⟩
  case round =>
    obtain ⟨j, hj, rfl, ow, hb⟩ := hrel
    obtain ⟨ao5, cp5, rfl⟩ := own_slice ow
    have HO := hide ow
    have HB := hide hb
    have lb2 : b < wr.heap.size := Nat.lt_of_lt_of_le lb hb.size
    have c0 := (hb.cell (p := ⟨b, off, none⟩) lb).trans c0
    have c1 := (hb.cell (p := ⟨b, off + 1, none⟩) lb).trans c1
    have g1 := wrap_u64' (B - (T + j))
    have g2 := dahd1 B (T + j)
    have g3 := dahd2 B (T + j)
    have ga : ahd B (T + j) = B - (T + j) := ahd_d (by obtain ⟨a, b, c, d, e, f, g⟩ := HH.out; omega)
    rw [ga] at g2 g3
    have HJ := hide hj
    clear ow hb ga hj
    by_cases hlt : T + j < B
    · obtain ⟨q, hq⟩ : ∃ q, sl r (T + j) = q := ⟨_, rfl⟩
      have hsl := sl_lo (r := r) HH.out.2.2.2.2.1 (T + j)
      rw [hq] at hsl
      have cq := (HB.out.cell (p := ⟨b, off + q, none⟩) lb).trans (SS.out q (by have := HH.out.2.2.2.2.2.2; omega))
      have SD := hide (show wc (std r f T (j + 1)) = wc (std r f T j) ++ [.int .u64 (f q)] from by
        show wc (std r f T j ++ [f (sl r (T + j))]) = _
        rw [hq, wc_more])
      have e1 : IntKind.u64.wrap (r : Int) = r := by rw [IntKind.wrap_u64]; have := HH.out.2.2.2.2.2.1; omega
      have e2 : (T + j).tmod (r : Int) = (T + j) % (r : Int) := Int.tmod_eq_emod_of_nonneg (by have := HH.out.1; omega)
      have e0 : ¬ (r : Int) = 0 := by have := HH.out.2.2.2.2.1; omega
      have pq : 2 + (T + j) % (r : Int) = (q : Int) := by have := hsl.2.2; unfold plc at this; omega
      obtain ⟨z, hz⟩ : ∃ z, (T + j) % (r : Int) = z := ⟨_, rfl⟩
      rw [hz] at e2 pq
      have qn : (q : Int) < n := by have := HH.out.2.2.2.2.2.2; omega
      have e3 : wrap64 z = z := by have := HH.out.2.2.2.2.2.1; unfold wrap64; omega
      have e4 : wrap64 (2 + z) = (q : Int) := by rw [pq]; have := HH.out.2.2.2.2.2.1; unfold wrap64; omega
      have e5 : IntKind.u64.wrap (T + j + 1) = T + j + 1 := by rw [IntKind.wrap_u64]; obtain ⟨a, b, c, d, e, f, g⟩ := HH.out; omega
      have d1 : (0 : Int) < B - (T + j) := by omega
      have d2 : (j : Int) ≤ r := by obtain ⟨a, b, c, d, e, f, g⟩ := HH.out; omega
      have J5 : j ≤ 100000 := by obtain ⟨a, b, c, d, e, f, g⟩ := HH.out; omega
      have HJ5 := hide J5
      have HLT := hide hlt
      clear hsl hq hz J5 pq hlt
      go_wp2_with (at_builtin; refine wpList_append_opt rfl (.tmp 25) (.tmp 35) 24 rfl w.heap.size 39 i46 (.int .u64 0) 1 8 Try.underlying24 hi46 hz46 hs46 hy46 rfl (by decide) (.slice ao5 j cp5) j (wc (std r f T j)) rfl (HO.out.alloc _) (some ⟨wr.heap.size, 0, none⟩) 1 1 [.int .u64 (f q)] rfl (fun h => by cases h) rfl (fun ad had => by cases had; exact cells_new wr #[.int .u64 (f q)] _) (by simp [Value.oneCell']) (by have := HJ5.out; unfold maxLen; omega) (by have := HJ5.out; omega) (by have := HB.out.size; simp; omega) ?_; intro v7 w7 hown7 hgrow7 hnn; rw [← SD.out] at hown7; have B7 := hide (show Below w.heap.size w w7 from (HB.out.alloc HB.out.size _).grown hgrow7 (by have := HB.out.size; simp; omega) (fun q hq => (HO.out.lt q hq).1)); have O7 := hide hown7; clear hown7 hgrow7 hnn)
      go_roundw
      case rel => exact ⟨j + 1, by have := HLT.out; omega, by rw [show T + ((j + 1 : Nat) : Int) = T + j + 1 by omega], O7.out, B7.out⟩
      case measure =>
        show (B - (T + j + 1)).toNat < (B - (T + j)).toNat
        have := HLT.out
        omega
    · have hlt' : ¬ (0 : Int) < B - (T + j) := by omega
      have e : (B - T).toNat = j := by have := HJ.out; have := HH.out.2.1; omega
      have OW := hide (show wr.ownsRow w.heap.size 39 1 (.slice ao5 j cp5) (std r f T (B - T).toNat).length (wc (std r f T (B - T).toNat)) from by rw [e, std_len]; exact HO.out)
      clear e
      go_wp2_with fail
      go_ret
      exact ⟨_, rfl, OW.out, HB.out⟩
end Deal
end Go.Proofs.Ytdgolkdedghajaa
