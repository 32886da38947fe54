/-
  Tables of operations by lists: that their slots and numbers are apart is reckoned.
-/
import Derived.Test.YtdbiphibdaghkaaRReg
namespace Go.Proofs.Ytdbiphibdaghkaa
set_option linter.unusedVariables false
set_option linter.unusedSimpArgs false
namespace Reg

theorem notD {b : Bool} (h : b = false) : ¬ b = true := by simp [h]

structure TabL where
  ks : List (Nat × Nat)
  vals : Nat → Value
  kc : Nat
  sc : Nat
  vc : Value
  as_ : List (Nat × Nat)
  aty : Nat → TypeId × List Value
  ss : List (Nat × Nat)
  sv : Nat → List Value

def look (l : List (Nat × Nat)) (i : Nat) : Option Nat := (l.find? (fun p => p.1 == i)).map (·.2)
theorem look_mem {l : List (Nat × Nat)} {i d : Nat} (h : look l i = some d) : (i, d) ∈ l := by
  unfold look at h
  obtain ⟨p, hp, hd⟩ := Option.map_eq_some_iff.1 h
  have h1 := List.find?_some hp
  have h2 := List.mem_of_find?_eq_some hp
  simp at h1
  subst h1; subst hd
  exact h2

def TabL.tab (t : TabL) : Tab where
  pv i := (look t.ks i).map (fun d => (d, t.vals i))
  kc := t.kc
  sc := t.sc
  vc := t.vc
  al i := (look t.as_ i).map (fun s => (s, (t.aty i).1, (t.aty i).2))
  so i := (look t.ss i).map (fun j => (j, t.sv i))
  D k := (t.ks.any (fun p => p.2 == k) || (t.sc == k || t.as_.any (fun p => p.2 == k))) = true

def TabL.good (t : TabL) : Bool :=
  (t.ks.all fun p => p.2 != t.sc && p.1 != t.kc && (t.ks.all fun q => p.1 == q.1 || p.2 != q.2) && (t.as_.all fun q => p.2 != q.2 && p.1 != q.1) && (t.ss.all fun q => p.1 != q.1)) &&
  (t.as_.all fun p => p.2 != t.sc && p.1 != t.kc && (t.as_.all fun q => p.1 == q.1 || p.2 != q.2) && (t.ss.all fun q => p.1 != q.1)) &&
  (t.ss.all fun p => p.1 != t.kc && (look t.as_ p.2).isSome && (t.ss.all fun q => p.2 != q.2 || p.1 == q.1))

theorem TabL.ok (t : TabL) (hg : t.good = true) (hz : ∀ i j, (i, j) ∈ t.ss → (t.aty j).2.length = (t.sv i).length) : t.tab.Ok := by
  simp only [TabL.good, Bool.and_eq_true, List.all_eq_true, bne_iff_ne, Bool.or_eq_true, beq_iff_eq] at hg
  obtain ⟨⟨hk, ha⟩, hs⟩ := hg
  have pv : ∀ {i d v}, t.tab.pv i = some (d, v) → (i, d) ∈ t.ks := fun {i d v} h => by
    obtain ⟨d', h1, h2⟩ := Option.map_eq_some_iff.1 h
    cases h2; exact look_mem h1
  have al : ∀ {i s ty z}, t.tab.al i = some (s, ty, z) → (i, s) ∈ t.as_ := fun {i s ty z} h => by
    obtain ⟨d', h1, h2⟩ := Option.map_eq_some_iff.1 h
    cases h2; exact look_mem h1
  have so : ∀ {i j l}, t.tab.so i = some (j, l) → (i, j) ∈ t.ss ∧ l = t.sv i := fun {i j l} h => by
    obtain ⟨d', h1, h2⟩ := Option.map_eq_some_iff.1 h
    cases h2; exact ⟨look_mem h1, rfl⟩
  refine ⟨fun i d v h => ?_, ?_, fun i s ty z h => ?_, fun i j d v d' v' h h' hne => ?_, fun i j d v s ty z h h' => ?_, fun i j s ty z s' ty' z' h h' hne => ?_, fun i j d v y h h' => ?_, fun i j x y h h' => ?_, fun j y h => ?_, fun i j l h => ?_, fun i i' j l l' h h' => ?_⟩
  · obtain ⟨⟨⟨⟨h1, h2⟩, _⟩, _⟩, _⟩ := hk _ (pv h)
    exact ⟨by simp only [TabL.tab, Bool.or_eq_true, List.any_eq_true, beq_iff_eq]; exact .inl ⟨_, pv h, rfl⟩, h1, h2⟩
  · simp [TabL.tab]
  · obtain ⟨⟨⟨h1, h2⟩, _⟩, _⟩ := ha _ (al h)
    exact ⟨by simp only [TabL.tab, Bool.or_eq_true, List.any_eq_true, beq_iff_eq]; exact .inr (.inr ⟨_, al h, rfl⟩), h1, h2⟩
  · obtain ⟨⟨⟨_, h3⟩, _⟩, _⟩ := hk _ (pv h)
    rcases h3 _ (pv h') with e | e
    · exact absurd e hne
    · exact e
  · obtain ⟨⟨_, h4⟩, _⟩ := hk _ (pv h)
    exact h4 _ (al h')
  · obtain ⟨⟨_, h3⟩, _⟩ := ha _ (al h)
    rcases h3 _ (al h') with e | e
    · exact absurd e hne
    · exact e
  · obtain ⟨_, h5⟩ := hk _ (pv h)
    obtain ⟨j', l⟩ := y
    exact h5 _ (so h').1
  · obtain ⟨s, ty, z⟩ := x
    obtain ⟨j', l⟩ := y
    obtain ⟨_, h4⟩ := ha _ (al h)
    exact h4 _ (so h').1
  · obtain ⟨j', l⟩ := y
    exact (hs _ (so h).1).1.1
  · obtain ⟨hm, rfl⟩ := so h
    obtain ⟨⟨_, h2⟩, _⟩ := hs _ hm
    obtain ⟨s, hs'⟩ := Option.isSome_iff_exists.1 h2
    exact ⟨s, (t.aty j).1, (t.aty j).2, by show (look t.as_ j).map _ = _; simp only at hs'; rw [hs']; rfl, hz i j hm⟩
  · obtain ⟨_, h3⟩ := hs _ (so h).1
    rcases h3 _ (so h').1 with e | e
    · exact absurd rfl e
    · exact e
end Reg
end Go.Proofs.Ytdbiphibdaghkaa
