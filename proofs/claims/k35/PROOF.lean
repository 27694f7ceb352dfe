import PyProof.Rows.All
import Wide.All
import OpenK.AllK
import Wide.FinOn
import HandS.ForMost
import HandS.ForExc
import HandS.Wide
import HandS.Defaults
import HandS.ExcIs
import HandS.ExcValue
import PyProof.Rows.ReprR
import HandS.Strs
import HandS.DictComp
import PyProof.Rows.SetFrom
import HandS.Walk
import HandS.Deep
import HandS.Iter
import HandS.Flow
import HandS.SortInts
import PyProof.NeKinds
import HandS.List
import HandS.Comp
import HandS.Style
import HandS.More
import HandS.SortKw
import KE.KMinBuiltin
import HandS.Conv
import HandS.IsInst
import HandS.Zip
import HandS.TupAny
import HandS.TupLe
import KE.GoesEnum
import PyProof.EqAt
import KE.KeyNested
import KE.KDictDisplayH
import HandS.Dict
import HandS.Small
import PyProof.Rows.TupTab
import HandS.SetFor
import PySem.Challenge.RW_glassladder_k35_whole_never_a_why_and_a
set_option Elab.async false
set_option linter.all false
set_option maxRecDepth 100000
set_option maxHeartbeats 8000000
namespace Gr
/-! ### going through a graph: pieces by two goings through -/
/-- x leads to y -/
inductive R (adj : Nat → List Nat) (x : Nat) : Nat → Prop
  | refl : R adj x x
  | step {y z : Nat} : R adj x y → z ∈ adj y → R adj x z
theorem R.trans {adj : Nat → List Nat} {x y z : Nat} (h : R adj x y) (g : R adj y z) : R adj x z := by
  induction g with
  | refl => exact h
  | step _ e ih => exact .step ih e
theorem R.one {adj : Nat → List Nat} {x y : Nat} (h : y ∈ adj x) : R adj x y := .step .refl h
theorem R.mem {adj : Nat → List Nat} {es : List Nat} (cl : ∀ x ∈ es, ∀ y ∈ adj x, y ∈ es) {x y : Nat} (hx : x ∈ es) (h : R adj x y) : y ∈ es := by
  induction h with
  | refl => exact hx
  | step _ e ih => exact cl _ ih _ e
theorem R.flip {adj bdj : Nat → List Nat} (h : ∀ x y, y ∈ adj x → x ∈ bdj y) {x y : Nat} (g : R adj x y) : R bdj y x := by
  induction g with
  | refl => exact .refl
  | step _ e ih => exact (R.one (h _ _ e)).trans ih
structure St where
  path : List (Nat × Nat)
  ord : List Nat
  ks : List Nat
/-- one turn; the path's last is told first here -/
def step (adj : Nat → List Nat) (s : St) : St :=
  match s.path with
  | [] => s
  | (h, a) :: p => match (adj h)[a]? with
    | none => ⟨p, s.ord ++ [h], s.ks⟩
    | some t => if t ∈ s.ks then ⟨(h, a + 1) :: p, s.ord, s.ks⟩ else ⟨(t, 0) :: (h, a + 1) :: p, s.ord, s.ks ++ [t]⟩
def iter (adj : Nat → List Nat) : Nat → St → St
  | 0, s => s
  | n + 1, s => iter adj n (step adj s)
def nodes (s : St) : List Nat := s.path.map (·.1)
structure Inv (es : List Nat) (adj : Nat → List Nat) (ks0 : List Nat) (e : Nat) (s : St) : Prop where
  keys : ∀ x, x ∈ s.ks ↔ x ∈ ks0 ∨ x ∈ s.ord ∨ x ∈ nodes s
  nd : (s.ord ++ nodes s).Nodup
  dis : ∀ x, x ∈ s.ord ++ nodes s → x ∉ ks0
  fr : ∀ f ∈ s.path, f.2 ≤ (adj f.1).length ∧ ∀ i, i < f.2 → ∀ t, (adj f.1)[i]? = some t → t ∈ s.ks
  fin : ∀ u ∈ s.ord, ∀ v ∈ adj u, v ∈ s.ks
  chain : (nodes s).Pairwise (fun a b => R adj b a)
  rch : ∀ x, x ∈ s.ord ++ nodes s → R adj e x
  sub : ∀ x ∈ s.ks, x ∈ es
  has : e ∈ s.ord ++ nodes s
section
variable {es ks0 : List Nat} {adj : Nat → List Nat} {e : Nat} {s : St}
theorem inv_init (he : e ∈ es) (h0 : ∀ x ∈ ks0, x ∈ es) (hn : e ∉ ks0) : Inv es adj ks0 e ⟨[(e, 0)], [], ks0 ++ [e]⟩ := by
  refine ⟨fun x => ?_, ?_, ?_, ?_, ?_, ?_, ?_, ?_, ?_⟩
  · simp [nodes]
  · simp [nodes]
  · simp [nodes]; exact hn
  · simp
  · simp
  · simp [nodes]
  · simp [nodes]; exact .refl
  · simp; rintro x (h | rfl)
    · exact h0 x h
    · exact he
  · simp [nodes]
theorem inv_step (cl : ∀ x ∈ es, ∀ y ∈ adj x, y ∈ es) (I : Inv es adj ks0 e s) : Inv es adj ks0 e (step adj s) := by
  obtain ⟨path, ord, ks⟩ := s
  match path, I with
  | [], I => exact I
  | (h, a) :: p, I =>
    obtain ⟨keys, nd, dis, fr, fin, chain, rch, sub, has⟩ := I
    have fh := fr (h, a) List.mem_cons_self
    have hk : h ∈ ks := (keys h).mpr (.inr (.inr (by simp [nodes])))
    have rh : R adj e h := rch h (by simp [nodes])
    unfold step
    dsimp only
    split
    · rename_i hn
      have al : a = (adj h).length := by
        have := List.getElem?_eq_none_iff.mp hn
        have := fh.1
        simp at this
        omega
      refine ⟨fun x => ?_, ?_, ?_, ?_, ?_, ?_, ?_, sub, ?_⟩
      · rw [keys x]
        simp only [nodes, List.map_cons, List.mem_cons, List.mem_append, List.mem_singleton, List.not_mem_nil, or_false]
        grind
      · simp only [nodes, List.map_cons] at nd ⊢
        simpa using nd
      · intro x hx
        exact dis x (by simp only [nodes, List.map_cons] at hx ⊢; simpa using hx)
      · exact fun f hf => fr f (List.mem_cons_of_mem _ hf)
      · intro u hu v hv
        rcases List.mem_append.mp hu with hu | hu
        · exact fin u hu v hv
        · rw [List.mem_singleton.mp hu] at hv
          obtain ⟨i, hi, e⟩ := List.mem_iff_getElem.mp hv
          exact fh.2 i (by simp; omega) v (by simp only; rw [List.getElem?_eq_getElem hi, e])
      · simp only [nodes, List.map_cons, List.pairwise_cons] at chain
        exact chain.2
      · intro x hx
        exact rch x (by simp only [nodes, List.map_cons] at hx ⊢; simpa using hx)
      · simp only [nodes, List.map_cons] at has ⊢
        simpa using has
    · rename_i t ht
      have tm : t ∈ adj h := List.mem_of_getElem? ht
      have al : a < (adj h).length := (List.getElem?_eq_some_iff.mp ht).1
      split
      · rename_i tk
        refine ⟨keys, nd, dis, ?_, fin, chain, rch, sub, has⟩
        intro f hf
        rcases List.mem_cons.mp hf with rfl | hf
        · refine ⟨al, fun i hi t' e => ?_⟩
          by_cases c : i = a
          · rw [c] at e
            simp only at e
            rw [ht] at e
            cases e
            exact tk
          · exact fh.2 i (by simp at hi ⊢; omega) t' e
        · exact fr f (List.mem_cons_of_mem _ hf)
      · rename_i tk
        have tn := mt (keys t).mpr tk
        refine ⟨fun x => ?_, ?_, ?_, ?_, ?_, ?_, ?_, ?_, ?_⟩
        · simp only [nodes, List.map_cons, List.mem_cons, List.mem_append, List.not_mem_nil, or_false]
          have := keys x
          simp only [nodes, List.map_cons, List.mem_cons] at this
          grind
        · simp only [nodes, List.map_cons] at nd tn ⊢
          rw [List.nodup_append] at nd ⊢
          refine ⟨nd.1, List.nodup_cons.mpr ⟨fun z => tn (.inr (.inr z)), nd.2.1⟩, fun x hx y hy => ?_⟩
          rcases List.mem_cons.mp hy with rfl | hy
          · exact fun z => tn (.inr (.inl (z ▸ hx)))
          · exact nd.2.2 x hx y hy
        · intro x hx
          simp only [nodes, List.map_cons, List.mem_append, List.mem_cons] at hx
          by_cases c : x = t
          · rw [c]
            exact fun z => tn (.inl z)
          · exact dis x (by simp only [nodes, List.map_cons, List.mem_append, List.mem_cons]; grind)
        · intro f hf
          have g : ∀ f ∈ (h, a) :: p, ∀ i, i < f.2 → ∀ t', (adj f.1)[i]? = some t' → t' ∈ ks ++ [t] := fun f hf i hi t' e => List.mem_append.mpr (.inl ((fr f hf).2 i hi t' e))
          rcases List.mem_cons.mp hf with rfl | hf
          · exact ⟨Nat.zero_le _, fun i hi => absurd hi (Nat.not_lt_zero i)⟩
          rcases List.mem_cons.mp hf with rfl | hf
          · refine ⟨al, fun i hi t' e => ?_⟩
            by_cases c : i = a
            · rw [c] at e
              simp only at e
              rw [ht] at e
              cases e
              simp
            · exact g (h, a) List.mem_cons_self i (by simp at hi ⊢; omega) t' e
          · exact ⟨(fr f (List.mem_cons_of_mem _ hf)).1, g f (List.mem_cons_of_mem _ hf)⟩
        · exact fun u hu v hv => List.mem_append.mpr (.inl (fin u hu v hv))
        · simp only [nodes, List.map_cons, List.pairwise_cons] at chain ⊢
          refine ⟨fun b hb => ?_, chain⟩
          rcases List.mem_cons.mp hb with rfl | hb
          · exact R.one tm
          · exact (chain.1 b hb).step tm
        · intro x hx
          by_cases c : x = t
          · rw [c]
            exact rh.step tm
          · exact rch x (by simp only [nodes, List.map_cons, List.mem_append, List.mem_cons] at hx ⊢; grind)
        · intro x hx
          rcases List.mem_append.mp hx with hx | hx
          · exact sub x hx
          · rw [List.mem_singleton.mp hx]
            exact cl h (sub h hk) t tm
        · simp only [nodes, List.map_cons, List.mem_append, List.mem_cons] at has ⊢
          grind
end
/-! it ends -/
def lack (es : List Nat) (adj : Nat → List Nat) (ks : List Nat) : Nat := (es.map fun x => if x ∈ ks then 0 else (adj x).length + 2).sum
def mu (es : List Nat) (adj : Nat → List Nat) (s : St) : Nat := lack es adj s.ks + (s.path.map fun f => (adj f.1).length - f.2 + 1).sum
theorem lack_le {adj : Nat → List Nat} {ks : List Nat} {t : Nat} : ∀ {es : List Nat}, lack es adj (ks ++ [t]) ≤ lack es adj ks
  | [] => Nat.le_refl _
  | x :: es => by
    have ih := @lack_le adj ks t es
    unfold lack at ih ⊢
    simp only [List.map_cons, List.sum_cons]
    have : (if x ∈ ks ++ [t] then 0 else (adj x).length + 2) ≤ (if x ∈ ks then 0 else (adj x).length + 2) := by
      by_cases c : x ∈ ks
      · simp [c]
      · by_cases d : x ∈ ks ++ [t]
        · rw [if_pos d]
          exact Nat.zero_le _
        · rw [if_neg c, if_neg d]
          exact Nat.le_refl _
    omega
theorem lack_lt {adj : Nat → List Nat} {ks : List Nat} {t : Nat} (hk : t ∉ ks) : ∀ {es : List Nat}, t ∈ es → lack es adj (ks ++ [t]) + ((adj t).length + 2) ≤ lack es adj ks
  | [], h => absurd h List.not_mem_nil
  | x :: es, h => by
    have l := @lack_le adj ks t es
    by_cases c : x = t
    · subst c
      unfold lack at l ⊢
      simp only [List.map_cons, List.sum_cons]
      rw [if_neg hk, if_pos (by simp)]
      omega
    · have ih := @lack_lt adj ks t hk es ((List.mem_cons.mp h).resolve_left fun z => c z.symm)
      unfold lack at ih ⊢
      simp only [List.map_cons, List.sum_cons]
      have : (if x ∈ ks ++ [t] then 0 else (adj x).length + 2) = (if x ∈ ks then 0 else (adj x).length + 2) := by
        simp [c]
      omega
theorem mu_step {es ks0 : List Nat} {adj : Nat → List Nat} {e : Nat} {s : St} (cl : ∀ x ∈ es, ∀ y ∈ adj x, y ∈ es) (I : Inv es adj ks0 e s) (hp : s.path ≠ []) : mu es adj (step adj s) < mu es adj s := by
  obtain ⟨path, ord, ks⟩ := s
  match path, I with
  | [], I => exact absurd rfl hp
  | (h, a) :: p, I =>
    have fh := I.fr (h, a) List.mem_cons_self
    have hk : h ∈ ks := (I.keys h).mpr (.inr (.inr (by simp [nodes])))
    unfold step mu
    dsimp only
    split
    · simp only [List.map_cons, List.sum_cons]
      omega
    · rename_i t ht
      have tm : t ∈ adj h := List.mem_of_getElem? ht
      have al : a < (adj h).length := (List.getElem?_eq_some_iff.mp ht).1
      split
      · simp only [List.map_cons, List.sum_cons]
        omega
      · rename_i tk
        have l := lack_lt (adj := adj) tk (cl h (I.sub h hk) t tm)
        simp only [List.map_cons, List.sum_cons]
        omega
/-- the whole going through from e on -/
def dfs (es : List Nat) (adj : Nat → List Nat) (ks : List Nat) (e : Nat) : St := iter adj (mu es adj ⟨[(e, 0)], [], ks ++ [e]⟩) ⟨[(e, 0)], [], ks ++ [e]⟩
theorem iter_nil {adj : Nat → List Nat} : ∀ {n : Nat} {s : St}, s.path = [] → iter adj n s = s
  | 0, _, _ => rfl
  | n + 1, s, h => by
    have e : step adj s = s := by
      unfold step
      rw [h]
    rw [iter, e, iter_nil h]
theorem iter_succ {adj : Nat → List Nat} : ∀ {n : Nat} {s : St}, iter adj (n + 1) s = step adj (iter adj n s)
  | 0, _ => rfl
  | n + 1, s => by
    rw [iter, iter_succ (n := n)]
    rfl
/-- from any state that is come to, the same end -/
theorem iter_end {es ks0 : List Nat} {adj : Nat → List Nat} {e : Nat} (cl : ∀ x ∈ es, ∀ y ∈ adj x, y ∈ es) : ∀ {m : Nat} {s : St}, Inv es adj ks0 e s → mu es adj s ≤ m → (iter adj m s).path = [] ∧ Inv es adj ks0 e (iter adj m s)
  | 0, s, I, h => by
    by_cases c : s.path = []
    · exact ⟨c, I⟩
    · have := mu_step cl I c
      omega
  | m + 1, s, I, h => by
    by_cases c : s.path = []
    · rw [iter_nil c]
      exact ⟨c, I⟩
    · have := mu_step cl I c
      exact iter_end (m := m) (s := step adj s) cl (inv_step cl I) (by omega)
theorem iter_more {adj : Nat → List Nat} {n k : Nat} {s : St} (h : (iter adj n s).path = []) (l : n ≤ k) : iter adj k s = iter adj n s := by
  induction l with
  | refl => rfl
  | step _ ih => rw [iter_succ, ih]; unfold step; rw [h]
section
variable {es ks0 : List Nat} {adj : Nat → List Nat} {e : Nat} (cl : ∀ x ∈ es, ∀ y ∈ adj x, y ∈ es) (he : e ∈ es) (h0 : ∀ x ∈ ks0, x ∈ es) (hn : e ∉ ks0)
include cl he h0 hn
theorem dfs_end : (dfs es adj ks0 e).path = [] ∧ Inv es adj ks0 e (dfs es adj ks0 e) := iter_end cl (inv_init he h0 hn) (Nat.le_refl _)
/-- a state with no path is the end -/
theorem dfs_of {n : Nat} (h : (iter adj n ⟨[(e, 0)], [], ks0 ++ [e]⟩).path = []) : iter adj n ⟨[(e, 0)], [], ks0 ++ [e]⟩ = dfs es adj ks0 e := by
  have d := (dfs_end cl he h0 hn).1
  rcases Nat.le_total n (mu es adj ⟨[(e, 0)], [], ks0 ++ [e]⟩) with l | l
  · exact (iter_more h l).symm
  · exact iter_more d l
end
end Gr

namespace Gr
/-! ### the order by which entries are left -/
def OkP (adj : Nat → List Nat) (O P : List Nat) : Prop := ∀ u ∈ O, ∀ v ∈ adj u,
  (v ∈ O ∧ ∀ x ∈ O, O.idxOf u ≤ O.idxOf x → O.idxOf x < O.idxOf v → R adj v x) ∨ (v ∈ P ∧ ∀ x ∈ O, O.idxOf u ≤ O.idxOf x → R adj v x)
theorem idx_in {O : List Nat} {h x : Nat} (hx : x ∈ O) : (O ++ [h]).idxOf x = O.idxOf x := by
  rw [List.idxOf_append, if_pos hx]
theorem idx_new {O : List Nat} {h : Nat} (hn : h ∉ O) : (O ++ [h]).idxOf h = O.length := by
  rw [List.idxOf_append, if_neg hn, List.idxOf_cons_self, Nat.zero_add]
theorem idx_inj {O : List Nat} {x y : Nat} (hx : x ∈ O) (hy : y ∈ O) (h : O.idxOf x = O.idxOf y) : x = y := by
  have lx := List.idxOf_lt_length_of_mem hx
  have ly := List.idxOf_lt_length_of_mem hy
  have e1 : O[O.idxOf x]'lx = x := by
    have := List.findIdx_getElem (p := (· == x)) (xs := O) (w := lx)
    exact eq_of_beq this
  have e2 : O[O.idxOf y]'ly = y := by
    have := List.findIdx_getElem (p := (· == y)) (xs := O) (w := ly)
    exact eq_of_beq this
  rw [← e1, ← e2]
  simp only [h]
theorem ok_more {adj : Nat → List Nat} {O P P' : List Nat} (h : OkP adj O P) (g : ∀ x ∈ P, x ∈ P') : OkP adj O P' := fun u hu v hv => by
  rcases h u hu v hv with h | ⟨h1, h2⟩
  · exact .inl h
  · exact .inr ⟨g v h1, h2⟩
/-- one more is left: h, the path's last -/
theorem ok_leave {adj : Nat → List Nat} {O P : List Nat} {h : Nat} (hO : h ∉ O) (ok : OkP adj O (h :: P)) (rp : ∀ x ∈ P, R adj x h) (all : ∀ v ∈ adj h, v ∈ O ∨ v = h ∨ v ∈ P) : OkP adj (O ++ [h]) P := by
  intro u hu v hv
  have len : ∀ x ∈ O, O.idxOf x < O.length := fun x hx => List.idxOf_lt_length_of_mem hx
  rcases List.mem_append.mp hu with hu' | hu'
  · rcases ok u hu' v hv with ⟨h1, h2⟩ | ⟨h1, h2⟩
    · refine .inl ⟨List.mem_append.mpr (.inl h1), fun x hx l1 l2 => ?_⟩
      rw [idx_in h1] at l2
      rcases List.mem_append.mp hx with hx | hx
      · rw [idx_in hx] at l1 l2
        rw [idx_in hu'] at l1
        exact h2 x hx l1 l2
      · rw [List.mem_singleton.mp hx, idx_new hO] at l2
        have := len v h1
        omega
    · rcases List.mem_cons.mp h1 with rfl | h1
      · refine .inl ⟨by simp, fun x hx l1 l2 => ?_⟩
        rw [idx_new hO] at l2
        rcases List.mem_append.mp hx with hx | hx
        · rw [idx_in hx, idx_in hu'] at l1
          exact h2 x hx l1
        · rw [List.mem_singleton.mp hx]
          exact .refl
      · refine .inr ⟨h1, fun x hx l1 => ?_⟩
        rcases List.mem_append.mp hx with hx | hx
        · rw [idx_in hx, idx_in hu'] at l1
          exact h2 x hx l1
        · rw [List.mem_singleton.mp hx]
          exact rp v h1
  · have eu := List.mem_singleton.mp hu'
    subst eu
    rcases all v hv with h1 | rfl | h1
    · refine .inl ⟨List.mem_append.mpr (.inl h1), fun x hx l1 l2 => ?_⟩
      rw [idx_new hO] at l1
      rw [idx_in h1] at l2
      have := len v h1
      omega
    · refine .inl ⟨by simp, fun x hx l1 l2 => ?_⟩
      omega
    · refine .inr ⟨h1, fun x hx l1 => ?_⟩
      rw [idx_new hO] at l1
      rcases List.mem_append.mp hx with hx | hx
      · rw [idx_in hx] at l1
        have := len x hx
        omega
      · rw [List.mem_singleton.mp hx]
        exact rp v h1
section
variable {es ks0 O0 : List Nat} {adj : Nat → List Nat} {e : Nat} {s : St}
theorem ok_step (cl : ∀ x ∈ es, ∀ y ∈ adj x, y ∈ es) (hO : ∀ x, x ∈ O0 ↔ x ∈ ks0) (I : Inv es adj ks0 e s) (ok : OkP adj (O0 ++ s.ord) (nodes s)) : OkP adj (O0 ++ (step adj s).ord) (nodes (step adj s)) := by
  have J := inv_step cl I
  obtain ⟨path, ord, ks⟩ := s
  match path, I, J, ok with
  | [], I, J, ok => exact ok
  | (h, a) :: p, I, J, ok =>
    unfold step at J ⊢
    dsimp only at J ⊢
    split
    · rename_i hn
      rw [hn] at J
      dsimp only at J
      have nh : h ∉ O0 ++ ord := by
        intro z
        rcases List.mem_append.mp z with z | z
        · exact I.dis h (by simp [nodes]) ((hO h).mp z)
        · have := I.nd
          simp only [nodes, List.map_cons] at this
          rw [List.nodup_append] at this
          exact this.2.2 h z h List.mem_cons_self rfl
      show OkP adj (O0 ++ (ord ++ [h])) (nodes ⟨p, ord ++ [h], ks⟩)
      rw [← List.append_assoc]
      refine ok_leave nh ok (fun x hx => ?_) fun v hv => ?_
      · have := I.chain
        simp only [nodes, List.map_cons, List.pairwise_cons] at this
        exact this.1 x hx
      · have := (I.keys v).mp (J.fin h (by simp) v hv)
        simp only [nodes, List.map_cons, List.mem_cons] at this
        simp only [List.mem_append, hO v]
        have e : v ∈ nodes ⟨p, ord ++ [h], ks⟩ ↔ v ∈ p.map (·.1) := Iff.rfl
        rw [e]
        grind
    · split
      · exact ok
      · exact ok_more ok fun x hx => by
          simp only [nodes, List.map_cons, List.mem_cons] at hx ⊢
          grind
theorem ok_iter (cl : ∀ x ∈ es, ∀ y ∈ adj x, y ∈ es) (hO : ∀ x, x ∈ O0 ↔ x ∈ ks0) : ∀ {n : Nat} {s : St}, Inv es adj ks0 e s → OkP adj (O0 ++ s.ord) (nodes s) → OkP adj (O0 ++ (iter adj n s).ord) (nodes (iter adj n s))
  | 0, _, _, ok => ok
  | n + 1, s, I, ok => ok_iter (n := n) (s := step adj s) cl hO (inv_step cl I) (ok_step cl hO I ok)
/-- what a going through from e tells -/
structure Went (adj : Nat → List Nat) (ks0 : List Nat) (e : Nat) (o ks : List Nat) : Prop where
  keys : ∀ x, x ∈ ks ↔ x ∈ ks0 ∨ x ∈ o
  nd : o.Nodup
  dis : ∀ x ∈ o, x ∉ ks0
  has : e ∈ o
  rch : ∀ x ∈ o, R adj e x
  fin : ∀ u ∈ o, ∀ v ∈ adj u, v ∈ ks0 ∨ v ∈ o
theorem dfs_went (cl : ∀ x ∈ es, ∀ y ∈ adj x, y ∈ es) (he : e ∈ es) (h0 : ∀ x ∈ ks0, x ∈ es) (hn : e ∉ ks0) : Went adj ks0 e (dfs es adj ks0 e).ord (dfs es adj ks0 e).ks ∧ (∀ x ∈ (dfs es adj ks0 e).ks, x ∈ es) := by
  obtain ⟨hp, I⟩ := dfs_end cl he h0 hn
  have np : nodes (dfs es adj ks0 e) = [] := by unfold nodes; rw [hp]; rfl
  have k : ∀ x, x ∈ (dfs es adj ks0 e).ks ↔ x ∈ ks0 ∨ x ∈ (dfs es adj ks0 e).ord := fun x => by
    rw [I.keys x, np]
    simp
  refine ⟨⟨k, ?_, ?_, ?_, ?_, fun u hu v hv => (k v).mp (I.fin u hu v hv)⟩, I.sub⟩
  · have := I.nd
    rw [np, List.append_nil] at this
    exact this
  · intro x hx
    exact I.dis x (List.mem_append.mpr (.inl hx))
  · have := I.has
    rw [np, List.append_nil] at this
    exact this
  · intro x hx
    exact I.rch x (List.mem_append.mpr (.inl hx))
theorem dfs_ok (cl : ∀ x ∈ es, ∀ y ∈ adj x, y ∈ es) (he : e ∈ es) (h0 : ∀ x ∈ ks0, x ∈ es) (hn : e ∉ ks0) (hO : ∀ x, x ∈ O0 ↔ x ∈ ks0) (ok : OkP adj O0 []) : OkP adj (O0 ++ (dfs es adj ks0 e).ord) [] := by
  have z := ok_iter (n := mu es adj ⟨[(e, 0)], [], ks0 ++ [e]⟩) cl hO (inv_init he h0 hn) (by
    show OkP adj (O0 ++ []) _
    rw [List.append_nil]
    exact ok_more ok fun x hx => absurd hx List.not_mem_nil)
  have np : nodes (dfs es adj ks0 e) = [] := by
    unfold nodes
    rw [(dfs_end cl he h0 hn).1]
    rfl
  have z' : OkP adj (O0 ++ (dfs es adj ks0 e).ord) (nodes (dfs es adj ks0 e)) := z
  rw [np] at z'
  exact z'
end
/-! ### the first going through of all -/
def goAll (es : List Nat) (adj : Nat → List Nat) : List Nat → List Nat × List Nat → List Nat × List Nat
  | [], a => a
  | e :: r, (O, ks) => if e ∈ ks then goAll es adj r (O, ks) else goAll es adj r (O ++ (dfs es adj ks e).ord, (dfs es adj ks e).ks)
structure Gone (es : List Nat) (adj : Nat → List Nat) (O ks : List Nat) : Prop where
  keys : ∀ x, x ∈ O ↔ x ∈ ks
  nd : O.Nodup
  sub : ∀ x ∈ O, x ∈ es
  ok : OkP adj O []
theorem gone_one {es : List Nat} {adj : Nat → List Nat} {O ks : List Nat} {e : Nat} (cl : ∀ x ∈ es, ∀ y ∈ adj x, y ∈ es) (G : Gone es adj O ks) (he : e ∈ es) (hn : e ∉ ks) : Gone es adj (O ++ (dfs es adj ks e).ord) (dfs es adj ks e).ks := by
  have h0 : ∀ x ∈ ks, x ∈ es := fun x hx => G.sub x ((G.keys x).mpr hx)
  obtain ⟨W, sub⟩ := dfs_went cl he h0 hn
  refine ⟨fun x => ?_, ?_, ?_, dfs_ok cl he h0 hn G.keys G.ok⟩
  · rw [List.mem_append, W.keys x, G.keys x]
  · rw [List.nodup_append]
    exact ⟨G.nd, W.nd, fun a ha b hb e => W.dis b hb ((G.keys b).mp (e ▸ ha))⟩
  · intro x hx
    rcases List.mem_append.mp hx with hx | hx
    · exact G.sub x hx
    · exact sub x ((W.keys x).mpr (.inr hx))
theorem goAll_ok {es : List Nat} {adj : Nat → List Nat} (cl : ∀ x ∈ es, ∀ y ∈ adj x, y ∈ es) : ∀ {r O ks : List Nat}, (∀ x ∈ r, x ∈ es) → Gone es adj O ks → Gone es adj (goAll es adj r (O, ks)).1 (goAll es adj r (O, ks)).2 ∧ (∀ x ∈ O, x ∈ (goAll es adj r (O, ks)).1) ∧ ∀ x ∈ r, x ∈ (goAll es adj r (O, ks)).1
  | [], O, ks, _, G => ⟨G, fun x hx => hx, fun x hx => absurd hx List.not_mem_nil⟩
  | e :: r, O, ks, hr, G => by
    unfold goAll
    split
    · rename_i hk
      obtain ⟨a, b, c⟩ := goAll_ok cl (fun x hx => hr x (List.mem_cons_of_mem _ hx)) G
      refine ⟨a, b, fun x hx => ?_⟩
      rcases List.mem_cons.mp hx with rfl | hx
      · exact b x ((G.keys x).mpr hk)
      · exact c x hx
    · rename_i hk
      have he := hr e List.mem_cons_self
      have h0 : ∀ x ∈ ks, x ∈ es := fun x hx => G.sub x ((G.keys x).mpr hx)
      obtain ⟨W, _⟩ := dfs_went cl he h0 hk
      obtain ⟨a, b, c⟩ := goAll_ok cl (fun x hx => hr x (List.mem_cons_of_mem _ hx)) (gone_one cl G he hk)
      refine ⟨a, fun x hx => b x (List.mem_append.mpr (.inl hx)), fun x hx => ?_⟩
      rcases List.mem_cons.mp hx with rfl | hx
      · exact b x (List.mem_append.mpr (.inr W.has))
      · exact c x hx
/-! ### what the order tells -/
def Mut (adj : Nat → List Nat) (x y : Nat) : Prop := R adj x y ∧ R adj y x
theorem Mut.symm {adj : Nat → List Nat} {x y : Nat} (h : Mut adj x y) : Mut adj y x := ⟨h.2, h.1⟩
theorem Mut.refl {adj : Nat → List Nat} {x : Nat} : Mut adj x x := ⟨.refl, .refl⟩
theorem Mut.trans {adj : Nat → List Nat} {x y z : Nat} (h : Mut adj x y) (g : Mut adj y z) : Mut adj x z := ⟨h.1.trans g.1, g.2.trans h.2⟩
theorem max_of {p : Nat → Prop} (f : Nat → Nat) : ∀ {O : List Nat}, (∃ x ∈ O, p x) → ∃ y ∈ O, p y ∧ ∀ x ∈ O, p x → f x ≤ f y
  | [], h => by
    obtain ⟨x, hx, _⟩ := h
    exact absurd hx List.not_mem_nil
  | a :: O, h => by
    by_cases c : ∃ x ∈ O, p x
    · obtain ⟨y, hy, py, hm⟩ := max_of f c
      by_cases d : p a ∧ f y < f a
      · refine ⟨a, List.mem_cons_self, d.1, fun x hx px => ?_⟩
        rcases List.mem_cons.mp hx with rfl | hx
        · exact Nat.le_refl _
        · have := hm x hx px
          omega
      · refine ⟨y, List.mem_cons_of_mem _ hy, py, fun x hx px => ?_⟩
        rcases List.mem_cons.mp hx with rfl | hx
        · exact Nat.le_of_not_lt fun z => d ⟨px, z⟩
        · exact hm x hx px
    · obtain ⟨x, hx, px⟩ := h
      rcases List.mem_cons.mp hx with rfl | hx
      · refine ⟨x, List.mem_cons_self, px, fun y hy py => ?_⟩
        rcases List.mem_cons.mp hy with rfl | hy
        · exact Nat.le_refl _
        · exact absurd ⟨y, hy, py⟩ c
      · exact absurd ⟨x, hx, px⟩ c
/-- of all that lead round with u, the last one left is behind all that u leads to -/
theorem last_of {adj : Nat → List Nat} {O : List Nat} (ok : OkP adj O []) {u : Nat} (hu : u ∈ O) : ∃ y ∈ O, Mut adj u y ∧ ∀ v, R adj u v → v ∈ O ∧ O.idxOf v ≤ O.idxOf y := by
  obtain ⟨y, hy, my, mx⟩ := max_of (p := Mut adj u) (fun x => O.idxOf x) ⟨u, hu, .refl⟩
  refine ⟨y, hy, my, fun v hv => ?_⟩
  induction hv with
  | refl => exact ⟨hu, mx u hu .refl⟩
  | @step v' v rv hv ih =>
    obtain ⟨h1, h2⟩ := ih
    rcases ok v' h1 v hv with ⟨g1, g2⟩ | ⟨g1, _⟩
    · refine ⟨g1, ?_⟩
      rcases Nat.lt_or_ge (O.idxOf y) (O.idxOf v) with l | l
      · have z := g2 y hy h2 l
        exact mx v g1 ⟨rv.step hv, z.trans my.2⟩
      · exact l
    · exact absurd g1 List.not_mem_nil
end Gr

namespace Gr
/-! ### the second going through -/
def srt (l : List Nat) : List Nat := l.mergeSort fun a b => decide (a ≤ b)
theorem srt_perm (l : List Nat) : (srt l).Perm l := List.mergeSort_perm l _
theorem srt_mem {l : List Nat} {x : Nat} : x ∈ srt l ↔ x ∈ l := (srt_perm l).mem_iff
theorem srt_pw (l : List Nat) : (srt l).Pairwise (· ≤ ·) := by
  have h := List.pairwise_mergeSort (le := fun a b : Nat => decide (a ≤ b)) (fun a b c h1 h2 => by simp at *; omega) (fun a b => by simp; omega) l
  exact h.imp fun h => by simpa using h
theorem srt_eq {l m : List Nat} (p : m.Perm l) (s : m.Pairwise (· ≤ ·)) : m = srt l :=
  List.Perm.eq_of_pairwise (le := (· ≤ ·)) (fun a b _ _ h1 h2 => Nat.le_antisymm h1 h2) s (srt_pw l) (p.trans (srt_perm l).symm)
def goBack (es : List Nat) (bdj : Nat → List Nat) : List Nat → List (List Nat) × List Nat → List (List Nat) × List Nat
  | [], a => a
  | e :: r, (T, ks) => if e ∈ ks then goBack es bdj r (T, ks) else goBack es bdj r (T ++ [srt (dfs es bdj ks e).ord], (dfs es bdj ks e).ks)
structure Told (es : List Nat) (adj : Nat → List Nat) (O : List Nat) (T : List (List Nat)) (ks : List Nat) : Prop where
  keys : ∀ x, x ∈ ks ↔ ∃ p ∈ T, x ∈ p
  cls : ∀ p ∈ T, ∀ x ∈ p, x ∈ es ∧ ∀ y ∈ es, (y ∈ p ↔ Mut adj x y)
  ord : T.Pairwise fun p q => ∀ x ∈ q, ∀ y ∈ p, ¬ R adj x y
  top : ∀ p ∈ T, ∃ e ∈ p, ∀ z ∈ O, z ∉ ks → O.idxOf z < O.idxOf e
  shp : ∀ p ∈ T, p.Nodup ∧ p ≠ [] ∧ p.Pairwise (· ≤ ·)
section
variable {es O : List Nat} {adj bdj : Nat → List Nat}
theorem told_ks {T : List (List Nat)} {ks : List Nat} (D : Told es adj O T ks) {x y : Nat} (hx : x ∈ es) (m : Mut adj x y) (hy : y ∈ ks) : x ∈ ks := by
  obtain ⟨p, hp, yp⟩ := (D.keys y).mp hy
  exact (D.keys x).mpr ⟨p, hp, ((D.cls p hp y yp).2 x hx).mpr m.symm⟩
theorem told_one (cl : ∀ x ∈ es, ∀ y ∈ adj x, y ∈ es) (cb : ∀ x ∈ es, ∀ y ∈ bdj x, y ∈ es) (fl : ∀ x y, y ∈ adj x ↔ x ∈ bdj y) (ok : OkP adj O []) (nd : O.Nodup) (sub : ∀ x, x ∈ O ↔ x ∈ es)
    {T : List (List Nat)} {ks : List Nat} (D : Told es adj O T ks) {e : Nat} {A B : List Nat} (eO : O = A ++ e :: B) (hB : ∀ x ∈ B, x ∈ ks) (hn : e ∉ ks) : Told es adj O (T ++ [srt (dfs es bdj ks e).ord]) (dfs es bdj ks e).ks := by
  have he : e ∈ es := (sub e).mp (by rw [eO]; simp)
  have h0 : ∀ x ∈ ks, x ∈ es := fun x hx => by
    obtain ⟨p, hp, xp⟩ := (D.keys x).mp hx
    exact (D.cls p hp x xp).1
  obtain ⟨W, wsub⟩ := dfs_went cb he h0 hn
  have eA : e ∉ A := by
    rw [eO, List.nodup_append] at nd
    exact fun z => nd.2.2 e z e List.mem_cons_self rfl
  have ie : O.idxOf e = A.length := by
    rw [eO, List.idxOf_append, if_neg eA, List.idxOf_cons_self, Nat.zero_add]
  have lt : ∀ z ∈ O, z ∉ ks → z ≠ e → O.idxOf z < O.idxOf e := fun z hz zk ze => by
    rw [eO] at hz
    have zA : z ∈ A := by
      rcases List.mem_append.mp hz with h | h
      · exact h
      · rcases List.mem_cons.mp h with h | h
        · exact absurd h ze
        · exact absurd (hB z h) zk
    rw [ie, eO, List.idxOf_append, if_pos zA]
    exact List.idxOf_lt_length_of_mem zA
  have in_es : ∀ x ∈ (dfs es bdj ks e).ord, x ∈ es := fun x hx => wsub x ((W.keys x).mpr (.inr hx))
  have un : ∀ x ∈ (dfs es bdj ks e).ord, ∃ y ∈ O, y ∉ ks ∧ Mut adj x y ∧ ∀ v, R adj x v → v ∈ O ∧ O.idxOf v ≤ O.idxOf y := fun x hx => by
    obtain ⟨y, hy, m, mx⟩ := last_of ok ((sub x).mpr (in_es x hx))
    exact ⟨y, hy, fun z => W.dis x hx (told_ks D (in_es x hx) m z), m, mx⟩
  have fw : ∀ x ∈ (dfs es bdj ks e).ord, Mut adj e x := fun x hx => by
    have r : R adj x e := R.flip (fun a b h => (fl b a).mpr h) (W.rch x hx)
    obtain ⟨y, hy, yk, m, mx⟩ := un x hx
    have l := (mx e r).2
    by_cases c : y = e
    · rw [c] at m
      exact m.symm
    · have := lt y hy yk c
      omega
  have bw : ∀ z, R bdj e z → R adj e z → z ∈ (dfs es bdj ks e).ord := fun z hz => by
    induction hz with
    | refl => exact fun _ => W.has
    | @step z' z r h ih =>
      intro g
      have z'a : z' ∈ adj z := (fl z z').mpr h
      have i := ih (g.step z'a)
      rcases W.fin z' i z h with k | k
      · have rz : R adj z e := R.flip (fun a b h => (fl b a).mpr h) (r.step h)
        exact absurd (told_ks D he ⟨g, rz⟩ k) hn
      · exact k
  have iff : ∀ x, x ∈ (dfs es bdj ks e).ord ↔ Mut adj e x := fun x => ⟨fw x, fun m => bw x (R.flip (fun a b h => (fl a b).mp h) m.2) m.1⟩
  refine ⟨fun x => ?_, ?_, ?_, ?_, ?_⟩
  · rw [W.keys x, D.keys x]
    constructor
    · rintro (⟨p, hp, h⟩ | h)
      · exact ⟨p, List.mem_append.mpr (.inl hp), h⟩
      · exact ⟨_, List.mem_append.mpr (.inr (List.mem_singleton.mpr rfl)), srt_mem.mpr h⟩
    · rintro ⟨p, hp, h⟩
      rcases List.mem_append.mp hp with hp | hp
      · exact .inl ⟨p, hp, h⟩
      · rw [List.mem_singleton.mp hp] at h
        exact .inr (srt_mem.mp h)
  · intro p hp x hx
    rcases List.mem_append.mp hp with hp | hp
    · exact D.cls p hp x hx
    · have ep := List.mem_singleton.mp hp
      subst ep
      have hx' := srt_mem.mp hx
      refine ⟨in_es x hx', fun y hy => ?_⟩
      rw [srt_mem, iff y]
      have m := fw x hx'
      exact ⟨fun h => m.symm.trans h, fun h => m.trans h⟩
  · rw [List.pairwise_append]
    refine ⟨D.ord, List.pairwise_singleton _ _, fun p hp q hq x hx y hy r => ?_⟩
    rw [List.mem_singleton.mp hq] at hx
    have hx' := srt_mem.mp hx
    obtain ⟨ep, he', tp⟩ := D.top p hp
    obtain ⟨z, hz, zk, m, mx⟩ := un x hx'
    have me : Mut adj y ep := ((D.cls p hp y hy).2 ep (D.cls p hp ep he').1).mp he'
    have l := (mx ep (r.trans me.1)).2
    have := tp z hz zk
    omega
  · intro p hp
    rcases List.mem_append.mp hp with hp | hp
    · obtain ⟨ep, h1, h2⟩ := D.top p hp
      exact ⟨ep, h1, fun z hz zk => h2 z hz fun k => zk ((W.keys z).mpr (.inl k))⟩
    · rw [List.mem_singleton.mp hp]
      refine ⟨e, srt_mem.mpr W.has, fun z hz zk => lt z hz (fun k => zk ((W.keys z).mpr (.inl k))) fun c => ?_⟩
      rw [c] at zk
      exact zk ((W.keys e).mpr (.inr W.has))
  · intro p hp
    rcases List.mem_append.mp hp with hp | hp
    · exact D.shp p hp
    · rw [List.mem_singleton.mp hp]
      refine ⟨(srt_perm _).nodup_iff.mpr W.nd, fun z => ?_, srt_pw _⟩
      have := srt_mem.mpr W.has
      rw [z] at this
      exact absurd this List.not_mem_nil
theorem goBack_ok (cl : ∀ x ∈ es, ∀ y ∈ adj x, y ∈ es) (cb : ∀ x ∈ es, ∀ y ∈ bdj x, y ∈ es) (fl : ∀ x y, y ∈ adj x ↔ x ∈ bdj y) (ok : OkP adj O []) (nd : O.Nodup) (sub : ∀ x, x ∈ O ↔ x ∈ es) :
    ∀ {r B : List Nat} {T : List (List Nat)} {ks : List Nat}, O = r.reverse ++ B → (∀ x ∈ B, x ∈ ks) → Told es adj O T ks → Told es adj O (goBack es bdj r (T, ks)).1 (goBack es bdj r (T, ks)).2 ∧ ∀ x ∈ O, x ∈ (goBack es bdj r (T, ks)).2
  | [], B, T, ks, eO, hB, D => ⟨D, fun x hx => hB x (by rw [eO] at hx; simpa using hx)⟩
  | e :: r, B, T, ks, eO, hB, D => by
    have eO' : O = r.reverse ++ (e :: B) := by rw [eO]; simp
    unfold goBack
    split
    · rename_i hk
      exact goBack_ok cl cb fl ok nd sub eO' (fun x hx => by
        rcases List.mem_cons.mp hx with rfl | hx
        · exact hk
        · exact hB x hx) D
    · rename_i hk
      have he : e ∈ es := (sub e).mp (by rw [eO']; simp)
      have h0 : ∀ x ∈ ks, x ∈ es := fun x hx => by
        obtain ⟨p, hp, xp⟩ := (D.keys x).mp hx
        exact (D.cls p hp x xp).1
      obtain ⟨W, _⟩ := dfs_went cb he h0 hk
      exact goBack_ok cl cb fl ok nd sub eO' (fun x hx => by
        rcases List.mem_cons.mp hx with rfl | hx
        · exact (W.keys x).mpr (.inr W.has)
        · exact (W.keys x).mpr (.inl (hB x hx))) (told_one cl cb fl ok nd sub D eO' hB hk)
end
/-- the pieces -/
def leftOf (es : List Nat) (adj : Nat → List Nat) : List Nat := (goAll es adj es ([], [])).1
def pcs (es : List Nat) (adj bdj : Nat → List Nat) : List (List Nat) := (goBack es bdj (leftOf es adj).reverse ([], [])).1
theorem pcs_ok {es : List Nat} {adj bdj : Nat → List Nat} (cl : ∀ x ∈ es, ∀ y ∈ adj x, y ∈ es) (cb : ∀ x ∈ es, ∀ y ∈ bdj x, y ∈ es) (fl : ∀ x y, y ∈ adj x ↔ x ∈ bdj y) :
    (∀ x ∈ es, ∃ p ∈ pcs es adj bdj, x ∈ p) ∧ (∀ p ∈ pcs es adj bdj, ∀ x ∈ p, x ∈ es ∧ ∀ y ∈ es, (y ∈ p ↔ Mut adj x y)) ∧ ((pcs es adj bdj).Pairwise fun p q => ∀ x ∈ q, ∀ y ∈ p, ¬ R adj x y) ∧ ∀ p ∈ pcs es adj bdj, p.Nodup ∧ p ≠ [] ∧ p.Pairwise (· ≤ ·) := by
  obtain ⟨G, _, all⟩ := goAll_ok (es := es) (adj := adj) (r := es) (O := []) (ks := []) cl (fun x hx => hx) ⟨fun x => Iff.rfl, List.nodup_nil, fun x hx => absurd hx List.not_mem_nil, fun u hu => absurd hu List.not_mem_nil⟩
  have sub : ∀ x, x ∈ leftOf es adj ↔ x ∈ es := fun x => ⟨G.sub x, all x⟩
  have z := goBack_ok (O := leftOf es adj) (T := []) (ks := []) (r := (leftOf es adj).reverse) (B := []) cl cb fl G.ok G.nd sub (by simp) (fun x hx => absurd hx List.not_mem_nil)
    ⟨fun x => by simp, fun p hp => absurd hp List.not_mem_nil, List.Pairwise.nil, fun p hp => absurd hp List.not_mem_nil, fun p hp => absurd hp List.not_mem_nil⟩
  obtain ⟨D, cov⟩ := z
  exact ⟨fun x hx => (D.keys x).mp (cov x ((sub x).mpr hx)), D.cls, D.ord, D.shp⟩
end Gr

namespace Gr
/-! ### the law's own going along: by one entry between after the other -/
inductive Pk (E : Nat → Nat → Prop) (k : Nat) : Nat → Nat → Prop
  | edge {i j : Nat} : E i j → Pk E k i j
  | via {i m j : Nat} : m < k → Pk E k i m → Pk E k m j → Pk E k i j
section
variable {E : Nat → Nat → Prop} {k : Nat}
theorem Pk.mono {l : Nat} (h : k ≤ l) {i j : Nat} (p : Pk E k i j) : Pk E l i j := by
  induction p with
  | edge e => exact .edge e
  | via hm _ _ a b => exact .via (by omega) a b
theorem pk_zero {i j : Nat} : Pk E 0 i j ↔ E i j := by
  constructor
  · intro p
    cases p with
    | edge e => exact e
    | via h _ _ => exact absurd h (Nat.not_lt_zero _)
  · exact .edge
theorem pk_succ {i j : Nat} : Pk E (k + 1) i j ↔ Pk E k i j ∨ (Pk E k i k ∧ Pk E k k j) := by
  constructor
  · intro p
    induction p with
    | edge e => exact .inl (.edge e)
    | @via i m j hm _ _ a b =>
      by_cases c : m = k
      · subst c
        exact .inr ⟨a.elim id (·.1), b.elim id (·.2)⟩
      · have hm' : m < k := by omega
        rcases a with a | ⟨a1, a2⟩
        · rcases b with b | ⟨b1, b2⟩
          · exact .inl (.via hm' a b)
          · exact .inr ⟨.via hm' a b1, b2⟩
        · rcases b with b | ⟨b1, b2⟩
          · exact .inr ⟨a1, .via hm' a2 b⟩
          · exact .inr ⟨a1, b2⟩
  · rintro (p | ⟨p, q⟩)
    · exact p.mono (Nat.le_succ k)
    · exact .via (Nat.lt_succ_self k) (p.mono (Nat.le_succ k)) (q.mono (Nat.le_succ k))
theorem pk_to {i : Nat} : Pk E (k + 1) i k ↔ Pk E k i k := by
  rw [pk_succ]
  exact ⟨fun h => h.elim id (·.1), .inl⟩
theorem pk_of {j : Nat} : Pk E (k + 1) k j ↔ Pk E k k j := by
  rw [pk_succ]
  exact ⟨fun h => h.elim id (·.2), .inl⟩
/-- while entry k is put between: M behind some of the pairs -/
structure Wsh (E : Nat → Nat → Prop) (k : Nat) (M : Nat → Nat → Bool) (done : Nat → Nat → Prop) : Prop where
  lo : ∀ i j, Pk E k i j → M i j = true
  up : ∀ i j, M i j = true → Pk E (k + 1) i j
  dn : ∀ i j, done i j → Pk E (k + 1) i j → M i j = true
def put (M : Nat → Nat → Bool) (i j : Nat) (v : Bool) : Nat → Nat → Bool := fun a b => if a = i ∧ b = j then v else M a b
theorem wsh_put {M : Nat → Nat → Bool} {done : Nat → Nat → Prop} (W : Wsh E k M done) (i j : Nat) : Wsh E k (put M i j (M i j || (M i k && M k j))) (fun a b => done a b ∨ (a = i ∧ b = j)) := by
  have new : (M i j || (M i k && M k j)) = true ↔ Pk E (k + 1) i j := by
    rw [Bool.or_eq_true, Bool.and_eq_true]
    constructor
    · rintro (h | ⟨h1, h2⟩)
      · exact W.up i j h
      · exact pk_succ.mpr (.inr ⟨pk_to.mp (W.up i k h1), pk_of.mp (W.up k j h2)⟩)
    · intro h
      rcases pk_succ.mp h with h | ⟨h1, h2⟩
      · exact .inl (W.lo i j h)
      · exact .inr ⟨W.lo i k h1, W.lo k j h2⟩
  refine ⟨fun a b h => ?_, fun a b h => ?_, fun a b d h => ?_⟩
  · unfold put
    split
    · rename_i c
      rw [c.1, c.2] at h
      exact new.mpr (h.mono (Nat.le_succ k))
    · exact W.lo a b h
  · unfold put at h
    split at h
    · rename_i c
      rw [c.1, c.2]
      exact new.mp h
    · exact W.up a b h
  · unfold put
    split
    · rename_i c
      rw [c.1, c.2] at h
      exact new.mpr h
    · rename_i c
      rcases d with d | d
      · exact W.dn a b d h
      · exact absurd d c
theorem wsh_begin {M : Nat → Nat → Bool} (h : ∀ i j, M i j = true ↔ Pk E k i j) : Wsh E k M (fun _ _ => False) :=
  ⟨fun i j => (h i j).mpr, fun i j z => ((h i j).mp z).mono (Nat.le_succ k), fun _ _ d => d.elim⟩
theorem wsh_end {M : Nat → Nat → Bool} {n : Nat} {done : Nat → Nat → Prop} (hE : ∀ i j, E i j → i < n ∧ j < n) (W : Wsh E k M done) (all : ∀ i j, i < n → j < n → done i j) : ∀ i j, M i j = true ↔ Pk E (k + 1) i j := by
  intro i j
  refine ⟨W.up i j, fun h => W.dn i j ?_ h⟩
  have hi : ∀ {i j : Nat}, Pk E (k + 1) i j → i < n ∧ j < n := fun p => by
    induction p with
    | edge e => exact hE _ _ e
    | via _ _ _ a b => exact ⟨a.1, b.2⟩
  exact all i j (hi h).1 (hi h).2
end
theorem pk_R {adj : Nat → List Nat} {k i j : Nat} (h : Pk (fun i j => j ∈ adj i) k i j) : R adj i j := by
  induction h with
  | edge e => exact R.one e
  | via _ _ _ a b => exact a.trans b
theorem R_pk {adj : Nat → List Nat} {n i j : Nat} (hE : ∀ i j, j ∈ adj i → i < n ∧ j < n) (h : R adj i j) : i = j ∨ Pk (fun i j => j ∈ adj i) n i j := by
  induction h with
  | refl => exact .inl rfl
  | @step y z _ e ih =>
    rcases ih with rfl | p
    · exact .inr (.edge e)
    · exact .inr (.via (hE _ _ e).1 p (.edge e))
/-! ### ends by starts -/
def adjOf (ps : List (Nat × Nat)) (x : Nat) : List Nat := (ps.filter fun p => p.1 = x).map (·.2)
theorem adj_mem {ps : List (Nat × Nat)} {x y : Nat} : y ∈ adjOf ps x ↔ (x, y) ∈ ps := by
  unfold adjOf
  rw [List.mem_map]
  constructor
  · rintro ⟨⟨a, b⟩, h, rfl⟩
    rw [List.mem_filter] at h
    have : a = x := by simpa using h.2
    rw [← this]
    exact h.1
  · intro h
    exact ⟨(x, y), List.mem_filter.mpr ⟨h, by simp⟩, rfl⟩
theorem adj_snoc {ps : List (Nat × Nat)} {p : Nat × Nat} {x : Nat} : adjOf (ps ++ [p]) x = if p.1 = x then adjOf ps x ++ [p.2] else adjOf ps x := by
  unfold adjOf
  rw [List.filter_append, List.map_append]
  by_cases c : p.1 = x
  · simp [c]
  · simp [c]
def swp (ps : List (Nat × Nat)) : List (Nat × Nat) := ps.map fun p => (p.2, p.1)
theorem swp_mem {ps : List (Nat × Nat)} {x y : Nat} : (x, y) ∈ swp ps ↔ (y, x) ∈ ps := by
  unfold swp
  rw [List.mem_map]
  constructor
  · rintro ⟨⟨a, b⟩, h, e⟩
    cases e
    exact h
  · intro h
    exact ⟨(y, x), h, rfl⟩
/-- ties whose both ends are in it -/
def among (es : List Nat) (ts : List (Nat × Nat)) : List (Nat × Nat) := ts.filter fun t => decide (t.1 ∈ es) && decide (t.2 ∈ es)
theorem among_mem {es : List Nat} {ts : List (Nat × Nat)} {x y : Nat} : (x, y) ∈ among es ts ↔ (x, y) ∈ ts ∧ x ∈ es ∧ y ∈ es := by
  unfold among
  rw [List.mem_filter]
  simp
def pieces (es : List Nat) (ts : List (Nat × Nat)) : List (List Nat) := pcs es (adjOf (among es ts)) (adjOf (swp (among es ts)))
theorem pieces_ok (es : List Nat) (ts : List (Nat × Nat)) :
    (∀ x ∈ es, ∃ p ∈ pieces es ts, x ∈ p) ∧ (∀ p ∈ pieces es ts, ∀ x ∈ p, x ∈ es ∧ ∀ y ∈ es, (y ∈ p ↔ Mut (adjOf (among es ts)) x y)) ∧ ((pieces es ts).Pairwise fun p q => ∀ x ∈ q, ∀ y ∈ p, ¬ R (adjOf (among es ts)) x y) ∧ ∀ p ∈ pieces es ts, p.Nodup ∧ p ≠ [] ∧ p.Pairwise (· ≤ ·) := by
  refine pcs_ok (fun x _ y hy => ?_) (fun x _ y hy => ?_) fun x y => ?_
  · exact (among_mem.mp (adj_mem.mp hy)).2.2
  · exact (among_mem.mp (swp_mem.mp (adj_mem.mp hy))).2.1
  · rw [adj_mem, adj_mem, swp_mem]
end Gr

namespace Gs
open PySem PySem.Spec PyProof.Rows L2
/-! ### a caught error, kept behind its suite -/
/-- the error object of the class cls at a, its own dict d -/
def ExK (cls : Value) (d : Option Addr) (a : Addr) : HO :=
  .ext fun h => ∃ (o : Obj) (fs : Array Value), h.get? a = some o ∧ Zc cls d o ∧ o.data = .fields fs
section
variable {X : Cx} {pins : List (Addr × Obj)} {σ : L2.St} {H : Hp} {s : Shared}
theorem track {a : Addr} {o : Obj} {cls : Value} {d : Option Addr} {fs : Array Value}
    (I : Inv X ((a, o) :: pins) σ H s) (n0 : X.s_0.heap.get? a = none)
    (np : ∀ p ∈ X.pn ++ pins, p.1 ≠ a) (z : Zc cls d o) (hd : o.data = .fields fs) :
    Inv X pins σ (upd H a (ExK cls d a)) s := by
  have P := I.pin (a, o) (List.mem_append.mpr (.inr List.mem_cons_self))
  have g : s.heap.get? a = some o := P.1
  have hn : H a = none := P.2.1
  have b := I.base
  have nt : ∀ {c u}, H c = some u → c ≠ a := fun e => ne_of_none e hn
  have n1 : ∀ {c u}, X.s_0.heap.get? c = some u → c ≠ a := fun e q => by
    rw [q, n0] at e
    cases e
  refine ⟨I.ok, I.os, I.bare, ⟨b.keep, b.slot, ?_, b.there, ?_, ?_, ?_⟩, I.loc, I.cell, ?_, ?_, ?_, ?_, I.len⟩
  · intro c u e n x
    rw [upd_ne (n1 e)]
    exact b.free c u e n x
  · intro c xs e
    have q := b.tups c xs e
    rw [upd_ne (nt q)]
    exact q
  · intro c u v e
    have q := b.frzs c u v e
    rw [upd_ne (nt q)]
    exact q
  · intro c ps e
    obtain ⟨m, q⟩ := b.tbls c ps e
    refine ⟨m, ?_⟩
    rw [upd_ne (nt q)]
    exact q
  · rw [upd_ne (fun e => P.2.2.1 e.symm)]
    exact I.free
  · intro x c e
    have ne : c ≠ a := fun q => by
      obtain ⟨v, u, e1, e2⟩ := I.cell x c e
      rw [q, g] at e1
      cases e1
      exact P.2.2.2.2 _ e2
    rw [upd_ne ne]
    exact I.freeC x c e
  · intro p hp
    have hm : p ∈ X.pn ++ (a, o) :: pins := by
      rcases List.mem_append.mp hp with h | h
      · exact List.mem_append.mpr (.inl h)
      · exact List.mem_append.mpr (.inr (List.mem_cons_of_mem _ h))
    obtain ⟨e1, e2, e3⟩ := I.pin p hm
    refine ⟨e1, ?_, e3⟩
    rw [upd_ne (np p hp)]
    exact e2
  · refine HOk.laidN I.hok (fun _ _ e => e) hn ?_
    exact ⟨⟨o, fs, g, z, hd⟩, ⟨o, g⟩, fun h1 h2 ⟨o1, f1, e1, r⟩ k => ⟨o1, f1, k o1 e1, r⟩⟩
end
/-- what 'except x as n: y = n' wishes of an error of the body; slots i of n, j of y -/
def wKeep (K : PySem.W.Frag) (c : Value) (i j : Nat) (W0 : WX) (D : Ends) : WX := fun cls d σ H =>
  ∃ b, PySem.W.exmOne K cls c = some b ∧
    (b = true → ∀ a, H a = none → D.nx (((σ.set i (some (.ref a))).set j (some (.ref a))).set i none) (upd H a (ExK cls d a))) ∧
    (b = false → W0 cls d σ H)
section
variable {X : Cx} {x n y : Str} {c : Value} {i j : Nat} {body : List Stmt} {p1 p2 p3 np pos pos' : Pos} {tb : WX → TS} {W0 : WX}
theorem ps_try_kept (hs : X.stack = X.env :: X.outer) (hf : X.env.frame = some X.env.locals) (hex : X.ex = [])
    (hN : X.N.Nodup) (hi : X.N[i]? = some n) (hj : X.N[j]? = some y)
    (hln : X.env.kindOf n = some .local) (hly : X.env.kindOf y = some .local)
    (hdn : (n == ("__debug__" : Str)) = false) (hcn : (n == ("__classdict__" : Str)) = false)
    (hlt : i < X.N.length) (hij : i ≠ j)
    (hc : Names X x c) (tk : Takes X W0)
    (hsw : swapsWith (.Name n p2) (some (.Name y p1)) p3.line X.env = pure false)
    (hb : ∀ (W : WX) (pn : List (Addr × Obj)) (xe : Value → Shared → Prop), Takes (X.tr pn xe) W →
      PassesOwn (model X.prog X.w) X.A X.env xe → PSs (X.tr pn xe) body (tb W)) :
    PS X (.Try body [.ExceptHandler (some (.Name x np)) (some n) [.Assign [.Name y p1] (.Name n p2) p3] pos'] [] [] pos)
      (fun D σ H => tb (wKeep X.K c i j W0 D) D σ H) := by
  constructor
  intro pins s σ H D I h
  have ok := I.ok
  have hfr : X.A.frames = some (X.env :: X.outer) := by
    rw [ok.frames, hs]
  refine wpAny_Try_except ?_
  let hh : List ExceptHandler := [.ExceptHandler (some (.Name x np)) (some n) [.Assign [.Name y p1] (.Name n p2) p3] pos']
  let xe' : Value → Shared → Prop := fun e s₁ =>
    wpAny (model X.prog X.w) X.A (noteFrame e X.env) (fun _ s₂ =>
      wpAny (model X.prog X.w) X.A (setFlight e none) (fun _ s₃ =>
        wpAny (model X.prog X.w) X.A (handleBy e X.env hh) (SP X pins D) X.xe s₃) X.xe s₂) X.xe s₁
  have tk' : Takes (X.tr (X.pn ++ pins) xe') (wKeep X.K c i j W0 D) := by
    intro u s' xx
    obtain ⟨a, B, sI, pins', σ', H', cls, d, eu, J', nb, up, sky, na, os, ag, b, hb1, hyes, hno⟩ := xx
    subst eu
    have J : Inv X pins σ' H' sI := J'.ofTry ok
    have sky' : Sky B (X.env :: X.outer) a (Zc cls d) X.env.locals s'.heap := by
      rw [← hs]
      exact sky
    show wpAny (model X.prog X.w) X.A (noteFrame (.ref a) X.env) _ _ _
    refine Sky.land Zc.steady hfr hf sky' fun h3 fl3 up3 => ?_
    have J3 : Inv X pins σ' H' { s' with heap := h3 } := Inv.landed J nb fl3.1 (up.trans up3) os ag
    obtain ⟨o3, v3, e3, z3, d3⟩ := fl3.there
    have nfr : a ∉ frs (X.env :: X.outer) := by
      intro hm
      obtain ⟨_, o', e', q⟩ := fl3.2.2.1.mem hm
      rw [e3] at e'
      cases e'
      exact q _ d3
    have nL : a ≠ X.env.locals := fun z => nfr (by
      refine List.mem_filterMap.mpr ⟨X.env, List.mem_cons_self, ?_⟩
      rw [hf, z])
    have nF : a ∉ X.fs := fun hm => by
      obtain ⟨e, he, q⟩ := List.mem_filterMap.mp hm
      exact nfr (List.mem_filterMap.mpr ⟨e, List.mem_cons_of_mem _ he, q⟩)
    have new : sI.heap.get? a = none := by
      cases q : sI.heap.get? a with
      | none => rfl
      | some o =>
        have q2 := nb a o q (by rw [hs]; exact nfr)
        rw [fl3.2.1] at q2
        cases q2
    have n0 : X.s_0.heap.get? a = none := by
      cases q : X.s_0.heap.get? a with
      | none => rfl
      | some o =>
        obtain ⟨o', q2⟩ := J.base.there a o q (by rw [hex]; exact List.not_mem_nil)
        rw [new] at q2
        cases q2
    have npn : ∀ p ∈ X.pn ++ pins, p.1 ≠ a := fun p hp q => by
      have q2 := (J.pin p hp).1
      rw [q, new] at q2
      cases q2
    have S3 := J3.suite e3 d3 na nL nF
    refine wpAny_handleBy_cons (codeAny_handlers_test ?_) (by intro q; cases q)
    have LT : PySem.W.Looks (model X.prog X.w) h3 (typeOf (.ref a)) cls := by
      intro A Q E s k q
      refine wpAny_typeOf_ref (k _ _ e3) ?_
      rw [z3.1]
      exact q
    have LM := PySem.W.exm_one (M := model X.prog X.w) J3.kIn LT hb1
    have look : ∀ {Q : Value → Shared → Prop} {E : Value → Shared → Prop}, Q c { s' with heap := h3 } →
        wpAny (model X.prog X.w) (X.A.mark (some (.ref a))) (eval (.Name x np) X.env) Q E { s' with heap := h3 } := by
      intro Q E q
      obtain ⟨hg, hdbg, hm | ⟨hm, hv, hnn⟩⟩ := hc
      · exact ld_glob (X := X.suite a ((a, o3) :: (X.pn ++ pins))) S3 hg hm q hdbg
      · exact ld_blt (X := X.suite a ((a, o3) :: (X.pn ++ pins))) S3 hg hm hv q hnn hdbg
    refine look (LM.here ?_)
    cases b with
    | true =>
      refine codeAny_handlers_suite_as ?_
      refine HandSPX.lands_againZ fl3 fun h4 fl4 up4 => ?_
      have J4 : Inv X pins σ' H' { s' with heap := h4 } := Inv.landed J nb fl4.1 ((up.trans up3).trans up4) os ag
      obtain ⟨o4, v4, e4, z4, d4⟩ := fl4.there
      have S4 := J4.suite e4 d4 na nL nF
      refine store_ok (X := X.suite a ((a, o4) :: (X.pn ++ pins))) (v := .ref a) S4 hN hi (.inl hln) rfl (fun s5 S5 => ?_) (.inr hln)
      have st : PSs (X.suite a ((a, o4) :: (X.pn ++ pins))) [.Assign [.Name y p1] (.Name n p2) p3] _ :=
        pss_one (ps_set (i := j) hN hj (.inl hly) (pe_var hi (.inl hln) hdn hcn) hsw (.inr hly))
      have len : i < σ'.length := by
        rw [J.len]
        exact hlt
      have sl : (σ'.set i (some (V.ref a)))[i]? = some (some (V.ref a)) := by
        rw [List.getElem?_set_self len]
      refine wpAny_mono (st.run [] s5 _ H' { nx := fun σ6 H6 => σ6 = (σ'.set i (some (.ref a))).set j (some (.ref a)) ∧ H6 = H', rt := fun _ _ => False } S5 ⟨.ref a, sl, rfl, rfl⟩) (fun f s6 hsp => ?_) (fun _ _ z => False.elim z)
      cases f with
      | next =>
        obtain ⟨σ6, H6, S6, e6, e7⟩ := hsp
        subst e6
        subst e7
        have T6 : Inv X ((a, o4) :: pins) _ H6 s6 := ⟨ok, S6.os, S6.bare, S6.base, S6.loc, S6.cell, S6.free, S6.freeC, (fun p hp => S6.pin p (by
          show p ∈ ((a, o4) :: (X.pn ++ pins)) ++ []
          rw [List.append_nil]
          rcases List.mem_append.mp hp with h | h
          · exact List.mem_cons_of_mem _ (List.mem_append.mpr (.inl h))
          · rcases List.mem_cons.mp h with h | h
            · rw [h]
              exact List.mem_cons_self
            · exact List.mem_cons_of_mem _ (List.mem_append.mpr (.inr h)))), S6.hok, S6.len⟩
        refine gone_ok T6 hN hi hln fun s7 J7 => ?_
        exact ⟨_, _, track J7 n0 npn z4 d4, hyes rfl a na⟩
      | brk =>
        obtain ⟨_, _, _, q⟩ := hsp
        exact False.elim q
      | cont =>
        obtain ⟨_, _, _, q⟩ := hsp
        exact False.elim q
      | ret u =>
        obtain ⟨_, _, _, _, _, q⟩ := hsp
        exact False.elim q
    | false =>
      show wpAny _ X.A (handleBy (.ref a) X.env []) _ _ _
      refine wpAny_handleBy_nil ?_
      have T3 := fl3.2.2.2
      obtain ⟨oe, fv, T, oT, ts', he, hz, hd, h1, hr⟩ := T3
      unfold PySem.passOn
      refine wpAny_bind (wpAny_field he hd h1 ?_)
      rw [if_neg (by simp)]
      have fin : wpAny (model X.prog X.w) X.A (setFlight (.ref a) X.env.frame)
          (fun _ s4 => wpAny (model X.prog X.w) X.A (throw (.ref a) : Sem Flow) (SP X pins D) X.xe s4) X.xe { s' with heap := h3 } := by
        rw [hf]
        refine HandSPX.setFlight_upZ fl3 fun h4 hh4 up4 => wpAny_throw (tk _ _ ?_)
        refine ⟨a, B, sI, pins, σ', H', cls, d, rfl, J, nb, (up.trans up3).trans up4, .inr (.inr ?_), na, os, ag, hno rfl⟩
        rw [hs]
        exact hh4
      first
        | exact wpAny_bind (wpAny_pure (wpAny_bind fin))
        | exact wpAny_bind fin
  refine wpAny_mono ((hb _ (X.pn ++ pins) xe' tk' PassesOwn.looking).run [] s σ H D (I.toTry _) h) (fun f s1 hsp => ?_) (fun _ _ he => he)
  cases f with
  | next =>
    obtain ⟨σ', H', J', q⟩ := hsp
    exact wpAny_execs_nil ⟨σ', H', J'.ofTry ok, q⟩
  | brk =>
    obtain ⟨σ', H', J', q⟩ := hsp
    exact ⟨_, _, J'.ofTry ok, q⟩
  | cont =>
    obtain ⟨σ', H', J', q⟩ := hsp
    exact ⟨_, _, J'.ofTry ok, q⟩
  | ret u =>
    obtain ⟨v, σ', H', J', r, q⟩ := hsp
    exact ⟨_, _, _, J'.ofTry ok, r, q⟩
/-- isinstance(e, c) of a kept error -/
theorem call_isK {D : Addr} (C : ExcC X.K D) : CallR X (.builtin "isinstance") (fun xs H Q => ∃ (a : Addr) (t : V) (tv : Value) (b : Bool),
    xs = [.ref a, t] ∧ H a = some (ExK (.ref D) none a) ∧ (∀ u, RelV t u → u = tv) ∧ PySem.W.kitOne X.K (.ref D) tv = some b ∧ Q (.bl b) H) := by
  intro pins s σ H xs us Q I r h
  obtain ⟨a, t, tv, b, rfl, ha, ht, e, q⟩ := h
  cases r with
  | cons rx rr =>
    cases rr with
    | cons rt rr =>
      cases rr
      cases rx
      have ec := ht _ rt
      subst ec
      obtain ⟨⟨o, fs, g, z, hv⟩, _, _⟩ := I.hok a _ ha
      have W : PySem.W.InstAt s.heap a o D none := by
        obtain ⟨oc, od, oda, osl⟩ := o
        obtain ⟨h1, h2⟩ := z
        dsimp only at h1 h2 hv
        subst h1 h2 hv
        exact ⟨g, rfl, rfl, trivial⟩
      have kit := PySem.W.handS_kitx_exc (x := a) (ox := o) C.hg C.hk C.hs C.hd C.ha C.hn C.ht C.hm
      exact PySem.W.kia_one kit I.kIn W e (fun z => nomatch z) fun tk => ⟨.bl b, H, I.kept (t' := tk) fun _ _ z => z, rfl, q⟩
/-- repr of data, where no other repr is under way -/
theorem call_reprD (hg : X.A.guards = some []) (hu : X.A.units + 64 < cLine) : CallR X (.builtin "repr") (fun xs H Q => ∃ (a : Addr) (d : PyData),
    xs = [.ref a] ∧ Dp X.K H (.ref a) d ∧ d.showable = true ∧ d.hasDict = false ∧ d.depth ≤ 60 ∧ d.shown.length ≤ sizeLine ∧ Q (.str d.shown) H) := by
  intro pins s σ H xs us Q I r h
  obtain ⟨a, d, rfl, hd, h1, h2, h3, h4, q⟩ := h
  obtain ⟨u, rfl, ru⟩ := vals1 r
  cases ru
  obtain ⟨as, rd⟩ := Dp.reads I d _ _ hd rfl
  exact repr_of_reads' rd h1 (PyData.noDict_hsm h2) hg (by omega) (fun _ _ e => e) (fun h' u tk k => ⟨.str d.shown, H, I.kept k, ⟨u, rfl⟩, q⟩) h4
/-- // by any number but nought, below 2 ^ 9000 in size -/
theorem op_fdivZ : OpR X (binaryOp .FloorDiv) (rI (fun _ k => k ≠ 0 ∧ k.natAbs.log2 < 9000) fun m k => .int (m.fdiv k)) :=
  opI fun _ _ _ _ _ _ _ hc q => floordiv_int hc.1 q (.inl (PyProof.noPylong_of_log2 hc.2))
end
end Gs

namespace Gs
open PySem PySem.Spec PyProof.Rows L2
/-! a statement whose ways join: what holds behind it is told once, and the rest is read once -/
def tJoin (t u : TS) : TS := fun D σ H => ∃ I : L2.St → Hp → Prop, t { D with nx := I } σ H ∧ ∀ σ' H', I σ' H' → u D σ' H'
theorem pss_join {X : Cx} {st : Stmt} {rest : List Stmt} {t u : TS} (h1 : PS X st t) (h2 : PSs X rest u) : PSs X (st :: rest) (tJoin t u) := by
  refine ⟨fun pins s σ H D Iv h => ?_⟩
  obtain ⟨I, ht, hu⟩ := h
  refine wpAny_execs_cons (thn (h1.run pins s σ H { D with nx := I } Iv ht) fun f s1 q => ?_)
  cases f with
  | next =>
    obtain ⟨σ', H', I', q⟩ := q
    exact h2.run pins s1 σ' H' D I' (hu σ' H' q)
  | ret v => exact q
  | brk => exact q
  | cont => exact q
end Gs

namespace Gp
open PySem PySem.Spec PyProof.Rows L2
/-! ### heaps: what stays -/
theorem same_new {H : Hp} {p : Addr} {o : HO} (h : H p = none) : Same H (upd H p o) := by
  intro b x e
  rw [upd_ne (ne_of_none e h)]
  exact e
theorem same_tup {K : PySem.W.Frag} {H H' : Hp} {a : Addr} {xs : List V} (e : Same H H') (h : SqT K H a xs) : SqT K H' a xs := by
  rcases h with (h | ⟨o, h⟩) | h
  · exact .inl (.inl (e _ _ h))
  · exact .inl (.inr ⟨o, e _ _ h⟩)
  · exact .inr h
theorem free_same {H H' : Hp} (s : Same H H') {r : Addr} (h : H' r = none) : H r = none := by
  cases e : H r with
  | none => rfl
  | some o =>
    have z := s r o e
    rw [h] at z
    cases z
theorem keep_new {H0 H : Hp} {L : Addr} {o : HO} (hL : H0 L = none) (s : Same H0 H) : Same H0 (upd H L o) := fun b u e => by
  rw [upd_ne (ne_of_none e hL)]
  exact s b u e
theorem iteP {b : Bool} {A B : Prop} (e : b = true) (h : A) : if b = true then A else B := by
  rw [if_pos e]
  exact h
theorem iteN {b : Bool} {A B : Prop} (e : b = false) (h : B) : if b = true then A else B := by
  rw [if_neg (by rw [e]; decide)]
  exact h
theorem log_of {k : Int} {n : Nat} (h0 : 0 < n) (hn : n ≤ 9000) (h : k.natAbs < 2 ^ n) : k.natAbs.log2 < 9000 :=
  Nat.lt_of_lt_of_le (PySem.Flt.log2_lt_of h0 h) hn
/-- all stays but what lies at p -/
def Keep (p : Addr) (H H' : Hp) : Prop := ∀ b o, b ≠ p → H b = some o → H' b = some o
theorem Keep.refl {p : Addr} {H : Hp} : Keep p H H := fun _ _ _ e => e
theorem Keep.trans {p : Addr} {H H1 H2 : Hp} (a : Keep p H H1) (b : Keep p H1 H2) : Keep p H H2 := fun c o n h => b c o n (a c o n h)
theorem keep_upd {p : Addr} {H : Hp} {o : HO} : Keep p H (upd H p o) := fun b u n e => by
  rw [upd_ne n]
  exact e
theorem keep_same {p : Addr} {H H' : Hp} (s : Same H H') : Keep p H H' := fun b u _ e => s b u e
theorem same_of_keep {p : Addr} {H H' : Hp} (h : H p = none) (k : Keep p H H') : Same H H' := fun b o e => k b o (ne_of_none e h) e
theorem free_keep {p : Addr} {H H' : Hp} (k : Keep p H H') {r : Addr} (hr : r ≠ p) (h : H' r = none) : H r = none := by
  cases e : H r with
  | none => rfl
  | some o =>
    have z := k r o hr e
    rw [h] at z
    cases z
theorem keep_at {p D : Addr} {H H' : Hp} {o : HO} (k : Keep p H H') (h : H D = none) : Keep p H (upd H' D o) := fun b u n e => by
  rw [upd_ne (ne_of_none e h)]
  exact k b u n e
structure Cl (P : Program) (w : World) (K : PySem.W.Frag) (mg : Str → Option Value) (base : Heap) (CX : CXT) (k : Nat) (x : Str) (ps : List Str) (sp : Sp) (f : Addr) (fd : FuncData) : Prop where
  g : mg x = some (.ref f)
  ok : FnOk P w K mg base CX k f fd ps sp
  kp : PySem.W.keepIn K (.ref f) = true
  bd : Binds K fd ps []
theorem ix_tupK {X : Cx} {K : PySem.W.Frag} (hk : X.K = K) : IxR X (rIxT K) := by
  subst hk
  exact ix_tup
theorem ix_listK {X : Cx} {K : PySem.W.Frag} (hk : X.K = K) : IxR X (rIxL K) := by
  subst hk
  exact ix_list
theorem pi_listK {X : Cx} {K : PySem.W.Frag} {tg e : Expr} {t : TE} (hk : X.K = K) (h : PE X e t) : PI X tg e (iList K t) := by
  subst hk
  exact pi_list h
theorem pi_tupK {X : Cx} {K : PySem.W.Frag} {tg e : Expr} {t : TE} (hk : X.K = K) (h : PE X e t) : PI X tg e (iTup K t) := by
  subst hk
  exact pi_tup h
theorem call_tuple_ofK {X : Cx} {K : PySem.W.Frag} (hk : X.K = K) : CallR X (.type "tuple") (fun xs H Q => ∃ p ys, xs = [.ref p] ∧ ((SqL K H p ys ∧ ∀ l, H l = none → Q (.ref l) (upd H l (.tup ys))) ∨ (SqT K H p ys ∧ Q (.ref p) H))) := by
  subst hk
  exact call_tuple_of
theorem u1 {k : Nat} {A : Around} (r : Room k A) : A.units + 1 < cLine := by have := r.units; omega
theorem u0 {k : Nat} {A : Around} (r : Room k A) : A.units < cLine := by have := r.units; omega
theorem u65 {k : Nat} {A : Around} (r : Room k A) : A.units + 65 < cLine := by
  have := r.un
  omega
/-! ### walks of any kind -/
theorem walkC {J : It} {n : Nat} {B : V → Hp → (Hp → Prop) → Prop} {Qd : Hp → Prop} {H0 : Hp} (Pv : Nat → Hp → Prop) (h0 : Pv 0 H0) (hgo : ∀ i H, i < n → Pv i H → J.go i H) (hst : ∀ H, Pv n H → J.stop n H)
    (hs : ∀ i x H H', i < n → Pv i H → J.yld i H x H' → B x H' (Pv (i + 1))) (hd : ∀ H, Pv n H → Qd H) :
    ∃ W : Nat → Nat → Hp → Prop, (∃ m, W 0 m H0) ∧ ∀ i m H, W i m H → (J.stop i H ∧ Qd H) ∨ (J.go i H ∧ ∃ Nx : Hp → Prop, (∀ H', Nx H' → ∃ m', m' < m ∧ W (i + 1) m' H') ∧ ∀ x H', J.yld i H x H' → B x H' Nx) := by
  refine ⟨fun i m H => m + i = n ∧ Pv i H, ⟨n, Nat.add_zero n, h0⟩, fun i m H hW => ?_⟩
  obtain ⟨e, p⟩ := hW
  by_cases c : i < n
  · exact .inr ⟨hgo i H c p, Pv (i + 1), fun H' p' => ⟨m - 1, by omega, by omega, p'⟩, fun x H' y => hs i x H H' c p y⟩
  · have ei : i = n := by omega
    subst ei
    exact .inl ⟨hst H p, hd H p⟩
theorem walkF {J : It} {n : Nat} {B : V → L2.St → Hp → (L2.St → Hp → Prop) → Prop} {Qd : L2.St → Hp → Prop} {σ0 : L2.St} {H0 : Hp} (Pv : Nat → L2.St → Hp → Prop) (h0 : Pv 0 σ0 H0) (hgo : ∀ i σ H, i < n → Pv i σ H → J.go i H) (hst : ∀ σ H, Pv n σ H → J.stop n H)
    (hs : ∀ i x σ H H', i < n → Pv i σ H → J.yld i H x H' → B x σ H' (Pv (i + 1))) (hd : ∀ σ H, Pv n σ H → Qd σ H) :
    ∃ W : Nat → Nat → L2.St → Hp → Prop, (∃ m, W 0 m σ0 H0) ∧ ∀ i m σ H, W i m σ H → (J.stop i H ∧ Qd σ H) ∨ (J.go i H ∧ ∃ Nx : L2.St → Hp → Prop, (∀ σ' H', Nx σ' H' → ∃ m', m' < m ∧ W (i + 1) m' σ' H') ∧ ∀ x H', J.yld i H x H' → B x σ H' Nx) := by
  refine ⟨fun i m σ H => m + i = n ∧ Pv i σ H, ⟨n, Nat.add_zero n, h0⟩, fun i m σ H hW => ?_⟩
  obtain ⟨e, p⟩ := hW
  by_cases c : i < n
  · exact .inr ⟨hgo i σ H c p, Pv (i + 1), fun σ' H' p' => ⟨m - 1, by omega, by omega, p'⟩, fun x H' y => hs i x σ H H' c p y⟩
  · have ei : i = n := by omega
    subst ei
    exact .inl ⟨hst σ H p, hd σ H p⟩
end Gp

namespace Gp
open PySem PySem.Spec PyProof.Rows L2
/-! ### set(ints), k in it -/
def SetI (P : Program) (w : World) (a : Addr) (S : Int → Bool) : HO := .ext fun h => ∃ n, h.SetOf (PySem.intKind P w) a S n
theorem setI_new {P : Program} {w : World} {H : Hp} {h : Heap} {a : Addr} {S : Int → Bool} (R : ∃ n, h.SetOf (PySem.intKind P w) a S n) : ObjOk P w H h a (SetI P w a S) := by
  have ⟨n, o, es, ep, t, ho, r⟩ := R
  refine ⟨R, ⟨o, ho⟩, fun h1 h2 p k => ?_⟩
  obtain ⟨n, o, es, ep, t, ho, r⟩ := p
  exact ⟨n, o, es, ep, t, k o ho, r⟩
section
variable {X : Cx}
theorem ints_of {us : List Value} : ∀ {ns : List Int}, Vals (ns.map V.int) us → IntsAre us ns := fun h => by
  rename_i ns
  induction ns generalizing us with
  | nil => cases h; exact .nil
  | cons n ns ih =>
    cases h with
    | cons a r =>
      obtain ⟨t, rfl⟩ := a
      exact .cons _ _ (ih r)
theorem cr_setI {P : Program} {w : World} (hc : X.calm = true) (hp : X.prog = P) (hw : X.w = w) : CallR X (.type "set") (fun xs H Q => ∃ (l : Addr) (ns : List Int), xs = [.ref l] ∧ SqL X.K H l (ns.map V.int) ∧ ns.length ≤ 1000 ∧
    ∀ p, H p = none → Q (.ref p) (upd H p (SetI P w p fun k => decide (k ∈ ns)))) := by
  subst hp hw
  intro pins s σ H xs us Q I r h
  obtain ⟨l, ns, rfl, hl, hn, q⟩ := h
  rw [Vals.ref1 r]
  obtain ⟨its, rv, pl, hz⟩ := I.list hl
  have hn0 : H s.heap.objs.size = none := I.hok.fresh (Nat.le_refl _)
  have len : its.length = ns.length := by
    have := rv.length
    rw [List.length_map] at this
    exact this.symm
  refine PySem.call_set_list (ns := ns) (I.ok.hd hc) pl.isList (by simpa using ints_of rv) (by rw [List.size_toArray, len]; unfold scanBound; omega) fun h' tk R k => ?_
  have e : (fun k' => (firstMet (fun i => ns.getD i 0) its.toArray.size).any (· == k')) = fun k : Int => decide (k ∈ ns) := by
    funext k'
    rw [firstMet_any, List.size_toArray, len]
    have e2 : (List.range ns.length).map (fun i => ns.getD i 0) = ns := by
      apply List.ext_getElem
      · simp
      · intro i h1 h2
        simp at h1
        simp [List.getD_eq_getElem?_getD, h1]
    rw [e2, Bool.eq_iff_iff, List.any_eq_true, decide_eq_true_iff]
    constructor
    · rintro ⟨x, hx, e⟩
      rw [← eq_of_beq e]
      exact hx
    · exact fun h => ⟨k', h, by simp⟩
  rw [e] at R
  refine ⟨.ref s.heap.objs.size, _, I.laid (t' := tk) (o := SetI X.prog X.w s.heap.objs.size fun k => decide (k ∈ ns)) (fun b o e => ?_) (Nat.le_refl _) (setI_new ⟨_, R⟩), rfl, q _ hn0⟩
  exact k b o (Heap.lt_size e) e
theorem or_inI {P : Program} {w : World} (hp : X.prog = P) (hw : X.w = w) : OpR X (compareOp .In) (fun x y H Q => ∃ k a S, x = V.int k ∧ y = V.ref a ∧ H a = some (SetI P w a S) ∧ Q (.bl (S k)) H) := by
  subst hp hw
  intro pins s σ H x y v u Q I rx ry h
  obtain ⟨k, a, S, rfl, rfl, ha, q⟩ := h
  obtain ⟨tk, rfl⟩ := rx
  cases ry
  obtain ⟨n, R⟩ := (I.hok a _ ha).1
  exact wpAny_inSet_of (intKind_is _ _ _ _) rfl R ⟨.bl (S k), H, I.tok _, rfl, q⟩
/-! ### y = {k: v for x in xs} -/
theorem sw_dict {kx vx : Expr} {cs : List Comprehension} {sc : Scope} {p1 p2 : Pos} {y : Str} {l : Nat} {ev : Env} (h1 : ev.scope.kind = .function) (h2 : ev.scope.names.lookup y = some .local) (h3 : (p2.line == p1.line) = true)
    (h4 : (sc.names.any fun (n, k) => n == y && (k == .local || k == .cell)) = false) : swapsWith (.DictComp kx vx cs sc p1) (some (.Name y p2)) l ev = pure true := by
  have e1 : ev.kindOf y = some .local := h2
  have e2 : ev.blockKind = .function := by
    unfold Env.blockKind
    rw [h1]
    rfl
  unfold swapsWith
  simp only [e2, e1, h4, Expr.pos, h3]
  rfl
theorem ps_setDc {i : Nat} {y : Str} {p2 : Pos} {kx vx tg it : Expr} {fs : List Expr} {sc : Scope} {own : List (Str × Nat)} {p1 p3 : Pos} {wi : TI} {g : TG} {tt : TT} {tk tv : TE} (hc : X.calm = true) (nd : X.N.Nodup) (hy : X.N[i]? = some y) (hl : X.env.scope.names.lookup y = some .local)
    (sw : swapsWith (.DictComp kx vx [⟨tg, it, fs, 0⟩] sc p1) (some (.Name y p2)) p3.line X.env = pure true) (hi : PI X tg it wi) (ok : BlkOk X.N X.env.scope sc own)
    (hg : ∀ (a : Shared) (b : Hp) (c : Addr) (d : List (Str × Addr)) (e : List Addr), PG (X.blk a b sc (compEnvC sc d c X.env) e) tg g) (ht : ∀ (a : Shared) (b : Hp) (c : Addr) (d : List (Str × Addr)) (e : List Addr), PTs (X.blk a b sc (compEnvC sc d c X.env) e) fs tt)
    (hk : ∀ (a : Shared) (b : Hp) (c : Addr) (d : List (Str × Addr)) (e : List Addr), PE (X.blk a b sc (compEnvC sc d c X.env) e) kx tk)
    (hv : ∀ (a : Shared) (b : Hp) (c : Addr) (d : List (Str × Addr)) (e : List Addr), PE (X.blk a b sc (compEnvC sc d c X.env) e) vx tv) (hs : ∀ x, foldedSetIterable it X.env x = pure x := by intro _; rfl) :
    PS X (.Assign [.Name y p2] (.DictComp kx vx [⟨tg, it, fs, 0⟩] sc p1) p3) (tAsg (tDc wi g tt tk tv (own.map (·.2))) (gName i)) := by
  constructor
  intro pins s σ H D I h
  rw [exec_Assign_Name_used _ _ _ _ sw]
  refine wpAny_bind (wpAny_standAt (wpAny_bind ?_))
  have h0 : tDc wi g tt tk tv (own.map (·.2)) σ H (fun x H1 => gName i x σ H1 D.nx) := h
  refine wpAny_bind (thn (dc_core (Qf := fun _ s' => SP X pins D .next s') hc nd I hi ok hg ht hk hv hs h0 fun L C s' m H' I' q hn f => ?_) fun _ s' hq => wpAny_pure (wpAny_pure hq))
  refine wpAny_assign_Name (store_ok2 (v := V.ref L) I' nd hy (.inl hl) rfl (fun s2 I2 ⟨b, sb, hb⟩ => ?_) (.inr hl))
  obtain ⟨f0, f1, f2, f3, f4, f5⟩ := f
  have ne : C ≠ b := by
    rcases hb with z | z
    · rw [z]
      exact f1
    · exact fun e => f4 y b z e.symm
  exact ⟨m, hn.sameBut sb ne, fun h3 sb3 => ⟨_, H', I2.turned (t' := s2.toks) (fun c o hc e => (sb3.2 c hc).trans e) f0 f1 f3 f4 f5, q⟩⟩
end
end Gp

namespace W35
open PySem
def topS (i : Nat) : Stmt := PySem.Challenge.pw_glassladder_k35_whole_never_a_why_and_a.main.body.getD i (.Pass ⟨0, 0, 0, 0⟩)
abbrev sPool : Stmt := topS 30
abbrev sTake : Stmt := topS 31
abbrev sTies : Stmt := topS 32
abbrev sLeads : Stmt := topS 33
abbrev sAmong : Stmt := topS 9
abbrev sEnds : Stmt := topS 15
abbrev sAllFrom : Stmt := topS 16
abbrev sPieces : Stmt := topS 17
abbrev sWhole : Stmt := topS 1
abbrev sBelow : Stmt := topS 2
abbrev sRising : Stmt := topS 4
abbrev sTupOf : Stmt := topS 6
abbrev sLotWhy : Stmt := topS 10
abbrev sPart : Stmt := topS 11
abbrev sParted : Stmt := topS 12
abbrev sWhyOf : Stmt := topS 13
abbrev sWhy : Stmt := topS 14
abbrev sNums : Stmt := topS 18
abbrev sCome : Stmt := topS 19
abbrev sBack : Stmt := topS 20
abbrev sRowTo : Stmt := topS 21
abbrev sShort : Stmt := topS 22
abbrev sLapAll : Stmt := topS 23
abbrev sFirst : Stmt := topS 24
abbrev sLack : Stmt := topS 25
abbrev sInner : Stmt := topS 26
abbrev sTold : Stmt := topS 27
abbrev sSought : Stmt := topS 28
abbrev sSo : Stmt := topS 36
abbrev sDrawn : Stmt := topS 37
abbrev sRound : Stmt := topS 38
abbrev sLaw : Stmt := topS 39
end W35

namespace W35
open PySem PySem.Spec PyProof.Rows L2 Gs Gp Gr
/-! ### entries and ties in the heap -/
def vI (x : Nat) : V := .int x
def ci (x : Nat) : Int := x
abbrev Tie := Nat × Nat × List Nat
inductive Ties (H : Hp) : List V → List Tie → Prop
  | nil : Ties H [] []
  | cons {t l : Addr} {us : List V} {a b : Nat} {ls : List Nat} {ts : List Tie} : H t = some (.tup [.int a, .int b, .ref l]) → H l = some (.tup (ls.map vI)) → Ties H us ts → Ties H (.ref t :: us) ((a, b, ls) :: ts)
inductive Prs (H : Hp) : List V → List (Nat × Nat) → Prop
  | nil : Prs H [] []
  | cons {t : Addr} {us : List V} {a b : Nat} {ts : List (Nat × Nat)} : H t = some (.tup [.int a, .int b]) → Prs H us ts → Prs H (.ref t :: us) ((a, b) :: ts)
/-- tuples stay -/
def TK (H H' : Hp) : Prop := ∀ b xs, H b = some (.tup xs) → H' b = some (.tup xs)
theorem TK.trans {H H1 H2 : Hp} (a : TK H H1) (b : TK H1 H2) : TK H H2 := fun c xs h => b c xs (a c xs h)
theorem tk_same {H H' : Hp} (s : Same H H') : TK H H' := fun b xs h => s b _ h
theorem tk_lst {H : Hp} {D : Addr} {acc : List V} {o : HO} (h : H D = some (.lst acc)) : TK H (upd H D o) := fun b xs e => by
  rw [upd_ne (fun z => by rw [z, h] at e; cases e)]
  exact e
theorem tk_dict {H : Hp} {D : Addr} {acc : List (Key × V)} {o : HO} (h : H D = some (.dK acc)) : TK H (upd H D o) := fun b xs e => by
  rw [upd_ne (fun z => by rw [z, h] at e; cases e)]
  exact e
section
variable {H H' : Hp}
theorem Ties.tk (k : TK H H') : ∀ {us : List V} {ts : List Tie}, Ties H us ts → Ties H' us ts
  | _, _, .nil => .nil
  | _, _, .cons h g r => .cons (k _ _ h) (k _ _ g) (r.tk k)
theorem Ties.len : ∀ {us : List V} {ts : List Tie}, Ties H us ts → us.length = ts.length
  | _, _, .nil => rfl
  | _, _, .cons _ _ r => congrArg (· + 1) r.len
theorem Ties.app : ∀ {us vs : List V} {ts ss : List Tie}, Ties H us ts → Ties H vs ss → Ties H (us ++ vs) (ts ++ ss)
  | _, _, _, _, .nil, h => h
  | _, _, _, _, .cons h g r, h2 => .cons h g (r.app h2)
theorem Ties.at : ∀ {us : List V} {ts : List Tie}, Ties H us ts → ∀ {i : Nat} {v : V}, us[i]? = some v → ∃ t l a b ls, v = .ref t ∧ ts[i]? = some (a, b, ls) ∧ H t = some (.tup [.int (a : Nat), .int (b : Nat), .ref l]) ∧ H l = some (.tup (ls.map vI))
  | _, _, .nil, i, v, e => by simp at e
  | _, _, .cons h g r, 0, v, e => by
    cases e
    exact ⟨_, _, _, _, _, rfl, rfl, h, g⟩
  | _, _, .cons h g r, i + 1, v, e => r.at (i := i) e
theorem Prs.tk (k : TK H H') : ∀ {us : List V} {ts : List (Nat × Nat)}, Prs H us ts → Prs H' us ts
  | _, _, .nil => .nil
  | _, _, .cons h r => .cons (k _ _ h) (r.tk k)
theorem Prs.len : ∀ {us : List V} {ts : List (Nat × Nat)}, Prs H us ts → us.length = ts.length
  | _, _, .nil => rfl
  | _, _, .cons _ r => congrArg (· + 1) r.len
theorem Prs.app : ∀ {us vs : List V} {ts ss : List (Nat × Nat)}, Prs H us ts → Prs H vs ss → Prs H (us ++ vs) (ts ++ ss)
  | _, _, _, _, .nil, h => h
  | _, _, _, _, .cons h r, h2 => .cons h (r.app h2)
theorem Prs.at : ∀ {us : List V} {ts : List (Nat × Nat)}, Prs H us ts → ∀ {i : Nat} {v : V}, us[i]? = some v → ∃ t a b, v = .ref t ∧ ts[i]? = some (a, b) ∧ H t = some (.tup [.int (a : Nat), .int (b : Nat)])
  | _, _, .nil, i, v, e => by simp at e
  | _, _, .cons h r, 0, v, e => by
    cases e
    exact ⟨_, _, _, rfl, rfl, h⟩
  | _, _, .cons h r, i + 1, v, e => r.at (i := i) e
end
theorem vI_map (es : List Nat) : es.map vI = (es.map ci).map V.int := by
  rw [List.map_map]
  rfl
theorem mem_int {es : List Nat} {x : Nat} : ((x : Int) ∈ es.map ci) ↔ x ∈ es := by
  rw [List.mem_map]
  constructor
  · rintro ⟨y, hy, e⟩
    have : y = x := by unfold ci at e; omega
    rw [← this]
    exact hy
  · exact fun h => ⟨x, h, rfl⟩
theorem take_filter {α : Type} {p : α → Bool} {xs : List α} {i : Nat} {a : α} (e : xs[i]? = some a) : (xs.take (i + 1)).filter p = (xs.take i).filter p ++ (if p a = true then [a] else []) := by
  rw [List.take_add_one, e, Option.toList_some, List.filter_append]
  by_cases c : p a = true
  · rw [if_pos c, List.filter_cons_of_pos c, List.filter_nil]
  · rw [if_neg c, List.filter_cons_of_neg c, List.filter_nil]
theorem take_map {α β : Type} {g : α → β} {xs : List α} {i : Nat} {a : α} (e : xs[i]? = some a) : (xs.take (i + 1)).map g = (xs.take i).map g ++ [g a] := by
  rw [List.take_add_one, e, Option.toList_some, List.map_append]
  rfl
/-! ### ties_among -/
def tIn (es : List Nat) (t : Tie) : Bool := decide (t.1 ∈ es) && decide (t.2.1 ∈ es)
theorem scAmong : FnScope ["entries", "ties", "here", "tie"] ["entries", "ties"] (defScope sAmong) := ⟨rfl, rfl, rfl, by decide +kernel, rfl, by decide +kernel, by decide +kernel⟩
def spAmong : Sp := fun vs H Q _ => ∃ (E T : Addr) (es : List Nat) (us : List V) (ts : List Tie), vs = [.ref E, .ref T] ∧ H E = some (.lst (es.map vI)) ∧ H T = some (.lst us) ∧ Ties H us ts ∧ es.length ≤ 900 ∧ ts.length ≤ 900 ∧
  ∀ H' r us', Same H H' → H r = none → H' r = some (.lst us') → Ties H' us' (ts.filter (tIn es)) → Q (.ref r) H'
section
variable {P : Program} {w : World} {K : PySem.W.Frag} {mg : Str → Option Value} {base : Heap} {f f1 f2 : Addr} {fd d1 d2 : FuncData} {k : Nat}
theorem ok_among (F : Fun K "ties_among" "ties_among" sAmong f fd) (ms : mg "set" = none) : FnOk P w K mg base CX0 (k + 1) f fd ["entries", "ties"] spAmong := by
  refine F.ok scAmong (fun vs H Q E h => ?_) (fun cdv A outer s H vs Q E hr h => ?_)
  · obtain ⟨E, T, es, us, ts, rfl, _⟩ := h
    rfl
  · obtain ⟨E', T, es, us, ts, rfl, hE, hT, tu, el, tl, q⟩ := h
    refine ⟨_, pss_cons (ps_set (i := 2) scAmong.nd rfl (.inr rfl) (pe_callTy (cr_setI (P := P) (w := w) rfl rfl rfl) (by rfl) ms (by decide +kernel) (pa_cons (pv 0) pa_nil)))
      (pss_one (ps_ret (pe_lc (own := [("tie", 3)]) (g := gName 3) rfl scAmong.nd (pi_list (pv 1)) (blkOk_by (own := [("tie", 3)]) (N := ["entries", "ties", "here", "tie"]) (sc := defScope sAmong) (by decide +kernel))
        (fun _ _ _ _ _ => pg_name (i := 3) scAmong.nd rfl (Or.inl rfl))
        (fun _ _ _ _ _ => pts_one (PW.pt (pw_and (pt_cmpR (or_inI (P := P) (w := w) rfl rfl) (pe_ix (ix_tupK (K := K) rfl) (pv 3) pe_int (fun _ _ => rfl)) (pv 2) (by rfl)) (pw_and1 (pt_cmpR (or_inI (P := P) (w := w) rfl rfl) (pe_ix (ix_tupK (K := K) rfl) (pv 3) pe_int (fun _ _ => rfl)) (pv 2) (by rfl))))))
        (fun _ _ _ _ _ => pv 3)))), ?_⟩
    refine ⟨_, rfl, E', es.map ci, rfl, by rw [← vI_map]; exact SqL.of hE, by rw [List.length_map]; omega, fun S hS => ?_⟩
    have sS := same_new (o := SetI P w S fun k => decide (k ∈ es.map ci)) hS
    have eS : upd H S (SetI P w S fun k => decide (k ∈ es.map ci)) S = some (SetI P w S fun k => decide (k ∈ es.map ci)) := upd_same
    have hT1 := sS _ _ hT
    have tu1 := tu.tk (tk_same sS)
    refine ⟨_, rfl, T, rfl, ⟨_, SqL.of hT1⟩, fun D hD => ?_⟩
    have hD0 : H D = none := free_same sS hD
    show ∃ W : Nat → Nat → Hp → Prop, _
    generalize hH1 : upd H S (SetI P w S fun k => decide (k ∈ es.map ci)) = H1 at *
    have ul := tu1.len
    refine lc_list (K := K) (xs := us) (fun i H' => ∃ us', H' D = some (.lst us') ∧ Ties H' us' ((ts.take i).filter (tIn es)) ∧ Same H1 H' ∧ us'.length ≤ i)
      ⟨[], upd_same, .nil, same_new hD, Nat.le_refl _⟩ (fun i H' _ hp => ?_) (fun i x H2 hx hp => ?_) (fun H2 hp => ?_)
    · obtain ⟨_, _, _, sm, _⟩ := hp
      exact SqL.of (sm _ _ hT1)
    · obtain ⟨us', e2, t2, sm, lu⟩ := hp
      obtain ⟨t, l, a, b, ls, rfl, et, ht, hl⟩ := tu1.at hx
      have il : i < us.length := (List.getElem?_eq_some_iff.mp hx).1
      have ht2 := sm _ _ ht
      have eS2 := sm _ _ eS
      have d1 : decide (((a : Nat) : Int) ∈ es.map ci) = decide (a ∈ es) := decide_eq_decide.mpr mem_int
      have d2 : decide (((b : Nat) : Int) ∈ es.map ci) = decide (b ∈ es) := decide_eq_decide.mpr mem_int
      have keep : tIn es (a, b, ls) = true → ∃ acc, H2 D = some (.lst acc) ∧ acc.length < sizeLine ∧ ∃ us', upd H2 D (.lst (acc ++ [.ref t])) D = some (.lst us') ∧ Ties (upd H2 D (.lst (acc ++ [.ref t]))) us' ((ts.take (i + 1)).filter (tIn es)) ∧ Same H1 (upd H2 D (.lst (acc ++ [.ref t]))) ∧ us'.length ≤ i + 1 := fun z => by
        refine ⟨us', e2, small1000 (by omega), us' ++ [.ref t], upd_same, ?_, keep_new hD sm, by rw [List.length_append]; exact Nat.succ_le_succ lu⟩
        rw [take_filter et, if_pos z]
        exact ((t2.app (.cons ht2 (sm _ _ hl) .nil)).tk (tk_lst e2))
      have drop : tIn es (a, b, ls) = false → ∃ us', H2 D = some (.lst us') ∧ Ties H2 us' ((ts.take (i + 1)).filter (tIn es)) ∧ Same H1 H2 ∧ us'.length ≤ i + 1 := fun z => by
        refine ⟨us', e2, ?_, sm, by omega⟩
        rw [take_filter et, if_neg (by rw [z]; decide), List.append_nil]
        exact t2
      refine ⟨rfl, ?_⟩
      refine ⟨_, rfl, t, _, 0, _, rfl, rfl, SqT.of ht2, atI_nat (j := 0) rfl, _, rfl, _, S, _, rfl, rfl, eS2, _, rfl, ?_⟩
      rw [d1]
      by_cases c1 : a ∈ es
      · refine iteP (decide_eq_true c1) ?_
        refine ⟨_, rfl, t, _, 1, _, rfl, rfl, SqT.of ht2, atI_nat (j := 1) rfl, _, rfl, _, S, _, rfl, rfl, eS2, _, rfl, ?_⟩
        rw [d2]
        by_cases c2 : b ∈ es
        · exact iteP (decide_eq_true c2) ⟨_, rfl, keep (by unfold tIn; simp [c1, c2])⟩
        · exact iteN (decide_eq_false c2) (drop (by unfold tIn; simp [c2]))
      · exact iteN (decide_eq_false c1) (iteF (drop (by unfold tIn; simp [c1])))
    · obtain ⟨us', e2, t2, sm, lu⟩ := hp
      rw [ul, List.take_length] at t2
      exact q H2 D us' (sS.trans sm) hD0 e2 t2
end
end W35

namespace W35
open PySem PySem.Spec PyProof.Rows L2 Gs Gp Gr
/-! ### ends_by_starts -/
def kvA (p : Nat × Addr) : Key × V := (.inl (p.1 : Int), .ref p.2)
def EndsA (H : Hp) (r : Addr) (es : List Nat) (adj : Nat → List Nat) : Prop := ∃ al : List (Nat × Addr), H r = some (.dK (al.map kvA)) ∧ al.map (·.1) = es ∧ ∀ p ∈ al, H p.2 = some (.lst ((adj p.1).map vI))
theorem EndsA.same {H H' : Hp} {r : Addr} {es : List Nat} {adj : Nat → List Nat} (s : Same H H') (h : EndsA H r es adj) : EndsA H' r es adj := by
  obtain ⟨al, h1, h2, h3⟩ := h
  exact ⟨al, s _ _ h1, h2, fun p hp => s _ _ (h3 p hp)⟩
theorem val_al : ∀ {al : List (Nat × Addr)} {x : Nat}, x ∈ al.map (·.1) → ∃ a, (x, a) ∈ al ∧ valV (al.map kvA) (.inl (x : Int)) = some (.ref a)
  | [], x, h => absurd h List.not_mem_nil
  | (y, b) :: al, x, h => by
    by_cases c : y = x
    · subst c
      refine ⟨b, List.mem_cons_self, ?_⟩
      unfold valV
      rw [List.map_cons, List.find?_cons_of_pos (by simp [kvA])]
      rfl
    · have h' : x ∈ al.map (·.1) := by
        rcases List.mem_cons.mp h with e | h
        · exact absurd e.symm c
        · exact h
      obtain ⟨a, ha, e⟩ := val_al h'
      refine ⟨a, List.mem_cons_of_mem _ ha, ?_⟩
      unfold valV at e ⊢
      rw [List.map_cons, List.find?_cons_of_neg (by simp [kvA]; omega)]
      exact e
theorem put_new {kvs : List (Key × V)} {k : Key} {v : V} (h : ∀ kv ∈ kvs, kv.1 ≠ k) : putK kvs k v = kvs ++ [(k, v)] := by
  unfold putK
  rw [if_neg]
  intro z
  obtain ⟨kv, hkv, e⟩ := List.any_eq_true.mp z
  exact h kv hkv (by simpa using e)
theorem nd_inj {α β : Type} {f : α → β} : ∀ {l : List α}, (l.map f).Nodup → ∀ {a b : α}, a ∈ l → b ∈ l → f a = f b → a = b
  | [], _, _, _, h, _, _ => absurd h List.not_mem_nil
  | c :: l, nd, a, b, ha, hb, e => by
    rw [List.map_cons, List.nodup_cons] at nd
    rcases List.mem_cons.mp ha with e1 | h1
    · rcases List.mem_cons.mp hb with e2 | h2
      · rw [e1, e2]
      · exact absurd (List.mem_map.mpr ⟨b, h2, by rw [← e, e1]⟩) nd.1
    · rcases List.mem_cons.mp hb with e2 | h2
      · exact absurd (List.mem_map.mpr ⟨a, h1, by rw [e, e2]⟩) nd.1
      · exact nd_inj nd.2 h1 h2 e
abbrev NEn : List Str := ["entries", "pairs", "ends", "start", "end", "entry"]
theorem scEnds : FnScope NEn ["entries", "pairs"] (defScope sEnds) := ⟨rfl, rfl, rfl, by decide +kernel, rfl, by decide +kernel, by decide +kernel⟩
def spEnds : Sp := fun vs H Q _ => ∃ (E T : Addr) (es : List Nat) (us : List V) (ps : List (Nat × Nat)), vs = [.ref E, .ref T] ∧ H E = some (.lst (es.map vI)) ∧ H T = some (.lst us) ∧ Prs H us ps ∧ es.Nodup ∧ (∀ p ∈ ps, p.1 ∈ es) ∧ es.length ≤ 900 ∧ ps.length ≤ 900 ∧
  ∀ H' r, Same H H' → H r = none → EndsA H' r es (adjOf ps) → Q (.ref r) H'
section
variable {P : Program} {w : World} {K : PySem.W.Frag} {mg : Str → Option Value} {base : Heap} {f f1 f2 : Addr} {fd d1 d2 : FuncData} {k : Nat}
theorem ok_ends (F : Fun K "ends_by_starts" "ends_by_starts" sEnds f fd) : FnOk P w K mg base CX0 (k + 1) f fd ["entries", "pairs"] spEnds := by
  refine F.ok scEnds (fun vs H Q E h => ?_) (fun cdv A outer s H vs Q E hr h => ?_)
  · obtain ⟨E, T, es, us, ps, rfl, _⟩ := h
    rfl
  · obtain ⟨E', T, es, us, ps, rfl, hE, hT, pr, nd, sub, el, pl, q⟩ := h
    refine ⟨_, pss_cons (ps_setDc (i := 2) (own := [("entry", 5)]) (g := gName 5) (tt := tYes) rfl scEnds.nd rfl rfl (sw_dict rfl rfl rfl rfl) (pi_list (pv 0)) (blkOk_by (own := [("entry", 5)]) (N := NEn) (sc := defScope sEnds) (by decide +kernel))
        (fun _ _ _ _ _ => pg_name (i := 5) scEnds.nd rfl (Or.inl rfl)) (fun _ _ _ _ _ => pts_nil) (fun _ _ _ _ _ => pv 5) (fun _ _ _ _ _ => pe_lst pa_nil))
      (pss_cons (ps_for PassesOwn.never rfl (pi_list (pv 1)) (pg_tup (by rfl) (pgs_cons (pg_name (i := 3) scEnds.nd rfl (.inl rfl)) (pgs_cons (pg_name (i := 4) scEnds.nd rfl (.inl rfl)) pgs_nil)))
        (pss_one (ps_expr (pe_bm PySem.F.plainAttrs_list PySem.F.slot_list_append PySem.F.type_list_append mt_append (pe_dget (u1 hr) (pv 2) (pv 3) (fun _ _ => rfl)) (pa_cons (pv 4) pa_nil)))))
      (pss_one (ps_ret (pv 2)))), ?_⟩
    refine ⟨_, rfl, E', rfl, ⟨_, SqL.of hE⟩, fun D hD => ?_⟩
    have ml : (es.map vI).length = es.length := List.length_map ..
    refine walkC (J := Itl K E') (n := es.length) (fun i H' => ∃ al : List (Nat × Addr), H' D = some (.dK (al.map kvA)) ∧ al.map (·.1) = es.take i ∧ (al.map (·.2)).Nodup ∧ (∀ p ∈ al, H p.2 = none ∧ H' p.2 = some (.lst [])) ∧ Same H H')
      ⟨[], upd_same, by rw [List.take_zero]; rfl, List.nodup_nil, fun p hp => absurd hp List.not_mem_nil, same_new hD⟩ (fun i H' hi hp => ?_) (fun H' hp => ?_) (fun i x H1 H1' hi hp hy => ?_) (fun H1 hp => ?_)
    · obtain ⟨_, _, _, _, _, sm⟩ := hp
      exact ⟨_, _, SqL.of (sm _ _ hE), List.getElem?_eq_getElem (by rw [ml]; exact hi)⟩
    · obtain ⟨_, _, _, _, _, sm⟩ := hp
      exact ⟨_, SqL.of (sm _ _ hE), by rw [ml]; exact Nat.le_refl _⟩
    · obtain ⟨al, eD, ek, nd2, st, sm⟩ := hp
      obtain ⟨rfl, hy⟩ := hy
      have hx := hy _ (SqL.of (sm _ _ hE))
      rw [List.getElem?_map, List.getElem?_eq_getElem hi] at hx
      cases hx
      have lal : al.length = i := by
        have := congrArg List.length ek
        rw [List.length_map, List.length_take] at this
        omega
      refine ⟨rfl, ?_⟩
      refine ⟨_, rfl, by show 0 ≤ sizeLine; decide, fun L hL => ?_⟩
      have sL := same_new (o := .lst []) hL
      have eD' := sL _ _ eD
      have nLD : L ≠ D := fun e => by
        rw [e, eD] at hL
        cases hL
      have hL0 : H L = none := free_same sm hL
      refine ⟨_, .inl ((es[i] : Nat) : Int), rfl, eD', by rw [List.length_map]; exact small1000 (by omega), ?_⟩
      have fresh : ∀ kv ∈ al.map kvA, kv.1 ≠ (.inl ((es[i] : Nat) : Int) : Key) := fun kv hkv e => by
        obtain ⟨p, hp, rfl⟩ := List.mem_map.mp hkv
        have e1 : p.1 = es[i] := by
          have : (p.1 : Int) = (es[i] : Nat) := Sum.inl.inj e
          omega
        have m1 : p.1 ∈ es.take i := by
          rw [← ek]
          exact List.mem_map.mpr ⟨p, hp, rfl⟩
        have nd' : (es.take (i + 1)).Nodup := nd.sublist (List.take_sublist _ _)
        rw [List.take_add_one, List.getElem?_eq_getElem hi, Option.toList_some, List.nodup_append] at nd'
        exact nd'.2.2 _ m1 _ (List.mem_singleton.mpr rfl) e1
      rw [put_new fresh]
      refine ⟨al ++ [(es[i], L)], ?_, ?_, ?_, fun p hp => ?_, keep_new hD (sm.trans sL)⟩
      · rw [upd_same, List.map_append]
        rfl
      · rw [List.map_append, ek, List.take_add_one, List.getElem?_eq_getElem hi]
        rfl
      · rw [List.map_append, List.nodup_append]
        refine ⟨nd2, List.nodup_cons.mpr ⟨List.not_mem_nil, List.nodup_nil⟩, fun a ha b hb e => ?_⟩
        obtain ⟨p, hp, rfl⟩ := List.mem_map.mp ha
        have eb : b = L := List.mem_singleton.mp hb
        have := (st p hp).2
        rw [e, eb, hL] at this
        cases this
      · rcases List.mem_append.mp hp with hp | hp
        · refine ⟨(st p hp).1, ?_⟩
          have := (st p hp).2
          rw [upd_ne (fun e => by rw [e, eD] at this; cases this)]
          exact sL _ _ this
        · rw [List.mem_singleton.mp hp]
          refine ⟨hL0, ?_⟩
          rw [upd_ne nLD]
          exact upd_same
    · obtain ⟨al, eD, ek, nd2, st, sm⟩ := hp
      rw [List.take_length] at ek
      have pl' := pr.len
      refine ⟨_, rfl, T, rfl, ⟨_, SqL.of (sm _ _ hT)⟩, for_list (K := K) (xs := us) (fun i σ H' => Same H H' ∧ ∃ x3 x4, σ = [some (.ref E'), some (.ref T), some (.ref D), x3, x4, none] ∧ H' D = some (.dK (al.map kvA)) ∧ ∀ p ∈ al, H' p.2 = some (.lst ((adjOf (ps.take i) p.1).map vI)))
        ⟨sm, _, _, rfl, eD, fun p hp => (st p hp).2⟩ (fun i σ H' _ hp => SqL.of (hp.1 _ _ hT)) (fun i x σ H2 hx hp => ?_) (fun σ H2 hp => ?_)⟩
      · obtain ⟨s2, x3, x4, rfl, e2, a2⟩ := hp
        obtain ⟨t, a, b, rfl, et, ht⟩ := pr.at hx
        have il : i < us.length := (List.getElem?_eq_some_iff.mp hx).1
        obtain ⟨ad, had, ev⟩ := val_al (al := al) (x := a) (by rw [ek]; exact sub _ (List.mem_of_getElem? et))
        have had2 : H2 ad = some (.lst ((adjOf (ps.take i) a).map vI)) := a2 _ had
        have la : (adjOf (ps.take i) a).length ≤ i := by
          unfold adjOf
          rw [List.length_map]
          exact Nat.le_trans (List.length_filter_le _ _) (by rw [List.length_take]; omega)
        refine ⟨t, _, rfl, SqT.of (s2 _ _ ht), rfl, _, _, rfl, _, _, rfl, rfl, ?_⟩
        refine ⟨_, rfl, _, rfl, D, .ref ad, rfl, (show DGet H2 D (kV (Sum.inl (a : Int))) (some (.ref ad)) from ev ▸ DGet.k e2), .inl ⟨rfl, _, SqL.of had2⟩, _, rfl, ad, _, _, rfl, rfl, had2, by rw [List.length_map]; exact small1000 (by omega), ?_⟩
        have nD : ad ≠ D := fun e => by
          rw [e, e2] at had2
          cases had2
        refine ⟨?_, _, _, rfl, by rw [upd_ne nD.symm]; exact e2, fun p hp => ?_⟩
        · exact keep_new (st _ had).1 s2
        · have ea : ps.take (i + 1) = ps.take i ++ [(a, b)] := by
            rw [List.take_add_one, et]
            rfl
          rw [ea, adj_snoc]
          by_cases c : p = (a, ad)
          · subst c
            rw [upd_same, if_pos rfl, List.map_append]
            rfl
          · have n2 : p.2 ≠ ad := fun e => c (nd_inj nd2 hp had e)
            have n1 : ¬ a = p.1 := fun e => by
              apply c
              refine nd_inj (f := Prod.fst) (l := al) (by rw [ek]; exact nd) hp had e.symm
            rw [upd_ne n2, if_neg n1]
            exact a2 p hp
      · obtain ⟨s2, x3, x4, rfl, e2, a2⟩ := hp
        rw [pl', List.take_length] at a2
        exact ⟨_, rfl, q H2 D s2 hD ⟨al, e2, ek, a2⟩⟩
end
end W35

namespace W35
open PySem PySem.Spec PyProof.Rows L2 Gs Gp Gr
/-! ### all_from -/
def kvT (x : Nat) : Key × V := (.inl (x : Int), .bl true)
theorem val_ks : ∀ {ks : List Nat} {x : Nat}, valV (ks.map kvT) (.inl (x : Int)) = if x ∈ ks then some (.bl true) else none
  | [], x => rfl
  | y :: ks, x => by
    have ih := @val_ks ks x
    unfold valV at ih ⊢
    by_cases c : y = x
    · subst c
      rw [List.map_cons, List.find?_cons_of_pos (by simp [kvT]), if_pos List.mem_cons_self]
      rfl
    · rw [List.map_cons, List.find?_cons_of_neg (by simp [kvT]; omega), ih]
      by_cases d : x ∈ ks
      · rw [if_pos d, if_pos (List.mem_cons_of_mem _ d)]
      · rw [if_neg d, if_neg (fun z => by
          rcases List.mem_cons.mp z with e | z
          · exact c e.symm
          · exact d z)]
theorem put_ks {ks : List Nat} {x : Nat} (h : x ∉ ks) : putK (ks.map kvT) (.inl (x : Int)) (.bl true) = (ks ++ [x]).map kvT := by
  rw [put_new, List.map_append]
  · rfl
  · intro kv hkv e
    obtain ⟨y, hy, rfl⟩ := List.mem_map.mp hkv
    have : (y : Int) = (x : Int) := Sum.inl.inj e
    have : y = x := by omega
    exact h (this ▸ hy)
theorem pig {es : List Nat} : ∀ {l : List Nat}, l.Nodup → (∀ x ∈ l, x ∈ es) → l.length ≤ es.length := fun {l} => by
  induction l generalizing es with
  | nil => exact fun _ _ => Nat.zero_le _
  | cons x l ih =>
    intro nd sub
    rw [List.nodup_cons] at nd
    have hx := sub x List.mem_cons_self
    have z := ih (es := es.erase x) nd.2 fun y hy => (List.mem_erase_of_ne (fun e : y = x => nd.1 (e ▸ hy))).mpr (sub y (List.mem_cons_of_mem _ hy))
    rw [List.length_erase_of_mem hx] at z
    have : 0 < es.length := List.length_pos_of_mem hx
    rw [List.length_cons]
    omega
theorem prs_snoc {H : Hp} : ∀ {ts : List (Nat × Nat)} {us : List V} {a b : Nat}, Prs H us (ts ++ [(a, b)]) → ∃ us0 t, us = us0 ++ [.ref t] ∧ Prs H us0 ts ∧ H t = some (.tup [.int (a : Nat), .int (b : Nat)])
  | [], us, a, b, h => by
    cases h with
    | cons h r =>
      cases r
      exact ⟨[], _, rfl, .nil, h⟩
  | (c, d) :: ts, us, a, b, h => by
    cases h with
    | cons h r =>
      obtain ⟨us0, t, rfl, r', e⟩ := prs_snoc r
      exact ⟨_ :: us0, t, rfl, .cons h r', e⟩
theorem inv_iter {es ks0 : List Nat} {adj : Nat → List Nat} {e : Nat} (cl : ∀ x ∈ es, ∀ y ∈ adj x, y ∈ es) : ∀ {n : Nat} {s : Gr.St}, Gr.Inv es adj ks0 e s → Gr.Inv es adj ks0 e (iter adj n s)
  | 0, _, I => I
  | n + 1, s, I => inv_iter (n := n) (s := step adj s) cl (inv_step cl I)
theorem len_step {adj : Nat → List Nat} {s : Gr.St} : (Gr.step adj s).ks.length + s.ord.length + s.path.length = s.ks.length + (Gr.step adj s).ord.length + (Gr.step adj s).path.length := by
  obtain ⟨path, ord, ks⟩ := s
  match path with
  | [] => rfl
  | (h, a) :: p =>
    unfold Gr.step
    dsimp only
    split
    · simp
      omega
    · split
      · simp
      · simp
        omega
theorem len_iter {adj : Nat → List Nat} : ∀ {n : Nat} {s : Gr.St}, (iter adj n s).ks.length + s.ord.length + s.path.length = s.ks.length + (iter adj n s).ord.length + (iter adj n s).path.length
  | 0, s => rfl
  | n + 1, s => by
    have h1 := len_iter (adj := adj) (n := n) (s := Gr.step adj s)
    have h2 := len_step (adj := adj) (s := s)
    rw [iter]
    omega
theorem EndsA.keep {H H' : Hp} {r S : Addr} {es : List Nat} {adj : Nat → List Nat} {kvs : List (Key × V)} (k : Keep S H H') (hr : r ≠ S) (hS : H S = some (.dK kvs)) (h : EndsA H r es adj) : EndsA H' r es adj := by
  obtain ⟨al, h1, h2, h3⟩ := h
  refine ⟨al, k _ _ hr h1, h2, fun p hp => k _ _ (fun e => ?_) (h3 p hp)⟩
  have := h3 p hp
  rw [e, hS] at this
  cases this
theorem EndsA.get {H : Hp} {r : Addr} {es : List Nat} {adj : Nat → List Nat} (h : EndsA H r es adj) {x : Nat} (hx : x ∈ es) : ∃ a, DGet H r (.int (x : Nat)) (some (.ref a)) ∧ H a = some (.lst ((adj x).map vI)) := by
  obtain ⟨al, h1, h2, h3⟩ := h
  obtain ⟨a, ha, ev⟩ := val_al (al := al) (x := x) (by rw [h2]; exact hx)
  exact ⟨a, (show DGet H r (kV (Sum.inl (x : Int))) (some (.ref a)) from ev ▸ DGet.k h1), h3 _ ha⟩
abbrev NAf : List Str := ["entry", "ends", "seen", "order", "path", "here", "at", "there"]
theorem scAllFrom : FnScope NAf ["entry", "ends", "seen"] (defScope sAllFrom) := ⟨rfl, rfl, rfl, by decide +kernel, rfl, by decide +kernel, by decide +kernel⟩
def spAllFrom : Sp := fun vs H Q _ => ∃ (e : Nat) (r S : Addr) (es ks : List Nat) (adj : Nat → List Nat), vs = [.int e, .ref r, .ref S] ∧ EndsA H r es adj ∧ H S = some (.dK (ks.map kvT)) ∧ r ≠ S ∧ (∀ x ∈ es, ∀ y ∈ adj x, y ∈ es) ∧ e ∈ es ∧ (∀ x ∈ ks, x ∈ es) ∧ e ∉ ks ∧ es.length ≤ 900 ∧ ks.length ≤ 900 ∧
  ∀ H' o, Keep S H H' → H' S = some (.dK ((dfs es adj ks e).ks.map kvT)) → H o = none → o ≠ S → H' o = some (.lst ((dfs es adj ks e).ord.map vI)) → Q (.ref o) H'
section
variable {P : Program} {w : World} {K : PySem.W.Frag} {mg : Str → Option Value} {base : Heap} {f f1 f2 : Addr} {fd d1 d2 : FuncData} {k : Nat}
theorem ok_allFrom (F : Fun K "all_from" "all_from" sAllFrom f fd) (ml : mg "len" = none) : FnOk P w K mg base CX0 (k + 1) f fd ["entry", "ends", "seen"] spAllFrom := by
  refine F.ok scAllFrom (fun vs H Q E h => ?_) (fun cdv A outer s H vs Q E hr h => ?_)
  · obtain ⟨e, r, S, es, ks, adj, rfl, _⟩ := h
    rfl
  · obtain ⟨e, r, S, es, ks, adj, rfl, en, hS, rS, cl, he, h0, hn, el, kl, q⟩ := h
    refine ⟨_, pss_cons (ps_set (i := 3) scAllFrom.nd rfl (.inl rfl) (pe_lst pa_nil))
      (pss_cons (ps_dput (u1 hr) (pv 2) (pv 0) pe_bl (by rfl))
      (pss_cons (ps_set (i := 4) scAllFrom.nd rfl (.inl rfl) (pe_lst (pa_cons (pe_tup (pa_cons (pv 0) (pa_cons pe_int pa_nil))) pa_nil)))
      (pss_cons (ps_while PassesOwn.never (pt_truth (pv 4) (by intro _; rfl))
        (pss_cons (ps_asg (pe_bm0 PySem.F.plainAttrs_list PySem.F.slot_list_pop PySem.F.type_list_pop mt_pop (pv 4)) (pg_tup (by rfl) (pgs_cons (pg_name (i := 5) scAllFrom.nd rfl (.inl rfl)) (pgs_cons (pg_name (i := 6) scAllFrom.nd rfl (.inl rfl)) pgs_nil))))
        (pss_one (ps_if (pt_cmpR op_eq (pv 6) (pe_callB call_len_seq (by rfl) ml PySem.boot_len (pa_cons (pe_dget (u1 hr) (pv 1) (pv 5) (fun _ _ => rfl)) pa_nil)) (nomark _))
          (pss_one (ps_expr (pe_bm PySem.F.plainAttrs_list PySem.F.slot_list_append PySem.F.type_list_append mt_append (pv 3) (pa_cons (pv 5) pa_nil))))
          (pss_cons (ps_expr (pe_bm PySem.F.plainAttrs_list PySem.F.slot_list_append PySem.F.type_list_append mt_append (pv 4) (pa_cons (pe_tup (pa_cons (pv 5) (pa_cons (pe_op op_add (pv 6) pe_int) pa_nil))) pa_nil)))
          (pss_cons (ps_set (i := 7) scAllFrom.nd rfl (.inl rfl) (pe_ix ix_list (pe_dget (u1 hr) (pv 1) (pv 5) (fun _ _ => rfl)) (pv 6) (fun _ _ => rfl)))
          (pss_one (ps_if (pt_cmp (pc_dnotin (u1 hr) (pv 7) (pv 2)) (by rfl))
            (pss_cons (ps_dput (u1 hr) (pv 2) (pv 7) pe_bl (by rfl))
            (pss_one (ps_expr (pe_bm PySem.F.plainAttrs_list PySem.F.slot_list_append PySem.F.type_list_append mt_append (pv 4) (pa_cons (pe_tup (pa_cons (pv 7) (pa_cons pe_int pa_nil))) pa_nil)))))
            pss_nil))))))))
      (pss_one (ps_ret (pv 3)))))), ?_⟩
    have I0 : Gr.Inv es adj ks e ⟨[(e, 0)], [], ks ++ [e]⟩ := inv_init he h0 hn
    refine ⟨by show 0 ≤ sizeLine; decide, fun O hO => ?_⟩
    have OS : O ≠ S := fun z => by
      rw [z, hS] at hO
      cases hO
    have hS1 : upd H O (.lst []) S = some (.dK (ks.map kvT)) := by
      rw [upd_ne OS.symm]
      exact hS
    refine ⟨_, rfl, _, rfl, S, _, rfl, DPut.k (k := .inl (e : Int)) hS1 (by rw [List.length_map]; exact small1000 (by omega)), ?_⟩
    rw [put_ks hn]
    have k1 : Keep S H (upd (upd H O (.lst [])) S (.dK ((ks ++ [e]).map kvT))) := (keep_same (same_new hO)).trans keep_upd
    have eS1 : upd (upd H O (.lst [])) S (.dK ((ks ++ [e]).map kvT)) S = some (.dK ((ks ++ [e]).map kvT)) := upd_same
    have eO1 : upd (upd H O (.lst [])) S (.dK ((ks ++ [e]).map kvT)) O = some (.lst []) := by
      rw [upd_ne OS]
      exact upd_same
    generalize upd (upd H O (.lst [])) S (.dK ((ks ++ [e]).map kvT)) = H1 at *
    refine ⟨_, rfl, by show 2 ≤ sizeLine; decide, fun t ht => ⟨by show 1 ≤ sizeLine; decide, fun PT hPT => ?_⟩⟩
    have s2 := same_new (o := .tup [.int (e : Nat), .int 0]) ht
    have s3 := same_new (o := .lst [.ref t]) hPT
    have s23 := s2.trans s3
    have PS : PT ≠ S := fun z => by
      rw [z, s2 _ _ eS1] at hPT
      cases hPT
    have PO : PT ≠ O := fun z => by
      rw [z, s2 _ _ eO1] at hPT
      cases hPT
    have hPT0 : H PT = none := free_keep k1 PS (free_same s2 hPT)
    refine ⟨fun c σ H' => ∃ (n : Nat) (us : List V) (x5 x6 x7 : Option V), σ = [some (.int e), some (.ref r), some (.ref S), some (.ref O), some (.ref PT), x5, x6, x7] ∧ c = mu es adj (iter adj n ⟨[(e, 0)], [], ks ++ [e]⟩) ∧ Keep S H H' ∧ H' S = some (.dK ((iter adj n ⟨[(e, 0)], [], ks ++ [e]⟩).ks.map kvT)) ∧
        H' O = some (.lst ((iter adj n ⟨[(e, 0)], [], ks ++ [e]⟩).ord.map vI)) ∧ H' PT = some (.lst us) ∧ Prs H' us (iter adj n ⟨[(e, 0)], [], ks ++ [e]⟩).path.reverse,
      ⟨_, 0, [.ref t], none, none, none, rfl, rfl, k1.trans (keep_same s23), s23 _ _ eS1, s23 _ _ eO1, upd_same, .cons (s3 _ _ upd_same) .nil⟩, fun c σ H2 hp => ?_⟩
    clear eS1 eO1 k1 s2 s3 s23 ht hPT hS1
    obtain ⟨n, us, x5, x6, x7, rfl, rfl, k2, eS, eO, eP, pr⟩ := hp
    have I := inv_iter (n := n) cl I0
    have lit := len_iter (adj := adj) (n := n) (s := ⟨[(e, 0)], [], ks ++ [e]⟩)
    have isu := iter_succ (adj := adj) (n := n) (s := ⟨[(e, 0)], [], ks ++ [e]⟩)
    have dof := @dfs_of es ks adj e cl he h0 hn n
    generalize hst : iter adj n ⟨[(e, 0)], [], ks ++ [e]⟩ = st at *
    obtain ⟨path, ord, kk⟩ := st
    dsimp only at eS eO pr dof lit
    rw [List.length_append] at lit
    simp only [List.length_nil, List.length_cons, List.length_singleton] at lit
    have en2 : EndsA H2 r es adj := en.keep k2 rS hS
    refine ⟨_, rfl, _, .inl ⟨us, SqL.of eP, rfl⟩, ?_⟩
    match path, I, isu, dof, pr, lit with
    | [], I, isu, dof, pr, _ =>
      cases pr
      refine iteN rfl ⟨_, rfl, ?_⟩
      have d := dof rfl
      refine q H2 O k2 ?_ hO OS ?_
      · rw [← d]
        exact eS
      · rw [← d]
        exact eO
    | (h, a) :: p, I, isu, dof, pr, lit =>
      rw [List.length_cons] at lit
      rw [List.reverse_cons] at pr
      obtain ⟨us0, t, rfl, pr0, et⟩ := prs_snoc pr
      refine iteP (by simp) ?_
      have hk : h ∈ kk := (I.keys h).mpr (.inr (.inr (by simp [nodes])))
      have hes : h ∈ es := I.sub h hk
      have fh := I.fr (h, a) List.mem_cons_self
      have dec := mu_step cl I (by simp)
      have nd := I.nd
      have subO : ∀ x ∈ ord ++ nodes ⟨(h, a) :: p, ord, kk⟩, x ∈ es := fun x hx => I.sub x ((I.keys x).mpr (by
        rcases List.mem_append.mp hx with z | z
        · exact .inr (.inl z)
        · exact .inr (.inr z)))
      have len := pig nd subO
      rw [List.length_append] at len
      dsimp only at len
      have ln : (nodes ⟨(h, a) :: p, ord, kk⟩).length = p.length + 1 := by simp [nodes]
      have lp0 := pr0.len
      rw [List.length_reverse] at lp0
      refine ⟨fun σ' H'' => ∃ (us : List V) (x5 x6 x7 : Option V), σ' = [some (.int e), some (.ref r), some (.ref S), some (.ref O), some (.ref PT), x5, x6, x7] ∧ Keep S H H'' ∧ H'' S = some (.dK ((step adj ⟨(h, a) :: p, ord, kk⟩).ks.map kvT)) ∧
        H'' O = some (.lst ((step adj ⟨(h, a) :: p, ord, kk⟩).ord.map vI)) ∧ H'' PT = some (.lst us) ∧ Prs H'' us (step adj ⟨(h, a) :: p, ord, kk⟩).path.reverse, fun σ' H'' hN => ?_, ?_⟩
      · obtain ⟨us', y5, y6, y7, e1, e2, e3, e4, e5, e6⟩ := hN
        refine ⟨mu es adj (step adj ⟨(h, a) :: p, ord, kk⟩), dec, n + 1, us', y5, y6, y7, e1, ?_, e2, ?_, ?_, e5, ?_⟩
        · rw [isu]
        · rw [isu]
          exact e3
        · rw [isu]
          exact e4
        · rw [isu]
          exact e6
      refine ⟨_, rfl, .inl ⟨rfl, _, SqL.of eP⟩, PT, _, .ref t, rfl, rfl, eP, by simp, ?_⟩
      rw [List.dropLast_concat]
      have eP3 : upd H2 PT (.lst us0) PT = some (.lst us0) := upd_same
      have t3 : TK H2 (upd H2 PT (.lst us0)) := tk_lst eP
      have et3 := t3 _ _ et
      have pr3 := pr0.tk t3
      have eS3 : upd H2 PT (.lst us0) S = some (.dK (kk.map kvT)) := by
        rw [upd_ne PS.symm]
        exact eS
      have eO3 : upd H2 PT (.lst us0) O = some (.lst (ord.map vI)) := by
        rw [upd_ne PO.symm]
        exact eO
      have k3 : Keep S H (upd H2 PT (.lst us0)) := keep_at k2 hPT0
      generalize upd H2 PT (.lst us0) = H3 at *
      have en3 : EndsA H3 r es adj := en.keep k3 rS hS
      obtain ⟨ad, dg, had⟩ := en3.get hes
      refine ⟨t, _, rfl, SqT.of et3, rfl, _, _, rfl, _, _, rfl, rfl, ?_⟩
      refine ⟨_, rfl, _, rfl, _, rfl, r, .ref ad, rfl, dg, ad, _, rfl, .inl (SqL.of had), rfl, _, rfl, ?_⟩
      rw [List.length_map]
      by_cases c : a = (adj h).length
      · refine iteP (decide_eq_true (by rw [c])) ?_
        have gn : (adj h)[a]? = none := List.getElem?_eq_none_iff.mpr (by omega)
        have st1 : step adj ⟨(h, a) :: p, ord, kk⟩ = ⟨p, ord ++ [h], kk⟩ := by
          unfold Gr.step
          simp only [gn]
        rw [st1]
        refine ⟨_, rfl, .inl ⟨rfl, _, SqL.of eO3⟩, _, rfl, O, _, _, rfl, rfl, eO3, by rw [List.length_map]; exact small1000 (by omega), ?_⟩
        refine ⟨us0, _, _, _, rfl, keep_at k3 hO, ?_, ?_, ?_, pr3.tk (tk_lst eO3)⟩
        · rw [upd_ne OS.symm]
          exact eS3
        · rw [upd_same, List.map_append]
          rfl
        · rw [upd_ne PO]
          exact eP3
      · refine iteN (decide_eq_false (fun z => c (by
          have := V.int.inj z
          omega))) ?_
        have al : a < (adj h).length := by
          have := fh.1
          dsimp only at this
          omega
        have gs : (adj h)[a]? = some ((adj h)[a]) := List.getElem?_eq_getElem al
        refine ⟨_, rfl, .inl ⟨rfl, _, SqL.of eP3⟩, _, rfl, _, rfl, _, _, rfl, rfl, by show 2 ≤ sizeLine; decide, fun t2 ht2 => ?_⟩
        have s4 := same_new (o := .tup [.int (h : Nat), .int ((a : Int) + 1)]) ht2
        have eP4 := s4 _ _ eP3
        refine ⟨PT, us0, _, rfl, rfl, eP4, small1000 (by omega), ?_⟩
        have t5 := tk_lst (o := .lst (us0 ++ [.ref t2])) eP4
        have eP5 : upd (upd H3 t2 (.tup [.int (h : Nat), .int ((a : Int) + 1)])) PT (.lst (us0 ++ [.ref t2])) PT = some (.lst (us0 ++ [.ref t2])) := upd_same
        have et5 := t5 _ _ (upd_same (H := H3) (a := t2) (o := .tup [.int (h : Nat), .int ((a : Int) + 1)]))
        have pr5 := (pr3.tk (tk_same s4)).tk t5
        have eS5 : upd (upd H3 t2 (.tup [.int (h : Nat), .int ((a : Int) + 1)])) PT (.lst (us0 ++ [.ref t2])) S = some (.dK (kk.map kvT)) := by
          rw [upd_ne PS.symm]
          exact s4 _ _ eS3
        have eO5 : upd (upd H3 t2 (.tup [.int (h : Nat), .int ((a : Int) + 1)])) PT (.lst (us0 ++ [.ref t2])) O = some (.lst (ord.map vI)) := by
          rw [upd_ne PO.symm]
          exact s4 _ _ eO3
        have k5 : Keep S H (upd (upd H3 t2 (.tup [.int (h : Nat), .int ((a : Int) + 1)])) PT (.lst (us0 ++ [.ref t2]))) := keep_at (k3.trans (keep_same s4)) hPT0
        generalize upd (upd H3 t2 (.tup [.int (h : Nat), .int ((a : Int) + 1)])) PT (.lst (us0 ++ [.ref t2])) = H5 at *
        have en5 : EndsA H5 r es adj := en.keep k5 rS hS
        obtain ⟨ad5, dg5, had5⟩ := en5.get hes
        refine ⟨_, rfl, _, rfl, r, .ref ad5, rfl, dg5, _, rfl, ad5, _, a, vI ((adj h)[a]), rfl, rfl, SqL.of had5, atI_nat (j := a) (by rw [List.getElem?_map, gs]; rfl), ?_⟩
        generalize hth : (adj h)[a] = th at *
        refine ⟨_, rfl, _, rfl, S, _, rfl, (show DGet H5 S (kV (Sum.inl (th : Int))) _ from DGet.k eS5), _, rfl, ?_⟩
        rw [val_ks]
        have prF : Prs H5 (us0 ++ [.ref t2]) (((h, a + 1) :: p).reverse) := by
          rw [List.reverse_cons]
          exact pr5.app (.cons et5 .nil)
        by_cases d : th ∈ kk
        · rw [if_pos d]
          refine iteF ?_
          have st1 : step adj ⟨(h, a) :: p, ord, kk⟩ = ⟨(h, a + 1) :: p, ord, kk⟩ := by
            unfold Gr.step
            simp only [gs, if_pos d]
          rw [st1]
          exact ⟨_, _, _, _, rfl, k5, eS5, eO5, eP5, prF⟩
        · rw [if_neg d]
          refine iteT ?_
          have st1 : step adj ⟨(h, a) :: p, ord, kk⟩ = ⟨(th, 0) :: (h, a + 1) :: p, ord, kk ++ [th]⟩ := by
            unfold Gr.step
            simp only [gs, if_neg d]
          rw [st1]
          have lkk : kk.length < 2000 := by omega
          refine ⟨_, rfl, _, rfl, S, _, rfl, DPut.k (k := .inl (th : Int)) eS5 (by rw [List.length_map]; exact Nat.lt_of_lt_of_le lkk (by decide)), ?_⟩
          rw [put_ks d]
          have k6 : Keep S H (upd H5 S (.dK ((kk ++ [th]).map kvT))) := k5.trans keep_upd
          have eP6 : upd H5 S (.dK ((kk ++ [th]).map kvT)) PT = some (.lst (us0 ++ [.ref t2])) := by
            rw [upd_ne PS]
            exact eP5
          have eO6 : upd H5 S (.dK ((kk ++ [th]).map kvT)) O = some (.lst (ord.map vI)) := by
            rw [upd_ne OS]
            exact eO5
          have pr6 := prF.tk (tk_dict (o := .dK ((kk ++ [th]).map kvT)) eS5)
          have eS6 : upd H5 S (.dK ((kk ++ [th]).map kvT)) S = some (.dK ((kk ++ [th]).map kvT)) := upd_same
          generalize upd H5 S (.dK ((kk ++ [th]).map kvT)) = H6 at *
          refine ⟨_, rfl, .inl ⟨rfl, _, SqL.of eP6⟩, _, rfl, by show 2 ≤ sizeLine; decide, fun t7 ht7 => ?_⟩
          have s7 := same_new (o := .tup [vI th, .int 0]) ht7
          have eP7 := s7 _ _ eP6
          refine ⟨PT, us0 ++ [.ref t2], _, rfl, rfl, eP7, small1000 (by rw [List.length_append, List.length_singleton]; omega), ?_⟩
          have t8 := tk_lst (o := .lst (us0 ++ [.ref t2] ++ [.ref t7])) eP7
          refine ⟨_, _, _, _, rfl, keep_at (k6.trans (keep_same s7)) hPT0, ?_, ?_, upd_same, ?_⟩
          · rw [upd_ne PS.symm]
            exact s7 _ _ eS6
          · rw [upd_ne PO.symm]
            exact s7 _ _ eO6
          · rw [List.reverse_cons]
            exact ((pr6.tk (tk_same s7)).tk t8).app (.cons (t8 _ _ upd_same) .nil)
end
end W35

namespace Gr
theorem goAll_snoc {es : List Nat} {adj : Nat → List Nat} {e : Nat} : ∀ {r : List Nat} {a : List Nat × List Nat}, goAll es adj (r ++ [e]) a = if e ∈ (goAll es adj r a).2 then goAll es adj r a else ((goAll es adj r a).1 ++ (dfs es adj (goAll es adj r a).2 e).ord, (dfs es adj (goAll es adj r a).2 e).ks)
  | [], (O, ks) => rfl
  | x :: r, (O, ks) => by
    by_cases c : x ∈ ks
    · have e1 : goAll es adj (x :: (r ++ [e])) (O, ks) = goAll es adj (r ++ [e]) (O, ks) := by rw [goAll, if_pos c]
      have e2 : goAll es adj (x :: r) (O, ks) = goAll es adj r (O, ks) := by rw [goAll, if_pos c]
      rw [List.cons_append, e1, e2]
      exact goAll_snoc
    · have e1 : goAll es adj (x :: (r ++ [e])) (O, ks) = goAll es adj (r ++ [e]) (O ++ (dfs es adj ks x).ord, (dfs es adj ks x).ks) := by rw [goAll, if_neg c]
      have e2 : goAll es adj (x :: r) (O, ks) = goAll es adj r (O ++ (dfs es adj ks x).ord, (dfs es adj ks x).ks) := by rw [goAll, if_neg c]
      rw [List.cons_append, e1, e2]
      exact goAll_snoc
theorem goBack_snoc {es : List Nat} {bdj : Nat → List Nat} {e : Nat} : ∀ {r : List Nat} {a : List (List Nat) × List Nat}, goBack es bdj (r ++ [e]) a = if e ∈ (goBack es bdj r a).2 then goBack es bdj r a else ((goBack es bdj r a).1 ++ [srt (dfs es bdj (goBack es bdj r a).2 e).ord], (dfs es bdj (goBack es bdj r a).2 e).ks)
  | [], (O, ks) => rfl
  | x :: r, (O, ks) => by
    by_cases c : x ∈ ks
    · have e1 : goBack es bdj (x :: (r ++ [e])) (O, ks) = goBack es bdj (r ++ [e]) (O, ks) := by rw [goBack, if_pos c]
      have e2 : goBack es bdj (x :: r) (O, ks) = goBack es bdj r (O, ks) := by rw [goBack, if_pos c]
      rw [List.cons_append, e1, e2]
      exact goBack_snoc
    · have e1 : goBack es bdj (x :: (r ++ [e])) (O, ks) = goBack es bdj (r ++ [e]) (O ++ [srt (dfs es bdj ks x).ord], (dfs es bdj ks x).ks) := by rw [goBack, if_neg c]
      have e2 : goBack es bdj (x :: r) (O, ks) = goBack es bdj r (O ++ [srt (dfs es bdj ks x).ord], (dfs es bdj ks x).ks) := by rw [goBack, if_neg c]
      rw [List.cons_append, e1, e2]
      exact goBack_snoc
/-- what is known all along: keys of entries, each once -/
structure Kys (es ks : List Nat) : Prop where
  nd : ks.Nodup
  sub : ∀ x ∈ ks, x ∈ es
theorem kys_dfs {es : List Nat} {adj : Nat → List Nat} {ks : List Nat} {e : Nat} (cl : ∀ x ∈ es, ∀ y ∈ adj x, y ∈ es) (he : e ∈ es) (h : Kys es ks) (hn : e ∉ ks) (nd : (dfs es adj ks e).ks.Nodup) : Kys es (dfs es adj ks e).ks := ⟨nd, (dfs_went cl he h.sub hn).2⟩
theorem nd_step {adj : Nat → List Nat} {s : St} (h : s.ks.Nodup) : (step adj s).ks.Nodup := by
  obtain ⟨path, ord, ks⟩ := s
  match path with
  | [] => exact h
  | (x, a) :: p =>
    unfold step
    dsimp only
    split
    · exact h
    · split
      · exact h
      · rename_i n
        rw [List.nodup_append]
        refine ⟨h, List.nodup_cons.mpr ⟨List.not_mem_nil, List.nodup_nil⟩, fun a ha b hb e => ?_⟩
        rw [List.mem_singleton.mp hb] at e
        exact n (e ▸ ha)
theorem nd_iter {adj : Nat → List Nat} : ∀ {n : Nat} {s : St}, s.ks.Nodup → (iter adj n s).ks.Nodup
  | 0, _, h => h
  | n + 1, s, h => nd_iter (n := n) (s := step adj s) (nd_step h)
theorem nd_dfs {es : List Nat} {adj : Nat → List Nat} {ks : List Nat} {e : Nat} (h : ks.Nodup) (hn : e ∉ ks) : (dfs es adj ks e).ks.Nodup := nd_iter (by
  show (ks ++ [e]).Nodup
  rw [List.nodup_append]
  refine ⟨h, List.nodup_cons.mpr ⟨List.not_mem_nil, List.nodup_nil⟩, fun a ha b hb c => ?_⟩
  rw [List.mem_singleton.mp hb] at c
  exact hn (c ▸ ha))
end Gr
namespace W35
open PySem PySem.Spec PyProof.Rows L2 Gs Gp Gr
/-! ### pieces -/
def pr2 (t : Tie) : Nat × Nat := (t.1, t.2.1)
theorem among_of (es : List Nat) : ∀ ts : List Tie, among es (ts.map pr2) = (ts.filter (tIn es)).map pr2
  | [] => rfl
  | t :: ts => by
    have ih := among_of es ts
    unfold among at ih ⊢
    rw [List.map_cons]
    by_cases c : tIn es t = true
    · rw [List.filter_cons_of_pos (by exact c), List.filter_cons_of_pos c, List.map_cons, ih]
    · rw [List.filter_cons_of_neg (by exact c), List.filter_cons_of_neg c, ih]
inductive Lss (H : Hp) : List V → List (List Nat) → Prop
  | nil : Lss H [] []
  | cons {a : Addr} {us : List V} {p : List Nat} {ps : List (List Nat)} : H a = some (.lst (p.map vI)) → Lss H us ps → Lss H (.ref a :: us) (p :: ps)
section
variable {H H' : Hp}
theorem Lss.same (s : Same H H') : ∀ {us : List V} {ps : List (List Nat)}, Lss H us ps → Lss H' us ps
  | _, _, .nil => .nil
  | _, _, .cons h r => .cons (s _ _ h) (r.same s)
theorem Lss.len : ∀ {us : List V} {ps : List (List Nat)}, Lss H us ps → us.length = ps.length
  | _, _, .nil => rfl
  | _, _, .cons _ r => congrArg (· + 1) r.len
theorem Lss.app : ∀ {us vs : List V} {ps qs : List (List Nat)}, Lss H us ps → Lss H vs qs → Lss H (us ++ vs) (ps ++ qs)
  | _, _, _, _, .nil, h => h
  | _, _, _, _, .cons h r, h2 => .cons h (r.app h2)
theorem Lss.at : ∀ {us : List V} {ps : List (List Nat)}, Lss H us ps → ∀ {i : Nat} {v : V}, us[i]? = some v → ∃ a p, v = .ref a ∧ ps[i]? = some p ∧ H a = some (.lst (p.map vI))
  | _, _, .nil, i, v, e => by simp at e
  | _, _, .cons h r, 0, v, e => by
    cases e
    exact ⟨_, _, rfl, rfl, h⟩
  | _, _, .cons h r, i + 1, v, e => r.at (i := i) e
/-- lists stay but those at p and q -/
theorem Lss.keep {p q : Addr} (k : ∀ b xs, b ≠ p → b ≠ q → H b = some (.lst xs) → H' b = some (.lst xs)) : ∀ {us : List V} {ps : List (List Nat)}, .ref p ∉ us → .ref q ∉ us → Lss H us ps → Lss H' us ps
  | _, _, _, _, .nil => .nil
  | _, _, n, m, .cons h r => .cons (k _ _ (fun e => n (e ▸ List.mem_cons_self)) (fun e => m (e ▸ List.mem_cons_self)) h) (r.keep k (fun z => n (List.mem_cons_of_mem _ z)) (fun z => m (List.mem_cons_of_mem _ z)))
end
theorem sorted_int {l : List Nat} {ns : List Int} (p : ns.Perm (l.map ci)) (s : ns.Pairwise (· ≤ ·)) : ns.map V.int = (srt l).map vI := by
  have e : ns = (srt l).map ci := by
    refine List.Perm.eq_of_pairwise (le := (· ≤ ·)) (fun a b _ _ h1 h2 => Int.le_antisymm h1 h2) s ?_ (p.trans ((srt_perm l).symm.map ci))
    rw [List.pairwise_map]
    exact (srt_pw l).imp fun {a b} h => by
      unfold ci
      omega
  rw [e, ← vI_map]
abbrev NPc : List Str := ["entries", "ties", "pairs", "onward", "seen", "order", "entry", "backward", "told", "tie", "start", "end"]
theorem scPieces : FnScope NPc ["entries", "ties"] (defScope sPieces) := ⟨rfl, rfl, rfl, by decide +kernel, rfl, by decide +kernel, by decide +kernel⟩
def spPieces : Sp := fun vs H Q _ => ∃ (E T : Addr) (es : List Nat) (us : List V) (ts : List Tie), vs = [.ref E, .ref T] ∧ H E = some (.lst (es.map vI)) ∧ H T = some (.lst us) ∧ Ties H us ts ∧ es.Nodup ∧ es.length ≤ 400 ∧ ts.length ≤ 900 ∧
  ∀ H' r us', Same H H' → H r = none → H' r = some (.lst us') → (∀ b, .ref b ∈ us' → H b = none ∧ b ≠ r) → Lss H' us' (Gr.pieces es (ts.map pr2)) → Q (.ref r) H'
section
variable {P : Program} {w : World} {K : PySem.W.Frag} {mg : Str → Option Value} {base : Heap} {f f1 f2 f3 : Addr} {fd d1 d2 d3 : FuncData}
theorem ok_pieces (F : Fun K "pieces" "pieces" sPieces f fd) (AM : Cl P w K mg base CX0 1 "ties_among" ["entries", "ties"] spAmong f1 d1) (EN : Cl P w K mg base CX0 1 "ends_by_starts" ["entries", "pairs"] spEnds f2 d2) (AF : Cl P w K mg base CX0 1 "all_from" ["entry", "ends", "seen"] spAllFrom f3 d3)
    (mv : mg "reversed" = none) (ms : mg "sorted" = none) : FnOk P w K mg base CX0 2 f fd ["entries", "ties"] spPieces := by
  refine F.ok scPieces (fun vs H Q E h => ?_) (fun cdv A outer s H vs Q E hr h => ?_)
  · obtain ⟨E, T, es, us, ts, rfl, _⟩ := h
    rfl
  · obtain ⟨E', T, es, us, ts, rfl, hE, hT, tu, nd, el, tl, q⟩ := h
    refine ⟨_, pss_cons (ps_setLc (i := 2) (own := [("tie", 9)]) (g := gName 9) (tt := tYes) rfl scPieces.nd rfl rfl (sw_true rfl rfl rfl rfl) (pi_list (pe_call AM.ok hr (by rfl) AM.g AM.kp AM.bd .nil pass0 (pa_cons (pv 0) (pa_cons (pv 1) pa_nil)))) (blkOk_by (own := [("tie", 9)]) (N := NPc) (sc := defScope sPieces) (by decide +kernel))
        (fun _ _ _ _ _ => pg_name (i := 9) scPieces.nd rfl (Or.inl rfl)) (fun _ _ _ _ _ => pts_nil)
        (fun _ _ _ _ _ => pe_tup (pa_cons (pe_ix (ix_tupK (K := K) rfl) (pv 9) pe_int (fun _ _ => rfl)) (pa_cons (pe_ix (ix_tupK (K := K) rfl) (pv 9) pe_int (fun _ _ => rfl)) pa_nil))))
      (pss_cons (ps_set (i := 3) scPieces.nd rfl (.inl rfl) (pe_call EN.ok hr (by rfl) EN.g EN.kp EN.bd .nil pass0 (pa_cons (pv 0) (pa_cons (pv 2) pa_nil))))
      (pss_cons (ps_set (i := 4) scPieces.nd rfl (.inl rfl) pe_dnewK)
      (pss_cons (ps_set (i := 5) scPieces.nd rfl (.inl rfl) (pe_lst pa_nil))
      (pss_cons (ps_for PassesOwn.never rfl (pi_list (pv 0)) (pg_name (i := 6) scPieces.nd rfl (Or.inl rfl))
        (pss_one (ps_if (pt_cmp (pc_dnotin (u1 hr) (pv 6) (pv 4)) (by rfl))
          (pss_one (ps_expr (pe_bm PySem.F.plainAttrs_list PySem.F.slot_list_extend PySem.F.type_list_extend mt_extend (pv 5) (pa_cons (pe_call AF.ok hr (by rfl) AF.g AF.kp AF.bd .nil pass0 (pa_cons (pv 6) (pa_cons (pv 3) (pa_cons (pv 4) pa_nil)))) pa_nil)))) pss_nil)))
      (pss_cons (ps_set (i := 7) scPieces.nd rfl (.inl rfl) (pe_call EN.ok hr (by rfl) EN.g EN.kp EN.bd .nil pass0 (pa_cons (pv 0) (pa_cons
          (pe_lc (own := [("start", 10), ("end", 11)]) (g := gTup K 2 (gCons (gName 10) (gCons (gName 11) gNil))) (tt := tYes) rfl scPieces.nd (pi_list (pv 2)) (blkOk_by (own := [("start", 10), ("end", 11)]) (N := NPc) (sc := defScope sPieces) (by decide +kernel))
            (fun _ _ _ _ _ => pg_tup (by rfl) (pgs_cons (pg_name (i := 10) scPieces.nd rfl (.inl rfl)) (pgs_cons (pg_name (i := 11) scPieces.nd rfl (.inl rfl)) pgs_nil))) (fun _ _ _ _ _ => pts_nil)
            (fun _ _ _ _ _ => pe_tup (pa_cons (pv 11) (pa_cons (pv 10) pa_nil)))) pa_nil))))
      (pss_cons (ps_set (i := 4) scPieces.nd rfl (.inl rfl) pe_dnewK)
      (pss_cons (ps_set (i := 8) scPieces.nd rfl (.inl rfl) (pe_lst pa_nil))
      (pss_cons (ps_for PassesOwn.never rfl (pi_reversed (by rfl) mv (pa_cons (pv 5) pa_nil)) (pg_name (i := 6) scPieces.nd rfl (Or.inl rfl))
        (pss_one (ps_if (pt_cmp (pc_dnotin (u1 hr) (pv 6) (pv 4)) (by rfl))
          (pss_one (ps_expr (pe_bm PySem.F.plainAttrs_list PySem.F.slot_list_append PySem.F.type_list_append mt_append (pv 8) (pa_cons (pe_callB cr_sortedI (by rfl) ms (by decide +kernel) (pa_cons (pe_call AF.ok hr (by rfl) AF.g AF.kp AF.bd .nil pass0 (pa_cons (pv 6) (pa_cons (pv 7) (pa_cons (pv 4) pa_nil)))) pa_nil)) pa_nil)))) pss_nil)))
      (pss_one (ps_ret (pv 8))))))))))), ?_⟩
    -- pairs
    refine ⟨_, rfl, _, rfl, E', T, es, us, ts, rfl, hE, hT, tu, by omega, tl, fun H1 r1 us1 s1 hr1 e1 tu1 => ?_⟩
    refine ⟨r1, rfl, ⟨_, SqL.of e1⟩, fun D hD => ?_⟩
    have l1 := tu1.len
    have fl1 : (ts.filter (tIn es)).length ≤ ts.length := List.length_filter_le _ _
    refine lc_list (K := K) (xs := us1) (fun i H' => ∃ ps, H' D = some (.lst ps) ∧ Prs H' ps (((ts.filter (tIn es)).take i).map pr2) ∧ Same H1 H')
      ⟨[], upd_same, .nil, same_new hD⟩ (fun i H' _ hp => ?_) (fun i x H2 hx hp => ?_) (fun H2 hp => ?_)
    · obtain ⟨_, _, _, sm⟩ := hp
      exact SqL.of (sm _ _ e1)
    · obtain ⟨ps, e2, pr, sm⟩ := hp
      obtain ⟨t, l, a, b, ls, rfl, et, ht, hl⟩ := tu1.at hx
      have il : i < us1.length := (List.getElem?_eq_some_iff.mp hx).1
      have lp := pr.len
      rw [List.length_map, List.length_take] at lp
      refine ⟨rfl, ?_⟩
      refine ⟨_, rfl, t, _, 0, _, rfl, rfl, SqT.of (sm _ _ ht), atI_nat (j := 0) rfl, _, rfl, t, _, 1, _, rfl, rfl, SqT.of (sm _ _ ht), atI_nat (j := 1) rfl, by show 2 ≤ sizeLine; decide, fun t2 ht2 => ?_⟩
      have s3 := same_new (o := .tup [.int (a : Nat), .int (b : Nat)]) ht2
      have e3 := s3 _ _ e2
      have t4 := tk_lst (o := .lst (ps ++ [.ref t2])) e3
      refine ⟨ps, e3, small1000 (by omega), ps ++ [.ref t2], upd_same, ?_, keep_new hD (sm.trans s3)⟩
      rw [take_map et]
      exact ((pr.tk (tk_same s3)).app (.cons upd_same .nil)).tk t4
    obtain ⟨ps, e2, pr, sm⟩ := hp
    rw [l1, List.take_length, ← among_of] at pr
    have sH2 := s1.trans sm
    have lam : (among es (ts.map pr2)).length ≤ 900 := by
      rw [among_of, List.length_map]
      omega
    have cla : ∀ x ∈ es, ∀ y ∈ adjOf (among es (ts.map pr2)) x, y ∈ es := fun x _ y hy => (among_mem.mp (adj_mem.mp hy)).2.2
    have clb : ∀ x ∈ es, ∀ y ∈ adjOf (swp (among es (ts.map pr2))) x, y ∈ es := fun x _ y hy => (among_mem.mp (swp_mem.mp (adj_mem.mp hy))).2.1
    have piE : Gr.pieces es (ts.map pr2) = (goBack es (adjOf (swp (among es (ts.map pr2)))) (goAll es (adjOf (among es (ts.map pr2))) es ([], [])).1.reverse ([], [])).1 := rfl
    rw [piE] at q
    have subA : ∀ p ∈ among es (ts.map pr2), p.1 ∈ es := fun p hp => (among_mem.mp (show (p.1, p.2) ∈ _ from hp)).2.1
    have subB : ∀ p ∈ swp (among es (ts.map pr2)), p.1 ∈ es := fun p hp => (among_mem.mp (swp_mem.mp (show (p.1, p.2) ∈ _ from hp))).2.2
    generalize among es (ts.map pr2) = am at *
    -- onward
    refine ⟨_, rfl, _, rfl, E', D, es, ps, am, rfl, sH2 _ _ hE, e2, pr, nd, subA, by omega, lam, fun H3 ro s3 hro en => ?_⟩
    have sH3 := sH2.trans s3
    intro S hS
    have s4 := same_new (o := .dK []) hS
    refine ⟨by show 0 ≤ sizeLine; decide, fun O hO => ?_⟩
    have s5 := same_new (o := .lst []) hO
    have SO : S ≠ O := fun e => by
      rw [← e, upd_same] at hO
      cases hO
    have hO3 : H3 O = none := free_same s4 hO
    have rS : ro ≠ S := fun e => by
      obtain ⟨al, h, _⟩ := en
      rw [e, hS] at h
      cases h
    have ml : (es.map vI).length = es.length := List.length_map ..
    have eS5 : upd (upd H3 S (.dK [])) O (.lst []) S = some (.dK []) := by
      rw [upd_ne SO]
      exact upd_same
    refine ⟨_, rfl, E', rfl, ⟨_, SqL.of ((s4.trans s5) _ _ (sH3 _ _ hE))⟩, for_list (K := K) (xs := es.map vI) (fun i σ H' => ∃ x6, σ = [some (.ref E'), some (.ref T), some (.ref D), some (.ref ro), some (.ref S), some (.ref O), x6, none, none, none, none, none] ∧ Same H3 H' ∧ Kys es (goAll es (adjOf am) (es.take i) ([], [])).2 ∧
        H' S = some (.dK ((goAll es (adjOf am) (es.take i) ([], [])).2.map kvT)) ∧ H' O = some (.lst ((goAll es (adjOf am) (es.take i) ([], [])).1.map vI)))
      ⟨_, rfl, s4.trans s5, ⟨List.nodup_nil, fun x hx => absurd hx List.not_mem_nil⟩, eS5, upd_same⟩ (fun i σ H' _ hp => ?_) (fun i x σ H6 hx hp => ?_) (fun σ H6 hp => ?_)⟩
    · obtain ⟨_, _, sm, _⟩ := hp
      exact SqL.of (sm _ _ (sH3 _ _ hE))
    · obtain ⟨x6, rfl, s6, ky, eS, eO⟩ := hp
      have il : i < es.length := by
        have := (List.getElem?_eq_some_iff.mp hx).1
        rw [ml] at this
        exact this
      rw [List.getElem?_map, List.getElem?_eq_getElem il] at hx
      cases hx
      have tk : es.take (i + 1) = es.take i ++ [es[i]] := by
        rw [List.take_add_one, List.getElem?_eq_getElem il]
        rfl
      have he : es[i] ∈ es := List.getElem_mem il
      have G := (goAll_ok (es := es) (adj := adjOf am) (r := es.take i) (O := []) (ks := []) cla (fun x hx => List.mem_of_mem_take hx) ⟨fun x => Iff.rfl, List.nodup_nil, fun x hx => absurd hx List.not_mem_nil, fun u hu => absurd hu List.not_mem_nil⟩).1
      rw [tk, goAll_snoc]
      generalize goAll es (adjOf am) (es.take i) ([], []) = go at *
      obtain ⟨od, ks⟩ := go
      dsimp only at *
      have lo := pig G.nd G.sub
      have lk := pig ky.nd ky.sub
      refine ⟨_, rfl, _, rfl, S, _, rfl, (show DGet H6 S (kV (Sum.inl ((es[i] : Nat) : Int))) _ from DGet.k eS), _, rfl, ?_⟩
      rw [val_ks]
      by_cases c : es[i] ∈ ks
      · rw [if_pos c, if_pos c]
        exact iteF ⟨_, rfl, s6, ky, eS, eO⟩
      · rw [if_neg c, if_neg c]
        refine iteT ?_
        have h0 : ∀ x ∈ ks, x ∈ es := ky.sub
        obtain ⟨W, _⟩ := dfs_went cla he h0 c
        have lw : (dfs es (adjOf am) ks es[i]).ord.length ≤ es.length := pig W.nd fun x hx => (dfs_went cla he h0 c).2 x ((W.keys x).mpr (.inr hx))
        refine ⟨_, rfl, .inl ⟨rfl, _, SqL.of eO⟩, _, rfl, _, rfl, _, rfl, es[i], ro, S, es, ks, adjOf am, rfl, en.same s6, eS, rS, cla, he, h0, c, by omega, by omega, fun H7 o k7 eS7 ho oS eo => ?_⟩
        have oO : o ≠ O := fun e => by
          rw [e, eO] at ho
          cases ho
        have eO7 := k7 _ _ SO.symm eO
        refine ⟨O, o, _, _, rfl, rfl, eO7, eo, Nat.le_of_lt (small1000 (by rw [List.length_map, List.length_map]; omega)), ?_⟩
        have s7 : Same H3 H7 := fun b u e => k7 _ _ (ne_of_none e hS) (s6 _ _ e)
        refine ⟨_, rfl, keep_new hO3 s7, kys_dfs cla he ky c (nd_dfs ky.nd c), ?_, ?_⟩
        · rw [upd_ne SO]
          exact eS7
        · rw [upd_same, List.map_append]
    obtain ⟨x6, rfl, s6, ky, eS, eO⟩ := hp
    rw [ml, List.take_length] at ky eS eO
    have G := (goAll_ok (es := es) (adj := adjOf am) (r := es) (O := []) (ks := []) cla (fun x hx => hx) ⟨fun x => Iff.rfl, List.nodup_nil, fun x hx => absurd hx List.not_mem_nil, fun u hu => absurd hu List.not_mem_nil⟩).1
    generalize goAll es (adjOf am) es ([], []) = go at *
    obtain ⟨od, ks⟩ := go
    dsimp only at *
    have lo := pig G.nd G.sub
    -- backward
    have e26 : H6 D = some (.lst ps) := s6 _ _ (s3 _ _ e2)
    have pr6 := (pr.tk (tk_same s3)).tk (tk_same s6)
    have lpr := pr.len
    refine ⟨_, rfl, _, rfl, D, rfl, ⟨_, SqL.of e26⟩, fun D2 hD2 => ?_⟩
    refine lc_list (K := K) (xs := ps) (fun i H' => ∃ qs, H' D2 = some (.lst qs) ∧ Prs H' qs ((am.take i).map fun p => (p.2, p.1)) ∧ Same H6 H')
      ⟨[], upd_same, .nil, same_new hD2⟩ (fun i H' _ hp => ?_) (fun i x H7 hx hp => ?_) (fun H7 hp => ?_)
    · obtain ⟨_, _, _, sm⟩ := hp
      exact SqL.of (sm _ _ e26)
    · obtain ⟨qs, e7, pq, s7⟩ := hp
      obtain ⟨t, a, b, rfl, et, ht⟩ := pr6.at hx
      have il : i < ps.length := (List.getElem?_eq_some_iff.mp hx).1
      have lp := pq.len
      rw [List.length_map, List.length_take] at lp
      refine ⟨t, _, rfl, SqT.of (s7 _ _ ht), rfl, _, _, rfl, _, _, rfl, rfl, rfl, ?_⟩
      refine ⟨_, rfl, _, rfl, by show 2 ≤ sizeLine; decide, fun t2 ht2 => ?_⟩
      have s8 := same_new (o := .tup [.int (b : Nat), .int (a : Nat)]) ht2
      have e8 := s8 _ _ e7
      have t9 := tk_lst (o := .lst (qs ++ [.ref t2])) e8
      refine ⟨qs, e8, small1000 (by omega), qs ++ [.ref t2], upd_same, ?_, keep_new hD2 (s7.trans s8)⟩
      rw [take_map et]
      exact ((pq.tk (tk_same s8)).app (.cons upd_same .nil)).tk t9
    obtain ⟨qs, e7, pq, s7⟩ := hp
    rw [lpr, List.take_length] at pq
    have sH7 := (sH3.trans s6).trans s7
    have lsw : (swp am).length ≤ 900 := by
      unfold swp
      rw [List.length_map]
      exact lam
    refine ⟨E', D2, es, qs, swp am, rfl, sH7 _ _ hE, e7, pq, nd, subB, by omega, lsw, fun H8 rb s8 hrb enb => ?_⟩
    have eO8 : H8 O = some (.lst (od.map vI)) := s8 _ _ (s7 _ _ eO)
    have sH8 := sH7.trans s8
    intro S2 hS2
    have s9 := same_new (o := .dK []) hS2
    refine ⟨by show 0 ≤ sizeLine; decide, fun O2 hO2 => ?_⟩
    have s10 := same_new (o := .lst []) hO2
    have SO2 : S2 ≠ O2 := fun e => by
      rw [← e, upd_same] at hO2
      cases hO2
    have hO28 : H8 O2 = none := free_same s9 hO2
    have hO20 : H O2 = none := free_same sH8 hO28
    have rS2 : rb ≠ S2 := fun e => by
      obtain ⟨al, h, _⟩ := enb
      rw [e, hS2] at h
      cases h
    have eS10 : upd (upd H8 S2 (.dK [])) O2 (.lst []) S2 = some (.dK []) := by
      rw [upd_ne SO2]
      exact upd_same
    have mo : (od.map vI).length = od.length := List.length_map ..
    refine ⟨_, rfl, O, od.map vI, rfl, SqL.of ((s9.trans s10) _ _ eO8), ?_⟩
    rw [mo]
    refine walkF (J := Itv K O od.length) (n := od.length) (fun i σ H' => ∃ x6 us', σ = [some (.ref E'), some (.ref T), some (.ref D), some (.ref ro), some (.ref S2), some (.ref O), x6, some (.ref rb), some (.ref O2), none, none, none] ∧ Same H8 H' ∧ Kys es (goBack es (adjOf (swp am)) (od.reverse.take i) ([], [])).2 ∧
        H' S2 = some (.dK ((goBack es (adjOf (swp am)) (od.reverse.take i) ([], [])).2.map kvT)) ∧ H' O2 = some (.lst us') ∧ (∀ b, .ref b ∈ us' → H8 b = none ∧ b ≠ S2 ∧ b ≠ O2) ∧ Lss H' us' (goBack es (adjOf (swp am)) (od.reverse.take i) ([], [])).1 ∧ us'.length ≤ i)
      ⟨_, [], rfl, s9.trans s10, ⟨List.nodup_nil, fun x hx => absurd hx List.not_mem_nil⟩, eS10, upd_same, fun b hb => absurd hb List.not_mem_nil, .nil, Nat.le_refl _⟩ (fun i σ H' hi hp => ?_) (fun σ H' hp => Nat.le_refl _) (fun i x σ H9o H9 hi hp hy => ?_) (fun σ H9 hp => ?_)
    · obtain ⟨_, _, _, sm, _⟩ := hp
      exact ⟨hi, _, _, SqL.of (sm _ _ eO8), List.getElem?_eq_getElem (by rw [mo]; omega)⟩
    · obtain ⟨x6, us', rfl, s11, kyb, eSb, eOb, fr, ls, lu⟩ := hp
      obtain ⟨rfl, hy⟩ := hy
      have hx := hy _ (SqL.of (s11 _ _ eO8))
      have ir : od.length - 1 - i < od.length := by omega
      rw [List.getElem?_map, List.getElem?_eq_getElem ir] at hx
      cases hx
      have er : od.reverse[i]? = some (od[od.length - 1 - i]) := by
        rw [List.getElem?_reverse (by omega), List.getElem?_eq_getElem ir]
      have tk : od.reverse.take (i + 1) = od.reverse.take i ++ [od[od.length - 1 - i]] := by
        rw [List.take_add_one, er]
        rfl
      have he : od[od.length - 1 - i] ∈ es := G.sub _ (List.getElem_mem ir)
      generalize od[od.length - 1 - i] = e at *
      rw [tk, goBack_snoc]
      generalize goBack es (adjOf (swp am)) (od.reverse.take i) ([], []) = go at *
      obtain ⟨T9, kb⟩ := go
      dsimp only at *
      have lk := pig kyb.nd kyb.sub
      refine ⟨_, rfl, _, rfl, S2, _, rfl, (show DGet H9 S2 (kV (Sum.inl (e : Int))) _ from DGet.k eSb), _, rfl, ?_⟩
      rw [val_ks]
      by_cases c : e ∈ kb
      · rw [if_pos c, if_pos c]
        exact iteF ⟨_, _, rfl, s11, kyb, eSb, eOb, fr, ls, by omega⟩
      · rw [if_neg c, if_neg c]
        refine iteT ?_
        refine ⟨_, rfl, .inl ⟨rfl, _, SqL.of eOb⟩, _, rfl, _, rfl, _, rfl, e, rb, S2, es, kb, adjOf (swp am), rfl, enb.same s11, eSb, rS2, clb, he, kyb.sub, c, by omega, by omega, fun H12 o k12 eS12 ho oS eo => ?_⟩
        refine ⟨o, (dfs es (adjOf (swp am)) kb e).ord.map ci, rfl, by rw [← vI_map]; exact SqL.of eo, fun ns' pp perm ris hpp => ?_⟩
        rw [sorted_int perm ris]
        have eO12 := k12 _ _ SO2.symm eOb
        have s13 := same_new (o := .lst ((srt (dfs es (adjOf (swp am)) kb e).ord).map vI)) hpp
        have ppO : pp ≠ O2 := fun z => by
          rw [z, eO12] at hpp
          cases hpp
        have ppS : pp ≠ S2 := fun z => by
          rw [z, eS12] at hpp
          cases hpp
        have s12 : Same H8 H12 := fun b u z => k12 _ _ (ne_of_none z hS2) (s11 _ _ z)
        refine ⟨O2, us', _, rfl, rfl, s13 _ _ eO12, small1000 (by omega), ?_⟩
        refine ⟨_, us' ++ [.ref pp], rfl, keep_new hO28 (s12.trans s13), kys_dfs clb he kyb c (nd_dfs kyb.nd c), ?_, upd_same, fun b hb => ?_, ?_, by rw [List.length_append]; exact Nat.succ_le_succ lu⟩
        · rw [upd_ne SO2]
          exact s13 _ _ eS12
        · rcases List.mem_append.mp hb with hb | hb
          · exact fr b hb
          · cases List.mem_singleton.mp hb
            exact ⟨free_same s12 hpp, ppS, ppO⟩
        · refine Lss.app ?_ (.cons (by rw [upd_ne ppO]; exact upd_same) .nil)
          refine Lss.keep (p := S2) (q := O2) (fun b xs n1 n2 h => ?_) (fun z => (fr _ z).2.1 rfl) (fun z => (fr _ z).2.2 rfl) ls
          rw [upd_ne n2]
          exact s13 _ _ (k12 _ _ n1 h)
    · obtain ⟨x6, us', rfl, s11, kyb, eSb, eOb, fr, ls, lu⟩ := hp
      refine ⟨_, rfl, q H9 O2 us' (sH8.trans s11) hO20 eOb (fun b hb => ⟨free_same sH8 (fr b hb).1, (fr b hb).2.2⟩) ?_⟩
      have tl : od.reverse.take od.length = od.reverse := List.take_of_length_le (by rw [List.length_reverse]; exact Nat.le_refl _)
      rw [tl] at ls
      exact ls
end
end W35

namespace Gs
open PySem PySem.Spec PyProof.Rows L2
/-- xs != []: whatever the items are -/
theorem op_neNil {X : Cx} (hu : X.A.units < cLine) : OpR X (compareOp .NotEq) (fun x y H Q => ∃ a b xs, x = .ref a ∧ y = .ref b ∧ SqL X.K H a xs ∧ SqL X.K H b [] ∧ Q (.bl (decide (0 < xs.length))) H) := by
  intro pins s σ H x y v u Q I rx ry h
  obtain ⟨a, b, xs, rfl, rfl, ha, hb, q⟩ := h
  cases rx
  cases ry
  obtain ⟨its, r, ht, hz⟩ := I.list ha
  obtain ⟨its2, r2, ht2, hz2⟩ := I.list hb
  cases r2
  have hl := r.length
  by_cases c : 0 < xs.length
  · rw [decide_eq_true c] at q
    exact SeqAt.RcNeAt.lists_lengths ht.isList ht2.isList (by cases its with
      | nil => exact absurd c (by rw [hl]; exact Nat.lt_irrefl 0)
      | cons z zs => simp) hu X.prog X.w _ _ ⟨.bl true, H, I, rfl, q⟩
  · rw [decide_eq_false c] at q
    have e : its = [] := by
      cases its with
      | nil => rfl
      | cons z zs => exact absurd (show 0 < xs.length by rw [hl]; exact Nat.succ_pos _) c
    subst e
    exact SeqAt.RcNeAt.lists (e := fun _ => true) ht.isList ht2.isList rfl hu (fun j h1 => absurd h1 (Nat.not_lt_zero _)) X.prog X.w _ _ ⟨.bl false, H, I, rfl, q⟩
end Gs

namespace W35
open PySem PySem.Spec PyProof.Rows L2 Gs Gp Gr
/-! ### a pool, and what is taken of it -/
def Lf (H : Hp) (p : Addr) : Prop := ∃ x y : Int, H p = some (.lst [.int x, .int y]) ∧ 0 ≤ y ∧ y < 2147483647
theorem lf_ne {p b : Addr} {H : Hp} (hp : Lf H p) (h : H b = none) : p ≠ b := fun e => by
  obtain ⟨x, y, hp, _⟩ := hp
  rw [e, h] at hp
  cases hp
theorem lf_upd {p b : Addr} {H : Hp} {o : HO} (hp : Lf H p) (h : p ≠ b) : Lf (upd H b o) p := by
  obtain ⟨x, y, hp, hy⟩ := hp
  exact ⟨x, y, by rw [upd_ne h]; exact hp, hy⟩
theorem lf_same {p : Addr} {H H' : Hp} (lf : Lf H p) (s : Same H H') : Lf H' p := by
  obtain ⟨x, y, h, hy⟩ := lf
  exact ⟨x, y, s _ _ h, hy⟩
theorem tk_keep {H H' : Hp} {p : Addr} (k : Keep p H H') (hp : Lf H p) : TK H H' := fun b xs h => by
  obtain ⟨x, y, hp, _⟩ := hp
  exact k b _ (fun e => by rw [e, hp] at h; cases h) h
abbrev NPo : List Str := ["_law_script", "_law_k", "_law_cell", "_law_seed"]
theorem scPool : FnScope NPo ["_law_script", "_law_k"] (defScope sPool) := ⟨rfl, rfl, rfl, by decide +kernel, rfl, by decide +kernel, by decide +kernel⟩
theorem scTake : FnScope ["_law_pool_here", "_law_many", "_law_digit"] ["_law_pool_here", "_law_many"] (defScope sTake) := ⟨rfl, rfl, rfl, by decide +kernel, rfl, by decide +kernel, by decide +kernel⟩
def spPool (K : PySem.W.Frag) : Sp := fun vs H Q _ => ∃ (a : Addr) (ns : List Int) (k : Nat), vs = [.ref a, .int k] ∧ SqL K H a (ns.map V.int) ∧ ns.length ≤ 63 ∧ k ≤ 100 ∧ ∀ H' p, Same H H' → H p = none → Lf H' p → Q (.ref p) H'
def spTake : Sp := fun vs H Q _ => ∃ (p : Addr) (m : Nat), vs = [.ref p, .int m] ∧ Lf H p ∧ 0 < m ∧ m < 1000 ∧ ∀ H' (d : Nat), Keep p H H' → Lf H' p → d < m → Q (.int d) H'
section
variable {P : Program} {w : World} {K : PySem.W.Frag} {mg : Str → Option Value} {base : Heap} {f f1 f2 : Addr} {fd d1 d2 : FuncData} {k : Nat}
theorem ok_pool (F : Fun K "_law_pool" "_law_pool" sPool f fd) (ml : mg "len" = none) (mi : mg "int" = none) : FnOk P w K mg base CX0 (k + 1) f fd ["_law_script", "_law_k"] (spPool K) := by
  refine F.ok scPool (fun vs H Q E h => ?_) (fun cdv A outer s H vs Q E hr h => ?_)
  · obtain ⟨a, ns, k, rfl, _⟩ := h
    rfl
  · obtain ⟨a, ns, kk, rfl, hS, hn, hk, q⟩ := h
    refine ⟨_, pss_cons (ps_set (i := 2) scPool.nd rfl (.inl rfl) pe_int)
      (pss_join (ps_if (pt_cmpR (op_neNil hr.units0) (pv 0) (pe_lst pa_nil) (nomark _)) (pss_one (ps_set (i := 2) scPool.nd rfl (.inl rfl) (pe_ix ix_list (pv 0) (pe_op op_mod (pv 1) (pe_callB call_len_seq (by rfl) ml PySem.boot_len (pa_cons (pv 0) pa_nil))) (fun _ _ => rfl)))) pss_nil)
      (pss_join (ps_if (pt_cmpR op_ge (pv 1) (pe_callB call_len_seq (by rfl) ml PySem.boot_len (pa_cons (pv 0) pa_nil)) (nomark _))
        (pss_one (ps_set (i := 2) scPool.nd rfl (.inl rfl) (pe_ix ix_list (pe_lst (pa_cons (pe_op op_mod (pv 2) pe_int) (pa_cons (pe_op op_fdivW (pv 2) (pe_op op_pow pe_int pe_int)) pa_nil))) (pe_callTy call_int1 (by rfl) mi (by decide +kernel) (pa_cons (pe_cmpR op_ge (pv 2) (pe_op op_pow pe_int pe_int) (nomark _)) pa_nil)) (fun _ _ => rfl)))) pss_nil)
      (pss_cons (ps_set (i := 3) scPool.nd rfl (.inl rfl) (pe_op op_mod (pe_op op_mul (pe_op op_add (pe_op op_add (pe_op op_mod (pv 2) pe_int) (pe_op op_mul pe_int (pv 1))) pe_int) pe_int) pe_int))
      (pss_one (ps_ret (pe_lst (pa_cons (pe_op op_mul (pv 2) (pe_callTy call_int1 (by rfl) mi (by decide +kernel) (pa_cons (pe_cmpR op_ge (pv 2) (pe_op op_pow pe_int pe_int) (nomark _)) pa_nil))) (pa_cons (pv 3) pa_nil)))))))), ?_⟩
    refine ⟨fun σ H' => Same H H' ∧ ∃ c : Int, σ = [some (.ref a), some (.int kk), some (.int c), none], ?_, fun σ H1 hp => ?_⟩
    · refine ⟨_, rfl, by show 0 ≤ sizeLine; decide, fun B hB => ?_⟩
      have s1 := same_new (o := .lst []) hB
      have hS1 := s1.seq hS
      refine ⟨a, B, _, rfl, rfl, hS1, SqL.of upd_same, _, rfl, ?_⟩
      rw [List.length_map]
      by_cases c : 0 < ns.length
      · refine iteP (decide_eq_true c) ?_
        have z0 := Int.emod_nonneg (kk : Int) (show (ns.length : Int) ≠ 0 by omega)
        have z1 := Int.emod_lt_of_pos (kk : Int) (show (0 : Int) < (ns.length : Int) by omega)
        obtain ⟨j, hj⟩ : ∃ j : Nat, (kk : Int) % (ns.length : Int) = (j : Int) := ⟨((kk : Int) % (ns.length : Int)).toNat, by omega⟩
        have jl : j < ns.length := by omega
        refine ⟨_, rfl, _, rfl, _, rfl, a, _, rfl, .inl hS1, _, _, rfl, rfl, by rw [List.length_map]; omega, a, _, _, .int ns[j], rfl, rfl, hS1, ?_, ?_⟩
        · rw [List.length_map, hj]
          exact atI_nat (by rw [List.getElem?_map, List.getElem?_eq_getElem jl]; rfl)
        · exact ⟨s1, _, rfl⟩
      · exact iteN (decide_eq_false c) ⟨s1, _, rfl⟩
    obtain ⟨s1, c, rfl⟩ := hp
    refine ⟨fun σ H' => Same H H' ∧ ∃ c : Int, σ = [some (.ref a), some (.int kk), some (.int c), none], ?_, fun σ H2 hp => ?_⟩
    · refine ⟨_, rfl, _, rfl, a, _, rfl, .inl (s1.seq hS), _, _, rfl, rfl, _, rfl, ?_⟩
      refine ite2 (fun _ => ?_) (fun _ => ⟨s1, _, rfl⟩)
      refine ⟨_, rfl, _, _, rfl, rfl, by show (0 : Int) < 1000003; decide, _, rfl, 10, 18, rfl, rfl, ⟨by decide, by decide, by decide⟩, _, _, rfl, rfl, ⟨by decide, log_of (n := 100) (by decide) (by decide) (by decide)⟩, by show 2 ≤ sizeLine; decide, fun B hB => ?_⟩
      have s2 := s1.trans (same_new (o := .lst [.int (c % 1000003), .int (c / 10 ^ (18 : Int).toNat)]) hB)
      refine ⟨_, rfl, 10, 36, rfl, rfl, ⟨by decide, by decide, by decide⟩, _, _, rfl, rfl, .inr ⟨_, rfl, ?_⟩⟩
      cases decide ((10 : Int) ^ (36 : Int).toNat ≤ c) with
      | true => exact ⟨B, _, 1, _, rfl, rfl, SqL.of upd_same, atI_nat (j := 1) rfl, s2, _, rfl⟩
      | false => exact ⟨B, _, 0, _, rfl, rfl, SqL.of upd_same, atI_nat (j := 0) rfl, s2, _, rfl⟩
    obtain ⟨s2, c, rfl⟩ := hp
    refine ⟨_, rfl, _, _, rfl, rfl, by show (0 : Int) < 2147483629; decide, _, rfl, _, _, rfl, rfl, .inl ⟨by decide, by decide⟩, _, _, rfl, rfl, _, _, rfl, rfl, _, _, rfl, rfl, .inr ⟨by decide, by decide⟩, _, _, rfl, rfl, by show (0 : Int) < 2147483647; decide, ?_⟩
    have y0 := Int.emod_nonneg ((c % 2147483629 + 104729 * (kk : Int) + 11) * 48271) (show (2147483647 : Int) ≠ 0 by decide)
    have y1 := Int.emod_lt_of_pos ((c % 2147483629 + 104729 * (kk : Int) + 11) * 48271) (show (0 : Int) < 2147483647 by decide)
    refine ⟨_, rfl, _, rfl, 10, 18, rfl, rfl, ⟨by decide, by decide, by decide⟩, _, _, rfl, rfl, .inr ⟨_, rfl, ?_⟩⟩
    refine ⟨_, _, rfl, rfl, .inr (by split <;> exact ⟨by decide, by decide⟩), _, rfl, by show 2 ≤ sizeLine; decide, fun p hp => ?_⟩
    exact q _ p (s2.trans (same_new hp)) (free_same s2 hp) ⟨_, _, upd_same, y0, y1⟩
theorem ok_take (F : Fun K "_law_take" "_law_take" sTake f fd) : FnOk P w K mg base CX0 (k + 1) f fd ["_law_pool_here", "_law_many"] spTake := by
  refine F.ok scTake (fun vs H Q E h => ?_) (fun cdv A outer s H vs Q E hr h => ?_)
  · obtain ⟨p, m, rfl, _⟩ := h
    rfl
  · obtain ⟨p, m, rfl, ⟨x, y, hp, y0, y1⟩, m0, m1, q⟩ := h
    refine ⟨_, pss_cons (ps_if (pt_cmpR op_gt (pe_ix ix_list (pv 0) pe_int (fun _ _ => rfl)) pe_int (nomark _))
        (pss_cons (ps_set (i := 2) scTake.nd rfl (.inl rfl) (pe_op op_mod (pe_ix ix_list (pv 0) pe_int (fun _ _ => rfl)) (pv 1)))
        (pss_cons (ps_asg (pe_op op_fdivW (pe_ix ix_list (pv 0) pe_int (fun _ _ => rfl)) (pv 1)) (pg_sub (pv 0) pe_int set_list))
        (pss_one (ps_ret (pv 2))))) pss_nil)
      (pss_cons (ps_asg (pe_op op_mod (pe_op op_add (pe_op op_mul (pe_ix ix_list (pv 0) pe_int (fun _ _ => rfl)) pe_int) pe_int) pe_int) (pg_sub (pv 0) pe_int set_list))
      (pss_one (ps_ret (pe_op op_mod (pe_op op_fdivW (pe_op op_mod (pe_op op_mul (pe_ix ix_list (pv 0) pe_int (fun _ _ => rfl)) (pe_ix ix_list (pv 0) pe_int (fun _ _ => rfl))) pe_int) pe_int) (pv 1))))), ?_⟩
    have mz : (0 : Int) < (m : Int) := by omega
    refine ⟨_, rfl, p, _, 0, _, rfl, rfl, SqL.of hp, atI_nat (j := 0) rfl, _, _, rfl, rfl, _, rfl, ite2 (fun _ => ?_) (fun _ => ?_)⟩
    · have z0 := Int.emod_nonneg x (show (m : Int) ≠ 0 by omega)
      have z1 := Int.emod_lt_of_pos x mz
      obtain ⟨j, hj⟩ : ∃ j : Nat, x % (m : Int) = (j : Int) := ⟨(x % (m : Int)).toNat, by omega⟩
      refine ⟨_, rfl, p, _, 0, _, rfl, rfl, SqL.of hp, atI_nat (j := 0) rfl, _, rfl, _, _, rfl, rfl, mz, ?_⟩
      refine ⟨_, rfl, p, _, 0, _, rfl, rfl, SqL.of hp, atI_nat (j := 0) rfl, _, rfl, _, _, rfl, rfl, ⟨mz, log_of (n := 20) (by decide) (by decide) (by omega)⟩, ?_⟩
      refine ⟨_, rfl, p, _, 0, 0, rfl, rfl, hp, rfl, ?_⟩
      refine ⟨_, rfl, ?_⟩
      have fin := q (upd H p (.lst [.int (x / (m : Int)), .int y])) j keep_upd ⟨_, _, upd_same, y0, y1⟩ (by omega)
      rw [← hj] at fin
      exact fin
    · refine ⟨_, rfl, p, _, 1, _, rfl, rfl, SqL.of hp, atI_nat (j := 1) rfl, _, _, rfl, rfl, .inr ⟨by decide, by decide⟩, _, _, rfl, rfl, _, _, rfl, rfl, by show (0 : Int) < 2147483647; decide, ?_⟩
      refine ⟨_, rfl, p, _, 1, 1, rfl, rfl, hp, rfl, ?_⟩
      have y2 := Int.emod_nonneg (y * 48271 + 11) (show (2147483647 : Int) ≠ 0 by decide)
      have y3 := Int.emod_lt_of_pos (y * 48271 + 11) (show (0 : Int) < 2147483647 by decide)
      have e1 : upd H p (.lst ([V.int x, V.int y].set 1 (.int ((y * 48271 + 11) % 2147483647)))) p = some (.lst [.int x, .int ((y * 48271 + 11) % 2147483647)]) := upd_same
      refine ⟨_, rfl, p, _, 1, _, rfl, rfl, SqL.of e1, atI_nat (j := 1) rfl, _, rfl, p, _, 1, _, rfl, rfl, SqL.of e1, atI_nat (j := 1) rfl, _, _, rfl, rfl, .inl ⟨by omega, by omega⟩, _, _, rfl, rfl, by show (0 : Int) < 2147483629; decide, _, _, rfl, rfl, ⟨by decide, log_of (n := 20) (by decide) (by decide) (by decide)⟩, _, rfl, _, _, rfl, rfl, mz, ?_⟩
      have z0 := Int.emod_nonneg ((y * 48271 + 11) % 2147483647 * ((y * 48271 + 11) % 2147483647) % 2147483629 / 64) (show (m : Int) ≠ 0 by omega)
      have z1 := Int.emod_lt_of_pos ((y * 48271 + 11) % 2147483647 * ((y * 48271 + 11) % 2147483647) % 2147483629 / 64) mz
      obtain ⟨j, hj⟩ : ∃ j : Nat, (y * 48271 + 11) % 2147483647 * ((y * 48271 + 11) % 2147483647) % 2147483629 / 64 % (m : Int) = (j : Int) := ⟨((y * 48271 + 11) % 2147483647 * ((y * 48271 + 11) % 2147483647) % 2147483629 / 64 % (m : Int)).toNat, by omega⟩
      have fin := q (upd H p (.lst [.int x, .int ((y * 48271 + 11) % 2147483647)])) j keep_upd ⟨_, _, upd_same, y2, y3⟩ (by omega)
      rw [← hj] at fin
      exact fin
end
end W35

namespace Gs
/-! the mathematics of shares -/
def gI (a b : Int) : Int := ((Int.gcd a b : Nat) : Int)
def lw (t b : Int) : Int × Int :=
  if b < 0 then (t.fdiv (-(gI t b)), b.fdiv (-(gI t b))) else (t.fdiv (gI t b), b.fdiv (gI t b))
def Sh (x : Int × Int) : Prop := 0 < x.2 ∧ Int.gcd x.1 x.2 = 1
theorem lw_ex (t b : Int) (h : b ≠ 0) : ∃ (g : Int), 0 < g ∧ g = gI t b ∧ ∃ p q : Int, lw t b = (p, q) ∧ Sh (p, q) ∧
    ((b < 0 ∧ t = -g * p ∧ b = -g * q) ∨ (0 < b ∧ t = g * p ∧ b = g * q)) := by
  have g0 : 0 < Int.gcd t b := by
    rcases Nat.eq_zero_or_pos (Int.gcd t b) with e | e
    · exact absurd (Int.gcd_eq_zero_iff.mp e).2 h
    · exact e
  have gp : 0 < gI t b := by unfold gI; omega
  obtain ⟨t', ht⟩ : gI t b ∣ t := Int.gcd_dvd_left t b
  obtain ⟨b', hb⟩ : gI t b ∣ b := Int.gcd_dvd_right t b
  have cop : Int.gcd t' b' = 1 := by
    have e1 := Int.gcd_mul_left (gI t b) t' b'
    rw [← ht, ← hb] at e1
    have e2 : (gI t b).natAbs = Int.gcd t b := by unfold gI; omega
    rw [e2] at e1
    have e3 : Int.gcd t b * 1 = Int.gcd t b * Int.gcd t' b' := by rw [Nat.mul_one]; exact e1
    exact (Nat.eq_of_mul_eq_mul_left g0 e3).symm
  generalize eg : gI t b = g at *
  have gne : g ≠ 0 := by omega
  refine ⟨g, gp, rfl, ?_⟩
  by_cases hn : b < 0
  · refine ⟨-t', -b', ?_, ⟨?_, ?_⟩, .inl ⟨hn, ?_, ?_⟩⟩
    · unfold lw
      rw [if_pos hn, eg]
      have e1 : t = (-g) * (-t') := by rw [ht]; grind
      have e2 : b = (-g) * (-b') := by rw [hb]; grind
      have z1 : t.fdiv (-g) = -t' := by rw [e1]; exact Int.mul_fdiv_cancel_left _ (by omega)
      have z2 : b.fdiv (-g) = -b' := by rw [e2]; exact Int.mul_fdiv_cancel_left _ (by omega)
      rw [z1, z2]
    · show 0 < -b'
      by_cases e : b' < 0
      · omega
      · have := Int.mul_nonneg (Int.le_of_lt gp) (show 0 ≤ b' by omega)
        omega
    · show Int.gcd (-t') (-b') = 1
      rw [Int.neg_gcd, Int.gcd_neg]
      exact cop
    · rw [ht]; grind
    · rw [hb]; grind
  · have bp : 0 < b := by omega
    refine ⟨t', b', ?_, ⟨?_, cop⟩, .inr ⟨bp, ht, hb⟩⟩
    · unfold lw
      rw [if_neg hn, eg]
      have z1 : t.fdiv g = t' := by rw [ht]; exact Int.mul_fdiv_cancel_left _ gne
      have z2 : b.fdiv g = b' := by rw [hb]; exact Int.mul_fdiv_cancel_left _ gne
      rw [z1, z2]
    · show 0 < b'
      by_cases e : 0 < b'
      · exact e
      · have := Int.mul_nonneg (Int.le_of_lt gp) (show 0 ≤ -b' by omega)
        rw [Int.mul_neg] at this
        omega
theorem lw_sh {t b : Int} (h : b ≠ 0) : Sh (lw t b) := by
  obtain ⟨g, _, _, p, q, e, s, _⟩ := lw_ex t b h
  rw [e]; exact s
theorem lw_cross {t b : Int} (h : b ≠ 0) : (lw t b).1 * b = t * (lw t b).2 := by
  obtain ⟨g, _, _, p, q, e, s, ⟨_, e1, e2⟩ | ⟨_, e1, e2⟩⟩ := lw_ex t b h
  · rw [e]; show p * b = t * q; rw [e1, e2]; grind
  · rw [e]; show p * b = t * q; rw [e1, e2]; grind
theorem abs_le_mul {g p : Int} (h : 0 < g) : p.natAbs ≤ (g * p).natAbs := by
  rw [Int.natAbs_mul]
  exact Nat.le_mul_of_pos_left _ (by omega)
theorem lw_le {t b : Int} (h : b ≠ 0) : (lw t b).1.natAbs ≤ t.natAbs ∧ (lw t b).2.natAbs ≤ b.natAbs := by
  obtain ⟨g, gp, _, p, q, e, s, ⟨_, e1, e2⟩ | ⟨_, e1, e2⟩⟩ := lw_ex t b h
  · rw [e]
    have x1 : t = -(g * p) := by rw [e1]; grind
    have x2 : b = -(g * q) := by rw [e2]; grind
    show p.natAbs ≤ _ ∧ q.natAbs ≤ _
    rw [x1, x2, Int.natAbs_neg, Int.natAbs_neg]
    exact ⟨abs_le_mul gp, abs_le_mul gp⟩
  · rw [e, e1, e2]
    exact ⟨abs_le_mul gp, abs_le_mul gp⟩
theorem cop_dvd {p q r : Int} (c : Int.gcd p q = 1) (d : q ∣ p * r) : q ∣ r := by
  have d' : q.natAbs ∣ p.natAbs * r.natAbs := by
    rw [← Int.natAbs_mul]
    exact Int.natAbs_dvd_natAbs.mpr d
  have c' : Nat.Coprime q.natAbs p.natAbs := by
    have e : Nat.gcd p.natAbs q.natAbs = 1 := c
    rw [Nat.gcd_comm] at e
    exact e
  exact Int.natAbs_dvd_natAbs.mp (c'.dvd_of_dvd_mul_left d')
theorem sh_eq {x y : Int × Int} (hx : Sh x) (hy : Sh y) (h : x.1 * y.2 = y.1 * x.2) : x = y := by
  obtain ⟨p, q⟩ := x
  obtain ⟨r, s⟩ := y
  obtain ⟨q0, c1⟩ := hx
  obtain ⟨s0, c2⟩ := hy
  have h : p * s = r * q := h
  have q0 : 0 < q := q0
  have s0 : 0 < s := s0
  have c1 : Int.gcd p q = 1 := c1
  have c2 : Int.gcd r s = 1 := c2
  have d1 : q ∣ s := cop_dvd c1 ⟨r, by rw [h]; grind⟩
  have d2 : s ∣ q := cop_dvd c2 ⟨p, by rw [← h]; grind⟩
  have e : q = s := Int.le_antisymm (Int.le_of_dvd s0 d1) (Int.le_of_dvd q0 d2)
  subst e
  have e2 : p = r := Int.eq_of_mul_eq_mul_right (by omega) h
  rw [e2]
theorem lw_eq {t b t' b' : Int} (h : b ≠ 0) (h' : b' ≠ 0) (e : t * b' = t' * b) : lw t b = lw t' b' := by
  have c := lw_cross (t := t) h
  have c' := lw_cross (t := t') h'
  have s := lw_sh (t := t) h
  have s' := lw_sh (t := t') h'
  generalize lw t b = x at *
  generalize lw t' b' = y at *
  refine sh_eq s s' ?_
  have n : b * b' ≠ 0 := Int.mul_ne_zero h h'
  refine Int.eq_of_mul_eq_mul_right n ?_
  have a1 : x.1 * y.2 * (b * b') = t * x.2 * (y.2 * b') := by rw [← c]; grind
  have a2 : y.1 * x.2 * (b * b') = t' * y.2 * (x.2 * b) := by rw [← c']; grind
  rw [a1, a2]
  have a3 : t * x.2 * (y.2 * b') = t * b' * (x.2 * y.2) := by grind
  have a4 : t' * y.2 * (x.2 * b) = t' * b * (x.2 * y.2) := by grind
  rw [a3, a4, e]
theorem lw_id {x : Int × Int} (h : Sh x) : lw x.1 x.2 = x := by
  have n : x.2 ≠ 0 := by have := h.1; omega
  exact sh_eq (lw_sh n) h (lw_cross n)
def pl (x y : Int × Int) : Int × Int := lw (x.1 * y.2 + y.1 * x.2) (x.2 * y.2)
def tm (x y : Int × Int) : Int × Int := lw (x.1 * y.1) (x.2 * y.2)
def ng (x : Int × Int) : Int × Int := (-x.1, x.2)
theorem Sh.ne {x : Int × Int} (h : Sh x) : x.2 ≠ 0 := by have := h.1; omega
theorem Sh.ng {x : Int × Int} (h : Sh x) : Sh (ng x) := ⟨h.1, by show Int.gcd (-x.1) x.2 = 1; rw [Int.neg_gcd]; exact h.2⟩
theorem mul_ne {a b : Int} (h : a ≠ 0) (h' : b ≠ 0) : a * b ≠ 0 := Int.mul_ne_zero h h'
theorem pl_sh {x y : Int × Int} (hx : Sh x) (hy : Sh y) : Sh (pl x y) := lw_sh (mul_ne hx.ne hy.ne)
theorem pl_same {x y : Int × Int} (hx : Sh x) (hy : Sh y) (e : x.2 = y.2) : lw (x.1 + y.1) x.2 = pl x y :=
  lw_eq hx.ne (mul_ne hx.ne hy.ne) (by rw [← e]; grind)
theorem pl3 {x y z : Int × Int} (hx : Sh x) (hy : Sh y) (hz : Sh z) :
    pl (pl x y) z = lw (x.1 * y.2 * z.2 + y.1 * x.2 * z.2 + z.1 * x.2 * y.2) (x.2 * y.2 * z.2) := by
  have n := mul_ne hx.ne hy.ne
  have c := lw_cross (t := x.1 * y.2 + y.1 * x.2) n
  have s := pl_sh hx hy
  refine lw_eq (mul_ne s.ne hz.ne) (mul_ne n hz.ne) ?_
  have e : pl x y = lw (x.1 * y.2 + y.1 * x.2) (x.2 * y.2) := rfl
  rw [← e] at c
  generalize pl x y = u at *
  have a1 : (u.1 * z.2 + z.1 * u.2) * (x.2 * y.2 * z.2) = u.1 * (x.2 * y.2) * (z.2 * z.2) + z.1 * u.2 * (x.2 * y.2 * z.2) := by grind
  rw [a1, c]
  grind
theorem pl_rc {x y z : Int × Int} (hx : Sh x) (hy : Sh y) (hz : Sh z) : pl (pl x y) z = pl (pl x z) y := by
  rw [pl3 hx hy hz, pl3 hx hz hy]
  congr 1 <;> grind
theorem sh0 : Sh (0, 1) := by constructor <;> decide
theorem pl_0 {s : Int × Int} (h : Sh s) : pl (0, 1) s = s := by
  have e : pl (0, 1) s = lw s.1 s.2 := by
    unfold pl
    congr 1
    · show 0 * s.2 + s.1 * 1 = s.1; grind
    · show 1 * s.2 = s.2; grind
  rw [e]
  exact lw_id h
def sumS (a : Int × Int) (l : List (Int × Int)) : Int × Int := l.foldl pl a
theorem sum_sh : ∀ (l : List (Int × Int)) (a : Int × Int), Sh a → (∀ x ∈ l, Sh x) → Sh (sumS a l)
  | [], _, h, _ => h
  | x :: l, a, h, hl => sum_sh l (pl a x) (pl_sh h (hl x List.mem_cons_self)) fun y hy => hl y (List.mem_cons_of_mem _ hy)
theorem sum_rc : ∀ (l : List (Int × Int)) (a s : Int × Int), Sh a → Sh s → (∀ x ∈ l, Sh x) → sumS (pl a s) l = pl (sumS a l) s
  | [], _, _, _, _, _ => rfl
  | x :: l, a, s, ha, hs, hl => by
    have hx := hl x List.mem_cons_self
    show sumS (pl (pl a s) x) l = pl (sumS (pl a x) l) s
    rw [pl_rc ha hs hx]
    exact sum_rc l (pl a x) s (pl_sh ha hx) hs fun y hy => hl y (List.mem_cons_of_mem _ hy)
theorem sum_start {l : List (Int × Int)} {s : Int × Int} (hs : Sh s) (hl : ∀ x ∈ l, Sh x) : sumS s l = pl (sumS (0, 1) l) s := by
  have e := sum_rc l (0, 1) s sh0 hs hl
  rw [pl_0 hs] at e
  exact e
/-! how great they may be -/
def Bd (n : Nat) (x : Int × Int) : Prop := x.1.natAbs < 2 ^ n ∧ x.2.natAbs < 2 ^ n
theorem mul_bd {a b : Int} {n m : Nat} (ha : a.natAbs < 2 ^ n) (hb : b.natAbs < 2 ^ m) : (a * b).natAbs < 2 ^ (n + m) := by
  rw [Int.natAbs_mul, Nat.pow_add]
  exact Nat.mul_lt_mul'' ha hb
theorem add_bd {a b : Int} {n : Nat} (ha : a.natAbs < 2 ^ n) (hb : b.natAbs < 2 ^ n) : (a + b).natAbs < 2 ^ (n + 1) := by
  rw [Nat.pow_succ]
  have := Int.natAbs_add_le a b
  omega
theorem bd_mono {a : Int} {n m : Nat} (ha : a.natAbs < 2 ^ n) (h : n ≤ m) : a.natAbs < 2 ^ m := Nat.lt_of_lt_of_le ha (Nat.pow_le_pow_right (by decide) h)
theorem Bd.mono {x : Int × Int} {n m : Nat} (h : Bd n x) (hm : n ≤ m) : Bd m x := ⟨bd_mono h.1 hm, bd_mono h.2 hm⟩
theorem lw_bd {t b : Int} {n : Nat} (h : b ≠ 0) (h1 : t.natAbs < 2 ^ n) (h2 : b.natAbs < 2 ^ n) : Bd n (lw t b) :=
  ⟨Nat.lt_of_le_of_lt (lw_le h).1 h1, Nat.lt_of_le_of_lt (lw_le h).2 h2⟩
theorem pl_bd {x y : Int × Int} {n m : Nat} (hx : Sh x) (hy : Sh y) (b1 : Bd n x) (b2 : Bd m y) : Bd (n + m + 1) (pl x y) := by
  refine lw_bd (mul_ne hx.ne hy.ne) (add_bd (mul_bd b1.1 b2.2) ?_) (bd_mono (mul_bd b1.2 b2.2) (by omega))
  have := mul_bd b2.1 b1.2
  rw [Nat.add_comm m n] at this
  exact this
theorem sum_bd : ∀ (l : List (Int × Int)) (a : Int × Int) (n : Nat), Sh a → Bd n a → (∀ x ∈ l, Sh x ∧ Bd 70 x) → Bd (n + 71 * l.length) (sumS a l)
  | [], _, _, _, b, _ => b
  | x :: l, a, n, h, b, hl => by
    have hx := hl x List.mem_cons_self
    have z := sum_bd l (pl a x) (n + 70 + 1) (pl_sh h hx.1) (pl_bd h hx.1 b hx.2) fun y hy => hl y (List.mem_cons_of_mem _ hy)
    have e : n + 70 + 1 + 71 * l.length = n + 71 * (x :: l).length := by rw [List.length_cons]; omega
    rw [e] at z
    exact z
/-! the greatest number that divides both, by turns -/
theorem gcd_turn {a b : Int} (ha : 0 ≤ a) (hb : 0 < b) : Int.gcd b (a.fmod b) = Int.gcd a b := by
  rw [Int.fmod_eq_emod_of_nonneg _ (by omega)]
  show Nat.gcd b.natAbs (a % b).natAbs = Nat.gcd a.natAbs b.natAbs
  have e : (a % b).natAbs = a.natAbs % b.natAbs := by
    rw [Int.natAbs_emod_of_nonneg ha]
  rw [e, Nat.gcd_comm a.natAbs b.natAbs, Nat.gcd_rec b.natAbs a.natAbs, Nat.gcd_comm]
theorem gI_abs {a b : Int} : gI (if a < 0 then -a else a) (if b < 0 then -b else b) = gI a b := by
  unfold gI
  congr 1
  show Nat.gcd _ _ = Nat.gcd _ _
  have e : ∀ x : Int, (if x < 0 then -x else x).natAbs = x.natAbs := fun x => by split <;> omega
  rw [e a, e b]
theorem gI_bd {a b : Int} {n : Nat} (h : b ≠ 0) (hb : b.natAbs < 2 ^ n) : 0 < gI a b ∧ (gI a b).natAbs < 2 ^ n := by
  have g0 : 0 < Int.gcd a b := by
    rcases Nat.eq_zero_or_pos (Int.gcd a b) with e | e
    · exact absurd (Int.gcd_eq_zero_iff.mp e).2 h
    · exact e
  have d : Int.gcd a b ∣ b.natAbs := Nat.gcd_dvd_right _ _
  have l := Nat.le_of_dvd (by omega) d
  unfold gI
  constructor
  · omega
  · have e : ((Int.gcd a b : Nat) : Int).natAbs = Int.gcd a b := Int.natAbs_natCast _
    rw [e]
    omega
theorem lw_1 (t : Int) : lw t 1 = (t, 1) := by
  unfold lw gI
  rw [if_neg (by decide), Int.gcd_one]
  simp
end Gs

namespace Sf
open PySem PySem.Spec PyProof.Rows L2
/-! ### data of ints, texts and tuples: == is being the same -/
mutual
def plainD : PyData → Bool
  | .int _ => true
  | .str x => PyData.strOk x
  | .tuple xs => plainAll xs
  | _ => false
def plainAll : List PyData → Bool
  | [] => true
  | x :: xs => plainD x && plainAll xs
end
mutual
theorem plain_lay : ∀ d : PyData, plainD d = true → d.canLay0 = true
  | .int _, _ => by simp [PyData.canLay0]
  | .str x, h => by simpa [PyData.canLay0, plainD] using h
  | .tuple xs, h => by
    rw [plainD] at h
    rw [PyData.canLay0]
    exact plainAll_lay xs h
  | .none, h => by simp [plainD] at h
  | .bool _, h => by simp [plainD] at h
  | .list _, h => by simp [plainD] at h
  | .dict _, h => by simp [plainD] at h
theorem plainAll_lay : ∀ ds : List PyData, plainAll ds = true → PyData.canLayAll0 ds = true
  | [], _ => by simp [PyData.canLayAll0]
  | x :: xs, h => by
    rw [plainAll, Bool.and_eq_true] at h
    rw [PyData.canLayAll0, plain_lay x h.1, plainAll_lay xs h.2]
    rfl
end
mutual
theorem eqv_eq : ∀ d e : PyData, plainD d = true → plainD e = true → PyData.eqv d e = true → d = e
  | .int i, e, _, h2, h => by
    cases e <;> simp_all [PyData.eqv, plainD]
  | .str i, e, _, h2, h => by
    cases e <;> simp_all [PyData.eqv, plainD]
  | .tuple xs, e, h1, h2, h => by
    cases e with
    | tuple ys =>
      rw [plainD] at h1 h2
      rw [PyData.eqv] at h
      rw [eqvAll_eq xs ys h1 h2 h]
    | _ => simp_all [PyData.eqv, plainD]
  | .none, _, h, _, _ => by simp [plainD] at h
  | .bool _, _, h, _, _ => by simp [plainD] at h
  | .list _, _, h, _, _ => by simp [plainD] at h
  | .dict _, _, h, _, _ => by simp [plainD] at h
theorem eqvAll_eq : ∀ ds es : List PyData, plainAll ds = true → plainAll es = true → PyData.eqvAll ds es = true → ds = es
  | [], [], _, _, _ => rfl
  | [], _ :: _, _, _, h => by simp [PyData.eqvAll] at h
  | _ :: _, [], _, _, h => by simp [PyData.eqvAll] at h
  | x :: xs, y :: ys, h1, h2, h => by
    rw [plainAll, Bool.and_eq_true] at h1 h2
    rw [PyData.eqvAll, Bool.and_eq_true] at h
    rw [eqv_eq x y h1.1 h2.1 h.1, eqvAll_eq xs ys h1.2 h2.2 h.2]
end
theorem eqv_self {d : PyData} (h : plainD d = true) : PyData.eqv d d = true := SeqAt.eqv_refl d (plain_lay d h)
theorem plainAll_iff : ∀ {ds : List PyData}, plainAll ds = true ↔ ∀ d ∈ ds, plainD d = true
  | [] => by simp [plainAll]
  | x :: xs => by
    rw [plainAll, Bool.and_eq_true, plainAll_iff (ds := xs)]
    simp
theorem depthAll_le {n : Nat} : ∀ {ds : List PyData}, (∀ d ∈ ds, d.depth ≤ n) → PyData.depthAll ds ≤ n
  | [], _ => by simp [PyData.depthAll]
  | x :: xs, h => by
    rw [PyData.depthAll]
    exact Nat.max_le.mpr ⟨h x List.mem_cons_self, depthAll_le fun d hd => h d (List.mem_cons_of_mem _ hd)⟩
/-- plain, and at most n within one another -/
def Pl (n : Nat) (d : PyData) : Prop := plainD d = true ∧ d.depth ≤ n
theorem Pl.mono {n m : Nat} {d : PyData} (h : Pl n d) (e : n ≤ m) : Pl m d := ⟨h.1, Nat.le_trans h.2 e⟩
theorem Pl.shaped {n : Nat} {d : PyData} (h : Pl n d) (hn : n ≤ 64) : SeqAt.shaped d = true := by
  show (d.canLay0 && decide (d.depth ≤ 64)) = true
  rw [Bool.and_eq_true]
  exact ⟨plain_lay d h.1, decide_eq_true (Nat.le_trans h.2 hn)⟩
theorem Pl.tup {n : Nat} {ds : List PyData} (h : ∀ d ∈ ds, Pl n d) : Pl (n + 1) (.tuple ds) := by
  refine ⟨?_, ?_⟩
  · rw [plainD]
    exact plainAll_iff.mpr fun d hd => (h d hd).1
  · rw [PyData.depth]
    exact Nat.succ_le_succ (depthAll_le fun d hd => (h d hd).2)
theorem shaped_list {n : Nat} {ds : List PyData} (h : ∀ d ∈ ds, Pl n d) (hn : n ≤ 63) : SeqAt.shaped (.list ds) = true := by
  show (PyData.canLay0 (.list ds) && decide (PyData.depth (.list ds) ≤ 64)) = true
  rw [Bool.and_eq_true]
  refine ⟨?_, decide_eq_true ?_⟩
  · rw [PyData.canLay0]
    exact plainAll_lay ds (plainAll_iff.mpr fun d hd => (h d hd).1)
  · rw [PyData.depth]
    exact Nat.le_trans (Nat.succ_le_succ (depthAll_le fun d hd => (h d hd).2)) (Nat.succ_le_succ hn)
theorem pl_int {i : Int} : Pl 0 (.int i) := ⟨rfl, by simp [PyData.depth]⟩
theorem pl_str {x : Str} (h : PyData.strOk x = true) : Pl 0 (.str x) := ⟨by rw [plainD]; exact h, by simp [PyData.depth]⟩
/-! ### lists without one twice -/
def notIn (acc : List PyData) (x : PyData) : Bool := !acc.any fun z => PyData.eqv z x
def merge (acc xs : List PyData) : List PyData := acc ++ xs.filter (notIn acc)
theorem merge_nil {xs : List PyData} : merge [] xs = xs := by
  show [] ++ xs.filter (notIn []) = xs
  rw [List.nil_append, List.filter_eq_self]
  intro a _
  rfl
theorem merge_sub {acc xs : List PyData} {p : PyData → Prop} (h1 : ∀ d ∈ acc, p d) (h2 : ∀ d ∈ xs, p d) : ∀ d ∈ merge acc xs, p d := fun d hd => by
  rcases List.mem_append.mp hd with h | h
  · exact h1 d h
  · exact h2 d (List.mem_filter.mp h).1
theorem mem_merge {acc xs : List PyData} (h1 : ∀ d ∈ acc, plainD d = true) (h2 : ∀ d ∈ xs, plainD d = true) {x : PyData} (h : x ∈ acc ∨ x ∈ xs) : x ∈ merge acc xs := by
  rcases h with h | h
  · exact List.mem_append.mpr (.inl h)
  · cases e : notIn acc x with
    | true => exact List.mem_append.mpr (.inr (List.mem_filter.mpr ⟨h, e⟩))
    | false =>
      have e' : (acc.any fun z => PyData.eqv z x) = true := by
        unfold notIn at e
        simpa using e
      obtain ⟨z, hz, ez⟩ := List.any_eq_true.mp e'
      rw [← eqv_eq z x (h1 z hz) (h2 x h) ez]
      exact List.mem_append.mpr (.inl hz)
theorem merge_len {acc xs : List PyData} : (merge acc xs).length ≤ acc.length + xs.length := by
  unfold merge
  rw [List.length_append]
  exact Nat.add_le_add_left (List.length_filter_le _ _) _
/-- the place of the first like one -/
def idx (ds : List PyData) (d : PyData) : Nat := ds.findIdx fun z => PyData.eqv z d
theorem idx_at {ds : List PyData} {d : PyData} (h1 : ∀ z ∈ ds, plainD z = true) (h : d ∈ ds) : ds[idx ds d]? = some d ∧ ∀ (m : Nat) (z : PyData), m < idx ds d → ds[m]? = some z → PyData.eqv z d = false := by
  have hd := h1 d h
  have hl : idx ds d < ds.length := List.findIdx_lt_length_of_exists ⟨d, h, eqv_self hd⟩
  refine ⟨?_, fun m z hm hz => ?_⟩
  · have hp : PyData.eqv (ds[idx ds d]'hl) d = true := List.findIdx_getElem (p := fun z => PyData.eqv z d) (w := hl)
    have e := eqv_eq _ _ (h1 _ (List.getElem_mem hl)) hd hp
    rw [List.getElem?_eq_getElem hl, e]
  · obtain ⟨hm', rfl⟩ := List.getElem?_eq_some_iff.mp hz
    have := List.not_of_lt_findIdx (p := fun z => PyData.eqv z d) hm
    simpa using this
/-! ### sayings and forms -/
inductive Un | no | al | ev
inductive Bi | an | or | un
inductive Fw | an | or | un | re
def Un.s : Un → Str | .no => "not" | .al => "always" | .ev => "ever"
def Bi.s : Bi → Str | .an => "and" | .or => "or" | .un => "until"
def Fw.s : Fw → Str | .an => "and" | .or => "or" | .un => "until" | .re => "release"
def Bi.f : Bi → Fw | .an => .an | .or => .or | .un => .un
def Bi.t : Bi → Fw | .an => .or | .or => .an | .un => .re
inductive Sy
  | yes
  | at (w : Str) (r : List PyData)
  | un (w : Un) (s : Sy)
  | bi (w : Bi) (s t : Sy)
inductive Fm
  | yes | no
  | is (b : Bool) (n : Nat)
  | bi (w : Fw) (s t : Fm)
def dAt (w : Str) (r : List PyData) : PyData := .tuple (.str w :: r)
def dSy : Sy → PyData
  | .yes => .tuple [.str "yes"]
  | .at w r => dAt w r
  | .un w s => .tuple [.str w.s, dSy s]
  | .bi w s t => .tuple [.str w.s, dSy s, dSy t]
def isW (b : Bool) : Str := if b then "is" else "isnt"
def dFm : Fm → PyData
  | .yes => .tuple [.str "yes"]
  | .no => .tuple [.str "no"]
  | .is b n => .tuple [.str (isW b), .int n]
  | .bi w s t => .tuple [.str w.s, dFm s, dFm t]
def atomW : List Str := ["place", "deed", "wish"]
def AtOk (w : Str) (r : List PyData) : Prop := w ∈ atomW ∧ Pl 8 (dAt w r)
/-- a saying at most n within one another, its atoms in order -/
inductive SyOk : Nat → Sy → Prop
  | yes {n : Nat} : SyOk (n + 1) .yes
  | at {n : Nat} {w : Str} {r : List PyData} : AtOk w r → SyOk (n + 1) (.at w r)
  | un {n : Nat} {w : Un} {s : Sy} : SyOk n s → SyOk (n + 1) (.un w s)
  | bi {n : Nat} {w : Bi} {s t : Sy} : SyOk n s → SyOk n t → SyOk (n + 1) (.bi w s t)
inductive FmOk : Nat → Fm → Prop
  | yes {n : Nat} : FmOk (n + 1) .yes
  | no {n : Nat} : FmOk (n + 1) .no
  | is {n : Nat} {b : Bool} {k : Nat} : FmOk (n + 1) (.is b k)
  | bi {n : Nat} {w : Fw} {s t : Fm} : FmOk n s → FmOk n t → FmOk (n + 1) (.bi w s t)
theorem SyOk.mono : ∀ {n m : Nat} {s : Sy}, SyOk n s → n ≤ m → SyOk m s
  | _, 0, _, .yes, h => absurd h (by omega)
  | _, 0, _, .at _, h => absurd h (by omega)
  | _, 0, _, .un _, h => absurd h (by omega)
  | _, 0, _, .bi _ _, h => absurd h (by omega)
  | _, _ + 1, _, .yes, _ => .yes
  | _, _ + 1, _, .at a, _ => .at a
  | _, _ + 1, _, .un a, h => .un (a.mono (by omega))
  | _, _ + 1, _, .bi a b, h => .bi (a.mono (by omega)) (b.mono (by omega))
theorem FmOk.mono : ∀ {n m : Nat} {s : Fm}, FmOk n s → n ≤ m → FmOk m s
  | _, 0, _, .yes, h => absurd h (by omega)
  | _, 0, _, .no, h => absurd h (by omega)
  | _, 0, _, .is, h => absurd h (by omega)
  | _, 0, _, .bi _ _, h => absurd h (by omega)
  | _, _ + 1, _, .yes, _ => .yes
  | _, _ + 1, _, .no, _ => .no
  | _, _ + 1, _, .is, _ => .is
  | _, _ + 1, _, .bi a b, h => .bi (a.mono (by omega)) (b.mono (by omega))
def wd : Sy → Str | .yes => "yes" | .at w _ => w | .un w _ => w.s | .bi w _ _ => w.s
def hv : Sy → List Sy | .yes => [] | .at _ _ => [] | .un _ s => [s] | .bi _ s t => [s, t]
def isAt : Sy → Bool | .at _ _ => true | _ => false
theorem hv_len {s : Sy} : (hv s).length ≤ 2 := by
  cases s <;> simp [hv]
theorem dSy_hv {s : Sy} (h : isAt s = false) : dSy s = .tuple (.str (wd s) :: (hv s).map dSy) := by
  cases s <;> first | rfl | cases h
theorem hv_ok {n : Nat} {s : Sy} (h : SyOk (n + 1) s) : ∀ t ∈ hv s, SyOk n t := by
  cases h with
  | yes => exact fun t ht => absurd ht List.not_mem_nil
  | «at» _ => exact fun t ht => absurd ht List.not_mem_nil
  | un a => exact fun t ht => by rw [List.mem_singleton.mp ht]; exact a
  | bi a b =>
    intro t ht
    rcases List.mem_cons.mp ht with e | ht
    · rw [e]; exact a
    · rw [List.mem_singleton.mp ht]; exact b
def atomsOf : Sy → List PyData
  | .yes => []
  | .at w r => [dAt w r]
  | .un _ s => merge [] (atomsOf s)
  | .bi _ s t => merge (merge [] (atomsOf s)) (atomsOf t)
def gather (f : Sy → List PyData) (acc : List PyData) (hs : List Sy) : List PyData := hs.foldl (fun a h => merge a (f h)) acc
theorem atomsOf_hv {s : Sy} (h : isAt s = false) : atomsOf s = gather atomsOf [] (hv s) := by
  cases s <;> first | rfl | cases h
theorem atoms_pl {n : Nat} {s : Sy} (h : SyOk n s) : ∀ d ∈ atomsOf s, Pl 8 d := by
  induction h with
  | yes => exact fun d hd => absurd hd List.not_mem_nil
  | «at» a => exact fun d hd => by rw [List.mem_singleton.mp hd]; exact a.2
  | un a ih => exact merge_sub (fun d hd => absurd hd List.not_mem_nil) ih
  | bi a b i1 i2 => exact merge_sub (merge_sub (fun d hd => absurd hd List.not_mem_nil) i1) i2
theorem atoms_len {n : Nat} {s : Sy} (h : SyOk n s) : (atomsOf s).length ≤ 2 ^ n := by
  induction h with
  | yes => exact Nat.zero_le _
  | @«at» n w r a => exact Nat.one_le_two_pow
  | un a ih =>
    rw [atomsOf, merge_nil]
    exact Nat.le_trans ih (Nat.pow_le_pow_right (by decide) (by omega))
  | bi a b i1 i2 =>
    rw [atomsOf, merge_nil, Nat.pow_succ]
    exact Nat.le_trans merge_len (by omega)
/-- all atoms of a saying are among these -/
inductive Has (ds : List PyData) : Sy → Prop
  | yes : Has ds .yes
  | at {w : Str} {r : List PyData} : dAt w r ∈ ds → Has ds (.at w r)
  | un {w : Un} {s : Sy} : Has ds s → Has ds (.un w s)
  | bi {w : Bi} {s t : Sy} : Has ds s → Has ds t → Has ds (.bi w s t)
theorem Has.mono {ds es : List PyData} (h : ∀ d ∈ ds, d ∈ es) : ∀ {s : Sy}, Has ds s → Has es s
  | _, .yes => .yes
  | _, .at a => .at (h _ a)
  | _, .un a => .un (a.mono h)
  | _, .bi a b => .bi (a.mono h) (b.mono h)
theorem has_own {n : Nat} {s : Sy} (h : SyOk n s) : Has (atomsOf s) s := by
  induction h with
  | yes => exact .yes
  | «at» a => exact .at (List.mem_singleton.mpr rfl)
  | un a ih =>
    rw [atomsOf, merge_nil]
    exact .un ih
  | bi a b i1 i2 =>
    rw [atomsOf, merge_nil]
    have p1 := fun d hd => (atoms_pl a d hd).1
    have p2 := fun d hd => (atoms_pl b d hd).1
    exact .bi (i1.mono fun d hd => mem_merge p1 p2 (.inl hd)) (i2.mono fun d hd => mem_merge p1 p2 (.inr hd))
theorem hv_has {ds : List PyData} {s : Sy} (h : Has ds s) : ∀ t ∈ hv s, Has ds t := by
  cases h with
  | yes => exact fun t ht => absurd ht List.not_mem_nil
  | «at» _ => exact fun t ht => absurd ht List.not_mem_nil
  | un a => exact fun t ht => by rw [List.mem_singleton.mp ht]; exact a
  | bi a b =>
    intro t ht
    rcases List.mem_cons.mp ht with e | ht
    · rw [e]; exact a
    · rw [List.mem_singleton.mp ht]; exact b
def fm (ds : List PyData) : Sy → Bool → Fm
  | .yes, b => if b then .yes else .no
  | .at w r, b => .is b (idx ds (dAt w r))
  | .un .no s, b => fm ds s (!b)
  | .un .ev s, b => if b then .bi .un .yes (fm ds s b) else .bi .re .no (fm ds s b)
  | .un .al s, b => if b then .bi .re .no (fm ds s b) else .bi .un .yes (fm ds s b)
  | .bi w s t, b => .bi (if b then w.f else w.t) (fm ds s b) (fm ds t b)
theorem fm_ok {ds : List PyData} {n : Nat} {s : Sy} (h : SyOk n s) : ∀ b, FmOk (n + 1) (fm ds s b) := by
  induction h with
  | yes => intro b; cases b <;> constructor
  | «at» a => intro b; exact .is
  | @un n w s a ih =>
    intro b
    cases w with
    | no => exact (ih (!b)).mono (by omega)
    | ev => cases b
            · exact .bi .no (ih _)
            · exact .bi .yes (ih _)
    | al => cases b
            · exact .bi .yes (ih _)
            · exact .bi .no (ih _)
  | bi a b i1 i2 => intro c; exact .bi (i1 c) (i2 c)
theorem fm_not {ds : List PyData} {s : Sy} {b : Bool} : fm ds (.un .no s) b = fm ds s (!b) := rfl
theorem str_ok_un (w : Un) : PyData.strOk w.s = true := by cases w <;> decide +kernel
theorem str_ok_fw (w : Fw) : PyData.strOk w.s = true := by cases w <;> decide +kernel
theorem str_ok_bi (w : Bi) : PyData.strOk w.s = true := by cases w <;> decide +kernel
theorem pl2 {n : Nat} {a b : PyData} (h1 : Pl n a) (h2 : Pl n b) : Pl (n + 1) (.tuple [a, b]) := Pl.tup fun d hd => by
  rcases List.mem_cons.mp hd with e | hd
  · rw [e]; exact h1
  · rw [List.mem_singleton.mp hd]; exact h2
theorem pl3 {n : Nat} {a b c : PyData} (h1 : Pl n a) (h2 : Pl n b) (h3 : Pl n c) : Pl (n + 1) (.tuple [a, b, c]) := Pl.tup fun d hd => by
  rcases List.mem_cons.mp hd with e | hd
  · rw [e]; exact h1
  · rcases List.mem_cons.mp hd with e | hd
    · rw [e]; exact h2
    · rw [List.mem_singleton.mp hd]; exact h3
theorem pl1 {n : Nat} {a : PyData} (h1 : Pl n a) : Pl (n + 1) (.tuple [a]) := Pl.tup fun d hd => by
  rw [List.mem_singleton.mp hd]; exact h1
theorem fm_pl {n : Nat} {f : Fm} (h : FmOk n f) : Pl n (dFm f) := by
  induction h with
  | @yes n => exact (pl1 (pl_str (by decide +kernel))).mono (by omega)
  | @no n => exact (pl1 (pl_str (by decide +kernel))).mono (by omega)
  | @is n b k => exact (pl2 (pl_str (by cases b <;> decide +kernel)) pl_int).mono (by omega)
  | @bi n w s t a b i1 i2 => exact pl3 ((pl_str (str_ok_fw w)).mono (by omega)) i1 i2
theorem sy_pl {n : Nat} {s : Sy} (h : SyOk n s) : Pl (n + 8) (dSy s) := by
  induction h with
  | @yes n => exact (pl1 (pl_str (by decide +kernel))).mono (by omega)
  | @«at» n w r a => exact a.2.mono (by omega)
  | @un n w s a ih => exact (pl2 ((pl_str (str_ok_un w)).mono (by omega)) ih).mono (by omega)
  | @bi n w s t a b i1 i2 => exact (pl3 ((pl_str (str_ok_bi w)).mono (by omega)) i1 i2).mono (by omega)
/-! ### untils in a form -/
def hf : Fm → List Fm | .bi _ s t => [s, t] | _ => []
def wf : Fm → Str | .yes => "yes" | .no => "no" | .is b _ => isW b | .bi w _ _ => w.s
def isBi : Fm → Bool | .bi _ _ _ => true | _ => false
def ownU (f : Fm) : List PyData := match f with | .bi .un _ _ => [dFm f] | _ => []
def untilsOf : Fm → List PyData
  | .bi w s t => merge (merge (ownU (.bi w s t)) (untilsOf s)) (untilsOf t)
  | _ => []
def gatherF (f : Fm → List PyData) (acc : List PyData) (hs : List Fm) : List PyData := hs.foldl (fun a h => merge a (f h)) acc
theorem hf_len {s : Fm} : (hf s).length ≤ 2 := by
  cases s <;> simp [hf]
theorem untils_hf {f : Fm} : untilsOf f = gatherF untilsOf (ownU f) (hf f) := by
  cases f <;> rfl
theorem dFm_hf {f : Fm} (h : isBi f = true) : dFm f = .tuple (.str (wf f) :: (hf f).map dFm) := by
  cases f <;> first | rfl | cases h
theorem hf_ok {n : Nat} {f : Fm} (h : FmOk (n + 1) f) : ∀ t ∈ hf f, FmOk n t := by
  cases h with
  | bi a b =>
    intro t ht
    rcases List.mem_cons.mp ht with e | ht
    · rw [e]; exact a
    · rw [List.mem_singleton.mp ht]; exact b
  | _ => exact fun t ht => absurd ht List.not_mem_nil
theorem own_pl {n : Nat} {f : Fm} (h : FmOk n f) : ∀ d ∈ ownU f, Pl n d := by
  cases f with
  | bi w s t =>
    cases w with
    | un => exact fun d hd => by rw [List.mem_singleton.mp hd]; exact fm_pl h
    | _ => exact fun d hd => absurd hd List.not_mem_nil
  | _ => exact fun d hd => absurd hd List.not_mem_nil
theorem own_len {f : Fm} : (ownU f).length ≤ 1 := by
  cases f with
  | bi w s t => cases w <;> first | exact Nat.zero_le _ | exact Nat.le_refl _
  | _ => exact Nat.zero_le _
theorem untils_pl {n : Nat} {f : Fm} (h : FmOk n f) : ∀ d ∈ untilsOf f, Pl n d := by
  induction h with
  | bi a b i1 i2 => exact merge_sub (merge_sub (own_pl (.bi a b)) fun d hd => (i1 d hd).mono (by omega)) fun d hd => (i2 d hd).mono (by omega)
  | _ => exact fun d hd => absurd hd List.not_mem_nil
theorem untils_len {n : Nat} {f : Fm} (h : FmOk n f) : (untilsOf f).length + 1 ≤ 2 ^ n := by
  induction h with
  | @bi n w s t a b i1 i2 =>
    have h1 := @own_len (.bi w s t)
    rw [untilsOf, Nat.pow_succ]
    have h2 := @merge_len (ownU (.bi w s t)) (untilsOf s)
    have h3 := @merge_len (merge (ownU (.bi w s t)) (untilsOf s)) (untilsOf t)
    omega
  | _ => exact Nat.one_le_two_pow
theorem gather_take {α : Type} {f : α → List PyData} {acc : List PyData} {hs : List α} {i : Nat} {h : α} (e : hs[i]? = some h) :
    (hs.take (i + 1)).foldl (fun a h => merge a (f h)) acc = merge ((hs.take i).foldl (fun a h => merge a (f h)) acc) (f h) := by
  rw [List.take_add_one, e, Option.toList_some, List.foldl_append]
  rfl
theorem gather_sub {α : Type} {f : α → List PyData} {p : PyData → Prop} : ∀ {hs : List α} {acc : List PyData}, (∀ d ∈ acc, p d) → (∀ h ∈ hs, ∀ d ∈ f h, p d) → ∀ d ∈ hs.foldl (fun a h => merge a (f h)) acc, p d
  | [], _, h, _ => h
  | x :: xs, _, h, g => gather_sub (hs := xs) (merge_sub h (g x List.mem_cons_self)) fun y hy => g y (List.mem_cons_of_mem _ hy)
theorem gather_len {α : Type} {f : α → List PyData} {m : Nat} : ∀ {hs : List α} {acc : List PyData}, (∀ h ∈ hs, (f h).length ≤ m) → (hs.foldl (fun a h => merge a (f h)) acc).length ≤ acc.length + hs.length * m
  | [], _, _ => by simp
  | x :: xs, acc, h => by
    have h1 := gather_len (hs := xs) (acc := merge acc (f x)) (f := f) (m := m) fun y hy => h y (List.mem_cons_of_mem _ hy)
    have h2 := @merge_len acc (f x)
    have h3 := h x List.mem_cons_self
    rw [List.foldl_cons, List.length_cons, Nat.succ_mul]
    omega
end Sf

namespace W35
open PySem PySem.Spec PyProof.Rows L2 Gs Gp Gr
/-! ### ties drawn -/
abbrev NTi : List Str := ["_law_pool_here", "_law_count", "_law_many", "_law_found", "_law_turn", "_law_lots", "_law_lot"]
theorem scTies : FnScope NTi ["_law_pool_here", "_law_count", "_law_many"] (defScope sTies) := ⟨rfl, rfl, rfl, by decide +kernel, rfl, by decide +kernel, by decide +kernel⟩
def spTies : Sp := fun vs H Q _ => ∃ (p : Addr) (n m : Nat), vs = [.ref p, .int n, .int m] ∧ Lf H p ∧ 0 < n ∧ n ≤ 100 ∧ m ≤ 100 ∧
  ∀ H' r us ts, Keep p H H' → Lf H' p → H r = none → H' r = some (.lst us) → Ties H' us ts → (∀ t ∈ ts, t.1 < n ∧ t.2.1 < n ∧ (∀ x ∈ t.2.2, x < m) ∧ t.2.2.length ≤ m) → ts.length ≤ 2 * n + 2 → Q (.ref r) H'
section
variable {P : Program} {w : World} {K : PySem.W.Frag} {mg : Str → Option Value} {base : Heap} {f f1 f2 : Addr} {fd d1 d2 : FuncData} {k : Nat}
theorem ok_ties (F : Fun K "_law_ties" "_law_ties" sTies f fd) (TA : Cl P w K mg base CX0 1 "_law_take" ["_law_pool_here", "_law_many"] spTake f1 d1) (mr : mg "range" = none) (mt : mg "tuple" = none) : FnOk P w K mg base CX0 2 f fd ["_law_pool_here", "_law_count", "_law_many"] spTies := by
  refine F.ok scTies (fun vs H Q E h => ?_) (fun cdv A outer s H vs Q E hr h => ?_)
  · obtain ⟨p, n, m, rfl, _⟩ := h
    rfl
  · obtain ⟨p, n, m, rfl, lf, n0, n1, m1, q⟩ := h
    refine ⟨_, pss_cons (ps_set (i := 3) scTies.nd rfl (.inl rfl) (pe_lst pa_nil))
      (pss_cons (ps_for PassesOwn.never rfl (pi_range1 (by rfl) mr (pa_cons (pe_call TA.ok hr (by rfl) TA.g TA.kp TA.bd .nil pass0 (pa_cons (pv 0) (pa_cons (pe_op op_add (pe_op op_mul pe_int (pv 1)) pe_int) pa_nil))) pa_nil)) (pg_name (i := 4) scTies.nd rfl (Or.inl rfl))
        (pss_cons (ps_set (i := 5) scTies.nd rfl (.inl rfl) (pe_callTy call_tuple_of (by rfl) mt (by decide +kernel) (pa_cons
          (pe_lc (own := [("_law_lot", 6)]) (g := gName 6) rfl scTies.nd (pi_range1 (by rfl) mr (pa_cons (pv 2) pa_nil)) (blkOk_by (own := [("_law_lot", 6)]) (N := NTi) (sc := defScope sTies) (by decide +kernel))
            (fun _ _ _ _ _ => pg_name (i := 6) scTies.nd rfl (Or.inl rfl))
            (fun _ _ _ _ _ => pts_one (pt_cmpR op_eq (pe_call TA.ok hr (by rfl) TA.g TA.kp TA.bd .nil pass0 (pa_cons (pv 0) (pa_cons pe_int pa_nil))) pe_int (nomark _)))
            (fun _ _ _ _ _ => pv 6)) pa_nil)))
        (pss_one (ps_expr (pe_bm PySem.F.plainAttrs_list PySem.F.slot_list_append PySem.F.type_list_append mt_append (pv 3) (pa_cons (pe_tup (pa_cons (pe_call TA.ok hr (by rfl) TA.g TA.kp TA.bd .nil pass0 (pa_cons (pv 0) (pa_cons (pv 1) pa_nil))) (pa_cons (pe_call TA.ok hr (by rfl) TA.g TA.kp TA.bd .nil pass0 (pa_cons (pv 0) (pa_cons (pv 1) pa_nil))) (pa_cons (pv 5) pa_nil)))) pa_nil))))))
      (pss_one (ps_ret (pv 3)))), ?_⟩
    refine ⟨by show 0 ≤ sizeLine; decide, fun L hL => ?_⟩
    have pL : p ≠ L := lf_ne lf hL
    have s0 := same_new (o := .lst []) hL
    refine ⟨_, rfl, _, rfl, _, _, rfl, rfl, .inl ⟨by decide, by decide⟩, _, _, rfl, rfl, p, 2 * n + 3, (by
      have e : ((2 * n + 3 : Nat) : Int) = 2 * (n : Int) + 3 := by omega
      rw [e]
      rfl), lf_same lf s0, by omega, by omega, fun H1 d k1 lf1 dl => ?_⟩
    have eL1 : H1 L = some (.lst []) := k1 _ _ pL.symm upd_same
    have k01 : Keep p H H1 := (keep_same s0).trans k1
    refine ⟨(d : Int), rfl, by omega, by omega, ?_⟩
    rw [Int.toNat_natCast]
    refine for_range (n := d) (fun i σ H' => ∃ us ts x4 x5 x6, σ = [some (.ref p), some (.int n), some (.int m), some (.ref L), x4, x5, x6] ∧ Keep p H H' ∧ Lf H' p ∧ H' L = some (.lst us) ∧ Ties H' us ts ∧ (∀ t ∈ ts, t.1 < n ∧ t.2.1 < n ∧ (∀ x ∈ t.2.2, x < m) ∧ t.2.2.length ≤ m) ∧ ts.length = i)
      ⟨[], [], _, _, _, rfl, k01, lf1, eL1, .nil, fun t ht => absurd ht List.not_mem_nil, rfl⟩ (fun i σ H2 hi hp => ?_) (fun σ H2 hp => ?_)
    · obtain ⟨us, ts, x4, x5, x6, rfl, k2, lf2, e2, tu, bd, tl⟩ := hp
      have ul := tu.len
      refine ⟨_, rfl, (m : Int), rfl, by omega, by omega, fun D hD => ?_⟩
      rw [Int.toNat_natCast]
      have pD : p ≠ D := lf_ne lf2 hD
      have LD : L ≠ D := ne_of_none e2 hD
      refine lc_range (n := m) (fun j H' => ∃ ls : List Nat, H' D = some (.lst (ls.map vI)) ∧ Keep p H2 H' ∧ Lf H' p ∧ ls.length ≤ j ∧ ∀ x ∈ ls, x < j)
        ⟨[], upd_same, keep_same (same_new hD), lf_upd lf2 pD, Nat.le_refl _, fun x hx => absurd hx List.not_mem_nil⟩ (fun j H3 hj hp => ?_) (fun H3 hp => ?_)
      · obtain ⟨ls, e3, k3, lf3, ll, lm⟩ := hp
        refine ⟨rfl, ?_⟩
        refine ⟨_, rfl, p, 2, rfl, lf3, by decide, by decide, fun H4 d4 k4 lf4 _ => ⟨rfl, _, rfl, ?_⟩⟩
        have e4 := k4 _ _ pD.symm e3
        refine ite2 (fun _ => ?_) (fun _ => ⟨ls, e4, k3.trans k4, lf4, by omega, fun x hx => Nat.lt_succ_of_lt (lm x hx)⟩)
        refine ⟨_, rfl, _, e4, by rw [List.length_map]; exact small1000 (by omega), ls ++ [j], ?_, ?_, lf_upd lf4 pD, by rw [List.length_append]; exact Nat.succ_le_succ ll, fun x hx => ?_⟩
        · rw [upd_same, List.map_append]
          show some (HO.lst (ls.map vI ++ [V.int (0 + (j : Int))])) = _
          rw [Int.zero_add]
          rfl
        · exact keep_at (k3.trans k4) hD
        · rcases List.mem_append.mp hx with h | h
          · exact Nat.lt_succ_of_lt (lm x h)
          · rw [List.mem_singleton.mp h]
            exact Nat.lt_succ_self _
      · obtain ⟨ls, e3, k3, lf3, ll, lm⟩ := hp
        refine ⟨D, _, rfl, .inl ⟨SqL.of e3, fun l hl => ?_⟩⟩
        have s4 := same_new (o := .tup (ls.map vI)) hl
        have lf4 := lf_same lf3 s4
        have e24 : upd H3 l (.tup (ls.map vI)) L = some (.lst us) := s4 _ _ (k3 _ _ pL.symm e2)
        have k24 : Keep p H2 (upd H3 l (.tup (ls.map vI))) := k3.trans (keep_same s4)
        have el4 : upd H3 l (.tup (ls.map vI)) l = some (.tup (ls.map vI)) := upd_same
        generalize upd H3 l (.tup (ls.map vI)) = H4 at *
        refine ⟨_, rfl, .inl ⟨rfl, _, SqL.of e24⟩, ?_⟩
        refine ⟨_, rfl, _, rfl, p, n, rfl, lf4, n0, by omega, fun H5 a k5 lf5 al => ?_⟩
        refine ⟨_, rfl, _, rfl, p, n, rfl, lf5, n0, by omega, fun H6 b k6 lf6 bl => ?_⟩
        refine ⟨_, rfl, by show 3 ≤ sizeLine; decide, fun t ht => ?_⟩
        have s7 := same_new (o := .tup [.int (a : Nat), .int (b : Nat), .ref l]) ht
        have k46 := k5.trans k6
        have e26 := k46 _ _ pL.symm e24
        have e27 := s7 _ _ e26
        have t46 := tk_keep k46 lf4
        refine ⟨L, us, _, rfl, rfl, e27, small1000 (by omega), us ++ [.ref t], ts ++ [(a, b, ls)], _, _, _, rfl, ?_, ?_, upd_same, ?_, ?_, ?_⟩
        · exact keep_at (((k2.trans k24).trans k46).trans (keep_same s7)) hL
        · exact lf_upd (lf_same lf6 s7) pL
        · refine (Ties.app ((((tu.tk (tk_keep k24 lf2)).tk t46).tk (tk_same s7))) (.cons upd_same (s7 _ _ (t46 _ _ el4)) .nil)).tk (tk_lst e27)
        · intro t' ht'
          rcases List.mem_append.mp ht' with h | h
          · exact bd t' h
          · rw [List.mem_singleton.mp h]
            exact ⟨al, bl, lm, ll⟩
        · rw [List.length_append, tl]
          rfl
    · obtain ⟨us, ts, x4, x5, x6, rfl, k2, lf2, e2, tu, bd, tl⟩ := hp
      exact ⟨_, rfl, q H2 L us ts k2 lf2 hL e2 tu bd (by omega)⟩
end
/-! ### leads -/
def MatA (H0 H : Hp) (L : Addr) (n : Nat) (M : Nat → Nat → Bool) : Prop := ∃ rs : List Addr, H L = some (.lst (rs.map V.ref)) ∧ H0 L = none ∧ rs.length = n ∧ rs.Nodup ∧ L ∉ rs ∧ ∀ i r, rs[i]? = some r → H0 r = none ∧ H r = some (.lst ((List.range n).map fun j => V.bl (M i j)))
theorem MatA.same {H0 H H' : Hp} {L : Addr} {n : Nat} {M : Nat → Nat → Bool} (s : Same H H') (h : MatA H0 H L n M) : MatA H0 H' L n M := by
  obtain ⟨rs, h1, h2, h3, h4, h5, h6⟩ := h
  exact ⟨rs, s _ _ h1, h2, h3, h4, h5, fun i r e => ⟨(h6 i r e).1, s _ _ (h6 i r e).2⟩⟩
theorem range_set {n i : Nat} {g : Nat → V} {v : V} : ((List.range n).map g).set i v = (List.range n).map fun j => if j = i then v else g j := by
  apply List.ext_getElem
  · simp
  · intro k h1 h2
    rw [List.length_set, List.length_map, List.length_range] at h1
    rw [List.getElem_set]
    by_cases c : i = k
    · subst c
      simp
    · rw [if_neg c]
      simp
      intro z
      exact absurd z.symm c
theorem MatA.at {H0 H : Hp} {L : Addr} {n : Nat} {M : Nat → Nat → Bool} (h : MatA H0 H L n M) {i : Nat} (hi : i < n) :
    ∃ (rs : List Addr) (r : Addr), H L = some (.lst (rs.map V.ref)) ∧ atI (rs.map V.ref) (i : Nat) = some (.ref r) ∧ H r = some (.lst ((List.range n).map fun j => V.bl (M i j))) ∧ H0 r = none ∧
      ∀ (j : Nat) (v : Bool), MatA H0 (upd H r (.lst (((List.range n).map fun j => V.bl (M i j)).set j (.bl v)))) L n (put M i j v) := by
  obtain ⟨rs, h1, h2, h3, h4, h5, h6⟩ := h
  have ir : rs[i]? = some rs[i] := List.getElem?_eq_getElem (by omega)
  refine ⟨rs, rs[i], h1, atI_nat (by rw [List.getElem?_map, ir]; rfl), (h6 i _ ir).2, (h6 i _ ir).1, fun j v => ?_⟩
  have nL : L ≠ rs[i] := fun e => h5 (e ▸ List.getElem_mem (by omega))
  refine ⟨rs, by rw [upd_ne nL]; exact h1, h2, h3, h4, h5, fun a r e => ⟨(h6 a r e).1, ?_⟩⟩
  by_cases c : a = i
  · subst c
    rw [ir] at e
    cases e
    rw [upd_same, range_set]
    congr 2
    apply List.map_congr_left
    intro b _
    unfold put
    by_cases d : b = j
    · simp [d]
    · simp [d]
  · have nr : r ≠ rs[i] := fun z => c (by
      obtain ⟨ha, rfl⟩ := List.getElem?_eq_some_iff.mp e
      exact (List.getElem_inj h4).mp z)
    rw [upd_ne nr, (h6 a r e).2]
    congr 2
    apply List.map_congr_left
    intro b _
    unfold put
    simp [c]
theorem row_at {n j : Nat} {g : Nat → V} (h : j < n) : atI ((List.range n).map g) (j : Nat) = some (g j) := atI_nat (by rw [List.getElem?_map, List.getElem?_range h]; rfl)
theorem _root_.Gr.Wsh.weak {E : Nat → Nat → Prop} {k : Nat} {M : Nat → Nat → Bool} {d1 d2 : Nat → Nat → Prop} (W : Wsh E k M d1) (h : ∀ a b, d2 a b → d1 a b) : Wsh E k M d2 := ⟨W.lo, W.up, fun i j d => W.dn i j (h i j d)⟩
theorem op_inDK {X : Cx} {K : PySem.W.Frag} (hk : X.K = K) (hu : X.A.units + 65 < cLine) : OpR X (compareOp .In) (rInD K) := by
  subst hk
  exact op_inD hu
theorem sl_tupK {X : Cx} {K : PySem.W.Frag} (hk : X.K = K) : SlR X (rSlT K) := by
  subst hk
  exact sl_tup
def dP (p : Nat × Nat) : PyData := .tuple [.int p.1, .int p.2]
theorem dP_pl (p : Nat × Nat) : Sf.Pl 1 (dP p) := Sf.pl2 Sf.pl_int Sf.pl_int
theorem Prs.dp {K : PySem.W.Frag} {H : Hp} : ∀ {us : List V} {ts : List (Nat × Nat)}, Prs H us ts → DpAll K H us (ts.map dP)
  | _, _, .nil => .nil
  | _, _, .cons h r => .cons (.tup (SqT.of h) (.cons (.int _) (.cons (.int _) .nil))) r.dp
theorem any_mem {ps : List (Nat × Nat)} {q : Nat × Nat} : ((ps.map dP).any fun z => PyData.eqv z (dP q)) = decide (q ∈ ps) := by
  rw [Bool.eq_iff_iff, List.any_eq_true, decide_eq_true_iff]
  constructor
  · rintro ⟨z, hz, e⟩
    obtain ⟨p, hp, rfl⟩ := List.mem_map.mp hz
    have := Sf.eqv_eq _ _ (dP_pl p).1 (dP_pl q).1 e
    unfold dP at this
    injection this with this
    injection this with h1 h2
    injection h2 with h2 _
    injection h1 with h1
    injection h2 with h2
    have e1 : p.1 = q.1 := by omega
    have e2 : p.2 = q.2 := by omega
    have : p = q := Prod.ext e1 e2
    rw [← this]
    exact hp
  · exact fun h => ⟨dP q, List.mem_map.mpr ⟨q, h, rfl⟩, Sf.eqv_self (dP_pl q).1⟩
theorem ix0 {n j : Nat} (h : j < n) : ixN n (0 + (j : Int)) = some j := by
  unfold ixN
  rw [Int.zero_add, if_pos (by omega), if_pos (by omega), Int.toNat_natCast]
theorem cutne {n : Nat} : ¬ (HT.sIx 3 0 none = 0 ∧ HT.sIx 3 3 (some 2) = 3) := by decide
abbrev NLd : List Str := ["_law_ties_here", "_law_count", "_law_leads_here", "_law_via", "_law_one", "_law_other", "_law_tie"]
theorem scLeads : FnScope NLd ["_law_ties_here", "_law_count"] (defScope sLeads) := ⟨rfl, rfl, rfl, by decide +kernel, rfl, by decide +kernel, by decide +kernel⟩
abbrev scL1 : Scope := { kind := .function, names := [(".0", .local), ("_law_one", .cell), ("range", .globalImplicit), ("_law_count", .cell), ("_law_ties_here", .cell)], isGenerator := false, isCoroutine := false }
abbrev scL2 : Scope := { kind := .function, names := [(".0", .local), ("_law_other", .local), ("_law_one", .cell), ("_law_ties_here", .cell)], isGenerator := false, isCoroutine := false }
def spLeads : Sp := fun vs H Q _ => ∃ (T : Addr) (n : Nat) (us : List V) (ts : List Tie), vs = [.ref T, .int n] ∧ H T = some (.lst us) ∧ Ties H us ts ∧ (∀ t ∈ ts, t.1 < n ∧ t.2.1 < n) ∧ n ≤ 100 ∧ ts.length ≤ 900 ∧
  ∀ H' L M, Same H H' → MatA H H' L n M → (∀ i j, M i j = true ↔ Pk (fun i j => (i, j) ∈ ts.map pr2) n i j) → Q (.ref L) H'
section
variable {P : Program} {w : World} {K : PySem.W.Frag} {mg : Str → Option Value} {base : Heap} {f f1 f2 : Addr} {fd d1 d2 : FuncData} {k : Nat}
theorem ok_leads (F : Fun K "_law_leads" "_law_leads" sLeads f fd) (mr : mg "range" = none) : FnOk P w K mg base CX0 (k + 1) f fd ["_law_ties_here", "_law_count"] spLeads := by
  refine F.ok scLeads (fun vs H Q E h => ?_) (fun cdv A outer s H vs Q E hr h => ?_)
  · obtain ⟨T, n, us, ts, rfl, _⟩ := h
    rfl
  · obtain ⟨T, n, us, ts, rfl, hT, tu, bd, n1, tl, q⟩ := h
    refine ⟨_, pss_cons (ps_setLc (i := 2) (own := [("_law_one", 4)]) (g := gName 4) (tt := tYes) rfl scLeads.nd rfl rfl (sw_true rfl rfl rfl rfl) (pi_range1 (by rfl) mr (pa_cons (pv 1) pa_nil)) (blkOk_by (own := [("_law_one", 4)]) (N := NLd) (sc := defScope sLeads) (by decide +kernel))
        (fun _ _ _ _ _ => pg_name (i := 4) scLeads.nd rfl (Or.inr rfl)) (fun _ _ _ _ _ => pts_nil)
        (fun _ _ _ _ _ => pe_lc (own := [("_law_other", 5)]) (g := gName 5) (tt := tYes) rfl scLeads.nd (pi_range1 (by rfl) mr (pa_cons (pv 1) pa_nil)) (blkOk_by (own := [("_law_other", 5)]) (N := NLd) (sc := scL1) (by decide +kernel))
          (fun _ _ _ _ _ => pg_name (i := 5) scLeads.nd rfl (Or.inl rfl)) (fun _ _ _ _ _ => pts_nil)
          (fun _ _ _ _ _ => pe_cmpR (op_inDK (K := K) rfl (u65 hr)) (pe_tup (pa_cons (pv 4) (pa_cons (pv 5) pa_nil)))
            (pe_lc (own := [("_law_tie", 6)]) (g := gName 6) (tt := tYes) rfl scLeads.nd (pi_listK (K := K) rfl (pv 0)) (blkOk_by (own := [("_law_tie", 6)]) (N := NLd) (sc := scL2) (by decide +kernel))
              (fun _ _ _ _ _ => pg_name (i := 6) scLeads.nd rfl (Or.inl rfl)) (fun _ _ _ _ _ => pts_nil)
              (fun _ _ _ _ _ => pe_slice (sl_tupK (K := K) rfl) (pv 6) po_none (po_some pe_int))) (by rfl))))
      (pss_cons (ps_for PassesOwn.never rfl (pi_range1 (by rfl) mr (pa_cons (pv 1) pa_nil)) (pg_name (i := 3) scLeads.nd rfl (Or.inl rfl))
        (pss_one (ps_for PassesOwn.never rfl (pi_range1 (by rfl) mr (pa_cons (pv 1) pa_nil)) (pg_name (i := 4) scLeads.nd rfl (Or.inl rfl))
          (pss_one (ps_for PassesOwn.never rfl (pi_range1 (by rfl) mr (pa_cons (pv 1) pa_nil)) (pg_name (i := 5) scLeads.nd rfl (Or.inl rfl))
            (pss_one (ps_asg (pe_or (pe_ix ix_list (pe_ix ix_list (pv 2) (pv 4) (fun _ _ => rfl)) (pv 5) (fun _ _ => rfl)) (pe_one (pe_and (pe_ix ix_list (pe_ix ix_list (pv 2) (pv 4) (fun _ _ => rfl)) (pv 3) (fun _ _ => rfl)) (pe_one (pe_ix ix_list (pe_ix ix_list (pv 2) (pv 3) (fun _ _ => rfl)) (pv 5) (fun _ _ => rfl))))))
              (pg_sub (pe_ix ix_list (pv 2) (pv 4) (fun _ _ => rfl)) (pv 5) set_list))))))))
      (pss_one (ps_ret (pv 2)))), ?_⟩
    -- the matrix at first
    refine ⟨_, rfl, (n : Int), rfl, by omega, by omega, fun D hD => ?_⟩
    rw [Int.toNat_natCast]
    have ul := tu.len
    refine lc_range (n := n) (fun i H' => ∃ rs : List Addr, H' D = some (.lst (rs.map V.ref)) ∧ rs.length = i ∧ rs.Nodup ∧ D ∉ rs ∧ Same H H' ∧ ∀ a r, rs[a]? = some r → H r = none ∧ H' r = some (.lst ((List.range n).map fun j => V.bl (decide ((a, j) ∈ ts.map pr2)))))
      ⟨[], upd_same, rfl, List.nodup_nil, List.not_mem_nil, same_new hD, fun a r e => by simp at e⟩ (fun i H1 hi hp => ?_) (fun H1 hp => ?_)
    · obtain ⟨rs, e1, rl, rn, Dr, s1, rr⟩ := hp
      refine ⟨rfl, ?_⟩
      refine ⟨_, rfl, (n : Int), rfl, by omega, by omega, fun D2 hD2 => ?_⟩
      rw [Int.toNat_natCast]
      have DD2 : D ≠ D2 := ne_of_none e1 hD2
      have hD20 : H D2 = none := free_same s1 hD2
      refine lc_range (n := n) (fun j H' => Same H1 H' ∧ H' D2 = some (.lst ((List.range j).map fun b => V.bl (decide ((i, b) ∈ ts.map pr2)))))
        ⟨same_new hD2, by rw [List.range_zero]; exact upd_same⟩ (fun j H2 hj hp => ?_) (fun H2 hp => ?_)
      · obtain ⟨s2, e2⟩ := hp
        refine ⟨rfl, ?_⟩
        refine ⟨_, rfl, _, rfl, by show 2 ≤ sizeLine; decide, fun t ht => ?_⟩
        have s3 := same_new (o := .tup [.int (0 + (i : Int)), .int (0 + (j : Int))]) ht
        have et3 : upd H2 t (.tup [.int (0 + (i : Int)), .int (0 + (j : Int))]) t = some (.tup [.int (0 + (i : Int)), .int (0 + (j : Int))]) := upd_same
        generalize upd H2 t (.tup [.int (0 + (i : Int)), .int (0 + (j : Int))]) = H3 at *
        have s03 := (s1.trans s2).trans s3
        refine ⟨_, rfl, T, rfl, ⟨_, SqL.of (s03 _ _ hT)⟩, fun D3 hD3 => ?_⟩
        refine lc_list (K := K) (xs := us) (fun l H' => Same H3 H' ∧ ∃ ps, H' D3 = some (.lst ps) ∧ Prs H' ps ((ts.take l).map pr2)) ⟨same_new hD3, [], upd_same, .nil⟩ (fun l H' _ hp => SqL.of (hp.1 _ _ (s03 _ _ hT))) (fun l x H4 hx hp => ?_) (fun H4 hp => ?_)
        · obtain ⟨s4, ps, e4, pr⟩ := hp
          obtain ⟨t', l', a, b, ls, rfl, et, ht', hl'⟩ := tu.at hx
          have il : l < us.length := (List.getElem?_eq_some_iff.mp hx).1
          have lp := pr.len
          rw [List.length_map, List.length_take] at lp
          refine ⟨rfl, ?_⟩
          refine ⟨_, rfl, 2, rfl, t', _, rfl, SqT.of (s4 _ _ (s03 _ _ ht')), cutne (n := 0), fun p2 hp2 => ?_⟩
          have s5 := same_new (o := .tup [.int (a : Nat), .int (b : Nat)]) hp2
          have e5 := s5 _ _ e4
          refine ⟨ps, e5, small1000 (by omega), keep_new hD3 (s4.trans s5), ps ++ [.ref p2], upd_same, ?_⟩
          rw [take_map et]
          exact ((pr.tk (tk_same s5)).app (.cons upd_same .nil)).tk (tk_lst e5)
        · obtain ⟨s4, ps, e4, pr⟩ := hp
          rw [ul, List.take_length] at pr
          refine ⟨dP (i, j), (ts.map pr2).map dP, ?_, .lst (SqL.of e4) pr.dp, (dP_pl _).shaped (by decide), Sf.shaped_list (n := 1) (fun d hd => ?_) (by decide), ?_⟩
          · have z := s4 _ _ et3
            rw [Int.zero_add, Int.zero_add] at z
            exact .tup (SqT.of z) (.cons (.int _) (.cons (.int _) .nil))
          · obtain ⟨p, _, rfl⟩ := List.mem_map.mp hd
            exact dP_pl p
          · rw [any_mem]
            have e24 := s4 _ _ (s3 _ _ e2)
            refine ⟨_, e24, by rw [List.length_map, List.length_range]; exact small1000 (by omega), keep_new hD2 (s2.trans (s3.trans s4)), ?_⟩
            rw [upd_same, List.range_succ, List.map_append]
            rfl
      · obtain ⟨s2, e2⟩ := hp
        have e12 := s2 _ _ e1
        refine ⟨_, e12, by rw [List.length_map]; exact small1000 (by omega), rs ++ [D2], ?_, ?_, ?_, ?_, keep_new hD (s1.trans s2), fun a r e => ?_⟩
        · rw [upd_same, List.map_append]
          rfl
        · rw [List.length_append, rl]
          rfl
        · rw [List.nodup_append]
          refine ⟨rn, List.nodup_cons.mpr ⟨List.not_mem_nil, List.nodup_nil⟩, fun a ha b hb e => ?_⟩
          rw [List.mem_singleton.mp hb] at e
          obtain ⟨c, hc⟩ := List.mem_iff_getElem?.mp ha
          have := (rr c a hc).2
          rw [e, hD2] at this
          cases this
        · intro z
          rcases List.mem_append.mp z with z | z
          · exact Dr z
          · exact DD2 (List.mem_singleton.mp z)
        · by_cases c : a < rs.length
          · rw [List.getElem?_append_left c] at e
            obtain ⟨g1, g2⟩ := rr a r e
            refine ⟨g1, ?_⟩
            rw [upd_ne (fun z => by rw [z] at e; exact Dr (List.mem_of_getElem? e))]
            exact s2 _ _ g2
          · rw [List.getElem?_append_right (by omega)] at e
            have ea : a = i := by
              have := (List.getElem?_eq_some_iff.mp e).1
              simp at this
              omega
            subst ea
            rw [rl, Nat.sub_self] at e
            cases e
            refine ⟨hD20, ?_⟩
            rw [upd_ne DD2.symm]
            exact e2
    obtain ⟨rs, e1, rl, rn, Dr, s1, rr⟩ := hp
    have m1 : MatA H H1 D n (fun a j => decide ((a, j) ∈ ts.map pr2)) := ⟨rs, e1, hD, rl, rn, Dr, rr⟩
    have hE : ∀ i j, (i, j) ∈ ts.map pr2 → i < n ∧ j < n := fun i j h => by
      obtain ⟨t, ht, e⟩ := List.mem_map.mp h
      cases e
      exact bd t ht
    -- by each entry
    refine ⟨_, rfl, (n : Int), rfl, by omega, by omega, ?_⟩
    rw [Int.toNat_natCast]
    refine for_range (n := n) (fun k σ H' => ∃ M x3 x4 x5, σ = [some (.ref T), some (.int n), some (.ref D), x3, x4, x5, none] ∧ Same H H' ∧ MatA H H' D n M ∧ ∀ i j, M i j = true ↔ Pk (fun i j => (i, j) ∈ ts.map pr2) k i j)
      ⟨_, _, _, _, rfl, s1, m1, fun i j => by rw [pk_zero]; exact decide_eq_true_iff⟩ (fun k' σ H2 hk hp => ?_) (fun σ H2 hp => ?_)
    · obtain ⟨M, x3, x4, x5, rfl, s2, m2, iff⟩ := hp
      refine ⟨_, rfl, (n : Int), rfl, by omega, by omega, ?_⟩
      rw [Int.toNat_natCast]
      refine for_range (n := n) (fun i σ H' => ∃ M x4 x5, σ = [some (.ref T), some (.int n), some (.ref D), some (.int (0 + (k' : Int))), x4, x5, none] ∧ Same H H' ∧ MatA H H' D n M ∧ Wsh (fun i j => (i, j) ∈ ts.map pr2) k' M (fun a b => a < i ∧ b < n))
        ⟨_, _, _, rfl, s2, m2, (wsh_begin iff).weak fun a b h => absurd h.1 (Nat.not_lt_zero a)⟩ (fun i σ H3 hi hp => ?_) (fun σ H3 hp => ?_)
      · obtain ⟨M, x4, x5, rfl, s3, m3, W⟩ := hp
        refine ⟨_, rfl, (n : Int), rfl, by omega, by omega, ?_⟩
        rw [Int.toNat_natCast]
        refine for_range (n := n) (fun j σ H' => ∃ M x5, σ = [some (.ref T), some (.int n), some (.ref D), some (.int (0 + (k' : Int))), some (.int (0 + (i : Int))), x5, none] ∧ Same H H' ∧ MatA H H' D n M ∧ Wsh (fun i j => (i, j) ∈ ts.map pr2) k' M (fun a b => (a < i ∧ b < n) ∨ (a = i ∧ b < j)))
          ⟨_, _, rfl, s3, m3, W.weak fun a b h => h.elim id fun z => absurd z.2 (Nat.not_lt_zero b)⟩ (fun j σ H4 hj hp => ?_) (fun σ H4 hp => ?_)
        · obtain ⟨M, x5, rfl, s4, m4, W⟩ := hp
          obtain ⟨rs1, r1, hL, at1, hr1, f1, up⟩ := m4.at hi
          obtain ⟨rs2, r2, hL2, at2, hr2, _, _⟩ := m4.at hk
          have z1 : ∀ {xs : List V} {i : Nat} {v : V}, atI xs (i : Nat) = some v → atI xs (0 + (i : Int)) = some v := fun h => by
            rw [Int.zero_add]
            exact h
          have W' := (wsh_put W i j).weak (d2 := fun a b => (a < i ∧ b < n) ∨ (a = i ∧ b < j + 1)) (fun a b h => by
            rcases h with h | h
            · exact .inl (.inl h)
            · by_cases c : b = j
              · exact .inr ⟨h.1, c⟩
              · exact .inl (.inr ⟨h.1, by omega⟩))
          have s5 : ∀ v, Same H (upd H4 r1 (.lst (((List.range n).map fun j => V.bl (M i j)).set j (.bl v)))) := fun v => keep_new f1 s4
          have ixn : ixN ((List.range n).map fun j => V.bl (M i j)).length (0 + (j : Int)) = some j := ix0 (by rw [List.length_map, List.length_range]; exact hj)
          refine ⟨_, rfl, _, rfl, D, _, _, _, rfl, rfl, SqL.of hL, z1 at1, _, rfl, r1, _, _, _, rfl, rfl, SqL.of hr1, z1 (row_at hj), _, rfl, ?_⟩
          cases c1 : M i j with
          | true =>
            rw [c1, Bool.true_or] at W'
            exact iteT ⟨_, rfl, _, rfl, D, _, _, _, rfl, rfl, SqL.of hL, z1 at1, _, rfl, r1, _, _, j, rfl, rfl, hr1, ixn, _, _, rfl, s5 _, up j true, W'⟩
          | false =>
            refine iteF ⟨_, rfl, _, rfl, D, _, _, _, rfl, rfl, SqL.of hL, z1 at1, _, rfl, r1, _, _, _, rfl, rfl, SqL.of hr1, z1 (row_at hk), _, rfl, ?_⟩
            cases c2 : M i k' with
            | true =>
              refine iteT ⟨_, rfl, _, rfl, D, _, _, _, rfl, rfl, SqL.of hL2, z1 at2, _, rfl, r2, _, _, _, rfl, rfl, SqL.of hr2, z1 (row_at hj), ?_⟩
              rw [c1, c2, Bool.false_or, Bool.true_and] at W'
              exact ⟨_, rfl, _, rfl, D, _, _, _, rfl, rfl, SqL.of hL, z1 at1, _, rfl, r1, _, _, j, rfl, rfl, hr1, ixn, _, _, rfl, s5 _, up j _, W'⟩
            | false =>
              rw [c1, c2, Bool.false_or, Bool.false_and] at W'
              exact iteF ⟨_, rfl, _, rfl, D, _, _, _, rfl, rfl, SqL.of hL, z1 at1, _, rfl, r1, _, _, j, rfl, rfl, hr1, ixn, _, _, rfl, s5 _, up j false, W'⟩
        · obtain ⟨M, x5, rfl, s4, m4, W⟩ := hp
          exact ⟨M, _, _, rfl, s4, m4, W.weak fun a b h => by
            by_cases c : a = i
            · exact .inr ⟨c, h.2⟩
            · exact .inl ⟨by omega, h.2⟩⟩
      · obtain ⟨M, x4, x5, rfl, s3, m3, W⟩ := hp
        exact ⟨M, _, _, _, rfl, s3, m3, wsh_end hE W fun i j hi hj => ⟨hi, hj⟩⟩
    · obtain ⟨M, x3, x4, x5, rfl, s2, m2, iff⟩ := hp
      exact ⟨_, rfl, q H2 D M s2 m2 iff⟩
end
end W35

namespace Gr
/-! ### coming to entries by ties told by numbers, and rows back -/
abbrev Cm := List (Nat × Option Nat)
def keys (c : Cm) : List Nat := c.map (·.1)
def visit (E : Nat → Nat) (c : Cm) (n : Nat) : Cm := if E n ∈ keys c then c else c ++ [(E n, some n)]
def bfs (E : Nat → Nat) (ow : Nat → List Nat) : Nat → Nat → Cm → Cm
  | 0, _, c => c
  | f + 1, i, c => match c[i]? with
    | none => c
    | some p => bfs E ow f (i + 1) ((ow p.1).foldl (visit E) c)
theorem pigl {es : List Nat} : ∀ {l : List Nat}, l.Nodup → (∀ x ∈ l, x ∈ es) → l.length ≤ es.length := fun {l} => by
  induction l generalizing es with
  | nil => exact fun _ _ => Nat.zero_le _
  | cons x l ih =>
    intro nd sub
    rw [List.nodup_cons] at nd
    have hx := sub x List.mem_cons_self
    have z := ih (es := es.erase x) nd.2 fun y hy => (List.mem_erase_of_ne (fun e : y = x => nd.1 (e ▸ hy))).mpr (sub y (List.mem_cons_of_mem _ hy))
    rw [List.length_erase_of_mem hx] at z
    have : 0 < es.length := List.length_pos_of_mem hx
    rw [List.length_cons]
    omega
structure Bf (es bs : List Nat) (S E : Nat → Nat) (ow : Nat → List Nat) (i : Nat) (c : Cm) : Prop where
  nd : (keys c).Nodup
  sub : ∀ x ∈ keys c, x ∈ es
  beg : ∀ b ∈ bs, b ∈ keys c
  non : ∀ e, (e, none) ∈ c → e ∈ bs
  par : ∀ (j e n : Nat), c[j]? = some (e, some n) → E n = e ∧ n ∈ ow (S n) ∧ ∃ (k : Nat) (o : Option Nat), k < j ∧ c[k]? = some (S n, o)
  cl : ∀ (j : Nat) (p : Nat × Option Nat), j < i → c[j]? = some p → ∀ n ∈ ow p.1, E n ∈ keys c
section
variable {es bs : List Nat} {S E : Nat → Nat} {ow : Nat → List Nat} {i : Nat} {c : Cm}
theorem bf_len (B : Bf es bs S E ow i c) : c.length ≤ es.length := by
  have := pigl B.nd B.sub
  rw [keys, List.length_map] at this
  exact this
theorem bf_init (nd : bs.Nodup) (sub : ∀ b ∈ bs, b ∈ es) : Bf es bs S E ow 0 (bs.map fun b => (b, none)) := by
  have ek : keys (bs.map fun b => ((b, none) : Nat × Option Nat)) = bs := by
    rw [keys, List.map_map]
    exact List.map_id _
  refine ⟨by rw [ek]; exact nd, by rw [ek]; exact sub, by rw [ek]; exact fun b h => h, fun e h => ?_, fun j e n h => ?_, fun j p h => absurd h (Nat.not_lt_zero _)⟩
  · obtain ⟨b, hb, e'⟩ := List.mem_map.mp h
    cases e'
    exact hb
  · rw [List.getElem?_map] at h
    cases z : bs[j]? with
    | none => rw [z] at h; cases h
    | some b => rw [z] at h; cases h
theorem keys_snoc {c : Cm} {p : Nat × Option Nat} : keys (c ++ [p]) = keys c ++ [p.1] := by
  rw [keys, List.map_append]
  rfl
theorem visit_ok (how : ∀ x ∈ es, ∀ n ∈ ow x, S n = x ∧ E n ∈ es) (B : Bf es bs S E ow i c) {p : Nat × Option Nat} (hp : c[i]? = some p) {n : Nat} (hn : n ∈ ow p.1) :
    Bf es bs S E ow i (visit E c n) ∧ (visit E c n)[i]? = some p ∧ E n ∈ keys (visit E c n) ∧ ∀ x ∈ keys c, x ∈ keys (visit E c n) := by
  have il : i < c.length := (List.getElem?_eq_some_iff.mp hp).1
  have hpe : p.1 ∈ es := B.sub _ (List.mem_map.mpr ⟨p, List.mem_of_getElem? hp, rfl⟩)
  obtain ⟨hS, hE⟩ := how _ hpe n hn
  unfold visit
  by_cases h : E n ∈ keys c
  · rw [if_pos h]
    exact ⟨B, hp, h, fun x hx => hx⟩
  · rw [if_neg h]
    have old : ∀ {j : Nat} {q : Nat × Option Nat}, j < c.length → ((c ++ [(E n, some n)])[j]? = some q ↔ c[j]? = some q) := fun hj => by
      rw [List.getElem?_append_left hj]
    refine ⟨⟨?_, ?_, ?_, ?_, ?_, ?_⟩, (old il).mpr hp, ?_, ?_⟩
    · rw [keys_snoc, List.nodup_append]
      refine ⟨B.nd, List.nodup_cons.mpr ⟨List.not_mem_nil, List.nodup_nil⟩, fun a ha b hb e => ?_⟩
      rw [List.mem_singleton.mp hb] at e
      exact h ((show a = E n from e) ▸ ha)
    · intro x hx
      rw [keys_snoc] at hx
      rcases List.mem_append.mp hx with hx | hx
      · exact B.sub x hx
      · rw [List.mem_singleton.mp hx]
        exact hE
    · intro b hb
      rw [keys_snoc]
      exact List.mem_append_left _ (B.beg b hb)
    · intro e he
      rcases List.mem_append.mp he with he | he
      · exact B.non e he
      · cases List.mem_singleton.mp he
    · intro j e m hj
      by_cases cj : j < c.length
      · obtain ⟨h1, h2, k, o, hk, ho⟩ := B.par j e m ((old cj).mp hj)
        exact ⟨h1, h2, k, o, hk, (old (by omega)).mpr ho⟩
      · have jl := (List.getElem?_eq_some_iff.mp hj).1
        rw [List.length_append, List.length_singleton] at jl
        have ej : j = c.length := by omega
        subst ej
        rw [List.getElem?_append_right (Nat.le_refl _), Nat.sub_self] at hj
        cases hj
        refine ⟨rfl, by rw [hS]; exact hn, i, p.2, il, ?_⟩
        rw [hS]
        exact (old il).mpr hp
    · intro j q hj hq m hm
      rw [keys_snoc]
      exact List.mem_append_left _ (B.cl j q hj ((old (by omega)).mp hq) m hm)
    · rw [keys_snoc]
      exact List.mem_append_right _ (List.mem_singleton.mpr rfl)
    · intro x hx
      rw [keys_snoc]
      exact List.mem_append_left _ hx
theorem visits_ok (how : ∀ x ∈ es, ∀ n ∈ ow x, S n = x ∧ E n ∈ es) {p : Nat × Option Nat} : ∀ {l : List Nat} {c : Cm}, (∀ n ∈ l, n ∈ ow p.1) → Bf es bs S E ow i c → c[i]? = some p →
    Bf es bs S E ow i (l.foldl (visit E) c) ∧ (l.foldl (visit E) c)[i]? = some p ∧ (∀ n ∈ l, E n ∈ keys (l.foldl (visit E) c)) ∧ ∀ x ∈ keys c, x ∈ keys (l.foldl (visit E) c)
  | [], c, _, B, hp => ⟨B, hp, fun n hn => absurd hn List.not_mem_nil, fun x hx => hx⟩
  | n :: l, c, hl, B, hp => by
    obtain ⟨B1, h1, k1, m1⟩ := visit_ok how B hp (hl n List.mem_cons_self)
    obtain ⟨B2, h2, k2, m2⟩ := visits_ok (l := l) how (fun m hm => hl m (List.mem_cons_of_mem _ hm)) B1 h1
    refine ⟨B2, h2, fun m hm => ?_, fun x hx => m2 x (m1 x hx)⟩
    rcases List.mem_cons.mp hm with e | hm
    · rw [e]
      exact m2 _ k1
    · exact k2 m hm
theorem bf_step (how : ∀ x ∈ es, ∀ n ∈ ow x, S n = x ∧ E n ∈ es) (B : Bf es bs S E ow i c) {p : Nat × Option Nat} (hp : c[i]? = some p) : Bf es bs S E ow (i + 1) ((ow p.1).foldl (visit E) c) := by
  obtain ⟨B1, h1, k1, _⟩ := visits_ok how (fun n hn => hn) B hp
  refine ⟨B1.nd, B1.sub, B1.beg, B1.non, B1.par, fun j q hj hq n hn => ?_⟩
  by_cases e : j = i
  · subst e
    rw [h1] at hq
    cases hq
    exact k1 n hn
  · exact B1.cl j q (by omega) hq n hn
theorem bfs_ok (how : ∀ x ∈ es, ∀ n ∈ ow x, S n = x ∧ E n ∈ es) : ∀ {f i : Nat} {c : Cm}, es.length < f + i → i ≤ c.length → Bf es bs S E ow i c → Bf es bs S E ow (bfs E ow f i c).length (bfs E ow f i c)
  | 0, i, c, hf, hi, B => by
    have := bf_len B
    omega
  | f + 1, i, c, hf, hi, B => by
    unfold bfs
    cases z : c[i]? with
    | none =>
      have : c.length ≤ i := List.getElem?_eq_none_iff.mp z
      have e : i = c.length := by omega
      subst e
      exact B
    | some p =>
      have il := (List.getElem?_eq_some_iff.mp z).1
      have B1 := bf_step how B z
      have hl : i + 1 ≤ ((ow p.1).foldl (visit E) c).length := (List.getElem?_eq_some_iff.mp (visits_ok how (fun n hn => hn) B z).2.1).1
      exact bfs_ok how (by omega) hl B1
/-- one turn more: where fuel is enough -/
theorem bfs_end {f i : Nat} {c : Cm} (h : c[i]? = none) : bfs E ow f i c = c := by
  cases f with
  | zero => rfl
  | succ f =>
    unfold bfs
    rw [h]
end
/-! ### rows back -/
def look (c : Cm) (x : Nat) : Option Nat := (c.find? fun p => p.1 = x).bind (·.2)
theorem look_at : ∀ {c : Cm}, (keys c).Nodup → ∀ {j x : Nat} {o : Option Nat}, c[j]? = some (x, o) → look c x = o
  | [], _, j, x, o, h => by simp at h
  | (y, u) :: c, nd, 0, x, o, h => by
    cases h
    unfold look
    rw [List.find?_cons_of_pos (by simp)]
    rfl
  | (y, u) :: c, nd, j + 1, x, o, h => by
    have nd' : y ∉ keys c ∧ (keys c).Nodup := List.nodup_cons.mp nd
    have hx : x ∈ keys c := List.mem_map.mpr ⟨_, List.mem_of_getElem? (i := j) h, rfl⟩
    have ne : y ≠ x := fun e => nd'.1 (e ▸ hx)
    have ih := look_at nd'.2 (j := j) h
    unfold look at ih ⊢
    rw [List.find?_cons_of_neg (by simp [ne])]
    exact ih
def backR (S : Nat → Nat) (c : Cm) : Nat → Option Nat → List Nat
  | 0, _ => []
  | _ + 1, none => []
  | f + 1, some n => n :: backR S c f (look c (S n))
def rowBack (S : Nat → Nat) (c : Cm) (x : Nat) : List Nat := (backR S c c.length (look c x)).reverse
/-- a walk tie behind tie -/
inductive Wk (S E : Nat → Nat) : Nat → List Nat → Nat → Prop
  | nil {x : Nat} : Wk S E x [] x
  | cons {n y : Nat} {r : List Nat} : Wk S E (E n) r y → Wk S E (S n) (n :: r) y
section
variable {S E : Nat → Nat}
theorem Wk.app : ∀ {r q : List Nat} {x y z : Nat}, Wk S E x r y → Wk S E y q z → Wk S E x (r ++ q) z
  | [], q, _, _, _, .nil, h => h
  | _ :: r, q, _, _, _, .cons h, g => .cons (h.app g)
theorem Wk.split : ∀ {r q : List Nat} {x z : Nat}, Wk S E x (r ++ q) z → ∃ y, Wk S E x r y ∧ Wk S E y q z
  | [], q, x, z, h => ⟨x, .nil, h⟩
  | n :: r, q, _, z, .cons h => by
    obtain ⟨y, h1, h2⟩ := Wk.split (r := r) h
    exact ⟨y, .cons h1, h2⟩
theorem Wk.one {n : Nat} : Wk S E (S n) [n] (E n) := .cons .nil
theorem Wk.head {n x y : Nat} {r : List Nat} (h : Wk S E x (n :: r) y) : x = S n := by
  cases h
  rfl
theorem Wk.emp {x y : Nat} (h : Wk S E x [] y) : x = y := by
  cases h
  rfl
theorem Wk.tail {n x y : Nat} {r : List Nat} (h : Wk S E x (n :: r) y) : Wk S E (E n) r y := by
  cases h with
  | cons h => exact h
theorem Wk.last {r : List Nat} {n x y : Nat} (h : Wk S E x (r ++ [n]) y) : y = E n := by
  obtain ⟨z, _, h2⟩ := h.split
  exact h2.tail.emp.symm
variable {es bs : List Nat} {ow : Nat → List Nat} {i : Nat} {c : Cm}
theorem back_ok (B : Bf es bs S E ow i c) : ∀ {j f x : Nat} {o : Option Nat}, c[j]? = some (x, o) → j < f → ∃ b ∈ bs, Wk S E b (backR S c f o).reverse x ∧ ∀ n ∈ backR S c f o, n ∈ ow (S n) := by
  intro j
  induction j using Nat.strongRecOn with
  | _ j ih =>
    intro f x o hj hf
    obtain ⟨f, rfl⟩ : ∃ g, f = g + 1 := ⟨f - 1, by omega⟩
    cases o with
    | none => exact ⟨x, B.non x (List.mem_of_getElem? hj), .nil, fun n hn => absurd hn List.not_mem_nil⟩
    | some n =>
      obtain ⟨h1, h2, k, o, hk, ho⟩ := B.par j x n hj
      obtain ⟨b, hb, w, all⟩ := ih k hk (f := f) ho (by omega)
      have lk := look_at B.nd ho
      refine ⟨b, hb, ?_, fun m hm => ?_⟩
      · rw [backR, lk, List.reverse_cons]
        refine w.app ?_
        rw [← h1]
        exact .one
      · rw [backR, lk] at hm
        rcases List.mem_cons.mp hm with e | hm
        · rw [e]
          exact h2
        · exact all m hm
theorem keys_at {x : Nat} (h : x ∈ keys c) : ∃ (j : Nat) (o : Option Nat), c[j]? = some (x, o) := by
  obtain ⟨p, hp, rfl⟩ := List.mem_map.mp h
  obtain ⟨j, hj⟩ := List.mem_iff_getElem?.mp hp
  exact ⟨j, p.2, hj⟩
theorem rowBack_ok (B : Bf es bs S E ow i c) {x : Nat} (h : x ∈ keys c) : ∃ b ∈ bs, Wk S E b (rowBack S c x) x ∧ ∀ n ∈ rowBack S c x, n ∈ ow (S n) := by
  obtain ⟨j, o, hj⟩ := keys_at h
  have jl := (List.getElem?_eq_some_iff.mp hj).1
  obtain ⟨b, hb, w, all⟩ := back_ok B hj jl
  unfold rowBack
  rw [look_at B.nd hj]
  exact ⟨b, hb, w, fun n hn => all n (List.mem_reverse.mp hn)⟩
/-- all that is come to -/
theorem bf_cl (B : Bf es bs S E ow c.length c) : ∀ x ∈ keys c, ∀ n ∈ ow x, E n ∈ keys c := fun x hx n hn => by
  obtain ⟨j, o, hj⟩ := keys_at hx
  exact B.cl j _ (List.getElem?_eq_some_iff.mp hj).1 hj n hn
theorem bf_reach (B : Bf es bs S E ow c.length c) {adj : Nat → List Nat} (ha : ∀ x ∈ es, ∀ y, y ∈ adj x ↔ ∃ n ∈ ow x, E n = y) {x : Nat} : x ∈ keys c ↔ ∃ b ∈ bs, R adj b x := by
  constructor
  · intro h
    obtain ⟨b, hb, w, all⟩ := rowBack_ok B h
    refine ⟨b, hb, ?_⟩
    have hbe : b ∈ es := B.sub b (B.beg b hb)
    have key : ∀ {r : List Nat} {a y : Nat}, a ∈ keys c → Wk S E a r y → (∀ n ∈ r, n ∈ ow (S n)) → R adj a y := fun {r} => by
      induction r with
      | nil =>
        intro a y _ w _
        cases w
        exact .refl
      | cons n r ih =>
        intro a y hk w all
        cases w with
        | cons w =>
          have h1 := all n List.mem_cons_self
          have h2 : E n ∈ keys c := bf_cl B _ hk n h1
          exact (R.one ((ha _ (B.sub _ hk) _).mpr ⟨n, h1, rfl⟩)).trans (ih h2 w fun m hm => all m (List.mem_cons_of_mem _ hm))
    exact key (B.beg b hb) w all
  · rintro ⟨b, hb, r⟩
    induction r with
    | refl => exact B.beg b hb
    | step _ e ih =>
      obtain ⟨n, hn, rfl⟩ := (ha _ (B.sub _ ih) _).mp e
      exact bf_cl B _ ih n hn
end
end Gr

namespace Gr
/-! ### rows from entry to entry within a piece -/
def owOf (S : Nat → Nat) (ns : List Nat) : Nat → List Nat := adjOf (ns.map fun n => (S n, n))
theorem ow_mem {S : Nat → Nat} {ns : List Nat} {x n : Nat} : n ∈ owOf S ns x ↔ n ∈ ns ∧ S n = x := by
  unfold owOf
  rw [adj_mem, List.mem_map]
  constructor
  · rintro ⟨m, hm, e⟩
    cases e
    exact ⟨hm, rfl⟩
  · rintro ⟨h, rfl⟩
    exact ⟨n, h, rfl⟩
def adjIn (S E : Nat → Nat) (ns : List Nat) (x : Nat) : List Nat := (owOf S ns x).map E
theorem adjIn_mem {S E : Nat → Nat} {ns : List Nat} {x y : Nat} : y ∈ adjIn S E ns x ↔ ∃ n ∈ ns, S n = x ∧ E n = y := by
  unfold adjIn
  rw [List.mem_map]
  constructor
  · rintro ⟨n, h, e⟩
    obtain ⟨h1, h2⟩ := ow_mem.mp h
    exact ⟨n, h1, h2, e⟩
  · rintro ⟨n, h1, h2, e⟩
    exact ⟨n, ow_mem.mpr ⟨h1, h2⟩, e⟩
def cameTo (E : Nat → Nat) (ow : Nat → List Nat) (m : Nat) (bs : List Nat) : Cm := bfs E ow (m + 1) 0 (bs.map fun b => (b, none))
def rowTo (S E : Nat → Nat) (ow : Nat → List Nat) (m : Nat) (a b : Nat) : List Nat := rowBack S (cameTo E ow m [a]) b
section
variable {S E : Nat → Nat} {es bs ns : List Nat}
theorem came_ok (hns : ∀ n ∈ ns, S n ∈ es ∧ E n ∈ es) (nd : bs.Nodup) (sub : ∀ b ∈ bs, b ∈ es) : Bf es bs S E (owOf S ns) (cameTo E (owOf S ns) es.length bs).length (cameTo E (owOf S ns) es.length bs) :=
  bfs_ok (S := S) (ow := owOf S ns) (fun x _ n hn => ⟨(ow_mem.mp hn).2, (hns n (ow_mem.mp hn).1).2⟩) (Nat.lt_succ_self _) (Nat.zero_le _) (bf_init nd sub)
theorem came_reach (hns : ∀ n ∈ ns, S n ∈ es ∧ E n ∈ es) (nd : bs.Nodup) (sub : ∀ b ∈ bs, b ∈ es) {x : Nat} : x ∈ keys (cameTo E (owOf S ns) es.length bs) ↔ ∃ b ∈ bs, R (adjIn S E ns) b x :=
  bf_reach (came_ok hns nd sub) fun x _ y => by
    unfold adjIn
    rw [List.mem_map]
theorem rowTo_ok (hns : ∀ n ∈ ns, S n ∈ es ∧ E n ∈ es) {a b : Nat} (ha : a ∈ es) (r : R (adjIn S E ns) a b) : Wk S E a (rowTo S E (owOf S ns) es.length a b) b ∧ ∀ n ∈ rowTo S E (owOf S ns) es.length a b, n ∈ ns := by
  have nd : [a].Nodup := List.nodup_cons.mpr ⟨List.not_mem_nil, List.nodup_nil⟩
  have sub : ∀ x ∈ [a], x ∈ es := fun x hx => by
    rw [List.mem_singleton.mp hx]
    exact ha
  have hb := (came_reach hns nd sub).mpr ⟨a, List.mem_singleton.mpr rfl, r⟩
  obtain ⟨c, hc, w, all⟩ := rowBack_ok (came_ok hns nd sub) hb
  rw [List.mem_singleton.mp hc] at w
  exact ⟨w, fun n hn => (ow_mem.mp (all n hn)).1⟩
end
/-! ### laps -/
def minLen : List (List Nat) → List Nat
  | [] => []
  | l :: ls => ls.foldl (fun b x => if x.length < b.length then x else b) l
theorem min_fold : ∀ {ls : List (List Nat)} {b : List Nat}, ls.foldl (fun b x => if x.length < b.length then x else b) b ∈ b :: ls
  | [], b => List.mem_singleton.mpr rfl
  | l :: ls, b => by
    rw [List.foldl_cons]
    have := min_fold (ls := ls) (b := if l.length < b.length then l else b)
    rcases List.mem_cons.mp this with e | h
    · rw [e]
      split
      · exact List.mem_cons_of_mem _ List.mem_cons_self
      · exact List.mem_cons_self
    · exact List.mem_cons_of_mem _ (List.mem_cons_of_mem _ h)
theorem min_mem : ∀ {ls : List (List Nat)}, ls ≠ [] → minLen ls ∈ ls
  | [], h => absurd rfl h
  | l :: ls, _ => min_fold
def hasLot (L : Nat → List Nat) (lot n : Nat) : Bool := decide (lot ∈ L n)
def lapStep (S E : Nat → Nat) (L : Nat → List Nat) (inner : List Nat) (rt : Nat → Nat → List Nat) (lap : List Nat) (lot : Nat) : List Nat :=
  if lap.any (hasLot L lot) = true then lap else
  lap ++ ((if lap = [] then [] else rt (E (lap.getLastD 0)) (S ((inner.filter (hasLot L lot)).headD 0))) ++ [(inner.filter (hasLot L lot)).headD 0])
def lapLots (S E : Nat → Nat) (L : Nat → List Nat) (inner : List Nat) (rt : Nat → Nat → List Nat) (many : Nat) : List Nat := (List.range many).foldl (lapStep S E L inner rt) []
def lapAll (S E : Nat → Nat) (L : Nat → List Nat) (inner : List Nat) (rt : Nat → Nat → List Nat) (many : Nat) : List Nat :=
  lapLots S E L inner rt many ++ rt (E ((lapLots S E L inner rt many).getLastD 0)) (S ((lapLots S E L inner rt many).headD 0))
/-- a row of ties within, one behind the other -/
structure Row (S E : Nat → Nat) (inner : List Nat) (lap : List Nat) : Prop where
  sub : ∀ n ∈ lap, n ∈ inner
  wk : lap ≠ [] → Wk S E (S (lap.headD 0)) lap (E (lap.getLastD 0))
section
variable {S E : Nat → Nat} {L : Nat → List Nat} {part inner : List Nat} {rt : Nat → Nat → List Nat}
theorem last_snoc {l : List Nat} {n : Nat} : (l ++ [n]).getLastD 0 = n := by
  rw [List.getLastD_eq_getLast?, List.getLast?_append]
  rfl
theorem head_app {l m : List Nat} (h : l ≠ []) : (l ++ m).headD 0 = l.headD 0 := by
  cases l with
  | nil => exact absurd rfl h
  | cons x l => rfl
theorem last_mem : ∀ {l : List Nat}, l ≠ [] → l.getLastD 0 ∈ l := fun {l} h => by
  have e : l.dropLast ++ [l.getLast h] = l := List.dropLast_concat_getLast h
  rw [← e, last_snoc]
  simp
theorem head_mem : ∀ {l : List Nat}, l ≠ [] → l.headD 0 ∈ l
  | [], h => absurd rfl h
  | x :: l, _ => List.mem_cons_self
theorem lapStep_ok (hin : ∀ n ∈ inner, S n ∈ part ∧ E n ∈ part) (hrt : ∀ a ∈ part, ∀ b ∈ part, Wk S E a (rt a b) b ∧ ∀ n ∈ rt a b, n ∈ inner) {lap : List Nat} {lot : Nat} (hl : ∃ n ∈ inner, lot ∈ L n) (R0 : Row S E inner lap) :
    Row S E inner (lapStep S E L inner rt lap lot) ∧ lapStep S E L inner rt lap lot ≠ [] ∧ (∃ n ∈ lapStep S E L inner rt lap lot, lot ∈ L n) ∧ ∀ n ∈ lap, n ∈ lapStep S E L inner rt lap lot := by
  unfold lapStep
  by_cases c : lap.any (hasLot L lot) = true
  · rw [if_pos c]
    obtain ⟨n, hn, h⟩ := List.any_eq_true.mp c
    exact ⟨R0, fun e => by rw [e] at hn; exact absurd hn List.not_mem_nil, ⟨n, hn, of_decide_eq_true h⟩, fun m hm => hm⟩
  · rw [if_neg c]
    have fne : inner.filter (hasLot L lot) ≠ [] := fun e => by
      obtain ⟨n, hn, h⟩ := hl
      have : n ∈ inner.filter (hasLot L lot) := List.mem_filter.mpr ⟨hn, decide_eq_true h⟩
      rw [e] at this
      exact absurd this List.not_mem_nil
    have tm := List.mem_filter.mp (head_mem fne)
    generalize (inner.filter (hasLot L lot)).headD 0 = t at *
    have tl : lot ∈ L t := of_decide_eq_true tm.2
    by_cases e : lap = []
    · subst e
      rw [if_pos rfl]
      refine ⟨⟨fun n hn => ?_, fun _ => ?_⟩, by simp, ⟨t, by simp, tl⟩, fun n hn => absurd hn List.not_mem_nil⟩
      · have : n = t := by simpa using hn
        rw [this]
        exact tm.1
      · exact Wk.one
    · rw [if_neg e]
      obtain ⟨w, ws⟩ := hrt (E (lap.getLastD 0)) (hin _ (R0.sub _ (last_mem e))).2 (S t) (hin t tm.1).1
      refine ⟨⟨fun n hn => ?_, fun _ => ?_⟩, fun z => e (List.append_eq_nil_iff.mp z).1, ⟨t, by simp, tl⟩, fun n hn => List.mem_append_left _ hn⟩
      · rcases List.mem_append.mp hn with hn | hn
        · exact R0.sub n hn
        · rcases List.mem_append.mp hn with hn | hn
          · exact ws n hn
          · rw [List.mem_singleton.mp hn]
            exact tm.1
      · rw [head_app e, ← List.append_assoc, last_snoc]
        exact ((R0.wk e).app w).app .one
theorem lapLots_ok (hin : ∀ n ∈ inner, S n ∈ part ∧ E n ∈ part) (hrt : ∀ a ∈ part, ∀ b ∈ part, Wk S E a (rt a b) b ∧ ∀ n ∈ rt a b, n ∈ inner) : ∀ {many : Nat}, (∀ lot < many, ∃ n ∈ inner, lot ∈ L n) →
    Row S E inner (lapLots S E L inner rt many) ∧ (many ≠ 0 → lapLots S E L inner rt many ≠ []) ∧ ∀ lot < many, ∃ n ∈ lapLots S E L inner rt many, lot ∈ L n
  | 0, _ => ⟨⟨fun n hn => absurd hn List.not_mem_nil, fun h => absurd rfl h⟩, fun h => absurd rfl h, fun lot h => absurd h (Nat.not_lt_zero _)⟩
  | k + 1, hl => by
    obtain ⟨R0, _, all⟩ := lapLots_ok (many := k) hin hrt fun lot h => hl lot (Nat.lt_succ_of_lt h)
    have e : lapLots S E L inner rt (k + 1) = lapStep S E L inner rt (lapLots S E L inner rt k) k := by
      unfold lapLots
      rw [List.range_succ, List.foldl_append]
      rfl
    rw [e]
    obtain ⟨R1, ne, has, keep⟩ := lapStep_ok hin hrt (hl k (Nat.lt_succ_self k)) R0
    refine ⟨R1, fun _ => ne, fun lot h => ?_⟩
    by_cases c : lot = k
    · rw [c]
      exact has
    · obtain ⟨n, hn, hh⟩ := all lot (by omega)
      exact ⟨n, keep n hn, hh⟩
/-- a lap: it comes round, all of it is within, and it has each lot -/
def Lap (S E : Nat → Nat) (L : Nat → List Nat) (inner : List Nat) (many : Nat) (lap : List Nat) : Prop :=
  lap ≠ [] ∧ Wk S E (S (lap.headD 0)) lap (S (lap.headD 0)) ∧ (∀ n ∈ lap, n ∈ inner) ∧ ∀ lot < many, ∃ n ∈ lap, lot ∈ L n
theorem lapAll_ok (hin : ∀ n ∈ inner, S n ∈ part ∧ E n ∈ part) (hrt : ∀ a ∈ part, ∀ b ∈ part, Wk S E a (rt a b) b ∧ ∀ n ∈ rt a b, n ∈ inner) {many : Nat} (h0 : many ≠ 0) (hl : ∀ lot < many, ∃ n ∈ inner, lot ∈ L n) : Lap S E L inner many (lapAll S E L inner rt many) := by
  obtain ⟨R0, ne, all⟩ := lapLots_ok hin hrt hl
  have ne := ne h0
  unfold lapAll
  generalize lapLots S E L inner rt many = lap at *
  obtain ⟨w, ws⟩ := hrt (E (lap.getLastD 0)) (hin _ (R0.sub _ (last_mem ne))).2 (S (lap.headD 0)) (hin _ (R0.sub _ (head_mem ne))).1
  refine ⟨fun z => ne (List.append_eq_nil_iff.mp z).1, ?_, fun n hn => ?_, fun lot h => ?_⟩
  · rw [head_app ne]
    exact (R0.wk ne).app w
  · rcases List.mem_append.mp hn with hn | hn
    · exact R0.sub n hn
    · exact ws n hn
  · obtain ⟨n, hn, hh⟩ := all lot h
    exact ⟨n, List.mem_append_left _ hn, hh⟩
def shortLap (E : Nat → Nat) (ow : Nat → List Nat) (rt : Nat → Nat → List Nat) (s : Nat) : List Nat := minLen ((ow s).map fun n => n :: rt (E n) s)
theorem shortLap_ok (hin : ∀ n ∈ inner, S n ∈ part ∧ E n ∈ part) (hrt : ∀ a ∈ part, ∀ b ∈ part, Wk S E a (rt a b) b ∧ ∀ n ∈ rt a b, n ∈ inner) {s : Nat} (hs : s ∈ part) (hn : ∃ n ∈ inner, S n = s) : Lap S E L inner 0 (shortLap E (owOf S inner) rt s) := by
  have ne : (owOf S inner s).map (fun n => n :: rt (E n) s) ≠ [] := fun e => by
    obtain ⟨n, hn, h⟩ := hn
    have : (n :: rt (E n) s) ∈ (owOf S inner s).map fun n => n :: rt (E n) s := List.mem_map.mpr ⟨n, ow_mem.mpr ⟨hn, h⟩, rfl⟩
    rw [e] at this
    exact absurd this List.not_mem_nil
  obtain ⟨n, hn, e⟩ := List.mem_map.mp (min_mem ne)
  obtain ⟨h1, h2⟩ := ow_mem.mp hn
  unfold shortLap
  rw [← e]
  obtain ⟨w, ws⟩ := hrt (E n) (hin n h1).2 s hs
  refine ⟨by simp, ?_, fun m hm => ?_, fun lot h => absurd h (Nat.not_lt_zero _)⟩
  · show Wk S E (S n) (n :: rt (E n) s) (S n)
    refine .cons ?_
    rw [h2]
    exact w
  · rcases List.mem_cons.mp hm with e | hm
    · rw [e]
      exact h1
    · exact ws m hm
/-! ### a lap begun where it is come to first -/
def firstIn (c : Cm) (l : List Nat) : Nat := ((keys c).filter fun x => decide (x ∈ l)).headD 0
theorem firstIn_mem {c : Cm} {l : List Nat} (h : ∃ x ∈ l, x ∈ keys c) : firstIn c l ∈ l ∧ firstIn c l ∈ keys c := by
  have ne : (keys c).filter (fun x => decide (x ∈ l)) ≠ [] := fun e => by
    obtain ⟨x, h1, h2⟩ := h
    have : x ∈ (keys c).filter fun x => decide (x ∈ l) := List.mem_filter.mpr ⟨h2, decide_eq_true h1⟩
    rw [e] at this
    exact absurd this List.not_mem_nil
  have := List.mem_filter.mp (head_mem ne)
  exact ⟨of_decide_eq_true this.2, this.1⟩
def turned (S : Nat → Nat) (lap : List Nat) (s : Nat) : List Nat := lap.drop ((lap.map S).idxOf s) ++ lap.take ((lap.map S).idxOf s)
theorem turned_ok {many : Nat} {lap : List Nat} (hl : Lap S E L inner many lap) {s : Nat} (hs : s ∈ lap.map S) : turned S lap s ≠ [] ∧ Wk S E s (turned S lap s) s ∧ (∀ n ∈ turned S lap s, n ∈ inner) ∧ ∀ lot < many, ∃ n ∈ turned S lap s, lot ∈ L n := by
  obtain ⟨ne, w, sub, all⟩ := hl
  have il : (lap.map S).idxOf s < (lap.map S).length := List.idxOf_lt_length_iff.mpr hs
  have gs := List.getElem_idxOf il
  rw [List.length_map] at il
  rw [List.getElem_map] at gs
  unfold turned
  generalize (lap.map S).idxOf s = k at *
  have mem : ∀ n, n ∈ lap.drop k ++ lap.take k ↔ n ∈ lap := fun n => by
    rw [List.mem_append, or_comm, ← List.mem_append, List.take_append_drop]
  have ed : lap.drop k = lap[k] :: lap.drop (k + 1) := List.drop_eq_getElem_cons il
  have w' : Wk S E (S (lap.headD 0)) (lap.take k ++ lap.drop k) (S (lap.headD 0)) := by
    rw [List.take_append_drop]
    exact w
  obtain ⟨y, h1, h2⟩ := w'.split
  have ey : y = s := by
    rw [ed] at h2
    rw [h2.head, gs]
  rw [ey] at h1 h2
  refine ⟨fun z => (by rw [ed] at z; cases z), h2.app h1, fun n hn => sub n ((mem n).mp hn), fun lot h => ?_⟩
  obtain ⟨n, hn, hh⟩ := all lot h
  exact ⟨n, (mem n).mpr hn, hh⟩
end
end Gr

namespace Gr
/-! ### pieces of what is come to -/
def prsOf (S E : Nat → Nat) (len : Nat) : List (Nat × Nat) := (List.range len).map fun n => (S n, E n)
theorem prs_mem {S E : Nat → Nat} {len x y : Nat} : (x, y) ∈ prsOf S E len ↔ ∃ n, n < len ∧ S n = x ∧ E n = y := by
  unfold prsOf
  rw [List.mem_map]
  constructor
  · rintro ⟨n, hn, e⟩
    cases e
    exact ⟨n, List.mem_range.mp hn, rfl, rfl⟩
  · rintro ⟨n, hn, rfl, rfl⟩
    exact ⟨n, List.mem_range.mpr hn, rfl⟩
def innerOf (S E : Nat → Nat) (len : Nat) (part : List Nat) : List Nat := (List.range len).filter fun n => decide (S n ∈ part) && decide (E n ∈ part)
theorem inner_mem {S E : Nat → Nat} {len n : Nat} {part : List Nat} : n ∈ innerOf S E len part ↔ n < len ∧ S n ∈ part ∧ E n ∈ part := by
  unfold innerOf
  rw [List.mem_filter, List.mem_range]
  simp
theorem R.first {adj : Nat → List Nat} {a x : Nat} (h : R adj a x) : a = x ∨ ∃ y ∈ adj a, R adj y x := by
  induction h with
  | refl => exact .inl rfl
  | step _ e ih =>
    rcases ih with rfl | ⟨y, hy, r⟩
    · exact .inr ⟨_, e, .refl⟩
    · exact .inr ⟨y, hy, .step r e⟩
theorem R.more {adj bdj : Nat → List Nat} (h : ∀ x y, y ∈ adj x → y ∈ bdj x) {a b : Nat} (r : R adj a b) : R bdj a b := by
  induction r with
  | refl => exact .refl
  | step _ e ih => exact .step ih (h _ _ e)
/-- leads by one tie or more -/
def P1 (adj : Nat → List Nat) (a b : Nat) : Prop := ∃ y ∈ adj a, R adj y b
theorem P1.of {adj : Nat → List Nat} {a x y b : Nat} (r : R adj a x) (e : y ∈ adj x) (q : R adj y b) : P1 adj a b := by
  rcases r.first with rfl | ⟨z, hz, r'⟩
  · exact ⟨y, e, q⟩
  · exact ⟨z, hz, (R.step r' e).trans q⟩
theorem P1.r {adj : Nat → List Nat} {a b : Nat} (h : P1 adj a b) : R adj a b := by
  obtain ⟨y, hy, r⟩ := h
  exact (R.one hy).trans r
theorem pk_p1 {ps : List (Nat × Nat)} {n i j : Nat} (hE : ∀ i j, (i, j) ∈ ps → i < n ∧ j < n) : Pk (fun i j => (i, j) ∈ ps) n i j ↔ P1 (adjOf ps) i j := by
  have e : (fun i j => (i, j) ∈ ps) = fun i j => j ∈ adjOf ps i := by
    funext i j
    exact propext adj_mem.symm
  rw [e]
  have hE' : ∀ i j, j ∈ adjOf ps i → i < n ∧ j < n := fun i j h => hE i j (adj_mem.mp h)
  constructor
  · intro h
    induction h with
    | edge e => exact ⟨_, e, .refl⟩
    | via _ _ _ a b =>
      obtain ⟨y, hy, r⟩ := a
      exact ⟨y, hy, r.trans b.r⟩
  · rintro ⟨y, hy, r⟩
    rcases R_pk hE' r with rfl | p
    · exact .edge hy
    · exact .via (hE' _ _ hy).2 (.edge hy) p
section
variable {S E : Nat → Nat} {len : Nat} {es p : List Nat}
theorem adjG_mem {x y : Nat} : y ∈ adjOf (prsOf S E len) x ↔ ∃ n, n < len ∧ S n = x ∧ E n = y := by
  rw [adj_mem, prs_mem]
theorem adjG_in {x y : Nat} : y ∈ adjOf (prsOf S E len) x ↔ y ∈ adjIn S E (List.range len) x := by
  rw [adjG_mem, adjIn_mem]
  constructor
  · rintro ⟨n, h, e⟩
    exact ⟨n, List.mem_range.mpr h, e⟩
  · rintro ⟨n, h, e⟩
    exact ⟨n, List.mem_range.mp h, e⟩
theorem adjA_mem {x y : Nat} : y ∈ adjOf (among es (prsOf S E len)) x ↔ (∃ n, n < len ∧ S n = x ∧ E n = y) ∧ x ∈ es ∧ y ∈ es := by
  rw [adj_mem, among_mem, prs_mem]
/-- in what is closed, going along is the same -/
theorem R_among (cl : ∀ n, n < len → S n ∈ es → E n ∈ es) {a b : Nat} (ha : a ∈ es) : R (adjOf (among es (prsOf S E len))) a b ↔ R (adjOf (prsOf S E len)) a b := by
  constructor
  · exact R.more fun x y h => by
      rw [adjG_mem]
      exact (adjA_mem.mp h).1
  · intro r
    have key : b ∈ es ∧ R (adjOf (among es (prsOf S E len))) a b := by
      induction r with
      | refl => exact ⟨ha, .refl⟩
      | step _ e ih =>
        obtain ⟨n, hn, h1, h2⟩ := adjG_mem.mp e
        have hz : _ ∈ es := cl n hn (h1 ▸ ih.1)
        rw [h2] at hz
        exact ⟨hz, .step ih.2 (adjA_mem.mpr ⟨⟨n, hn, h1, h2⟩, ih.1, hz⟩)⟩
    exact key.2
/-- each entry of a piece leads to each other one within the piece -/
theorem strong (hp : p ∈ pieces es (prsOf S E len)) {a b : Nat} (ha : a ∈ p) (hb : b ∈ p) : R (adjIn S E (innerOf S E len p)) a b := by
  obtain ⟨_, cls, _, _⟩ := pieces_ok es (prsOf S E len)
  obtain ⟨ae, ap⟩ := cls p hp a ha
  obtain ⟨be, _⟩ := cls p hp b hb
  have m := (ap b be).mp hb
  have key : ∀ {z : Nat}, R (adjOf (among es (prsOf S E len))) a z → R (adjOf (among es (prsOf S E len))) z a → R (adjIn S E (innerOf S E len p)) a z := fun {z} r => by
    induction r with
    | refl => exact fun _ => .refl
    | @step y z r e ih =>
      intro back
      obtain ⟨⟨n, hn, h1, h2⟩, ye, ze⟩ := adjA_mem.mp e
      have ry := (R.one e).trans back
      have hy : y ∈ p := (ap y ye).mpr ⟨r, ry⟩
      have hz : z ∈ p := (ap z ze).mpr ⟨.step r e, back⟩
      exact .step (ih ry) (adjIn_mem.mpr ⟨n, inner_mem.mpr ⟨hn, h1 ▸ hy, h2 ▸ hz⟩, h1, h2⟩)
  exact key m.1 m.2
theorem strong_out (hp : p ∈ pieces es (prsOf S E len)) (ne : innerOf S E len p ≠ []) {s : Nat} (hs : s ∈ p) : ∃ n ∈ innerOf S E len p, S n = s := by
  have hm := inner_mem.mp (head_mem ne)
  have hm' := head_mem ne
  generalize (innerOf S E len p).headD 0 = m at *
  rcases (strong hp hs hm.2.1).first with e | ⟨y, hy, _⟩
  · exact ⟨m, hm', e.symm⟩
  · obtain ⟨n, hn, h, _⟩ := adjIn_mem.mp hy
    exact ⟨n, hn, h⟩
end
/-! ### sought -/
def lackOf (L : Nat → List Nat) (inner : List Nat) (many : Nat) : Option Nat := (List.range many).find? fun lot => !(inner.any (hasLot L lot))
theorem lack_none {L : Nat → List Nat} {inner : List Nat} {many : Nat} : lackOf L inner many = none ↔ ∀ lot < many, ∃ n ∈ inner, lot ∈ L n := by
  unfold lackOf
  rw [List.find?_eq_none]
  constructor
  · intro h lot hl
    have := h lot (List.mem_range.mpr hl)
    rw [Bool.not_eq_true, Bool.not_eq_false'] at this
    obtain ⟨n, hn, e⟩ := List.any_eq_true.mp this
    exact ⟨n, hn, of_decide_eq_true e⟩
  · intro h lot hl z
    obtain ⟨n, hn, e⟩ := h lot (List.mem_range.mp hl)
    rw [List.any_eq_true.mpr ⟨n, hn, decide_eq_true e⟩] at z
    cases z
theorem lack_some {L : Nat → List Nat} {inner : List Nat} {many lot : Nat} (h : lackOf L inner many = some lot) : lot < many ∧ ∀ n ∈ inner, lot ∉ L n := by
  unfold lackOf at h
  have h1 := List.mem_of_find?_eq_some h
  have h2 := List.find?_some h
  refine ⟨List.mem_range.mp h1, fun n hn z => ?_⟩
  rw [List.any_eq_true.mpr ⟨n, hn, decide_eq_true z⟩] at h2
  cases h2
inductive Fd
  | lap (stem lap : List Nat)
  | why (ps : List (List Nat × Option Nat))
def lapOf (S E : Nat → Nat) (L : Nat → List Nat) (many : Nat) (c : Cm) (part inner : List Nat) : List Nat :=
  if many = 0 then shortLap E (owOf S inner) (rowTo S E (owOf S inner) part.length) (firstIn c part) else lapAll S E L inner (rowTo S E (owOf S inner) part.length) many
def toldLap (S E : Nat → Nat) (L : Nat → List Nat) (many : Nat) (c : Cm) (part inner : List Nat) : Fd :=
  .lap (rowBack S c (firstIn c ((lapOf S E L many c part inner).map S))) (turned S (lapOf S E L many c part inner) (firstIn c ((lapOf S E L many c part inner).map S)))
def whyOf (S E : Nat → Nat) (L : Nat → List Nat) (many len : Nat) (part : List Nat) : List Nat × Option Nat := (part, if innerOf S E len part = [] then none else lackOf L (innerOf S E len part) many)
def soughtGo (S E : Nat → Nat) (L : Nat → List Nat) (many len : Nat) (c : Cm) : List (List Nat) → List (List Nat × Option Nat) → Fd
  | [], told => .why told
  | p :: ps, told => if innerOf S E len p ≠ [] ∧ lackOf L (innerOf S E len p) many = none then toldLap S E L many c p (innerOf S E len p) else soughtGo S E L many len c ps (told ++ [whyOf S E L many len p])
/-- what the law asks of a lap -/
def Good (S E : Nat → Nat) (L : Nat → List Nat) (many len : Nat) (bs stem lap : List Nat) : Prop :=
  lap ≠ [] ∧ (∀ n ∈ stem ++ lap, n < len) ∧ (∃ b ∈ bs, ∃ s, Wk S E b stem s ∧ Wk S E s lap s) ∧ ∀ lot < many, ∃ n ∈ lap, lot ∈ L n
section
variable {S E : Nat → Nat} {L : Nat → List Nat} {many len : Nat} {es bs p : List Nat} {c : Cm}
theorem lapOf_ok (hc : ∀ x ∈ p, x ∈ keys c) (hp : p ∈ pieces es (prsOf S E len)) (ne : innerOf S E len p ≠ []) (hl : lackOf L (innerOf S E len p) many = none) : Lap S E L (innerOf S E len p) many (lapOf S E L many c p (innerOf S E len p)) := by
  have hin : ∀ n ∈ innerOf S E len p, S n ∈ p ∧ E n ∈ p := fun n hn => (inner_mem.mp hn).2
  have hrt : ∀ a ∈ p, ∀ b ∈ p, Wk S E a (rowTo S E (owOf S (innerOf S E len p)) p.length a b) b ∧ ∀ n ∈ rowTo S E (owOf S (innerOf S E len p)) p.length a b, n ∈ innerOf S E len p :=
    fun a ha b hb => rowTo_ok hin ha (strong hp ha hb)
  unfold lapOf
  by_cases z : many = 0
  · subst z
    rw [if_pos rfl]
    have hpn := ((pieces_ok es (prsOf S E len)).2.2.2 p hp).2.1
    have fm := (firstIn_mem (c := c) (l := p) ⟨p.headD 0, head_mem hpn, hc _ (head_mem hpn)⟩).1
    exact shortLap_ok hin hrt fm (strong_out hp ne fm)
  · rw [if_neg z]
    exact lapAll_ok hin hrt z (lack_none.mp hl)
theorem toldLap_ok {ow : Nat → List Nat} {i : Nat} (how : ∀ x, ∀ n ∈ ow x, n < len) (B : Bf es bs S E ow i c) (hc : ∀ x ∈ p, x ∈ keys c) {es' : List Nat} (hp : p ∈ pieces es' (prsOf S E len)) (ne : innerOf S E len p ≠ []) (hl : lackOf L (innerOf S E len p) many = none) :
    ∃ stem lap, toldLap S E L many c p (innerOf S E len p) = .lap stem lap ∧ Good S E L many len bs stem lap := by
  have lp := lapOf_ok (L := L) hc hp ne hl
  generalize e : lapOf S E L many c p (innerOf S E len p) = lap at *
  have hd := head_mem lp.1
  have fm := firstIn_mem (c := c) (l := lap.map S) ⟨S (lap.headD 0), List.mem_map.mpr ⟨_, hd, rfl⟩, hc _ (inner_mem.mp (lp.2.2.1 _ hd)).2.1⟩
  refine ⟨_, _, rfl, ?_⟩
  rw [e]
  obtain ⟨t1, t2, t3, t4⟩ := turned_ok lp fm.1
  obtain ⟨b, hb, w, all⟩ := rowBack_ok B fm.2
  refine ⟨t1, fun n hn => ?_, ⟨b, hb, _, w, t2⟩, t4⟩
  rcases List.mem_append.mp hn with hn | hn
  · exact how _ n (all n hn)
  · exact (inner_mem.mp (t3 n hn)).1
theorem go_ok : ∀ {ps : List (List Nat)} {told : List (List Nat × Option Nat)},
    (soughtGo S E L many len c ps told = .why (told ++ ps.map (whyOf S E L many len)) ∧ ∀ p ∈ ps, innerOf S E len p = [] ∨ lackOf L (innerOf S E len p) many ≠ none) ∨
    ∃ p ∈ ps, innerOf S E len p ≠ [] ∧ lackOf L (innerOf S E len p) many = none ∧ soughtGo S E L many len c ps told = toldLap S E L many c p (innerOf S E len p)
  | [], told => .inl ⟨by rw [List.map_nil, List.append_nil]; rfl, fun p hp => absurd hp List.not_mem_nil⟩
  | p :: ps, told => by
    unfold soughtGo
    by_cases z : innerOf S E len p ≠ [] ∧ lackOf L (innerOf S E len p) many = none
    · rw [if_pos z]
      exact .inr ⟨p, List.mem_cons_self, z.1, z.2, rfl⟩
    · rw [if_neg z]
      rcases go_ok (ps := ps) (told := told ++ [whyOf S E L many len p]) with ⟨h1, h2⟩ | ⟨q, hq, h1, h2, h3⟩
      · refine .inl ⟨?_, fun q hq => ?_⟩
        · rw [h1, List.append_assoc]
          rfl
        · rcases List.mem_cons.mp hq with e | hq
          · rw [e]
            by_cases y : innerOf S E len p = []
            · exact .inl y
            · exact .inr fun w => z ⟨y, w⟩
          · exact h2 q hq
      · exact .inr ⟨q, List.mem_cons_of_mem _ hq, h1, h2, h3⟩
/-- what the law calls a lap that is there -/
def Due (S E : Nat → Nat) (L : Nat → List Nat) (many len : Nat) (come : Nat → Prop) (M : Nat → Nat → Prop) : Prop :=
  ∃ n, n < len ∧ come (S n) ∧ (M (E n) (S n) ∨ S n = E n) ∧ ∀ lot < many, ∃ m, m < len ∧ M (E m) (S n) ∧ M (E n) (S m) ∧ lot ∈ L m
theorem due_iff (cl : ∀ n, n < len → S n ∈ es → E n ∈ es) : Due S E L many len (· ∈ es) (P1 (adjOf (prsOf S E len))) ↔ ∃ p ∈ pieces es (prsOf S E len), innerOf S E len p ≠ [] ∧ lackOf L (innerOf S E len p) many = none := by
  obtain ⟨cov, cls, _, _⟩ := pieces_ok es (prsOf S E len)
  have mu2 : ∀ {p : List Nat}, p ∈ pieces es (prsOf S E len) → ∀ {a b : Nat}, a ∈ p → b ∈ es → (b ∈ p ↔ R (adjOf (prsOf S E len)) a b ∧ R (adjOf (prsOf S E len)) b a) := fun {p} hp {a b} ha hb => by
    obtain ⟨ae, ap⟩ := cls _ hp a ha
    rw [ap b hb]
    unfold Mut
    rw [R_among cl ae, R_among cl hb]
  have edge : ∀ {n : Nat}, n < len → E n ∈ adjOf (prsOf S E len) (S n) := fun h => adjG_mem.mpr ⟨_, h, rfl, rfl⟩
  constructor
  · rintro ⟨n, hn, hc, hm, all⟩
    obtain ⟨p, hp, sp⟩ := cov _ hc
    have back : R (adjOf (prsOf S E len)) (E n) (S n) := by
      rcases hm with h | h
      · exact h.r
      · rw [h]
        exact .refl
    have ep : E n ∈ p := (mu2 hp sp (cl n hn hc)).mpr ⟨.one (edge hn), back⟩
    have nin : n ∈ innerOf S E len p := inner_mem.mpr ⟨hn, sp, ep⟩
    refine ⟨p, hp, fun e => by rw [e] at nin; exact absurd nin List.not_mem_nil, lack_none.mpr fun lot hl => ?_⟩
    obtain ⟨m, hm, h1, h2, h3⟩ := all lot hl
    have smr : R (adjOf (prsOf S E len)) (S n) (S m) := (R.one (edge hn)).trans h2.r
    have mem_es : ∀ {y : Nat}, R (adjOf (prsOf S E len)) (S n) y → y ∈ es := fun r => R.mem (fun x hx y hy => by
      obtain ⟨k, hk, e1, e2⟩ := adjG_mem.mp hy
      rw [← e2]
      exact cl k hk (by rw [e1]; exact hx)) hc r
    have sm : S m ∈ p := (mu2 hp sp (mem_es smr)).mpr ⟨smr, (R.one (edge hm)).trans h1.r⟩
    have emr := smr.trans (R.one (edge hm))
    have em : E m ∈ p := (mu2 hp sp (mem_es emr)).mpr ⟨emr, h1.r⟩
    exact ⟨m, inner_mem.mpr ⟨hm, sm, em⟩, h3⟩
  · rintro ⟨p, hp, ne, hl⟩
    have hm := inner_mem.mp (head_mem ne)
    generalize (innerOf S E len p).headD 0 = n at *
    have pes : ∀ {x : Nat}, x ∈ p → x ∈ es := fun hx => (cls p hp _ hx).1
    have p1 : ∀ {a b : Nat}, a ∈ p → b ∈ p → P1 (adjOf (prsOf S E len)) a b := fun ha hb =>
      P1.of ((mu2 hp ha (pes hm.2.1)).mp hm.2.1).1 (edge hm.1) ((mu2 hp hm.2.2 (pes hb)).mp hb).1
    refine ⟨n, hm.1, pes hm.2.1, .inl (p1 hm.2.2 hm.2.1), fun lot h => ?_⟩
    obtain ⟨m, hmm, hh⟩ := lack_none.mp hl lot h
    obtain ⟨m1, m2, m3⟩ := inner_mem.mp hmm
    exact ⟨m, m1, p1 m3 hm.2.1, p1 hm.2.2 m2, hh⟩
def sought (S E : Nat → Nat) (L : Nat → List Nat) (many len cnt : Nat) (bs : List Nat) : Fd :=
  soughtGo S E L many len (cameTo E (owOf S (List.range len)) cnt bs) (pieces (srt (keys (cameTo E (owOf S (List.range len)) cnt bs))) (prsOf S E len)) []
/-- all that the law asks of sought -/
theorem sought_ok {cnt : Nat} (hts : ∀ n, n < len → S n < cnt ∧ E n < cnt) (nd : bs.Nodup) (sub : ∀ b ∈ bs, b < cnt) (es : List Nat) (hes : es = srt (keys (cameTo E (owOf S (List.range len)) cnt bs))) :
    (∀ x, x ∈ es ↔ ∃ b ∈ bs, R (adjOf (prsOf S E len)) b x) ∧ es.Nodup ∧ (∀ x ∈ es, x < cnt) ∧ (∀ n, n < len → S n ∈ es → E n ∈ es) ∧
    ((∃ stem lap, sought S E L many len cnt bs = .lap stem lap ∧ Good S E L many len bs stem lap ∧ Due S E L many len (· ∈ es) (P1 (adjOf (prsOf S E len)))) ∨
     (sought S E L many len cnt bs = .why ((pieces es (prsOf S E len)).map (whyOf S E L many len)) ∧ (∀ p ∈ pieces es (prsOf S E len), innerOf S E len p = [] ∨ lackOf L (innerOf S E len p) many ≠ none) ∧ ¬ Due S E L many len (· ∈ es) (P1 (adjOf (prsOf S E len))))) := by
  have lr : (List.range cnt).length = cnt := List.length_range
  have hns : ∀ n ∈ List.range len, S n ∈ List.range cnt ∧ E n ∈ List.range cnt := fun n hn => ⟨List.mem_range.mpr (hts n (List.mem_range.mp hn)).1, List.mem_range.mpr (hts n (List.mem_range.mp hn)).2⟩
  have sub' : ∀ b ∈ bs, b ∈ List.range cnt := fun b hb => List.mem_range.mpr (sub b hb)
  have B := came_ok (S := S) (E := E) hns nd sub'
  have reach := fun x => came_reach (S := S) (E := E) (x := x) hns nd sub'
  rw [lr] at B reach
  unfold sought
  rw [← hes]
  generalize hc : cameTo E (owOf S (List.range len)) cnt bs = c at *
  have mes : ∀ x, x ∈ es ↔ x ∈ keys c := fun x => by rw [hes, srt_mem]
  have re : ∀ x, x ∈ es ↔ ∃ b ∈ bs, R (adjOf (prsOf S E len)) b x := fun x => by
    rw [mes, reach]
    constructor
    · rintro ⟨b, hb, r⟩
      exact ⟨b, hb, r.more fun x y h => adjG_in.mpr h⟩
    · rintro ⟨b, hb, r⟩
      exact ⟨b, hb, r.more fun x y h => adjG_in.mp h⟩
  have cl : ∀ n, n < len → S n ∈ es → E n ∈ es := fun n hn h => by
    obtain ⟨b, hb, r⟩ := (re _).mp h
    exact (re _).mpr ⟨b, hb, .step r (adjG_mem.mpr ⟨n, hn, rfl, rfl⟩)⟩
  refine ⟨re, ?_, fun x hx => List.mem_range.mp (B.sub x ((mes x).mp hx)), cl, ?_⟩
  · rw [hes]
    exact (srt_perm _).nodup_iff.mpr B.nd
  · rcases go_ok (S := S) (E := E) (L := L) (many := many) (len := len) (c := c) (ps := pieces es (prsOf S E len)) (told := []) with ⟨h1, h2⟩ | ⟨p, hp, ne, hl, h3⟩
    · refine .inr ⟨h1, h2, fun d => ?_⟩
      obtain ⟨p, hp, ne, hl⟩ := (due_iff cl).mp d
      rcases h2 p hp with z | z
      · exact ne z
      · exact z hl
    · have hcp : ∀ x ∈ p, x ∈ keys c := fun x hx => (mes x).mp ((pieces_ok es (prsOf S E len)).2.1 p hp x hx).1
      obtain ⟨stem, lap, e, g⟩ := toldLap_ok (L := L) (many := many) (fun x n hn => List.mem_range.mp (ow_mem.mp hn).1) B hcp hp ne hl
      exact .inl ⟨stem, lap, h3.trans e, g, (due_iff cl).mpr ⟨p, hp, ne, hl⟩⟩
end
end Gr

namespace Gp
open PySem PySem.Spec PyProof.Rows L2
/-! ### comprehensions, clause by clause -/
def turnBy (e : Expr) (d : Nat) (it acc : Value) (env : Env) (p : Pos) (tg : Expr) (ts : List Expr) (body : Sem PySem.Fin → Sem PySem.Fin) : Sem PySem.Fin := do
  standAt p
  match ← pyNext it with
  | none => pure (.done .next)
  | some v =>
    letOwnedTupleGo tg it v
    assign tg env v
    let mut ok := true
    for c in ts do
      if ok then ok ← isTrue c env (eval c env)
    if ok then body (again (.compLoop e d it acc env)) else again (.compLoop e d it acc env)
/-- what σ0 knows σ knows -/
def Kn (σ0 σ : L2.St) : Prop := σ0.length = σ.length ∧ ∀ (j : Nat) v, σ0[j]? = some (some v) → σ[j]? = some (some v)
theorem Kn.refl {σ : L2.St} : Kn σ σ := ⟨rfl, fun _ _ h => h⟩
theorem Kn.trans {a b c : L2.St} (h : Kn a b) (g : Kn b c) : Kn a c := ⟨h.1.trans g.1, fun j v e => g.2 j v (h.2 j v e)⟩
theorem kn_wipe {σ σ2 : L2.St} {vs : List Nat} (h : wipe σ2 vs = wipe σ vs) : Kn (wipe σ vs) σ2 := ⟨by rw [← h, wipe_length], fun j v e => by
  rw [← h] at e
  exact (wipe_some e).1⟩
theorem kn_wipe2 {σ σ2 : L2.St} {vs us : List Nat} (h : wipe σ2 vs = wipe σ vs) (hu : ∀ i ∈ us, i ∈ vs) : Kn (wipe σ vs) (wipe σ2 us) := ⟨by rw [← h, wipe_length, wipe_length], fun j v e => by
  rw [← h] at e
  obtain ⟨e1, e2⟩ := wipe_some e
  rw [wipe_out fun z => e2 (hu j z)]
  exact e1⟩
theorem off {α : Type} {t : Sem α} {Q Q' : α → Shared → Prop} {M : Model} {A : Around} {E F : Value → Shared → Prop} {s : Shared} (hF : ∀ v s, ¬ F v s) (h : wpAny M A t Q F s) (q : ∀ a s, Q a s → Q' a s) : wpAny M A t Q' E s :=
  wpAny_mono h q fun v s z => absurd z (hF v s)
section
variable {X : Cx}
theorem clause {e : Expr} {d : Nat} {acc : Value} {p : Pos} {tg : Expr} {ts : List Expr} {body : Sem PySem.Fin → Sem PySem.Fin} {it : Addr} {fp : List Addr} {tn : Nat → Heap → Prop} {J : It} {g : TG} {tt : TT} {pins : List (Addr × Obj)} {σ0 : L2.St} {R : Result → Shared → Prop} {W : Nat → Nat → Hp → Prop} {Dn : Hp → Prop} {Bd : L2.St → Hp → (Hp → Prop) → Prop} {Pq : L2.St → Prop} {H0 : Hp} {s0 : Shared} {m0 : Nat}
    (hc : X.calm = true) (hx : ∀ v s, ¬ X.xe v s) (hq : ∀ σ2, Pq σ2 → Kn σ0 σ2) (hden : ∀ (s : Shared) (Q : PySem.Fin → Shared → Prop) (E : Value → Shared → Prop), wpAny (model X.prog X.w) X.A (compTurn e d (.ref it) acc X.env) Q (fun _ _ => False) s → wpAny (model X.prog X.w) (X.A.under (.compLoop e d (.ref it) acc X.env)) ((model X.prog X.w).den (.compLoop e d (.ref it) acc X.env)) Q E s)
    (ht : compTurn e d (.ref it) acc X.env = turnBy e d (.ref it) acc X.env p tg ts body) (T : Turn X.prog X.w X.K tg J fp it tn) (st : ∀ {H' : Hp}, (∀ b ∈ fp, H' b = none) → ∀ b ∈ fp, FpOk X pins H' b) (pg : PG X tg g) (pt : PTs X ts tt)
    (hb : ∀ (pl : List (Addr × Obj)) (s : Shared) (σ2 : L2.St) (H3 : Hp) (Nx : Hp → Prop), Inv X (pins ++ pl) σ2 H3 s → Pq σ2 → Bd σ2 H3 Nx → ∀ (k : Sem PySem.Fin) (Q : PySem.Fin → Shared → Prop), (∀ s' σ' H', Inv X (pins ++ pl) σ' H' s' → Kn σ0 σ' → Nx H' → wpAny (model X.prog X.w) X.A k Q (fun _ _ => False) s') → wpAny (model X.prog X.w) X.A (body k) Q (fun _ _ => False) s)
    (turn : ∀ i m H, W i m H → (J.stop i H ∧ Dn H) ∨ (J.go i H ∧ ∃ Nx : Hp → Prop, (∀ H', Nx H' → ∃ m', m' < m ∧ W (i + 1) m' H') ∧ ∀ x H', J.yld i H x H' → g x σ0 H' fun σ2 H2 => Pq σ2 ∧ tt σ2 H2 fun b H3 => if b = true then Bd σ2 H3 Nx else Nx H3))
    (fin : ∀ H s, Inv X pins σ0 H s → Dn H → R (.ok .next) s) (I0 : Inv X pins σ0 H0 s0) (t0 : tn 0 s0.heap) (n0 : ∀ b ∈ fp, H0 b = none) (w0 : W 0 m0 H0) : codeAny (model X.prog X.w) X.A (.compLoop e d (.ref it) acc X.env) R s0 := by
  refine codeAny_loop rfl (fun n s => ∃ i H, Inv X pins σ0 H s ∧ tn i s.heap ∧ (∀ b ∈ fp, H b = none) ∧ W i n H) (fun n s hI => hden _ _ _ ?_) m0 ⟨0, H0, I0, t0, n0, w0⟩
  obtain ⟨i, H, I, tl, nl, wl⟩ := hI
  rw [ht]
  unfold turnBy
  refine wpAny_bind (wpAny_standAt (wpAny_bind ?_))
  rcases turn i n H wl with ⟨stop, dn⟩ | ⟨go, Nx, less, step⟩
  · refine off (fun _ _ z => z) (T.done X rfl rfl rfl hc i pins s σ0 H (fun _ _ => False) I (st nl) tl stop) fun r s1 hr => ?_
    obtain ⟨rfl, I1⟩ := hr
    exact wpAny_pure (fin H s1 I1 dn)
  · refine off (fun _ _ z => z) (T.item X rfl rfl rfl hc i pins s σ0 H (fun _ _ => False) I (st nl) tl go) fun r s1 hr => ?_
    obtain ⟨u, rfl, h1⟩ := hr
    refine wpAny_bind (off (fun _ _ z => z) h1 fun _ s2 h2 => ?_)
    obtain ⟨x, H2, I2, r2, y2, t2, n2⟩ := h2
    have J2 := I2.pinned (st n2) (T.obj _ _ t2)
    refine wpAny_bind (off hx (pg.run _ s2 σ0 H2 x u _ J2 r2 (step x H2 y2)) fun _ s3 h3 => ?_)
    obtain ⟨σ3, H3, I3, k3, q3⟩ := h3
    refine wpAny_bind (off hx (pt.run _ s3 σ3 H3 _ I3 q3) fun b s4 h4 => ?_)
    obtain ⟨H4, I4, q4⟩ := h4
    have close : ∀ {σ' : L2.St} {s' : Shared} {H' : Hp}, Inv X (pins ++ pinsAt fp s2.heap) σ' H' s' → Kn σ0 σ' → Nx H' → ∃ m, m < n ∧ ∃ i H, Inv X pins σ0 H s' ∧ tn i s'.heap ∧ (∀ b ∈ fp, H b = none) ∧ W i m H := fun {σ' s' H'} I' k' nx => by
      obtain ⟨m, hm, w⟩ := less H' nx
      have stay : ∀ b ∈ fp, ∀ o, s2.heap.get? b = some o → s'.heap.get? b = some o ∧ H' b = none := fun b hb o ho => by
        obtain ⟨z1, z2, _⟩ := I'.pin (b, o) (List.mem_append_right _ (List.mem_append_right _ (mem_pinsAt hb ho)))
        exact ⟨z1, z2⟩
      refine ⟨m, hm, i + 1, H', I'.unpinned.weak k'.1 k'.2, T.keep _ _ _ t2 fun b hb o ho => (stay b hb o ho).1, fun b hb => ?_, w⟩
      obtain ⟨o, ho, _⟩ := T.obj _ _ t2 b hb
      exact (stay b hb o ho).2
    cases b with
    | false =>
      rw [if_neg Bool.false_ne_true] at q4
      exact wpAny_pure ⟨rfl, close I4 (hq _ k3) q4⟩
    | true =>
      rw [if_pos rfl] at q4
      exact hb _ s4 σ3 H4 Nx I4 k3 q4 _ _ fun s5 σ5 H5 I5 k5 nx => wpAny_pure ⟨rfl, close I5 k5 nx⟩
end
end Gp

namespace Gp
open PySem PySem.Spec PyProof.Rows L2
/-! ### {k: v for .. for ..} -/
section
variable {X : Cx}
/-- the walk of one clause over J, from W on: each that passes comes to B, the end to Dn -/
def Goes (J : It) (σ0 : L2.St) (vs : List Nat) (σb : L2.St) (g : TG) (tt : TT) (B : L2.St → Hp → (Hp → Prop) → Prop) (Dn : Hp → Prop) (H0 : Hp) : Prop :=
  ∃ W : Nat → Nat → Hp → Prop, (∃ m, W 0 m H0) ∧ ∀ i m H, W i m H → (J.stop i H ∧ Dn H) ∨ (J.go i H ∧ ∃ Nx : Hp → Prop, (∀ H', Nx H' → ∃ m', m' < m ∧ W (i + 1) m' H') ∧
    ∀ x H', J.yld i H x H' → g x (wipe σ0 vs) H' fun σ2 H2 => wipe σ2 vs = wipe σb vs ∧ tt σ2 H2 fun b H3 => if b = true then B σ2 H3 Nx else Nx H3)
def putB (tk tv : TE) (D : Addr) : L2.St → Hp → (Hp → Prop) → Prop := fun σ H Nx => tk σ H fun y H1 => tv σ H1 fun z H2 => ∃ kvs k, y = kV k ∧ H2 D = some (.dK kvs) ∧ kvs.length < sizeLine ∧ Nx (upd H2 D (.dK (putK kvs k z)))
def tDc2 (wi : TI) (g : TG) (tt : TT) (wj : TI) (gj : TG) (tj : TT) (tk tv : TE) (vs us : List Nat) : TE := fun σ H Q => wi σ H fun J H1 => ∀ D, H1 D = none →
  Goes J σ vs σ g tt (fun σ2 H3 Nx => wj σ2 H3 fun J1 H4 => Goes J1 σ2 us σ2 gj tj (putB tk tv D) Nx H4) (fun H' => Q (.ref D) H') (upd H1 D (.dK []))
theorem den_dict {kx vx : Expr} {cs : List Comprehension} {sc : Scope} {p : Pos} {d : Nat} {it acc : Value} {env : Env} {A : Around} (s : Shared) (Q : PySem.Fin → Shared → Prop) (E : Value → Shared → Prop) (h : wpAny (model X.prog X.w) A (compTurn (.DictComp kx vx cs sc p) d it acc env) Q (fun _ _ => False) s) :
    wpAny (model X.prog X.w) (A.under (.compLoop (.DictComp kx vx cs sc p) d it acc env)) ((model X.prog X.w).den (.compLoop (.DictComp kx vx cs sc p) d it acc env)) Q E s := by
  show wpAny _ A ((compTurn (.DictComp kx vx cs sc p) d it acc env).onRaise (fun x => do noteFrame x env; theTreesLotGoes x)) _ _ s
  exact wpAny_noted (off (fun _ _ z => z) h fun _ _ q => q)
theorem start_dict {kx vx : Expr} {c0 c1 : Comprehension} {sc : Scope} {p : Pos} {it acc : Value} {env : Env} {A : Around} {s : Shared} {R : Result → Shared → Prop} (hz : c1.is_async = 0)
    (h0 : codeAny (model X.prog X.w) A (.compLoop (.DictComp kx vx [c0, c1] sc p) 1 it acc env) R s)
    (h : wpAny (model X.prog X.w) A (pyIter it) (fun i2 s2 => codeAny (model X.prog X.w) A (.compLoop (.DictComp kx vx [c0, c1] sc p) 1 i2 acc env) R s2) (fun _ _ => False) s) :
    codeAny (model X.prog X.w) A (.compStart (.DictComp kx vx [c0, c1] sc p) 1 it acc env) R s := by
  refine codeAny_of_tree ?_
  show wpAny _ _ ((compStart (.DictComp kx vx [c0, c1] sc p) 1 it acc env).onRaise (fun x => do noteFrame x env; standAt theWindowsPlace)) _ _ s
  refine wpAny_notedAt (off (F := fun _ _ => False) (fun _ _ z => z) ?_ fun _ _ q => q)
  unfold compStart
  have e1 : (((clausesOf (.DictComp kx vx [c0, c1] sc p))[1]?).elim false fun x => x.is_async != 0) = false := by
    show (c1.is_async != 0) = false
    rw [hz]
    rfl
  rw [e1]
  show wpAny _ _ (ask >>= _) _ _ s
  refine wpAny_bind (wpAny_askSetting (wpAny_ite ?_))
  split
  · first
      | exact wpAny_bind (wpAny_pure (wpAny_pure ⟨rfl, h0⟩))
      | exact wpAny_pure ⟨rfl, h0⟩
  · refine wpAny_bind (wpAny_rule ?_)
    show wpAny _ _ (standAt c1.iter.pos >>= _) _ _ s
    exact wpAny_bind (wpAny_standAt (wpAny_bind (off (fun _ _ z => z) h fun i2 s2 q => wpAny_pure ⟨rfl, q⟩)))
theorem out_dict {kx vx t0 i0 t1 i1 : Expr} {f0 f1 : List Expr} {sc : Scope} {p : Pos} {it acc : Value} {env : Env} : compTurn (.DictComp kx vx [⟨t0, i0, f0, 0⟩, ⟨t1, i1, f1, 0⟩] sc p) 0 it acc env =
    turnBy (.DictComp kx vx [⟨t0, i0, f0, 0⟩, ⟨t1, i1, f1, 0⟩] sc p) 0 it acc env i0.pos t0 f0 (fun k => do
      let x ← eval i1 env
      standAt i1.pos
      let y ← foldedSetIterable i1 env x
      let z ← holding [y] (pyIter y)
      let _ ← runOwn (.compStart (.DictComp kx vx [⟨t0, i0, f0, 0⟩, ⟨t1, i1, f1, 0⟩] sc p) 1 z acc env) env
      k) := by rfl
theorem in_dict {kx vx t0 i0 t1 i1 : Expr} {f0 f1 : List Expr} {sc : Scope} {p : Pos} {it : Value} {D : Addr} {env : Env} : compTurn (.DictComp kx vx [⟨t0, i0, f0, 0⟩, ⟨t1, i1, f1, 0⟩] sc p) 1 it (.ref D) env =
    turnBy (.DictComp kx vx [⟨t0, i0, f0, 0⟩, ⟨t1, i1, f1, 0⟩] sc p) 1 it (.ref D) env i1.pos t1 f1 (fun k => (do
      let a ← eval kx env
      let b ← holding [a] (eval vx env)
      standAt { kx.pos with endLine := vx.pos.endLine, endCol := vx.pos.endCol }
      holding [a, b] (dictSet D a b)) >>= fun _ => k) := by rfl
/-- the inner clause: what is put -/
theorem put_ok {kx vx : Expr} {tk tv : TE} {D : Addr} (hx : ∀ v s, ¬ X.xe v s) (pk : PE X kx tk) (pv' : PE X vx tv) {σ0 : L2.St} {pins : List (Addr × Obj)} {s : Shared} {σ : L2.St} {H : Hp} {Nx : Hp → Prop} (I : Inv X pins σ H s) (k : Kn σ0 σ) (h : putB tk tv D σ H Nx) {kk : Sem PySem.Fin} {Q : PySem.Fin → Shared → Prop} (hk : ∀ s' σ' H', Inv X pins σ' H' s' → Kn σ0 σ' → Nx H' → wpAny (model X.prog X.w) X.A kk Q (fun _ _ => False) s') :
    wpAny (model X.prog X.w) X.A ((do
      let a ← eval kx X.env
      let b ← holding [a] (eval vx X.env)
      standAt { kx.pos with endLine := vx.pos.endLine, endCol := vx.pos.endCol }
      holding [a, b] (dictSet D a b)) >>= fun _ => kk) Q (fun _ _ => False) s := by
  refine wpAny_bind (wpAny_bind (off hx (pk.run pins s σ H _ I h) fun a s1 h1 => ?_))
  obtain ⟨y, H1, I1, r1, q1⟩ := h1
  refine wpAny_bind (wpAny_holding (off hx (pv'.run pins s1 σ H1 _ I1 q1) fun b s2 h2 => ?_))
  obtain ⟨z, H2, I2, r2, kvs, ky, rfl, hD, hl, nx⟩ := h2
  refine wpAny_bind (wpAny_standAt (wpAny_holding ?_))
  exact d_dictSet I2 hD hl r1 r2 fun s3 I3 => hk s3 σ _ I3 k nx
/-- the block opened, and both clauses gone through -/
theorem dc2_core {kx vx tg iter tj itj : Expr} {fs fj : List Expr} {sc : Scope} {own : List (Str × Nat)} {us : List Nat} {p1 pq : Pos} {wi wj : TI} {g gj : TG} {tt tjt : TT} {tk tv : TE} {use : Option (Value → Sem Unit)} {Qf : Value → Shared → Prop} {pins : List (Addr × Obj)} {s : Shared} {σ : L2.St} {H : Hp} {Q : VK}
    (hc : X.calm = true) (nd : X.N.Nodup) (I : Inv X pins σ H s) (hi : PI X tg iter wi) (ok : BlkOk X.N X.env.scope sc own) (hu : ∀ i ∈ us, i ∈ own.map (·.2))
    (hg : ∀ (a : Shared) (b : Hp) (c : Addr) (d : List (Str × Addr)) (e : List Addr), PG (X.blk a b sc (compEnvC sc d c X.env) e) tg g) (ht : ∀ (a : Shared) (b : Hp) (c : Addr) (d : List (Str × Addr)) (e : List Addr), PTs (X.blk a b sc (compEnvC sc d c X.env) e) fs tt)
    (hj : ∀ (a : Shared) (b : Hp) (c : Addr) (d : List (Str × Addr)) (e : List Addr), PI (X.blk a b sc (compEnvC sc d c X.env) e) tj itj wj)
    (hgj : ∀ (a : Shared) (b : Hp) (c : Addr) (d : List (Str × Addr)) (e : List Addr), PG (X.blk a b sc (compEnvC sc d c X.env) e) tj gj) (htj : ∀ (a : Shared) (b : Hp) (c : Addr) (d : List (Str × Addr)) (e : List Addr), PTs (X.blk a b sc (compEnvC sc d c X.env) e) fj tjt)
    (hk : ∀ (a : Shared) (b : Hp) (c : Addr) (d : List (Str × Addr)) (e : List Addr), PE (X.blk a b sc (compEnvC sc d c X.env) e) kx tk)
    (hv : ∀ (a : Shared) (b : Hp) (c : Addr) (d : List (Str × Addr)) (e : List Addr), PE (X.blk a b sc (compEnvC sc d c X.env) e) vx tv) (hs : ∀ x, foldedSetIterable iter X.env x = pure x) (hsj : ∀ env x, foldedSetIterable itj env x = pure x)
    (h : tDc2 wi g tt wj gj tjt tk tv (own.map (·.2)) us σ H Q)
    (out : ∀ D C s' m H', Inv X pins σ H' s' → Q (.ref D) H' → s'.heap.Ns C m → FpOk X pins H' C → compPost (model X.prog X.w) X.A X.xe use Qf (.ref D) C (.ok .next) s') :
    wpAny (model X.prog X.w) X.A (comprehension (.DictComp kx vx [⟨tg, iter, fs, 0⟩, ⟨tj, itj, fj, 0⟩] sc p1) sc X.env pq newDict false (eval iter X.env) use) Qf X.xe s := by
  have caught : ∀ y ∈ sc.names, y.2 = .free → ∃ c, X.env.cells.lookup y.1 = some c := fun y hy e => I.ok.has _ (ok.free y hy e)
  refine wpAny_comprehension_free rfl hs (closure_ok caught) ok.kind (fun y hy e => (ok.uniq y hy).trans (congrArg some e)) (thn (hi.run pins s σ H _ I h) fun xv s1 h1 => thn h1 fun iv s2 h2 => ?_)
  obtain ⟨it, fp, tn, J, H2, rfl, I2, T, t2, f2, q⟩ := h2
  refine wpAny_newObj_type (newEnv_comp ?_)
  -- the new dict
  have hD2 : H2 s2.heap.objs.size = none := I2.hok.fresh (Nat.le_refl _)
  obtain ⟨W, ⟨m0, w0⟩, turn⟩ := q _ hD2
  have I3 : Inv X pins σ (upd H2 s2.heap.objs.size (.dK [])) { s2 with heap := s2.heap.push { cls := .type "dict", data := .dict #[] } } :=
    I2.laid (t' := s2.toks) (fun b o e => Heap.get?_push_of_some _ e) (Nat.le_refl _) (dk_empty s2.heap I2.big)
  have below : ∀ b ∈ fp, b < s2.heap.objs.size := fun b hb => by
    obtain ⟨o, e, _⟩ := T.obj _ _ t2 b hb
    exact Heap.lt_size e
  have f3 : ∀ b ∈ fp, FpOk X pins (upd H2 s2.heap.objs.size (.dK [])) b ∧ b < (s2.heap.push { cls := .type "dict", data := .dict #[] }).objs.size := fun b hb => by
    have l := below b hb
    exact ⟨⟨by rw [upd_ne (Nat.ne_of_lt l)]; exact (f2 b hb).1, (f2 b hb).2⟩, by rw [Heap.size_push]; exact Nat.lt_succ_of_lt l⟩
  have t3 : tn 0 (s2.heap.push { cls := .type "dict", data := .dict #[] }) := T.keep _ _ _ t2 fun b _ o e => Heap.get?_push_of_some _ e
  have I4 := block_start I3 ok nd f3
  generalize upd H2 s2.heap.objs.size (.dK []) = H3 at *
  generalize s2.heap.objs.size = D at *
  generalize hs3 : ({ s2 with heap := s2.heap.push { cls := .type "dict", data := .dict #[] } } : Shared) = s3 at *
  have t3 : tn 0 s3.heap := by
    rw [← hs3]
    exact t3
  have f3 : ∀ b ∈ fp, FpOk X pins H3 b ∧ b < s3.heap.objs.size := by
    rw [← hs3]
    exact f3
  have pg := hg s3 H3 s3.heap.objs.size (cellsFrom (s3.heap.objs.size + 1) sc.names (cloFrom X.env.cells sc.names [])) fp
  have pt := ht s3 H3 s3.heap.objs.size (cellsFrom (s3.heap.objs.size + 1) sc.names (cloFrom X.env.cells sc.names [])) fp
  have pj := hj s3 H3 s3.heap.objs.size (cellsFrom (s3.heap.objs.size + 1) sc.names (cloFrom X.env.cells sc.names [])) fp
  have pgj := hgj s3 H3 s3.heap.objs.size (cellsFrom (s3.heap.objs.size + 1) sc.names (cloFrom X.env.cells sc.names [])) fp
  have ptj := htj s3 H3 s3.heap.objs.size (cellsFrom (s3.heap.objs.size + 1) sc.names (cloFrom X.env.cells sc.names [])) fp
  have pk := hk s3 H3 s3.heap.objs.size (cellsFrom (s3.heap.objs.size + 1) sc.names (cloFrom X.env.cells sc.names [])) fp
  have pw := hv s3 H3 s3.heap.objs.size (cellsFrom (s3.heap.objs.size + 1) sc.names (cloFrom X.env.cells sc.names [])) fp
  show codeAny (model X.prog X.w) X.A (.compStart (.DictComp kx vx [⟨tg, iter, fs, 0⟩, ⟨tj, itj, fj, 0⟩] sc p1) 0 (.ref it) (.ref D) (compEnvC sc (cellsFrom (s3.heap.objs.size + 1) sc.names (cloFrom X.env.cells sc.names [])) s3.heap.objs.size X.env)) (compPost (model X.prog X.w) X.A X.xe use Qf (.ref D) s3.heap.objs.size) { s3 with heap := pushCells (s3.heap.push { cls := .type "dict", data := .dict #[] }) sc.names }
  generalize hce : compEnvC sc (cellsFrom (s3.heap.objs.size + 1) sc.names (cloFrom X.env.cells sc.names [])) s3.heap.objs.size X.env = ce at *
  have lce : ce.locals = s3.heap.objs.size := by
    rw [← hce]
    rfl
  have t4 : tn 0 (pushCells (s3.heap.push { cls := .type "dict", data := .dict #[] }) sc.names) := T.keep _ _ _ t3 fun b _ o e => pushCells_keeps _ _ _ _ (Heap.get?_push_of_some _ e)
  generalize hs4 : ({ s3 with heap := pushCells (s3.heap.push { cls := .type "dict", data := .dict #[] }) sc.names } : Shared) = s4 at *
  have t4 : tn 0 s4.heap := by
    rw [← hs4]
    exact t4
  have still : ∀ {H' : Hp}, (∀ b ∈ fp, H' b = none) → ∀ b ∈ fp, FpOk (X.blk s3 H3 sc ce fp) [] H' b := fun hn b hb =>
    ⟨hn b hb, (I4.ok.exf b hb).1, I4.ok.exfs b hb, .inl hb, fun x c e => (I4.ok.exf b hb).2 x c e, fun p hp => absurd (show p ∈ ([] : List (Addr × Obj)) ++ [] from hp) (by simp)⟩
  have never : ∀ v z, ¬ (X.blk s3 H3 sc ce fp).xe v z := fun _ _ z => z
  have loop : codeAny (model X.prog X.w) X.A (.compLoop (.DictComp kx vx [⟨tg, iter, fs, 0⟩, ⟨tj, itj, fj, 0⟩] sc p1) 0 (.ref it) (.ref D) ce) (compPost (model X.prog X.w) X.A X.xe use Qf (.ref D) s3.heap.objs.size) s4 := by
    refine clause (X := X.blk s3 H3 sc ce fp) (W := W) (Bd := fun σ2 H5 Nx => wj σ2 H5 fun J1 H6 => Goes J1 σ2 us σ2 gj tjt (putB tk tv D) Nx H6) (Pq := fun σ2 => wipe σ2 (own.map (·.2)) = wipe σ (own.map (·.2))) (Dn := fun H' => Q (.ref D) H') hc never (fun _ => kn_wipe) (fun s Q E z => den_dict (X := X) s Q E z) out_dict T still pg pt ?_ ?_ ?_ I4 t4 (fun b hb => (f3 b hb).1.1) w0
    · intro pl s5 σ5 H5 Nx I5 k5 b5 kk Qk hkk
      have e5 := k5
      refine wpAny_bind (off never (pj.run _ s5 σ5 H5 _ I5 b5) fun xv s6 h6 => ?_)
      refine wpAny_bind (wpAny_standAt (wpAny_bind (wpAny_of_eq (hsj ce xv) (wpAny_bind (wpAny_holding (off never h6 fun iv s7 h7 => ?_))))))
      obtain ⟨i7, fp7, tn7, J7, H7, rfl, I7, T7, t7, f7, W7, ⟨m7, w7⟩, turn7⟩ := h7
      refine wpAny_bind (wpAny_runOwn ?_)
      rw [Around.mark_none]
      have still7 : ∀ {H' : Hp}, (∀ b ∈ fp7, H' b = none) → ∀ b ∈ fp7, FpOk (X.blk s3 H3 sc ce fp) ([] ++ pl) H' b := fun hn b hb => ⟨hn b hb, (f7 b hb).2⟩
      have inner : codeAny (model X.prog X.w) X.A (.compLoop (.DictComp kx vx [⟨tg, iter, fs, 0⟩, ⟨tj, itj, fj, 0⟩] sc p1) 1 (.ref i7) (.ref D) ce) (fun r s' => match r with
          | .ok f => wpAny (model X.prog X.w) X.A kk Qk (fun _ _ => False) s'
          | .error e => cameBackBy (model X.prog X.w) X.A ce (fun _ _ => False) e s') s7 := by
        refine clause (X := X.blk s3 H3 sc ce fp) (σ0 := wipe σ5 us) (W := W7) (Bd := putB tk tv D) (Pq := fun σ2 => wipe σ2 us = wipe σ5 us) (Dn := Nx) hc never (fun _ => kn_wipe) (fun s Q E z => den_dict (X := X) s Q E z) in_dict T7 still7 pgj ptj ?_ ?_ ?_ (I7.weak (wipe_length _ _) fun j v e => (wipe_some e).1) t7 (fun b hb => (f7 b hb).1) w7
        · intro pl8 s8 σ8 H8 Nx8 I8 k8 b8 k9 Q9 h9
          exact put_ok never pk pw I8 (kn_wipe k8) b8 h9
        · intro i m H8 w8
          rcases turn7 i m H8 w8 with z | ⟨go, Nx8, less, step⟩
          · exact .inl z
          · refine .inr ⟨go, Nx8, less, fun x H9 y9 => ?_⟩
            exact step x H9 y9
        · intro H8 s8 I8 nx
          exact hkk s8 _ H8 I8 (kn_wipe2 e5 hu) nx
      exact start_dict (X := X) rfl inner (T7.self X.A 0 _ _ _ t7 inner)
    · intro i m H5 w5
      rcases turn i m H5 w5 with z | ⟨go, Nx, less, step⟩
      · exact .inl z
      · exact .inr ⟨go, Nx, less, fun x H6 y6 => step x H6 y6⟩
    · intro H5 s5 I5 qq
      have I6 : Inv X pins σ H5 s5 := I3.call' (ch := fp) I5.os I5.base I5.hok I5.bare fun b hb => ⟨(f3 b hb).1.2.2.2.1, (f3 b hb).1.2.1, (f3 b hb).1.2.2.2.2.1, (f3 b hb).1.2.2.2.2.2⟩
      have free : H5 ce.locals = none := I5.free
      obtain ⟨m, hn, _⟩ := I5.loc
      have hn : s5.heap.Ns ce.locals m := hn
      rw [lce] at hn free
      exact out D _ s5 m H5 I6 qq hn (I3.fpOk (Nat.le_refl _) free)
  exact codeAny_compStart_dict loop (T.self X.A 0 _ _ _ t4 loop)
theorem ps_setDc2 {i : Nat} {y : Str} {p2 : Pos} {kx vx tg iter tj itj : Expr} {fs fj : List Expr} {sc : Scope} {own : List (Str × Nat)} {us : List Nat} {p1 p3 : Pos} {wi wj : TI} {g gj : TG} {tt tjt : TT} {tk tv : TE} (hc : X.calm = true) (nd : X.N.Nodup) (hy : X.N[i]? = some y) (hl : X.env.scope.names.lookup y = some .local)
    (sw : swapsWith (.DictComp kx vx [⟨tg, iter, fs, 0⟩, ⟨tj, itj, fj, 0⟩] sc p1) (some (.Name y p2)) p3.line X.env = pure true) (hi : PI X tg iter wi) (ok : BlkOk X.N X.env.scope sc own) (hu : ∀ i ∈ us, i ∈ own.map (·.2))
    (hg : ∀ (a : Shared) (b : Hp) (c : Addr) (d : List (Str × Addr)) (e : List Addr), PG (X.blk a b sc (compEnvC sc d c X.env) e) tg g) (ht : ∀ (a : Shared) (b : Hp) (c : Addr) (d : List (Str × Addr)) (e : List Addr), PTs (X.blk a b sc (compEnvC sc d c X.env) e) fs tt)
    (hj : ∀ (a : Shared) (b : Hp) (c : Addr) (d : List (Str × Addr)) (e : List Addr), PI (X.blk a b sc (compEnvC sc d c X.env) e) tj itj wj)
    (hgj : ∀ (a : Shared) (b : Hp) (c : Addr) (d : List (Str × Addr)) (e : List Addr), PG (X.blk a b sc (compEnvC sc d c X.env) e) tj gj) (htj : ∀ (a : Shared) (b : Hp) (c : Addr) (d : List (Str × Addr)) (e : List Addr), PTs (X.blk a b sc (compEnvC sc d c X.env) e) fj tjt)
    (hk : ∀ (a : Shared) (b : Hp) (c : Addr) (d : List (Str × Addr)) (e : List Addr), PE (X.blk a b sc (compEnvC sc d c X.env) e) kx tk)
    (hv : ∀ (a : Shared) (b : Hp) (c : Addr) (d : List (Str × Addr)) (e : List Addr), PE (X.blk a b sc (compEnvC sc d c X.env) e) vx tv) (hs : ∀ x, foldedSetIterable iter X.env x = pure x := by intro _; rfl) (hsj : ∀ env x, foldedSetIterable itj env x = pure x := by intro _ _; rfl) :
    PS X (.Assign [.Name y p2] (.DictComp kx vx [⟨tg, iter, fs, 0⟩, ⟨tj, itj, fj, 0⟩] sc p1) p3) (tAsg (tDc2 wi g tt wj gj tjt tk tv (own.map (·.2)) us) (gName i)) := by
  constructor
  intro pins s σ H D I h
  rw [exec_Assign_Name_used _ _ _ _ sw]
  refine wpAny_bind (wpAny_standAt (wpAny_bind ?_))
  have h0 : tDc2 wi g tt wj gj tjt tk tv (own.map (·.2)) us σ H (fun x H1 => gName i x σ H1 D.nx) := h
  refine wpAny_bind (thn (dc2_core (Qf := fun _ s' => SP X pins D .next s') hc nd I hi ok hu hg ht hj hgj htj hk hv hs hsj h0 fun L C s' m H' I' q hn f => ?_) fun _ s' hq => wpAny_pure (wpAny_pure hq))
  refine wpAny_assign_Name (store_ok2 (v := V.ref L) I' nd hy (.inl hl) rfl (fun s2 I2 ⟨b, sb, hb⟩ => ?_) (.inr hl))
  obtain ⟨f0, f1, f2, f3, f4, f5⟩ := f
  have ne : C ≠ b := by
    rcases hb with z | z
    · rw [z]
      exact f1
    · exact fun e => f4 y b z e.symm
  exact ⟨m, hn.sameBut sb ne, fun h3 sb3 => ⟨_, H', I2.turned (t' := s2.toks) (fun c o hc e => (sb3.2 c hc).trans e) f0 f1 f3 f4 f5, q⟩⟩
/-- a clause gone through whose source is walked by numbers -/
theorem goes {J : It} {n : Nat} {σ0 σb : L2.St} {vs : List Nat} {g : TG} {tt : TT} {B : L2.St → Hp → (Hp → Prop) → Prop} {Dn : Hp → Prop} {H0 : Hp} (Pv : Nat → Hp → Prop) (h0 : Pv 0 H0) (hgo : ∀ i H, i < n → Pv i H → J.go i H) (hst : ∀ H, Pv n H → J.stop n H)
    (hs : ∀ i x H H', i < n → Pv i H → J.yld i H x H' → g x (wipe σ0 vs) H' fun σ2 H2 => wipe σ2 vs = wipe σb vs ∧ tt σ2 H2 fun b H3 => if b = true then B σ2 H3 (Pv (i + 1)) else Pv (i + 1) H3) (hd : ∀ H, Pv n H → Dn H) : Goes J σ0 vs σb g tt B Dn H0 :=
  walkC (B := fun x H' Nx => g x (wipe σ0 vs) H' fun σ2 H2 => wipe σ2 vs = wipe σb vs ∧ tt σ2 H2 fun b H3 => if b = true then B σ2 H3 Nx else Nx H3) Pv h0 hgo hst hs hd
end
end Gp

namespace W35
open PySem PySem.Spec PyProof.Rows L2 Gs Gp Gr
/-! ### ties by numbers -/
def sT (ts : List Tie) (n : Nat) : Nat := (ts.getD n (0, 0, [])).1
def eT (ts : List Tie) (n : Nat) : Nat := (ts.getD n (0, 0, [])).2.1
def lT (ts : List Tie) (n : Nat) : List Nat := (ts.getD n (0, 0, [])).2.2
theorem tie_at {ts : List Tie} {n : Nat} {a b : Nat} {ls : List Nat} (h : ts[n]? = some (a, b, ls)) : sT ts n = a ∧ eT ts n = b ∧ lT ts n = ls := by
  unfold sT eT lT
  rw [List.getD_eq_getElem?_getD, h]
  exact ⟨rfl, rfl, rfl⟩
theorem Ties.num {H : Hp} {us : List V} {ts : List Tie} (h : Ties H us ts) {n : Nat} (hn : n < ts.length) : ∃ t l, us[n]? = some (.ref t) ∧ H t = some (.tup [.int (sT ts n), .int (eT ts n), .ref l]) ∧ H l = some (.tup ((lT ts n).map vI)) := by
  have ul := h.len
  have hv : us[n]? = some us[n] := List.getElem?_eq_getElem (by omega)
  obtain ⟨t, l, a, b, ls, e, e2, h1, h2⟩ := h.at hv
  obtain ⟨r1, r2, r3⟩ := tie_at e2
  rw [r1, r2, r3]
  exact ⟨t, l, by rw [hv, e], h1, h2⟩
theorem prs_of {ts : List Tie} : ts.map pr2 = prsOf (sT ts) (eT ts) ts.length := by
  unfold prsOf
  apply List.ext_getElem
  · simp
  · intro i h1 h2
    rw [List.length_map] at h1
    rw [List.getElem_map, List.getElem_map, List.getElem_range]
    have e : ts[i]? = some (ts[i].1, ts[i].2.1, ts[i].2.2) := List.getElem?_eq_getElem h1
    obtain ⟨r1, r2, _⟩ := tie_at e
    rw [r1, r2]
    rfl
/-! ### numbers_by_starts -/
abbrev NNu : List Str := ["entries", "ties", "numbers", "number"]
theorem scNums : FnScope NNu ["entries", "ties", "numbers"] (defScope sNums) := ⟨rfl, rfl, rfl, by decide +kernel, rfl, by decide +kernel, by decide +kernel⟩
def spNums : Sp := fun vs H Q _ => ∃ (E T N : Addr) (es ns : List Nat) (us : List V) (ts : List Tie), vs = [.ref E, .ref T, .ref N] ∧ H E = some (.lst (es.map vI)) ∧ H T = some (.lst us) ∧ Ties H us ts ∧ H N = some (.lst (ns.map vI)) ∧ es.Nodup ∧ (∀ n ∈ ns, n < ts.length ∧ sT ts n ∈ es) ∧ es.length ≤ 900 ∧ ns.length ≤ 900 ∧
  ∀ H' r, Same H H' → H r = none → EndsA H' r es (owOf (sT ts) ns) → Q (.ref r) H'
section
variable {P : Program} {w : World} {K : PySem.W.Frag} {mg : Str → Option Value} {base : Heap} {f f1 f2 : Addr} {fd d1 d2 : FuncData} {k : Nat}
theorem ok_nums (F : Fun K "numbers_by_starts" "numbers_by_starts" sNums f fd) (EN : Cl P w K mg base CX0 k "ends_by_starts" ["entries", "pairs"] spEnds f1 d1) : FnOk P w K mg base CX0 (k + 1) f fd ["entries", "ties", "numbers"] spNums := by
  refine F.ok scNums (fun vs H Q E h => ?_) (fun cdv A outer s H vs Q E hr h => ?_)
  · obtain ⟨E, T, N, es, ns, us, ts, rfl, _⟩ := h
    rfl
  · obtain ⟨E', T, N, es, ns, us, ts, rfl, hE, hT, tu, hN, nd, ok, el, nl, q⟩ := h
    refine ⟨_, pss_one (ps_ret (pe_call EN.ok hr (by rfl) EN.g EN.kp EN.bd .nil pass0 (pa_cons (pv 0) (pa_cons
      (pe_lc (own := [("number", 3)]) (g := gName 3) (tt := tYes) rfl scNums.nd (pi_list (pv 2)) (blkOk_by (own := [("number", 3)]) (N := NNu) (sc := defScope sNums) (by decide +kernel))
        (fun _ _ _ _ _ => pg_name (i := 3) scNums.nd rfl (Or.inl rfl)) (fun _ _ _ _ _ => pts_nil)
        (fun _ _ _ _ _ => pe_tup (pa_cons (pe_ix (ix_tupK (K := K) rfl) (pe_ix (ix_listK (K := K) rfl) (pv 1) (pv 3) (fun _ _ => rfl)) pe_int (fun _ _ => rfl)) (pa_cons (pv 3) pa_nil)))) pa_nil)))), ?_⟩
    refine ⟨_, rfl, _, rfl, N, rfl, ⟨_, SqL.of hN⟩, fun D hD => ?_⟩
    have ml : (ns.map vI).length = ns.length := List.length_map ..
    refine lc_list (K := K) (xs := ns.map vI) (fun i H' => ∃ ps, H' D = some (.lst ps) ∧ Prs H' ps ((ns.take i).map fun n => (sT ts n, n)) ∧ Same H H')
      ⟨[], upd_same, .nil, same_new hD⟩ (fun i H' _ hp => ?_) (fun i x H2 hx hp => ?_) (fun H2 hp => ?_)
    · obtain ⟨_, _, _, sm⟩ := hp
      exact SqL.of (sm _ _ hN)
    · obtain ⟨ps, e2, pr, sm⟩ := hp
      have il : i < ns.length := by
        have := (List.getElem?_eq_some_iff.mp hx).1
        rw [ml] at this
        exact this
      have ei : ns[i]? = some ns[i] := List.getElem?_eq_getElem il
      rw [List.getElem?_map, ei] at hx
      cases hx
      obtain ⟨lt, se⟩ := ok _ (List.getElem_mem il)
      obtain ⟨t, l, ut, ht, _⟩ := tu.num lt
      have lp := pr.len
      rw [List.length_map, List.length_take] at lp
      refine ⟨rfl, ?_⟩
      refine ⟨_, rfl, _, rfl, T, _, _, _, rfl, rfl, SqL.of (sm _ _ hT), atI_nat ut, t, _, 0, _, rfl, rfl, SqT.of (sm _ _ ht), atI_nat (j := 0) rfl, _, rfl, by show 2 ≤ sizeLine; decide, fun t2 ht2 => ?_⟩
      have s3 := same_new (o := .tup [.int (sT ts ns[i] : Nat), .int (ns[i] : Nat)]) ht2
      have e3 := s3 _ _ e2
      have t4 := tk_lst (o := .lst (ps ++ [.ref t2])) e3
      refine ⟨ps, e3, small1000 (by omega), ps ++ [.ref t2], upd_same, ?_, keep_new hD (sm.trans s3)⟩
      rw [take_map ei]
      exact ((pr.tk (tk_same s3)).app (.cons upd_same .nil)).tk t4
    · obtain ⟨ps, e2, pr, sm⟩ := hp
      rw [ml, List.take_length] at pr
      refine ⟨E', D, es, ps, _, rfl, sm _ _ hE, e2, pr, nd, fun p hp => ?_, el, by rw [List.length_map]; exact nl, fun H3 r s3 hr3 en => ?_⟩
      · obtain ⟨n, hn, rfl⟩ := List.mem_map.mp hp
        exact (ok n hn).2
      · exact q H3 r (sm.trans s3) (free_same sm hr3) en
end
end W35

namespace W35
open PySem PySem.Spec PyProof.Rows L2 Gs Gp Gr
/-! ### come_to_by -/
def vO : Option Nat → V
  | none => .non
  | some n => .int n
def kvC (p : Nat × Option Nat) : Key × V := (.inl (p.1 : Int), vO p.2)
theorem val_kc : ∀ {c : Cm} {x : Nat}, valV (c.map kvC) (.inl (x : Int)) = if x ∈ keys c then some (vO (look c x)) else none
  | [], x => rfl
  | (y, o) :: c, x => by
    have ih := @val_kc c x
    unfold valV at ih ⊢
    by_cases e : y = x
    · subst e
      rw [List.map_cons, List.find?_cons_of_pos (by simp [kvC]), if_pos (by unfold keys; exact List.mem_cons_self)]
      unfold look
      rw [List.find?_cons_of_pos (by simp)]
      rfl
    · have lk : look ((y, o) :: c) x = look c x := by
        unfold look
        rw [List.find?_cons_of_neg (by simp [e])]
      rw [List.map_cons, List.find?_cons_of_neg (by simp [kvC]; omega), ih, lk]
      by_cases d : x ∈ keys c
      · rw [if_pos d, if_pos (by unfold keys; exact List.mem_cons_of_mem _ d)]
      · rw [if_neg d, if_neg (fun z => by
          rcases List.mem_cons.mp z with h | z
          · exact e h.symm
          · exact d z)]
theorem put_kc {c : Cm} {x : Nat} {o : Option Nat} (h : x ∉ keys c) : putK (c.map kvC) (.inl (x : Int)) (vO o) = (c ++ [(x, o)]).map kvC := by
  rw [put_new, List.map_append]
  · rfl
  · intro kv hkv e
    obtain ⟨p, hp, rfl⟩ := List.mem_map.mp hkv
    have : (p.1 : Int) = (x : Int) := Sum.inl.inj e
    have : p.1 = x := by omega
    exact h (List.mem_map.mpr ⟨p, hp, this⟩)
theorem keys_vI {c : Cm} : (c.map kvC).map (fun kv => kV kv.1) = (keys c).map vI := by
  unfold keys
  rw [List.map_map, List.map_map]
  rfl
theorem EndsA.get2 {H H' : Hp} {r : Addr} {es : List Nat} {adj : Nat → List Nat} (h : EndsA H r es adj) (s : Same H H') {x : Nat} (hx : x ∈ es) : ∃ a, DGet H' r (.int (x : Nat)) (some (.ref a)) ∧ H a = some (.lst ((adj x).map vI)) := by
  obtain ⟨al, h1, h2, h3⟩ := h
  obtain ⟨a, ha, ev⟩ := val_al (al := al) (x := x) (by rw [h2]; exact hx)
  exact ⟨a, (show DGet H' r (kV (Sum.inl (x : Int))) (some (.ref a)) from ev ▸ DGet.k (s _ _ h1)), h3 _ ha⟩
abbrev NCo : List Str := ["begins", "ties", "onward", "came_by", "queue", "at", "here", "number", "there", "entry"]
theorem scCome : FnScope NCo ["begins", "ties", "onward"] (defScope sCome) := ⟨rfl, rfl, rfl, by decide +kernel, rfl, by decide +kernel, by decide +kernel⟩
def spCome : Sp := fun vs H Q _ => ∃ (B T O : Addr) (bs es : List Nat) (us : List V) (ts : List Tie) (ow : Nat → List Nat), vs = [.ref B, .ref T, .ref O] ∧ H B = some (.lst (bs.map vI)) ∧ H T = some (.lst us) ∧ Ties H us ts ∧ EndsA H O es ow ∧ bs.Nodup ∧ (∀ b ∈ bs, b ∈ es) ∧ (∀ x ∈ es, ∀ n ∈ ow x, n < ts.length ∧ sT ts n = x ∧ eT ts n ∈ es) ∧ es.length ≤ 900 ∧
  ∀ H' r, Same H H' → H r = none → H' r = some (.dK ((cameTo (eT ts) ow es.length bs).map kvC)) → Q (.ref r) H'
section
variable {P : Program} {w : World} {K : PySem.W.Frag} {mg : Str → Option Value} {base : Heap} {f f1 f2 : Addr} {fd d1 d2 : FuncData} {k : Nat}
theorem ok_come (F : Fun K "come_to_by" "come_to_by" sCome f fd) (ml : mg "list" = none) (mn : mg "len" = none) : FnOk P w K mg base CX0 (k + 1) f fd ["begins", "ties", "onward"] spCome := by
  refine F.ok scCome (fun vs H Q E h => ?_) (fun cdv A outer s H vs Q E hr h => ?_)
  · obtain ⟨B, T, O, bs, es, us, ts, ow, rfl, _⟩ := h
    rfl
  · obtain ⟨B, T, O, bs, es, us, ts, ow, rfl, hB, hT, tu, en, nd, sub, how, el, q⟩ := h
    refine ⟨_, pss_cons (ps_setDc (i := 3) (own := [("entry", 9)]) (g := gName 9) (tt := tYes) rfl scCome.nd rfl rfl (sw_dict rfl rfl rfl rfl) (pi_list (pv 0)) (blkOk_by (own := [("entry", 9)]) (N := NCo) (sc := defScope sCome) (by decide +kernel))
        (fun _ _ _ _ _ => pg_name (i := 9) scCome.nd rfl (Or.inl rfl)) (fun _ _ _ _ _ => pts_nil) (fun _ _ _ _ _ => pv 9) (fun _ _ _ _ _ => pe_non))
      (pss_cons (ps_set (i := 4) scCome.nd rfl (.inl rfl) (pe_callTy (call_listD rfl) (by rfl) ml (by decide +kernel) (pa_cons (pv 3) pa_nil)))
      (pss_cons (ps_set (i := 5) scCome.nd rfl (.inl rfl) pe_int)
      (pss_cons (ps_while PassesOwn.never (pt_cmpR op_lt (pv 5) (pe_callB call_len_seq (by rfl) mn PySem.boot_len (pa_cons (pv 4) pa_nil)) (nomark _))
        (pss_cons (ps_set (i := 6) scCome.nd rfl (.inl rfl) (pe_ix ix_list (pv 4) (pv 5) (fun _ _ => rfl)))
        (pss_cons (ps_for PassesOwn.never rfl (pi_list (pe_dget (u1 hr) (pv 2) (pv 6) (fun _ _ => rfl))) (pg_name (i := 7) scCome.nd rfl (Or.inl rfl))
          (pss_cons (ps_set (i := 8) scCome.nd rfl (.inl rfl) (pe_ix ix_tup (pe_ix ix_list (pv 1) (pv 7) (fun _ _ => rfl)) pe_int (fun _ _ => rfl)))
          (pss_one (ps_if (pt_cmp (pc_dnotin (u1 hr) (pv 8) (pv 3)) (by rfl))
            (pss_cons (ps_dput (u1 hr) (pv 3) (pv 8) (pv 7) (by rfl))
            (pss_one (ps_expr (pe_bm PySem.F.plainAttrs_list PySem.F.slot_list_append PySem.F.type_list_append mt_append (pv 4) (pa_cons (pv 8) pa_nil)))))
            pss_nil))))
        (pss_one (ps_aug (i := 5) scCome.nd rfl (.inl rfl) pe_int ip_add)))))
      (pss_one (ps_ret (pv 3)))))), ?_⟩
    -- the begins
    refine ⟨_, rfl, B, rfl, ⟨_, SqL.of hB⟩, fun D hD => ?_⟩
    have mb : (bs.map vI).length = bs.length := List.length_map ..
    refine walkC (J := Itl K B) (n := bs.length) (fun i H' => H' D = some (.dK (((bs.take i).map fun b => (b, none)).map kvC)) ∧ Same H H')
      ⟨by rw [List.take_zero]; exact upd_same, same_new hD⟩ (fun i H' hi hp => ?_) (fun H' hp => ?_) (fun i x H1 H1' hi hp hy => ?_) (fun H1 hp => ?_)
    · exact ⟨_, _, SqL.of (hp.2 _ _ hB), List.getElem?_eq_getElem (by rw [mb]; exact hi)⟩
    · exact ⟨_, SqL.of (hp.2 _ _ hB), by rw [mb]; exact Nat.le_refl _⟩
    · obtain ⟨eD, sm⟩ := hp
      obtain ⟨rfl, hy⟩ := hy
      have hx := hy _ (SqL.of (sm _ _ hB))
      rw [List.getElem?_map, List.getElem?_eq_getElem hi] at hx
      cases hx
      have fresh : bs[i] ∉ keys ((bs.take i).map fun b => ((b, none) : Nat × Option Nat)) := fun z => by
        have ek : keys ((bs.take i).map fun b => ((b, none) : Nat × Option Nat)) = bs.take i := by
          unfold keys
          rw [List.map_map]
          exact List.map_id _
        rw [ek] at z
        have nd' : (bs.take (i + 1)).Nodup := nd.sublist (List.take_sublist _ _)
        rw [List.take_add_one, List.getElem?_eq_getElem hi, Option.toList_some, List.nodup_append] at nd'
        exact nd'.2.2 _ z _ (List.mem_singleton.mpr rfl) rfl
      refine ⟨rfl, ?_⟩
      refine ⟨_, rfl, _, .inl ((bs[i] : Nat) : Int), rfl, eD, by rw [List.length_map, List.length_map, List.length_take]; exact small1000 (by have := pigl nd sub; omega), ?_, keep_new hD sm⟩
      have pk := put_kc (o := none) fresh
      rw [upd_same]
      have e2 : (bs.take (i + 1)).map (fun b => ((b, none) : Nat × Option Nat)) = (bs.take i).map (fun b => (b, none)) ++ [(bs[i], none)] := by
        rw [List.take_add_one, List.getElem?_eq_getElem hi, List.map_append]
        rfl
      rw [e2, ← pk]
      rfl
    obtain ⟨eD, sm⟩ := hp
    rw [List.take_length] at eD
    refine ⟨_, rfl, D, _, rfl, .of eD, fun Z hZ => ?_⟩
    rw [keys_vI]
    have hZ0 : H Z = none := free_same sm hZ
    have DZ : D ≠ Z := ne_of_none eD hZ
    have s2 := same_new (o := .lst ((keys (bs.map fun b => ((b, none) : Nat × Option Nat))).map vI)) hZ
    have B0 : Bf es bs (sT ts) (eT ts) ow 0 (bs.map fun b => (b, none)) := bf_init nd sub
    have how' : ∀ x ∈ es, ∀ n ∈ ow x, sT ts n = x ∧ eT ts n ∈ es := fun x hx n hn => (how x hx n hn).2
    refine ⟨fun m σ H' => ∃ (i : Nat) (c : Cm) (x6 x7 x8 : Option V), m + i = es.length + 1 ∧ i ≤ c.length ∧ σ = [some (.ref B), some (.ref T), some (.ref O), some (.ref D), some (.ref Z), some (.int (i : Nat)), x6, x7, x8, none] ∧ Same H H' ∧ H' D = some (.dK (c.map kvC)) ∧ H' Z = some (.lst ((keys c).map vI)) ∧
        Bf es bs (sT ts) (eT ts) ow i c ∧ bfs (eT ts) ow m i c = cameTo (eT ts) ow es.length bs,
      ⟨_, 0, _, none, none, none, rfl, Nat.zero_le _, rfl, sm.trans s2, s2 _ _ eD, upd_same, B0, rfl⟩, fun m σ H3 hp => ?_⟩
    obtain ⟨i, c, x6, x7, x8, mi, ic, rfl, s3, e3, z3, Bi, eb⟩ := hp
    have lc := bf_len Bi
    refine ⟨_, rfl, _, rfl, Z, _, rfl, .inl (SqL.of z3), _, _, rfl, rfl, _, rfl, ?_⟩
    have lk : ((keys c).map vI).length = c.length := by rw [List.length_map, keys, List.length_map]
    rw [lk]
    by_cases lt : i < c.length
    · refine iteP (decide_eq_true (by omega)) ?_
      have ci : c[i]? = some c[i] := List.getElem?_eq_getElem lt
      obtain ⟨m, rfl⟩ : ∃ m', m = m' + 1 := ⟨m - 1, by omega⟩
      have eb2 : bfs (eT ts) ow m (i + 1) ((ow c[i].1).foldl (visit (eT ts)) c) = cameTo (eT ts) ow es.length bs := by
        rw [← eb, bfs, ci]
      have B1 := bf_step how' Bi ci
      have hes : c[i].1 ∈ es := Bi.sub _ (List.mem_map.mpr ⟨_, List.getElem_mem lt, rfl⟩)
      have V1 := @visits_ok es bs (sT ts) (eT ts) ow i how' c[i]
      have l1 : i + 1 ≤ ((ow c[i].1).foldl (visit (eT ts)) c).length := (List.getElem?_eq_some_iff.mp (V1 (fun n hn => hn) Bi ci).2.1).1
      refine ⟨fun σ' H' => ∃ (x6 x7 x8 : Option V), σ' = [some (.ref B), some (.ref T), some (.ref O), some (.ref D), some (.ref Z), some (.int ((i + 1 : Nat) : Int)), x6, x7, x8, none] ∧ Same H H' ∧ H' D = some (.dK (((ow c[i].1).foldl (visit (eT ts)) c).map kvC)) ∧ H' Z = some (.lst ((keys ((ow c[i].1).foldl (visit (eT ts)) c)).map vI)), fun σ' H' hN => ?_, ?_⟩
      · obtain ⟨y6, y7, y8, e1, e2, e4, e5⟩ := hN
        exact ⟨m, Nat.lt_succ_self m, i + 1, _, y6, y7, y8, by omega, l1, e1, e2, e4, e5, B1, eb2⟩
      · obtain ⟨ad, dg, had⟩ := en.get2 s3 hes
        have zi : ((keys c).map vI)[i]? = some (.int (c[i].1 : Nat)) := by
          rw [List.getElem?_map, keys, List.getElem?_map, ci]
          rfl
        refine ⟨_, rfl, _, rfl, Z, _, _, _, rfl, rfl, SqL.of z3, atI_nat zi, ?_⟩
        refine ⟨_, rfl, _, rfl, O, .ref ad, rfl, dg, ad, rfl, ⟨_, SqL.of (s3 _ _ had)⟩, ?_⟩
        have mo : ((ow c[i].1).map vI).length = (ow c[i].1).length := List.length_map ..
        refine for_list (K := K) (xs := (ow c[i].1).map vI) (fun j σ H' => ∃ x7 x8, σ = [some (.ref B), some (.ref T), some (.ref O), some (.ref D), some (.ref Z), some (.int (i : Nat)), some (.int (c[i].1 : Nat)), x7, x8, none] ∧ Same H H' ∧ H' D = some (.dK ((((ow c[i].1).take j).foldl (visit (eT ts)) c).map kvC)) ∧ H' Z = some (.lst ((keys (((ow c[i].1).take j).foldl (visit (eT ts)) c)).map vI)))
          ⟨_, _, rfl, s3, e3, z3⟩ (fun j σ H' _ hp => ?_) (fun j x σ H4 hx hp => ?_) (fun σ H4 hp => ?_)
        · obtain ⟨_, _, _, sm4, _⟩ := hp
          exact SqL.of (sm4 _ _ had)
        · obtain ⟨x7, x8, rfl, s4, e4, z4⟩ := hp
          have jl : j < (ow c[i].1).length := by
            have := (List.getElem?_eq_some_iff.mp hx).1
            rw [mo] at this
            exact this
          have ej : (ow c[i].1)[j]? = some (ow c[i].1)[j] := List.getElem?_eq_getElem jl
          rw [List.getElem?_map, ej] at hx
          cases hx
          have hn : (ow c[i].1)[j] ∈ ow c[i].1 := List.getElem_mem jl
          obtain ⟨Vb, Vi, _, _⟩ := V1 (l := (ow c[i].1).take j) (fun n hn => List.mem_of_mem_take hn) Bi ci
          have V2 := (visit_ok how' Vb Vi hn).1
          have tk : ((ow c[i].1).take (j + 1)).foldl (visit (eT ts)) c = visit (eT ts) (((ow c[i].1).take j).foldl (visit (eT ts)) c) (ow c[i].1)[j] := by
            rw [List.take_add_one, ej, Option.toList_some, List.foldl_append]
            rfl
          rw [tk]
          generalize (ow c[i].1)[j] = n at *
          generalize ((ow c[i].1).take j).foldl (visit (eT ts)) c = cj at *
          obtain ⟨nl, _, _⟩ := how _ hes n hn
          obtain ⟨t, l, ut, ht, _⟩ := tu.num nl
          refine ⟨_, rfl, _, rfl, T, _, _, _, rfl, rfl, SqL.of (s4 _ _ hT), atI_nat ut, t, _, 1, _, rfl, rfl, SqT.of (s4 _ _ ht), atI_nat (j := 1) rfl, ?_⟩
          refine ⟨_, rfl, _, rfl, D, _, rfl, (show DGet H4 D (kV (Sum.inl ((eT ts n : Nat) : Int))) _ from DGet.k e4), _, rfl, ?_⟩
          rw [val_kc]
          by_cases d : eT ts n ∈ keys cj
          · rw [show visit (eT ts) cj n = cj from if_pos d, if_pos d]
            exact iteF ⟨_, _, rfl, s4, e4, z4⟩
          · have vn : visit (eT ts) cj n = cj ++ [(eT ts n, some n)] := if_neg d
            rw [vn] at V2
            rw [vn, if_neg d]
            have ln := bf_len V2
            rw [List.length_append, List.length_singleton] at ln
            refine iteT ⟨_, rfl, _, rfl, _, rfl, D, _, rfl, DPut.k (k := .inl ((eT ts n : Nat) : Int)) e4 (by rw [List.length_map]; exact small1000 (by omega)), ?_⟩
            have pk := put_kc (o := some n) d
            have pk' : putK (cj.map kvC) (.inl ((eT ts n : Nat) : Int)) (vI n) = (cj ++ [(eT ts n, some n)]).map kvC := pk
            rw [pk']
            have z5 : upd H4 D (.dK ((cj ++ [(eT ts n, some n)]).map kvC)) Z = some (.lst ((keys cj).map vI)) := by
              rw [upd_ne DZ.symm]
              exact z4
            refine ⟨_, rfl, .inl ⟨rfl, _, SqL.of z5⟩, _, rfl, Z, _, _, rfl, rfl, z5, by rw [List.length_map, keys, List.length_map]; exact small1000 (by omega), ?_⟩
            refine ⟨_, _, rfl, keep_new hZ0 (keep_new hD s4), ?_, ?_⟩
            · rw [upd_ne DZ]
              exact upd_same
            · rw [upd_same, keys_snoc, List.map_append]
              rfl
        · obtain ⟨x7, x8, rfl, s4, e4, z4⟩ := hp
          rw [mo, List.take_length] at e4 z4
          exact ⟨_, rfl, _, _, rfl, rfl, _, _, _, by rw [show ((i + 1 : Nat) : Int) = (i : Int) + 1 from by omega]; rfl, s4, e4, z4⟩
    · refine iteN (decide_eq_false (by omega)) ?_
      have z : c[i]? = none := List.getElem?_eq_none_iff.mpr (by omega)
      rw [bfs_end z] at eb
      exact ⟨_, rfl, q H3 D s3 hD (eb ▸ e3)⟩
end
end W35

namespace W35
open PySem PySem.Spec PyProof.Rows L2 Gs Gp Gr
/-! ### row_back, row_to, first_come_to -/
theorem vO_non {o : Option Nat} : (!decide (vO o = V.non)) = o.isSome := by
  cases o <;> simp [vO]
theorem look_in {c : Cm} (nd : (keys c).Nodup) {x : Nat} (h : x ∈ keys c) : ∃ j : Nat, c[j]? = some (x, look c x) := by
  obtain ⟨j, o, hj⟩ := keys_at h
  exact ⟨j, by rw [look_at nd hj]; exact hj⟩
theorem dget_kc {H : Hp} {C : Addr} {c : Cm} {x : Nat} (h : H C = some (.dK (c.map kvC))) (hx : x ∈ keys c) : DGet H C (.int (x : Nat)) (some (vO (look c x))) := by
  have z : DGet H C (kV (Sum.inl (x : Int))) (valV (c.map kvC) (.inl (x : Int))) := DGet.k h
  rw [val_kc, if_pos hx] at z
  exact z
/-- what was come to, told of ties -/
def CmOk (ts : List Tie) (bs : List Nat) (c : Cm) : Prop := ∃ (es : List Nat) (ow : Nat → List Nat) (i : Nat), Bf es bs (sT ts) (eT ts) ow i c ∧ (∀ x, ∀ n ∈ ow x, n < ts.length) ∧ es.length ≤ 900
theorem CmOk.len {ts : List Tie} {bs : List Nat} {c : Cm} (h : CmOk ts bs c) : c.length ≤ 900 := by
  obtain ⟨es, ow, i, B, _, l⟩ := h
  have := bf_len B
  omega
abbrev NBa : List Str := ["came_by", "ties", "entry", "row", "number"]
theorem scBack : FnScope NBa ["came_by", "ties", "entry"] (defScope sBack) := ⟨rfl, rfl, rfl, by decide +kernel, rfl, by decide +kernel, by decide +kernel⟩
def spBack : Sp := fun vs H Q _ => ∃ (C T : Addr) (c : Cm) (e : Nat) (us : List V) (ts : List Tie) (bs : List Nat), vs = [.ref C, .ref T, .int e] ∧ H C = some (.dK (c.map kvC)) ∧ H T = some (.lst us) ∧ Ties H us ts ∧ CmOk ts bs c ∧ e ∈ keys c ∧
  ∀ H' r, Same H H' → H r = none → H' r = some (.lst ((rowBack (sT ts) c e).map vI)) → Q (.ref r) H'
abbrev NRt : List Str := ["start", "end", "ties", "onward"]
theorem scRowTo : FnScope NRt ["start", "end", "ties", "onward"] (defScope sRowTo) := ⟨rfl, rfl, rfl, by decide +kernel, rfl, by decide +kernel, by decide +kernel⟩
def spRowTo : Sp := fun vs H Q _ => ∃ (a b : Nat) (T O : Addr) (es : List Nat) (us : List V) (ts : List Tie) (ns : List Nat), vs = [.int a, .int b, .ref T, .ref O] ∧ H T = some (.lst us) ∧ Ties H us ts ∧ EndsA H O es (owOf (sT ts) ns) ∧ a ∈ es ∧ (∀ n ∈ ns, n < ts.length ∧ sT ts n ∈ es ∧ eT ts n ∈ es) ∧ R (adjIn (sT ts) (eT ts) ns) a b ∧ es.length ≤ 900 ∧
  ∀ H' r, Same H H' → H r = none → H' r = some (.lst ((rowTo (sT ts) (eT ts) (owOf (sT ts) ns) es.length a b).map vI)) → Q (.ref r) H'
section
variable {P : Program} {w : World} {K : PySem.W.Frag} {mg : Str → Option Value} {base : Heap} {f f1 f2 : Addr} {fd d1 d2 : FuncData} {k : Nat}
theorem ok_back (F : Fun K "row_back" "row_back" sBack f fd) : FnOk P w K mg base CX0 (k + 1) f fd ["came_by", "ties", "entry"] spBack := by
  refine F.ok scBack (fun vs H Q E h => ?_) (fun cdv A outer s H vs Q E hr h => ?_)
  · obtain ⟨C, T, c, e, us, ts, bs, rfl, _⟩ := h
    rfl
  · obtain ⟨C, T, c, e, us, ts, bs, rfl, hC, hT, tu, cok, he, q⟩ := h
    refine ⟨_, pss_cons (ps_set (i := 3) scBack.nd rfl (.inl rfl) (pe_lst pa_nil))
      (pss_cons (ps_set (i := 4) scBack.nd rfl (.inl rfl) (pe_dget (u1 hr) (pv 0) (pv 2) (fun _ _ => rfl)))
      (pss_cons (ps_while PassesOwn.never (pt_cmpR op_notN (pv 4) pe_non (nomark _))
        (pss_cons (ps_expr (pe_bm PySem.F.plainAttrs_list PySem.F.slot_list_append PySem.F.type_list_append mt_append (pv 3) (pa_cons (pv 4) pa_nil)))
        (pss_one (ps_set (i := 4) scBack.nd rfl (.inl rfl) (pe_dget (u1 hr) (pv 0) (pe_ix ix_tup (pe_ix ix_list (pv 1) (pv 4) (fun _ _ => rfl)) pe_int (fun _ _ => rfl)) (fun _ _ => rfl))))))
      (pss_one (ps_ret (pe_revL (pv 3)))))), ?_⟩
    have cl := cok.len
    obtain ⟨es, ow, i, B, ol, _⟩ := cok
    refine ⟨by show 0 ≤ sizeLine; decide, fun R hR => ?_⟩
    have s1 := same_new (o := .lst []) hR
    refine ⟨_, rfl, _, rfl, C, _, rfl, dget_kc (s1 _ _ hC) he, ?_⟩
    obtain ⟨j0, hj0⟩ := look_in B.nd he
    have jl0 := (List.getElem?_eq_some_iff.mp hj0).1
    refine ⟨fun m σ H' => ∃ (j x : Nat) (o : Option Nat) (acc : List Nat), j < m ∧ m ≤ 901 ∧ c[j]? = some (x, o) ∧ acc ++ backR (sT ts) c m o = backR (sT ts) c c.length (look c e) ∧ acc.length + j < c.length ∧ σ = [some (.ref C), some (.ref T), some (.int e), some (.ref R), some (vO o)] ∧ Same H H' ∧ H' R = some (.lst (acc.map vI)),
      ⟨_, j0, e, _, [], jl0, by omega, hj0, rfl, by rw [List.length_nil]; omega, rfl, s1, upd_same⟩, fun m σ H2 hp => ?_⟩
    obtain ⟨j, x, o, acc, jm, ml, hj, ea, al, rfl, s2, e2⟩ := hp
    obtain ⟨m, rfl⟩ : ∃ m', m = m' + 1 := ⟨m - 1, by omega⟩
    refine ⟨_, rfl, rfl, _, rfl, ?_⟩
    rw [vO_non]
    cases o with
    | none =>
      rw [backR, List.append_nil] at ea
      refine iteN rfl ⟨_, rfl, R, _, rfl, SqL.of e2, fun p hp => ?_⟩
      refine q _ p (s2.trans (same_new hp)) (free_same s2 hp) ?_
      rw [upd_same, ← List.map_reverse, rowBack, ea]
    | some n =>
      obtain ⟨h1, h2, k', o', hk, ho⟩ := B.par j x n hj
      have nl := ol _ n h2
      obtain ⟨t, l, ut, ht, _⟩ := tu.num nl
      have lk := look_at B.nd ho
      have hk' : sT ts n ∈ keys c := List.mem_map.mpr ⟨_, List.mem_of_getElem? ho, rfl⟩
      refine iteP rfl ⟨fun σ' H' => σ' = [some (.ref C), some (.ref T), some (.int e), some (.ref R), some (vO o')] ∧ Same H H' ∧ H' R = some (.lst ((acc ++ [n]).map vI)), fun σ' H' hN => ?_, ?_⟩
      · obtain ⟨e3, s3, e4⟩ := hN
        refine ⟨m, Nat.lt_succ_self m, k', sT ts n, o', acc ++ [n], by omega, by omega, ho, ?_, by rw [List.length_append, List.length_singleton]; omega, e3, s3, e4⟩
        rw [backR, lk] at ea
        rw [List.append_assoc]
        exact ea
      · refine ⟨_, rfl, .inl ⟨rfl, _, SqL.of e2⟩, _, rfl, R, _, _, rfl, rfl, e2, by rw [List.length_map]; exact small1000 (by omega), ?_⟩
        have s3 : Same H (upd H2 R (.lst (acc.map vI ++ [.int (n : Nat)]))) := keep_new hR s2
        refine ⟨_, rfl, _, rfl, _, rfl, T, _, _, _, rfl, rfl, SqL.of (s3 _ _ hT), atI_nat ut, t, _, 0, _, rfl, rfl, SqT.of (s3 _ _ ht), atI_nat (j := 0) rfl, C, _, rfl, dget_kc (s3 _ _ hC) hk', ?_⟩
        refine ⟨by rw [lk]; rfl, s3, ?_⟩
        rw [List.map_append]
        exact upd_same
theorem ok_rowTo (F : Fun K "row_to" "row_to" sRowTo f fd) (BA : Cl P w K mg base CX0 k "row_back" ["came_by", "ties", "entry"] spBack f1 d1) (CO : Cl P w K mg base CX0 k "come_to_by" ["begins", "ties", "onward"] spCome f2 d2) : FnOk P w K mg base CX0 (k + 1) f fd ["start", "end", "ties", "onward"] spRowTo := by
  refine F.ok scRowTo (fun vs H Q E h => ?_) (fun cdv A outer s H vs Q E hr h => ?_)
  · obtain ⟨a, b, T, O, es, us, ts, ns, rfl, _⟩ := h
    rfl
  · obtain ⟨a, b, T, O, es, us, ts, ns, rfl, hT, tu, en, ha, hns, r, el, q⟩ := h
    refine ⟨_, pss_one (ps_ret (pe_call BA.ok hr (by rfl) BA.g BA.kp BA.bd .nil pass0 (pa_cons (pe_call CO.ok hr (by rfl) CO.g CO.kp CO.bd .nil pass0 (pa_cons (pe_lst (pa_cons (pv 0) pa_nil)) (pa_cons (pv 2) (pa_cons (pv 3) pa_nil)))) (pa_cons (pv 2) (pa_cons (pv 1) pa_nil))))), ?_⟩
    have nd : [a].Nodup := List.nodup_cons.mpr ⟨List.not_mem_nil, List.nodup_nil⟩
    have sub : ∀ x ∈ [a], x ∈ es := fun x hx => by
      rw [List.mem_singleton.mp hx]
      exact ha
    have hin : ∀ n ∈ ns, sT ts n ∈ es ∧ eT ts n ∈ es := fun n hn => (hns n hn).2
    refine ⟨_, rfl, by show 1 ≤ sizeLine; decide, fun L hL => ?_⟩
    have s1 := same_new (o := .lst [.int (a : Nat)]) hL
    refine ⟨_, rfl, _, rfl, L, T, O, [a], es, us, ts, _, rfl, upd_same, s1 _ _ hT, tu.tk (tk_same s1), en.same s1, nd, sub, fun x _ n hn => ?_, el, fun H2 C s2 hC e2 => ?_⟩
    · obtain ⟨h1, h2⟩ := ow_mem.mp hn
      exact ⟨(hns n h1).1, h2, (hns n h1).2.2⟩
    · have s12 := s1.trans s2
      refine ⟨_, rfl, _, rfl, C, T, _, b, us, ts, [a], rfl, e2, s12 _ _ hT, tu.tk (tk_same s12), ⟨es, _, _, came_ok hin nd sub, fun x n hn => (hns n (ow_mem.mp hn).1).1, el⟩, (came_reach hin nd sub).mpr ⟨a, List.mem_singleton.mpr rfl, r⟩, fun H3 r3 s3 hr3 e3 => ?_⟩
      exact q H3 r3 (s12.trans s3) (free_same s12 hr3) e3
end
end W35

namespace W35
open PySem PySem.Spec PyProof.Rows L2 Gs Gp Gr
/-! ### first_come_to -/
abbrev NFi : List Str := ["came_by", "entries", "some", "entry"]
theorem scFirst : FnScope NFi ["came_by", "entries"] (defScope sFirst) := ⟨rfl, rfl, rfl, by decide +kernel, rfl, by decide +kernel, by decide +kernel⟩
def spFirst : Sp := fun vs H Q _ => ∃ (C L : Addr) (c : Cm) (l : List Nat), vs = [.ref C, .ref L] ∧ H C = some (.dK (c.map kvC)) ∧ H L = some (.lst (l.map vI)) ∧ (∃ x ∈ l, x ∈ keys c) ∧ l.length ≤ 900 ∧ c.length ≤ 900 ∧
  ∀ H', Same H H' → Q (.int (firstIn c l : Nat)) H'
section
variable {P : Program} {w : World} {K : PySem.W.Frag} {mg : Str → Option Value} {base : Heap} {f f1 f2 : Addr} {fd d1 d2 : FuncData} {k : Nat}
theorem ok_first (F : Fun K "first_come_to" "first_come_to" sFirst f fd) (ms : mg "set" = none) : FnOk P w K mg base CX0 (k + 1) f fd ["came_by", "entries"] spFirst := by
  refine F.ok scFirst (fun vs H Q E h => ?_) (fun cdv A outer s H vs Q E hr h => ?_)
  · obtain ⟨C, L, c, l, rfl, _⟩ := h
    rfl
  · obtain ⟨C, L, c, l, rfl, hC, hL, ex, ll, cl, q⟩ := h
    refine ⟨_, pss_cons (ps_set (i := 2) scFirst.nd rfl (.inr rfl) (pe_callTy (cr_setI (P := P) (w := w) rfl rfl rfl) (by rfl) ms (by decide +kernel) (pa_cons (pv 1) pa_nil)))
      (pss_one (ps_ret (pe_ix ix_list (pe_lock (pe_lc (own := [("entry", 3)]) (g := gName 3) rfl scFirst.nd (pi_keys (pv 0)) (blkOk_by (own := [("entry", 3)]) (N := NFi) (sc := defScope sFirst) (by decide +kernel))
        (fun _ _ _ _ _ => pg_name (i := 3) scFirst.nd rfl (Or.inl rfl))
        (fun _ _ _ _ _ => pts_one (pt_cmpR (or_inI (P := P) (w := w) rfl rfl) (pv 3) (pv 2) (by rfl)))
        (fun _ _ _ _ _ => pv 3))) pe_int (fun _ _ => rfl)))), ?_⟩
    refine ⟨_, rfl, L, l.map ci, rfl, by rw [← vI_map]; exact SqL.of hL, by rw [List.length_map]; omega, fun S hS => ?_⟩
    have sS := same_new (o := SetI P w S fun k => decide (k ∈ l.map ci)) hS
    have eS : upd H S (SetI P w S fun k => decide (k ∈ l.map ci)) S = some (SetI P w S fun k => decide (k ∈ l.map ci)) := upd_same
    have SC : S ≠ C := fun e => by
      rw [e, hC] at hS
      cases hS
    have hC1 := sS _ _ hC
    generalize upd H S (SetI P w S fun k => decide (k ∈ l.map ci)) = H1 at *
    refine ⟨C, _, hC1, True.intro, fun od => ?_⟩
    have eC2 : upd H1 C (.frz od (.dK (c.map kvC))) C = some (.frz od (.dK (c.map kvC))) := upd_same
    have eS2 : upd H1 C (.frz od (.dK (c.map kvC))) S = some (SetI P w S fun k => decide (k ∈ l.map ci)) := by
      rw [upd_ne SC]
      exact eS
    have oth : ∀ b o, b ≠ C → H1 b = some o → upd H1 C (.frz od (.dK (c.map kvC))) b = some o := fun b o hb h => by
      rw [upd_ne hb]
      exact h
    generalize upd H1 C (.frz od (.dK (c.map kvC))) = H2 at *
    refine ⟨_, rfl, C, od, rfl, .inl ⟨_, eC2, fun D hD => ?_⟩⟩
    have mk : (c.map kvC).length = c.length := List.length_map ..
    have lkk : (keys c).length = c.length := by rw [keys, List.length_map]
    refine walkC (J := Itk C od (c.map kvC)) (n := c.length) (fun i H' => H' D = some (.lst ((((keys c).take i).filter fun x => decide (x ∈ l)).map vI)) ∧ Same H2 H')
      ⟨by rw [List.take_zero]; exact upd_same, same_new hD⟩ (fun i H' hi hp => ?_) (fun H' hp => ?_) (fun i x H3 H3' hi hp hy => ?_) (fun H3 hp => ?_)
    · exact ⟨hp.2 _ _ eC2, by rw [mk]; exact hi⟩
    · exact ⟨hp.2 _ _ eC2, by rw [mk]; exact Nat.le_refl _⟩
    · obtain ⟨e3, s3⟩ := hp
      obtain ⟨rfl, ky, v, hk, rfl⟩ := hy
      have ei : (keys c)[i]? = some c[i].1 := by
        rw [keys, List.getElem?_map, List.getElem?_eq_getElem hi]
        rfl
      rw [List.getElem?_map, List.getElem?_eq_getElem hi] at hk
      have hk' : kvC c[i] = (ky, v) := Option.some.inj hk
      have eky : ky = .inl ((c[i].1 : Nat) : Int) := (congrArg Prod.fst hk').symm
      subst eky
      refine ⟨rfl, ?_⟩
      refine ⟨_, rfl, _, rfl, _, S, _, rfl, rfl, s3 _ _ eS2, _, rfl, ?_⟩
      have d1 : decide (((c[i].1 : Nat) : Int) ∈ l.map ci) = decide (c[i].1 ∈ l) := decide_eq_decide.mpr mem_int
      rw [d1, take_filter ei]
      by_cases d : c[i].1 ∈ l
      · rw [if_pos (decide_eq_true d)]
        refine iteP (decide_eq_true d) ⟨_, rfl, _, e3, ?_, ?_, keep_new hD s3⟩
        · rw [List.length_map]
          have := List.length_filter_le (fun x => decide (x ∈ l)) ((keys c).take i)
          rw [List.length_take] at this
          exact small1000 (by omega)
        · rw [upd_same, List.map_append]
          rfl
      · rw [if_neg (by rw [decide_eq_false d]; decide), List.append_nil]
        exact iteN (decide_eq_false d) ⟨e3, s3⟩
    · obtain ⟨e3, s3⟩ := hp
      have tl : (keys c).take c.length = keys c := List.take_of_length_le (by omega)
      rw [tl] at e3
      refine ⟨s3 _ _ eC2, ?_⟩
      have DC : D ≠ C := fun e => by
        rw [e, eC2] at hD
        cases hD
      have e4 : upd H3 C (.dK (c.map kvC)) D = some (.lst (((keys c).filter fun x => decide (x ∈ l)).map vI)) := by
        rw [upd_ne DC]
        exact e3
      have ne : ((keys c).filter fun x => decide (x ∈ l)) ≠ [] := fun e => by
        obtain ⟨x, h1, h2⟩ := ex
        have : x ∈ (keys c).filter fun x => decide (x ∈ l) := List.mem_filter.mpr ⟨h2, decide_eq_true h1⟩
        rw [e] at this
        exact absurd this List.not_mem_nil
      have hd : (((keys c).filter fun x => decide (x ∈ l)).map vI)[0]? = some (.int (firstIn c l : Nat)) := by
        unfold firstIn
        cases z : (keys c).filter fun x => decide (x ∈ l) with
        | nil => exact absurd z ne
        | cons a r => rfl
      refine ⟨D, _, 0, _, rfl, rfl, SqL.of e4, atI_nat (j := 0) hd, ?_⟩
      refine q _ fun b o h => ?_
      by_cases z : b = C
      · rw [z, upd_same, ← h, z, hC]
      · rw [upd_ne z]
        exact s3 _ _ (oth b o z (sS _ _ h))
end
end W35

namespace Gr
theorem find_range {p : Nat → Bool} {i : Nat} (h0 : ∀ l < i, p l = false) (h1 : p i = true) : ∀ {m : Nat}, i < m → (List.range m).find? p = some i
  | 0, h => absurd h (Nat.not_lt_zero _)
  | m + 1, h => by
    rw [List.range_succ, List.find?_append]
    by_cases c : i < m
    · rw [find_range h0 h1 c]
      rfl
    · have e : i = m := by omega
      subst e
      have z : (List.range i).find? p = none := List.find?_eq_none.mpr fun x hx => by
        rw [h0 x (List.mem_range.mp hx)]
        decide
      rw [z]
      simp [h1]
end Gr
namespace W35
open PySem PySem.Spec PyProof.Rows L2 Gs Gp Gr
/-! ### first_lacking -/
theorem put_ks_old {ks : List Nat} {x : Nat} (h : x ∈ ks) : putK (ks.map kvT) (.inl (x : Int)) (.bl true) = ks.map kvT := by
  unfold putK
  rw [if_pos (List.any_eq_true.mpr ⟨kvT x, List.mem_map.mpr ⟨x, h, rfl⟩, by simp [kvT]⟩), List.map_map]
  apply List.map_congr_left
  intro y _
  show (if (kvT y).1 = _ then _ else _) = kvT y
  split
  · rfl
  · rfl
abbrev NLa : List Str := ["ties", "inner", "many", "had", "lot", "number"]
theorem scLack : FnScope NLa ["ties", "inner", "many"] (defScope sLack) := ⟨rfl, rfl, rfl, by decide +kernel, rfl, by decide +kernel, by decide +kernel⟩
def spLack : Sp := fun vs H Q _ => ∃ (T N : Addr) (m : Nat) (ns : List Nat) (us : List V) (ts : List Tie), vs = [.ref T, .ref N, .int m] ∧ H T = some (.lst us) ∧ Ties H us ts ∧ H N = some (.lst (ns.map vI)) ∧ (∀ n ∈ ns, n < ts.length) ∧ (∀ n, ∀ x ∈ lT ts n, x < 900) ∧ m ≤ 900 ∧
  ∀ H', Same H H' → Q (vO (lackOf (lT ts) ns m)) H'
section
variable {P : Program} {w : World} {K : PySem.W.Frag} {mg : Str → Option Value} {base : Heap} {f f1 f2 : Addr} {fd d1 d2 : FuncData} {k : Nat}
theorem ok_lack (F : Fun K "first_lacking" "first_lacking" sLack f fd) (mr : mg "range" = none) : FnOk P w K mg base CX0 (k + 1) f fd ["ties", "inner", "many"] spLack := by
  refine F.ok scLack (fun vs H Q E h => ?_) (fun cdv A outer s H vs Q E hr h => ?_)
  · obtain ⟨T, N, m, ns, us, ts, rfl, _⟩ := h
    rfl
  · obtain ⟨T, N, m, ns, us, ts, rfl, hT, tu, hN, ok, small, ml, q⟩ := h
    refine ⟨_, pss_cons (ps_setDc2 (i := 3) (own := [("number", 5), ("lot", 4)]) (us := [4]) (g := gName 5) (gj := gName 4) (tt := tYes) (tjt := tYes) rfl scLack.nd rfl rfl (sw_dict rfl rfl rfl rfl) (pi_list (pv 1)) (blkOk_by (own := [("number", 5), ("lot", 4)]) (N := NLa) (sc := defScope sLack) (by decide +kernel)) (by decide)
        (fun _ _ _ _ _ => pg_name (i := 5) scLack.nd rfl (Or.inl rfl)) (fun _ _ _ _ _ => pts_nil)
        (fun _ _ _ _ _ => pi_tupK (K := K) rfl (pe_ix (ix_tupK (K := K) rfl) (pe_ix (ix_listK (K := K) rfl) (pv 0) (pv 5) (fun _ _ => rfl)) pe_int (fun _ _ => rfl)))
        (fun _ _ _ _ _ => pg_name (i := 4) scLack.nd rfl (Or.inl rfl)) (fun _ _ _ _ _ => pts_nil) (fun _ _ _ _ _ => pv 4) (fun _ _ _ _ _ => pe_bl))
      (pss_cons (ps_for PassesOwn.never rfl (pi_range1 (by rfl) mr (pa_cons (pv 2) pa_nil)) (pg_name (i := 4) scLack.nd rfl (Or.inl rfl))
        (pss_one (ps_if (pt_cmp (pc_dnotin (u1 hr) (pv 4) (pv 3)) (by rfl)) (pss_one (ps_ret (pv 4))) pss_nil)))
      (pss_one (ps_ret pe_non))), ?_⟩
    refine ⟨_, rfl, N, rfl, ⟨_, SqL.of hN⟩, fun D hD => ?_⟩
    have mn : (ns.map vI).length = ns.length := List.length_map ..
    have bound : ∀ {ks : List Nat}, ks.Nodup → (∀ x ∈ ks, ∃ n, x ∈ lT ts n) → ks.length ≤ 900 := fun {ks} nd h => by
      have := pigl (es := List.range 900) nd fun x hx => by
        obtain ⟨n, hn⟩ := h x hx
        exact List.mem_range.mpr (small n x hn)
      rw [List.length_range] at this
      exact this
    refine goes (J := Itl K N) (n := ns.length) (fun i H' => Same H H' ∧ ∃ ks : List Nat, H' D = some (.dK (ks.map kvT)) ∧ ks.Nodup ∧ ∀ x, x ∈ ks ↔ ∃ n ∈ ns.take i, x ∈ lT ts n)
      ⟨same_new hD, [], upd_same, List.nodup_nil, fun x => ⟨fun z => absurd z List.not_mem_nil, fun ⟨n, hn, _⟩ => absurd hn (by rw [List.take_zero]; exact List.not_mem_nil)⟩⟩ (fun i H' hi hp => ?_) (fun H' hp => ?_) (fun i x H1 H1' hi hp hy => ?_) (fun H1 hp => ?_)
    · exact ⟨_, _, SqL.of (hp.1 _ _ hN), List.getElem?_eq_getElem (by rw [mn]; exact hi)⟩
    · exact ⟨_, SqL.of (hp.1 _ _ hN), by rw [mn]; exact Nat.le_refl _⟩
    · obtain ⟨s1, ks, e1, nd, hk⟩ := hp
      obtain ⟨rfl, hy⟩ := hy
      have hx := hy _ (SqL.of (s1 _ _ hN))
      have ei : ns[i]? = some ns[i] := List.getElem?_eq_getElem hi
      rw [List.getElem?_map, ei] at hx
      cases hx
      have nl := ok _ (List.getElem_mem hi)
      obtain ⟨t, l, ut, ht, hl⟩ := tu.num nl
      have tki : ∀ x, (∃ n ∈ ns.take (i + 1), x ∈ lT ts n) ↔ (∃ n ∈ ns.take i, x ∈ lT ts n) ∨ x ∈ lT ts ns[i] := fun x => by
        rw [List.take_add_one, ei, Option.toList_some]
        constructor
        · rintro ⟨n, hn, h⟩
          rcases List.mem_append.mp hn with hn | hn
          · exact .inl ⟨n, hn, h⟩
          · rw [List.mem_singleton.mp hn] at h
            exact .inr h
        · rintro (⟨n, hn, h⟩ | h)
          · exact ⟨n, List.mem_append_left _ hn, h⟩
          · exact ⟨_, List.mem_append_right _ (List.mem_singleton.mpr rfl), h⟩
      generalize ns[i] = n at *
      refine ⟨rfl, ?_⟩
      refine ⟨_, rfl, _, rfl, T, _, _, _, rfl, rfl, SqL.of (s1 _ _ hT), atI_nat ut, t, _, 2, _, rfl, rfl, SqT.of (s1 _ _ ht), atI_nat (j := 2) rfl, l, rfl, ⟨_, SqT.of (s1 _ _ hl)⟩, ?_⟩
      have mll : ((lT ts n).map vI).length = (lT ts n).length := List.length_map ..
      refine goes (J := Itt K l) (n := (lT ts n).length) (fun j H' => Same H H' ∧ ∃ ks : List Nat, H' D = some (.dK (ks.map kvT)) ∧ ks.Nodup ∧ ∀ x, x ∈ ks ↔ (∃ n ∈ ns.take i, x ∈ lT ts n) ∨ x ∈ (lT ts n).take j)
        ⟨s1, ks, e1, nd, fun x => by rw [hk, List.take_zero]; simp⟩ (fun j H' hj hp => ?_) (fun H' hp => ?_) (fun j x H2 H2' hj hp hy => ?_) (fun H2 hp => ?_)
      · exact ⟨_, _, SqT.of (hp.1 _ _ hl), List.getElem?_eq_getElem (by rw [mll]; exact hj)⟩
      · exact ⟨_, SqT.of (hp.1 _ _ hl), by rw [mll]; exact Nat.le_refl _⟩
      · obtain ⟨s2, ks2, e2, nd2, hk2⟩ := hp
        obtain ⟨rfl, hy⟩ := hy
        have hx := hy _ (SqT.of (s2 _ _ hl))
        have ej : (lT ts n)[j]? = some (lT ts n)[j] := List.getElem?_eq_getElem hj
        rw [List.getElem?_map, ej] at hx
        cases hx
        have inl : (lT ts n)[j] ∈ lT ts n := List.getElem_mem hj
        have tkj : ∀ x, x ∈ (lT ts n).take (j + 1) ↔ x ∈ (lT ts n).take j ∨ x = (lT ts n)[j] := fun x => by
          rw [List.take_add_one, ej, Option.toList_some, List.mem_append, List.mem_singleton]
        generalize (lT ts n)[j] = y at *
        have lk2 := bound nd2 fun x hx => by
          rcases (hk2 x).mp hx with ⟨n, _, h⟩ | h
          · exact ⟨n, h⟩
          · exact ⟨n, List.mem_of_mem_take h⟩
        refine ⟨rfl, ?_⟩
        refine ⟨_, rfl, _, .inl ((y : Nat) : Int), rfl, e2, by rw [List.length_map]; exact small1000 (by omega), keep_new hD s2, ?_⟩
        by_cases d : y ∈ ks2
        · rw [put_ks_old d]
          exact ⟨ks2, upd_same, nd2, fun x => by
            rw [hk2, tkj, ← or_assoc]
            exact ⟨.inl, fun z => z.elim id fun e => (hk2 x).mp (e ▸ d)⟩⟩
        · rw [put_ks d]
          refine ⟨ks2 ++ [y], upd_same, ?_, fun x => ?_⟩
          · rw [List.nodup_append]
            refine ⟨nd2, List.nodup_cons.mpr ⟨List.not_mem_nil, List.nodup_nil⟩, fun a ha b hb e => ?_⟩
            rw [List.mem_singleton.mp hb] at e
            exact d (e ▸ ha)
          · rw [List.mem_append, List.mem_singleton, hk2, tkj, or_assoc]
      · obtain ⟨s2, ks2, e2, nd2, hk2⟩ := hp
        rw [List.take_length] at hk2
        exact ⟨s2, ks2, e2, nd2, fun x => by rw [hk2, tki]⟩
    · obtain ⟨s1, ks, e1, nd, hk⟩ := hp
      rw [List.take_length] at hk
      have hd : ∀ lot, (!(ns.any (hasLot (lT ts) lot))) = !(decide (lot ∈ ks)) := fun lot => by
        congr 1
        rw [Bool.eq_iff_iff, List.any_eq_true, decide_eq_true_iff, hk]
        constructor
        · rintro ⟨n, hn, h⟩
          exact ⟨n, hn, of_decide_eq_true h⟩
        · rintro ⟨n, hn, h⟩
          exact ⟨n, hn, decide_eq_true h⟩
      refine ⟨_, rfl, (m : Int), rfl, by omega, by omega, ?_⟩
      rw [Int.toNat_natCast]
      refine for_range (n := m) (fun i σ H' => Same H H' ∧ (∃ x4, σ = [some (.ref T), some (.ref N), some (.int m), some (.ref D), x4, none]) ∧ H' D = some (.dK (ks.map kvT)) ∧ ∀ l < i, l ∈ ks)
        ⟨s1, ⟨_, rfl⟩, e1, fun l h => absurd h (Nat.not_lt_zero _)⟩ (fun i σ H2 hi hp => ?_) (fun σ H2 hp => ?_)
      · obtain ⟨s2, ⟨x4, rfl⟩, e2, all⟩ := hp
        refine ⟨_, rfl, _, rfl, D, _, rfl, (show DGet H2 D (kV (Sum.inl (0 + (i : Int)))) _ from DGet.k e2), _, rfl, ?_⟩
        rw [Int.zero_add, val_ks]
        by_cases d : i ∈ ks
        · rw [if_pos d]
          exact iteF ⟨s2, ⟨_, rfl⟩, e2, fun l h => by
            by_cases e : l = i
            · rw [e]
              exact d
            · exact all l (by omega)⟩
        · rw [if_neg d]
          refine iteT ⟨_, rfl, ?_⟩
          have e : lackOf (lT ts) ns m = some i := find_range (fun l h => by rw [hd, decide_eq_true (all l h)]; rfl) (by rw [hd, decide_eq_false d]; rfl) hi
          have z := q H2 s2
          rw [e] at z
          exact z
      · obtain ⟨s2, _, _, all⟩ := hp
        have e : lackOf (lT ts) ns m = none := List.find?_eq_none.mpr fun l hl => by
          rw [hd, decide_eq_true (all l (List.mem_range.mp hl))]
          decide
        have z := q H2 s2
        rw [e] at z
        exact z
end
end W35

namespace W35
open PySem PySem.Spec PyProof.Rows L2 Gs Gp Gr
/-! ### homes: entries and the numbers of their parts -/
def kvN (p : Nat × Nat) : Key × V := (.inl (p.1 : Int), .int (p.2 : Nat))
theorem val_kn : ∀ {hs : List (Nat × Nat)}, (hs.map (·.1)).Nodup → ∀ {x a : Nat}, (x, a) ∈ hs → valV (hs.map kvN) (.inl (x : Int)) = some (.int (a : Nat))
  | [], _, x, a, h => absurd h List.not_mem_nil
  | (y, b) :: hs, nd, x, a, h => by
    rw [List.map_cons, List.nodup_cons] at nd
    unfold valV
    rcases List.mem_cons.mp h with e | h
    · cases e
      rw [List.map_cons, List.find?_cons_of_pos (by simp [kvN])]
      rfl
    · have ne : y ≠ x := fun e => nd.1 (List.mem_map.mpr ⟨(x, a), h, e.symm⟩)
      have ih := val_kn nd.2 h
      unfold valV at ih
      rw [List.map_cons, List.find?_cons_of_neg (by simp [kvN]; omega)]
      exact ih
theorem val_kn0 {hs : List (Nat × Nat)} {x : Nat} (h : ∀ a, (x, a) ∉ hs) : valV (hs.map kvN) (.inl (x : Int)) = none := by
  unfold valV
  rw [List.find?_eq_none.mpr]
  · rfl
  · intro kv hkv z
    obtain ⟨p, hp, rfl⟩ := List.mem_map.mp hkv
    have : (p.1 : Int) = (x : Int) := Sum.inl.inj (of_decide_eq_true z)
    have : p.1 = x := by omega
    exact h p.2 (this ▸ hp)
theorem put_kn {hs : List (Nat × Nat)} {x a : Nat} (h : x ∉ hs.map (·.1)) : putK (hs.map kvN) (.inl (x : Int)) (.int (a : Nat)) = (hs ++ [(x, a)]).map kvN := by
  rw [put_new, List.map_append]
  · rfl
  · intro kv hkv e
    obtain ⟨p, hp, rfl⟩ := List.mem_map.mp hkv
    have : (p.1 : Int) = (x : Int) := Sum.inl.inj e
    have : p.1 = x := by omega
    exact h (List.mem_map.mpr ⟨p, hp, this⟩)
/-- which part an entry stands in -/
def HomeOf (ps : List (List Nat)) (hs : List (Nat × Nat)) : Prop := (hs.map (·.1)).Nodup ∧ ∀ x a, (x, a) ∈ hs ↔ ∃ p, ps[a]? = some p ∧ x ∈ p
def Apart (ps : List (List Nat)) : Prop := (∀ (i j : Nat) p q x, ps[i]? = some p → ps[j]? = some q → x ∈ p → x ∈ q → i = j) ∧ (∀ p ∈ ps, p.Nodup) ∧ ∀ p ∈ ps, ∀ x ∈ p, x < 900
def inPart (ts : List Tie) (p : List Nat) (n : Nat) : Bool := decide (sT ts n ∈ p) && decide (eT ts n ∈ p)
theorem lss_of {H : Hp} {g : List Nat → List Nat} : ∀ {rs : List Addr} {ps : List (List Nat)}, rs.length = ps.length → (∀ (a : Nat) (r : Addr) (p : List Nat), rs[a]? = some r → ps[a]? = some p → H r = some (.lst ((g p).map vI))) → Lss H (rs.map V.ref) (ps.map g)
  | [], [], _, _ => .nil
  | r :: rs, p :: ps, l, h => .cons (h 0 r p rfl rfl) (lss_of (Nat.succ.inj l) fun a r' p' h1 h2 => h (a + 1) r' p' h1 h2)
abbrev NIn : List Str := ["ties", "numbers", "parts", "homes", "inner", "number", "home", "entry", "at", "part"]
theorem scInner : FnScope NIn ["ties", "numbers", "parts"] (defScope sInner) := ⟨rfl, rfl, rfl, by decide +kernel, rfl, by decide +kernel, by decide +kernel⟩
def spInner : Sp := fun vs H Q _ => ∃ (T N Z : Addr) (ns : List Nat) (us zs : List V) (ts : List Tie) (ps : List (List Nat)), vs = [.ref T, .ref N, .ref Z] ∧ H T = some (.lst us) ∧ Ties H us ts ∧ H N = some (.lst (ns.map vI)) ∧ (∀ n ∈ ns, n < ts.length) ∧ H Z = some (.lst zs) ∧ Lss H zs ps ∧ Apart ps ∧ ps.length ≤ 900 ∧ ns.length ≤ 900 ∧
  ∀ H' r ws, Same H H' → H r = none → H' r = some (.lst ws) → (∀ b, V.ref b ∈ ws → H b = none) → Lss H' ws (ps.map fun p => ns.filter (inPart ts p)) → Q (.ref r) H'
section
variable {P : Program} {w : World} {K : PySem.W.Frag} {mg : Str → Option Value} {base : Heap} {f f1 f2 : Addr} {fd d1 d2 : FuncData} {k : Nat}
theorem ok_inner (F : Fun K "inner_numbers" "inner_numbers" sInner f fd) (me : mg "enumerate" = none) : FnOk P w K mg base CX0 (k + 1) f fd ["ties", "numbers", "parts"] spInner := by
  refine F.ok scInner (fun vs H Q E h => ?_) (fun cdv A outer s H vs Q E hr h => ?_)
  · obtain ⟨T, N, Z, ns, us, zs, ts, ps, rfl, _⟩ := h
    rfl
  · obtain ⟨T, N, Z, ns, us, zs, ts, ps, rfl, hT, tu, hN, ok, hZ, lz, ap, pl, nl, q⟩ := h
    refine ⟨_, pss_cons (ps_setDc2 (i := 3) (own := [("at", 8), ("part", 9), ("entry", 7)]) (us := [7]) (g := gTup K 2 (gCons (gName 8) (gCons (gName 9) gNil))) (gj := gName 7) (tt := tYes) (tjt := tYes) rfl scInner.nd rfl rfl (sw_dict rfl rfl rfl rfl) (pi_enum (by rfl) me (pa_cons (pv 2) pa_nil)) (blkOk_by (own := [("at", 8), ("part", 9), ("entry", 7)]) (N := NIn) (sc := defScope sInner) (by decide +kernel)) (by decide)
        (fun _ _ _ _ _ => pg_tup (by rfl) (pgs_cons (pg_name (i := 8) scInner.nd rfl (.inl rfl)) (pgs_cons (pg_name (i := 9) scInner.nd rfl (.inl rfl)) pgs_nil))) (fun _ _ _ _ _ => pts_nil)
        (fun _ _ _ _ _ => pi_listK (K := K) rfl (pv 9))
        (fun _ _ _ _ _ => pg_name (i := 7) scInner.nd rfl (Or.inl rfl)) (fun _ _ _ _ _ => pts_nil) (fun _ _ _ _ _ => pv 7) (fun _ _ _ _ _ => pv 8))
      (pss_cons (ps_setLc (i := 4) (own := [("part", 9)]) (g := gName 9) (tt := tYes) rfl scInner.nd rfl rfl (sw_true rfl rfl rfl rfl) (pi_list (pv 2)) (blkOk_by (own := [("part", 9)]) (N := NIn) (sc := defScope sInner) (by decide +kernel))
        (fun _ _ _ _ _ => pg_name (i := 9) scInner.nd rfl (Or.inl rfl)) (fun _ _ _ _ _ => pts_nil) (fun _ _ _ _ _ => pe_lst pa_nil))
      (pss_cons (ps_for PassesOwn.never rfl (pi_list (pv 1)) (pg_name (i := 5) scInner.nd rfl (Or.inl rfl))
        (pss_cons (ps_set (i := 6) scInner.nd rfl (.inl rfl) (pe_dget1 (u1 hr) (pv 3) (pe_ix ix_tup (pe_ix ix_list (pv 0) (pv 5) (fun _ _ => rfl)) pe_int (fun _ _ => rfl)) ⟨rfl, rfl, rfl, rfl⟩))
        (pss_one (ps_if (PW.pt (pw_and (pt_cmpR op_notN (pv 6) pe_non (nomark _)) (pw_and1 (pt_cmpR op_eq (pv 6) (pe_dget1 (u1 hr) (pv 3) (pe_ix ix_tup (pe_ix ix_list (pv 0) (pv 5) (fun _ _ => rfl)) pe_int (fun _ _ => rfl)) ⟨rfl, rfl, rfl, rfl⟩) (nomark _)))))
          (pss_one (ps_expr (pe_bm PySem.F.plainAttrs_list PySem.F.slot_list_append PySem.F.type_list_append mt_append (pe_ix ix_list (pv 4) (pv 6) (fun _ _ => rfl)) (pa_cons (pv 5) pa_nil)))) pss_nil))))
      (pss_one (ps_ret (pv 4))))), ?_⟩
    obtain ⟨dis, pnd, plt⟩ := ap
    have zl := lz.len
    -- homes
    refine ⟨_, rfl, Z, _, rfl, SqL.of hZ, fun D hD => ?_⟩
    have bound : ∀ {hs : List (Nat × Nat)}, (hs.map (·.1)).Nodup → (∀ x a, (x, a) ∈ hs → ∃ p ∈ ps, x ∈ p) → hs.length ≤ 900 := fun {hs} nd h => by
      have := pigl (es := List.range 900) nd fun x hx => by
        obtain ⟨p, hp, rfl⟩ := List.mem_map.mp hx
        obtain ⟨pp, h1, h2⟩ := h p.1 p.2 hp
        exact List.mem_range.mpr (plt pp h1 p.1 h2)
      rw [List.length_range, List.length_map] at this
      exact this
    refine goes (J := Ite K Z) (n := ps.length) (fun i H' => Same H H' ∧ ∃ hs : List (Nat × Nat), H' D = some (.dK (hs.map kvN)) ∧ (hs.map (·.1)).Nodup ∧ ∀ x a, (x, a) ∈ hs ↔ a < i ∧ ∃ p, ps[a]? = some p ∧ x ∈ p)
      ⟨same_new hD, [], upd_same, List.nodup_nil, fun x a => ⟨fun z => absurd z List.not_mem_nil, fun z => absurd z.1 (Nat.not_lt_zero _)⟩⟩ (fun i H' hi hp => ?_) (fun H' hp => ?_) (fun i x H1 H1' hi hp hy => ?_) (fun H1 hp => ?_)
    · exact ⟨_, _, SqL.of (hp.1 _ _ hZ), List.getElem?_eq_getElem (by rw [zl]; exact hi)⟩
    · exact ⟨_, SqL.of (hp.1 _ _ hZ), by rw [zl]; exact Nat.le_refl _⟩
    · obtain ⟨s1, hs, e1, nd, hk⟩ := hp
      obtain ⟨t, v, rfl, ht, rfl, hy⟩ := hy
      obtain ⟨a, p, rfl, ep, ha⟩ := lz.at (hy _ (SqL.of (s1 _ _ hZ)))
      have s2 := s1.trans (same_new (o := .tup [.int (i : Nat), .ref a]) ht)
      have e2 := same_new (o := .tup [.int (i : Nat), .ref a]) ht _ _ e1
      have et : upd H1 t (.tup [.int (i : Nat), .ref a]) t = some (.tup [.int (i : Nat), .ref a]) := upd_same
      generalize upd H1 t (.tup [.int (i : Nat), .ref a]) = H2 at *
      refine ⟨t, _, rfl, SqT.of et, rfl, _, _, rfl, _, _, rfl, rfl, rfl, ?_⟩
      refine ⟨_, rfl, a, rfl, ⟨_, SqL.of (s2 _ _ ha)⟩, ?_⟩
      have mp : (p.map vI).length = p.length := List.length_map ..
      have pm : p ∈ ps := List.mem_of_getElem? ep
      refine goes (J := Itl K a) (n := p.length) (fun j H' => Same H H' ∧ ∃ hs : List (Nat × Nat), H' D = some (.dK (hs.map kvN)) ∧ (hs.map (·.1)).Nodup ∧ ∀ x b, (x, b) ∈ hs ↔ (b < i ∧ ∃ p, ps[b]? = some p ∧ x ∈ p) ∨ (b = i ∧ x ∈ p.take j))
        ⟨s2, hs, e2, nd, fun x b => by rw [hk, List.take_zero]; simp⟩ (fun j H' hj hp => ?_) (fun H' hp => ?_) (fun j x H3 H3' hj hp hy => ?_) (fun H3 hp => ?_)
      · exact ⟨_, _, SqL.of (hp.1 _ _ ha), List.getElem?_eq_getElem (by rw [mp]; exact hj)⟩
      · exact ⟨_, SqL.of (hp.1 _ _ ha), by rw [mp]; exact Nat.le_refl _⟩
      · obtain ⟨s3, hs3, e3, nd3, hk3⟩ := hp
        obtain ⟨rfl, hy⟩ := hy
        have hx := hy _ (SqL.of (s3 _ _ ha))
        have ej : p[j]? = some p[j] := List.getElem?_eq_getElem hj
        rw [List.getElem?_map, ej] at hx
        cases hx
        have new : p[j] ∉ hs3.map (·.1) := fun z => by
          obtain ⟨q', hq, e⟩ := List.mem_map.mp z
          obtain ⟨x', b⟩ := q'
          have e : x' = p[j] := e
          subst e
          rcases (hk3 _ b).mp hq with ⟨h1, p', h2, h3⟩ | ⟨_, h⟩
          · have := dis b i p' p _ h2 ep h3 (List.getElem_mem hj)
            omega
          · have nd' : (p.take (j + 1)).Nodup := (pnd p pm).sublist (List.take_sublist _ _)
            rw [List.take_add_one, ej, Option.toList_some, List.nodup_append] at nd'
            exact nd'.2.2 _ h _ (List.mem_singleton.mpr rfl) rfl
        have tkj : ∀ x, x ∈ p.take (j + 1) ↔ x ∈ p.take j ∨ x = p[j] := fun x => by
          rw [List.take_add_one, ej, Option.toList_some, List.mem_append, List.mem_singleton]
        have l3 := bound nd3 fun x b h => by
          rcases (hk3 x b).mp h with ⟨_, p', h2, h3⟩ | ⟨_, h⟩
          · exact ⟨p', List.mem_of_getElem? h2, h3⟩
          · exact ⟨p, pm, List.mem_of_mem_take h⟩
        refine ⟨rfl, ?_⟩
        refine ⟨_, rfl, _, rfl, _, .inl ((p[j] : Nat) : Int), rfl, e3, by rw [List.length_map]; exact small1000 (by omega), keep_new hD s3, ?_⟩
        rw [put_kn new]
        refine ⟨hs3 ++ [(p[j], i)], upd_same, ?_, fun x b => ?_⟩
        · rw [List.map_append, List.nodup_append]
          refine ⟨nd3, List.nodup_cons.mpr ⟨List.not_mem_nil, List.nodup_nil⟩, fun c hc d hd e => ?_⟩
          rw [List.mem_singleton.mp hd] at e
          exact new ((show c = p[j] from e) ▸ hc)
        · rw [List.mem_append, List.mem_singleton, hk3, tkj, Prod.mk.injEq]
          constructor
          · rintro ((h | ⟨h1, h2⟩) | ⟨h1, h2⟩)
            · exact .inl h
            · exact .inr ⟨h1, .inl h2⟩
            · exact .inr ⟨h2, .inr h1⟩
          · rintro (h | ⟨h1, h2 | h2⟩)
            · exact .inl (.inl h)
            · exact .inl (.inr ⟨h1, h2⟩)
            · exact .inr ⟨h2, h1⟩
      · obtain ⟨s3, hs3, e3, nd3, hk3⟩ := hp
        rw [List.take_length] at hk3
        refine ⟨s3, hs3, e3, nd3, fun x b => ?_⟩
        rw [hk3]
        constructor
        · rintro (⟨h1, h2⟩ | ⟨rfl, h⟩)
          · exact ⟨Nat.lt_succ_of_lt h1, h2⟩
          · exact ⟨Nat.lt_succ_self _, p, ep, h⟩
        · rintro ⟨h1, p', h2, h3⟩
          by_cases e : b = i
          · subst e
            rw [ep] at h2
            cases h2
            exact .inr ⟨rfl, h3⟩
          · exact .inl ⟨by omega, p', h2, h3⟩
    obtain ⟨s1, hs, e1, nd, hk⟩ := hp
    have hk : ∀ x a, (x, a) ∈ hs ↔ ∃ p, ps[a]? = some p ∧ x ∈ p := fun x a => by
      rw [hk]
      exact ⟨fun z => z.2, fun ⟨p, h1, h2⟩ => ⟨(List.getElem?_eq_some_iff.mp h1).1, p, h1, h2⟩⟩
    -- the lists
    have hZ1 := s1 _ _ hZ
    refine ⟨_, rfl, Z, rfl, ⟨_, SqL.of hZ1⟩, fun I hI => ?_⟩
    have hI0 : H I = none := free_same s1 hI
    have DI : D ≠ I := ne_of_none e1 hI
    refine lc_list (K := K) (xs := zs) (fun i H' => ∃ rs : List Addr, H' I = some (.lst (rs.map V.ref)) ∧ rs.length = i ∧ rs.Nodup ∧ I ∉ rs ∧ Same H1 H' ∧ ∀ (a : Nat) (r : Addr), rs[a]? = some r → H1 r = none ∧ H' r = some (.lst []))
      ⟨[], upd_same, rfl, List.nodup_nil, List.not_mem_nil, same_new hI, fun a r e => absurd (List.mem_of_getElem? e) List.not_mem_nil⟩ (fun i H' _ hp => ?_) (fun i x H2 hx hp => ?_) (fun H2 hp => ?_)
    · obtain ⟨_, _, _, _, _, sm, _⟩ := hp
      exact SqL.of (sm _ _ hZ1)
    · obtain ⟨rs, e2, rl, rn, Ir, s2, rr⟩ := hp
      have il : i < zs.length := (List.getElem?_eq_some_iff.mp hx).1
      refine ⟨rfl, ?_⟩
      refine ⟨by show 0 ≤ sizeLine; decide, fun L hL => ?_⟩
      have s3 := same_new (o := .lst []) hL
      have e3 := s3 _ _ e2
      have IL : I ≠ L := ne_of_none e2 hL
      refine ⟨_, e3, by rw [List.length_map]; exact small1000 (by omega), rs ++ [L], ?_, ?_, ?_, ?_, keep_new hI (s2.trans s3), fun a r e => ?_⟩
      · rw [upd_same, List.map_append]
        rfl
      · rw [List.length_append, rl]
        rfl
      · rw [List.nodup_append]
        refine ⟨rn, List.nodup_cons.mpr ⟨List.not_mem_nil, List.nodup_nil⟩, fun c hc d hd e => ?_⟩
        rw [List.mem_singleton.mp hd] at e
        obtain ⟨b, hb⟩ := List.mem_iff_getElem?.mp hc
        have := (rr b c hb).2
        rw [e, hL] at this
        cases this
      · intro z
        rcases List.mem_append.mp z with z | z
        · exact Ir z
        · exact IL (List.mem_singleton.mp z)
      · by_cases c : a < rs.length
        · rw [List.getElem?_append_left c] at e
          obtain ⟨g1, g2⟩ := rr a r e
          refine ⟨g1, ?_⟩
          rw [upd_ne (fun z => by rw [z] at e; exact Ir (List.mem_of_getElem? e))]
          exact s3 _ _ g2
        · rw [List.getElem?_append_right (by omega)] at e
          have ea : a - rs.length = 0 := by
            have := (List.getElem?_eq_some_iff.mp e).1
            simp at this
            omega
          rw [ea] at e
          cases e
          refine ⟨free_same s2 hL, ?_⟩
          rw [upd_ne IL.symm]
          exact upd_same
    obtain ⟨rs, e2, rl, rn, Ir, s2, rr⟩ := hp
    rw [zl] at rl
    have mn : (ns.map vI).length = ns.length := List.length_map ..
    have sH2 := s1.trans s2
    have eD2 := s2 _ _ e1
    refine ⟨_, rfl, N, rfl, ⟨_, SqL.of (sH2 _ _ hN)⟩, for_list (K := K) (xs := ns.map vI) (fun i σ H' => ∃ x5 x6, σ = [some (.ref T), some (.ref N), some (.ref Z), some (.ref D), some (.ref I), x5, x6, none, none, none] ∧ Same H H' ∧ H' D = some (.dK (hs.map kvN)) ∧ H' I = some (.lst (rs.map V.ref)) ∧
        ∀ (a : Nat) (r : Addr) (p : List Nat), rs[a]? = some r → ps[a]? = some p → H' r = some (.lst (((ns.take i).filter (inPart ts p)).map vI)))
      ⟨_, _, rfl, sH2, eD2, e2, fun a r p h1 _ => by rw [List.take_zero]; exact (rr a r h1).2⟩ (fun i σ H' _ hp => ?_) (fun i x σ H3 hx hp => ?_) (fun σ H3 hp => ?_)⟩
    · obtain ⟨_, _, _, sm, _⟩ := hp
      exact SqL.of (sm _ _ hN)
    · obtain ⟨x5, x6, rfl, s3, eD, eI, all⟩ := hp
      have il : i < ns.length := by
        have := (List.getElem?_eq_some_iff.mp hx).1
        rw [mn] at this
        exact this
      have ei : ns[i]? = some ns[i] := List.getElem?_eq_getElem il
      rw [List.getElem?_map, ei] at hx
      cases hx
      have nlt := ok _ (List.getElem_mem il)
      have tf : ∀ p, (ns.take (i + 1)).filter (inPart ts p) = (ns.take i).filter (inPart ts p) ++ (if inPart ts p ns[i] = true then [ns[i]] else []) := fun p => take_filter ei
      generalize ns[i] = n at *
      obtain ⟨t, l, ut, ht, _⟩ := tu.num nlt
      have get : ∀ y : Nat, DGet H3 D (.int (y : Nat)) (valV (hs.map kvN) (.inl (y : Int))) := fun y => (show DGet H3 D (kV (Sum.inl (y : Int))) _ from DGet.k eD)
      have same : (∀ p ∈ ps, inPart ts p n = false) → ∀ a r p, rs[a]? = some r → ps[a]? = some p → H3 r = some (.lst (((ns.take (i + 1)).filter (inPart ts p)).map vI)) := fun z a r p h1 h2 => by
        rw [tf, if_neg (by rw [z p (List.mem_of_getElem? h2)]; decide), List.append_nil]
        exact all a r p h1 h2
      refine ⟨_, rfl, D, rfl, .inl ⟨_, .of eD⟩, _, rfl, _, rfl, T, _, _, _, rfl, rfl, SqL.of (s3 _ _ hT), atI_nat ut, t, _, 0, _, rfl, rfl, SqT.of (s3 _ _ ht), atI_nat (j := 0) rfl, _, get _, ?_⟩
      by_cases c1 : ∃ (a : Nat) (p : List Nat), ps[a]? = some p ∧ sT ts n ∈ p
      · obtain ⟨a, p, ea, pa⟩ := c1
        rw [val_kn nd ((hk _ a).mpr ⟨p, ea, pa⟩)]
        have al : a < rs.length := by
          rw [rl]
          exact (List.getElem?_eq_some_iff.mp ea).1
        have er : rs[a]? = some rs[a] := List.getElem?_eq_getElem al
        refine ⟨_, rfl, rfl, _, rfl, iteP rfl ?_⟩
        refine ⟨_, rfl, _, rfl, D, rfl, .inl ⟨_, .of eD⟩, _, rfl, _, rfl, T, _, _, _, rfl, rfl, SqL.of (s3 _ _ hT), atI_nat ut, t, _, 1, _, rfl, rfl, SqT.of (s3 _ _ ht), atI_nat (j := 1) rfl, _, get _, ?_⟩
        by_cases c2 : eT ts n ∈ p
        · rw [val_kn nd ((hk _ a).mpr ⟨p, ea, c2⟩)]
          have hr3 := all a _ p er ea
          have eIa : (rs.map V.ref)[a]? = some (.ref rs[a]) := by
            rw [List.getElem?_map, er]
            rfl
          have lf := List.length_filter_le (inPart ts p) (ns.take i)
          rw [List.length_take] at lf
          have hr0 : H rs[a] = none := free_same s1 (rr a _ er).1
          have rI : rs[a] ≠ I := fun e => Ir (e ▸ List.mem_of_getElem? er)
          have rD : rs[a] ≠ D := fun e => by
            rw [e, eD] at hr3
            cases hr3
          refine ⟨rfl, _, rfl, iteP (decide_eq_true rfl) ?_⟩
          refine ⟨_, rfl, _, rfl, I, _, _, _, rfl, rfl, SqL.of eI, atI_nat eIa, .inl ⟨rfl, _, SqL.of hr3⟩, _, rfl, rs[a], _, _, rfl, rfl, hr3, by rw [List.length_map]; exact small1000 (by omega), ?_⟩
          refine ⟨_, _, rfl, keep_new hr0 s3, by rw [upd_ne rD.symm]; exact eD, by rw [upd_ne rI.symm]; exact eI, fun b r p' h1 h2 => ?_⟩
          by_cases z : b = a
          · subst z
            rw [ea] at h2
            rw [er] at h1
            cases h1
            cases h2
            rw [upd_same, tf, if_pos (by unfold inPart; simp [pa, c2]), List.map_append]
            rfl
          · have nr : r ≠ rs[a] := fun e => z (by
              subst e
              exact (List.getElem?_inj (List.getElem?_eq_some_iff.mp h1).1 rn).mp (h1.trans er.symm))
            have np : inPart ts p' n = false := by
              unfold inPart
              rw [decide_eq_false (fun h => z (dis b a p' p _ h2 ea h pa)), Bool.false_and]
            rw [upd_ne nr, tf, if_neg (by rw [np]; decide), List.append_nil]
            exact all b r p' h1 h2
        · have no : ∀ p' ∈ ps, inPart ts p' n = false := fun p' hp' => by
            unfold inPart
            by_cases h : sT ts n ∈ p'
            · obtain ⟨b, hb⟩ := List.mem_iff_getElem?.mp hp'
              have := dis b a p' p _ hb ea h pa
              subst this
              rw [ea] at hb
              cases hb
              rw [decide_eq_false c2, Bool.and_false]
            · rw [decide_eq_false h, Bool.false_and]
          by_cases c3 : ∃ (b : Nat) (p' : List Nat), ps[b]? = some p' ∧ eT ts n ∈ p'
          · obtain ⟨b, p', eb, pb⟩ := c3
            rw [val_kn nd ((hk _ b).mpr ⟨p', eb, pb⟩)]
            have ne : a ≠ b := fun e => c2 (by
              subst e
              rw [ea] at eb
              cases eb
              exact pb)
            exact ⟨rfl, _, rfl, iteN (decide_eq_false fun e => ne (by have := V.int.inj e; omega)) ⟨_, _, rfl, s3, eD, eI, same no⟩⟩
          · rw [val_kn0 fun b h => c3 (by
              obtain ⟨p', h1, h2⟩ := (hk _ b).mp h
              exact ⟨b, p', h1, h2⟩)]
            exact ⟨rfl, _, rfl, iteN (decide_eq_false fun e => by cases e) ⟨_, _, rfl, s3, eD, eI, same no⟩⟩
      · rw [val_kn0 fun b h => c1 (by
          obtain ⟨p', h1, h2⟩ := (hk _ b).mp h
          exact ⟨b, p', h1, h2⟩)]
        refine ⟨_, rfl, rfl, _, rfl, iteN rfl (iteF ⟨_, _, rfl, s3, eD, eI, same fun p' hp' => ?_⟩)⟩
        obtain ⟨b, hb⟩ := List.mem_iff_getElem?.mp hp'
        unfold inPart
        rw [decide_eq_false (fun h => c1 ⟨b, p', hb, h⟩), Bool.false_and]
    · obtain ⟨x5, x6, rfl, s3, eD, eI, all⟩ := hp
      rw [mn, List.take_length] at all
      refine ⟨_, rfl, q H3 I _ s3 hI0 eI (fun b hb => ?_) (lss_of rl all)⟩
      obtain ⟨r, hr', e⟩ := List.mem_map.mp hb
      cases e
      obtain ⟨j, hj⟩ := List.mem_iff_getElem?.mp hr'
      exact free_same s1 (rr j _ hj).1
end
end W35

namespace Gr
theorem back_len {S : Nat → Nat} {c : Cm} : ∀ {f : Nat} {o : Option Nat}, (backR S c f o).length ≤ f
  | 0, _ => Nat.le_refl _
  | _ + 1, none => Nat.zero_le _
  | f + 1, some n => by
    rw [backR, List.length_cons]
    exact Nat.succ_le_succ back_len
theorem rowTo_len {S E : Nat → Nat} {es ns : List Nat} {a b : Nat} (hns : ∀ n ∈ ns, S n ∈ es ∧ E n ∈ es) (ha : a ∈ es) : (rowTo S E (owOf S ns) es.length a b).length ≤ es.length := by
  have nd : [a].Nodup := List.nodup_cons.mpr ⟨List.not_mem_nil, List.nodup_nil⟩
  have sub : ∀ x ∈ [a], x ∈ es := fun x hx => by
    rw [List.mem_singleton.mp hx]
    exact ha
  have B := came_ok (S := S) (E := E) hns nd sub
  unfold rowTo rowBack
  rw [List.length_reverse]
  exact Nat.le_trans back_len (bf_len B)
end Gr
namespace W35
open PySem PySem.Spec PyProof.Rows L2 Gs Gp Gr
/-! ### lap_with_all -/
theorem op_inK {X : Cx} {K : PySem.W.Frag} (hk : X.K = K) : OpR X (compareOp .In) (rIn K false) := by
  subst hk
  exact op_in_seq
theorem inV_ints {x : Nat} {l : List Nat} : inV (.int (x : Nat)) (l.map vI) = decide (x ∈ l) := by
  unfold inV
  rw [Bool.eq_iff_iff, List.any_eq_true, decide_eq_true_iff]
  constructor
  · rintro ⟨v, hv, e⟩
    obtain ⟨y, hy, rfl⟩ := List.mem_map.mp hv
    have : (y : Int) = (x : Int) := by simpa [vI, eqV] using e
    have : y = x := by omega
    exact this ▸ hy
  · intro h
    exact ⟨vI x, List.mem_map.mpr ⟨x, h, rfl⟩, by simp [vI, eqV]⟩
theorem flat_ints {l : List Nat} : (l.map vI).all flatV = true := by
  rw [List.all_eq_true]
  intro v hv
  obtain ⟨y, _, rfl⟩ := List.mem_map.mp hv
  rfl
theorem atI_neg1 {α : Type} {xs : List α} {j : Nat} {v : α} (hl : xs.length = j + 1) (h : xs[j]? = some v) : atI xs (-1) = some v := by
  have e : ixN xs.length (-1) = some j := by
    unfold ixN
    rw [if_neg (by decide), if_pos (by omega)]
    congr 1
    omega
  unfold atI
  rw [e]
  exact h
theorem lastD_at {lap : List Nat} (le : lap ≠ []) : (lap.map vI)[lap.length - 1]? = some (.int (lap.getLastD 0 : Nat)) := by
  rw [List.getElem?_map, ← List.getLast?_eq_getElem?]
  have e : lap.dropLast ++ [lap.getLast le] = lap := List.dropLast_concat_getLast le
  rw [← e, last_snoc, List.getLast?_append]
  rfl
abbrev NLw : List Str := ["ties", "inner", "many", "onward", "lap", "lot", "taken", "between", "number"]
theorem scLapAll : FnScope NLw ["ties", "inner", "many", "onward"] (defScope sLapAll) := ⟨rfl, rfl, rfl, by decide +kernel, rfl, by decide +kernel, by decide +kernel⟩
/-- what a piece and its inner ties are -/
structure Pc (ts : List Tie) (part inner : List Nat) : Prop where
  lt : ∀ n ∈ inner, n < ts.length
  hin : ∀ n ∈ inner, sT ts n ∈ part ∧ eT ts n ∈ part
  str : ∀ a ∈ part, ∀ b ∈ part, R (adjIn (sT ts) (eT ts) inner) a b
  pl : part.length ≤ 900
  il : inner.length ≤ 900
abbrev rtOf (ts : List Tie) (part inner : List Nat) : Nat → Nat → List Nat := rowTo (sT ts) (eT ts) (owOf (sT ts) inner) part.length
theorem Pc.rt {ts : List Tie} {part inner : List Nat} (p : Pc ts part inner) : ∀ a ∈ part, ∀ b ∈ part, Wk (sT ts) (eT ts) a (rtOf ts part inner a b) b ∧ ∀ n ∈ rtOf ts part inner a b, n ∈ inner :=
  fun a ha b hb => rowTo_ok p.hin ha (p.str a ha b hb)
def spLapAll : Sp := fun vs H Q _ => ∃ (T N O : Addr) (m : Nat) (part inner : List Nat) (us : List V) (ts : List Tie), vs = [.ref T, .ref N, .int m, .ref O] ∧ H T = some (.lst us) ∧ Ties H us ts ∧ H N = some (.lst (inner.map vI)) ∧ EndsA H O part (owOf (sT ts) inner) ∧ Pc ts part inner ∧ (∀ lot < m, ∃ n ∈ inner, lot ∈ lT ts n) ∧ 0 < m ∧ m ≤ 100 ∧
  ∀ H' r, Same H H' → H r = none → H' r = some (.lst ((lapAll (sT ts) (eT ts) (lT ts) inner (rtOf ts part inner) m).map vI)) → Q (.ref r) H'
section
variable {P : Program} {w : World} {K : PySem.W.Frag} {mg : Str → Option Value} {base : Heap} {f f1 f2 : Addr} {fd d1 d2 : FuncData} {k : Nat}
theorem ok_lapAll (F : Fun K "lap_with_all" "lap_with_all" sLapAll f fd) (RT : Cl P w K mg base CX0 k "row_to" ["start", "end", "ties", "onward"] spRowTo f1 d1) (mr : mg "range" = none) (ma : mg "any" = none) : FnOk P w K mg base CX0 (k + 1) f fd ["ties", "inner", "many", "onward"] spLapAll := by
  refine F.ok scLapAll (fun vs H Q E h => ?_) (fun cdv A outer s H vs Q E hr h => ?_)
  · obtain ⟨T, N, O, m, part, inner, us, ts, rfl, _⟩ := h
    rfl
  · obtain ⟨T, N, O, m, part, inner, us, ts, rfl, hT, tu, hN, en, pc, lots, m0, m1, q⟩ := h
    refine ⟨_, pss_cons (ps_set (i := 4) scLapAll.nd rfl (.inl rfl) (pe_lst pa_nil))
      (pss_cons (ps_for PassesOwn.never rfl (pi_range1 (by rfl) mr (pa_cons (pv 2) pa_nil)) (pg_name (i := 5) scLapAll.nd rfl (Or.inr rfl))
        (pss_one (ps_if (pt_not (pt_truth (pe_callB (cr_any rfl) (by rfl) ma (by decide +kernel) (pa_cons
            (pe_lc (own := [("number", 8)]) (g := gName 8) (tt := tYes) rfl scLapAll.nd (pi_list (pv 4)) (blkOk_by (own := [("number", 8)]) (N := NLw) (sc := defScope sLapAll) (by decide +kernel))
              (fun _ _ _ _ _ => pg_name (i := 8) scLapAll.nd rfl (Or.inl rfl)) (fun _ _ _ _ _ => pts_nil)
              (fun _ _ _ _ _ => pe_cmpR (op_inK (K := K) rfl) (pv 5) (pe_ix (ix_tupK (K := K) rfl) (pe_ix (ix_listK (K := K) rfl) (pv 0) (pv 8) (fun _ _ => rfl)) pe_int (fun _ _ => rfl)) (by rfl))) pa_nil)) (by intro _; rfl)))
          (pss_cons (ps_set (i := 6) scLapAll.nd rfl (.inl rfl) (pe_ix ix_list
            (pe_lc (own := [("number", 8)]) (g := gName 8) rfl scLapAll.nd (pi_list (pv 1)) (blkOk_by (own := [("number", 8)]) (N := NLw) (sc := defScope sLapAll) (by decide +kernel))
              (fun _ _ _ _ _ => pg_name (i := 8) scLapAll.nd rfl (Or.inl rfl))
              (fun _ _ _ _ _ => pts_one (pt_cmpR (op_inK (K := K) rfl) (pv 5) (pe_ix (ix_tupK (K := K) rfl) (pe_ix (ix_listK (K := K) rfl) (pv 0) (pv 8) (fun _ _ => rfl)) pe_int (fun _ _ => rfl)) (by rfl)))
              (fun _ _ _ _ _ => pv 8)) pe_int (fun _ _ => rfl)))
          (pss_cons (ps_set (i := 7) scLapAll.nd rfl (.inl rfl) (pe_ifExp (pt_truth (pv 4) (by intro _; rfl))
            (pe_call RT.ok hr (by rfl) RT.g RT.kp RT.bd .nil pass0 (pa_cons (pe_ix ix_tup (pe_ix ix_list (pv 0) (pe_ix ix_list (pv 4) (pe_un un_neg pe_int) (fun _ _ => rfl)) (fun _ _ => rfl)) pe_int (fun _ _ => rfl)) (pa_cons (pe_ix ix_tup (pe_ix ix_list (pv 0) (pv 6) (fun _ _ => rfl)) pe_int (fun _ _ => rfl)) (pa_cons (pv 0) (pa_cons (pv 3) pa_nil)))))
            (pe_lst pa_nil)))
          (pss_one (ps_expr (pe_bm PySem.F.plainAttrs_list PySem.F.slot_list_extend PySem.F.type_list_extend mt_extend (pv 4) (pa_cons (pe_op op_cat (pv 7) (pe_lst (pa_cons (pv 6) pa_nil))) pa_nil)))))) pss_nil)))
      (pss_one (ps_ret (pe_op op_cat (pv 4) (pe_call RT.ok hr (by rfl) RT.g RT.kp RT.bd .nil pass0 (pa_cons (pe_ix ix_tup (pe_ix ix_list (pv 0) (pe_ix ix_list (pv 4) (pe_un un_neg pe_int) (fun _ _ => rfl)) (fun _ _ => rfl)) pe_int (fun _ _ => rfl)) (pa_cons (pe_ix ix_tup (pe_ix ix_list (pv 0) (pe_ix ix_list (pv 4) pe_int (fun _ _ => rfl)) (fun _ _ => rfl)) pe_int (fun _ _ => rfl)) (pa_cons (pv 0) (pa_cons (pv 3) pa_nil))))))))), ?_⟩
    have hrt := pc.rt
    have lo : ∀ i ≤ m, Row (sT ts) (eT ts) inner (lapLots (sT ts) (eT ts) (lT ts) inner (rtOf ts part inner) i) ∧ (i ≠ 0 → lapLots (sT ts) (eT ts) (lT ts) inner (rtOf ts part inner) i ≠ []) := fun i hi => by
      obtain ⟨h1, h2, _⟩ := lapLots_ok (L := lT ts) pc.hin hrt (many := i) fun lot h => lots lot (by omega)
      exact ⟨h1, h2⟩
    refine ⟨by show 0 ≤ sizeLine; decide, fun Lp hLp => ?_⟩
    have s0 := same_new (o := .lst []) hLp
    refine ⟨_, rfl, (m : Int), rfl, by omega, by omega, ?_⟩
    rw [Int.toNat_natCast]
    refine for_range (n := m) (fun i σ H' => ∃ x5 x6 x7, σ = [some (.ref T), some (.ref N), some (.int m), some (.ref O), some (.ref Lp), x5, x6, x7, none] ∧ Same H H' ∧ H' Lp = some (.lst ((lapLots (sT ts) (eT ts) (lT ts) inner (rtOf ts part inner) i).map vI)) ∧ (lapLots (sT ts) (eT ts) (lT ts) inner (rtOf ts part inner) i).length ≤ i * 901)
      ⟨_, _, _, rfl, s0, upd_same, Nat.le_refl _⟩ (fun i σ H1 hi hp => ?_) (fun σ H1 hp => ?_)
    · obtain ⟨x5, x6, x7, rfl, s1, e1, l1⟩ := hp
      obtain ⟨R0, ne0⟩ := lo i (by omega)
      have es : lapLots (sT ts) (eT ts) (lT ts) inner (rtOf ts part inner) (i + 1) = lapStep (sT ts) (eT ts) (lT ts) inner (rtOf ts part inner) (lapLots (sT ts) (eT ts) (lT ts) inner (rtOf ts part inner) i) i := by
        unfold lapLots
        rw [List.range_succ, List.foldl_append]
        rfl
      rw [es]
      generalize lapLots (sT ts) (eT ts) (lT ts) inner (rtOf ts part inner) i = lap at *
      have ml : (lap.map vI).length = lap.length := List.length_map ..
      -- any
      refine ⟨_, rfl, Lp, rfl, ⟨_, SqL.of e1⟩, fun D hD => ?_⟩
      have hD0 : H D = none := free_same s1 hD
      refine lc_list (K := K) (xs := lap.map vI) (fun j H' => Same H H' ∧ H' Lp = some (.lst (lap.map vI)) ∧ H' D = some (.lst (((lap.take j).map (hasLot (lT ts) i)).map V.bl)))
        ⟨s1.trans (same_new hD), same_new hD _ _ e1, by rw [List.take_zero]; exact upd_same⟩ (fun j H' _ hp => SqL.of hp.2.1) (fun j x H2 hx hp => ?_) (fun H2 hp => ?_)
      · obtain ⟨s2, e2, d2⟩ := hp
        have jl : j < lap.length := by
          have := (List.getElem?_eq_some_iff.mp hx).1
          rw [ml] at this
          exact this
        have ej : lap[j]? = some lap[j] := List.getElem?_eq_getElem jl
        rw [List.getElem?_map, ej] at hx
        cases hx
        obtain ⟨t, l, ut, ht, hl⟩ := tu.num (pc.lt _ (R0.sub _ (List.getElem_mem jl)))
        have DL : Lp ≠ D := ne_of_none e1 hD
        refine ⟨rfl, ?_⟩
        refine ⟨_, rfl, _, rfl, _, rfl, T, _, _, _, rfl, rfl, SqL.of (s2 _ _ hT), atI_nat ut, t, _, 2, _, rfl, rfl, SqT.of (s2 _ _ ht), atI_nat (j := 2) rfl, l, _, rfl, .inr (SqT.of (s2 _ _ hl)), rfl, flat_ints, ?_⟩
        refine ⟨_, d2, by rw [List.length_map, List.length_map, List.length_take]; exact Nat.lt_of_le_of_lt (m := 100000) (by omega) (by decide), keep_new hD0 s2, by rw [upd_ne DL]; exact e2, ?_⟩
        rw [upd_same, take_map ej, List.map_append, Int.zero_add, inV_ints]
        rfl
      · obtain ⟨s2, e2, d2⟩ := hp
        rw [ml, List.take_length] at d2
        refine ⟨D, _, rfl, SqL.of d2, _, rfl, ?_⟩
        have ea : (lap.map (hasLot (lT ts) i)).any id = lap.any (hasLot (lT ts) i) := by
          rw [List.any_map]
          rfl
        rw [ea]
        unfold lapStep
        by_cases c : lap.any (hasLot (lT ts) i) = true
        · rw [if_pos c, c]
          exact iteF ⟨_, _, _, rfl, s2, e2, by omega⟩
        · rw [if_neg c, Bool.not_eq_true _ |>.mp c]
          refine iteT ?_
          -- taken
          refine ⟨_, rfl, N, rfl, ⟨_, SqL.of (s2 _ _ hN)⟩, fun D3 hD3 => ?_⟩
          have hD30 : H D3 = none := free_same s2 hD3
          have mi : (inner.map vI).length = inner.length := List.length_map ..
          have il := pc.il
          refine lc_list (K := K) (xs := inner.map vI) (fun j H' => Same H H' ∧ H' Lp = some (.lst (lap.map vI)) ∧ H' D3 = some (.lst (((inner.take j).filter (hasLot (lT ts) i)).map vI)))
            ⟨s2.trans (same_new hD3), same_new hD3 _ _ e2, by rw [List.take_zero]; exact upd_same⟩ (fun j H' _ hp => SqL.of (hp.1 _ _ hN)) (fun j x H3 hx hp => ?_) (fun H3 hp => ?_)
          · obtain ⟨s3, e3, d3⟩ := hp
            have jl : j < inner.length := by
              have := (List.getElem?_eq_some_iff.mp hx).1
              rw [mi] at this
              exact this
            have ej : inner[j]? = some inner[j] := List.getElem?_eq_getElem jl
            rw [List.getElem?_map, ej] at hx
            cases hx
            obtain ⟨t, l, ut, ht, hl⟩ := tu.num (pc.lt _ (List.getElem_mem jl))
            have DL : Lp ≠ D3 := ne_of_none e2 hD3
            refine ⟨rfl, ?_⟩
            refine ⟨_, rfl, _, rfl, _, rfl, T, _, _, _, rfl, rfl, SqL.of (s3 _ _ hT), atI_nat ut, t, _, 2, _, rfl, rfl, SqT.of (s3 _ _ ht), atI_nat (j := 2) rfl, l, _, rfl, .inr (SqT.of (s3 _ _ hl)), rfl, flat_ints, _, rfl, ?_⟩
            have ev : (if false = true then !inV (.int (0 + (i : Int))) ((lT ts inner[j]).map vI) else inV (.int (0 + (i : Int))) ((lT ts inner[j]).map vI)) = hasLot (lT ts) i inner[j] := by
              rw [Int.zero_add]
              exact inV_ints
            rw [ev, take_filter ej]
            by_cases h : hasLot (lT ts) i inner[j] = true
            · rw [if_pos h]
              refine iteP h ⟨_, rfl, _, d3, ?_, keep_new hD30 s3, by rw [upd_ne DL]; exact e3, ?_⟩
              · rw [List.length_map]
                have := List.length_filter_le (hasLot (lT ts) i) (inner.take j)
                rw [List.length_take] at this
                exact small1000 (by omega)
              · rw [upd_same, List.map_append]
                rfl
            · rw [if_neg h, List.append_nil]
              exact iteN (Bool.not_eq_true _ |>.mp h) ⟨s3, e3, d3⟩
          · obtain ⟨s3, e3, d3⟩ := hp
            rw [mi, List.take_length] at d3
            obtain ⟨n0, hn0, hl0⟩ := lots i hi
            have fne : inner.filter (hasLot (lT ts) i) ≠ [] := fun e => by
              have : n0 ∈ inner.filter (hasLot (lT ts) i) := List.mem_filter.mpr ⟨hn0, decide_eq_true hl0⟩
              rw [e] at this
              exact absurd this List.not_mem_nil
            have hd : ((inner.filter (hasLot (lT ts) i)).map vI)[0]? = some (.int ((inner.filter (hasLot (lT ts) i)).headD 0 : Nat)) := by
              cases z : inner.filter (hasLot (lT ts) i) with
              | nil => exact absurd z fne
              | cons a r => rfl
            have tin : (inner.filter (hasLot (lT ts) i)).headD 0 ∈ inner := (List.mem_filter.mp (head_mem fne)).1
            refine ⟨D3, _, 0, _, rfl, rfl, SqL.of d3, atI_nat (j := 0) hd, ?_⟩
            generalize (inner.filter (hasLot (lT ts) i)).headD 0 = tk at *
            have pl := pc.pl
            by_cases le : lap = []
            · subst le
              refine ⟨_, rfl, _, .inl ⟨_, SqL.of e3, rfl⟩, iteN rfl ?_⟩
              refine ⟨by show 0 ≤ sizeLine; decide, fun Bt hBt => ?_⟩
              have s4 := same_new (o := .lst []) hBt
              have e4 := s4 _ _ e3
              refine ⟨_, rfl, .inl ⟨rfl, _, SqL.of e4⟩, _, rfl, _, rfl, by show 1 ≤ sizeLine; decide, fun L1 hL1 => ?_⟩
              have s5 := same_new (o := .lst [.int (tk : Nat)]) hL1
              refine ⟨Bt, L1, [], _, rfl, rfl, s5 _ _ upd_same, upd_same, by show 1 ≤ sizeLine; decide, fun C hC => ?_⟩
              have s6 := same_new (o := .lst ([] ++ [V.int (tk : Nat)])) hC
              refine ⟨Lp, C, _, _, rfl, rfl, s6 _ _ (s5 _ _ e4), upd_same, by show 1 ≤ sizeLine; decide, ?_⟩
              refine ⟨_, _, _, rfl, keep_new hLp (s3.trans (s4.trans (s5.trans s6))), ?_, ?_⟩
              · rw [upd_same]
                rfl
              · show 1 ≤ _
                omega
            · have lm := last_mem le
              have hlast : (lap.map vI)[lap.length - 1]? = some (.int (lap.getLastD 0 : Nat)) := lastD_at le
              have lpos : 0 < lap.length := List.length_pos_iff.mpr le
              obtain ⟨t1, l1', ut1, ht1, _⟩ := tu.num (pc.lt _ (R0.sub _ lm))
              obtain ⟨t2, l2', ut2, ht2, _⟩ := tu.num (pc.lt _ tin)
              have aP := (pc.hin _ (R0.sub _ lm)).2
              have bP := (pc.hin _ tin).1
              refine ⟨_, rfl, _, .inl ⟨_, SqL.of e3, rfl⟩, iteP (by simp; exact le) ?_⟩
              refine ⟨_, rfl, _, rfl, _, rfl, Lp, _, -1, _, rfl, rfl, SqL.of e3, atI_neg1 (j := lap.length - 1) (by rw [ml]; omega) hlast, T, _, _, _, rfl, rfl, SqL.of (s3 _ _ hT), atI_nat ut1, t1, _, 1, _, rfl, rfl, SqT.of (s3 _ _ ht1), atI_nat (j := 1) rfl, ?_⟩
              refine ⟨_, rfl, _, rfl, T, _, _, _, rfl, rfl, SqL.of (s3 _ _ hT), atI_nat ut2, t2, _, 0, _, rfl, rfl, SqT.of (s3 _ _ ht2), atI_nat (j := 0) rfl, _, rfl, _, rfl, ?_⟩
              refine ⟨_, _, T, O, part, us, ts, inner, rfl, s3 _ _ hT, tu.tk (tk_same s3), en.same s3, aP, fun n hn => ⟨pc.lt n hn, pc.hin n hn⟩, pc.str _ aP _ bP, pl, fun H4 r s4 hr4 e4 => ?_⟩
              have rl : (rtOf ts part inner (eT ts (lap.getLastD 0)) (sT ts tk)).length ≤ part.length := rowTo_len pc.hin aP
              have rl2 : (rowTo (sT ts) (eT ts) (owOf (sT ts) inner) part.length (eT ts (lap.getLastD 0)) (sT ts tk)).length ≤ part.length := rl
              have e34 := s4 _ _ e3
              refine ⟨_, rfl, .inl ⟨rfl, _, SqL.of e34⟩, _, rfl, _, rfl, by show 1 ≤ sizeLine; decide, fun L1 hL1 => ?_⟩
              have s5 := same_new (o := .lst [.int (tk : Nat)]) hL1
              refine ⟨r, L1, _, _, rfl, rfl, s5 _ _ e4, upd_same, ?_, fun C hC => ?_⟩
              · rw [List.length_map]
                show _ + 1 ≤ _
                exact Nat.le_of_lt (small1000 (by omega))
              have s6 := same_new (o := .lst ((rtOf ts part inner (eT ts (lap.getLastD 0)) (sT ts tk)).map vI ++ [V.int (tk : Nat)])) hC
              refine ⟨Lp, C, _, _, rfl, rfl, s6 _ _ (s5 _ _ e34), upd_same, ?_, ?_⟩
              · rw [List.length_append, List.length_map, List.length_map]
                show _ + (_ + 1) ≤ _
                exact Nat.le_of_lt (Nat.lt_of_le_of_lt (m := 200000) (by omega) (by decide))
              refine ⟨_, _, _, rfl, keep_new hLp (s3.trans (s4.trans (s5.trans s6))), ?_, ?_⟩
              · rw [upd_same, if_neg le, List.map_append, List.map_append]
                rfl
              · rw [if_neg le, List.length_append, List.length_append, List.length_singleton]
                omega
    · obtain ⟨x5, x6, x7, rfl, s1, e1, l1⟩ := hp
      obtain ⟨R0, ne0⟩ := lo m (Nat.le_refl _)
      have ne := ne0 (by omega)
      unfold lapAll at q
      generalize lapLots (sT ts) (eT ts) (lT ts) inner (rtOf ts part inner) m = lap at *
      have ml : (lap.map vI).length = lap.length := List.length_map ..
      have lm := last_mem ne
      have hm := head_mem ne
      have hlast : (lap.map vI)[lap.length - 1]? = some (.int (lap.getLastD 0 : Nat)) := lastD_at ne
      have hhead : (lap.map vI)[0]? = some (.int (lap.headD 0 : Nat)) := by
        cases lap with
        | nil => exact absurd rfl ne
        | cons a r => rfl
      have lpos : 0 < lap.length := List.length_pos_iff.mpr ne
      obtain ⟨t1, l1', ut1, ht1, _⟩ := tu.num (pc.lt _ (R0.sub _ lm))
      obtain ⟨t2, l2', ut2, ht2, _⟩ := tu.num (pc.lt _ (R0.sub _ hm))
      have aP := (pc.hin _ (R0.sub _ lm)).2
      have bP := (pc.hin _ (R0.sub _ hm)).1
      have pl := pc.pl
      refine ⟨_, rfl, _, rfl, _, rfl, _, rfl, Lp, _, -1, _, rfl, rfl, SqL.of e1, atI_neg1 (j := lap.length - 1) (by rw [ml]; omega) hlast, T, _, _, _, rfl, rfl, SqL.of (s1 _ _ hT), atI_nat ut1, t1, _, 1, _, rfl, rfl, SqT.of (s1 _ _ ht1), atI_nat (j := 1) rfl, ?_⟩
      refine ⟨_, rfl, _, rfl, Lp, _, 0, _, rfl, rfl, SqL.of e1, atI_nat (j := 0) hhead, T, _, _, _, rfl, rfl, SqL.of (s1 _ _ hT), atI_nat ut2, t2, _, 0, _, rfl, rfl, SqT.of (s1 _ _ ht2), atI_nat (j := 0) rfl, _, rfl, _, rfl, ?_⟩
      refine ⟨_, _, T, O, part, us, ts, inner, rfl, s1 _ _ hT, tu.tk (tk_same s1), en.same s1, aP, fun n hn => ⟨pc.lt n hn, pc.hin n hn⟩, pc.str _ aP _ bP, pl, fun H4 r s4 hr4 e4 => ?_⟩
      have rl : (rtOf ts part inner (eT ts (lap.getLastD 0)) (sT ts (lap.headD 0))).length ≤ part.length := rowTo_len pc.hin aP
      have rl2 : (rowTo (sT ts) (eT ts) (owOf (sT ts) inner) part.length (eT ts (lap.getLastD 0)) (sT ts (lap.headD 0))).length ≤ part.length := rl
      refine ⟨Lp, r, _, _, rfl, rfl, s4 _ _ e1, e4, ?_, fun C hC => ?_⟩
      · rw [List.length_map, List.length_map]
        exact Nat.le_of_lt (Nat.lt_of_le_of_lt (m := 200000) (by omega) (by decide))
      · refine q _ C (s1.trans (s4.trans (same_new hC))) (free_same (s1.trans s4) hC) ?_
        rw [upd_same, List.map_append]
end
end W35

namespace Gp
open PySem PySem.Spec PyProof.Rows L2
/-! ### min(xs, key=len) -/
section
variable {X : Cx}
/-- all stays but the frame's names' own object, and that tells the same -/
theorem relocal {pins : List (Addr × Obj)} {σ : L2.St} {H : Hp} {s : Shared} {h' : Heap} {t' : Nat} {m : Str → Option Value} (I : Inv X pins σ H s) (hm : s.heap.Ns X.env.locals m) (hl : ∀ (i : Nat) (x : Str) (v : V), X.N[i]? = some x → σ[i]? = some (some v) → Vis X.env.scope x → ∃ u, RelV v u ∧ Look X.env s.heap m x u)
    (k : ∀ b o, b ≠ X.env.locals → s.heap.get? b = some o → h'.get? b = some o) (hn : h'.Ns X.env.locals m) : Inv X pins σ H { s with heap := h', toks := t' } := by
  have cne := I.cne
  have old : ∀ {b : Addr} {o : Obj}, X.s_0.heap.get? b = some o → b ≠ X.env.locals := fun e => Nat.ne_of_lt (Nat.lt_of_lt_of_le (Heap.lt_size e) I.ok.above)
  refine ⟨I.ok, I.os, I.bare, ⟨fun b o e n hb hx => k _ _ (old e) (I.base.keep b o e n hb hx), fun b o e n hb hx => ?_, I.base.free, fun b o e hx => ?_, I.base.tups, I.base.frzs, I.base.tbls⟩, ⟨m, hn, fun i x v e1 e2 e3 => ?_⟩, fun x c e => ?_, I.free, I.freeC, fun p hp => ?_, fun b u e => ?_, I.len⟩
  · obtain ⟨sl, z⟩ := I.base.slot b o e n hb hx
    exact ⟨sl, k _ _ (old e) z⟩
  · obtain ⟨o', z⟩ := I.base.there b o e hx
    exact ⟨o', k _ _ (old e) z⟩
  · obtain ⟨u, r, z⟩ := hl i x v e1 e2 e3
    refine ⟨u, r, ?_⟩
    rcases z with z | ⟨z, c, hc, oc, ho, hd⟩
    · exact .inl z
    · exact .inr ⟨z, c, hc, oc, k _ _ (cne x c hc) ho, hd⟩
  · obtain ⟨v, oc, ho, hd⟩ := I.cell x c e
    exact ⟨v, oc, k _ _ (cne x c e) ho, hd⟩
  · obtain ⟨e, n, ne, nf, d⟩ := I.pin p hp
    exact ⟨k _ _ ne e, n, ne, nf, d⟩
  · refine (I.hok b u e).stay (fun c o hc q => k c o ?_ q) (fun _ q => q) fun _ _ q => q
    intro z
    rcases hc with z2 | z2
    · rw [← z2, z, I.free] at e
      cases e
    · rw [z, I.free] at z2
      cases z2
def allNews (h : Heap) (L : Addr) : List (Addr × Obj) := (List.range h.objs.size).filterMap fun b => if b = L then none else (h.get? b).map fun o => (b, o)
theorem allNews_mem {h : Heap} {L b : Addr} {o : Obj} : (b, o) ∈ allNews h L ↔ b ≠ L ∧ h.get? b = some o := by
  unfold allNews
  rw [List.mem_filterMap]
  constructor
  · rintro ⟨c, hc, e⟩
    by_cases z : c = L
    · rw [if_pos z] at e
      cases e
    · rw [if_neg z] at e
      cases g : h.get? c with
      | none => rw [g] at e; cases e
      | some o' =>
        rw [g] at e
        cases e
        exact ⟨z, g⟩
  · rintro ⟨n, e⟩
    exact ⟨b, List.mem_range.mpr (Heap.lt_size e), by rw [if_neg n, e]; rfl⟩
theorem min_len {pins : List (Addr × Obj)} {σ : L2.St} {H : Hp} {s : Shared} {a : Addr} {us : List V} {kf : Nat → Nat} {Q : VK} (hc : X.calm = true) (I : Inv X pins σ H s) (hs : SqL X.K H a us) (ne : 0 < us.length)
    (each : ∀ (i : Nat) (v : V), us[i]? = some v → ∃ r xs, v = .ref r ∧ SqL X.K H r xs ∧ xs.length = kf i)
    (q : ∀ (i : Nat) (v : V), us[i]? = some v → (∀ j, j < us.length → kf i ≤ kf j ∧ (j < i → kf i < kf j)) → Q v H) :
    wpAny (model X.prog X.w) X.A (call (.builtin "min") [.ref a] [(Str.ofString "key", .builtin "len")]) (EP X pins σ Q) X.xe s := by
  obtain ⟨m, hm, hlk⟩ := I.loc
  obtain ⟨its, rv, pl, hz⟩ := I.list hs
  have len := rv.length
  have lists : ∀ {l : Addr} {xs : Array Value}, s.heap.IsList l xs → ∀ {h : Heap} {own : List (Addr × Obj)}, News {} X.env.locals h (allNews s.heap X.env.locals ++ own) → h.IsList l xs := fun {l xs} hl {h own} N => by
    obtain ⟨o, ho, rest⟩ := hl
    have nl : l ≠ X.env.locals := fun z => by
      obtain ⟨o', es, ep, ho', hd, _⟩ := hm
      rw [z, ho'] at ho
      cases ho
      obtain ⟨_, _, hd2⟩ := rest
      rw [hd] at hd2
      cases hd2
    exact ⟨o, (N (l, o) (List.mem_append_left _ (allNews_mem.mpr ⟨nl, ho⟩))).1, rest⟩
  have N0 : News {} X.env.locals s.heap (allNews s.heap X.env.locals) := fun p hp => by
    obtain ⟨n, e⟩ := allNews_mem.mp (show (p.1, p.2) ∈ _ from hp)
    exact ⟨e, n, rfl⟩
  have F0 : Fr {} X.env.locals s.heap m := ⟨hm, fun b o e => (by cases e), Nat.zero_le _⟩
  have at' : ∀ (i : Nat) (v : Value), its[i]? = some v → ∃ x r xs, us[i]? = some x ∧ v = .ref r ∧ SqL X.K H r xs ∧ xs.length = kf i := fun i v hv => by
    have il : i < us.length := by
      rw [len]
      exact (List.getElem?_eq_some_iff.mp hv).1
    have hx : us[i]? = some us[i] := List.getElem?_eq_getElem il
    obtain ⟨r, xs, ex, hr, hl⟩ := each i _ hx
    obtain ⟨u, hu, ru⟩ := rv.get hx
    rw [hv] at hu
    cases hu
    rw [ex] at ru
    exact ⟨_, r, xs, hx, ru, hr, hl⟩
  refine kmb_min (fun i => (kf i : Int)) (I.ok.hd hc) F0 N0 (fun h _ N => lists (own := []) pl.isList (by rw [List.append_nil]; exact N)) (by omega) (fun i v hv h tk own F N => ?_) fun i v h' tk' hv best F N => ?_
  · obtain ⟨x, r, xs, hx, rx, hr, hlen⟩ := at' i v hv
    obtain ⟨its2, rv2, pl2, hz2⟩ := I.list hr
    have len2 := rv2.length
    subst rx
    refine Calls.call_len_list (lists (h := h) pl2.isList N) (by simp only [List.size_toArray]; have := line63; omega) ?_
    have e : ((its2.toArray.size : Nat) : Int) = ((kf i : Nat) : Int) := by
      rw [List.size_toArray, ← len2, hlen]
    rw [e]
    exact KskEnd.intro F N fun p hp => hp
  · obtain ⟨x, r, xs, hx, rx, hr, hlen⟩ := at' i v hv
    refine ⟨x, H, relocal (t' := tk') I hm hlk (fun b o n e => (N (b, o) (allNews_mem.mpr ⟨n, e⟩)).1) F.ns, ?_, q i x hx fun j hj => ?_⟩
    · obtain ⟨u, hu, ru⟩ := rv.get hx
      rw [hv] at hu
      cases hu
      exact ru
    · have := best j (by omega)
      exact ⟨by omega, fun h => by have := this.2 h; omega⟩
def tMinLen (K : PySem.W.Frag) (ta : TA) : TE := fun σ H Q => ta σ H fun vs H1 => ∃ (a : Addr) (us : List V) (kf : Nat → Nat), vs = [.ref a] ∧ SqL K H1 a us ∧ 0 < us.length ∧ (∀ (i : Nat) (v : V), us[i]? = some v → ∃ r xs, v = .ref r ∧ SqL K H1 r xs ∧ xs.length = kf i) ∧
  ∀ (i : Nat) (v : V), us[i]? = some v → (∀ j, j < us.length → kf i ≤ kf j ∧ (j < i → kf i < kf j)) → Q v H1
theorem pe_minLen {e : Expr} {ta : TA} {p p2 kpos pos : Pos} (hc : X.calm = true) (hg : Gl X "min") (hm : X.mg "min" = none) (hg2 : Gl X "len") (hm2 : X.mg "len" = none) (ha : PA X [e] ta)
    (h1 : backTo pos (starEach [e] X.env) = (false, eval e X.env) :: backTo pos (starEach [] X.env) := by rfl) (h2 : (backTo pos (starEach [e] X.env)).any (·.1) = false := by rfl) : PE X (.Call (.Name "min" p) [e] [⟨some "key", .Name "len" p2, kpos⟩] pos) (tMinLen X.K ta) := by
  constructor
  intro pins s σ H Q I h
  refine wpAny_Call_Name_kw (ld_blt I hg hm (u := .builtin "min") (by decide +kernel) ?_ (by decide) (by decide))
  refine PyProof.Rows.callWith_kw (thn (ha.run pos pins s σ H _ I h) fun vs s1 hv => ?_) h1 h2 (by rfl) (by rfl)
  obtain ⟨ys, H1, I1, r1, a, us, kf, rfl, q1, q2, q3, q4⟩ := hv
  show wpAny _ _ (evalAll ((do let v ← eval (.Name "len" p2) X.env; standAt pos; pure v) :: [])) _ _ s1
  refine wpAny_evalAll_cons (wpAny_bind (ld_blt I1 hg2 hm2 (u := .builtin "len") (by decide +kernel) (wpAny_bind (wpAny_standAt (wpAny_pure (wpAny_evalAll_nil ?_)))) (by decide) (by decide)))
  rw [Vals.ref1 r1]
  exact min_len hc I1 q1 q2 q3 q4
end
end Gp

namespace Gr
abbrev shF (b x : List Nat) : List Nat := if x.length < b.length then x else b
theorem min_stay : ∀ {ls : List (List Nat)} {b : List Nat}, (∀ x ∈ ls, b.length ≤ x.length) → ls.foldl shF b = b
  | [], b, _ => rfl
  | l :: ls, b, h => by
    have : ¬ l.length < b.length := by have := h l List.mem_cons_self; omega
    rw [List.foldl_cons, shF, if_neg this]
    exact min_stay fun x hx => h x (List.mem_cons_of_mem _ hx)
theorem min_go : ∀ {ls : List (List Nat)} {b l : List Nat} {i : Nat}, ls[i]? = some l → l.length < b.length → (∀ j l', ls[j]? = some l' → l.length ≤ l'.length ∧ (j < i → l.length < l'.length)) → ls.foldl shF b = l
  | [], b, l, i, h, _, _ => by simp at h
  | x :: ls, b, l, 0, h, hb, all => by
    cases h
    rw [List.foldl_cons, shF, if_pos hb]
    exact min_stay fun y hy => by
      obtain ⟨j, hj⟩ := List.mem_iff_getElem?.mp hy
      exact (all (j + 1) y hj).1
  | x :: ls, b, l, i + 1, h, hb, all => by
    rw [List.foldl_cons]
    refine min_go (i := i) h ?_ fun j l' hj => ⟨(all (j + 1) l' hj).1, fun c => (all (j + 1) l' hj).2 (by omega)⟩
    unfold shF
    split
    · exact (all 0 x rfl).2 (Nat.succ_pos _)
    · exact hb
theorem minLen_at : ∀ {ls : List (List Nat)} {l : List Nat} {i : Nat}, ls[i]? = some l → (∀ j l', ls[j]? = some l' → l.length ≤ l'.length ∧ (j < i → l.length < l'.length)) → minLen ls = l
  | [], l, i, h, _ => by simp at h
  | x :: ls, l, 0, h, all => by
    cases h
    exact min_stay fun y hy => by
      obtain ⟨j, hj⟩ := List.mem_iff_getElem?.mp hy
      exact (all (j + 1) y hj).1
  | x :: ls, l, i + 1, h, all => min_go (i := i) h ((all 0 x rfl).2 (Nat.succ_pos _)) fun j l' hj => ⟨(all (j + 1) l' hj).1, fun c => (all (j + 1) l' hj).2 (by omega)⟩
end Gr
namespace W35
open PySem PySem.Spec PyProof.Rows L2 Gs Gp Gr
/-! ### shortest_lap -/
theorem op_catK {X : Cx} {K : PySem.W.Frag} (hk : X.K = K) : True := True.intro
abbrev NSh : List Str := ["start", "ties", "onward", "laps", "number"]
theorem scShort : FnScope NSh ["start", "ties", "onward"] (defScope sShort) := ⟨rfl, rfl, rfl, by decide +kernel, rfl, by decide +kernel, by decide +kernel⟩
def spShort : Sp := fun vs H Q _ => ∃ (s : Nat) (T O : Addr) (part inner : List Nat) (us : List V) (ts : List Tie), vs = [.int s, .ref T, .ref O] ∧ H T = some (.lst us) ∧ Ties H us ts ∧ EndsA H O part (owOf (sT ts) inner) ∧ Pc ts part inner ∧ s ∈ part ∧ (∃ n ∈ inner, sT ts n = s) ∧
  ∀ H' r, Same H H' → H r = none → H' r = some (.lst ((shortLap (eT ts) (owOf (sT ts) inner) (rtOf ts part inner) s).map vI)) → Q (.ref r) H'
section
variable {P : Program} {w : World} {K : PySem.W.Frag} {mg : Str → Option Value} {base : Heap} {f f1 f2 : Addr} {fd d1 d2 : FuncData} {k : Nat}
theorem ok_short (F : Fun K "shortest_lap" "shortest_lap" sShort f fd) (RT : Cl P w K mg base CX0 k "row_to" ["start", "end", "ties", "onward"] spRowTo f1 d1) (mm : mg "min" = none) (mn : mg "len" = none) : FnOk P w K mg base CX0 (k + 1) f fd ["start", "ties", "onward"] spShort := by
  refine F.ok scShort (fun vs H Q E h => ?_) (fun cdv A outer s H vs Q E hr h => ?_)
  · obtain ⟨s, T, O, part, inner, us, ts, rfl, _⟩ := h
    rfl
  · obtain ⟨s0, T, O, part, inner, us, ts, rfl, hT, tu, en, pc, sp, hn, q⟩ := h
    refine ⟨_, pss_cons (ps_setLc (i := 3) (own := [("number", 4)]) (g := gName 4) (tt := tYes) rfl scShort.nd rfl rfl (sw_true rfl rfl rfl rfl) (pi_list (pe_dget (u1 hr) (pv 2) (pv 0) (fun _ _ => rfl))) (blkOk_by (own := [("number", 4)]) (N := NSh) (sc := defScope sShort) (by decide +kernel))
        (fun _ _ _ _ _ => pg_name (i := 4) scShort.nd rfl (Or.inl rfl)) (fun _ _ _ _ _ => pts_nil)
        (fun _ _ _ _ _ => pe_op op_cat (pe_lst (pa_cons (pv 4) pa_nil)) (pe_call RT.ok hr (by rfl) RT.g RT.kp RT.bd .nil pass0 (pa_cons (pe_ix (ix_tupK (K := K) rfl) (pe_ix (ix_listK (K := K) rfl) (pv 1) (pv 4) (fun _ _ => rfl)) pe_int (fun _ _ => rfl)) (pa_cons (pv 0) (pa_cons (pv 1) (pa_cons (pv 2) pa_nil)))))))
      (pss_one (ps_ret (pe_minLen rfl (by rfl) mm (by rfl) mn (pa_cons (pv 3) pa_nil)))), ?_⟩
    obtain ⟨ad, dg, had⟩ := en.get2 (fun _ _ e => e) sp
    have ns1 : ∀ n ∈ owOf (sT ts) inner s0, n ∈ inner ∧ sT ts n = s0 := fun n h => ow_mem.mp h
    have nne : 0 < (owOf (sT ts) inner s0).length := by
      obtain ⟨n, h1, h2⟩ := hn
      exact List.length_pos_of_mem (ow_mem.mpr ⟨h1, h2⟩)
    have nlen : (owOf (sT ts) inner s0).length ≤ 900 := by
      have : (owOf (sT ts) inner s0).length ≤ inner.length := by
        unfold owOf adjOf
        exact Nat.le_trans (by first | exact List.length_filterMap_le _ _ | (rw [List.length_map]; exact List.length_filter_le _ _)) (Nat.le_of_eq (List.length_map ..))
      have := pc.il
      omega
    unfold shortLap at q
    generalize owOf (sT ts) inner s0 = ns at *
    refine ⟨_, rfl, _, rfl, O, _, rfl, dg, ad, rfl, ⟨_, SqL.of had⟩, fun D hD => ?_⟩
    have ml : (ns.map vI).length = ns.length := List.length_map ..
    have pl := pc.pl
    refine lc_list (K := K) (xs := ns.map vI) (fun i H' => ∃ ps, H' D = some (.lst ps) ∧ Lss H' ps ((ns.take i).map fun n => n :: rtOf ts part inner (eT ts n) s0) ∧ Same H H' ∧ ∀ v ∈ ps, ∃ r, v = .ref r ∧ H r = none ∧ r ≠ D)
      ⟨[], upd_same, .nil, same_new hD, fun v hv => absurd hv List.not_mem_nil⟩ (fun i H' _ hp => ?_) (fun i x H2 hx hp => ?_) (fun H2 hp => ?_)
    · obtain ⟨_, _, _, sm, _⟩ := hp
      exact SqL.of (sm _ _ had)
    · obtain ⟨ps, e2, pr, sm, fr⟩ := hp
      have il : i < ns.length := by
        have := (List.getElem?_eq_some_iff.mp hx).1
        rw [ml] at this
        exact this
      have ei : ns[i]? = some ns[i] := List.getElem?_eq_getElem il
      rw [List.getElem?_map, ei] at hx
      cases hx
      obtain ⟨nin, ns0⟩ := ns1 _ (List.getElem_mem il)
      obtain ⟨t, l, ut, ht, _⟩ := tu.num (pc.lt _ nin)
      have lp := pr.len
      rw [List.length_map, List.length_take] at lp
      have aP := (pc.hin _ nin).2
      rw [take_map ei]
      generalize ns[i] = n at *
      refine ⟨rfl, ?_⟩
      refine ⟨_, rfl, by show 1 ≤ sizeLine; decide, fun L1 hL1 => ?_⟩
      have s3 := same_new (o := .lst [.int (n : Nat)]) hL1
      have sm3 := sm.trans s3
      refine ⟨_, rfl, _, rfl, T, _, _, _, rfl, rfl, SqL.of (sm3 _ _ hT), atI_nat ut, t, _, 1, _, rfl, rfl, SqT.of (sm3 _ _ ht), atI_nat (j := 1) rfl, _, rfl, _, rfl, _, rfl, ?_⟩
      refine ⟨_, _, T, O, part, us, ts, inner, rfl, sm3 _ _ hT, tu.tk (tk_same sm3), en.same sm3, aP, fun n hn => ⟨pc.lt n hn, pc.hin n hn⟩, pc.str _ aP _ sp, pl, fun H4 r s4 hr4 e4 => ?_⟩
      have rl : (rtOf ts part inner (eT ts n) s0).length ≤ part.length := rowTo_len pc.hin aP
      refine ⟨L1, r, _, _, rfl, rfl, s4 _ _ upd_same, e4, ?_, fun C hC => ?_⟩
      · rw [List.length_map]
        show 1 + _ ≤ _
        exact Nat.le_of_lt (small1000 (by have := rl; show 1 + (rtOf ts part inner (eT ts n) s0).length ≤ 1000; omega))
      have s5 := same_new (o := .lst ([V.int (n : Nat)] ++ (rtOf ts part inner (eT ts n) s0).map vI)) hC
      have s25 := s3.trans (s4.trans s5)
      have e5 := s25 _ _ e2
      have CD : C ≠ D := fun e => by
        have := (s3.trans s4) _ _ e2
        rw [← e, hC] at this
        cases this
      refine ⟨ps, e5, small1000 (by omega), ps ++ [.ref C], upd_same, ?_, keep_new hD (sm.trans s25), fun v hv => ?_⟩
      · have nm : V.ref D ∉ ps ++ [.ref C] := fun h => by
          rcases List.mem_append.mp h with h | h
          · obtain ⟨r, e, _, n⟩ := fr _ h
            cases e
            exact n rfl
          · cases List.mem_singleton.mp h
            exact CD rfl
        exact Lss.keep (p := D) (q := D) (fun b xs n _ h => by rw [upd_ne n]; exact h) nm nm ((pr.same s25).app (.cons upd_same .nil))
      · rcases List.mem_append.mp hv with h | h
        · exact fr v h
        · rw [List.mem_singleton.mp h]
          exact ⟨C, rfl, free_same (sm.trans (s3.trans s4)) hC, CD⟩
    · obtain ⟨ps, e2, pr, sm, fr⟩ := hp
      rw [ml, List.take_length] at pr
      have lp := pr.len
      rw [List.length_map] at lp
      refine ⟨_, rfl, D, ps, fun i => (((ns.map fun n => n :: rtOf ts part inner (eT ts n) s0)).getD i []).length, rfl, SqL.of e2, by omega, fun i v hv => ?_, fun i v hv best => ?_⟩
      · obtain ⟨a, p, rfl, ep, ha⟩ := pr.at hv
        refine ⟨a, _, rfl, SqL.of ha, ?_⟩
        rw [List.length_map]
        show _ = (List.getD _ i []).length
        rw [List.getD_eq_getElem?_getD, ep]
        rfl
      · obtain ⟨a, p, rfl, ep, ha⟩ := pr.at hv
        obtain ⟨r, e, fa, _⟩ := fr _ (List.mem_of_getElem? hv)
        cases e
        have em : minLen (ns.map fun n => n :: rtOf ts part inner (eT ts n) s0) = p := minLen_at ep fun j l' hj => by
          have jl : j < ps.length := by
            have := (List.getElem?_eq_some_iff.mp hj).1
            rw [List.length_map] at this
            omega
          have := best j jl
          simp only [List.getD_eq_getElem?_getD, ep, hj] at this
          exact this
        exact q H2 a sm fa (by rw [em]; exact ha)
end
end W35

namespace W35
open PySem PySem.Spec PyProof.Rows L2 Gs Gp Gr
/-! ### told_lap -/
abbrev NTl : List Str := ["came_by", "ties", "part", "inner", "many", "onward", "lap", "starts", "start", "at", "number"]
theorem scTold : FnScope NTl ["came_by", "ties", "part", "inner", "many"] (defScope sTold) := ⟨rfl, rfl, rfl, by decide +kernel, rfl, by decide +kernel, by decide +kernel⟩
abbrev lapP (ts : List Tie) (m : Nat) (c : Cm) (part inner : List Nat) : List Nat := lapOf (sT ts) (eT ts) (lT ts) m c part inner
abbrev stP (ts : List Tie) (m : Nat) (c : Cm) (part inner : List Nat) : Nat := firstIn c ((lapP ts m c part inner).map (sT ts))
def spTold : Sp := fun vs H Q _ => ∃ (C T Pa N : Addr) (m : Nat) (c : Cm) (part inner : List Nat) (us : List V) (ts : List Tie) (bs : List Nat), vs = [.ref C, .ref T, .ref Pa, .ref N, .int m] ∧ H C = some (.dK (c.map kvC)) ∧ H T = some (.lst us) ∧ Ties H us ts ∧ CmOk ts bs c ∧ H Pa = some (.lst (part.map vI)) ∧ H N = some (.lst (inner.map vI)) ∧
  Pc ts part inner ∧ part.Nodup ∧ (∀ x ∈ part, x ∈ keys c) ∧ inner ≠ [] ∧ (∀ lot < m, ∃ n ∈ inner, lot ∈ lT ts n) ∧ m ≤ 100 ∧ (lapP ts m c part inner).length ≤ 900 ∧ Lap (sT ts) (eT ts) (lT ts) inner m (lapP ts m c part inner) ∧
  ∀ H' r r1 r2, Same H H' → H r = none → H r1 = none → H r2 = none → r1 ≠ r2 → H' r = some (.tup [.str "lap", .ref r1, .ref r2]) → H' r1 = some (.lst ((rowBack (sT ts) c (stP ts m c part inner)).map vI)) → H' r2 = some (.lst ((turned (sT ts) (lapP ts m c part inner) (stP ts m c part inner)).map vI)) → Q (.ref r) H'
section
variable {P : Program} {w : World} {K : PySem.W.Frag} {mg : Str → Option Value} {base : Heap} {f f1 f2 f3 f4 f5 : Addr} {fd d1 d2 d3 d4 d5 : FuncData} {k : Nat}
theorem ok_told (F : Fun K "told_lap" "told_lap" sTold f fd) (NU : Cl P w K mg base CX0 k "numbers_by_starts" ["entries", "ties", "numbers"] spNums f1 d1) (LA : Cl P w K mg base CX0 k "lap_with_all" ["ties", "inner", "many", "onward"] spLapAll f2 d2) (SH : Cl P w K mg base CX0 k "shortest_lap" ["start", "ties", "onward"] spShort f3 d3)
    (FI : Cl P w K mg base CX0 k "first_come_to" ["came_by", "entries"] spFirst f4 d4) (BA : Cl P w K mg base CX0 k "row_back" ["came_by", "ties", "entry"] spBack f5 d5) : FnOk P w K mg base CX0 (k + 1) f fd ["came_by", "ties", "part", "inner", "many"] spTold := by
  refine F.ok scTold (fun vs H Q E h => ?_) (fun cdv A outer s H vs Q E hr h => ?_)
  · obtain ⟨C, T, Pa, N, m, c, part, inner, us, ts, bs, rfl, _⟩ := h
    rfl
  · obtain ⟨C, T, Pa, N, m, c, part, inner, us, ts, bs, rfl, hC, hT, tu, cok, hPa, hN, pc, pnd, pk, ine, lots, m1, ll, lap, q⟩ := h
    refine ⟨_, pss_cons (ps_set (i := 5) scTold.nd rfl (.inl rfl) (pe_call NU.ok hr (by rfl) NU.g NU.kp NU.bd .nil pass0 (pa_cons (pv 2) (pa_cons (pv 1) (pa_cons (pv 3) pa_nil)))))
      (pss_join (ps_if (pt_truth (pv 4) (by intro _; rfl))
        (pss_one (ps_set (i := 6) scTold.nd rfl (.inl rfl) (pe_call LA.ok hr (by rfl) LA.g LA.kp LA.bd .nil pass0 (pa_cons (pv 1) (pa_cons (pv 3) (pa_cons (pv 4) (pa_cons (pv 5) pa_nil)))))))
        (pss_one (ps_set (i := 6) scTold.nd rfl (.inl rfl) (pe_call SH.ok hr (by rfl) SH.g SH.kp SH.bd .nil pass0 (pa_cons (pe_call FI.ok hr (by rfl) FI.g FI.kp FI.bd .nil pass0 (pa_cons (pv 0) (pa_cons (pv 2) pa_nil))) (pa_cons (pv 1) (pa_cons (pv 5) pa_nil)))))))
      (pss_cons (ps_setLc (i := 7) (own := [("number", 10)]) (g := gName 10) (tt := tYes) rfl scTold.nd rfl rfl (sw_true rfl rfl rfl rfl) (pi_list (pv 6)) (blkOk_by (own := [("number", 10)]) (N := NTl) (sc := defScope sTold) (by decide +kernel))
        (fun _ _ _ _ _ => pg_name (i := 10) scTold.nd rfl (Or.inl rfl)) (fun _ _ _ _ _ => pts_nil)
        (fun _ _ _ _ _ => pe_ix (ix_tupK (K := K) rfl) (pe_ix (ix_listK (K := K) rfl) (pv 1) (pv 10) (fun _ _ => rfl)) pe_int (fun _ _ => rfl)))
      (pss_cons (ps_set (i := 8) scTold.nd rfl (.inl rfl) (pe_call FI.ok hr (by rfl) FI.g FI.kp FI.bd .nil pass0 (pa_cons (pv 0) (pa_cons (pv 7) pa_nil))))
      (pss_cons (ps_set (i := 9) scTold.nd rfl (.inl rfl) (pe_bm PySem.F.plainAttrs_list PySem.F.slot_list_index PySem.F.type_list_index mt_index (pv 7) (pa_cons (pv 8) pa_nil)))
      (pss_one (ps_ret (pe_tup (pa_cons pe_str (pa_cons (pe_call BA.ok hr (by rfl) BA.g BA.kp BA.bd .nil pass0 (pa_cons (pv 0) (pa_cons (pv 1) (pa_cons (pv 8) pa_nil)))) (pa_cons (pe_op op_cat (pe_slice sl_list (pv 6) (po_some (pv 9)) po_none) (pe_slice sl_list (pv 6) po_none (po_some (pv 9)))) pa_nil)))))))))), ?_⟩
    have pl := pc.pl
    have il := pc.il
    have cl := cok.len
    refine ⟨_, rfl, _, rfl, _, rfl, Pa, T, N, part, inner, us, ts, rfl, hPa, hT, tu, hN, pnd, fun n hn => ⟨pc.lt n hn, (pc.hin n hn).1⟩, pl, il, fun H1 O s1 hO en => ?_⟩
    refine ⟨fun σ' H' => ∃ L, σ' = [some (.ref C), some (.ref T), some (.ref Pa), some (.ref N), some (.int m), some (.ref O), some (.ref L), none, none, none, none] ∧ Same H H' ∧ H L = none ∧ H' L = some (.lst ((lapP ts m c part inner).map vI)), ?_, ?_⟩
    · refine ⟨_, rfl, _, rfl, ?_⟩
      by_cases m0 : m = 0
      · subst m0
        refine iteN rfl ?_
        have pne : part ≠ [] := fun e => by
          have := (pc.hin _ (head_mem ine)).1
          rw [e] at this
          exact absurd this List.not_mem_nil
        have ex : ∃ x ∈ part, x ∈ keys c := ⟨_, head_mem pne, pk _ (head_mem pne)⟩
        have fm := (firstIn_mem ex).1
        refine ⟨_, rfl, _, rfl, C, Pa, c, part, rfl, s1 _ _ hC, s1 _ _ hPa, ex, pl, cl, fun H2 s2 => ?_⟩
        have s12 := s1.trans s2
        have so : ∃ n ∈ inner, sT ts n = firstIn c part := by
          have hm := head_mem ine
          rcases (pc.str _ fm _ (pc.hin _ hm).1).first with e | ⟨y, hy, _⟩
          · exact ⟨_, hm, e.symm⟩
          · obtain ⟨n, hn, h, _⟩ := adjIn_mem.mp hy
            exact ⟨n, hn, h⟩
        refine ⟨_, rfl, _, rfl, _, T, O, part, inner, us, ts, rfl, s12 _ _ hT, tu.tk (tk_same s12), en.same s2, pc, fm, so, fun H3 L s3 hL e3 => ?_⟩
        exact ⟨L, rfl, s12.trans s3, free_same s12 hL, e3⟩
      · refine iteP (by simp; omega) ?_
        refine ⟨_, rfl, _, rfl, _, rfl, _, rfl, T, N, O, m, part, inner, us, ts, rfl, s1 _ _ hT, tu.tk (tk_same s1), s1 _ _ hN, en, pc, lots, by omega, m1, fun H3 L s3 hL e3 => ?_⟩
        refine ⟨L, rfl, s1.trans s3, free_same s1 hL, ?_⟩
        rw [e3]
        unfold lapP lapOf
        rw [if_neg m0]
    · rintro σ' H2 ⟨L, rfl, s2, hL, e2⟩
      obtain ⟨lne, lw, lsub, _⟩ := lap
      generalize eL : lapP ts m c part inner = lp at *
      have hst : stP ts m c part inner = firstIn c (lp.map (sT ts)) := by
        unfold stP
        rw [eL]
      rw [hst] at q
      refine ⟨_, rfl, L, rfl, ⟨_, SqL.of e2⟩, fun D hD => ?_⟩
      have ml : (lp.map vI).length = lp.length := List.length_map ..
      refine lc_list (K := K) (xs := lp.map vI) (fun i H' => H' D = some (.lst (((lp.take i).map (sT ts)).map vI)) ∧ Same H2 H')
        ⟨upd_same, same_new hD⟩ (fun i H' _ hp => ?_) (fun i x H3 hx hp => ?_) (fun H3 hp => ?_)
      · exact SqL.of (hp.2 _ _ e2)
      · obtain ⟨e3, s3⟩ := hp
        have il' : i < lp.length := by
          have := (List.getElem?_eq_some_iff.mp hx).1
          rw [ml] at this
          exact this
        have ei : lp[i]? = some lp[i] := List.getElem?_eq_getElem il'
        rw [List.getElem?_map, ei] at hx
        cases hx
        obtain ⟨t, l, ut, ht, _⟩ := tu.num (pc.lt _ (lsub _ (List.getElem_mem il')))
        have s23 := s2.trans s3
        refine ⟨rfl, ?_⟩
        refine ⟨_, rfl, _, rfl, T, _, _, _, rfl, rfl, SqL.of (s23 _ _ hT), atI_nat ut, t, _, 0, _, rfl, rfl, SqT.of (s23 _ _ ht), atI_nat (j := 0) rfl, ?_⟩
        refine ⟨_, e3, ?_, ?_, keep_new hD s3⟩
        · rw [List.length_map, List.length_map, List.length_take]
          exact small1000 (by omega)
        · rw [upd_same, take_map ei, List.map_append]
          rfl
      · obtain ⟨e3, s3⟩ := hp
        rw [ml, List.take_length] at e3
        have s03 := s2.trans s3
        have hd := head_mem lne
        have ex : ∃ x ∈ lp.map (sT ts), x ∈ keys c := ⟨_, List.mem_map.mpr ⟨_, hd, rfl⟩, pk _ (pc.hin _ (lsub _ hd)).1⟩
        have fm := firstIn_mem ex
        have sl : (lp.map (sT ts)).length ≤ 900 := by
          rw [List.length_map]
          exact ll
        refine ⟨_, rfl, _, rfl, C, D, c, lp.map (sT ts), rfl, s03 _ _ hC, e3, ex, sl, cl, fun H4 s4 => ?_⟩
        have s04 := s03.trans s4
        have e4 := s4 _ _ e3
        have il4 : (lp.map (sT ts)).idxOf (firstIn c (lp.map (sT ts))) < (lp.map (sT ts)).length := List.idxOf_lt_length_iff.mpr fm.1
        have gs := List.getElem_idxOf il4
        refine ⟨_, rfl, .inl ⟨rfl, _, SqL.of e4⟩, _, rfl, D, _, _, (lp.map (sT ts)).idxOf (firstIn c (lp.map (sT ts))), .int (firstIn c (lp.map (sT ts)) : Nat), rfl, rfl, SqL.of e4, rfl, flat_ints, ?_, ?_, ?_, ?_⟩
        · rw [List.getElem?_map, List.getElem?_eq_getElem il4, gs]
          rfl
        · simp [eqV]
        · intro j z hj hz
          rw [List.getElem?_map] at hz
          have jl : j < (lp.map (sT ts)).length := Nat.lt_trans hj il4
          rw [List.getElem?_eq_getElem jl] at hz
          cases hz
          have ne := List.not_of_lt_findIdx hj
          have ne2 : (lp.map (sT ts))[j] ≠ firstIn c (lp.map (sT ts)) := fun e => by
            rw [e] at ne
            simp at ne
          simp [eqV, vI]
          simp at ne2
          omega
        unfold turned at q
        rw [List.length_map] at il4
        generalize firstIn c (lp.map (sT ts)) = st at *
        generalize (lp.map (sT ts)).idxOf st = at' at *
        refine ⟨_, rfl, _, rfl, _, rfl, C, T, c, st, us, ts, bs, rfl, s04 _ _ hC, s04 _ _ hT, tu.tk (tk_same s04), cok, fm.2, fun H5 R1 s5 hR1 e5 => ?_⟩
        have s05 := s04.trans s5
        have e25 := (s3.trans (s4.trans s5)) _ _ e2
        have six : HT.sIx (lp.map vI).length 0 (some (at' : Int)) = at' := by
          rw [ml, HT.sIx_nat]
          omega
        have six2 : HT.sIx (lp.map vI).length (lp.map vI).length (some (at' : Int)) = at' := by
          rw [ml, HT.sIx_nat]
          omega
        have c1 : cutV (lp.map vI) (some (at' : Int)) none = (lp.drop at').map vI := by
          unfold cutV
          rw [six]
          show (List.drop at' (lp.map vI)).take ((lp.map vI).length - at') = _
          rw [List.take_of_length_le (by rw [List.length_drop]; exact Nat.le_refl _), List.map_drop]
        have c2 : cutV (lp.map vI) none (some (at' : Int)) = (lp.take at').map vI := by
          unfold cutV
          rw [six2]
          show (List.drop 0 (lp.map vI)).take (at' - 0) = _
          rw [List.drop_zero, Nat.sub_zero, List.map_take]
        refine ⟨_, rfl, _, rfl, _, rfl, L, _, rfl, SqL.of e25, fun D1 hD1 => ?_⟩
        rw [c1]
        have s6 := same_new (o := .lst ((lp.drop at').map vI)) hD1
        refine ⟨_, rfl, _, rfl, _, rfl, L, _, rfl, SqL.of (s6 _ _ e25), fun D2 hD2 => ?_⟩
        rw [c2]
        have s7 := same_new (o := .lst ((lp.take at').map vI)) hD2
        refine ⟨D1, D2, _, _, rfl, rfl, s7 _ _ upd_same, upd_same, ?_, fun R2 hR2 => ?_⟩
        · rw [List.length_map, List.length_map, List.length_drop, List.length_take]
          exact Nat.le_of_lt (small1000 (by omega))
        have s8 := same_new (o := .lst ((lp.drop at').map vI ++ (lp.take at').map vI)) hR2
        have s58 := s6.trans (s7.trans s8)
        refine ⟨by show 3 ≤ sizeLine; decide, fun t ht => ?_⟩
        have s9 := same_new (o := .tup [.str "lap", .ref R1, .ref R2]) ht
        have s59 := s58.trans s9
        have R12 : R1 ≠ R2 := fun e => by
          have := (s6.trans s7) _ _ e5
          rw [e, hR2] at this
          cases this
        refine q _ t R1 R2 (s05.trans s59) (free_same (s05.trans s58) ht) (free_same s04 hR1) (free_same (s05.trans (s6.trans s7)) hR2) R12 upd_same (s59 _ _ e5) ?_
        rw [s9 _ _ upd_same, List.map_append]
end
end W35

namespace Gr
theorem two_pieces {es : List Nat} {ts : List (Nat × Nat)} {p q : List Nat} {i j : Nat} {x : Nat} (h1 : (pieces es ts)[i]? = some p) (h2 : (pieces es ts)[j]? = some q) (hx : x ∈ p) (hy : x ∈ q) : i = j := by
  obtain ⟨_, _, pw, _⟩ := pieces_ok es ts
  rw [List.pairwise_iff_getElem] at pw
  obtain ⟨l1, rfl⟩ := List.getElem?_eq_some_iff.mp h1
  obtain ⟨l2, rfl⟩ := List.getElem?_eq_some_iff.mp h2
  rcases Nat.lt_trichotomy i j with l | l | l
  · exact absurd .refl (pw i j l1 l2 l x hy x hx)
  · exact l
  · exact absurd .refl (pw j i l2 l1 l x hx x hy)
theorem pieces_len {es : List Nat} {ts : List (Nat × Nat)} : (pieces es ts).length ≤ es.length := by
  have h := pieces_ok es ts
  have nd : ((pieces es ts).map fun p => p.headD 0).Nodup := by
    rw [List.Nodup, List.pairwise_iff_getElem]
    intro i j il jl lt e
    rw [List.length_map] at il jl
    rw [List.getElem_map, List.getElem_map] at e
    have e2 : (pieces es ts)[i].headD 0 = (pieces es ts)[j].headD 0 := e
    have i1 := head_mem (h.2.2.2 _ (List.getElem_mem (Nat.lt_trans lt jl))).2.1
    have j1 := head_mem (h.2.2.2 _ (List.getElem_mem jl)).2.1
    rw [e2] at i1
    have := two_pieces (List.getElem?_eq_getElem (Nat.lt_trans lt jl)) (List.getElem?_eq_getElem jl) i1 j1
    omega
  have := pigl nd fun x hx => by
    obtain ⟨p, hp, rfl⟩ := List.mem_map.mp hx
    exact (h.2.1 p hp _ (head_mem (h.2.2.2 p hp).2.1)).1
  rw [List.length_map] at this
  exact this
theorem lapLots_len2 {S E : Nat → Nat} {L : Nat → List Nat} {inner : List Nat} {rt : Nat → Nat → List Nat} {b M : Nat} (hb : ∀ n ∈ inner, ∀ y, (rt (E n) y).length ≤ b) (hs : ∀ {m : Nat}, m ≤ M → ∀ n ∈ lapLots S E L inner rt m, n ∈ inner) : ∀ m, m ≤ M → (lapLots S E L inner rt m).length ≤ m * (b + 1)
  | 0, _ => Nat.zero_le _
  | m + 1, hm => by
    have ih := lapLots_len2 hb hs m (by omega)
    have e : lapLots S E L inner rt (m + 1) = lapStep S E L inner rt (lapLots S E L inner rt m) m := by
      unfold lapLots
      rw [List.range_succ, List.foldl_append]
      rfl
    rw [e]
    have hs0 := hs (m := m) (by omega)
    generalize lapLots S E L inner rt m = lap at *
    unfold lapStep
    rw [Nat.succ_mul]
    split
    · omega
    · rw [List.length_append, List.length_append, List.length_singleton]
      by_cases le : lap = []
      · rw [if_pos le]
        simp
        omega
      · rw [if_neg le]
        have := hb _ (hs0 _ (last_mem le)) (S ((inner.filter (hasLot L m)).headD 0))
        omega
end Gr
namespace W35
open PySem PySem.Spec PyProof.Rows L2 Gs Gp Gr
theorem _root_.Gp.Cl.mono {P : Program} {w : World} {K : PySem.W.Frag} {mg : Str → Option Value} {base : Heap} {CX : CXT} {j k : Nat} {x : Str} {ps : List Str} {sp : Sp} {f : Addr} {fd : FuncData} (h : Cl P w K mg base CX j x ps sp f fd) (l : j ≤ k) : Cl P w K mg base CX k x ps sp f fd := ⟨h.g, h.ok.mono l, h.kp, h.bd⟩
/-! ### whys told -/
def WhyV (aN : Addr) (H : Hp) (v : V) (q : List Nat × Option Nat) : Prop := ∃ t a b, v = .ref t ∧ H t = some (.tup [.ref a, .ref b]) ∧ H a = some (.tup (q.1.map vI)) ∧ (match q.2 with | none => b = aN | some lot => H b = some (.tup [.str "lot", .int (lot : Nat)]))
theorem WhyV.tk {aN : Addr} {H H' : Hp} {v : V} {q : List Nat × Option Nat} (k : ∀ b xs, H b = some (.tup xs) → H' b = some (.tup xs)) (h : WhyV aN H v q) : WhyV aN H' v q := by
  obtain ⟨t, a, b, e, h1, h2, h3⟩ := h
  refine ⟨t, a, b, e, k _ _ h1, k _ _ h2, ?_⟩
  cases z : q.2 with
  | none => rw [z] at h3; exact h3
  | some lot => rw [z] at h3; exact k _ _ h3
inductive Whs (aN : Addr) (H : Hp) : List V → List (List Nat × Option Nat) → Prop
  | nil : Whs aN H [] []
  | cons {v : V} {us : List V} {q : List Nat × Option Nat} {qs : List (List Nat × Option Nat)} : WhyV aN H v q → Whs aN H us qs → Whs aN H (v :: us) (q :: qs)
theorem Whs.tk {aN : Addr} {H H' : Hp} (k : ∀ b xs, H b = some (.tup xs) → H' b = some (.tup xs)) : ∀ {us : List V} {qs : List (List Nat × Option Nat)}, Whs aN H us qs → Whs aN H' us qs
  | _, _, .nil => .nil
  | _, _, .cons h r => .cons (h.tk k) (r.tk k)
theorem Whs.len {aN : Addr} {H : Hp} : ∀ {us : List V} {qs : List (List Nat × Option Nat)}, Whs aN H us qs → us.length = qs.length
  | _, _, .nil => rfl
  | _, _, .cons _ r => congrArg (· + 1) r.len
theorem Whs.app {aN : Addr} {H : Hp} : ∀ {us vs : List V} {ps qs : List (List Nat × Option Nat)}, Whs aN H us ps → Whs aN H vs qs → Whs aN H (us ++ vs) (ps ++ qs)
  | _, _, _, _, .nil, h => h
  | _, _, _, _, .cons h r, h2 => .cons h (r.app h2)
theorem Whs.at {aN : Addr} {H : Hp} : ∀ {us : List V} {qs : List (List Nat × Option Nat)}, Whs aN H us qs → ∀ {i : Nat} {v : V}, us[i]? = some v → ∃ q, qs[i]? = some q ∧ WhyV aN H v q
  | _, _, .nil, i, v, e => by simp at e
  | _, _, .cons h r, 0, v, e => by
    cases e
    exact ⟨_, rfl, h⟩
  | _, _, .cons h r, i + 1, v, e => r.at (i := i) e
theorem rg_vI (n : Nat) : rgV 0 (n : Int) = (List.range n).map vI := by
  unfold rgV
  rw [Int.sub_zero, Int.toNat_natCast]
  apply List.map_congr_left
  intro i _
  rw [Int.zero_add]
  rfl
/-! ### sought -/
abbrev NSo : List Str := ["count", "begins", "ties", "many", "numbers", "came_by", "parts", "told", "part", "inner", "lot"]
theorem scSought : FnScope NSo ["count", "begins", "ties", "many"] (defScope sSought) := ⟨rfl, rfl, rfl, by decide +kernel, rfl, by decide +kernel, by decide +kernel⟩
abbrev souT (ts : List Tie) (m cnt : Nat) (bs : List Nat) : Fd := sought (sT ts) (eT ts) (lT ts) m ts.length cnt bs
def SouQ (aN : Addr) (H : Hp) (Q : VK) : Fd → Prop
  | .lap stem lap => ∀ H' r r1 r2, Same H H' → H r = none → H r1 = none → H r2 = none → r1 ≠ r2 → H' r = some (.tup [.str "lap", .ref r1, .ref r2]) → H' r1 = some (.lst (stem.map vI)) → H' r2 = some (.lst (lap.map vI)) → stem.length ≤ 900 → lap.length ≤ 900 → Q (.ref r) H'
  | .why ps => ∀ H' r w p us, Same H H' → H' r = some (.tup [.str "why", .ref w]) → H' w = some (.tup [.str "parts", .ref p]) → H' p = some (.tup us) → Whs aN H' us ps → Q (.ref r) H'
/-- ties as the law makes them -/
structure TsOk (ts : List Tie) (cnt : Nat) : Prop where
  lt : ∀ n, n < ts.length → sT ts n < cnt ∧ eT ts n < cnt
  lo : ∀ n, ∀ x ∈ lT ts n, x < 900
  cl : cnt ≤ 90
  tl : ts.length ≤ 200
  ll : ∀ n, (lT ts n).length ≤ 10
def spSought (aN : Addr) : Sp := fun vs H Q _ => ∃ (B T : Addr) (cnt m : Nat) (bs : List Nat) (us : List V) (ts : List Tie), vs = [.int cnt, .ref B, .ref T, .int m] ∧ H B = some (.lst (bs.map vI)) ∧ H T = some (.lst us) ∧ Ties H us ts ∧ TsOk ts cnt ∧ bs.Nodup ∧ (∀ b ∈ bs, b < cnt) ∧ m ≤ 8 ∧ SouQ aN H Q (souT ts m cnt bs)
section
variable {P : Program} {w : World} {K : PySem.W.Frag} {mg : Str → Option Value} {base : Heap} {f f1 f2 f3 f4 f5 f6 aN : Addr} {fd d1 d2 d3 d4 d5 d6 : FuncData} {k : Nat}
theorem ok_sought (F : Fun K "sought" "sought" sSought f fd) (CO : Cl P w K mg base CX0 k "come_to_by" ["begins", "ties", "onward"] spCome f1 d1) (NU : Cl P w K mg base CX0 k "numbers_by_starts" ["entries", "ties", "numbers"] spNums f2 d2) (PI : Cl P w K mg base CX0 k "pieces" ["entries", "ties"] spPieces f3 d3)
    (IN : Cl P w K mg base CX0 k "inner_numbers" ["ties", "numbers", "parts"] spInner f4 d4) (LK : Cl P w K mg base CX0 k "first_lacking" ["ties", "inner", "many"] spLack f5 d5) (TO : Cl P w K mg base CX0 k "told_lap" ["came_by", "ties", "part", "inner", "many"] spTold f6 d6)
    (gN : mg "NONE" = some (.ref aN)) (ml : mg "list" = none) (mr : mg "range" = none) (mn : mg "len" = none) (ms : mg "sorted" = none) (mz : mg "zip" = none) (mt : mg "tuple" = none) : FnOk P w K mg base CX0 (k + 1) f fd ["count", "begins", "ties", "many"] (spSought aN) := by
  refine F.ok scSought (fun vs H Q E h => ?_) (fun cdv A outer s H vs Q E hr h => ?_)
  · obtain ⟨B, T, cnt, m, bs, us, ts, rfl, _⟩ := h
    rfl
  · obtain ⟨B, T, cnt, m, bs, us, ts, rfl, hB, hT, tu, tok, nd, blt, m8, q⟩ := h
    refine ⟨_, pss_cons (ps_set (i := 4) scSought.nd rfl (.inl rfl) (pe_listRg rfl (by rfl) ml (prg_1 (by rfl) mr (pe_callB call_len_seq (by rfl) mn PySem.boot_len (pa_cons (pv 2) pa_nil)))))
      (pss_cons (ps_set (i := 5) scSought.nd rfl (.inl rfl) (pe_call CO.ok hr (by rfl) CO.g CO.kp CO.bd .nil pass0 (pa_cons (pv 1) (pa_cons (pv 2) (pa_cons (pe_call NU.ok hr (by rfl) NU.g NU.kp NU.bd .nil pass0 (pa_cons (pe_listRg rfl (by rfl) ml (prg_1 (by rfl) mr (pv 0))) (pa_cons (pv 2) (pa_cons (pv 4) pa_nil)))) pa_nil)))))
      (pss_cons (ps_set (i := 6) scSought.nd rfl (.inl rfl) (pe_call PI.ok hr (by rfl) PI.g PI.kp PI.bd .nil pass0 (pa_cons (pe_callB cr_sortedI (by rfl) ms (by decide +kernel) (pa_cons (pe_callTy (call_listD rfl) (by rfl) ml (by decide +kernel) (pa_cons (pv 5) pa_nil)) pa_nil)) (pa_cons (pv 2) pa_nil))))
      (pss_cons (ps_set (i := 7) scSought.nd rfl (.inl rfl) (pe_lst pa_nil))
      (pss_cons (ps_for PassesOwn.never rfl (pi_zip (by rfl) mz (pa_cons (pv 6) (pa_cons (pe_call IN.ok hr (by rfl) IN.g IN.kp IN.bd .nil pass0 (pa_cons (pv 2) (pa_cons (pv 4) (pa_cons (pv 6) pa_nil)))) pa_nil))) (pg_tup (by rfl) (pgs_cons (pg_name (i := 8) scSought.nd rfl (.inl rfl)) (pgs_cons (pg_name (i := 9) scSought.nd rfl (.inl rfl)) pgs_nil)))
        (pss_cons (ps_set (i := 10) scSought.nd rfl (.inl rfl) (pe_call LK.ok hr (by rfl) LK.g LK.kp LK.bd .nil pass0 (pa_cons (pv 2) (pa_cons (pv 9) (pa_cons (pv 3) pa_nil)))))
        (pss_cons (ps_if (PW.pt (pw_and (pt_truth (pv 9) (by intro _; rfl)) (pw_and1 (pt_cmpR op_isN (pv 10) pe_non (nomark _))))) (pss_one (ps_ret (pe_call TO.ok hr (by rfl) TO.g TO.kp TO.bd .nil pass0 (pa_cons (pv 5) (pa_cons (pv 2) (pa_cons (pv 8) (pa_cons (pv 9) (pa_cons (pv 3) pa_nil)))))))) pss_nil)
        (pss_one (ps_expr (pe_bm PySem.F.plainAttrs_list PySem.F.slot_list_append PySem.F.type_list_append mt_append (pv 7) (pa_cons (pe_tup (pa_cons (pe_callTy call_tuple_of (by rfl) mt (by decide +kernel) (pa_cons (pv 8) pa_nil)) (pa_cons (pe_ifExp (pt_truth (pv 9) (by intro _; rfl)) (pe_tup (pa_cons pe_str (pa_cons (pv 10) pa_nil))) (pe_glob (v := .ref aN) (by rfl) gN rfl)) pa_nil))) pa_nil)))))))
      (pss_one (ps_ret (pe_tup (pa_cons pe_str (pa_cons (pe_tup (pa_cons pe_str (pa_cons (pe_callTy call_tuple_of (by rfl) mt (by decide +kernel) (pa_cons (pv 7) pa_nil)) pa_nil))) pa_nil))))))))), ?_⟩
    have cl := tok.cl
    have tl := tok.tl
    have ul := tu.len
    refine ⟨_, rfl, T, us, rfl, .inl (SqL.of hT), _, rfl, .of_le (by decide) (by omega) (by decide) (by omega), fun N hN => ?_⟩
    rw [rg_vI, ul]
    have s1 := same_new (o := .lst ((List.range ts.length).map vI)) hN
    have eN : upd H N (.lst ((List.range ts.length).map vI)) N = _ := upd_same
    have frN : H N = none := hN
    generalize upd H N (.lst ((List.range ts.length).map vI)) = H1 at *
    refine ⟨_, rfl, _, rfl, _, rfl, _, rfl, .of_le (by decide) (by omega) (by decide) (by omega), fun G hG => ?_⟩
    rw [rg_vI]
    have s2 := same_new (o := .lst ((List.range cnt).map vI)) hG
    have eG : upd H1 G (.lst ((List.range cnt).map vI)) G = _ := upd_same
    generalize upd H1 G (.lst ((List.range cnt).map vI)) = H2 at *
    have s02 := s1.trans s2
    have hin : ∀ n ∈ List.range ts.length, sT ts n ∈ List.range cnt ∧ eT ts n ∈ List.range cnt := fun n hn => ⟨List.mem_range.mpr (tok.lt n (List.mem_range.mp hn)).1, List.mem_range.mpr (tok.lt n (List.mem_range.mp hn)).2⟩
    refine ⟨_, rfl, _, rfl, G, T, N, List.range cnt, List.range ts.length, us, ts, rfl, eG, s02 _ _ hT, tu.tk (tk_same s02), s2 _ _ eN, List.nodup_range, fun n hn => ⟨List.mem_range.mp hn, (hin n hn).1⟩, by rw [List.length_range]; omega, by rw [List.length_range]; omega, fun H3 O s3 hO en => ?_⟩
    have s03 := s02.trans s3
    have sub' : ∀ b ∈ bs, b ∈ List.range cnt := fun b hb => List.mem_range.mpr (blt b hb)
    refine ⟨B, T, O, bs, List.range cnt, us, ts, _, rfl, s03 _ _ hB, s03 _ _ hT, tu.tk (tk_same s03), en, nd, sub', fun x hx n hn => ?_, by rw [List.length_range]; omega, fun H4 C s4 hC e4 => ?_⟩
    · obtain ⟨h1, h2⟩ := ow_mem.mp hn
      exact ⟨List.mem_range.mp h1, h2, (hin n h1).2⟩
    have lr : (List.range cnt).length = cnt := List.length_range
    have Bc := came_ok (S := sT ts) (E := eT ts) hin nd sub'
    rw [lr] at e4 Bc
    have SO := sought_ok (L := lT ts) (many := m) tok.lt nd blt _ rfl
    unfold souT sought at q
    generalize cameTo (eT ts) (owOf (sT ts) (List.range ts.length)) cnt bs = c at *
    have cok : CmOk ts bs c := ⟨List.range cnt, _, _, Bc, fun x n hn => List.mem_range.mp (ow_mem.mp hn).1, by rw [lr]; omega⟩
    have cle : c.length ≤ cnt := by
      have := bf_len Bc
      rw [lr] at this
      exact this
    have s04 := s03.trans s4
    have eN4 := (s2.trans (s3.trans s4)) _ _ eN
    obtain ⟨_, esn, elt, _, _⟩ := SO
    have esm : ∀ x, x ∈ srt (keys c) ↔ x ∈ keys c := fun x => srt_mem
    have esl : (srt (keys c)).length = c.length := by
      rw [(srt_perm _).length_eq, keys, List.length_map]
    refine ⟨_, rfl, C, _, rfl, .of e4, fun K1 hK1 => ?_⟩
    rw [keys_vI]
    have s5 := same_new (o := .lst ((keys c).map vI)) hK1
    refine ⟨K1, (keys c).map ci, rfl, by rw [← vI_map]; exact SqL.of upd_same, fun ns' E1 perm ris hE1 => ?_⟩
    rw [sorted_int perm ris]
    have s6 := same_new (o := .lst ((srt (keys c)).map vI)) hE1
    have s46 := s5.trans s6
    have s06 := s04.trans s46
    refine ⟨_, rfl, E1, T, srt (keys c), us, ts, rfl, upd_same, s06 _ _ hT, tu.tk (tk_same s06), esn, by omega, by omega, fun H7 Z zs s7 hZ eZ fr lz => ?_⟩
    rw [prs_of] at lz
    have s07 := s06.trans s7
    have e47 := (s46.trans s7) _ _ e4
    have eN7 := (s46.trans s7) _ _ eN4
    have hpk := pieces_ok (srt (keys c)) (prsOf (sT ts) (eT ts) ts.length)
    have pln := @pieces_len (srt (keys c)) (prsOf (sT ts) (eT ts) ts.length)
    have ap : Apart (pieces (srt (keys c)) (prsOf (sT ts) (eT ts) ts.length)) := ⟨fun i j p q x h1 h2 hx hy => two_pieces h1 h2 hx hy, fun p hp => (hpk.2.2.2 p hp).1, fun p hp x hx => by
      have := elt x (hpk.2.1 p hp x hx).1
      omega⟩
    have hst : ∀ p ∈ pieces (srt (keys c)) (prsOf (sT ts) (eT ts) ts.length), ∀ a ∈ p, ∀ b ∈ p, R (adjIn (sT ts) (eT ts) (innerOf (sT ts) (eT ts) ts.length p)) a b := fun p hp a ha b hb => strong hp ha hb
    have lapk : ∀ p ∈ pieces (srt (keys c)) (prsOf (sT ts) (eT ts) ts.length), innerOf (sT ts) (eT ts) ts.length p ≠ [] → lackOf (lT ts) (innerOf (sT ts) (eT ts) ts.length p) m = none → Lap (sT ts) (eT ts) (lT ts) (innerOf (sT ts) (eT ts) ts.length p) m (lapP ts m c p (innerOf (sT ts) (eT ts) ts.length p)) :=
      fun p hp ne hl => lapOf_ok (fun x hx => (esm x).mp (hpk.2.1 p hp x hx).1) hp ne hl
    generalize pieces (srt (keys c)) (prsOf (sT ts) (eT ts) ts.length) = ps at *
    refine ⟨by show 0 ≤ sizeLine; decide, fun Td hTd => ?_⟩
    have s8 := same_new (o := .lst []) hTd
    have eTd : upd H7 Td (.lst []) Td = _ := upd_same
    have frTd : H Td = none := free_same s07 hTd
    have ZTd : Z ≠ Td := ne_of_none eZ hTd
    generalize upd H7 Td (.lst []) = H8 at *
    have s08 := s07.trans s8
    have lz8 := lz.same s8
    have zl := lz.len
    refine ⟨_, rfl, _, rfl, _, rfl, _, rfl, T, N, Z, List.range ts.length, us, zs, ts, ps, rfl, s08 _ _ hT, tu.tk (tk_same s08), s8 _ _ eN7, fun n hn => List.mem_range.mp hn, s8 _ _ eZ, lz8, ap, by omega, by rw [List.length_range]; omega, fun H9 I ws s9 hI eI frw lw => ?_⟩
    have s09 := s08.trans s9
    have wl := lw.len
    rw [List.length_map] at wl
    have eZ9 := (s8.trans s9) _ _ eZ
    have eTd9 := s9 _ _ eTd
    have e49 := (s8.trans s9) _ _ e47
    have lz9 := lz8.same s9
    have hI0 : H Td = none := frTd
    refine ⟨Z, I, zs, ws, rfl, SqL.of eZ9, SqL.of eI, ?_⟩
    have frI : I ≠ Td := fun e => by
      have := hI
      rw [e, eTd] at this
      cases this
    refine walkF (J := Itz K Z I) (n := ps.length) (fun i σ H' => ∃ x8 x9 x10 tv, σ = [some (.int cnt), some (.ref B), some (.ref T), some (.int m), some (.ref N), some (.ref C), some (.ref Z), some (.ref Td), x8, x9, x10] ∧ Keep Td H9 H' ∧ H' Td = some (.lst tv) ∧ Whs aN H' tv ((ps.take i).map (whyOf (sT ts) (eT ts) (lT ts) m ts.length)) ∧
        SouQ aN H Q (soughtGo (sT ts) (eT ts) (lT ts) m ts.length c (ps.drop i) ((ps.take i).map (whyOf (sT ts) (eT ts) (lT ts) m ts.length))))
      ⟨_, _, _, [], rfl, Keep.refl, eTd9, .nil, by rw [List.drop_zero]; exact q⟩ (fun i σ H' hi hp => ?_) (fun σ H' hp => ?_) (fun i x σ Ho H' hi hp hy => ?_) (fun σ H' hp => ?_)
    · obtain ⟨_, _, _, _, _, kp, _⟩ := hp
      exact ⟨_, _, _, _, SqL.of (kp _ _ ZTd eZ9), SqL.of (kp _ _ frI eI), List.getElem?_eq_getElem (by omega), List.getElem?_eq_getElem (by omega)⟩
    · obtain ⟨_, _, _, _, _, kp, _⟩ := hp
      exact ⟨_, _, SqL.of (kp _ _ ZTd eZ9), SqL.of (kp _ _ frI eI), .inl (by omega)⟩
    · obtain ⟨x8, x9, x10, tv, rfl, kp, et, wh, qq⟩ := hp
      obtain ⟨tz, xv, yv, rfl, htz, rfl, hx, hy⟩ := hy
      obtain ⟨pa, p, rfl, ep, hpa⟩ := lz9.at (hx _ (SqL.of (kp _ _ ZTd eZ9)))
      have hws := hy _ (SqL.of (kp _ _ frI eI))
      obtain ⟨ia, inn, rfl, ei, hia⟩ := lw.at hws
      rw [List.getElem?_map, ep] at ei
      have ei : (List.range ts.length).filter (inPart ts p) = inn := Option.some.inj ei
      have ei : innerOf (sT ts) (eT ts) ts.length p = inn := ei
      have pT : pa ≠ Td := fun e => by
        obtain ⟨pa', p', e1, _, h1⟩ := lz.at (hx _ (SqL.of (kp _ _ ZTd eZ9)))
        cases e1
        rw [e, hTd] at h1
        cases h1
      have iT : ia ≠ Td := fun e => by
        have := frw ia (List.mem_of_getElem? hws)
        rw [e, eTd] at this
        cases this
      have pm : p ∈ ps := List.mem_of_getElem? ep
      have k1 : Keep Td H9 (upd Ho tz (.tup [.ref pa, .ref ia])) := fun b o n h => by
        rw [upd_ne (ne_of_none (kp b o n h) htz)]
        exact kp b o n h
      have hpa1 := k1 _ _ pT hpa
      have hia1 := k1 _ _ iT hia
      have et1 : upd Ho tz (.tup [.ref pa, .ref ia]) Td = some (.lst tv) := by
        rw [upd_ne (ne_of_none et htz)]
        exact et
      have wh1 := wh.tk (H' := upd Ho tz (.tup [.ref pa, .ref ia])) fun b xs h => by
        rw [upd_ne (ne_of_none h htz)]
        exact h
      have etz : upd Ho tz (.tup [.ref pa, .ref ia]) tz = some (.tup [.ref pa, .ref ia]) := upd_same
      generalize upd Ho tz (.tup [.ref pa, .ref ia]) = H10 at *
      have s010 : Same H H10 := fun b o h => k1 b o (ne_of_none h frTd) (s09 b o h)
      have e410 : H10 C = some (.dK (c.map kvC)) := k1 _ _ (fun e => by rw [e, hTd] at e47; cases e47) e49
      have eqd : ps.drop i = p :: ps.drop (i + 1) := by
        have := (List.getElem?_eq_some_iff.mp ep)
        obtain ⟨h1, h2⟩ := this
        rw [List.drop_eq_getElem_cons h1, h2]
      rw [eqd, soughtGo, ei] at qq
      have etk : (ps.take (i + 1)).map (whyOf (sT ts) (eT ts) (lT ts) m ts.length) = (ps.take i).map (whyOf (sT ts) (eT ts) (lT ts) m ts.length) ++ [whyOf (sT ts) (eT ts) (lT ts) m ts.length p] := take_map ep
      have ewh : whyOf (sT ts) (eT ts) (lT ts) m ts.length p = (p, if inn = [] then none else lackOf (lT ts) inn m) := by
        unfold whyOf
        rw [ei]
      have inl : ∀ n ∈ inn, n < ts.length := fun n hn => by
        rw [← ei] at hn
        exact (inner_mem.mp hn).1
      have plen : p.length ≤ cnt := by
        have := pigl (es := List.range cnt) (hpk.2.2.2 p pm).1 fun x hx => List.mem_range.mpr (elt x (hpk.2.1 p pm x hx).1)
        rw [lr] at this
        exact this
      have ilen : inn.length ≤ 200 := by
        have : inn.length ≤ (List.range ts.length).length := by
          rw [← ei]
          exact List.length_filter_le _ _
        rw [List.length_range] at this
        omega
      have pcp : Pc ts p inn := ⟨inl, fun n hn => by rw [← ei] at hn; exact (inner_mem.mp hn).2, fun a ha b hb => by have := hst p pm a ha b hb; rw [ei] at this; exact this, by omega, by omega⟩
      have lapp := lapk p pm
      rw [ei] at lapp
      have tvl := wh.len
      rw [List.length_map, List.length_take] at tvl
      refine ⟨tz, _, rfl, SqT.of etz, rfl, _, _, rfl, _, _, rfl, rfl, ?_⟩
      refine ⟨_, rfl, _, rfl, _, rfl, T, ia, m, inn, us, ts, rfl, s010 _ _ hT, tu.tk (tk_same s010), hia1, inl, tok.lo, by omega, fun H11 s11 => ?_⟩
      have s011 := s010.trans s11
      have hpa2 := s11 _ _ hpa1
      have hia2 := s11 _ _ hia1
      have et2 := s11 _ _ et1
      have wh2 := wh1.tk (H' := H11) fun b xs h => s11 _ _ h
      have k11 : Keep Td H9 H11 := fun b o n h => s11 _ _ (k1 b o n h)
      have mi : (inn.map vI).length = inn.length := List.length_map ..
      refine ⟨_, rfl, _, .inl ⟨_, SqL.of hia2, rfl⟩, ?_⟩
      have fin : ∀ (H12 : Hp) (a1 b t1 : Addr), Same H11 H12 → H12 a1 = some (.tup (p.map vI)) → (match ((if inn = [] then none else lackOf (lT ts) inn m : Option Nat)) with | none => b = aN | some lot => H12 b = some (.tup [.str "lot", .int (lot : Nat)])) → ¬ (inn ≠ [] ∧ lackOf (lT ts) inn m = none) → H12 t1 = none →
          upd H12 t1 (.tup [.ref a1, .ref b]) Td = some (.lst tv) ∧ ∃ tv', Keep Td H9 (upd (upd H12 t1 (.tup [.ref a1, .ref b])) Td (.lst (tv ++ [.ref t1]))) ∧ upd (upd H12 t1 (.tup [.ref a1, .ref b])) Td (.lst (tv ++ [.ref t1])) Td = some (.lst tv') ∧ Whs aN (upd (upd H12 t1 (.tup [.ref a1, .ref b])) Td (.lst (tv ++ [.ref t1]))) tv' ((ps.take (i + 1)).map (whyOf (sT ts) (eT ts) (lT ts) m ts.length)) ∧
          SouQ aN H Q (soughtGo (sT ts) (eT ts) (lT ts) m ts.length c (ps.drop (i + 1)) ((ps.take (i + 1)).map (whyOf (sT ts) (eT ts) (lT ts) m ts.length))) := fun H12 a1 b t1 s12 h1 h2 ng ht1 => by
        have s13 := same_new (o := .tup [.ref a1, .ref b]) ht1
        have e13 := s13 _ _ (s12 _ _ et2)
        have tk13 : ∀ c' xs, upd H12 t1 (.tup [.ref a1, .ref b]) c' = some (.tup xs) → upd (upd H12 t1 (.tup [.ref a1, .ref b])) Td (.lst (tv ++ [.ref t1])) c' = some (.tup xs) := fun c' xs h => by
          rw [upd_ne (fun e => by rw [e, e13] at h; cases h)]
          exact h
        refine ⟨e13, tv ++ [.ref t1], fun b' o n h => ?_, upd_same, ?_, ?_⟩
        · rw [upd_ne n]
          exact s13 _ _ (s12 _ _ (k11 b' o n h))
        · rw [etk, ewh]
          refine Whs.app (wh2.tk fun b' xs h => tk13 _ _ (s13 _ _ (s12 _ _ h))) (.cons ⟨t1, a1, b, rfl, tk13 _ _ upd_same, tk13 _ _ (s13 _ _ h1), ?_⟩ .nil)
          generalize (if inn = [] then none else lackOf (lT ts) inn m) = o at *
          cases o with
          | none => exact h2
          | some lot => exact tk13 _ _ (s13 _ _ h2)
        · rw [if_neg ng] at qq
          rw [etk]
          exact qq
      by_cases ie : inn = []
      · refine iteN (by rw [ie]; rfl) (iteF ?_)
        refine ⟨_, rfl, .inl ⟨rfl, _, SqL.of et2⟩, _, rfl, pa, _, rfl, .inl ⟨SqL.of hpa2, fun a1 ha1 => ?_⟩⟩
        have s12 := same_new (o := .tup (p.map vI)) ha1
        refine ⟨_, rfl, _, .inl ⟨_, SqL.of (s12 _ _ hia2), rfl⟩, iteN (by rw [ie]; rfl) ?_⟩
        refine ⟨by show 2 ≤ sizeLine; decide, fun t1 ht1 => ?_⟩
        obtain ⟨e13, tv', f1, f2, f3, f4⟩ := fin _ a1 aN t1 s12 upd_same (by rw [if_pos ie]) (fun z => z.1 ie) ht1
        exact ⟨Td, tv, _, rfl, rfl, e13, small1000 (by omega), _, _, _, tv', rfl, f1, f2, f3, f4⟩
      · have nz : (!(inn.map vI).isEmpty) = true := by
          cases inn with
          | nil => exact absurd rfl ie
          | cons a r => rfl
        cases lk : lackOf (lT ts) inn m with
        | none =>
          refine iteP nz ⟨_, rfl, rfl, _, rfl, iteP rfl ?_⟩
          rw [if_pos ⟨ie, lk⟩] at qq
          have lots := lack_none.mp lk
          have ll : (lapP ts m c p inn).length ≤ 900 := by
            have rb : ∀ n ∈ inn, ∀ y, (rtOf ts p inn (eT ts n) y).length ≤ p.length := fun n hn y => rowTo_len pcp.hin (pcp.hin n hn).2
            unfold lapP lapOf
            by_cases m0 : m = 0
            · rw [if_pos m0]
              have fm := (firstIn_mem (c := c) (l := p) ⟨_, head_mem (hpk.2.2.2 p pm).2.1, (esm _).mp (hpk.2.1 p pm _ (head_mem (hpk.2.2.2 p pm).2.1)).1⟩).1
              have so : ∃ n ∈ inn, sT ts n = firstIn c p := by
                have hm := head_mem ie
                rcases (pcp.str _ fm _ (pcp.hin _ hm).1).first with e | ⟨y, hy, _⟩
                · exact ⟨_, hm, e.symm⟩
                · obtain ⟨n, hn, h, _⟩ := adjIn_mem.mp hy
                  exact ⟨n, hn, h⟩
              have sn : (owOf (sT ts) inn (firstIn c p)).map (fun n => n :: rtOf ts p inn (eT ts n) (firstIn c p)) ≠ [] := fun e => by
                obtain ⟨n, h1, h2⟩ := so
                have : n ∈ owOf (sT ts) inn (firstIn c p) := ow_mem.mpr ⟨h1, h2⟩
                rw [List.map_eq_nil_iff.mp e] at this
                exact absurd this List.not_mem_nil
              obtain ⟨n, hn, e⟩ := List.mem_map.mp (min_mem sn)
              unfold shortLap
              have e' : minLen (List.map (fun n => n :: rowTo (sT ts) (eT ts) (owOf (sT ts) inn) p.length (eT ts n) (firstIn c p)) (owOf (sT ts) inn (firstIn c p))) = n :: rtOf ts p inn (eT ts n) (firstIn c p) := e.symm
              rw [e', List.length_cons]
              have := rb n (ow_mem.mp hn).1 (firstIn c p)
              omega
            · rw [if_neg m0]
              have ok := fun {m' : Nat} (h : m' ≤ m) => lapLots_ok (L := lT ts) pcp.hin pcp.rt (many := m') fun lot hl => lots lot (by omega)
              unfold lapAll
              rw [List.length_append]
              have l1 := lapLots_len2 (S := sT ts) (E := eT ts) (L := lT ts) (inner := inn) (rt := rtOf ts p inn) rb (M := m) (fun {m'} h n hn => (ok h).1.sub n hn) m (Nat.le_refl _)
              have ne := (ok (Nat.le_refl m)).2.1 m0
              have l2 := rb _ ((ok (Nat.le_refl m)).1.sub _ (last_mem ne)) (sT ts ((lapLots (sT ts) (eT ts) (lT ts) inn (rtOf ts p inn) m).headD 0))
              have l3 : m * (p.length + 1) ≤ 8 * 91 := Nat.mul_le_mul m8 (by omega)
              refine Nat.le_trans (Nat.add_le_add l1 l2) ?_
              omega
          refine ⟨_, rfl, _, rfl, _, rfl, _, rfl, _, rfl, C, T, pa, ia, m, c, p, inn, us, ts, bs, rfl, s11 _ _ e410, s011 _ _ hT, tu.tk (tk_same s011), cok, hpa2, hia2, pcp, (hpk.2.2.2 p pm).1, fun x hx => (esm x).mp (hpk.2.1 p pm x hx).1, ie, lots, by omega, ll, lapp ie lk, fun H12 r r1 r2 s12 hr' h1 h2 n12 e1 e2 e3 => ?_⟩
          refine qq H12 r r1 r2 (s011.trans s12) (free_same s011 hr') (free_same s011 h1) (free_same s011 h2) n12 e1 e2 e3 ?_ ?_
          · unfold rowBack
            rw [List.length_reverse]
            exact Nat.le_trans back_len (by omega)
          · unfold turned
            rw [List.length_append, List.length_drop, List.length_take]
            have ll' : (lapOf (sT ts) (eT ts) (lT ts) m c p inn).length ≤ 900 := ll
            omega
        | some lot =>
          refine iteP nz ⟨_, rfl, rfl, _, rfl, iteN rfl ?_⟩
          refine ⟨_, rfl, .inl ⟨rfl, _, SqL.of et2⟩, _, rfl, pa, _, rfl, .inl ⟨SqL.of hpa2, fun a1 ha1 => ?_⟩⟩
          have s12 := same_new (o := .tup (p.map vI)) ha1
          refine ⟨_, rfl, _, .inl ⟨_, SqL.of (s12 _ _ hia2), rfl⟩, iteP nz ?_⟩
          refine ⟨_, rfl, by show 2 ≤ sizeLine; decide, fun b1 hb1 => ?_⟩
          have s13 := same_new (o := .tup [.str "lot", vO (some lot)]) hb1
          refine ⟨by show 2 ≤ sizeLine; decide, fun t1 ht1 => ?_⟩
          obtain ⟨e13, tv', f1, f2, f3, f4⟩ := fin _ a1 b1 t1 (s12.trans s13) (s13 _ _ upd_same) (by rw [if_neg ie, lk]; exact upd_same) (fun z => by rw [lk] at z; cases z.2) ht1
          exact ⟨Td, tv, _, rfl, rfl, e13, small1000 (by omega), _, _, _, tv', rfl, f1, f2, f3, f4⟩
    · obtain ⟨x8, x9, x10, tv, rfl, kp, et, wh, qq⟩ := hp
      rw [List.drop_length, soughtGo, List.take_length] at qq
      rw [List.take_length] at wh
      have wl := wh.len
      have s0' : Same H H' := fun b o h => kp b o (ne_of_none h frTd) (s09 b o h)
      refine ⟨_, rfl, Td, tv, rfl, .inl ⟨SqL.of et, fun pp hpp => ?_⟩⟩
      have s1' := same_new (o := .tup tv) hpp
      refine ⟨by show 2 ≤ sizeLine; decide, fun ww hww => ?_⟩
      have s2' := same_new (o := .tup [.str "parts", .ref pp]) hww
      refine ⟨by show 2 ≤ sizeLine; decide, fun rr hrr => ?_⟩
      have s3' := same_new (o := .tup [.str "why", .ref ww]) hrr
      exact qq _ rr ww pp tv (s0'.trans (s1'.trans (s2'.trans s3'))) upd_same (s3' _ _ upd_same) ((s2'.trans s3') _ _ upd_same) (wh.tk fun b xs h => (s1'.trans (s2'.trans s3')) _ _ h)
end
end W35

namespace Dw
open PySem PySem.Spec PyProof.Rows L2 Gp
/-! ### data of any kind but dicts -/
mutual
theorem dp_mono {K : PySem.W.Frag} {H H' : Hp} (s : Same H H') : ∀ {v : V} {d : PyData}, Dp K H v d → Dp K H' v d
  | _, _, .non => .non
  | _, _, .bl b => .bl b
  | _, _, .int i => .int i
  | _, _, .str x => .str x
  | _, _, .lst h r => .lst (s.seq h) (dpA_mono s r)
  | _, _, .tup h r => .tup (same_tup s h) (dpA_mono s r)
theorem dpA_mono {K : PySem.W.Frag} {H H' : Hp} (s : Same H H') : ∀ {vs : List V} {ds : List PyData}, DpAll K H vs ds → DpAll K H' vs ds
  | _, _, .nil => .nil
  | _, _, .cons h r => .cons (dp_mono s h) (dpA_mono s r)
end
section
variable {K : PySem.W.Frag} {H : Hp}
theorem dpA_len : ∀ {vs : List V} {ds : List PyData}, DpAll K H vs ds → vs.length = ds.length
  | _, _, .nil => rfl
  | _, _, .cons _ r => congrArg (· + 1) (dpA_len r)
theorem dpA_at : ∀ {vs : List V} {ds : List PyData}, DpAll K H vs ds → ∀ {i : Nat} {v : V}, vs[i]? = some v → ∃ d, ds[i]? = some d ∧ Dp K H v d
  | _, _, .nil, i, v, e => by simp at e
  | _, _, .cons h r, 0, v, e => by
    cases e
    exact ⟨_, rfl, h⟩
  | _, _, .cons h r, i + 1, v, e => dpA_at r (i := i) e
theorem dpA_app : ∀ {vs ws : List V} {ds es : List PyData}, DpAll K H vs ds → DpAll K H ws es → DpAll K H (vs ++ ws) (ds ++ es)
  | _, _, _, _, .nil, h => h
  | _, _, _, _, .cons h r, h2 => .cons h (dpA_app r h2)
def isI : PyData → Bool | .int _ => true | _ => false
def isB : PyData → Bool | .bool _ => true | _ => false
def isT : PyData → Bool | .tuple _ => true | _ => false
theorem dp_ty {v : V} {d : PyData} (h : Dp K H v d) : ∃ t : Value, TyX K H v t ∧ PySem.W.kitOne K t (.type "int") = some (isI d || isB d) ∧
    PySem.W.kitOne K t (.type "bool") = some (isB d) ∧ PySem.W.kitOne K t (.type "tuple") = some (isT d) := by
  have lst : ∀ {a}, TyX K H (.ref a) (.type "list") → ∀ ds, ∃ t : Value, TyX K H (.ref a) t ∧ PySem.W.kitOne K t (.type "int") = some (isI (.list ds) || isB (.list ds)) ∧
    PySem.W.kitOne K t (.type "bool") = some (isB (.list ds)) ∧ PySem.W.kitOne K t (.type "tuple") = some (isT (.list ds)) := fun ty ds =>
    ⟨_, ty, kit_ty (show kitB "list" "int" = some false by decide +kernel), kit_ty (show kitB "list" "bool" = some false by decide +kernel), kit_ty (show kitB "list" "tuple" = some false by decide +kernel)⟩
  have tup : ∀ {a}, TyX K H (.ref a) (.type "tuple") → ∀ ds, ∃ t : Value, TyX K H (.ref a) t ∧ PySem.W.kitOne K t (.type "int") = some (isI (.tuple ds) || isB (.tuple ds)) ∧
    PySem.W.kitOne K t (.type "bool") = some (isB (.tuple ds)) ∧ PySem.W.kitOne K t (.type "tuple") = some (isT (.tuple ds)) := fun ty ds =>
    ⟨_, ty, kit_ty (show kitB "tuple" "int" = some false by decide +kernel), kit_ty (show kitB "tuple" "bool" = some false by decide +kernel), kit_ty (show kitB "tuple" "tuple" = some true by decide +kernel)⟩
  cases h with
  | non => exact ⟨_, .base .non, kit_ty (by decide +kernel), kit_ty (by decide +kernel), kit_ty (by decide +kernel)⟩
  | bl b => exact ⟨_, .base (.bl b), kit_ty (show kitB "bool" "int" = some true by decide +kernel), kit_ty (show kitB "bool" "bool" = some true by decide +kernel), kit_ty (show kitB "bool" "tuple" = some false by decide +kernel)⟩
  | int i => exact ⟨_, .base (.int i), kit_ty (show kitB "int" "int" = some true by decide +kernel), kit_ty (show kitB "int" "bool" = some false by decide +kernel), kit_ty (show kitB "int" "tuple" = some false by decide +kernel)⟩
  | str x => exact ⟨_, .base (.str x), kit_ty (show kitB "str" "int" = some false by decide +kernel), kit_ty (show kitB "str" "bool" = some false by decide +kernel), kit_ty (show kitB "str" "tuple" = some false by decide +kernel)⟩
  | lst h _ =>
    rcases h with (h | ⟨o, h⟩) | ⟨o, _, _, h, c, _⟩
    · exact lst (.base (.lst h)) _
    · exact lst (.base (.frz h)) _
    · exact lst (.kList h c) _
  | tup h _ =>
    rcases h with (h | ⟨o, h⟩) | ⟨o, _, _, h, c, _⟩
    · exact tup (.base (.tup h)) _
    · exact tup (.fTuple h) _
    · exact tup (.kTuple h c) _
theorem dp_int {v : V} {d : PyData} (h : Dp K H v d) (e : isI d = true) : ∃ i : Int, v = .int i ∧ d = .int i := by
  cases h with
  | int i => exact ⟨i, rfl, rfl⟩
  | _ => cases e
theorem dp_tup {v : V} {d : PyData} (h : Dp K H v d) (e : isT d = true) : ∃ a xs ds, v = .ref a ∧ d = .tuple ds ∧ SqT K H a xs ∧ DpAll K H xs ds := by
  cases h with
  | tup h r => exact ⟨_, _, _, rfl, rfl, h, r⟩
  | _ => cases e
theorem dpA_pair {xs : List V} {e1 e2 : PyData} (h : DpAll K H xs [e1, e2]) : ∃ v1 v2, xs = [v1, v2] ∧ Dp K H v1 e1 ∧ Dp K H v2 e2 := by
  cases h with
  | cons h1 r =>
    cases r with
    | cons h2 r =>
      cases r
      exact ⟨_, _, rfl, h1, h2⟩
/-! ### numbers all through -/
def dInts (p : List Int) : List PyData := p.map PyData.int
theorem dpA_ints : ∀ {xs : List V} {p : List Int}, DpAll K H xs (dInts p) → xs = p.map V.int
  | _, [], h => by cases h; rfl
  | _, i :: p, h => by
    cases h with
    | cons h1 r =>
      cases h1
      rw [dpA_ints r]
      rfl
theorem ints_dpA : ∀ (p : List Int), DpAll K H (p.map V.int) (dInts p)
  | [] => .nil
  | i :: p => .cons (.int i) (ints_dpA p)
theorem all_int : ∀ {ds : List PyData}, ds.all isI = true → ∃ p : List Int, ds = dInts p
  | [], _ => ⟨[], rfl⟩
  | .int i :: ds, h => by
    rw [List.all_cons, Bool.and_eq_true] at h
    obtain ⟨p, rfl⟩ := all_int h.2
    exact ⟨i :: p, rfl⟩
  | .none :: ds, h => by simp [isI] at h
  | .bool _ :: ds, h => by simp [isI] at h
  | .str _ :: ds, h => by simp [isI] at h
  | .list _ :: ds, h => by simp [isI] at h
  | .tuple _ :: ds, h => by simp [isI] at h
  | .dict _ :: ds, h => by simp [isI] at h
theorem ints_all (p : List Int) : (dInts p).all isI = true := by
  rw [List.all_eq_true]
  intro d hd
  obtain ⟨i, _, rfl⟩ := List.mem_map.mp hd
  rfl
theorem dInts_inj {p q : List Int} (h : dInts p = dInts q) : p = q := (List.map_inj_right (fun a b e => by injection e)).mp h
end
/-! ### what a display makes -/
def Mk (K : PySem.W.Frag) (σ : L2.St) (H0 : Hp) (t : TE) (d : PyData) : Prop := ∀ (H : Hp) (Q : VK), Same H0 H → (∀ H' v, Same H H' → Dp K H' v d → Q v H') → t σ H Q
def MkA (K : PySem.W.Frag) (σ : L2.St) (H0 : Hp) (t : TA) (ds : List PyData) : Prop := ∀ (H : Hp) (Q : List V → Hp → Prop), Same H0 H → (∀ H' vs, Same H H' → DpAll K H' vs ds → Q vs H') → t σ H Q
section
variable {K : PySem.W.Frag} {σ : L2.St} {H0 : Hp}
theorem mk_str {z : Str} : Mk K σ H0 (tC (.str z)) (.str z) := fun H Q _ q => q H _ (Same.refl _) (.str z)
theorem mk_int {i : Int} : Mk K σ H0 (tC (.int i)) (.int i) := fun H Q _ q => q H _ (Same.refl _) (.int i)
theorem mk_bl {b : Bool} : Mk K σ H0 (tC (.bl b)) (.bool b) := fun H Q _ q => q H _ (Same.refl _) (.bl b)
theorem mk_non : Mk K σ H0 (tC .non) .none := fun H Q _ q => q H _ (Same.refl _) .non
theorem mk_var {i : Nat} {v : V} {d : PyData} (e : σ[i]? = some (some v)) (h : Dp K H0 v d) : Mk K σ H0 (tVar i) d := fun H Q s q => ⟨v, e, q H v (Same.refl _) (dp_mono s h)⟩
theorem mk_nil : MkA K σ H0 tNil [] := fun H Q _ q => q H [] (Same.refl _) .nil
theorem mk_cons {t : TE} {ta : TA} {d : PyData} {ds : List PyData} (h : Mk K σ H0 t d) (ha : MkA K σ H0 ta ds) : MkA K σ H0 (tCons t ta) (d :: ds) := fun H Q s q =>
  h H _ s fun H1 v s1 hv => ha H1 _ (s.trans s1) fun H2 vs s2 hs => q H2 (v :: vs) (s1.trans s2) (.cons (dp_mono s2 hv) hs)
theorem mk_tup {ta : TA} {ds : List PyData} (hl : ds.length ≤ 900) (ha : MkA K σ H0 ta ds) : Mk K σ H0 (tTup ta) (.tuple ds) := fun H Q s q =>
  ha H _ s fun H1 vs s1 hs => ⟨by rw [dpA_len hs]; exact Nat.le_of_lt (small1000 (by omega)), fun p hp => q _ _ (s1.trans (same_new hp)) (.tup (SqT.of upd_same) (dpA_mono (same_new hp) hs))⟩
theorem mk_lst {ta : TA} {ds : List PyData} (hl : ds.length ≤ 900) (ha : MkA K σ H0 ta ds) : Mk K σ H0 (tLst ta) (.list ds) := fun H Q s q =>
  ha H _ s fun H1 vs s1 hs => ⟨by rw [dpA_len hs]; exact Nat.le_of_lt (small1000 (by omega)), fun p hp => q _ _ (s1.trans (same_new hp)) (.lst (SqL.of upd_same) (dpA_mono (same_new hp) hs))⟩
theorem mk_mono {t : TE} {d : PyData} {H1 : Hp} (s : Same H0 H1) (h : Mk K σ H0 t d) : Mk K σ H1 t d := fun H Q s1 q => h H Q (s.trans s1) q
theorem mk_use {t : TE} {d : PyData} {Q : VK} (h : Mk K σ H0 t d) (q : ∀ H' v, Same H0 H' → Dp K H' v d → Q v H') : t σ H0 Q := h H0 Q (Same.refl _) q
end
/-! ### data that is small, and not deep -/
mutual
def smD : PyData → Bool
  | .none => true
  | .bool _ => true
  | .int _ => true
  | .str x => PyData.strOk x
  | .list xs => decide (xs.length ≤ 30) && smA xs
  | .tuple xs => decide (xs.length ≤ 30) && smA xs
  | .dict _ => false
def smA : List PyData → Bool
  | [] => true
  | x :: xs => smD x && smA xs
end
mutual
theorem sm_lay : ∀ d : PyData, smD d = true → d.canLay0 = true
  | .none, _ => by simp [PyData.canLay0]
  | .bool _, _ => by simp [PyData.canLay0]
  | .int _, _ => by simp [PyData.canLay0]
  | .str x, h => by simpa [PyData.canLay0, smD] using h
  | .list xs, h => by
    rw [smD, Bool.and_eq_true] at h
    rw [PyData.canLay0]
    exact smA_lay xs h.2
  | .tuple xs, h => by
    rw [smD, Bool.and_eq_true] at h
    rw [PyData.canLay0]
    exact smA_lay xs h.2
  | .dict _, h => by simp [smD] at h
theorem smA_lay : ∀ ds : List PyData, smA ds = true → PyData.canLayAll0 ds = true
  | [], _ => by simp [PyData.canLayAll0]
  | x :: xs, h => by
    rw [smA, Bool.and_eq_true] at h
    rw [PyData.canLayAll0, sm_lay x h.1, smA_lay xs h.2]
    rfl
end
theorem smA_iff : ∀ {ds : List PyData}, smA ds = true ↔ ∀ d ∈ ds, smD d = true
  | [] => by simp [smA]
  | x :: xs => by
    rw [smA, Bool.and_eq_true, smA_iff (ds := xs)]
    simp
theorem depth_mem {d : PyData} : ∀ {ds : List PyData}, d ∈ ds → d.depth ≤ PyData.depthAll ds
  | x :: xs, h => by
    rw [PyData.depthAll]
    rcases List.mem_cons.mp h with rfl | h
    · exact Nat.le_max_left _ _
    · exact Nat.le_trans (depth_mem h) (Nat.le_max_right _ _)
/-- small, and at most n within one another -/
def Okd (n : Nat) (d : PyData) : Prop := smD d = true ∧ d.depth ≤ n
theorem Okd.mono {n m : Nat} {d : PyData} (h : Okd n d) (e : n ≤ m) : Okd m d := ⟨h.1, Nat.le_trans h.2 e⟩
theorem Okd.shaped {n : Nat} {d : PyData} (h : Okd n d) (hn : n ≤ 64) : SeqAt.shaped d = true := by
  show (d.canLay0 && decide (d.depth ≤ 64)) = true
  rw [Bool.and_eq_true]
  exact ⟨sm_lay d h.1, decide_eq_true (Nat.le_trans h.2 hn)⟩
theorem Okd.tup {n : Nat} {ds : List PyData} (l : ds.length ≤ 30) (h : ∀ d ∈ ds, Okd n d) : Okd (n + 1) (.tuple ds) := by
  refine ⟨?_, ?_⟩
  · rw [smD, Bool.and_eq_true]
    exact ⟨decide_eq_true l, smA_iff.mpr fun d hd => (h d hd).1⟩
  · rw [PyData.depth]
    exact Nat.succ_le_succ (Sf.depthAll_le fun d hd => (h d hd).2)
theorem Okd.lst {n : Nat} {ds : List PyData} (l : ds.length ≤ 30) (h : ∀ d ∈ ds, Okd n d) : Okd (n + 1) (.list ds) := by
  refine ⟨?_, ?_⟩
  · rw [smD, Bool.and_eq_true]
    exact ⟨decide_eq_true l, smA_iff.mpr fun d hd => (h d hd).1⟩
  · rw [PyData.depth]
    exact Nat.succ_le_succ (Sf.depthAll_le fun d hd => (h d hd).2)
theorem Okd.of_tup {n : Nat} {ds : List PyData} (h : Okd n (.tuple ds)) : ds.length ≤ 30 ∧ ∀ d ∈ ds, Okd (n - 1) d := by
  obtain ⟨h1, h2⟩ := h
  rw [smD, Bool.and_eq_true] at h1
  rw [PyData.depth] at h2
  refine ⟨of_decide_eq_true h1.1, fun d hd => ⟨smA_iff.mp h1.2 d hd, ?_⟩⟩
  have := depth_mem hd
  omega
theorem okd_int {n : Nat} {i : Int} : Okd n (.int i) := ⟨by simp [smD], by simp [PyData.depth]⟩
theorem okd_bl {n : Nat} {b : Bool} : Okd n (.bool b) := ⟨by simp [smD], by simp [PyData.depth]⟩
theorem okd_non {n : Nat} : Okd n .none := ⟨by simp [smD], by simp [PyData.depth]⟩
theorem okd_str {n : Nat} {x : Str} (h : PyData.strOk x = true) : Okd n (.str x) := ⟨by rw [smD]; exact h, by simp [PyData.depth]⟩
theorem eqv_str {d : PyData} {x : Str} (h : PyData.eqv d (.str x) = true) : d = .str x := by
  cases d <;> simp_all [PyData.eqv]
theorem str_eqv {x : Str} : PyData.eqv (.str x) (.str x) = true := by simp [PyData.eqv]
/-! ### rising numbers -/
def rsI (xs : List Int) : List Bool := (xs.zip (xs.drop 1)).map fun p => decide (p.1 < p.2)
def riseB (xs : List Int) : Bool := (rsI xs).all id
theorem rsI_get {xs : List Int} {i : Nat} {x y : Int} (h1 : xs[i]? = some x) (h2 : xs[i + 1]? = some y) : (rsI xs)[i]? = some (decide (x < y)) := by
  unfold rsI
  rw [List.getElem?_map]
  have e : (xs.zip (xs.drop 1))[i]? = some (x, y) := by
    rw [List.getElem?_zip_eq_some]
    refine ⟨h1, ?_⟩
    rw [List.getElem?_drop, Nat.add_comm]
    exact h2
  rw [e]
  rfl
theorem rsI_len (xs : List Int) : (rsI xs).length = xs.length - 1 := by
  unfold rsI
  rw [List.length_map, List.length_zip, List.length_drop]
  omega
theorem riseB_iff {xs : List Int} : riseB xs = true ↔ ∀ (i : Nat) (x y : Int), xs[i]? = some x → xs[i + 1]? = some y → x < y := by
  unfold riseB
  rw [List.all_eq_true]
  constructor
  · intro h i x y h1 h2
    have := h _ (List.mem_of_getElem? (rsI_get h1 h2))
    exact of_decide_eq_true this
  · intro h b hb
    obtain ⟨i, hi⟩ := List.mem_iff_getElem?.mp hb
    have il := (List.getElem?_eq_some_iff.mp hi).1
    rw [rsI_len] at il
    have h1 : xs[i]? = some xs[i] := List.getElem?_eq_getElem (by omega)
    have h2 : xs[i + 1]? = some xs[i + 1] := List.getElem?_eq_getElem (by omega)
    rw [rsI_get h1 h2] at hi
    cases hi
    exact decide_eq_true (h i _ _ h1 h2)
end Dw

namespace Gp
open PySem PySem.Spec PyProof.Rows L2
/-! ### enumerate(t), t a tuple -/
/-- the tuple at a, its items one behind the other, each beside its number in a new pair -/
def ItE (K : PySem.W.Frag) (a : Addr) : It :=
  ⟨fun i H => ∃ (xs : List V) (x : V), SqT K H a xs ∧ xs[i]? = some x,
   fun i H v H' => ∃ (T : Addr) (x : V), v = .ref T ∧ H T = none ∧ H' = upd H T (.tup [.int (i : Nat), x]) ∧ ∀ xs, SqT K H a xs → xs[i]? = some x,
   fun i H => ∃ xs : List V, SqT K H a xs ∧ xs.length = i⟩
theorem cls_ne {h : Heap} {a b : Addr} {o o' : Obj} (e : h.get? a = some o) (e' : h.get? b = some o') (n : o.cls ≠ o'.cls) : a ≠ b := fun z => by
  subst z
  rw [e] at e'
  cases e'
  exact n rfl
theorem turn_enT {P : Program} {w : World} {K : PySem.W.Frag} {els : List Expr} {m : Nat} {tp : Pos} (a e it : Addr) :
    Turn P w K (.Tuple els m tp) (ItE K a) [e, it] e (fun i h => (∃ v0, IsEnum h e it ((i : Nat) : Int) v0) ∧ h.IsTupleIter it a i ∧ e ≠ it) where
  mem := List.mem_cons_self
  obj := fun i h t b hb => by
    obtain ⟨⟨v0, g1⟩, ⟨o, g2, _, g3⟩, _⟩ := t
    rcases List.mem_cons.mp hb with z | hb
    · subst z
      exact ⟨_, g1, fun v q => nomatch q⟩
    · have z := List.mem_singleton.mp hb
      subst z
      exact ⟨o, g2, fun v q => by rw [g3] at q; cases q⟩
  keep := fun i h h' t k => by
    obtain ⟨⟨v0, g1⟩, g2, g3⟩ := t
    exact ⟨⟨v0, k e List.mem_cons_self _ g1⟩, g2.at fun o q => k it (List.mem_cons_of_mem _ List.mem_cons_self) o q, g3⟩
  item := by
    intro X eP ew eK hc i pins s σ H E I fp t go
    subst eP ew eK
    obtain ⟨⟨v0, g1⟩, g2, g3⟩ := t
    obtain ⟨xs, x, hq, hx⟩ := go
    obtain ⟨its, rv, tp1, _⟩ := I.tuple hq
    obtain ⟨u, hu, ru⟩ := rv.get hx
    have el : e < s.heap.objs.size := Heap.lt_size g1
    have il : it < s.heap.objs.size := by
      obtain ⟨_, q, _⟩ := g2
      exact Heap.lt_size q
    obtain ⟨oa, ga, gc, _⟩ := id tp1
    obtain ⟨oi, gi, gic, _⟩ := id g2
    have ai : a ≠ it := cls_ne ga gi (by rw [gc, gic]; decide)
    have ea : e ≠ a := cls_ne g1 ga (by rw [gc]; show Value.type "enumerate" ≠ Value.type "tuple"; decide)
    have nf : e ∉ [it, a] := fun z => by
      rcases List.mem_cons.mp z with z | z
      · exact g3 z
      · exact ea (List.mem_singleton.mp z)
    have lt : i < its.toArray.size := by
      have := (List.getElem?_eq_some_iff.mp hu).1
      rw [List.size_toArray]
      exact this
    refine wpAny_pyNext_enum_itemD (Draws.tuple (A := X.A.in1) (I.ok.hd hc) it a ai its.toArray) g1 ⟨g2, tp1⟩ lt g3 nf fun y h1 tk hy out st1 new sz kp => ?_
    have ey : y = u := by
      have : its[i]? = some y := by simpa using hy
      rw [hu] at this
      exact (Option.some.inj this).symm
    subst ey
    refine ⟨_, rfl, wpAny_letOwnedTupleGo_enum (s := { s with heap := h1, toks := tk + 1 }) out fun h2 g1' sb => ?_⟩
    have new2 : h2.get? s.heap.objs.size = some { cls := .type "tuple", data := .seq #[.int i tk, y] } := (sb.2 _ (Nat.ne_of_gt el)).trans new
    have ok : ObjOk X.prog X.w (upd H s.heap.objs.size (.tup [.int (i : Nat), x])) h2 s.heap.objs.size (.tup [.int (i : Nat), x]) :=
      ⟨by show 2 ≤ sizeLine; decide, [.int i tk, y], .cons ⟨_, rfl⟩ (.cons ru .nil), ⟨_, new2, rfl, _, rfl⟩⟩
    have J : Inv X pins σ (upd H s.heap.objs.size (.tup [.int (i : Nat), x])) { s with heap := h2, toks := tk + 1 } :=
      I.turnedNew (t' := tk + 1) (ch := [e, it]) (fun b o nb q => (sb.2 b fun z => nb (by rw [z]; exact List.mem_cons_self)).trans (kp b o (fun z => nb (by rw [z]; exact List.mem_cons_self)) (fun z => nb (by rw [z]; exact List.mem_cons_of_mem _ List.mem_cons_self)) q)) fp (Nat.le_refl _) ok
    refine ⟨.ref s.heap.objs.size, _, J, rfl, ⟨_, x, rfl, I.hok.fresh (Nat.le_refl _), rfl, fun ys hy' => by rw [I.tuple_inj hy' hq]; exact hx⟩, ⟨⟨y, ?_⟩, st1.1.at fun o q => (sb.2 it (Ne.symm g3)).trans q, g3⟩, fun b hb => ?_⟩
    · have : ((i + 1 : Nat) : Int) = (i : Int) + 1 := by omega
      rw [this]
      exact g1'
    · have bl : b < s.heap.objs.size := by
        rcases List.mem_cons.mp hb with z | z
        · rw [z]
          exact el
        · rw [List.mem_singleton.mp z]
          exact il
      rw [upd_ne (Nat.ne_of_lt bl)]
      exact (fp b hb).1
  done := by
    intro X eP ew eK hc i pins s σ H E I fp t stop
    subst eP ew eK
    obtain ⟨⟨v0, g1⟩, g2, g3⟩ := t
    obtain ⟨xs, hq, hx⟩ := stop
    obtain ⟨its, rv, tp1, _⟩ := I.tuple hq
    have l1 := rv.length
    obtain ⟨oa, ga, gc, _⟩ := id tp1
    obtain ⟨oi, gi, gic, _⟩ := id g2
    have ai : a ≠ it := cls_ne ga gi (by rw [gc, gic]; decide)
    obtain ⟨f0, f1, f2, f3, f4, f5⟩ := fp it (List.mem_cons_of_mem _ List.mem_cons_self)
    have en : i = its.toArray.size := by
      rw [List.size_toArray]
      omega
    exact wpAny_pyNext_enum_endD (Draws.tuple (A := X.A.in1) (I.ok.hd hc) it a ai its.toArray) g1 ⟨en ▸ g2, tp1⟩ fun h1 eb => ⟨rfl, I.turned (t' := s.toks) (fun b o nb q => eb b o nb q) f0 f1 f3 f4 f5⟩
  self := fun A i s Q E t q => by
    obtain ⟨⟨_, g1⟩, _⟩ := t
    exact wpAny_pyIter_enum g1 q
/-- enumerate of one thing: its two new cells -/
theorem meets_en1 {v : Value} {o : Obj} {S : Heap → Prop} (B : Begins v o S) :
    Meets (Builtin.«enumerate.__new__» ⟨[.type "enumerate", v], []⟩) (fun _ R s => S s.heap ∧
      R (.ok (.ret (.ref (s.heap.push o).objs.size))) { s with heap := (s.heap.push o).push { cls := .type "enumerate", data := .fields #[.none, .bool false, .ref s.heap.objs.size, rawInt 0, .none, .none] } }) :=
  .of_wp fun prog w A R s h => by
    obtain ⟨hp, g, d, tk, os⟩ := s
    obtain ⟨z1, z2⟩ := h
    have sub := sub_enumerate
    have go : ∀ {A1 : Around} {E : Value → Shared → Prop} {Q : Value → Shared → Prop}, Q (.ref hp.objs.size) ⟨hp.push o, g, d, tk, os⟩ → wpAny (model prog w) A1 (pyIter v) Q E ⟨hp, g, d, tk, os⟩ := fun q => B.iter prog w _ _ ⟨hp, g, d, tk, os⟩ _ z1 q
    wp_walk using go
    refine wpAny_stack_any fun st1 => wpAny_pure ?_
    split
    · rename_i c _ _ _ _ _
      cases (c == Value.type "enumerate") <;> (wp_walk using go; exact ⟨_, rfl, z2⟩)
    · wp_walk using go
      exact ⟨_, rfl, z2⟩
theorem call_en1 {prog : Program} {w : World} {A : Around} {E : Value → Shared → Prop} {s : Shared} {v : Value} {o : Obj} {S : Heap → Prop} {Q : Value → Shared → Prop} (B : Begins v o S) (z : S s.heap)
    (q : ∀ h1, IsEnum h1 (s.heap.objs.size + 1) s.heap.objs.size 0 .none → h1.get? s.heap.objs.size = some o → (∀ b o', s.heap.get? b = some o' → h1.get? b = some o') → Q (.ref (s.heap.objs.size + 1)) { s with heap := h1 }) :
    wpAny (model prog w) A (call (.type "enumerate") [v]) Q E s := by
  refine callType_new F.called_enumerate (by decide) (F.typeCall_enumerate_1 _) (F.newCall_enumerate_1 _) (fun x => F.args_object_init_2 x _) F.entry_enumerate_new (meets_en1 B) ⟨z, ?_⟩
  have sz : (s.heap.push o).objs.size = s.heap.objs.size + 1 := Heap.size_push ..
  have g : ((s.heap.push o).push { cls := .type "enumerate", data := .fields #[.none, .bool false, .ref s.heap.objs.size, rawInt 0, .none, .none] }).get? (s.heap.push o).objs.size = some { cls := .type "enumerate", data := .fields #[.none, .bool false, .ref s.heap.objs.size, rawInt 0, .none, .none] } := Heap.get?_push_size _ rfl
  show _ ∧ _
  rw [sz] at g ⊢
  exact ⟨⟨_, g, rfl⟩, q _ g (Heap.get?_push_of_some _ (Heap.get?_push_size _ B.free)) fun b o' x => Heap.get?_push_of_some _ (Heap.get?_push_of_some _ x)⟩
def iEnT (K : PySem.W.Frag) (ta : TA) : TI := fun σ H R => ta σ H fun vs H1 => ∃ (a : Addr) (xs : List V), vs = [.ref a] ∧ SqT K H1 a xs ∧ R (ItE K a) H1
theorem pi_enT {X : Cx} {e : Expr} {ta : TA} {p pos tpos : Pos} {els : List Expr} {m : Nat} (hg : Gl X "enumerate") (hm : X.mg "enumerate" = none) (ha : PA X [e] ta) (hs : starEach [e] X.env = [(false, eval e X.env)] := by rfl) :
    PI X (.Tuple els m tpos) (.Call (.Name "enumerate" p) [e] [] pos) (iEnT X.K ta) := by
  constructor
  intro pins s σ H R I h
  refine Call_ (ld_blt I hg hm boot_enumerate (PyProof.Rows.callWith_type1 (thn (ha.run pos pins s σ H _ I h) fun us s1 hv => ?_) hs rfl))
  obtain ⟨vs, H1, I1, r1, a, xs, rfl, hq, q⟩ := hv
  rw [Vals.ref1 r1]
  obtain ⟨its, rv, tp1, _⟩ := I1.tuple hq
  refine call_en1 (begins_tuple a its.toArray) tp1 fun h1 g1 g2 kp => wpAny_pyIter_enum g1 ?_
  have I2 : Inv X pins σ H1 { s1 with heap := h1 } := I1.kept (t' := s1.toks) kp
  refine ⟨s1.heap.objs.size + 1, [s1.heap.objs.size + 1, s1.heap.objs.size], _, _, H1, rfl, I2, turn_enT a (s1.heap.objs.size + 1) s1.heap.objs.size, ⟨⟨.none, g1⟩, ⟨_, g2, rfl, rfl⟩, Nat.succ_ne_self _⟩, fun b hb => ?_, q⟩
  have le : s1.heap.objs.size ≤ b := by
    rcases List.mem_cons.mp hb with z | z
    · rw [z]
      exact Nat.le_succ _
    · rw [List.mem_singleton.mp z]
      exact Nat.le_refl _
  exact I1.fpOk le (I1.hok.fresh le)
/-! ### zip(t, l), t a tuple, l a list -/
def ItZ (K : PySem.W.Frag) (a b : Addr) : It :=
  ⟨fun i H => ∃ (xs ys : List V) (x y : V), SqT K H a xs ∧ SqL K H b ys ∧ xs[i]? = some x ∧ ys[i]? = some y,
   fun i H v H' => ∃ (T : Addr) (x y : V), v = .ref T ∧ H T = none ∧ H' = upd H T (.tup [x, y]) ∧ (∀ xs, SqT K H a xs → xs[i]? = some x) ∧ ∀ ys, SqL K H b ys → ys[i]? = some y,
   fun i H => ∃ xs ys : List V, SqT K H a xs ∧ SqL K H b ys ∧ xs.length = i ∧ ys.length = i⟩
theorem in5 {z TI TO i1 i2 c : Addr} : c ∈ [z, TI, TO, i1, i2] ↔ c = z ∨ c = TI ∨ c = TO ∨ c = i1 ∨ c = i2 := by simp
theorem turn_ziT {P : Program} {w : World} {K : PySem.W.Frag} {els : List Expr} {m : Nat} {tp : Pos} {a b z TI TO i1 i2 : Addr} (S : ZipSep2 z TI TO i1 i2 [i1, a] [i2, b]) (ai : a ≠ i1) (bi : b ≠ i2) :
    Turn P w K (.Tuple els m tp) (ItZ K a b) [z, TI, TO, i1, i2] z (fun i h => IsZip h z TI TO .none ∧ IsTupOf2 h TI (.ref i1) (.ref i2) ∧ (∃ p q, IsTupOf2 h TO p q) ∧ h.IsTupleIter i1 a i ∧ h.IsListIter i2 b i) where
  mem := List.mem_cons_self
  obj := fun i h t c hc => by
    obtain ⟨g1, g2, ⟨p, q, g3⟩, ⟨o1, e1, _, d1⟩, ⟨o2, e2, _, d2⟩⟩ := t
    rcases in5.mp hc with e | e | e | e | e <;> subst e
    · exact ⟨_, g1, fun v n => nomatch n⟩
    · exact ⟨_, g2, fun v n => nomatch n⟩
    · exact ⟨_, g3, fun v n => nomatch n⟩
    · exact ⟨o1, e1, fun v n => by rw [d1] at n; cases n⟩
    · exact ⟨o2, e2, fun v n => by rw [d2] at n; cases n⟩
  keep := fun i h h' t k => by
    obtain ⟨g1, g2, ⟨p, q, g3⟩, g4, g5⟩ := t
    exact ⟨k z (in5.mpr (.inl rfl)) _ g1, k TI (in5.mpr (.inr (.inl rfl))) _ g2, ⟨p, q, k TO (in5.mpr (.inr (.inr (.inl rfl)))) _ g3⟩, g4.at fun o e => k i1 (in5.mpr (.inr (.inr (.inr (.inl rfl))))) o e, g5.at fun o e => k i2 (in5.mpr (.inr (.inr (.inr (.inr rfl))))) o e⟩
  item := by
    intro X eP ew eK hc i pins s σ H E I fp t go
    subst eP ew eK
    obtain ⟨g1, g2, ⟨p, q, g3⟩, g4, g5⟩ := t
    obtain ⟨xs, ys, x, y, hqx, hqy, hx, hy⟩ := go
    obtain ⟨ia, ra, ta, _⟩ := I.tuple hqx
    obtain ⟨ib, rb, lb, _⟩ := I.list hqy
    obtain ⟨u, hu, ru⟩ := ra.get hx
    obtain ⟨v, hv, rv⟩ := rb.get hy
    have zl : z < s.heap.objs.size := Heap.lt_size g1
    have la : i < ia.toArray.size := by
      have := (List.getElem?_eq_some_iff.mp hu).1
      rw [List.size_toArray]
      exact this
    have lb' : i < ib.toArray.size := by
      have := (List.getElem?_eq_some_iff.mp hv).1
      rw [List.size_toArray]
      exact this
    refine wpAny_pyNext_zipD2_item S (Draws.tuple (A := X.A.in1) (I.ok.hd hc) i1 a ai ia.toArray) (Draws.list (A := X.A.in1) (I.ok.hd hc) i2 b bi ib.toArray) g1 g2 g3 ⟨g4, ta⟩ ⟨g5, lb.isList⟩ la lb' fun x1 x2 h1 tk y1 y2 z1 to1 st1 st2 new sz kp => ?_
    have e1 : x1 = u := by
      have : ia[i]? = some x1 := by simpa using y1
      rw [hu] at this
      exact (Option.some.inj this).symm
    have e2 : x2 = v := by
      have : ib[i]? = some x2 := by simpa using y2
      rw [hv] at this
      exact (Option.some.inj this).symm
    subst e1 e2
    refine ⟨_, rfl, wpAny_letOwnedTupleGo_zip (s := { s with heap := h1, toks := tk }) z1 fun h2 z2 sb => ?_⟩
    have new2 : h2.get? s.heap.objs.size = some { cls := .type "tuple", data := .seq #[x1, x2] } := (sb.2 _ (Nat.ne_of_gt zl)).trans new
    have ok : ObjOk X.prog X.w (upd H s.heap.objs.size (.tup [x, y])) h2 s.heap.objs.size (.tup [x, y]) :=
      ⟨by show 2 ≤ sizeLine; decide, [x1, x2], .cons ru (.cons rv .nil), ⟨_, new2, rfl, _, rfl⟩⟩
    have J : Inv X pins σ (upd H s.heap.objs.size (.tup [x, y])) { s with heap := h2, toks := tk } :=
      I.turnedNew (t' := tk) (ch := [z, TI, TO, i1, i2]) (fun c o n e => (sb.2 c fun y => n (in5.mpr (.inl y))).trans (kp c o (fun y => n (in5.mpr (.inl y))) (fun y => n (in5.mpr (.inr (.inr (.inl y))))) (fun y => n (in5.mpr (.inr (.inr (.inr (.inl y)))))) (fun y => n (in5.mpr (.inr (.inr (.inr (.inr y)))))) e)) fp (Nat.le_refl _) ok
    have i1z : i1 ≠ z := fun e => S.zf1 (e ▸ S.mem1)
    have i2z : i2 ≠ z := fun e => S.zf2 (e ▸ S.mem2)
    refine ⟨.ref s.heap.objs.size, _, J, rfl, ⟨_, x, y, rfl, I.hok.fresh (Nat.le_refl _), rfl, fun l hl => by rw [I.tuple_inj hl hqx]; exact hx, fun l hl => by rw [I.list_inj hl hqy]; exact hy⟩, ⟨z2, ?_, ⟨x1, x2, ?_⟩, ?_, ?_⟩, fun c hcm => ?_⟩
    · exact (sb.2 _ S.TIz).trans (kp _ _ S.TIz S.TITO S.TIi1 S.TIi2 g2)
    · exact (sb.2 _ S.TOz).trans to1
    · exact st1.1.at fun o e => (sb.2 _ i1z).trans e
    · exact st2.1.at fun o e => (sb.2 _ i2z).trans e
    · have cl : c < s.heap.objs.size := by
        rcases in5.mp hcm with e | e | e | e | e <;> subst e
        · exact zl
        · exact Heap.lt_size g2
        · exact Heap.lt_size g3
        · obtain ⟨_, e, _⟩ := g4
          exact Heap.lt_size e
        · obtain ⟨_, e, _⟩ := g5
          exact Heap.lt_size e
      rw [upd_ne (Nat.ne_of_lt cl)]
      exact (fp c hcm).1
  done := by
    intro X eP ew eK hc i pins s σ H E I fp t stop
    subst eP ew eK
    obtain ⟨g1, g2, ⟨p, q, g3⟩, g4, g5⟩ := t
    obtain ⟨xs, ys, hqx, hqy, hx, hy⟩ := stop
    obtain ⟨ia, ra, ta, _⟩ := I.tuple hqx
    obtain ⟨ib, rb, lb, _⟩ := I.list hqy
    have l1 := ra.length
    have l2 := rb.length
    have n1 : i = ia.toArray.size := by
      rw [List.size_toArray]
      omega
    have n2 : i = ib.toArray.size := by
      rw [List.size_toArray]
      omega
    exact wpAny_pyNext_zipD2_end (i := i) S (Draws.tuple (A := X.A.in1) (I.ok.hd hc) i1 a ai ia.toArray) (Draws.list (A := X.A.in1) (I.ok.hd hc) i2 b bi ib.toArray) g1 g2 g3 ⟨g4, ta⟩ ⟨g5, lb.isList⟩ (Nat.le_of_eq n1) (Nat.le_of_eq n2) (.inl n1) fun h1 tk kp =>
      ⟨rfl, I.turnedL (t' := tk) (ch := [z, TI, TO, i1, i2]) (fun c o n e => kp c o (fun y => n (in5.mpr (.inl y))) (fun y => n (in5.mpr (.inr (.inr (.inl y))))) (fun y => n (in5.mpr (.inr (.inr (.inr (.inl y)))))) (fun y => n (in5.mpr (.inr (.inr (.inr (.inr y)))))) e) fp⟩
  self := fun A i s Q E t q => wpAny_pyIter_zip t.1 q
def iZiT (K : PySem.W.Frag) (ta : TA) : TI := fun σ H R => ta σ H fun vs H1 => ∃ (a b : Addr) (xs ys : List V), vs = [.ref a, .ref b] ∧ SqT K H1 a xs ∧ SqL K H1 b ys ∧ R (ItZ K a b) H1
theorem pi_ziT {X : Cx} {e e2 : Expr} {ta : TA} {p pos tpos : Pos} {els : List Expr} {m : Nat} (hg : Gl X "zip") (hm : X.mg "zip" = none) (ha : PA X [e, e2] ta)
    (h1 : starEach [e, e2] X.env = (false, eval e X.env) :: starEach [e2] X.env := by rfl) (h2 : (backTo pos (starEach [e2] X.env)).any (·.1) = false := by rfl) : PI X (.Tuple els m tpos) (.Call (.Name "zip" p) [e, e2] [] pos) (iZiT X.K ta) := by
  constructor
  intro pins s σ H R I h
  refine Call_ (ld_blt I hg hm PyProof.Rows.boot_zip (PyProof.Rows.callWith_type1 (thn (ha.run pos pins s σ H _ I h) fun us s1 hv => ?_) h1 h2))
  obtain ⟨vs, H1, I1, r1, a, b, xs, ys, rfl, hqx, hqy, q⟩ := hv
  cases r1 with
  | cons ra rr =>
    cases rr with
    | cons rb rr =>
      cases rr
      cases ra
      cases rb
      obtain ⟨ia, va, ta1, _⟩ := I1.tuple hqx
      obtain ⟨ib, vb, lb1, _⟩ := I1.list hqy
      have al : a < s1.heap.objs.size := by
        obtain ⟨_, e, _⟩ := ta1
        exact Heap.lt_size e
      have bl : b < s1.heap.objs.size := lb1.lt
      have S := zip_sep2 (N := s1.heap.objs.size) (fp1 := [a]) (fp2 := [b]) (fun c hc => by rw [List.mem_singleton.mp hc]; exact al) (fun c hc => by rw [List.mem_singleton.mp hc]; exact bl)
      refine zip_begins2 (begins_tuple a ia.toArray) (begins_list b ib.toArray) ta1 lb1.isList fun h1 z1 z2 z3 z4 z5 _ kp => wpAny_pyIter_zip z1 ?_
      have I2 : Inv X pins σ H1 { s1 with heap := h1 } := I1.kept (t' := s1.toks) kp
      refine ⟨s1.heap.objs.size + 4, [s1.heap.objs.size + 4, s1.heap.objs.size + 2, s1.heap.objs.size + 3, s1.heap.objs.size, s1.heap.objs.size + 1], _, _, H1, rfl, I2, turn_ziT S (Nat.ne_of_lt al) (Nat.ne_of_lt (Nat.lt_succ_of_lt bl)), ⟨z1, z2, ⟨_, _, z3⟩, ⟨_, z4, rfl, rfl⟩, ⟨_, z5, rfl, rfl⟩⟩, fun c hcm => ?_, q⟩
      have le : s1.heap.objs.size ≤ c := by
        rcases in5.mp hcm with e | e | e | e | e <;> rw [e]
        · exact Nat.le_add_right _ _
        · exact Nat.le_add_right _ _
        · exact Nat.le_add_right _ _
        · exact Nat.le_refl _
        · exact Nat.le_add_right _ _
      exact I1.fpOk le (I1.hok.fresh le)
end Gp

namespace W35
open PySem PySem.Spec PyProof.Rows L2 Gs Gp Gr RZ Dw
/-! ### looks at whys, of any data: what is whole, below, rising, a tuple, a lot, a part -/
theorem scWhole : FnScope ["thing"] ["thing"] (defScope sWhole) := ⟨rfl, rfl, rfl, by decide +kernel, rfl, by decide +kernel, by decide +kernel⟩
theorem scBelow : FnScope ["thing", "many"] ["thing", "many"] (defScope sBelow) := ⟨rfl, rfl, rfl, by decide +kernel, rfl, by decide +kernel, by decide +kernel⟩
theorem scRising : FnScope ["names", "one", "other"] ["names"] (defScope sRising) := ⟨rfl, rfl, rfl, by decide +kernel, rfl, by decide +kernel, by decide +kernel⟩
theorem scTupOf : FnScope ["thing", "fewest", "most"] ["thing", "fewest", "most"] (defScope sTupOf) := ⟨rfl, rfl, rfl, by decide +kernel, rfl, by decide +kernel, by decide +kernel⟩
theorem scLotWhy : FnScope ["ties", "many", "thing", "tie"] ["ties", "many", "thing"] (defScope sLotWhy) := ⟨rfl, rfl, rfl, by decide +kernel, rfl, by decide +kernel, by decide +kernel⟩
theorem scPart : FnScope ["thing", "entry"] ["thing"] (defScope sPart) := ⟨rfl, rfl, rfl, by decide +kernel, rfl, by decide +kernel, by decide +kernel⟩
def belowB (m : Nat) : PyData → Bool
  | .int i => decide (0 ≤ i) && decide (i < (m : Int))
  | _ => false
def tup2B : PyData → Bool
  | .tuple ds => decide (ds.length = 2)
  | _ => false
def lotB (m : Nat) (ts : List Tie) : PyData → Bool
  | .tuple [d0, .int i] => PyData.eqv d0 (.str "lot") && belowB m (.int i) && !(ts.any fun t => decide (i.toNat ∈ t.2.2))
  | _ => false
def partB : PyData → Bool
  | .tuple [.tuple xs, _] => xs.all isI && riseB (xs.map fun d => match d with | .int i => i | _ => 0)
  | _ => false
def spWhole (K : PySem.W.Frag) : Sp := fun vs H Q _ => ∃ (v : V) (d : PyData), vs = [v] ∧ Dp K H v d ∧ Q (.bl (isI d)) H
def spBelow (K : PySem.W.Frag) : Sp := fun vs H Q _ => ∃ (v : V) (d : PyData) (m : Nat), vs = [v, .int m] ∧ Dp K H v d ∧ Q (.bl (belowB m d)) H
def spRise (K : PySem.W.Frag) : Sp := fun vs H Q _ => ∃ (a : Addr) (p : List Int), vs = [.ref a] ∧ SqT K H a (p.map V.int) ∧ p.length ≤ 900 ∧ ∀ H', Same H H' → Q (.bl (riseB p)) H'
def spTupOf (K : PySem.W.Frag) : Sp := fun vs H Q _ => ∃ (v : V) (d : PyData), vs = [v, .int 2, .int 2] ∧ Dp K H v d ∧ Q (.bl (tup2B d)) H
def spLotWhy (K : PySem.W.Frag) : Sp := fun vs H Q _ => ∃ (T : Addr) (v : V) (d : PyData) (m : Nat) (us : List V) (ts : List Tie), vs = [.ref T, .int m, v] ∧ Dp K H v d ∧ Okd 60 d ∧ H T = some (.lst us) ∧ Ties H us ts ∧ ts.length ≤ 900 ∧ ∀ H', Same H H' → Q (.bl (lotB m ts d)) H'
def spPart (K : PySem.W.Frag) : Sp := fun vs H Q _ => ∃ (v : V) (d : PyData), vs = [v] ∧ Dp K H v d ∧ Okd 60 d ∧ ∀ H', Same H H' → Q (.bl (partB d)) H'
theorem tup2_form {d : PyData} (h : tup2B d = true) : ∃ d0 d1, d = .tuple [d0, d1] := by
  match d, h with
  | .tuple [a, b], _ => exact ⟨a, b, rfl⟩
  | .tuple [], h => simp [tup2B] at h
  | .tuple [_], h => simp [tup2B] at h
  | .tuple (_ :: _ :: _ :: _), h => simp [tup2B] at h
theorem lotB_no {m : Nat} {ts : List Tie} {d : PyData} (h : tup2B d = false) : lotB m ts d = false := by
  match d, h with
  | .tuple [a, b], h => simp [tup2B] at h
  | .tuple [], _ => simp [lotB]
  | .tuple [_], _ => simp [lotB]
  | .tuple (_ :: _ :: _ :: _), _ => simp [lotB]
  | .none, _ => rfl
  | .bool _, _ => rfl
  | .int _, _ => rfl
  | .str _, _ => rfl
  | .list _, _ => rfl
  | .dict _, _ => rfl
theorem lotB_0 {m : Nat} {ts : List Tie} {d0 d1 : PyData} (h : PyData.eqv d0 (.str "lot") = false) : lotB m ts (.tuple [d0, d1]) = false := by
  cases d1 <;> simp [lotB, h]
theorem lotB_1 {m : Nat} {ts : List Tie} {d0 d1 : PyData} (h : belowB m d1 = false) : lotB m ts (.tuple [d0, d1]) = false := by
  cases d1 <;> simp [lotB, h]
theorem below_form {m : Nat} {d : PyData} (h : belowB m d = true) : ∃ lot : Nat, lot < m ∧ d = .int (lot : Nat) := by
  cases d with
  | int i =>
    unfold belowB at h
    rw [Bool.and_eq_true] at h
    have h1 := of_decide_eq_true h.1
    have h2 := of_decide_eq_true h.2
    exact ⟨i.toNat, by omega, by rw [Int.toNat_of_nonneg h1]⟩
  | _ => simp [belowB] at h
theorem partB_no {d : PyData} (h : tup2B d = false) : partB d = false := by
  match d, h with
  | .tuple [a, b], h => simp [tup2B] at h
  | .tuple [], _ => simp [partB]
  | .tuple [_], _ => simp [partB]
  | .tuple (_ :: _ :: _ :: _), _ => simp [partB]
  | .none, _ => rfl
  | .bool _, _ => rfl
  | .int _, _ => rfl
  | .str _, _ => rfl
  | .list _, _ => rfl
  | .dict _, _ => rfl
theorem partB_0 {d0 d1 : PyData} (h : isT d0 = false) : partB (.tuple [d0, d1]) = false := by
  cases d0 <;> first | rfl | (simp [isT] at h)
theorem partB_ints (p : List Int) (d1 : PyData) : partB (.tuple [.tuple (dInts p), d1]) = riseB p := by
  show ((dInts p).all isI && riseB ((dInts p).map _)) = _
  rw [ints_all, Bool.true_and]
  unfold dInts
  rw [List.map_map]
  congr 1
  exact (List.map_congr_left (fun _ _ => rfl)).trans (List.map_id _)
section
variable {P : Program} {w : World} {K : PySem.W.Frag} {mg : Str → Option Value} {base : Heap} {f f1 f2 f3 : Addr} {fd d1 d2 d3 : FuncData} {k : Nat}
theorem ok_whole (F : Fun K "is_whole" "is_whole" sWhole f fd) (mi : mg "isinstance" = none) (mn : mg "int" = none) (mb : mg "bool" = none) : FnOk P w K mg base CX0 (k + 1) f fd ["thing"] (spWhole K) := by
  refine F.ok scWhole (fun vs H Q E h => ?_) (fun cdv A outer s H vs Q E hr h => ?_)
  · obtain ⟨v, d, rfl, _⟩ := h
    rfl
  · obtain ⟨v, d, rfl, hv, q⟩ := h
    refine ⟨_, pss_one (ps_ret (pe_and (pe_callB call_isi (by rfl) mi (by decide +kernel) (pa_cons (pv 0) (pa_cons (pe_bltn (v := .ty "int") (by rfl) mn (by decide +kernel) rfl) pa_nil)))
      (pe_one (pe_not (pe_callB call_isi (by rfl) mi (by decide +kernel) (pa_cons (pv 0) (pa_cons (pe_bltn (v := .ty "bool") (by rfl) mb (by decide +kernel) rfl) pa_nil))))))), ?_⟩
    obtain ⟨t, ty, k1, k2, _⟩ := dp_ty hv
    refine ⟨_, rfl, _, _, t, _, _, rfl, .ty _, ty, k1, _, rfl, ?_⟩
    cases hI : isI d with
    | true =>
      have hB : isB d = false := by
        cases d <;> first | rfl | cases hI
      rw [hB] at k2
      rw [hI] at q
      exact iteT ⟨_, rfl, _, _, t, _, _, rfl, .ty _, ty, k2, _, rfl, q⟩
    | false =>
      rw [hI] at q
      cases hB : isB d with
      | true =>
        rw [hB] at k2
        exact iteT ⟨_, rfl, _, _, t, _, _, rfl, .ty _, ty, k2, _, rfl, q⟩
      | false => exact iteF q
theorem ok_below (F : Fun K "is_below" "is_below" sBelow f fd) (WH : Cl P w K mg base CX0 k "is_whole" ["thing"] (spWhole K) f1 d1) : FnOk P w K mg base CX0 (k + 1) f fd ["thing", "many"] (spBelow K) := by
  refine F.ok scBelow (fun vs H Q E h => ?_) (fun cdv A outer s H vs Q E hr h => ?_)
  · obtain ⟨v, d, m, rfl, _⟩ := h
    rfl
  · obtain ⟨v, d, m, rfl, hv, q⟩ := h
    refine ⟨_, pss_one (ps_ret (pe_and (pe_call WH.ok hr (by rfl) WH.g WH.kp WH.bd .nil pass0 (pa_cons (pv 0) pa_nil))
      (pe_one (pe_chain op_le op_lt pe_int (pv 0) (pv 1))))), ?_⟩
    refine ⟨_, rfl, v, d, rfl, hv, _, rfl, ?_⟩
    cases hI : isI d with
    | false =>
      have e : belowB m d = false := by
        cases d <;> first | rfl | cases hI
      rw [e] at q
      exact iteF q
    | true =>
      obtain ⟨i, rfl, rfl⟩ := dp_int hv hI
      have q : Q (.bl (decide (0 ≤ i) && decide (i < (m : Int)))) H := q
      refine iteT ?_
      refine ⟨_, rfl, _, _, rfl, rfl, _, rfl, ?_⟩
      by_cases c : 0 ≤ i
      · rw [decide_eq_true c, Bool.true_and] at q
        exact iteP (decide_eq_true c) ⟨_, rfl, _, _, rfl, rfl, q⟩
      · rw [decide_eq_false c, Bool.false_and] at q
        exact iteN (decide_eq_false c) q
theorem ok_tupOf (F : Fun K "is_tuple_of" "is_tuple_of" sTupOf f fd) (mi : mg "isinstance" = none) (mt : mg "tuple" = none) (ml : mg "len" = none) : FnOk P w K mg base CX0 (k + 1) f fd ["thing", "fewest", "most"] (spTupOf K) := by
  refine F.ok scTupOf (fun vs H Q E h => ?_) (fun cdv A outer s H vs Q E hr h => ?_)
  · obtain ⟨v, d, rfl, _⟩ := h
    rfl
  · obtain ⟨v, d, rfl, hv, q⟩ := h
    refine ⟨_, pss_one (ps_ret (pe_and (pe_callB call_isi (by rfl) mi (by decide +kernel) (pa_cons (pv 0) (pa_cons (pe_bltn (v := .ty "tuple") (by rfl) mt (by decide +kernel) rfl) pa_nil)))
      (pe_one (pe_chain op_le op_le (pv 1) (pe_callB call_len_seq (by rfl) ml PySem.boot_len (pa_cons (pv 0) pa_nil)) (pv 2))))), ?_⟩
    obtain ⟨t, ty, _, _, kt⟩ := dp_ty hv
    cases hT : isT d with
    | false =>
      rw [hT] at kt
      have e : tup2B d = false := by
        cases d <;> first | rfl | cases hT
      rw [e] at q
      exact ⟨_, rfl, _, _, t, _, false, rfl, .ty _, ty, kt, _, rfl, iteF q⟩
    | true =>
      rw [hT] at kt
      obtain ⟨a, xs, ds, rfl, rfl, ha, al⟩ := dp_tup hv hT
      have q : Q (.bl (decide (ds.length = 2))) H := q
      have xl := dpA_len al
      refine ⟨_, rfl, _, _, t, _, true, rfl, .ty _, ty, kt, _, rfl, iteT ?_⟩
      refine ⟨_, rfl, _, rfl, a, xs, rfl, .inr ha, _, _, rfl, rfl, _, rfl, ?_⟩
      by_cases c : 2 ≤ xs.length
      · refine iteP (decide_eq_true (by omega)) ⟨_, rfl, _, _, rfl, rfl, ?_⟩
        show Q (.bl (decide ((xs.length : Int) ≤ (2 : Int)))) H
        rw [show decide ((xs.length : Int) ≤ (2 : Int)) = decide (ds.length = 2) from decide_eq_decide.mpr ⟨fun h => by omega, fun h => by omega⟩]
        exact q
      · have e : decide ((2 : Int) ≤ (xs.length : Int)) = false := decide_eq_false (by omega)
        refine iteN e ?_
        rw [show decide (ds.length = 2) = false from decide_eq_false (by omega)] at q
        exact q
theorem cutN (xs : List V) : cutV xs (some 1) none = xs.drop 1 := by
  unfold cutV
  rw [show (some (1 : Int)) = some ((1 : Nat) : Int) from rfl, HT.sIx_nat, HT.sIx_none]
  by_cases h : 1 ≤ xs.length
  · rw [Nat.min_eq_left h]
    exact List.take_of_length_le (by rw [List.length_drop]; exact Nat.le_refl _)
  · have e : xs = [] := List.eq_nil_of_length_eq_zero (by omega)
    subst e
    rfl
theorem ok_rise (F : Fun K "is_rising" "is_rising" sRising f fd) (mz : mg "zip" = none) (ma : mg "all" = none) : FnOk P w K mg base CX0 (k + 1) f fd ["names"] (spRise K) := by
  refine F.ok scRising (fun vs H Q E h => ?_) (fun cdv A outer s H vs Q E hr h => ?_)
  · obtain ⟨a, p, rfl, _⟩ := h
    rfl
  · obtain ⟨a, p, rfl, ha, pl, q⟩ := h
    refine ⟨_, pss_one (ps_ret (pe_callB (cr_all rfl) (by rfl) ma (by decide +kernel) (pa_cons
        (pe_lc (own := [("one", 1), ("other", 2)]) (g := gTup K 2 (gCons (gName 1) (gCons (gName 2) gNil))) (tt := tYes) rfl scRising.nd (pi_zipA (by rfl) mz (pa_cons (pv 0) (pa_cons (pe_slice sl_tupA (pv 0) (po_some pe_int) po_none) pa_nil)))
          (blkOk_by (own := [("one", 1), ("other", 2)]) (N := ["names", "one", "other"]) (sc := defScope sRising) (by decide +kernel))
          (fun _ _ _ _ _ => pg_tup rfl (pgs_cons (pg_name (i := 1) scRising.nd rfl (Or.inl rfl)) (pgs_cons (pg_name (i := 2) scRising.nd rfl (Or.inl rfl)) pgs_nil))) (fun _ _ _ _ _ => pts_nil)
          (fun _ _ _ _ _ => pe_cmpR op_lt (pv 1) (pv 2) (nomark _))) pa_nil))), ?_⟩
    have ml : (p.map V.int).length = p.length := List.length_map ..
    have go : ∀ (H1 : Hp) (c : Addr), Same H H1 → SqT K H1 c ((p.map V.int).drop 1) → ∃ xs ys, SqT K H1 a xs ∧ SqT K H1 c ys ∧ ∀ D, H1 D = none → ∃ W : Nat → Nat → Hp → Prop, (∃ m, W 0 m (upd H1 D (.lst []))) ∧ ∀ i m H', W i m H' →
          ((ItzT K a c).stop i H' ∧ rAll K [.ref D] H' Q) ∨ ((ItzT K a c).go i H' ∧ ∃ Nx : Hp → Prop, (∀ H'', Nx H'' → ∃ m', m' < m ∧ W (i + 1) m' H'') ∧ ∀ x H'', (ItzT K a c).yld i H' x H'' →
            gTup K 2 (gCons (gName 1) (gCons (gName 2) gNil)) x (wipe (start ["names", "one", "other"] [V.ref a]) [1, 2]) H'' fun σ2 H2 => wipe σ2 [1, 2] = wipe (start ["names", "one", "other"] [V.ref a]) [1, 2] ∧ tYes σ2 H2 fun b H3 =>
              if b = true then tOp (fun x y H Q => ∃ i j, x = .int i ∧ y = .int j ∧ Q (.bl (decide (i < j))) H) (tVar 1) (tVar 2) σ2 H3 fun y H4 => ∃ acc, H4 D = some (.lst acc) ∧ acc.length < sizeLine ∧ Nx (upd H4 D (.lst (acc ++ [y]))) else Nx H3) := by
      intro H1 c s1 ec
      refine ⟨_, _, same_tup s1 ha, ec, fun D hD => ?_⟩
      refine walkC (J := ItzT K a c) (n := p.length - 1) (fun i H' => H' D = some (.lst (((rsI p).take i).map V.bl)) ∧ Same H1 H') ⟨upd_same, same_new hD⟩ (fun i H' hi hp => ?_) (fun H' hp => ?_) (fun i x H2 H3 hi hp hy => ?_) (fun H2 hp => ?_)
      · exact ⟨_, _, _, _, same_tup hp.2 (same_tup s1 ha), same_tup hp.2 ec, List.getElem?_eq_getElem (by rw [ml]; omega), List.getElem?_eq_getElem (by rw [List.length_drop, ml]; omega)⟩
      · exact ⟨_, _, same_tup hp.2 (same_tup s1 ha), same_tup hp.2 ec, .inr (by rw [List.length_drop, ml]; omega)⟩
      · obtain ⟨e2, s2⟩ := hp
        obtain ⟨t, x1, x2, rfl, ht, rfl, h1, h2⟩ := hy
        have h1 := h1 _ (same_tup s2 (same_tup s1 ha))
        have h2 := h2 _ (same_tup s2 ec)
        rw [List.getElem?_drop, Nat.add_comm] at h2
        have g1 : p[i]? = some p[i] := List.getElem?_eq_getElem (by omega)
        have g2 : p[i + 1]? = some p[i + 1] := List.getElem?_eq_getElem (by omega)
        rw [List.getElem?_map, g1] at h1
        rw [List.getElem?_map, g2] at h2
        cases h1
        cases h2
        have s3 := same_new (o := .tup [V.int p[i], V.int p[i + 1]]) ht
        refine ⟨t, _, rfl, SqT.of upd_same, rfl, _, _, rfl, _, _, rfl, rfl, rfl, ?_⟩
        refine ⟨_, rfl, _, rfl, _, _, rfl, rfl, ?_⟩
        refine ⟨_, s3 _ _ e2, by rw [List.length_map, List.length_take]; exact small1000 (by omega), ?_, keep_new hD (s2.trans s3)⟩
        rw [upd_same, List.take_add_one, rsI_get g1 g2, List.map_append]
        rfl
      · obtain ⟨e2, s2⟩ := hp
        rw [List.take_of_length_le (by rw [rsI_len]; exact Nat.le_refl _)] at e2
        exact ⟨D, rsI p, rfl, SqL.of e2, q H2 (s1.trans s2)⟩
    refine ⟨_, rfl, _, rfl, 1, rfl, a, _, rfl, ha, fun hw => ?_, fun hw c hc => ?_⟩
    · have e : (p.map V.int).drop 1 = p.map V.int := by
        have h1 := hw.1
        rw [show (some (1 : Int)) = some ((1 : Nat) : Int) from rfl, HT.sIx_nat, ml] at h1
        have : p.length = 0 := by omega
        rw [List.eq_nil_of_length_eq_zero this]
        rfl
      obtain ⟨xs, ys, h1, h2, h3⟩ := go H a (Same.refl _) (by rw [e]; exact ha)
      exact ⟨a, a, xs, ys, rfl, .inr ⟨h1, h2, h3⟩⟩
    · rw [cutN]
      obtain ⟨xs, ys, h1, h2, h3⟩ := go _ c (same_new (o := .tup ((p.map V.int).drop 1)) hc) (SqT.of upd_same)
      exact ⟨a, c, xs, ys, rfl, .inr ⟨h1, h2, h3⟩⟩
theorem ok_lotWhy (F : Fun K "is_lot_why" "is_lot_why" sLotWhy f fd) (TO : Cl P w K mg base CX0 k "is_tuple_of" ["thing", "fewest", "most"] (spTupOf K) f1 d1) (BE : Cl P w K mg base CX0 k "is_below" ["thing", "many"] (spBelow K) f2 d2) (my : mg "any" = none) : FnOk P w K mg base CX0 (k + 1) f fd ["ties", "many", "thing"] (spLotWhy K) := by
  refine F.ok scLotWhy (fun vs H Q E h => ?_) (fun cdv A outer s H vs Q E hr h => ?_)
  · obtain ⟨T, v, d, m, us, ts, rfl, _⟩ := h
    rfl
  · obtain ⟨T, v, d, m, us, ts, rfl, hv, ok, hT, tu, tl, q⟩ := h
    refine ⟨_, pss_cons (ps_if (PW.pt (pw_or (pt_not (pt_val (pe_call TO.ok hr (by rfl) TO.g TO.kp TO.bd .nil pass0 (pa_cons (pv 2) (pa_cons pe_int (pa_cons pe_int pa_nil))))))
        (pw_or (pt_cmpR (op_neD hr.units) (pe_ix ix_tup (pv 2) pe_int (fun _ _ => rfl)) pe_str (nomark _))
        (pw_or1 (pt_not (pt_val (pe_call BE.ok hr (by rfl) BE.g BE.kp BE.bd .nil pass0 (pa_cons (pe_ix ix_tup (pv 2) pe_int (fun _ _ => rfl)) (pa_cons (pv 1) pa_nil))))))))) (pss_one (ps_ret pe_bl)) pss_nil)
      (pss_one (ps_ret (pe_not (pe_callB (cr_any rfl) (by rfl) my (by decide +kernel) (pa_cons
        (pe_lc (own := [("tie", 3)]) (g := gName 3) (tt := tYes) rfl scLotWhy.nd (pi_list (pv 0)) (blkOk_by (own := [("tie", 3)]) (N := ["ties", "many", "thing", "tie"]) (sc := defScope sLotWhy) (by decide +kernel))
          (fun _ _ _ _ _ => pg_name (i := 3) scLotWhy.nd rfl (Or.inl rfl)) (fun _ _ _ _ _ => pts_nil)
          (fun _ _ _ _ _ => pe_cmpR (op_inK (K := K) rfl) (pe_ix (ix_tupK (K := K) rfl) (pv 2) pe_int (fun _ _ => rfl)) (pe_ix (ix_tupK (K := K) rfl) (pv 3) pe_int (fun _ _ => rfl)) (by rfl))) pa_nil))))), ?_⟩
    refine ⟨_, rfl, v, d, rfl, hv, _, rfl, ?_⟩
    cases h2 : tup2B d with
    | false =>
      rw [lotB_no h2] at q
      exact iteT (iteT (q H (Same.refl H)))
    | true =>
      refine iteF ?_
      obtain ⟨e0, e1, rfl⟩ := tup2_form h2
      obtain ⟨a, xs, ds, rfl, ed, ha, al⟩ := dp_tup hv rfl
      cases ed
      obtain ⟨v0, v1, rfl, hv0, hv1⟩ := dpA_pair al
      obtain ⟨_, okc⟩ := ok.of_tup
      have sh0 := (okc e0 (by simp)).shaped (by decide)
      refine ⟨_, rfl, a, _, 0, _, rfl, rfl, ha, atI_nat (j := 0) rfl, e0, .str "lot", hv0, .str _, sh0, (okd_str (n := 0) (by decide +kernel)).shaped (by decide), _, rfl, ?_⟩
      cases h0 : PyData.eqv e0 (.str "lot") with
      | false =>
        rw [lotB_0 h0] at q
        exact iteT (iteT (q H (Same.refl H)))
      | true =>
        refine iteF ?_
        refine ⟨_, rfl, a, _, 1, _, rfl, rfl, ha, atI_nat (j := 1) rfl, _, rfl, v1, e1, m, rfl, hv1, _, rfl, ?_⟩
        cases h1 : belowB m e1 with
        | false =>
          rw [lotB_1 h1] at q
          exact iteT (q H (Same.refl H))
        | true =>
          refine iteF ?_
          obtain ⟨lot, lt, rfl⟩ := below_form h1
          cases hv1
          have q : ∀ H', Same H H' → Q (.bl (!(ts.any fun t => decide (lot ∈ t.2.2)))) H' := fun H' s' => by
            have this : Q (.bl (PyData.eqv e0 (.str "lot") && belowB m (.int (lot : Nat)) && !(ts.any fun t => decide ((((lot : Nat) : Int).toNat) ∈ t.2.2)))) H' := q H' s'
            rw [h0, h1, Bool.true_and, Bool.true_and] at this
            exact this
          refine ⟨_, rfl, T, rfl, ⟨_, SqL.of hT⟩, fun D hD => ?_⟩
          have ul := tu.len
          refine lc_list (K := K) (xs := us) (fun j H' => Same H H' ∧ H' D = some (.lst (((ts.take j).map fun t => decide (lot ∈ t.2.2)).map V.bl)))
            ⟨same_new hD, upd_same⟩ (fun j H' _ hp => SqL.of (hp.1 _ _ hT)) (fun j x H2 hx hp => ?_) (fun H2 hp => ?_)
          · obtain ⟨s2, d2⟩ := hp
            have jl := (List.getElem?_eq_some_iff.mp hx).1
            obtain ⟨t, l, a', b, ls, rfl, et, ht, hl⟩ := tu.at hx
            refine ⟨rfl, ?_⟩
            refine ⟨_, rfl, a, _, 1, _, rfl, rfl, same_tup s2 ha, atI_nat (j := 1) rfl, _, rfl, t, _, 2, _, rfl, rfl, SqT.of (s2 _ _ ht), atI_nat (j := 2) rfl, l, _, rfl, .inr (SqT.of (s2 _ _ hl)), rfl, flat_ints, ?_⟩
            refine ⟨_, d2, by rw [List.length_map, List.length_map, List.length_take]; exact small1000 (by omega), keep_new hD s2, ?_⟩
            rw [upd_same, List.take_add_one, et, Option.toList_some, List.map_append, List.map_append]
            show some (HO.lst (_ ++ [V.bl (inV (V.int (lot : Nat)) (ls.map vI))])) = _
            rw [inV_ints]
            rfl
          · obtain ⟨s2, d2⟩ := hp
            rw [ul, List.take_length] at d2
            refine ⟨D, ts.map fun t => decide (lot ∈ t.2.2), rfl, SqL.of d2, ?_⟩
            refine ⟨_, rfl, ?_⟩
            have e : ((ts.map fun t => decide (lot ∈ t.2.2)).any id) = ts.any fun t => decide (lot ∈ t.2.2) := by
              rw [List.any_map]
              rfl
            rw [e]
            exact q H2 s2
theorem ok_part (F : Fun K "is_part" "is_part" sPart f fd) (TO : Cl P w K mg base CX0 k "is_tuple_of" ["thing", "fewest", "most"] (spTupOf K) f1 d1) (WH : Cl P w K mg base CX0 k "is_whole" ["thing"] (spWhole K) f2 d2) (RI : Cl P w K mg base CX0 k "is_rising" ["names"] (spRise K) f3 d3)
    (mi : mg "isinstance" = none) (mt : mg "tuple" = none) (ma : mg "all" = none) : FnOk P w K mg base CX0 (k + 1) f fd ["thing"] (spPart K) := by
  refine F.ok scPart (fun vs H Q E h => ?_) (fun cdv A outer s H vs Q E hr h => ?_)
  · obtain ⟨v, d, rfl, _⟩ := h
    rfl
  · obtain ⟨v, d, rfl, hv, ok, q⟩ := h
    refine ⟨_, pss_cons (ps_if (PW.pt (pw_or (pt_not (pt_val (pe_call TO.ok hr (by rfl) TO.g TO.kp TO.bd .nil pass0 (pa_cons (pv 0) (pa_cons pe_int (pa_cons pe_int pa_nil))))))
        (pw_or1 (pt_not (pt_val (pe_callB call_isi (by rfl) mi (by decide +kernel) (pa_cons (pe_ix ix_tup (pv 0) pe_int (fun _ _ => rfl)) (pa_cons (pe_bltn (v := .ty "tuple") (by rfl) mt (by decide +kernel) rfl) pa_nil)))))))) (pss_one (ps_ret pe_bl)) pss_nil)
      (pss_one (ps_ret (pe_and (pe_callB (cr_all rfl) (by rfl) ma (by decide +kernel) (pa_cons
        (pe_lc (own := [("entry", 1)]) (g := gName 1) (tt := tYes) rfl scPart.nd (pi_tup (pe_ix ix_tup (pv 0) pe_int (fun _ _ => rfl))) (blkOk_by (own := [("entry", 1)]) (N := ["thing", "entry"]) (sc := defScope sPart) (by decide +kernel))
          (fun _ _ _ _ _ => pg_name (i := 1) scPart.nd rfl (Or.inl rfl)) (fun _ _ _ _ _ => pts_nil)
          (fun _ _ _ _ _ => pe_call WH.ok hr (by rfl) WH.g WH.kp WH.bd .nil pass0 (pa_cons (pv 1) pa_nil))) pa_nil))
        (pe_one (pe_call RI.ok hr (by rfl) RI.g RI.kp RI.bd .nil pass0 (pa_cons (pe_ix ix_tup (pv 0) pe_int (fun _ _ => rfl)) pa_nil)))))), ?_⟩
    refine ⟨_, rfl, v, d, rfl, hv, _, rfl, ?_⟩
    cases h2 : tup2B d with
    | false =>
      rw [partB_no h2] at q
      exact iteT (iteT (q H (Same.refl H)))
    | true =>
      refine iteF ?_
      obtain ⟨e0, e1, rfl⟩ := tup2_form h2
      obtain ⟨t, xs, ds, rfl, ed, ht, al⟩ := dp_tup hv rfl
      cases ed
      obtain ⟨v0, v1, rfl, hv0, hv1⟩ := dpA_pair al
      obtain ⟨ty, tyx, _, _, kt⟩ := dp_ty hv0
      refine ⟨_, rfl, t, _, 0, _, rfl, rfl, ht, atI_nat (j := 0) rfl, _, _, _, _, _, rfl, .ty _, tyx, kt, _, rfl, ?_⟩
      cases hT : isT e0 with
      | false =>
        rw [partB_0 hT] at q
        exact iteT (q H (Same.refl H))
      | true =>
        refine iteF ?_
        obtain ⟨a, ys, es, rfl, rfl, ha, bl⟩ := dp_tup hv0 hT
        have yl := dpA_len bl
        obtain ⟨_, okc⟩ := ok.of_tup
        obtain ⟨l30, _⟩ := (okc (.tuple es) (by simp)).of_tup
        refine ⟨_, rfl, t, _, 0, _, rfl, rfl, ht, atI_nat (j := 0) rfl, a, rfl, ⟨_, ha⟩, fun D hD => ?_⟩
        refine lc_tup (K := K) (xs := ys) (fun j H' => Same H H' ∧ H' D = some (.lst (((es.take j).map isI).map V.bl)))
          ⟨same_new hD, upd_same⟩ (fun j H' _ hp => same_tup hp.1 ha) (fun j x H2 hx hp => ?_) (fun H2 hp => ?_)
        · obtain ⟨s2, d2⟩ := hp
          have jl := (List.getElem?_eq_some_iff.mp hx).1
          obtain ⟨e, ee, he⟩ := dpA_at bl hx
          refine ⟨rfl, ?_⟩
          refine ⟨_, rfl, x, e, rfl, dp_mono s2 he, ?_⟩
          refine ⟨_, d2, by rw [List.length_map, List.length_map, List.length_take]; exact small1000 (by omega), keep_new hD s2, ?_⟩
          rw [upd_same, List.take_add_one, ee, Option.toList_some, List.map_append, List.map_append]
          rfl
        · obtain ⟨s2, d2⟩ := hp
          rw [yl, List.take_length] at d2
          refine ⟨D, es.map isI, rfl, SqL.of d2, _, rfl, ?_⟩
          have e : (es.map isI).all id = es.all isI := by
            rw [List.all_map]
            rfl
          rw [e]
          cases hA : es.all isI with
          | false =>
            have e : partB (.tuple [.tuple es, e1]) = false := by
              show (es.all isI && _) = false
              rw [hA, Bool.false_and]
            rw [e] at q
            exact iteF (q H2 s2)
          | true =>
            obtain ⟨p, rfl⟩ := all_int hA
            rw [partB_ints] at q
            have ey := dpA_ints bl
            subst ey
            have pl : p.length ≤ 30 := by
              unfold dInts at l30
              rwa [List.length_map] at l30
            refine iteT ?_
            refine ⟨_, rfl, t, _, 0, _, rfl, rfl, same_tup s2 ht, atI_nat (j := 0) rfl, a, p, rfl, same_tup s2 ha, by omega, fun H3 s3 => q H3 (s2.trans s3)⟩
end
end W35

namespace W35
open PySem PySem.Spec PyProof.Rows L2 Gs Gp Gr Dw
/-! ### parts -/
def dI (x : Nat) : PyData := .int x
def dPart (q : List Nat × PyData) : PyData := .tuple [.tuple (q.1.map dI), q.2]
def dWhy (qs : List (List Nat × PyData)) : PyData := .tuple [.str "parts", .tuple (qs.map dPart)]
def Rise (p : List Nat) : Prop := ∀ (i : Nat) (x y : Nat), p[i]? = some x → p[i + 1]? = some y → x < y
def Up (ps : List (List Nat)) (t : Tie) : Prop := ∃ (i j : Nat) (p q : List Nat), ps[i]? = some p ∧ ps[j]? = some q ∧ t.1 ∈ p ∧ t.2.1 ∈ q ∧ i ≤ j
structure PartsOk (d : PyData) (es : List Nat) (ts : List Tie) (qs : List (List Nat × PyData)) : Prop where
  fm : d = dWhy qs
  ri : ∀ q ∈ qs, Rise q.1
  pm : ((qs.map (·.1)).flatten).Perm es
  up : ∀ t ∈ ts, Up (qs.map (·.1)) t
def dPartI (q : List Int × PyData) : PyData := .tuple [.tuple (dInts q.1), q.2]
def toI (q : List Nat × PyData) : List Int × PyData := (q.1.map ci, q.2)
theorem dInts_ci (p : List Nat) : dInts (p.map ci) = p.map dI := by
  unfold dInts
  rw [List.map_map]
  rfl
theorem dPart_toI (q : List Nat × PyData) : dPartI (toI q) = dPart q := by
  unfold dPartI toI dPart
  rw [dInts_ci]
theorem dPartI_inj {a b : List Int × PyData} (h : dPartI a = dPartI b) : a = b := by
  unfold dPartI at h
  injection h with h
  injection h with h1 h2
  injection h1 with h1
  injection h2 with h2
  exact Prod.ext (dInts_inj h1) h2
theorem rise_ci {p : List Nat} : riseB (p.map ci) = true ↔ Rise p := by
  rw [riseB_iff]
  constructor
  · intro h i x y h1 h2
    have := h i (ci x) (ci y) (by rw [List.getElem?_map, h1]; rfl) (by rw [List.getElem?_map, h2]; rfl)
    unfold ci at this
    omega
  · intro h i x y h1 h2
    rw [List.getElem?_map] at h1 h2
    obtain ⟨a, ha, rfl⟩ := Option.map_eq_some_iff.mp h1
    obtain ⟨b, hb, rfl⟩ := Option.map_eq_some_iff.mp h2
    have := h i a b ha hb
    unfold ci
    omega
theorem part_form {d : PyData} (h : partB d = true) : ∃ q : List Int × PyData, d = dPartI q ∧ riseB q.1 = true := by
  cases h2 : tup2B d with
  | false => rw [partB_no h2] at h; cases h
  | true =>
    obtain ⟨e0, e1, rfl⟩ := tup2_form h2
    cases hT : isT e0 with
    | false => rw [partB_0 hT] at h; cases h
    | true =>
      cases e0 with
      | tuple xs =>
        have hA : xs.all isI = true := by
          have h : (xs.all isI && _) = true := h
          rw [Bool.and_eq_true] at h
          exact h.1
        obtain ⟨p, rfl⟩ := all_int hA
        rw [partB_ints] at h
        exact ⟨(p, e1), rfl, h⟩
      | _ => cases hT
theorem parts_form : ∀ {ds : List PyData}, ds.all partB = true → ∃ qi : List (List Int × PyData), ds = qi.map dPartI ∧ ∀ q ∈ qi, riseB q.1 = true
  | [], _ => ⟨[], rfl, fun q hq => absurd hq List.not_mem_nil⟩
  | d :: ds, h => by
    rw [List.all_cons, Bool.and_eq_true] at h
    obtain ⟨q, rfl, hq⟩ := part_form h.1
    obtain ⟨qi, rfl, hi⟩ := parts_form h.2
    exact ⟨q :: qi, rfl, fun z hz => by
      rcases List.mem_cons.mp hz with rfl | hz
      · exact hq
      · exact hi z hz⟩
theorem parts_all {qs : List (List Nat × PyData)} (h : ∀ q ∈ qs, Rise q.1) : (qs.map dPart).all partB = true := by
  rw [List.all_map, List.all_eq_true]
  intro q hq
  show partB (dPart q) = true
  rw [← dPart_toI]
  show partB (.tuple [.tuple (dInts (q.1.map ci)), q.2]) = true
  rw [partB_ints]
  exact rise_ci.mpr (h q hq)
theorem flatten_le {α : Type} {b : Nat} : ∀ {ps : List (List α)}, (∀ p ∈ ps, p.length ≤ b) → ps.flatten.length ≤ ps.length * b
  | [], _ => by simp
  | p :: ps, h => by
    rw [List.flatten_cons, List.length_append, List.length_cons, Nat.succ_mul]
    have h1 := h p List.mem_cons_self
    have h2 := flatten_le (ps := ps) fun q hq => h q (List.mem_cons_of_mem _ hq)
    omega
theorem eqvA_ints : ∀ {a b : List Int}, PyData.eqvAll (dInts a) (dInts b) = true ↔ a = b
  | [], [] => by simp [dInts, PyData.eqvAll]
  | [], y :: b => by simp [dInts, PyData.eqvAll]
  | x :: a, [] => by simp [dInts, PyData.eqvAll]
  | x :: a, y :: b => by
    have ih := eqvA_ints (a := a) (b := b)
    unfold dInts at ih ⊢
    rw [List.map_cons, List.map_cons, PyData.eqvAll, Bool.and_eq_true, ih]
    simp [PyData.eqv]
theorem eqv_ints {a b : List Int} : PyData.eqv (.list (dInts a)) (.list (dInts b)) = true ↔ a = b := by
  rw [PyData.eqv]
  exact eqvA_ints
theorem ints_sh (p : List Int) : SeqAt.shaped (.list (dInts p)) = true := Sf.shaped_list (n := 0) (fun d hd => by
  obtain ⟨x, _, rfl⟩ := List.mem_map.mp hd
  exact Sf.pl_int) (by decide)
theorem lst_dpI {K : PySem.W.Frag} {H : Hp} {a : Addr} {p : List Int} (h : H a = some (.lst (p.map V.int))) : Dp K H (.ref a) (.list (dInts p)) := .lst (SqL.of h) (ints_dpA p)
theorem parts_atI {K : PySem.W.Frag} {H : Hp} {us : List V} {qi : List (List Int × PyData)} (h : DpAll K H us (qi.map dPartI)) {i : Nat} {v : V} (e : us[i]? = some v) : ∃ q, qi[i]? = some q ∧ ∃ (t a : Addr) (c : V), v = .ref t ∧ SqT K H t [.ref a, c] ∧ SqT K H a (q.1.map V.int) ∧ Dp K H c q.2 := by
  obtain ⟨d, ed, hd⟩ := dpA_at h e
  rw [List.getElem?_map] at ed
  obtain ⟨q, eq, rfl⟩ := Option.map_eq_some_iff.mp ed
  obtain ⟨t, xs, ds, rfl, e1, ht, al⟩ := dp_tup hd rfl
  cases e1
  obtain ⟨v0, v1, rfl, h0, h1⟩ := dpA_pair al
  obtain ⟨a, ys, es, rfl, e2, ha, bl⟩ := dp_tup h0 rfl
  cases e2
  have := dpA_ints bl
  subst this
  exact ⟨q, eq, t, a, v1, rfl, ht, ha, h1⟩
theorem parts_at {K : PySem.W.Frag} {H : Hp} {us : List V} {qs : List (List Nat × PyData)} (h : DpAll K H us (qs.map dPart)) {i : Nat} {v : V} (e : us[i]? = some v) : ∃ q, qs[i]? = some q ∧ ∃ (t a : Addr) (c : V), v = .ref t ∧ SqT K H t [.ref a, c] ∧ SqT K H a (q.1.map vI) ∧ Dp K H c q.2 := by
  have e1 : qs.map dPart = (qs.map toI).map dPartI := by
    rw [List.map_map]
    exact List.map_congr_left fun q _ => (dPart_toI q).symm
  rw [e1] at h
  obtain ⟨q, eq, t, a, c, h1, h2, h3, h4⟩ := parts_atI h e
  rw [List.getElem?_map] at eq
  obtain ⟨q', eq', rfl⟩ := Option.map_eq_some_iff.mp eq
  exact ⟨q', eq', t, a, c, h1, h2, by rw [vI_map]; exact h3, h4⟩
def PRow (K : PySem.W.Frag) (H : Hp) (ts : List Tie) (v : V) (q : List Nat × PyData) : Prop := ∃ (t a b : Addr) (c : V) (us : List V), v = .ref t ∧ H t = some (.tup [.ref a, .ref b, c]) ∧ H a = some (.lst (q.1.map vI)) ∧ H b = some (.lst us) ∧ Ties H us (ts.filter (tIn q.1)) ∧ Dp K H c q.2
inductive PRs (K : PySem.W.Frag) (H : Hp) (ts : List Tie) : List V → List (List Nat × PyData) → Prop
  | nil : PRs K H ts [] []
  | cons {v : V} {vs : List V} {q : List Nat × PyData} {qs : List (List Nat × PyData)} : PRow K H ts v q → PRs K H ts vs qs → PRs K H ts (v :: vs) (q :: qs)
section
variable {K : PySem.W.Frag} {H H' : Hp} {ts : List Tie}
theorem PRow.same {v : V} {q : List Nat × PyData} (s : Same H H') (h : PRow K H ts v q) : PRow K H' ts v q := by
  obtain ⟨t, a, b, c, us, e, h1, h2, h3, h4, h5⟩ := h
  exact ⟨t, a, b, c, us, e, s _ _ h1, s _ _ h2, s _ _ h3, h4.tk (tk_same s), dp_mono s h5⟩
theorem PRs.same (s : Same H H') : ∀ {vs : List V} {qs : List (List Nat × PyData)}, PRs K H ts vs qs → PRs K H' ts vs qs
  | _, _, .nil => .nil
  | _, _, .cons h r => .cons (h.same s) (r.same s)
theorem PRs.len : ∀ {vs : List V} {qs : List (List Nat × PyData)}, PRs K H ts vs qs → vs.length = qs.length
  | _, _, .nil => rfl
  | _, _, .cons _ r => congrArg (· + 1) r.len
theorem PRs.app : ∀ {us vs : List V} {ps qs : List (List Nat × PyData)}, PRs K H ts us ps → PRs K H ts vs qs → PRs K H ts (us ++ vs) (ps ++ qs)
  | _, _, _, _, .nil, h => h
  | _, _, _, _, .cons h r, h2 => .cons h (r.app h2)
theorem PRs.at : ∀ {us : List V} {qs : List (List Nat × PyData)}, PRs K H ts us qs → ∀ {i : Nat} {v : V}, us[i]? = some v → ∃ q, qs[i]? = some q ∧ PRow K H ts v q
  | _, _, .nil, i, v, e => by simp at e
  | _, _, .cons h r, 0, v, e => by
    cases e
    exact ⟨_, rfl, h⟩
  | _, _, .cons h r, i + 1, v, e => r.at (i := i) e
end
/-- the heap without what lies at p -/
def wo (p : Addr) (H : Hp) : Hp := fun b => if b = p then none else H b
theorem wo_same {p : Addr} {H : Hp} : Same (wo p H) H := fun b o h => by
  unfold wo at h
  by_cases e : b = p
  · rw [if_pos e] at h
    cases h
  · rw [if_neg e] at h
    exact h
theorem wo_ne {p b : Addr} {H : Hp} (n : b ≠ p) : wo p H b = H b := if_neg n
theorem wo_upd {p : Addr} {H : Hp} {o : HO} : wo p (upd H p o) = wo p H := by
  funext b
  unfold wo
  by_cases e : b = p
  · rw [if_pos e, if_pos e]
  · rw [if_neg e, if_neg e, upd_ne e]
theorem wo_mono {p : Addr} {H H' : Hp} (s : Same H H') : Same (wo p H) (wo p H') := fun b o h => by
  by_cases e : b = p
  · unfold wo at h
    rw [if_pos e] at h
    cases h
  · rw [wo_ne e] at h ⊢
    exact s b o h
theorem call_list_ofK {X : Cx} {K : PySem.W.Frag} (hk : X.K = K) : CallR X (.type "list") (fun xs H Q => ∃ p ys, xs = [V.ref p] ∧ (SqL K H p ys ∨ SqT K H p ys) ∧ ∀ l, H l = none → Q (.ref l) (upd H l (.lst ys))) := by
  subst hk
  exact call_list_of
/-- parts of numbers that are all the entries are parts of entries -/
theorem nat_parts {qi : List (List Int × PyData)} {es : List Nat} (h : ((qi.map (·.1)).flatten).Perm (es.map ci)) : ∃ qs : List (List Nat × PyData), qi = qs.map toI ∧ ((qs.map (·.1)).flatten).Perm es := by
  have nat : ∀ q ∈ qi, ∀ x ∈ q.1, ci x.toNat = x := fun q hq x hx => by
    have : x ∈ es.map ci := h.mem_iff.mp (List.mem_flatten.mpr ⟨q.1, List.mem_map.mpr ⟨q, hq, rfl⟩, hx⟩)
    obtain ⟨n, _, rfl⟩ := List.mem_map.mp this
    unfold ci
    omega
  have e1 : qi = (qi.map fun q => (q.1.map Int.toNat, q.2)).map toI := by
    rw [List.map_map]
    refine (List.map_id _).symm.trans (List.map_congr_left fun q hq => ?_)
    show q = ((q.1.map Int.toNat).map ci, q.2)
    rw [List.map_map]
    refine Prod.ext ?_ rfl
    refine (List.map_id _).symm.trans (List.map_congr_left fun x hx => ?_)
    exact (nat q hq x hx).symm
  refine ⟨_, e1, ?_⟩
  have h2 := h.map Int.toNat
  rw [List.map_flatten, List.map_map, List.map_map] at h2
  have e2 : es.map (Int.toNat ∘ ci) = es := (List.map_congr_left fun x _ => Int.toNat_natCast x).trans (List.map_id _)
  rw [e2] at h2
  rw [List.map_map]
  exact h2
theorem flat_toI (qs : List (List Nat × PyData)) : ((qs.map toI).map (·.1)).flatten = ((qs.map (·.1)).flatten).map ci := by
  rw [List.map_flatten, List.map_map, List.map_map]
  rfl
theorem apart_of {ps : List (List Nat)} {es : List Nat} (nd : es.Nodup) (lt : ∀ x ∈ es, x < 900) (h : ps.flatten.Perm es) : Apart ps := by
  have nf : ps.flatten.Nodup := h.nodup_iff.mpr nd
  have pw := List.pairwise_flatten.mp nf
  refine ⟨fun i j p q x h1 h2 hx hy => ?_, fun p hp => pw.1 p hp, fun p hp x hx => lt x (h.mem_iff.mp (List.mem_flatten.mpr ⟨p, hp, hx⟩))⟩
  obtain ⟨l1, rfl⟩ := List.getElem?_eq_some_iff.mp h1
  obtain ⟨l2, rfl⟩ := List.getElem?_eq_some_iff.mp h2
  have pp := List.pairwise_iff_getElem.mp pw.2
  rcases Nat.lt_trichotomy i j with l | l | l
  · exact absurd rfl (pp i j l1 l2 l x hx x hy)
  · exact l
  · exact absurd rfl (pp j i l2 l1 l x hy x hx)
abbrev NPd : List Str := ["entries", "ties", "thing", "parts", "numbers", "inner", "tie", "start", "end", "part", "entry", "number", "some"]
theorem scParted : FnScope NPd ["entries", "ties", "thing"] (defScope sParted) := ⟨rfl, rfl, rfl, by decide +kernel, rfl, by decide +kernel, by decide +kernel⟩
def spParted (K : PySem.W.Frag) : Sp := fun vs H Q _ => ∃ (E T : Addr) (v : V) (d : PyData) (es : List Nat) (us : List V) (ts : List Tie), vs = [.ref E, .ref T, v] ∧ H E = some (.lst (es.map vI)) ∧ es.length ≤ 30 ∧ es.Nodup ∧ (∀ x ∈ es, x < 900) ∧ H T = some (.lst us) ∧ Ties H us ts ∧ ts.length ≤ 900 ∧ (∀ t ∈ ts, t.1 ∈ es ∧ t.2.1 ∈ es) ∧ Dp K H v d ∧ Okd 60 d ∧
  ((∀ qs, ¬ PartsOk d es ts qs) → ∀ H', Same H H' → Q .non H') ∧ ∀ qs, PartsOk d es ts qs → ∀ H' r rs, Same H H' → H' r = some (.lst rs) → PRs K H' ts rs qs → Q (.ref r) H'
section
variable {P : Program} {w : World} {K : PySem.W.Frag} {mg : Str → Option Value} {base : Heap} {f f1 f2 f3 : Addr} {fd d1 d2 d3 : FuncData} {k : Nat}
theorem ok_parted (F : Fun K "parted" "parted" sParted f fd) (TO : Cl P w K mg base CX0 k "is_tuple_of" ["thing", "fewest", "most"] (spTupOf K) f1 d1) (PA : Cl P w K mg base CX0 k "is_part" ["thing"] (spPart K) f2 d2)
    (mi : mg "isinstance" = none) (mt : mg "tuple" = none) (ma : mg "all" = none) (ms : mg "sorted" = none) (me : mg "enumerate" = none) (mz : mg "zip" = none) (ml : mg "list" = none) : FnOk P w K mg base CX0 (k + 1) f fd ["entries", "ties", "thing"] (spParted K) := by
  refine F.ok scParted (fun vs H Q E h => ?_) (fun cdv A outer s H vs Q E hr h => ?_)
  · obtain ⟨E, T, v, d, es, us, ts, rfl, _⟩ := h
    rfl
  · obtain ⟨E', T, v, d, es, us, ts, rfl, hE, el, end', elt, hT, tu, tl, tin, hv, ok, qn, q⟩ := h
    refine ⟨_, pss_cons (ps_if (PW.pt (pw_or (pt_not (pt_val (pe_call TO.ok hr (by rfl) TO.g TO.kp TO.bd .nil pass0 (pa_cons (pv 2) (pa_cons pe_int (pa_cons pe_int pa_nil))))))
        (pw_or (pt_cmpR (op_neD hr.units) (pe_ix ix_tup (pv 2) pe_int (fun _ _ => rfl)) pe_str (nomark _))
        (pw_or1 (pt_not (pt_val (pe_callB call_isi (by rfl) mi (by decide +kernel) (pa_cons (pe_ix ix_tup (pv 2) pe_int (fun _ _ => rfl)) (pa_cons (pe_bltn (v := .ty "tuple") (by rfl) mt (by decide +kernel) rfl) pa_nil))))))))) (pss_one (ps_ret pe_non)) pss_nil)
      (pss_cons (ps_set (i := 3) scParted.nd rfl (.inl rfl) (pe_ix ix_tup (pv 2) pe_int (fun _ _ => rfl)))
      (pss_cons (ps_if (pt_not (pt_val (pe_callB (cr_all rfl) (by rfl) ma (by decide +kernel) (pa_cons
          (pe_lc (own := [("part", 9)]) (g := gName 9) (tt := tYes) rfl scParted.nd (pi_tup (pv 3)) (blkOk_by (own := [("part", 9)]) (N := NPd) (sc := defScope sParted) (by decide +kernel))
            (fun _ _ _ _ _ => pg_name (i := 9) scParted.nd rfl (Or.inl rfl)) (fun _ _ _ _ _ => pts_nil)
            (fun _ _ _ _ _ => pe_call PA.ok hr (by rfl) PA.g PA.kp PA.bd .nil pass0 (pa_cons (pv 9) pa_nil))) pa_nil)))) (pss_one (ps_ret pe_non)) pss_nil)
      (pss_cons (ps_if (pt_cmpR (op_neD hr.units) (pe_callB cr_sortedI (by rfl) ms (by decide +kernel) (pa_cons
          (pe_lc2 (own := [("part", 9), ("entry", 10)]) (vs1 := [10]) (g := gName 9) (g1 := gName 10) (tt := tYes) (tt1 := tYes) rfl scParted.nd (pi_tup (pv 3)) (blkOk_by (own := [("part", 9), ("entry", 10)]) (N := NPd) (sc := defScope sParted) (by decide +kernel)) (by decide)
            (fun _ _ _ _ _ => pg_name (i := 9) scParted.nd rfl (Or.inl rfl)) (fun _ _ _ _ _ => pts_nil)
            (fun _ _ _ _ _ => pi_tupK (K := K) rfl (pe_ix (ix_tupK (K := K) rfl) (pv 9) pe_int (fun _ _ => rfl)))
            (fun _ _ _ _ _ => pg_name (i := 10) scParted.nd rfl (Or.inl rfl)) (fun _ _ _ _ _ => pts_nil) (fun _ _ _ _ _ => pv 10)) pa_nil))
          (pe_callB cr_sortedI (by rfl) ms (by decide +kernel) (pa_cons (pv 0) pa_nil)) (nomark _)) (pss_one (ps_ret pe_non)) pss_nil)
      (pss_cons (ps_setDc2 (i := 4) (own := [("number", 11), ("part", 9), ("entry", 10)]) (us := [10]) (g := gTup K 2 (gCons (gName 11) (gCons (gName 9) gNil))) (gj := gName 10) (tt := tYes) (tjt := tYes) rfl scParted.nd rfl rfl (sw_dict rfl rfl rfl rfl) (pi_enT (by rfl) me (pa_cons (pv 3) pa_nil)) (blkOk_by (own := [("number", 11), ("part", 9), ("entry", 10)]) (N := NPd) (sc := defScope sParted) (by decide +kernel)) (by decide)
        (fun _ _ _ _ _ => pg_tup (by rfl) (pgs_cons (pg_name (i := 11) scParted.nd rfl (.inl rfl)) (pgs_cons (pg_name (i := 9) scParted.nd rfl (.inl rfl)) pgs_nil))) (fun _ _ _ _ _ => pts_nil)
        (fun _ _ _ _ _ => pi_tupK (K := K) rfl (pe_ix (ix_tupK (K := K) rfl) (pv 9) pe_int (fun _ _ => rfl)))
        (fun _ _ _ _ _ => pg_name (i := 10) scParted.nd rfl (Or.inl rfl)) (fun _ _ _ _ _ => pts_nil) (fun _ _ _ _ _ => pv 10) (fun _ _ _ _ _ => pv 11))
      (pss_cons (ps_setLc (i := 5) (own := [("part", 9)]) (g := gName 9) (tt := tYes) rfl scParted.nd rfl rfl (sw_true rfl rfl rfl rfl) (pi_tup (pv 3)) (blkOk_by (own := [("part", 9)]) (N := NPd) (sc := defScope sParted) (by decide +kernel))
        (fun _ _ _ _ _ => pg_name (i := 9) scParted.nd rfl (Or.inl rfl)) (fun _ _ _ _ _ => pts_nil) (fun _ _ _ _ _ => pe_lst pa_nil))
      (pss_cons (ps_for PassesOwn.never rfl (pi_list (pv 1)) (pg_name (i := 6) scParted.nd rfl (Or.inl rfl))
        (pss_cons (ps_par (i := 7) (j := 8) (by rfl) scParted.nd rfl rfl (by decide) rfl rfl (pa_cons (pe_dget (u1 hr) (pv 4) (pe_ix ix_tup (pv 6) pe_int (fun _ _ => rfl)) (fun _ _ => rfl)) (pa_cons (pe_dget (u1 hr) (pv 4) (pe_ix ix_tup (pv 6) pe_int (fun _ _ => rfl)) (fun _ _ => rfl)) pa_nil)) (by rfl))
        (pss_cons (ps_if (pt_cmpR op_gt (pv 7) (pv 8) (nomark _)) (pss_one (ps_ret pe_non)) pss_nil)
        (pss_one (ps_if (pt_cmpR op_eq (pv 7) (pv 8) (nomark _)) (pss_one (ps_expr (pe_bm PySem.F.plainAttrs_list PySem.F.slot_list_append PySem.F.type_list_append mt_append (pe_ix ix_list (pv 5) (pv 7) (fun _ _ => rfl)) (pa_cons (pv 6) pa_nil)))) pss_nil)))))
      (pss_one (ps_ret (pe_lc (own := [("part", 9), ("some", 12)]) (g := gTup K 2 (gCons (gName 9) (gCons (gName 12) gNil))) (tt := tYes) rfl scParted.nd (pi_ziT (by rfl) mz (pa_cons (pv 3) (pa_cons (pv 5) pa_nil))) (blkOk_by (own := [("part", 9), ("some", 12)]) (N := NPd) (sc := defScope sParted) (by decide +kernel))
        (fun _ _ _ _ _ => pg_tup (by rfl) (pgs_cons (pg_name (i := 9) scParted.nd rfl (.inl rfl)) (pgs_cons (pg_name (i := 12) scParted.nd rfl (.inl rfl)) pgs_nil))) (fun _ _ _ _ _ => pts_nil)
        (fun _ _ _ _ _ => pe_tup (pa_cons (pe_callTy (call_list_ofK (K := K) rfl) (by rfl) ml (by decide +kernel) (pa_cons (pe_ix (ix_tupK (K := K) rfl) (pv 9) pe_int (fun _ _ => rfl)) pa_nil)) (pa_cons (pv 12) (pa_cons (pe_ix (ix_tupK (K := K) rfl) (pv 9) pe_int (fun _ _ => rfl)) pa_nil))))))))))))), ?_⟩
    have ul := tu.len
    refine ⟨_, rfl, v, d, rfl, hv, _, rfl, ?_⟩
    cases h2 : tup2B d with
    | false =>
      refine iteT (iteT (qn (fun qs po => ?_) H (Same.refl H)))
      rw [po.fm] at h2
      simp [tup2B, dWhy] at h2
    | true =>
    refine iteF ?_
    obtain ⟨e0, e1, rfl⟩ := tup2_form h2
    obtain ⟨w, xs, ds, rfl, ed, hw, al⟩ := dp_tup hv rfl
    cases ed
    obtain ⟨v0, v1, rfl, hv0, hv1⟩ := dpA_pair al
    obtain ⟨_, okc⟩ := ok.of_tup
    have sh0 := (okc e0 (by simp)).shaped (by decide)
    refine ⟨_, rfl, w, _, 0, _, rfl, rfl, hw, atI_nat (j := 0) rfl, e0, .str "parts", hv0, .str _, sh0, (okd_str (n := 0) (by decide +kernel)).shaped (by decide), _, rfl, ?_⟩
    cases h0 : PyData.eqv e0 (.str "parts") with
    | false =>
      refine iteT (iteT (qn (fun qs po => ?_) H (Same.refl H)))
      have := po.fm
      unfold dWhy at this
      injection this with this
      injection this with this _
      rw [this, str_eqv] at h0
      cases h0
    | true =>
    refine iteF ?_
    have e00 := eqv_str h0
    subst e00
    obtain ⟨ty, tyx, _, _, kt⟩ := dp_ty hv1
    refine ⟨_, rfl, w, _, 1, _, rfl, rfl, hw, atI_nat (j := 1) rfl, _, _, _, _, _, rfl, .ty _, tyx, kt, _, rfl, ?_⟩
    cases hT1 : isT e1 with
    | false =>
      refine iteT (qn (fun qs po => ?_) H (Same.refl H))
      have := po.fm
      unfold dWhy at this
      injection this with this
      injection this with _ this
      injection this with this _
      rw [this] at hT1
      cases hT1
    | true =>
    refine iteF ?_
    obtain ⟨p, ws, ps', rfl, rfl, hp, wh⟩ := dp_tup hv1 hT1
    obtain ⟨l30, okp⟩ := (okc (.tuple ps') (by simp)).of_tup
    have wl := dpA_len wh
    refine ⟨_, rfl, w, _, 1, _, rfl, rfl, hw, atI_nat (j := 1) rfl, ?_⟩
    -- each is a part
    refine ⟨_, rfl, p, rfl, ⟨_, hp⟩, fun D hD => ?_⟩
    refine lc_tup (K := K) (xs := ws) (fun j H' => Same H H' ∧ H' D = some (.lst (((ps'.take j).map partB).map V.bl)))
      ⟨same_new hD, upd_same⟩ (fun j H' _ hp' => same_tup hp'.1 hp) (fun j x H2 hx hp' => ?_) (fun H2 hp' => ?_)
    · obtain ⟨s2, d2⟩ := hp'
      have jl := (List.getElem?_eq_some_iff.mp hx).1
      obtain ⟨e, ee, he⟩ := dpA_at wh hx
      refine ⟨rfl, ?_⟩
      refine ⟨_, rfl, x, e, rfl, dp_mono s2 he, (okp e (List.mem_of_getElem? ee)).mono (by decide), fun H3 s3 => ?_⟩
      refine ⟨_, s3 _ _ d2, by rw [List.length_map, List.length_map, List.length_take]; exact small1000 (by omega), keep_new hD (s2.trans s3), ?_⟩
      rw [upd_same, List.take_add_one, ee, Option.toList_some, List.map_append, List.map_append]
      rfl
    obtain ⟨s2, d2⟩ := hp'
    rw [wl, List.take_length] at d2
    refine ⟨D, ps'.map partB, rfl, SqL.of d2, _, rfl, ?_⟩
    have al' : (ps'.map partB).all id = ps'.all partB := by
      rw [List.all_map]
      rfl
    rw [al']
    cases hA : ps'.all partB with
    | false =>
      refine iteT (qn (fun qs po => ?_) H2 s2)
      have := po.fm
      unfold dWhy at this
      injection this with this
      injection this with _ this
      injection this with this _
      injection this with this
      rw [this, parts_all po.ri] at hA
      cases hA
    | true =>
    refine iteF ?_
    obtain ⟨qi, rfl, rsI'⟩ := parts_form hA
    have qil : qi.length ≤ 30 := by rwa [List.length_map] at l30
    have q30 : ∀ p ∈ qi.map (·.1), p.length ≤ 30 := fun p' hp' => by
      obtain ⟨q', hq', rfl⟩ := List.mem_map.mp hp'
      obtain ⟨_, o1⟩ := (okp (dPartI q') (List.mem_map.mpr ⟨q', hq', rfl⟩)).of_tup
      obtain ⟨o2, _⟩ := (o1 (.tuple (dInts q'.1)) (by simp)).of_tup
      unfold dInts at o2
      rwa [List.length_map] at o2
    -- the entries
    have hp2 := same_tup s2 hp
    have wh2 := dpA_mono s2 wh
    have wl2 : ws.length = qi.length := by rw [wl, List.length_map]
    refine ⟨_, rfl, p, rfl, ⟨_, hp2⟩, fun D1 hD1 => ?_⟩
    have catl : ∀ i, (((qi.map (·.1)).take i).flatten).length ≤ 900 := fun i => by
      have h1 := flatten_le (b := 30) (ps := (qi.map (·.1)).take i) fun p' hp' => q30 p' (List.mem_of_mem_take hp')
      rw [List.length_take, List.length_map] at h1
      have h3 : min i qi.length * 30 ≤ 30 * 30 := Nat.mul_le_mul_right 30 (Nat.le_trans (Nat.min_le_right _ _) qil)
      omega
    refine walkC (J := Itt K p) (n := qi.length) (fun i H' => Same H2 H' ∧ H' D1 = some (.lst ((((qi.map (·.1)).take i).flatten).map V.int)))
      ⟨same_new hD1, upd_same⟩ (fun i H' hi hp' => ?_) (fun H' hp' => ?_) (fun i x H3 H3' hi hp' hy => ?_) (fun H3 hp' => ?_)
    · exact ⟨_, _, same_tup hp'.1 hp2, List.getElem?_eq_getElem (by omega)⟩
    · exact ⟨_, same_tup hp'.1 hp2, by omega⟩
    · obtain ⟨s3, d3⟩ := hp'
      obtain ⟨rfl, hy⟩ := hy
      obtain ⟨qq, eq, t, a, c, rfl, ht, ha, hc⟩ := parts_atI wh2 (hy _ (same_tup s3 hp2))
      have eq1 : (qi.map (·.1))[i]? = some qq.1 := by rw [List.getElem?_map, eq]; rfl
      have etk : (((qi.map (·.1)).take (i + 1)).flatten) = ((qi.map (·.1)).take i).flatten ++ qq.1 := by
        rw [List.take_add_one, eq1, Option.toList_some, List.flatten_append]
        simp
      have cl1 := catl (i + 1)
      rw [etk, List.length_append] at cl1
      refine ⟨rfl, ?_⟩
      refine ⟨_, rfl, t, _, 0, _, rfl, rfl, same_tup s3 ht, atI_nat (j := 0) rfl, a, rfl, ⟨_, same_tup s3 ha⟩, ?_⟩
      have mp : (qq.1.map V.int).length = qq.1.length := List.length_map ..
      refine walkC (J := Itt K a) (n := qq.1.length) (fun j H' => Same H2 H' ∧ H' D1 = some (.lst ((((qi.map (·.1)).take i).flatten ++ qq.1.take j).map V.int)))
        ⟨s3, by rw [List.take_zero, List.append_nil]; exact d3⟩ (fun j H' hj hp' => ?_) (fun H' hp' => ?_) (fun j x H4 H4' hj hp' hy => ?_) (fun H4 hp' => ?_)
      · exact ⟨_, _, same_tup hp'.1 ha, List.getElem?_eq_getElem (by rw [mp]; exact hj)⟩
      · exact ⟨_, same_tup hp'.1 ha, by rw [mp]; exact Nat.le_refl _⟩
      · obtain ⟨s4, d4⟩ := hp'
        obtain ⟨rfl, hy⟩ := hy
        have hx := hy _ (same_tup s4 ha)
        rw [List.getElem?_map, List.getElem?_eq_getElem hj] at hx
        cases hx
        refine ⟨rfl, ?_⟩
        refine ⟨_, rfl, _, d4, ?_, keep_new hD1 s4, ?_⟩
        · rw [List.length_map, List.length_append, List.length_take]
          exact small1000 (by omega)
        · rw [upd_same, List.take_add_one, List.getElem?_eq_getElem hj, Option.toList_some, ← List.append_assoc, List.map_append (l₂ := [qq.1[j]])]
          rfl
      · obtain ⟨s4, d4⟩ := hp'
        rw [List.take_length] at d4
        exact ⟨s4, by rw [etk]; exact d4⟩
    obtain ⟨s3, d3⟩ := hp'
    rw [List.take_of_length_le (by rw [List.length_map]; exact Nat.le_refl _)] at d3
    have s03 := s2.trans s3
    refine ⟨D1, (qi.map (·.1)).flatten, rfl, SqL.of d3, fun ns' E1 perm ris hE1 => ?_⟩
    have s4 := same_new (o := .lst (ns'.map V.int)) hE1
    have s04 := s03.trans s4
    refine ⟨_, rfl, E', es.map ci, rfl, by rw [← vI_map]; exact SqL.of (s04 _ _ hE), fun ns2 E2 perm2 ris2 hE2 => ?_⟩
    have s5 := same_new (o := .lst (ns2.map V.int)) hE2
    have s05 := s04.trans s5
    refine ⟨.list (dInts ns'), .list (dInts ns2), lst_dpI (s5 _ _ upd_same), lst_dpI upd_same, ints_sh _, ints_sh _, _, rfl, ?_⟩
    cases hq : PyData.eqv (.list (dInts ns')) (.list (dInts ns2)) with
    | false =>
      refine iteT (qn (fun qs po => ?_) _ s05)
      have := po.fm
      unfold dWhy at this
      injection this with this
      injection this with _ this
      injection this with this _
      injection this with this
      have e2 : qs.map dPart = (qs.map toI).map dPartI := by
        rw [List.map_map]
        exact List.map_congr_left fun q _ => (dPart_toI q).symm
      rw [e2] at this
      have e3 : qi = qs.map toI := (List.map_inj_right fun a b e => dPartI_inj e).mp this
      have e4 : ns' = ns2 := by
        refine List.Perm.eq_of_pairwise (le := (· ≤ ·)) (fun a b _ _ h1 h2 => Int.le_antisymm h1 h2) ris ris2 (perm.trans (List.Perm.trans ?_ perm2.symm))
        rw [e3, flat_toI]
        exact po.pm.map ci
      rw [eqv_ints.mpr e4] at hq
      cases hq
    | true =>
    refine iteF ?_
    have e4 := eqv_ints.mp hq
    obtain ⟨qs, rfl, pm⟩ := nat_parts (qi := qi) (es := es) (perm.symm.trans (by rw [e4]; exact perm2))
    have e5 : (qs.map toI).map dPartI = qs.map dPart := by
      rw [List.map_map]
      exact List.map_congr_left fun q _ => dPart_toI q
    rw [e5] at wh
    have ri : ∀ q ∈ qs, Rise q.1 := fun q' hq' => rise_ci.mp (rsI' (toI q') (List.mem_map.mpr ⟨q', hq', rfl⟩))
    have ql : qs.length ≤ 30 := by rwa [List.length_map] at qil
    have wl3 : ws.length = qs.length := by rw [wl2, List.length_map]
    have qn : (¬ ∀ t ∈ ts, Up (qs.map (·.1)) t) → ∀ H', Same H H' → Q .non H' := fun no => qn fun qs' po => no (by
      have := po.fm
      unfold dWhy at this
      injection this with this
      injection this with _ this
      injection this with this _
      injection this with this
      rw [e5] at this
      have inj : qs = qs' := (List.map_inj_right fun a b e => by
        have e : dPartI (toI a) = dPartI (toI b) := by rw [dPart_toI, dPart_toI]; exact e
        have := dPartI_inj e
        unfold toI at this
        injection this with h1 h2
        refine Prod.ext ((List.map_inj_right fun x y e => ?_).mp h1) h2
        unfold ci at e
        omega).mp this
      rw [inj]
      exact po.up)
    have q : (∀ t ∈ ts, Up (qs.map (·.1)) t) → ∀ H' r rs, Same H H' → H' r = some (.lst rs) → PRs K H' ts rs qs → Q (.ref r) H' := fun up => q qs ⟨by unfold dWhy; rw [e5], ri, pm, up⟩
    clear wh2 hA okp
    generalize upd (upd H3 E1 (.lst (ns'.map V.int))) E2 (.lst (ns2.map V.int)) = H5 at *
    obtain ⟨dis, pnd, plt⟩ := apart_of end' elt pm
    have hp5 := same_tup s05 hp
    have wh5 := dpA_mono s05 wh
    have hT5 := s05 _ _ hT
    have tu5 := tu.tk (tk_same s05)
    have hom : ∀ x ∈ es, ∃ (i : Nat) (p : List Nat), (qs.map (·.1))[i]? = some p ∧ x ∈ p := fun x hx => by
      obtain ⟨p', hp', hx'⟩ := List.mem_flatten.mp (pm.mem_iff.mpr hx)
      obtain ⟨i, hi⟩ := List.mem_iff_getElem?.mp hp'
      exact ⟨i, p', hi, hx'⟩
    have rss : ∀ (i : Nat) (qq : List Nat × PyData), qs[i]? = some qq → (qs.map (·.1))[i]? = some qq.1 := fun i qq e => by rw [List.getElem?_map, e]; rfl
    have pl0 : (qs.map (·.1)).length = qs.length := List.length_map ..
    generalize hps : qs.map (·.1) = ps at *
    -- homes
    refine ⟨_, rfl, p, _, rfl, hp5, fun D2 hD2 => ?_⟩
    have bound : ∀ {hs : List (Nat × Nat)}, (hs.map (·.1)).Nodup → (∀ x a, (x, a) ∈ hs → ∃ p ∈ ps, x ∈ p) → hs.length ≤ 900 := fun {hs} nd h => by
      have := pigl (es := List.range 900) nd fun x hx => by
        obtain ⟨p, hp, rfl⟩ := List.mem_map.mp hx
        obtain ⟨pp, h1, h2⟩ := h p.1 p.2 hp
        exact List.mem_range.mpr (plt pp h1 p.1 h2)
      rw [List.length_range, List.length_map] at this
      exact this
    refine goes (J := ItE K p) (n := qs.length) (fun i H' => Same H5 H' ∧ ∃ hs : List (Nat × Nat), H' D2 = some (.dK (hs.map kvN)) ∧ (hs.map (·.1)).Nodup ∧ ∀ x a, (x, a) ∈ hs ↔ a < i ∧ ∃ p, ps[a]? = some p ∧ x ∈ p)
      ⟨same_new hD2, [], upd_same, List.nodup_nil, fun x a => ⟨fun z => absurd z List.not_mem_nil, fun z => absurd z.1 (Nat.not_lt_zero _)⟩⟩ (fun i H' hi hp' => ?_) (fun H' hp' => ?_) (fun i x H6 H6' hi hp' hy => ?_) (fun H6 hp' => ?_)
    · exact ⟨_, _, same_tup hp'.1 hp5, List.getElem?_eq_getElem (by omega)⟩
    · exact ⟨_, same_tup hp'.1 hp5, by omega⟩
    · obtain ⟨s6, hs, e6, nd, hk⟩ := hp'
      obtain ⟨t0, v, rfl, ht0, rfl, hy⟩ := hy
      obtain ⟨qq, eq, t, a, c0, rfl, ht, ha, hb⟩ := parts_at wh5 (hy _ (same_tup s6 hp5))
      have ep := rss i qq eq
      have s7 := s6.trans (same_new (o := .tup [.int (i : Nat), .ref t]) ht0)
      have e7 := same_new (o := .tup [.int (i : Nat), .ref t]) ht0 _ _ e6
      have et : upd H6 t0 (.tup [.int (i : Nat), .ref t]) t0 = some (.tup [.int (i : Nat), .ref t]) := upd_same
      generalize upd H6 t0 (.tup [.int (i : Nat), .ref t]) = H7 at *
      refine ⟨t0, _, rfl, SqT.of et, rfl, _, _, rfl, _, _, rfl, rfl, rfl, ?_⟩
      refine ⟨_, rfl, t, _, 0, _, rfl, rfl, same_tup s7 ht, atI_nat (j := 0) rfl, a, rfl, ⟨_, same_tup s7 ha⟩, ?_⟩
      have mp : (qq.1.map vI).length = qq.1.length := List.length_map ..
      have pm : qq.1 ∈ ps := List.mem_of_getElem? ep
      generalize qq.1 = pp at *
      refine goes (J := Itt K a) (n := pp.length) (fun j H' => Same H5 H' ∧ ∃ hs : List (Nat × Nat), H' D2 = some (.dK (hs.map kvN)) ∧ (hs.map (·.1)).Nodup ∧ ∀ x b, (x, b) ∈ hs ↔ (b < i ∧ ∃ p, ps[b]? = some p ∧ x ∈ p) ∨ (b = i ∧ x ∈ pp.take j))
        ⟨s7, hs, e7, nd, fun x b => by rw [hk, List.take_zero]; simp⟩ (fun j H' hj hp' => ?_) (fun H' hp' => ?_) (fun j x H8 H8' hj hp' hy => ?_) (fun H8 hp' => ?_)
      · exact ⟨_, _, same_tup hp'.1 ha, List.getElem?_eq_getElem (by rw [mp]; exact hj)⟩
      · exact ⟨_, same_tup hp'.1 ha, by rw [mp]; exact Nat.le_refl _⟩
      · obtain ⟨s8, hs3, e3, nd3, hk3⟩ := hp'
        obtain ⟨rfl, hy⟩ := hy
        have hx := hy _ (same_tup s8 ha)
        have ej : pp[j]? = some pp[j] := List.getElem?_eq_getElem hj
        rw [List.getElem?_map, ej] at hx
        cases hx
        have new : pp[j] ∉ hs3.map (·.1) := fun z => by
          obtain ⟨q', hq, e⟩ := List.mem_map.mp z
          obtain ⟨x', b'⟩ := q'
          have e : x' = pp[j] := e
          subst e
          rcases (hk3 _ b').mp hq with ⟨h1, p', h2, h3⟩ | ⟨_, h⟩
          · have := dis b' i p' pp _ h2 ep h3 (List.getElem_mem hj)
            omega
          · have nd' : (pp.take (j + 1)).Nodup := (pnd pp pm).sublist (List.take_sublist _ _)
            rw [List.take_add_one, ej, Option.toList_some, List.nodup_append] at nd'
            exact nd'.2.2 _ h _ (List.mem_singleton.mpr rfl) rfl
        have tkj : ∀ x, x ∈ pp.take (j + 1) ↔ x ∈ pp.take j ∨ x = pp[j] := fun x => by
          rw [List.take_add_one, ej, Option.toList_some, List.mem_append, List.mem_singleton]
        have l3 := bound nd3 fun x b h => by
          rcases (hk3 x b).mp h with ⟨_, p', h2, h3⟩ | ⟨_, h⟩
          · exact ⟨p', List.mem_of_getElem? h2, h3⟩
          · exact ⟨pp, pm, List.mem_of_mem_take h⟩
        refine ⟨rfl, ?_⟩
        refine ⟨_, rfl, _, rfl, _, .inl ((pp[j] : Nat) : Int), rfl, e3, by rw [List.length_map]; exact small1000 (by omega), keep_new hD2 s8, hs3 ++ [(pp[j], i)], ?_, ?_, fun x b => ?_⟩
        · rw [upd_same]
          exact congrArg (fun z => some (HO.dK z)) (put_kn new)
        · rw [List.map_append, List.nodup_append]
          refine ⟨nd3, List.nodup_cons.mpr ⟨List.not_mem_nil, List.nodup_nil⟩, fun a' ha' b' hb' e => ?_⟩
          have : b' = pp[j] := by simpa using hb'
          rw [this] at e
          exact new (e ▸ ha')
        · rw [List.mem_append, List.mem_singleton, hk3, tkj]
          constructor
          · rintro ((h | ⟨h1, h2⟩) | e)
            · exact .inl h
            · exact .inr ⟨h1, .inl h2⟩
            · cases e
              exact .inr ⟨rfl, .inr rfl⟩
          · rintro (h | ⟨h1, h2 | h2⟩)
            · exact .inl (.inl h)
            · exact .inl (.inr ⟨h1, h2⟩)
            · subst h1
              subst h2
              exact .inr rfl
      · obtain ⟨s8, hs3, e3, nd3, hk3⟩ := hp'
        rw [List.take_length] at hk3
        refine ⟨s8, hs3, e3, nd3, fun x b => ?_⟩
        rw [hk3]
        constructor
        · rintro (⟨h1, h2⟩ | ⟨h1, h2⟩)
          · exact ⟨by omega, h2⟩
          · subst h1
            exact ⟨Nat.lt_succ_self _, pp, ep, h2⟩
        · rintro ⟨h1, p', h2, h3⟩
          by_cases e : b = i
          · subst e
            rw [ep] at h2
            cases h2
            exact .inr ⟨rfl, h3⟩
          · exact .inl ⟨by omega, p', h2, h3⟩
    obtain ⟨s6, hs, e6, nd, hk⟩ := hp'
    have hk : ∀ x a, (x, a) ∈ hs ↔ ∃ p, ps[a]? = some p ∧ x ∈ p := fun x a => by
      rw [hk]
      exact ⟨fun z => z.2, fun ⟨p', h1, h2⟩ => ⟨by have := (List.getElem?_eq_some_iff.mp h1).1; omega, p', h1, h2⟩⟩
    -- the lists
    have hp6 := same_tup s6 hp5
    refine ⟨_, rfl, p, rfl, ⟨_, hp6⟩, fun I hI => ?_⟩
    have hI5 : H5 I = none := free_same s6 hI
    have DI : D2 ≠ I := ne_of_none e6 hI
    refine lc_tup (K := K) (xs := ws) (fun i H' => ∃ rs : List Addr, H' I = some (.lst (rs.map V.ref)) ∧ rs.length = i ∧ rs.Nodup ∧ I ∉ rs ∧ Same H6 H' ∧ ∀ (a : Nat) (r : Addr), rs[a]? = some r → H6 r = none ∧ H' r = some (.lst []))
      ⟨[], upd_same, rfl, List.nodup_nil, List.not_mem_nil, same_new hI, fun a r e => absurd (List.mem_of_getElem? e) List.not_mem_nil⟩ (fun i H' _ hp' => ?_) (fun i x H7 hx hp' => ?_) (fun H7 hp' => ?_)
    · obtain ⟨_, _, _, _, _, sm, _⟩ := hp'
      exact same_tup sm hp6
    · obtain ⟨rs, e2, rl, rn, Ir, s7, rr⟩ := hp'
      have il := (List.getElem?_eq_some_iff.mp hx).1
      refine ⟨rfl, ?_⟩
      refine ⟨by show 0 ≤ sizeLine; decide, fun L hL => ?_⟩
      have s8 := same_new (o := .lst []) hL
      have e3 := s8 _ _ e2
      have IL : I ≠ L := ne_of_none e2 hL
      refine ⟨_, e3, by rw [List.length_map]; exact small1000 (by omega), rs ++ [L], ?_, ?_, ?_, ?_, keep_new hI (s7.trans s8), fun a r e => ?_⟩
      · rw [upd_same, List.map_append]
        rfl
      · rw [List.length_append, rl]
        rfl
      · rw [List.nodup_append]
        refine ⟨rn, List.nodup_cons.mpr ⟨List.not_mem_nil, List.nodup_nil⟩, fun c hc d hd e => ?_⟩
        rw [List.mem_singleton.mp hd] at e
        obtain ⟨b, hb⟩ := List.mem_iff_getElem?.mp hc
        have := (rr b c hb).2
        rw [e, hL] at this
        cases this
      · intro z
        rcases List.mem_append.mp z with z | z
        · exact Ir z
        · exact IL (List.mem_singleton.mp z)
      · by_cases c : a < rs.length
        · rw [List.getElem?_append_left c] at e
          obtain ⟨g1, g2⟩ := rr a r e
          refine ⟨g1, ?_⟩
          rw [upd_ne (fun z => by rw [z] at e; exact Ir (List.mem_of_getElem? e))]
          exact s8 _ _ g2
        · rw [List.getElem?_append_right (by omega)] at e
          have ea : a - rs.length = 0 := by
            have := (List.getElem?_eq_some_iff.mp e).1
            simp at this
            omega
          rw [ea] at e
          cases e
          refine ⟨free_same s7 hL, ?_⟩
          rw [upd_ne IL.symm]
          exact upd_same
    obtain ⟨rs, e2, rl, rn, Ir, s7, rr⟩ := hp'
    rw [wl3] at rl
    have s57 := s6.trans s7
    have eD2 := s7 _ _ e6
    refine ⟨_, rfl, T, rfl, ⟨_, SqL.of (s57 _ _ hT5)⟩, for_list (K := K) (xs := us) (fun i σ H' => ∃ x6 x7 x8, σ = [some (.ref E'), some (.ref T), some (.ref w), some (.ref p), some (.ref D2), some (.ref I), x6, x7, x8, none, none, none, none] ∧ Same H5 H' ∧ H' D2 = some (.dK (hs.map kvN)) ∧ H' I = some (.lst (rs.map V.ref)) ∧
        (∀ (a : Nat) (r : Addr) (pp : List Nat), rs[a]? = some r → ps[a]? = some pp → ∃ vs, H' r = some (.lst vs) ∧ Ties H' vs ((ts.take i).filter (tIn pp))) ∧ ∀ t ∈ ts.take i, Up ps t)
      ⟨_, _, _, rfl, s57, eD2, e2, fun a r pp h1 _ => ⟨[], (rr a r h1).2, .nil⟩, fun t ht => by rw [List.take_zero] at ht; exact absurd ht List.not_mem_nil⟩ (fun i σ H' _ hp' => ?_) (fun i x σ H8 hx hp' => ?_) (fun σ H8 hp' => ?_)⟩
    · obtain ⟨_, _, _, _, sm, _⟩ := hp'
      exact SqL.of (sm _ _ hT5)
    · obtain ⟨x6, x7, x8, rfl, s8, eD, eI, all, ups⟩ := hp'
      have il := (List.getElem?_eq_some_iff.mp hx).1
      obtain ⟨t, l, a, b, ls, rfl, et, ht, hl⟩ := tu5.at hx
      have get : ∀ y : Nat, DGet H8 D2 (.int (y : Nat)) (valV (hs.map kvN) (.inl (y : Int))) := fun y => (show DGet H8 D2 (kV (Sum.inl (y : Int))) _ from DGet.k eD)
      obtain ⟨ta, tb⟩ := tin _ (List.mem_of_getElem? et)
      obtain ⟨ia, pa, ea, ma'⟩ := hom _ ta
      obtain ⟨ib, pb, eb, mb'⟩ := hom _ tb
      have ga := get a
      rw [val_kn nd ((hk _ ia).mpr ⟨pa, ea, ma'⟩)] at ga
      have gb := get b
      rw [val_kn nd ((hk _ ib).mpr ⟨pb, eb, mb'⟩)] at gb
      have ht8 := s8 _ _ ht
      refine ⟨_, rfl, _, rfl, t, _, 0, _, rfl, rfl, SqT.of ht8, atI_nat (j := 0) rfl, D2, _, rfl, ga, ?_⟩
      refine ⟨_, rfl, _, rfl, t, _, 1, _, rfl, rfl, SqT.of ht8, atI_nat (j := 1) rfl, D2, _, rfl, gb, ?_⟩
      refine ⟨_, _, rfl, ?_⟩
      refine ⟨_, rfl, _, rfl, _, _, rfl, rfl, _, rfl, ?_⟩
      by_cases le : ib < ia
      · refine iteP (decide_eq_true (by omega)) (qn (fun up => ?_) H8 (s05.trans s8))
        obtain ⟨i', j', p', q', h1, h2, h3, h4, h5⟩ := up _ (List.mem_of_getElem? et)
        have := dis i' ia p' pa _ h1 ea h3 ma'
        have := dis j' ib q' pb _ h2 eb h4 mb'
        omega
      refine iteN (decide_eq_false (by omega)) ?_
      have ups' : ∀ t' ∈ ts.take (i + 1), Up ps t' := fun t' ht' => by
        rw [List.take_add_one, et, Option.toList_some] at ht'
        rcases List.mem_append.mp ht' with h | h
        · exact ups t' h
        · rw [List.mem_singleton.mp h]
          exact ⟨ia, ib, pa, pb, ea, eb, ma', mb', by omega⟩
      have tf : ∀ pp, (ts.take (i + 1)).filter (tIn pp) = (ts.take i).filter (tIn pp) ++ (if tIn pp (a, b, ls) = true then [(a, b, ls)] else []) := fun pp => take_filter et
      refine ⟨_, rfl, _, rfl, rfl, _, rfl, ?_⟩
      by_cases c : ia = ib
      · subst c
        rw [ea] at eb
        cases eb
        refine iteP (decide_eq_true rfl) ?_
        have al' : ia < rs.length := by
          have := (List.getElem?_eq_some_iff.mp ea).1
          omega
        have er : rs[ia]? = some rs[ia] := List.getElem?_eq_getElem al'
        obtain ⟨vs, hr8, tv⟩ := all ia _ pa er ea
        have eIa : (rs.map V.ref)[ia]? = some (.ref rs[ia]) := by
          rw [List.getElem?_map, er]
          rfl
        have hr5 : H5 rs[ia] = none := free_same s6 (rr ia _ er).1
        have rI : rs[ia] ≠ I := fun e => Ir (e ▸ List.mem_of_getElem? er)
        have rD : rs[ia] ≠ D2 := fun e => by
          rw [e, eD] at hr8
          cases hr8
        have vl : vs.length ≤ 900 := by
          have := tv.len
          have h2 := List.length_filter_le (tIn pa) (ts.take i)
          rw [List.length_take] at h2
          omega
        refine ⟨_, rfl, _, rfl, I, _, _, _, rfl, rfl, SqL.of eI, atI_nat eIa, .inl ⟨rfl, _, SqL.of hr8⟩, _, rfl, rs[ia], _, _, rfl, rfl, hr8, small1000 (by omega), ?_⟩
        have tk9 : TK H8 (upd H8 rs[ia] (.lst (vs ++ [.ref t]))) := tk_lst hr8
        refine ⟨_, _, _, rfl, keep_new hr5 s8, by rw [upd_ne rD.symm]; exact eD, by rw [upd_ne rI.symm]; exact eI, fun b' r p' h1 h2 => ?_, ups'⟩
        by_cases z : b' = ia
        · subst z
          rw [ea] at h2
          rw [er] at h1
          cases h1
          cases h2
          refine ⟨vs ++ [.ref t], upd_same, ?_⟩
          rw [tf, if_pos (by unfold tIn; simp [ma', mb'])]
          exact (tv.app (.cons ht8 (s8 _ _ hl) .nil)).tk tk9
        · have nr : r ≠ rs[ia] := fun e => z (by
            subst e
            exact (List.getElem?_inj (List.getElem?_eq_some_iff.mp h1).1 rn).mp (h1.trans er.symm))
          have np : tIn p' (a, b, ls) = false := by
            unfold tIn
            rw [decide_eq_false (fun h => z (dis b' ia p' pa _ h2 ea h ma')), Bool.false_and]
          obtain ⟨vs', h3, h4⟩ := all b' r p' h1 h2
          refine ⟨vs', by rw [upd_ne nr]; exact h3, ?_⟩
          rw [tf, if_neg (by rw [np]; decide), List.append_nil]
          exact h4.tk tk9
      · refine iteN (decide_eq_false fun e => c (by have := V.int.inj e; omega)) ?_
        refine ⟨_, _, _, rfl, s8, eD, eI, fun b' r p' h1 h2 => ?_, ups'⟩
        have np : tIn p' (a, b, ls) = false := by
          unfold tIn
          by_cases h : a ∈ p'
          · have e1 := dis b' ia p' pa _ h2 ea h ma'
            have nb : b ∉ p' := fun h' => by
              have e2 := dis b' ib p' pb _ h2 eb h' mb'
              omega
            rw [decide_eq_false nb, Bool.and_false]
          · rw [decide_eq_false h, Bool.false_and]
        rw [tf, if_neg (by rw [np]; decide), List.append_nil]
        exact all b' r p' h1 h2
    · obtain ⟨x6, x7, x8, rfl, s8, eD, eI, all, ups⟩ := hp'
      rw [ul, List.take_length] at all
      have hp8 := same_tup s8 hp5
      have wh8 := dpA_mono s8 wh5
      have mr : (rs.map V.ref).length = rs.length := List.length_map ..
      refine ⟨_, rfl, _, rfl, p, I, _, _, rfl, hp8, SqL.of eI, fun D3 hD3 => ?_⟩
      have s8w : ∀ {G : Hp}, Same H8 G → Same H8 (wo D3 G) := fun {G} sg c o h => by
        rw [wo_ne (ne_of_none h hD3)]
        exact sg c o h
      refine walkC (J := ItZ K p I) (n := qs.length) (fun i H' => Same H8 H' ∧ ∃ vs, H' D3 = some (.lst vs) ∧ PRs K (wo D3 H') ts vs (qs.take i))
        ⟨same_new hD3, [], upd_same, .nil⟩ (fun i H' hi hp' => ?_) (fun H' hp' => ?_) (fun i x H9 H9' hi hp' hy => ?_) (fun H9 hp' => ?_)
      · exact ⟨_, _, _, _, same_tup hp'.1 hp8, SqL.of (hp'.1 _ _ eI), List.getElem?_eq_getElem (by omega), List.getElem?_eq_getElem (by rw [mr]; omega)⟩
      · exact ⟨_, _, same_tup hp'.1 hp8, SqL.of (hp'.1 _ _ eI), by omega, by omega⟩
      · obtain ⟨s9, vs, e9, pr⟩ := hp'
        obtain ⟨t0, v1, v2, rfl, ht0, rfl, h1, h2⟩ := hy
        obtain ⟨qq, eq, t, a, c0, rfl, ht, ha, hb⟩ := parts_at wh8 (h1 _ (same_tup s9 hp8))
        have h2 := h2 _ (SqL.of (s9 _ _ eI))
        rw [List.getElem?_map] at h2
        have er : rs[i]? = some rs[i] := List.getElem?_eq_getElem (by omega)
        rw [er] at h2
        cases h2
        obtain ⟨vs', hr8, tv⟩ := all i _ _ er (rss i qq eq)
        have s10 := same_new (o := .tup [.ref t, .ref rs[i]]) ht0
        have et0 : upd H9 t0 (.tup [.ref t, .ref rs[i]]) t0 = some (.tup [.ref t, .ref rs[i]]) := upd_same
        generalize upd H9 t0 (.tup [.ref t, .ref rs[i]]) = H10 at *
        have s810 := s9.trans s10
        have prl := pr.len
        rw [List.length_take] at prl
        refine ⟨t0, _, rfl, SqT.of et0, rfl, _, _, rfl, _, _, rfl, rfl, rfl, ?_⟩
        refine ⟨_, rfl, t, _, 0, _, rfl, rfl, same_tup s810 ht, atI_nat (j := 0) rfl, a, _, rfl, .inr (same_tup s810 ha), fun L hL => ?_⟩
        have s11 := same_new (o := .lst (qq.1.map vI)) hL
        refine ⟨_, rfl, _, rfl, t, _, 1, _, rfl, rfl, same_tup (s810.trans s11) ht, atI_nat (j := 1) rfl, by show 3 ≤ sizeLine; decide, fun t3 ht3 => ?_⟩
        have s12 := same_new (o := .tup [.ref L, .ref rs[i], c0]) ht3
        have s912 := s10.trans (s11.trans s12)
        have s812 := s9.trans s912
        have e12 := s912 _ _ e9
        have LD : L ≠ D3 := fun e => by
          have := s10 _ _ e9
          rw [← e, hL] at this
          cases this
        have tD : t3 ≠ D3 := fun e => by
          have := (s10.trans s11) _ _ e9
          rw [← e, ht3] at this
          cases this
        refine ⟨vs, e12, small1000 (by omega), keep_new hD3 s812, vs ++ [.ref t3], upd_same, ?_⟩
        rw [wo_upd, List.take_add_one, eq, Option.toList_some]
        refine PRs.app (pr.same (wo_mono s912)) (.cons ⟨t3, L, rs[i], c0, vs', rfl, by rw [wo_ne tD]; exact upd_same, by rw [wo_ne LD]; exact s12 _ _ upd_same, s8w s812 _ _ hr8, tv.tk (tk_same (s8w s812)), dp_mono (s8w s812) hb⟩ .nil)
      · obtain ⟨s9, vs, e9, pr⟩ := hp'
        rw [List.take_length] at pr
        exact q (fun t ht => ups t (by rw [ul, List.take_length]; exact ht)) H9 D3 vs (s05.trans (s8.trans s9)) e9 (pr.same wo_same)
end
end W35

namespace W35
open PySem PySem.Spec PyProof.Rows L2 Gs Gp Gr Dw
/-! ### whys -/
def dNone : PyData := .tuple [.str "none"]
def dLot (lot : Nat) : PyData := .tuple [.str "lot", .int (lot : Nat)]
inductive WhyP (m : Nat) : List Nat → List Tie → PyData → Prop
  | none {es : List Nat} : WhyP m es [] dNone
  | lot {es : List Nat} {ts : List Tie} {lot : Nat} : lot < m → (∀ t ∈ ts, lot ∉ t.2.2) → WhyP m es ts (dLot lot)
  | parts {es : List Nat} {ts : List Tie} {d : PyData} {qs : List (List Nat × PyData)} : PartsOk d es ts qs → (∀ q ∈ qs, WhyP m q.1 (ts.filter (tIn q.1)) q.2) → WhyP m es ts d
noncomputable def whyB (m : Nat) (es : List Nat) (ts : List Tie) (d : PyData) : Bool := @decide (WhyP m es ts d) (Classical.propDecidable _)
theorem whyB_iff {m : Nat} {es : List Nat} {ts : List Tie} {d : PyData} : whyB m es ts d = true ↔ WhyP m es ts d := by
  unfold whyB
  exact @decide_eq_true_iff _ (Classical.propDecidable _)
theorem whyB_eq {m : Nat} {es : List Nat} {ts : List Tie} {d : PyData} {b : Bool} (h : b = true ↔ WhyP m es ts d) : whyB m es ts d = b := by
  rw [Bool.eq_iff_iff, whyB_iff, h]
theorem dWhy_none {qs : List (List Nat × PyData)} (h : dNone = dWhy qs) : False := by
  unfold dNone dWhy at h
  injection h with h
  injection h with _ h
  cases h
theorem dWhy_lot {qs : List (List Nat × PyData)} {lot : Nat} (h : dLot lot = dWhy qs) : False := by
  unfold dLot dWhy at h
  injection h with h
  injection h with h _
  injection h with h
  exact absurd h (by decide +kernel)
theorem dLot_inj {a b : Nat} (h : dLot a = dLot b) : a = b := by
  unfold dLot at h
  injection h with h
  injection h with _ h
  injection h with h _
  injection h with h
  omega
theorem why_none {m : Nat} {es : List Nat} {ts : List Tie} : WhyP m es ts dNone ↔ ts = [] := by
  constructor
  · intro h
    generalize e : dNone = d at h
    cases h with
    | none => rfl
    | lot _ _ => unfold dNone dLot at e; injection e with e; injection e with _ e; cases e
    | parts po _ => subst e; exact absurd po.fm fun z => dWhy_none z
  · rintro rfl
    exact .none
theorem why_lot {m : Nat} {es : List Nat} {ts : List Tie} {lot : Nat} : WhyP m es ts (dLot lot) ↔ lot < m ∧ ∀ t ∈ ts, lot ∉ t.2.2 := by
  constructor
  · intro h
    generalize e : dLot lot = d at h
    cases h with
    | none => unfold dNone dLot at e; injection e with e; injection e with _ e; cases e
    | lot h1 h2 => rw [dLot_inj e]; exact ⟨h1, h2⟩
    | parts po _ => subst e; exact absurd po.fm fun z => dWhy_lot z
  · exact fun h => .lot h.1 h.2
theorem dWhy_inj {as bs : List (List Nat × PyData)} (h : dWhy as = dWhy bs) : as = bs := by
  unfold dWhy at h
  injection h with h
  injection h with _ h
  injection h with h _
  injection h with h
  refine (List.map_inj_right fun a b e => ?_).mp h
  have e : dPartI (toI a) = dPartI (toI b) := by rw [dPart_toI, dPart_toI]; exact e
  have := dPartI_inj e
  unfold toI at this
  injection this with h1 h2
  refine Prod.ext ((List.map_inj_right fun x y e => ?_).mp h1) h2
  unfold ci at e
  omega
theorem why_parts {m : Nat} {es : List Nat} {ts : List Tie} {d : PyData} {qs : List (List Nat × PyData)} (po : PartsOk d es ts qs) : WhyP m es ts d ↔ ∀ q ∈ qs, WhyP m q.1 (ts.filter (tIn q.1)) q.2 := by
  constructor
  · intro h
    cases h with
    | none => exact absurd po.fm fun z => dWhy_none z
    | lot _ _ => exact absurd po.fm fun z => dWhy_lot z
    | parts po' h =>
      have e := dWhy_inj (po.fm.symm.trans po'.fm)
      subst e
      exact h
  · exact fun h => .parts po h
theorem eqv_dNone {d : PyData} (h : PyData.eqv d dNone = true) : d = dNone := by
  unfold dNone at *
  match d, h with
  | .tuple [x], h =>
    rw [PyData.eqv, PyData.eqvAll, Bool.and_eq_true] at h
    rw [eqv_str h.1]
  | .tuple [], h => simp [PyData.eqv, PyData.eqvAll] at h
  | .tuple (_ :: _ :: _), h => simp [PyData.eqv, PyData.eqvAll] at h
  | .none, h => simp [PyData.eqv] at h
  | .bool _, h => simp [PyData.eqv] at h
  | .int _, h => simp [PyData.eqv] at h
  | .str _, h => simp [PyData.eqv] at h
  | .list _, h => simp [PyData.eqv] at h
  | .dict _, h => simp [PyData.eqv] at h
theorem lotB_iff {m : Nat} {es : List Nat} {ts : List Tie} {d : PyData} (h : lotB m ts d = true) : WhyP m es ts d := by
  cases h2 : tup2B d with
  | false => rw [lotB_no h2] at h; cases h
  | true =>
    obtain ⟨e0, e1, rfl⟩ := tup2_form h2
    cases h0 : PyData.eqv e0 (.str "lot") with
    | false => rw [lotB_0 h0] at h; cases h
    | true =>
      cases h1 : belowB m e1 with
      | false => rw [lotB_1 h1] at h; cases h
      | true =>
        obtain ⟨lot, lt, rfl⟩ := below_form h1
        have e := eqv_str h0
        subst e
        have h : (PyData.eqv (.str "lot") (.str "lot") && belowB m (.int (lot : Nat)) && !(ts.any fun t => decide ((((lot : Nat) : Int).toNat) ∈ t.2.2))) = true := h
        rw [h0, h1, Bool.true_and, Bool.true_and, Int.toNat_natCast] at h
        refine .lot lt fun t ht z => ?_
        have : (ts.any fun t => decide (lot ∈ t.2.2)) = true := List.any_eq_true.mpr ⟨t, ht, decide_eq_true z⟩
        rw [this] at h
        cases h
theorem lot_lotB {m : Nat} {ts : List Tie} {lot : Nat} (h1 : lot < m) (h2 : ∀ t ∈ ts, lot ∉ t.2.2) : lotB m ts (dLot lot) = true := by
  show (PyData.eqv (.str "lot") (.str "lot") && belowB m (.int (lot : Nat)) && !(ts.any fun t => decide ((((lot : Nat) : Int).toNat) ∈ t.2.2))) = true
  rw [str_eqv, Bool.true_and, Int.toNat_natCast]
  have a : belowB m (.int (lot : Nat)) = true := by
    show (decide (0 ≤ ((lot : Nat) : Int)) && decide (((lot : Nat) : Int) < (m : Int))) = true
    rw [Bool.and_eq_true]
    exact ⟨decide_eq_true (by omega), decide_eq_true (by omega)⟩
  have b : (ts.any fun t => decide (lot ∈ t.2.2)) = false := by
    rw [Bool.eq_false_iff]
    intro z
    obtain ⟨t, ht, z⟩ := List.any_eq_true.mp z
    exact h2 t ht (of_decide_eq_true z)
  rw [a, b]
  rfl
theorem dWhy_depth {qs : List (List Nat × PyData)} {q : List Nat × PyData} (h : q ∈ qs) : q.2.depth + 3 ≤ (dWhy qs).depth := by
  have h1 : (dPart q).depth ≤ PyData.depthAll (qs.map dPart) := depth_mem (List.mem_map.mpr ⟨q, h, rfl⟩)
  have h2 : q.2.depth + 1 ≤ (dPart q).depth := by
    unfold dPart
    rw [PyData.depth]
    exact Nat.succ_le_succ (depth_mem (by simp))
  have h3 : (PyData.tuple (qs.map dPart)).depth + 1 ≤ (dWhy qs).depth := by
    show _ ≤ PyData.depth (.tuple [.str "parts", .tuple (qs.map dPart)])
    have := depth_mem (d := .tuple (qs.map dPart)) (ds := [.str "parts", .tuple (qs.map dPart)]) (by simp)
    rw [show PyData.depth (.tuple [.str "parts", .tuple (qs.map dPart)]) = PyData.depthAll [.str "parts", .tuple (qs.map dPart)] + 1 from by rw [PyData.depth]]
    omega
  have h4 : PyData.depthAll (qs.map dPart) + 1 ≤ (PyData.tuple (qs.map dPart)).depth := by
    rw [PyData.depth]
    exact Nat.le_refl _
  omega
theorem okd_part {n : Nat} {qs : List (List Nat × PyData)} {q : List Nat × PyData} (h : q ∈ qs) (o : Okd n (dWhy qs)) : Okd n q.2 := by
  obtain ⟨_, o1⟩ := o.of_tup
  obtain ⟨_, o2⟩ := (o1 (.tuple (qs.map dPart)) (by simp)).of_tup
  obtain ⟨_, o3⟩ := (o2 (dPart q) (List.mem_map.mpr ⟨q, h, rfl⟩)).of_tup
  exact (o3 q.2 (by simp)).mono (by omega)
abbrev NWo : List Str := ["entries", "ties", "many", "thing", "parts", "some", "inner", "why"]
theorem scWhyOf : FnScope NWo ["entries", "ties", "many", "thing"] (defScope sWhyOf) := ⟨rfl, rfl, rfl, by decide +kernel, rfl, by decide +kernel, by decide +kernel⟩
abbrev NoneAt (K : PySem.W.Frag) (aN : Addr) : Prop := ∀ H : Hp, SqT K H aN [.str "none"]
def spWhyOf (K : PySem.W.Frag) : Nat → Sp
  | 0 => fun _ _ _ _ => False
  | n + 1 => fun vs H Q _ => ∃ (E T : Addr) (v : V) (d : PyData) (m : Nat) (es : List Nat) (us : List V) (ts : List Tie), vs = [.ref E, .ref T, .int m, v] ∧ H E = some (.lst (es.map vI)) ∧ es.length ≤ 30 ∧ es.Nodup ∧ (∀ x ∈ es, x < 900) ∧ H T = some (.lst us) ∧ Ties H us ts ∧ ts.length ≤ 900 ∧ (∀ t ∈ ts, t.1 ∈ es ∧ t.2.1 ∈ es) ∧ Dp K H v d ∧ Okd 60 d ∧ d.depth ≤ 3 * n + 2 ∧
    ∀ H', Same H H' → Q (.bl (whyB m es ts d)) H'
section
variable {P : Program} {w : World} {K : PySem.W.Frag} {mg : Str → Option Value} {base : Heap} {f f1 f2 f3 aN : Addr} {fd d1 d2 d3 : FuncData} {k : Nat}
theorem ok_whyOf (F : Fun K "is_why_of" "is_why_of" sWhyOf f fd) (g : mg "is_why_of" = some (.ref f)) (kp : PySem.W.keepIn K (.ref f) = true) (bd : Binds K fd ["entries", "ties", "many", "thing"] [])
    (LW : Cl P w K mg base CX0 k "is_lot_why" ["ties", "many", "thing"] (spLotWhy K) f1 d1) (PD : Cl P w K mg base CX0 k "parted" ["entries", "ties", "thing"] (spParted K) f2 d2) (gN : mg "NONE" = some (.ref aN)) (hN : NoneAt K aN) (ma : mg "all" = none) :
    ∀ n, FnOk P w K mg base CX0 (k + n + 1) f fd ["entries", "ties", "many", "thing"] (spWhyOf K n) := by
  intro n
  induction n with
  | zero =>
    refine F.ok scWhyOf (fun vs H Q E h => ?_) (fun cdv A outer s H vs Q E hr h => ?_)
    · exact absurd h id
    · exact absurd h id
  | succ n ih =>
    have IH : Cl P w K mg base CX0 (k + n + 1) "is_why_of" ["entries", "ties", "many", "thing"] (spWhyOf K n) f fd := ⟨g, ih, kp, bd⟩
    refine F.ok scWhyOf (fun vs H Q E h => ?_) (fun cdv A outer s H vs Q E hr h => ?_)
    · obtain ⟨E, T, v, d, m, es, us, ts, rfl, _⟩ := h
      rfl
    · obtain ⟨E', T, v, d, m, es, us, ts, rfl, hE, el, end', elt, hT, tu, tl, tin, hv, ok, dd, q⟩ := h
      have rk := hr.mono (j := k) (by omega)
      refine ⟨_, pss_cons (ps_if (pt_cmpR (op_eqD hr.units) (pv 3) (pe_glob (v := .ref aN) (by rfl) gN rfl) (nomark _)) (pss_one (ps_ret (pe_notT (pv 1)))) pss_nil)
        (pss_cons (ps_if (pt_val (pe_call LW.ok rk (by rfl) LW.g LW.kp LW.bd .nil pass0 (pa_cons (pv 1) (pa_cons (pv 2) (pa_cons (pv 3) pa_nil))))) (pss_one (ps_ret pe_bl)) pss_nil)
        (pss_cons (ps_set (i := 4) scWhyOf.nd rfl (.inl rfl) (pe_call PD.ok rk (by rfl) PD.g PD.kp PD.bd .nil pass0 (pa_cons (pv 0) (pa_cons (pv 1) (pa_cons (pv 3) pa_nil)))))
        (pss_one (ps_ret (pe_and (pe_cmpR op_notN (pv 4) pe_non (nomark _)) (pe_one (pe_callB (cr_all rfl) (by rfl) ma (by decide +kernel) (pa_cons
          (pe_lc (own := [("some", 5), ("inner", 6), ("why", 7)]) (g := gTup K 3 (gCons (gName 5) (gCons (gName 6) (gCons (gName 7) gNil)))) (tt := tYes) rfl scWhyOf.nd (pi_list (pv 4)) (blkOk_by (own := [("some", 5), ("inner", 6), ("why", 7)]) (N := NWo) (sc := defScope sWhyOf) (by decide +kernel))
            (fun _ _ _ _ _ => pg_tup (by rfl) (pgs_cons (pg_name (i := 5) scWhyOf.nd rfl (.inl rfl)) (pgs_cons (pg_name (i := 6) scWhyOf.nd rfl (.inl rfl)) (pgs_cons (pg_name (i := 7) scWhyOf.nd rfl (.inl rfl)) pgs_nil)))) (fun _ _ _ _ _ => pts_nil)
            (fun _ _ _ _ _ => pe_call IH.ok hr (by rfl) IH.g IH.kp IH.bd .nil pass0 (pa_cons (pv 5) (pa_cons (pv 6) (pa_cons (pv 2) (pa_cons (pv 7) pa_nil)))))) pa_nil)))))))), ?_⟩
      have dn : Dp K H (.ref aN) dNone := .tup (hN H) (.cons (.str _) .nil)
      have sn : SeqAt.shaped dNone = true := (Sf.pl1 (Sf.pl_str (by decide +kernel))).shaped (by decide)
      refine ⟨_, rfl, d, dNone, hv, dn, ok.shaped (by decide), sn, _, rfl, ?_⟩
      cases c : PyData.eqv d dNone with
      | true =>
        have e := eqv_dNone c
        subst e
        cases hu : us with
        | nil =>
          subst hu
          cases tu
          rw [whyB_eq (b := true) ⟨fun _ => .none, fun _ => rfl⟩] at q
          exact iteT ⟨_, rfl, _, .inl ⟨_, SqL.of hT, rfl⟩, q H (Same.refl H)⟩
        | cons u us' =>
          subst hu
          have ne : ts ≠ [] := fun e => by
            subst e
            cases tu
          rw [whyB_eq (b := false) ⟨fun z => absurd z (by decide), fun z => absurd (why_none.mp z) ne⟩] at q
          exact iteT ⟨_, rfl, _, .inl ⟨_, SqL.of hT, rfl⟩, q H (Same.refl H)⟩
      | false =>
        refine iteF ⟨_, rfl, _, rfl, _, rfl, T, v, d, m, us, ts, rfl, hv, ok, hT, tu, tl, fun H1 s1 => ⟨_, rfl, ?_⟩⟩
        cases cl : lotB m ts d with
        | true =>
          rw [whyB_eq (b := true) ⟨fun _ => lotB_iff cl, fun _ => rfl⟩] at q
          exact iteT (q H1 s1)
        | false =>
          refine iteF ?_
          have nn : d ≠ dNone := fun e => by
            subst e
            rw [SeqAt.eqv_refl _ (sm_lay _ ok.1)] at c
            cases c
          refine ⟨_, rfl, _, rfl, _, rfl, E', T, v, d, es, us, ts, rfl, s1 _ _ hE, el, end', elt, s1 _ _ hT, tu.tk (tk_same s1), tl, tin, dp_mono s1 hv, ok, fun no H2 s2 => ?_, fun qs po H2 r rs s2 hr2 prs => ?_⟩
          · refine ⟨_, rfl, rfl, _, rfl, ?_⟩
            rw [whyB_eq (b := false) ⟨fun z => absurd z (by decide), fun z => by
              cases z with
              | none => exact absurd rfl nn
              | lot h1 h2 => rw [lot_lotB h1 h2] at cl; cases cl
              | parts po _ => exact absurd po (no _)⟩] at q
            exact iteF (q H2 (s1.trans s2))
          · refine ⟨_, rfl, rfl, _, rfl, iteP rfl ?_⟩
            have rl := prs.len
            have ql : qs.length ≤ 30 := by
              have := po.fm ▸ ok
              obtain ⟨_, o1⟩ := this.of_tup
              obtain ⟨o2, _⟩ := (o1 (.tuple (qs.map dPart)) (by simp)).of_tup
              rwa [List.length_map] at o2
            refine ⟨_, rfl, r, rfl, ⟨_, SqL.of hr2⟩, fun D hD => ?_⟩
            refine lc_list (K := K) (xs := rs) (fun j H' => Same H2 H' ∧ H' D = some (.lst (((qs.take j).map fun q => whyB m q.1 (ts.filter (tIn q.1)) q.2).map V.bl)))
              ⟨same_new hD, upd_same⟩ (fun j H' _ hp' => SqL.of (hp'.1 _ _ hr2)) (fun j x H3 hx hp' => ?_) (fun H3 hp' => ?_)
            · obtain ⟨s3, d3⟩ := hp'
              have jl := (List.getElem?_eq_some_iff.mp hx).1
              obtain ⟨qq, eq, t, a, b, c', us', rfl, h1, h2, h3, h4, h5⟩ := (prs.same s3).at hx
              have qm := List.mem_of_getElem? eq
              have dq := dWhy_depth qm
              rw [← po.fm] at dq
              obtain ⟨n, rfl⟩ : ∃ n', n = n' + 1 := ⟨n - 1, by omega⟩
              have sub : ∀ x ∈ qq.1, x ∈ es := fun x hx => po.pm.mem_iff.mp (List.mem_flatten.mpr ⟨qq.1, List.mem_map.mpr ⟨qq, qm, rfl⟩, hx⟩)
              have qnd : qq.1.Nodup := (apart_of end' elt po.pm).2.1 _ (List.mem_map.mpr ⟨qq, qm, rfl⟩)
              refine ⟨t, _, rfl, SqT.of h1, rfl, _, _, rfl, _, _, rfl, _, _, rfl, rfl, rfl, ?_⟩
              refine ⟨_, rfl, _, rfl, _, rfl, _, rfl, a, b, c', qq.2, m, qq.1, us', _, rfl, h2, ?_, qnd, fun x hx => elt x (sub x hx), h3, h4, ?_, fun t' ht' => ?_, h5, okd_part qm (po.fm ▸ ok), by omega, fun H4 s4 => ?_⟩
              · have := pigl (es := es) qnd sub
                omega
              · exact Nat.le_trans (List.length_filter_le _ _) tl
              · have := (List.mem_filter.mp ht').2
                unfold tIn at this
                rw [Bool.and_eq_true] at this
                exact ⟨of_decide_eq_true this.1, of_decide_eq_true this.2⟩
              · refine ⟨_, s4 _ _ d3, by rw [List.length_map, List.length_map, List.length_take]; exact small1000 (by omega), keep_new hD (s3.trans s4), ?_⟩
                rw [upd_same, List.take_add_one, eq, Option.toList_some, List.map_append, List.map_append]
                rfl
            · obtain ⟨s3, d3⟩ := hp'
              rw [rl, List.take_length] at d3
              refine ⟨D, qs.map fun q => whyB m q.1 (ts.filter (tIn q.1)) q.2, rfl, SqL.of d3, ?_⟩
              have e : ((qs.map fun q => whyB m q.1 (ts.filter (tIn q.1)) q.2).all id) = whyB m es ts d := (whyB_eq (by
                rw [why_parts po, List.all_map, List.all_eq_true]
                constructor
                · exact fun h q hq => whyB_iff.mp (h q hq)
                · exact fun h q hq => whyB_iff.mpr (h q hq))).symm
              rw [e]
              exact q H3 (s1.trans (s2.trans s3))
end
/-! ### is_why -/
theorem scWhy : FnScope ["entries", "ties", "many", "thing"] ["entries", "ties", "many", "thing"] (defScope sWhy) := ⟨rfl, rfl, rfl, by decide +kernel, rfl, by decide +kernel, by decide +kernel⟩
def spWhy (K : PySem.W.Frag) (n : Nat) : Sp := fun vs H Q _ => ∃ (E T : Addr) (v : V) (d : PyData) (m : Nat) (es : List Nat) (us : List V) (ts : List Tie), vs = [.ref E, .ref T, .int m, v] ∧ H E = some (.lst (es.map vI)) ∧ es.length ≤ 30 ∧ es.Nodup ∧ (∀ x ∈ es, x < 900) ∧ H T = some (.lst us) ∧ Ties H us ts ∧ ts.length ≤ 900 ∧ Dp K H v d ∧ Okd 60 d ∧ d.depth ≤ 3 * n + 2 ∧
    ∀ H', Same H H' → Q (.bl (whyB m es (ts.filter (tIn es)) d)) H'
section
variable {P : Program} {w : World} {K : PySem.W.Frag} {mg : Str → Option Value} {base : Heap} {f f1 f2 f3 aN : Addr} {fd d1 d2 d3 : FuncData} {k n : Nat}
theorem ok_why (F : Fun K "is_why" "is_why" sWhy f fd) (WO : Cl P w K mg base CX0 k "is_why_of" ["entries", "ties", "many", "thing"] (spWhyOf K (n + 1)) f1 d1) (AM : Cl P w K mg base CX0 k "ties_among" ["entries", "ties"] spAmong f2 d2) : FnOk P w K mg base CX0 (k + 1) f fd ["entries", "ties", "many", "thing"] (spWhy K n) := by
  refine F.ok scWhy (fun vs H Q E h => ?_) (fun cdv A outer s H vs Q E hr h => ?_)
  · obtain ⟨E, T, v, d, m, es, us, ts, rfl, _⟩ := h
    rfl
  · obtain ⟨E', T, v, d, m, es, us, ts, rfl, hE, el, end', elt, hT, tu, tl, hv, ok, dd, q⟩ := h
    refine ⟨_, pss_one (ps_ret (pe_call WO.ok hr (by rfl) WO.g WO.kp WO.bd .nil pass0 (pa_cons (pv 0) (pa_cons (pe_call AM.ok hr (by rfl) AM.g AM.kp AM.bd .nil pass0 (pa_cons (pv 0) (pa_cons (pv 1) pa_nil))) (pa_cons (pv 2) (pa_cons (pv 3) pa_nil)))))), ?_⟩
    refine ⟨_, rfl, _, rfl, _, rfl, E', T, es, us, ts, rfl, hE, hT, tu, by omega, tl, fun H1 r us' s1 hr1 e1 tu1 => ?_⟩
    refine ⟨_, rfl, _, rfl, E', r, v, d, m, es, us', _, rfl, s1 _ _ hE, el, end', elt, e1, tu1, Nat.le_trans (List.length_filter_le _ _) tl, fun t' ht' => ?_, dp_mono s1 hv, ok, dd, fun H2 s2 => q H2 (s1.trans s2)⟩
    have := (List.mem_filter.mp ht').2
    unfold tIn at this
    rw [Bool.and_eq_true] at this
    exact ⟨of_decide_eq_true this.1, of_decide_eq_true this.2⟩
end
end W35

namespace Gs
open PySem PySem.Spec PyProof.Rows L2
/-- xs == []: whatever the items are -/
theorem op_eqNil {X : Cx} (hu : X.A.units < cLine) : OpR X (compareOp .Eq) (fun x y H Q => ∃ a b xs, x = .ref a ∧ y = .ref b ∧ SqL X.K H a xs ∧ SqL X.K H b [] ∧ Q (.bl (decide (xs.length = 0))) H) := by
  intro pins s σ H x y v u Q I rx ry h
  obtain ⟨a, b, xs, rfl, rfl, ha, hb, q⟩ := h
  cases rx
  cases ry
  obtain ⟨its, r, ht, hz⟩ := I.list ha
  obtain ⟨its2, r2, ht2, hz2⟩ := I.list hb
  cases r2
  have hl := r.length
  by_cases c : xs.length = 0
  · rw [decide_eq_true c] at q
    have e : its = [] := by
      cases its with
      | nil => rfl
      | cons z zs => exact absurd c (by rw [hl]; exact Nat.succ_ne_zero _)
    subst e
    exact SeqAt.RcAt.lists (e := fun _ => true) ht.isList ht2.isList rfl hu (fun j h1 => absurd h1 (Nat.not_lt_zero _)) X.prog X.w _ _ ⟨.bl true, H, I, rfl, q⟩
  · rw [decide_eq_false c] at q
    exact SeqAt.RcAt.lists_lengths ht.isList ht2.isList (by cases its with
      | nil => exact absurd hl c
      | cons z zs => simp) hu X.prog X.w _ _ ⟨.bl false, H, I, rfl, q⟩
end Gs

namespace W35
open PySem PySem.Spec PyProof.Rows L2 Gs Gp Gr Dw
/-! ### the law's own look at whys that are well made -/
inductive GoodW (m : Nat) : List Nat → PyData → Prop
  | none {es : List Nat} : GoodW m es dNone
  | lot {es : List Nat} {lot : Nat} : lot < m → GoodW m es (dLot lot)
  | parts {es : List Nat} {qs : List (List Nat × PyData)} : (∀ q ∈ qs, Rise q.1) → ((qs.map (·.1)).flatten).Perm es → (∀ q ∈ qs, GoodW m q.1 q.2) → GoodW m es (dWhy qs)
abbrev NWs : List Str := ["_law_entries", "_law_ties_here", "_law_many", "_law_why", "_law_inner", "_law_places", "_law_at", "_law_part", "_law_entry", "_law_tie"]
theorem scWs : FnScope NWs ["_law_entries", "_law_ties_here", "_law_many", "_law_why"] (defScope sSo) := ⟨rfl, rfl, rfl, by decide +kernel, rfl, by decide +kernel, by decide +kernel⟩
def spSo (K : PySem.W.Frag) : Nat → Sp
  | 0 => fun _ _ _ _ => False
  | n + 1 => fun vs H Q _ => ∃ (E T : Addr) (v : V) (d : PyData) (m : Nat) (es : List Nat) (us : List V) (ts : List Tie), vs = [.ref E, .ref T, .int m, v] ∧ H E = some (.lst (es.map vI)) ∧ es.length ≤ 30 ∧ es.Nodup ∧ (∀ x ∈ es, x < 900) ∧ H T = some (.lst us) ∧ Ties H us ts ∧ ts.length ≤ 900 ∧ Dp K H v d ∧ Okd 60 d ∧ d.depth ≤ 3 * n + 2 ∧ GoodW m es d ∧
    ∀ H', Same H H' → Q (.bl (whyB m es (ts.filter (tIn es)) d)) H'
section
variable {P : Program} {w : World} {K : PySem.W.Frag} {mg : Str → Option Value} {base : Heap} {f f1 f2 f3 aN : Addr} {fd d1 d2 d3 : FuncData} {k : Nat}
theorem ok_so (F : Fun K "_law_why_so" "_law_why_so" sSo f fd) (g : mg "_law_why_so" = some (.ref f)) (kp : PySem.W.keepIn K (.ref f) = true) (bd : Binds K fd ["_law_entries", "_law_ties_here", "_law_many", "_law_why"] [])
    (me : mg "enumerate" = none) (ml : mg "list" = none) :
    ∀ n, FnOk P w K mg base CX0 (k + n + 1) f fd ["_law_entries", "_law_ties_here", "_law_many", "_law_why"] (spSo K n) := by
  intro n
  induction n with
  | zero =>
    refine F.ok scWs (fun vs H Q E h => ?_) (fun cdv A outer s H vs Q E hr h => ?_)
    · exact absurd h id
    · exact absurd h id
  | succ n ih =>
    have IH : Cl P w K mg base CX0 (k + n + 1) "_law_why_so" ["_law_entries", "_law_ties_here", "_law_many", "_law_why"] (spSo K n) f fd := ⟨g, ih, kp, bd⟩
    refine F.ok scWs (fun vs H Q E h => ?_) (fun cdv A outer s H vs Q E hr h => ?_)
    · obtain ⟨E, T, v, d, m, es, us, ts, rfl, _⟩ := h
      rfl
    · obtain ⟨E', T, v, d, m, es, us, ts, rfl, hE, el, end', elt, hT, tu, tl, hv, ok, dd, gw, q⟩ := h
      refine ⟨_, pss_cons (ps_set (i := 4) scWs.nd rfl (.inr rfl) (pe_lc (own := [("_law_tie", 9)]) (g := gName 9) rfl scWs.nd (pi_list (pv 1)) (blkOk_by (own := [("_law_tie", 9)]) (N := NWs) (sc := defScope sSo) (by decide +kernel))
            (fun _ _ _ _ _ => pg_name (i := 9) scWs.nd rfl (Or.inl rfl))
            (fun _ _ _ _ _ => pts_one (PW.pt (pw_and (pt_cmpR (op_inK (K := K) rfl) (pe_ix (ix_tupK (K := K) rfl) (pv 9) pe_int (fun _ _ => rfl)) (pv 0) (by rfl)) (pw_and1 (pt_cmpR (op_inK (K := K) rfl) (pe_ix (ix_tupK (K := K) rfl) (pv 9) pe_int (fun _ _ => rfl)) (pv 0) (by rfl))))))
            (fun _ _ _ _ _ => pv 9)))
        (pss_cons (ps_if (pt_cmpR (op_eqD hr.units) (pv 3) (pe_tup (pa_cons pe_str pa_nil)) (nomark _)) (pss_one (ps_ret (pe_cmpR (op_eqNil hr.units0) (pv 4) (pe_lst pa_nil) (nomark _)))) pss_nil)
        (pss_cons (ps_if (pt_cmpR op_eq (pe_ix ix_tup (pv 3) pe_int (fun _ _ => rfl)) pe_str (nomark _)) (pss_one (ps_ret (pe_cmpR (op_eqNil hr.units0)
            (pe_lc (own := [("_law_tie", 9)]) (g := gName 9) rfl scWs.nd (pi_list (pv 4)) (blkOk_by (own := [("_law_tie", 9)]) (N := NWs) (sc := defScope sSo) (by decide +kernel))
              (fun _ _ _ _ _ => pg_name (i := 9) scWs.nd rfl (Or.inl rfl))
              (fun _ _ _ _ _ => pts_one (pt_cmpR (op_inK (K := K) rfl) (pe_ix (ix_tupK (K := K) rfl) (pv 3) pe_int (fun _ _ => rfl)) (pe_ix (ix_tupK (K := K) rfl) (pv 9) pe_int (fun _ _ => rfl)) (by rfl)))
              (fun _ _ _ _ _ => pv 9)) (pe_lst pa_nil) (nomark _)))) pss_nil)
        (pss_cons (ps_set (i := 5) scWs.nd rfl (.inr rfl) pe_dnewK)
        (pss_cons (ps_for PassesOwn.never rfl (pi_enT (by rfl) me (pa_cons (pe_ix ix_tup (pv 3) pe_int (fun _ _ => rfl)) pa_nil)) (pg_tup (by rfl) (pgs_cons (pg_name (i := 6) scWs.nd rfl (.inl rfl)) (pgs_cons (pg_name (i := 7) scWs.nd rfl (.inl rfl)) pgs_nil)))
          (pss_one (ps_for PassesOwn.never rfl (pi_tup (pe_ix ix_tup (pv 7) pe_int (fun _ _ => rfl))) (pg_name (i := 8) scWs.nd rfl (Or.inl rfl))
            (pss_one (ps_dput (u1 hr) (pv 5) (pv 8) (pv 6) (by rfl))))))
        (pss_cons (ps_if (pt_cmpR (op_neNil hr.units0)
            (pe_lc (own := [("_law_tie", 9)]) (g := gName 9) rfl scWs.nd (pi_list (pv 4)) (blkOk_by (own := [("_law_tie", 9)]) (N := NWs) (sc := defScope sSo) (by decide +kernel))
              (fun _ _ _ _ _ => pg_name (i := 9) scWs.nd rfl (Or.inl rfl))
              (fun _ _ _ _ _ => pts_one (pt_cmpR op_gt (pe_dget (u1 hr) (pv 5) (pe_ix (ix_tupK (K := K) rfl) (pv 9) pe_int (fun _ _ => rfl)) (fun _ _ => rfl)) (pe_dget (u1 hr) (pv 5) (pe_ix (ix_tupK (K := K) rfl) (pv 9) pe_int (fun _ _ => rfl)) (fun _ _ => rfl)) (nomark _)))
              (fun _ _ _ _ _ => pv 9)) (pe_lst pa_nil) (nomark _)) (pss_one (ps_ret pe_bl)) pss_nil)
        (pss_one (ps_ret (pe_cmpR (op_eqNil hr.units0)
            (pe_lc (own := [("_law_part", 7)]) (g := gName 7) rfl scWs.nd (pi_tup (pe_ix ix_tup (pv 3) pe_int (fun _ _ => rfl))) (blkOk_by (own := [("_law_part", 7)]) (N := NWs) (sc := defScope sSo) (by decide +kernel))
              (fun _ _ _ _ _ => pg_name (i := 7) scWs.nd rfl (Or.inl rfl))
              (fun _ _ _ _ _ => pts_one (pt_not (pt_val (pe_call IH.ok hr (by rfl) IH.g IH.kp IH.bd .nil pass0 (pa_cons (pe_callTy (call_list_ofK (K := K) rfl) (by rfl) ml (by decide +kernel) (pa_cons (pe_ix (ix_tupK (K := K) rfl) (pv 7) pe_int (fun _ _ => rfl)) pa_nil)) (pa_cons (pv 4) (pa_cons (pv 2) (pa_cons (pe_ix (ix_tupK (K := K) rfl) (pv 7) pe_int (fun _ _ => rfl)) pa_nil))))))))
              (fun _ _ _ _ _ => pv 7)) (pe_lst pa_nil) (nomark _))))))))), ?_⟩
      have ul := tu.len
      refine ⟨_, rfl, T, rfl, ⟨_, SqL.of hT⟩, fun I hI => ?_⟩
      refine lc_list (K := K) (xs := us) (fun j H' => Same H H' ∧ ∃ ws, H' I = some (.lst ws) ∧ Ties H' ws ((ts.take j).filter (tIn es))) ⟨same_new hI, [], upd_same, .nil⟩ (fun j H' _ hp => SqL.of (hp.1 _ _ hT)) (fun j x H2 hx hp => ?_) (fun H2 hp => ?_)
      · obtain ⟨s2, ws, d2, tw⟩ := hp
        have jl := (List.getElem?_eq_some_iff.mp hx).1
        obtain ⟨t, l, a, b, ls, rfl, et, ht, hl⟩ := tu.at hx
        have tf := take_filter (p := tIn es) et
        have wl := tw.len
        have wl2 := List.length_filter_le (tIn es) (ts.take j)
        rw [List.length_take] at wl2
        refine ⟨rfl, ?_⟩
        have tv : tIn es (a, b, ls) = (decide (a ∈ es) && decide (b ∈ es)) := rfl
        rw [tf, tv]
        have ev : ∀ x : Nat, (if false = true then !inV (.int (x : Nat)) (es.map vI) else inV (.int (x : Nat)) (es.map vI)) = decide (x ∈ es) := fun x => inV_ints
        refine ⟨_, rfl, t, _, 0, _, rfl, rfl, SqT.of (s2 _ _ ht), atI_nat (j := 0) rfl, _, rfl, E', _, rfl, .inl (SqL.of (s2 _ _ hE)), rfl, flat_ints, _, rfl, ?_⟩
        by_cases ca : a ∈ es
        · refine iteP ((ev a).trans (decide_eq_true ca)) ⟨_, rfl, t, _, 1, _, rfl, rfl, SqT.of (s2 _ _ ht), atI_nat (j := 1) rfl, _, rfl, E', _, rfl, .inl (SqL.of (s2 _ _ hE)), rfl, flat_ints, _, rfl, ?_⟩
          by_cases cb : b ∈ es
          · refine iteP ((ev b).trans (decide_eq_true cb)) ⟨_, rfl, ws, d2, small1000 (by omega), keep_new hI s2, ws ++ [.ref t], upd_same, ?_⟩
            rw [decide_eq_true ca, decide_eq_true cb, Bool.true_and, if_pos rfl]
            exact (tw.app (.cons (s2 _ _ ht) (s2 _ _ hl) .nil)).tk (tk_lst d2)
          · refine iteN ((ev b).trans (decide_eq_false cb)) ⟨s2, ws, d2, ?_⟩
            rw [decide_eq_false cb, Bool.and_false, if_neg (by decide), List.append_nil]
            exact tw
        · refine iteN ((ev a).trans (decide_eq_false ca)) (iteF ⟨s2, ws, d2, ?_⟩)
          rw [decide_eq_false ca, Bool.false_and, if_neg (by decide), List.append_nil]
          exact tw
      obtain ⟨s1, ws, d1, tw⟩ := hp
      rw [ul, List.take_length] at tw
      have wl := tw.len
      have fl := List.length_filter_le (tIn es) ts
      have inn : ∀ t ∈ ts.filter (tIn es), t.1 ∈ es ∧ t.2.1 ∈ es := fun t' ht' => by
        have := (List.mem_filter.mp ht').2
        unfold tIn at this
        rw [Bool.and_eq_true] at this
        exact ⟨of_decide_eq_true this.1, of_decide_eq_true this.2⟩
      generalize ts.filter (tIn es) = ti at *
      refine ⟨_, rfl, by show 1 ≤ sizeLine; decide, fun Z hZ => ?_⟩
      have s2 := s1.trans (same_new (o := .tup [.str "none"]) hZ)
      have s12 := same_new (o := .tup [.str "none"]) hZ
      have eZ : upd H2 Z (.tup [.str "none"]) Z = some (.tup [.str "none"]) := upd_same
      generalize upd H2 Z (.tup [.str "none"]) = H3 at *
      have d3 := s12 _ _ d1
      have tw3 := tw.tk (tk_same s12)
      have dn : Dp K H3 (.ref Z) dNone := .tup (SqT.of eZ) (.cons (.str _) .nil)
      have sn : SeqAt.shaped dNone = true := (Sf.pl1 (Sf.pl_str (by decide +kernel))).shaped (by decide)
      refine ⟨d, dNone, dp_mono s2 hv, dn, ok.shaped (by decide), sn, _, rfl, ?_⟩
      cases gw with
      | none =>
        rw [show PyData.eqv dNone dNone = true from SeqAt.eqv_refl _ (sm_lay _ ok.1)]
        refine iteT ⟨_, rfl, by show 0 ≤ sizeLine; decide, fun Y hY => ?_⟩
        have s3 := same_new (o := .lst []) hY
        refine ⟨I, Y, _, rfl, rfl, SqL.of (s3 _ _ d3), SqL.of upd_same, ?_⟩
        have e : whyB m es ti dNone = decide (ws.length = 0) := whyB_eq (by
          rw [decide_eq_true_iff, why_none, wl, List.length_eq_zero_iff])
        rw [← e]
        exact q _ (s2.trans s3)
      | @lot _ lot lt =>
        have e : PyData.eqv (dLot lot) dNone = false := by simp [dLot, dNone, PyData.eqv, PyData.eqvAll]
        rw [e]
        refine iteF ?_
        obtain ⟨a, xs, ds, rfl, ed, ha, al⟩ := dp_tup (dp_mono s2 hv) rfl
        cases ed
        obtain ⟨v0, v1, rfl, hv0, hv1⟩ := dpA_pair al
        cases hv0
        cases hv1
        refine ⟨_, rfl, a, _, 0, _, rfl, rfl, ha, atI_nat (j := 0) rfl, rfl, _, rfl, iteP rfl ?_⟩
        refine ⟨_, rfl, I, rfl, ⟨_, SqL.of d3⟩, fun D hD => ?_⟩
        refine lc_list (K := K) (xs := ws) (fun j H' => Same H3 H' ∧ ∃ vs, H' D = some (.lst vs) ∧ vs.length = ((ti.take j).filter fun t => decide (lot ∈ t.2.2)).length) ⟨same_new hD, [], upd_same, rfl⟩ (fun j H' _ hp => SqL.of (hp.1 _ _ d3)) (fun j x H4 hx hp => ?_) (fun H4 hp => ?_)
        · obtain ⟨s4, vs, d4, vl⟩ := hp
          have jl := (List.getElem?_eq_some_iff.mp hx).1
          obtain ⟨t, l, a', b', ls, rfl, et, ht, hl⟩ := tw3.at hx
          have vl2 := List.length_filter_le (fun t : Tie => decide (lot ∈ t.2.2)) (ti.take j)
          rw [List.length_take] at vl2
          rw [take_filter (p := fun t : Tie => decide (lot ∈ t.2.2)) et]
          have ev : (if false = true then !inV (.int (lot : Nat)) (ls.map vI) else inV (.int (lot : Nat)) (ls.map vI)) = decide (lot ∈ ls) := inV_ints
          refine ⟨rfl, ?_⟩
          refine ⟨_, rfl, a, _, 1, _, rfl, rfl, same_tup s4 ha, atI_nat (j := 1) rfl, _, rfl, t, _, 2, _, rfl, rfl, SqT.of (s4 _ _ ht), atI_nat (j := 2) rfl, l, _, rfl, .inr (SqT.of (s4 _ _ hl)), rfl, flat_ints, _, rfl, ?_⟩
          by_cases c : lot ∈ ls
          · refine iteP (ev.trans (decide_eq_true c)) ⟨_, rfl, vs, d4, small1000 (by omega), keep_new hD s4, vs ++ [.ref t], upd_same, ?_⟩
            rw [if_pos (decide_eq_true c), List.length_append, List.length_append, vl]
            rfl
          · refine iteN (ev.trans (decide_eq_false c)) ⟨s4, vs, d4, ?_⟩
            rw [if_neg (by rw [decide_eq_false c]; decide), List.append_nil]
            exact vl
        obtain ⟨s4, vs, d4, vl⟩ := hp
        rw [wl, List.take_length] at vl
        refine ⟨by show 0 ≤ sizeLine; decide, fun Y hY => ?_⟩
        have s5 := same_new (o := .lst []) hY
        refine ⟨D, Y, _, rfl, rfl, SqL.of (s5 _ _ d4), SqL.of upd_same, ?_⟩
        have e : whyB m es ti (dLot lot) = decide (vs.length = 0) := whyB_eq (by
          rw [decide_eq_true_iff, why_lot, vl, List.length_eq_zero_iff, List.filter_eq_nil_iff]
          constructor
          · exact fun h => ⟨lt, fun t ht z => h t ht (decide_eq_true z)⟩
          · exact fun h t ht z => h.2 t ht (of_decide_eq_true z))
        rw [← e]
        exact q _ ((s2.trans s4).trans s5)
      | @parts _ qs ri pm gq =>
        have e : PyData.eqv (dWhy qs) dNone = false := by simp [dWhy, dNone, PyData.eqv, PyData.eqvAll]
        rw [e]
        refine iteF ?_
        obtain ⟨a, xs, ds, rfl, ed, ha, al⟩ := dp_tup (dp_mono s2 hv) rfl
        cases ed
        obtain ⟨v0, v1, rfl, hv0, hv1⟩ := dpA_pair al
        cases hv0
        obtain ⟨p, ys, ds', rfl, ed, hp, wh⟩ := dp_tup hv1 rfl
        cases ed
        have yl : ys.length = qs.length := by rw [dpA_len wh, List.length_map]
        have ql : qs.length ≤ 30 := by
          obtain ⟨_, o1⟩ := ok.of_tup
          obtain ⟨o2, _⟩ := (o1 (.tuple (qs.map dPart)) (by simp)).of_tup
          rwa [List.length_map] at o2
        refine ⟨_, rfl, a, _, 0, _, rfl, rfl, ha, atI_nat (j := 0) rfl, rfl, _, rfl, iteN rfl ?_⟩
        -- places
        refine fun Dp' hDp => ?_
        have s4 := same_new (o := .dK []) hDp
        have eD4 : upd H3 Dp' (.dK []) Dp' = some (.dK []) := upd_same
        have hDp0 := hDp
        refine ⟨_, rfl, a, _, 1, _, rfl, rfl, same_tup s4 ha, atI_nat (j := 1) rfl, p, _, rfl, same_tup s4 hp, ?_⟩
        obtain ⟨dis, pnd, plt⟩ := apart_of end' elt pm
        have rss : ∀ (i : Nat) (qq : List Nat × PyData), qs[i]? = some qq → (qs.map (·.1))[i]? = some qq.1 := fun i qq e => by rw [List.getElem?_map, e]; rfl
        have pl0 : (qs.map (·.1)).length = qs.length := List.length_map ..
        have hom : ∀ x ∈ es, ∃ (i : Nat) (p : List Nat), (qs.map (·.1))[i]? = some p ∧ x ∈ p := fun x hx => by
          obtain ⟨p', hp', hx'⟩ := List.mem_flatten.mp (pm.mem_iff.mpr hx)
          obtain ⟨i, hi⟩ := List.mem_iff_getElem?.mp hp'
          exact ⟨i, p', hi, hx'⟩
        have po : (∀ t ∈ ti, Up (qs.map (·.1)) t) → PartsOk (dWhy qs) es ti qs := fun up => ⟨rfl, ri, pm, up⟩
        have pno : ∀ qs', PartsOk (dWhy qs) es ti qs' → ∀ t ∈ ti, Up (qs.map (·.1)) t := fun qs' h => by
          rw [dWhy_inj h.fm]
          exact h.up
        generalize hps : qs.map (·.1) = ps at *
        have bound : ∀ {hs : List (Nat × Nat)}, (hs.map (·.1)).Nodup → (∀ x a, (x, a) ∈ hs → ∃ p ∈ ps, x ∈ p) → hs.length ≤ 900 := fun {hs} nd h => by
          have := pigl (es := List.range 900) nd fun x hx => by
            obtain ⟨p, hp, rfl⟩ := List.mem_map.mp hx
            obtain ⟨pp, h1, h2⟩ := h p.1 p.2 hp
            exact List.mem_range.mpr (plt pp h1 p.1 h2)
          rw [List.length_range, List.length_map] at this
          exact this
        refine walkF (J := ItE K p) (n := qs.length) (fun i σ H' => ∃ (x6 x7 x8 : Option V) (hs : List (Nat × Nat)), σ = [some (.ref E'), some (.ref T), some (.int m), some (.ref a), some (.ref I), some (.ref Dp'), x6, x7, x8, none] ∧ Same H3 H' ∧ H' Dp' = some (.dK (hs.map kvN)) ∧ (hs.map (·.1)).Nodup ∧ ∀ x a, (x, a) ∈ hs ↔ a < i ∧ ∃ p, ps[a]? = some p ∧ x ∈ p)
          ⟨_, _, _, [], rfl, s4, eD4, List.nodup_nil, fun x a => ⟨fun z => absurd z List.not_mem_nil, fun z => absurd z.1 (Nat.not_lt_zero _)⟩⟩ (fun i σ H' hi hp' => ?_) (fun σ H' hp' => ?_) (fun i x σ H6 H6' hi hp' hy => ?_) (fun σ H6 hp' => ?_)
        · obtain ⟨_, _, _, _, _, sm, _⟩ := hp'
          exact ⟨_, _, same_tup sm hp, List.getElem?_eq_getElem (by omega)⟩
        · obtain ⟨_, _, _, _, _, sm, _⟩ := hp'
          exact ⟨_, same_tup sm hp, by omega⟩
        · obtain ⟨x6, x7, x8, hs, rfl, s6, e6, nd, hk⟩ := hp'
          obtain ⟨t0, v, rfl, ht0, rfl, hy⟩ := hy
          obtain ⟨qq, eq, t, b, c0, rfl, ht, hb, hc⟩ := parts_at wh (hy _ (same_tup s6 hp))
          have ep := rss i qq eq
          have s7 := s6.trans (same_new (o := .tup [.int (i : Nat), .ref t]) ht0)
          have e7 := same_new (o := .tup [.int (i : Nat), .ref t]) ht0 _ _ e6
          have et : upd H6 t0 (.tup [.int (i : Nat), .ref t]) t0 = some (.tup [.int (i : Nat), .ref t]) := upd_same
          generalize upd H6 t0 (.tup [.int (i : Nat), .ref t]) = H7 at *
          refine ⟨t0, _, rfl, SqT.of et, rfl, _, _, rfl, _, _, rfl, rfl, ?_⟩
          refine ⟨_, rfl, t, _, 0, _, rfl, rfl, same_tup s7 ht, atI_nat (j := 0) rfl, b, rfl, ⟨_, same_tup s7 hb⟩, ?_⟩
          have mp : (qq.1.map vI).length = qq.1.length := List.length_map ..
          have pm' : qq.1 ∈ ps := List.mem_of_getElem? ep
          generalize qq.1 = pp at *
          refine walkF (J := Itt K b) (n := pp.length) (fun j σ H' => ∃ (x8 : Option V) (hs : List (Nat × Nat)), σ = [some (.ref E'), some (.ref T), some (.int m), some (.ref a), some (.ref I), some (.ref Dp'), some (.int (i : Nat)), some (.ref t), x8, none] ∧ Same H3 H' ∧ H' Dp' = some (.dK (hs.map kvN)) ∧ (hs.map (·.1)).Nodup ∧ ∀ x b, (x, b) ∈ hs ↔ (b < i ∧ ∃ p, ps[b]? = some p ∧ x ∈ p) ∨ (b = i ∧ x ∈ pp.take j))
            ⟨_, hs, rfl, s7, e7, nd, fun x b => by rw [hk, List.take_zero]; simp⟩ (fun j σ H' hj hp' => ?_) (fun σ H' hp' => ?_) (fun j x σ H8 H8' hj hp' hy => ?_) (fun σ H8 hp' => ?_)
          · obtain ⟨_, _, _, sm, _⟩ := hp'
            exact ⟨_, _, same_tup sm hb, List.getElem?_eq_getElem (by rw [mp]; exact hj)⟩
          · obtain ⟨_, _, _, sm, _⟩ := hp'
            exact ⟨_, same_tup sm hb, by rw [mp]; exact Nat.le_refl _⟩
          · obtain ⟨x8, hs3, rfl, s8, e3, nd3, hk3⟩ := hp'
            obtain ⟨rfl, hy⟩ := hy
            have hx := hy _ (same_tup s8 hb)
            have ej : pp[j]? = some pp[j] := List.getElem?_eq_getElem hj
            rw [List.getElem?_map, ej] at hx
            cases hx
            have new : pp[j] ∉ hs3.map (·.1) := fun z => by
              obtain ⟨q', hq, e⟩ := List.mem_map.mp z
              obtain ⟨x', b'⟩ := q'
              have e : x' = pp[j] := e
              subst e
              rcases (hk3 _ b').mp hq with ⟨h1, p', h2, h3⟩ | ⟨_, h⟩
              · have := dis b' i p' pp _ h2 ep h3 (List.getElem_mem hj)
                omega
              · have nd' : (pp.take (j + 1)).Nodup := (pnd pp pm').sublist (List.take_sublist _ _)
                rw [List.take_add_one, ej, Option.toList_some, List.nodup_append] at nd'
                exact nd'.2.2 _ h _ (List.mem_singleton.mpr rfl) rfl
            have tkj : ∀ x, x ∈ pp.take (j + 1) ↔ x ∈ pp.take j ∨ x = pp[j] := fun x => by
              rw [List.take_add_one, ej, Option.toList_some, List.mem_append, List.mem_singleton]
            have l3 := bound nd3 fun x b h => by
              rcases (hk3 x b).mp h with ⟨_, p', h2, h3⟩ | ⟨_, h⟩
              · exact ⟨p', List.mem_of_getElem? h2, h3⟩
              · exact ⟨pp, pm', List.mem_of_mem_take h⟩
            refine ⟨_, rfl, _, rfl, _, rfl, Dp', _, rfl, DPut.k (k := .inl ((pp[j] : Nat) : Int)) e3 (by rw [List.length_map]; exact small1000 (by omega)), ?_⟩
            refine ⟨_, hs3 ++ [(pp[j], i)], rfl, keep_new hDp s8, ?_, ?_, fun x b => ?_⟩
            · rw [upd_same]
              exact congrArg (fun z => some (HO.dK z)) (put_kn new)
            · rw [List.map_append, List.nodup_append]
              refine ⟨nd3, List.nodup_cons.mpr ⟨List.not_mem_nil, List.nodup_nil⟩, fun a' ha' b' hb' e => ?_⟩
              have : b' = pp[j] := by simpa using hb'
              rw [this] at e
              exact new (e ▸ ha')
            · rw [List.mem_append, List.mem_singleton, hk3, tkj]
              constructor
              · rintro ((h | ⟨h1, h2⟩) | e)
                · exact .inl h
                · exact .inr ⟨h1, .inl h2⟩
                · cases e
                  exact .inr ⟨rfl, .inr rfl⟩
              · rintro (h | ⟨h1, h2 | h2⟩)
                · exact .inl (.inl h)
                · exact .inl (.inr ⟨h1, h2⟩)
                · subst h1
                  subst h2
                  exact .inr rfl
          · obtain ⟨x8, hs3, rfl, s8, e3, nd3, hk3⟩ := hp'
            rw [List.take_length] at hk3
            refine ⟨_, _, _, hs3, rfl, s8, e3, nd3, fun x b => ?_⟩
            rw [hk3]
            constructor
            · rintro (⟨h1, h2⟩ | ⟨h1, h2⟩)
              · exact ⟨by omega, h2⟩
              · subst h1
                exact ⟨Nat.lt_succ_self _, pp, ep, h2⟩
            · rintro ⟨h1, p', h2, h3⟩
              by_cases e : b = i
              · subst e
                rw [ep] at h2
                cases h2
                exact .inr ⟨rfl, h3⟩
              · exact .inl ⟨by omega, p', h2, h3⟩
        obtain ⟨x6, x7, x8, hs, rfl, s6, e6, nd, hk⟩ := hp'
        have hk : ∀ x a, (x, a) ∈ hs ↔ ∃ p, ps[a]? = some p ∧ x ∈ p := fun x a => by
          rw [hk]
          exact ⟨fun z => z.2, fun ⟨p', h1, h2⟩ => ⟨by have := (List.getElem?_eq_some_iff.mp h1).1; omega, p', h1, h2⟩⟩
        -- ties that lead back
        have d6 := s6 _ _ d3
        have tw6 := tw3.tk (tk_same s6)
        refine ⟨_, rfl, I, rfl, ⟨_, SqL.of d6⟩, fun D hD => ?_⟩
        refine lc_list (K := K) (xs := ws) (fun j H' => Same H6 H' ∧ ∃ vs, H' D = some (.lst vs) ∧ vs.length ≤ j ∧ (vs.length = 0 ↔ ∀ t ∈ ti.take j, Up ps t)) ⟨same_new hD, [], upd_same, Nat.le_refl _, ⟨fun _ t ht => by rw [List.take_zero] at ht; exact absurd ht List.not_mem_nil, fun _ => rfl⟩⟩ (fun j H' _ hp => SqL.of (hp.1 _ _ d6)) (fun j x H7 hx hp' => ?_) (fun H7 hp' => ?_)
        · obtain ⟨s7, vs, d7, vl, vz⟩ := hp'
          have jl := (List.getElem?_eq_some_iff.mp hx).1
          obtain ⟨t, l, a', b', ls, rfl, et, ht, hl⟩ := tw6.at hx
          have get : ∀ y : Nat, DGet H7 Dp' (.int (y : Nat)) (valV (hs.map kvN) (.inl (y : Int))) := fun y => (show DGet H7 Dp' (kV (Sum.inl (y : Int))) _ from DGet.k (s7 _ _ e6))
          obtain ⟨ta, tb⟩ := inn _ (List.mem_of_getElem? et)
          obtain ⟨ia, pa, ea, ma'⟩ := hom _ ta
          obtain ⟨ib, pb, eb, mb'⟩ := hom _ tb
          have ga := get a'
          rw [val_kn nd ((hk _ ia).mpr ⟨pa, ea, ma'⟩)] at ga
          have gb := get b'
          rw [val_kn nd ((hk _ ib).mpr ⟨pb, eb, mb'⟩)] at gb
          have ut : Up ps (a', b', ls) ↔ ia ≤ ib := by
            constructor
            · rintro ⟨i', j', p', q', h1, h2, h3, h4, h5⟩
              have := dis i' ia p' pa _ h1 ea h3 ma'
              have := dis j' ib q' pb _ h2 eb h4 mb'
              omega
            · exact fun h => ⟨ia, ib, pa, pb, ea, eb, ma', mb', h⟩
          have tk1 : ti.take (j + 1) = ti.take j ++ [(a', b', ls)] := by rw [List.take_add_one, et, Option.toList_some]
          refine ⟨rfl, ?_⟩
          refine ⟨_, rfl, _, rfl, t, _, 0, _, rfl, rfl, SqT.of (s7 _ _ ht), atI_nat (j := 0) rfl, Dp', _, rfl, ga, ?_⟩
          refine ⟨_, rfl, _, rfl, t, _, 1, _, rfl, rfl, SqT.of (s7 _ _ ht), atI_nat (j := 1) rfl, Dp', _, rfl, gb, ?_⟩
          refine ⟨_, _, rfl, rfl, _, rfl, ?_⟩
          rw [tk1]
          by_cases c : ib < ia
          · refine iteP (decide_eq_true (by omega)) ⟨_, rfl, vs, d7, small1000 (by omega), keep_new hD s7, vs ++ [.ref t], upd_same, by rw [List.length_append]; exact Nat.succ_le_succ vl, ?_⟩
            rw [List.length_append]
            constructor
            · intro z
              exact absurd z (Nat.succ_ne_zero _)
            · intro z
              have := ut.mp (z _ (List.mem_append.mpr (.inr (List.mem_singleton.mpr rfl))))
              omega
          · refine iteN (decide_eq_false (by omega)) ⟨s7, vs, d7, by omega, ?_⟩
            rw [vz]
            constructor
            · intro z t' ht'
              rcases List.mem_append.mp ht' with h | h
              · exact z t' h
              · rw [List.mem_singleton.mp h]
                exact ut.mpr (by omega)
            · exact fun z t' ht' => z t' (List.mem_append.mpr (.inl ht'))
        obtain ⟨s7, vs, d7, vl, vz⟩ := hp'
        rw [wl, List.take_length] at vz
        refine ⟨by show 0 ≤ sizeLine; decide, fun Y hY => ?_⟩
        have s8 := same_new (o := .lst []) hY
        refine ⟨D, Y, _, rfl, rfl, SqL.of (s8 _ _ d7), SqL.of upd_same, _, rfl, ?_⟩
        have s28 := s6.trans (s7.trans s8)
        by_cases c : 0 < vs.length
        · refine iteP (decide_eq_true c) ?_
          have e : whyB m es ti (dWhy qs) = false := whyB_eq ⟨fun z => absurd z (by decide), fun z => by
            generalize ed : dWhy qs = dd' at z
            cases z with
            | none => exact absurd ed.symm fun z => dWhy_none z
            | lot _ _ => exact absurd ed.symm fun z => dWhy_lot z
            | parts h _ =>
              subst ed
              have := vz.mpr (pno _ h)
              omega⟩
          rw [e] at q
          exact q _ (s2.trans s28)
        refine iteN (decide_eq_false c) ?_
        have PO := po (vz.mp (by omega))
        generalize upd H7 Y (.lst []) = H8 at *
        -- each part
        have ha8 := same_tup s28 ha
        have hp8 := same_tup s28 hp
        have wh8 := dpA_mono s28 wh
        have d8 := s28 _ _ d3
        have tw8 := tw3.tk (tk_same s28)
        refine ⟨_, rfl, a, _, 1, _, rfl, rfl, ha8, atI_nat (j := 1) rfl, p, rfl, ⟨_, hp8⟩, fun D2 hD2 => ?_⟩
        refine lc_tup (K := K) (xs := ys) (fun j H' => Same H8 H' ∧ ∃ vs, H' D2 = some (.lst vs) ∧ vs.length ≤ j ∧ (vs.length = 0 ↔ ∀ q ∈ qs.take j, WhyP m q.1 (ti.filter (tIn q.1)) q.2)) ⟨same_new hD2, [], upd_same, Nat.le_refl _, ⟨fun _ t ht => by rw [List.take_zero] at ht; exact absurd ht List.not_mem_nil, fun _ => rfl⟩⟩ (fun j H' _ hp => same_tup hp.1 hp8) (fun j x H9 hx hp' => ?_) (fun H9 hp' => ?_)
        · obtain ⟨s9, vs', d9, vl', vz'⟩ := hp'
          have jl := (List.getElem?_eq_some_iff.mp hx).1
          obtain ⟨qq, eq, t, b, c0, rfl, ht, hb, hc⟩ := parts_at wh8 hx
          have qm := List.mem_of_getElem? eq
          have dq := dWhy_depth qm
          obtain ⟨n, rfl⟩ : ∃ n', n = n' + 1 := ⟨n - 1, by omega⟩
          have sub : ∀ x ∈ qq.1, x ∈ es := fun x hx => pm.mem_iff.mp (List.mem_flatten.mpr ⟨qq.1, by rw [← hps]; exact List.mem_map.mpr ⟨qq, qm, rfl⟩, hx⟩)
          have qnd : qq.1.Nodup := pnd _ (by rw [← hps]; exact List.mem_map.mpr ⟨qq, qm, rfl⟩)
          have q30 : qq.1.length ≤ 30 := by
            have := pigl (es := es) qnd sub
            omega
          have tk1 : qs.take (j + 1) = qs.take j ++ [qq] := by rw [List.take_add_one, eq, Option.toList_some]
          refine ⟨rfl, ?_⟩
          refine ⟨_, rfl, t, _, 0, _, rfl, rfl, same_tup s9 ht, atI_nat (j := 0) rfl, b, _, rfl, .inr (same_tup s9 hb), fun L hL => ?_⟩
          have s10 := same_new (o := .lst (qq.1.map vI)) hL
          have s910 := s9.trans s10
          refine ⟨_, rfl, _, rfl, _, rfl, t, _, 1, _, rfl, rfl, same_tup s910 ht, atI_nat (j := 1) rfl, L, I, c0, qq.2, m, qq.1, ws, ti, rfl, upd_same, q30, qnd, fun x hx => elt x (sub x hx), s910 _ _ d8, tw8.tk (tk_same s910), by omega, dp_mono s910 hc, okd_part qm ok, by omega, gq qq qm, fun H11 s11 => ⟨_, rfl, ?_⟩⟩
          have s811 := s910.trans s11
          have d11 := (s10.trans s11) _ _ d9
          rw [tk1]
          cases hw : whyB m qq.1 (ti.filter (tIn qq.1)) qq.2 with
          | true =>
            refine iteF ⟨s811, vs', d11, by omega, ?_⟩
            rw [vz']
            constructor
            · intro z q' hq'
              rcases List.mem_append.mp hq' with h | h
              · exact z q' h
              · rw [List.mem_singleton.mp h]
                exact whyB_iff.mp hw
            · exact fun z q' hq' => z q' (List.mem_append.mpr (.inl hq'))
          | false =>
            refine iteT ⟨_, rfl, vs', d11, small1000 (by omega), keep_new hD2 s811, vs' ++ [.ref t], upd_same, by rw [List.length_append]; exact Nat.succ_le_succ vl', ?_⟩
            rw [List.length_append]
            constructor
            · intro z
              exact absurd z (Nat.succ_ne_zero _)
            · intro z
              have := whyB_iff.mpr (z qq (List.mem_append.mpr (.inr (List.mem_singleton.mpr rfl))))
              rw [hw] at this
              cases this
        obtain ⟨s9, vs', d9, vl', vz'⟩ := hp'
        rw [yl, List.take_length] at vz'
        refine ⟨by show 0 ≤ sizeLine; decide, fun Y2 hY2 => ?_⟩
        have s10 := same_new (o := .lst []) hY2
        refine ⟨D2, Y2, _, rfl, rfl, SqL.of (s10 _ _ d9), SqL.of upd_same, ?_⟩
        have e : whyB m es ti (dWhy qs) = decide (vs'.length = 0) := whyB_eq (by
          rw [decide_eq_true_iff, vz', why_parts PO])
        rw [← e]
        exact q _ (s2.trans (s28.trans (s9.trans s10)))
end
end W35

namespace W35
open PySem PySem.Spec PyProof.Rows L2 Gs Gp Gr Dw
/-! ### data of tuples, numbers and texts, which outlives draws -/
mutual
inductive Dt (K : PySem.W.Frag) (H : Hp) : V → PyData → Prop
  | bl (b : Bool) : Dt K H (.bl b) (.bool b)
  | int (i : Int) : Dt K H (.int i) (.int i)
  | str (x : Str) : Dt K H (.str x) (.str x)
  | tup {a : Addr} {xs : List V} {ds : List PyData} : H a = some (.tup xs) ∨ (∀ H' : Hp, SqT K H' a xs) → DtAll K H xs ds → Dt K H (.ref a) (.tuple ds)
inductive DtAll (K : PySem.W.Frag) (H : Hp) : List V → List PyData → Prop
  | nil : DtAll K H [] []
  | cons {v : V} {vs : List V} {d : PyData} {ds : List PyData} : Dt K H v d → DtAll K H vs ds → DtAll K H (v :: vs) (d :: ds)
end
section
variable {K : PySem.W.Frag} {H H' : Hp}
mutual
theorem Dt.tk (s : TK H H') : ∀ {v : V} {d : PyData}, Dt K H v d → Dt K H' v d
  | _, _, .bl b => .bl b
  | _, _, .int i => .int i
  | _, _, .str x => .str x
  | _, _, .tup (.inl h) r => .tup (.inl (s _ _ h)) (DtAll.tk s r)
  | _, _, .tup (.inr h) r => .tup (.inr h) (DtAll.tk s r)
theorem DtAll.tk (s : TK H H') : ∀ {vs : List V} {ds : List PyData}, DtAll K H vs ds → DtAll K H' vs ds
  | _, _, .nil => .nil
  | _, _, .cons h r => .cons (Dt.tk s h) (DtAll.tk s r)
end
mutual
theorem Dt.dp : ∀ {v : V} {d : PyData}, Dt K H v d → Dp K H v d
  | _, _, .bl b => .bl b
  | _, _, .int i => .int i
  | _, _, .str x => .str x
  | _, _, .tup (.inl h) r => .tup (SqT.of h) (DtAll.dp r)
  | _, _, .tup (.inr h) r => .tup (h H) (DtAll.dp r)
theorem DtAll.dp : ∀ {vs : List V} {ds : List PyData}, DtAll K H vs ds → DpAll K H vs ds
  | _, _, .nil => .nil
  | _, _, .cons h r => .cons (Dt.dp h) (DtAll.dp r)
end
theorem DtAll.len : ∀ {vs : List V} {ds : List PyData}, DtAll K H vs ds → vs.length = ds.length
  | _, _, .nil => rfl
  | _, _, .cons _ r => congrArg (· + 1) r.len
theorem DtAll.app : ∀ {vs ws : List V} {ds es : List PyData}, DtAll K H vs ds → DtAll K H ws es → DtAll K H (vs ++ ws) (ds ++ es)
  | _, _, _, _, .nil, h => h
  | _, _, _, _, .cons h r, h2 => .cons h (r.app h2)
theorem dt_ints : ∀ p : List Nat, DtAll K H (p.map vI) (p.map dI)
  | [] => .nil
  | x :: p => .cons (.int _) (dt_ints p)
end
theorem call_len_seqK {X : Cx} {K : PySem.W.Frag} (hk : X.K = K) : CallR X (.builtin "len") (fun vs H Q => ∃ a xs, vs = [V.ref a] ∧ (SqL K H a xs ∨ SqT K H a xs) ∧ Q (.int xs.length) H) := by
  subst hk
  exact call_len_seq
theorem pe_bmK {X : Cx} {K : PySem.W.Frag} {T name id : String} {o e : Expr} {es : List Expr} {to : TE} {t : TA} {r : V → List V → Hp → VK → Prop} {apos cpos : Pos} (hk : X.K = K) (pa : PlainAttrs T) (slot : Slot T name id) (hty : typeOf (.builtin id) = pure (.type "method_descriptor")) (hm : MtR X id r) (ho : PE X o to) (ha : PA X (e :: es) t)
    (hbase : attributeBase o name X.env (eval o X.env) = eval o X.env := by rfl)
    (hfew : ((backTo cpos (starEach (e :: es) X.env)).all (fun x => !x.1) && (backToKw cpos (keywordEach [] X.env)).all (fun x => x.1.isSome)
      && decide ((e :: es).length + ([] : List Keyword).length + (if ([] : List Keyword).isEmpty then 0 else 1) < 30)) = true := by rfl)
    (hline : (apos.endLine == cpos.line) = true := by rfl) (hs : starEach (e :: es) X.env = (false, eval e X.env) :: starEach es X.env := by rfl) (hplain : (backTo cpos (starEach es X.env)).any (·.1) = false := by rfl) :
    PE X (.Call (.Attribute o name apos) (e :: es) [] cpos) (tBM K T r to t) := by
  subst hk
  exact pe_bm pa slot hty hm ho ha hbase hfew hline hs hplain
theorem andP {b c : Bool} {S A B : Prop} (hS : (if c = true then A else B) → S) (h : if (b && c) = true then A else B) : if b = true then S else (if false = true then A else B) := by
  cases b with
  | true => exact hS h
  | false => exact h
theorem rise_of {p : List Nat} (h1 : p.Pairwise (· ≤ ·)) (h2 : p.Nodup) : Rise p := fun i x y hx hy => by
  obtain ⟨l1, e1⟩ := List.getElem?_eq_some_iff.mp hx
  obtain ⟨l2, e2⟩ := List.getElem?_eq_some_iff.mp hy
  have a := (List.pairwise_iff_getElem.mp h1) i (i + 1) l1 l2 (Nat.lt_succ_self i)
  have b := (List.pairwise_iff_getElem.mp (show p.Pairwise (· ≠ ·) from h2)) i (i + 1) l1 l2 (Nat.lt_succ_self i)
  rw [e1, e2] at a b
  omega
theorem erase_map {α β : Type} (f : α → β) : ∀ (l : List α) (i : Nat), (l.map f).eraseIdx i = (l.eraseIdx i).map f
  | [], _ => rfl
  | _ :: _, 0 => rfl
  | a :: l, i + 1 => by
    rw [List.map_cons, List.eraseIdx_cons_succ, List.eraseIdx_cons_succ, List.map_cons, erase_map f l i]
theorem six_nat {i n : Nat} (h : i < n) : seqIndex? (i : Nat) n = some i := by
  unfold seqIndex?
  simp
  omega
theorem pop_perm {α : Type} {l : List α} {i : Nat} {x : α} (h : l[i]? = some x) : (x :: l.eraseIdx i).Perm l := by
  induction l generalizing i with
  | nil => simp at h
  | cons a l ih =>
    cases i with
    | zero =>
      cases h
      exact List.Perm.refl _
    | succ i =>
      rw [List.eraseIdx_cons_succ]
      exact (List.Perm.swap a x _).trans ((ih (i := i) h).cons a)
abbrev NDr : List Str := ["_law_pool_here", "_law_entries", "_law_many", "_law_deep", "_law_way", "_law_parts", "_law_left", "_law_some", "_law_turn"]
theorem scDrawn : FnScope NDr ["_law_pool_here", "_law_entries", "_law_many", "_law_deep"] (defScope sDrawn) := ⟨rfl, rfl, rfl, by decide +kernel, rfl, by decide +kernel, by decide +kernel⟩
def spDrawn (K : PySem.W.Frag) : Nat → Sp
  | 0 => fun _ _ _ _ => False
  | n + 1 => fun vs H Q _ => ∃ (p E : Addr) (m : Nat) (es : List Nat), vs = [.ref p, .ref E, .int m, .int (n : Nat)] ∧ Lf H p ∧ E ≠ p ∧ H E = some (.lst (es.map vI)) ∧ es.length ≤ 30 ∧ es.Nodup ∧ (∀ x ∈ es, x < 900) ∧ 0 < m ∧ m ≤ 100 ∧
    ∀ H' v d, Keep p H H' → Lf H' p → Dt K H' v d → GoodW m es d → Okd (3 * n + 1) d → Q v H'
section
variable {P : Program} {w : World} {K : PySem.W.Frag} {mg : Str → Option Value} {base : Heap} {f f1 f2 f3 aN : Addr} {fd d1 d2 d3 : FuncData} {k : Nat}
theorem ok_drawn (F : Fun K "_law_drawn_why" "_law_drawn_why" sDrawn f fd) (g : mg "_law_drawn_why" = some (.ref f)) (kp : PySem.W.keepIn K (.ref f) = true) (bd : Binds K fd ["_law_pool_here", "_law_entries", "_law_many", "_law_deep"] [])
    (TA : Cl P w K mg base CX0 k "_law_take" ["_law_pool_here", "_law_many"] spTake f1 d1) (ml : mg "list" = none) (mn : mg "len" = none) (ms : mg "sorted" = none) (mr : mg "range" = none) (mt : mg "tuple" = none) :
    ∀ n, FnOk P w K mg base CX0 (k + n + 1) f fd ["_law_pool_here", "_law_entries", "_law_many", "_law_deep"] (spDrawn K n) := by
  intro n
  induction n with
  | zero =>
    refine F.ok scDrawn (fun vs H Q E h => ?_) (fun cdv A outer s H vs Q E hr h => ?_)
    · exact absurd h id
    · exact absurd h id
  | succ n ih =>
    have IH : Cl P w K mg base CX0 (k + n + 1) "_law_drawn_why" ["_law_pool_here", "_law_entries", "_law_many", "_law_deep"] (spDrawn K n) f fd := ⟨g, ih, kp, bd⟩
    refine F.ok scDrawn (fun vs H Q E h => ?_) (fun cdv A outer s H vs Q E hr h => ?_)
    · obtain ⟨p, E', m, es, rfl, _⟩ := h
      rfl
    · obtain ⟨p, E', m, es, rfl, lf, Ep, hE, el, end', elt, m0', m100, q⟩ := h
      have rk := hr.mono (j := k) (by omega)
      refine ⟨_, pss_cons (ps_set (i := 4) scDrawn.nd rfl (.inl rfl) (pe_call TA.ok rk (by rfl) TA.g TA.kp TA.bd .nil pass0 (pa_cons (pv 0) (pa_cons pe_int pa_nil))))
        (pss_cons (ps_if (pt_cmpR op_eq (pv 4) pe_int (nomark _)) (pss_one (ps_ret (pe_tup (pa_cons pe_str pa_nil)))) pss_nil)
        (pss_cons (ps_if (PW.pt (pw_or (pt_cmpR op_eq (pv 4) pe_int (nomark _)) (pw_or1 (pt_cmpR op_eq (pv 3) pe_int (nomark _))))) (pss_one (ps_ret (pe_tup (pa_cons pe_str (pa_cons (pe_call TA.ok rk (by rfl) TA.g TA.kp TA.bd .nil pass0 (pa_cons (pv 0) (pa_cons (pv 2) pa_nil))) pa_nil))))) pss_nil)
        (pss_cons (ps_set (i := 5) scDrawn.nd rfl (.inl rfl) (pe_lst pa_nil))
        (pss_cons (ps_set (i := 6) scDrawn.nd rfl (.inr rfl) (pe_callTy call_list_of (by rfl) ml (by decide +kernel) (pa_cons (pv 1) pa_nil)))
        (pss_cons (ps_while PassesOwn.never (pt_cmpR (op_neNil hr.units0) (pv 6) (pe_lst pa_nil) (nomark _))
          (pss_cons (ps_set (i := 7) scDrawn.nd rfl (.inl rfl) (pe_callB cr_sortedI (by rfl) ms (by decide +kernel) (pa_cons
            (pe_lc (own := [("_law_turn", 8)]) (g := gName 8) (tt := tYes) rfl scDrawn.nd (pi_range1 (by rfl) mr (pa_cons (pe_op op_add pe_int (pe_call TA.ok rk (by rfl) TA.g TA.kp TA.bd .nil pass0 (pa_cons (pv 0) (pa_cons (pe_callB call_len_seq (by rfl) mn PySem.boot_len (pa_cons (pv 6) pa_nil)) pa_nil)))) pa_nil)) (blkOk_by (own := [("_law_turn", 8)]) (N := NDr) (sc := defScope sDrawn) (by decide +kernel))
              (fun _ _ _ _ _ => pg_name (i := 8) scDrawn.nd rfl (Or.inl rfl)) (fun _ _ _ _ _ => pts_nil)
              (fun _ _ _ _ _ => pe_bmK (K := K) rfl PySem.F.plainAttrs_list PySem.F.slot_list_pop PySem.F.type_list_pop mt_popAt (pv 6) (pa_cons (pe_call TA.ok rk (by rfl) TA.g TA.kp TA.bd .nil pass0 (pa_cons (pv 0) (pa_cons (pe_callB (call_len_seqK (K := K) rfl) (by rfl) mn PySem.boot_len (pa_cons (pv 6) pa_nil)) pa_nil))) pa_nil))) pa_nil)))
          (pss_one (ps_expr (pe_bm PySem.F.plainAttrs_list PySem.F.slot_list_append PySem.F.type_list_append mt_append (pv 5) (pa_cons (pe_tup (pa_cons (pe_callTy call_tuple_of (by rfl) mt (by decide +kernel) (pa_cons (pv 7) pa_nil)) (pa_cons (pe_call IH.ok hr (by rfl) IH.g IH.kp IH.bd .nil pass0 (pa_cons (pv 0) (pa_cons (pv 7) (pa_cons (pv 2) (pa_cons (pe_op op_sub (pv 3) pe_int) pa_nil))))) pa_nil))) pa_nil))))))
        (pss_one (ps_ret (pe_tup (pa_cons pe_str (pa_cons (pe_callTy call_tuple_of (by rfl) mt (by decide +kernel) (pa_cons (pv 5) pa_nil)) pa_nil)))))))))), ?_⟩
      refine ⟨_, rfl, p, 4, rfl, lf, by decide, by decide, fun H1 dg k1 lf1 dl => ?_⟩
      have retN : ∀ σ : L2.St, tTup (tCons (tC (V.str "none")) tNil) σ H1 Q := fun σ => ⟨by show 1 ≤ sizeLine; decide, fun Z hZ => q _ _ dNone (k1.trans (keep_same (same_new hZ))) (lf_same lf1 (same_new hZ)) (.tup (.inl upd_same) (.cons (.str _) .nil)) .none ((Okd.tup (n := 0) (by show 1 ≤ 30; decide) fun d hd => by
        rw [List.mem_singleton.mp hd]
        exact okd_str (by decide +kernel)).mono (by omega))⟩
      have retL : ∀ σ : L2.St, σ[0]? = some (some (.ref p)) → σ[2]? = some (some (.int m)) → 0 < m → tTup (tCons (tC (V.str "lot")) (tCons (tCall spTake [] E0 (tCons (tVar 0) (tCons (tVar 2) tNil))) tNil)) σ H1 Q := fun σ h0 h2 m0 => by
        refine ⟨_, h0, _, h2, p, m, rfl, lf1, m0, by omega, fun H2 lot k2 lf2 ll => ?_⟩
        refine ⟨by show 2 ≤ sizeLine; decide, fun Z hZ => q _ _ (dLot lot) ((k1.trans k2).trans (keep_same (same_new hZ))) (lf_same lf2 (same_new hZ)) (.tup (.inl upd_same) (.cons (.str _) (.cons (.int _) .nil))) (.lot ll) ((Okd.tup (n := 0) (by show 2 ≤ 30; decide) fun d hd => ?_).mono (by omega))⟩
        rcases List.mem_cons.mp hd with rfl | hd
        · exact okd_str (by decide +kernel)
        · rw [List.mem_singleton.mp hd]
          exact okd_int
      have di : ∀ (x : Nat) (y : Int), decide (V.int (x : Nat) = V.int y) = decide ((x : Int) = y) := fun x y => decide_eq_decide.mpr ⟨fun z => V.int.inj z, fun z => by rw [z]⟩
      have dT : ∀ {x : Nat} {y : Int}, (x : Int) = y → decide (V.int (x : Nat) = V.int y) = true := fun h => by rw [di]; exact decide_eq_true h
      have dF : ∀ {x : Nat} {y : Int}, ¬ (x : Int) = y → decide (V.int (x : Nat) = V.int y) = false := fun h => by rw [di]; exact decide_eq_false h
      refine ⟨_, rfl, rfl, _, rfl, ?_⟩
      by_cases c0 : dg = 0
      · exact iteP (dT (by omega)) (retN _)
      refine iteN (dF (by omega)) ⟨_, rfl, rfl, _, rfl, ?_⟩
      by_cases c3 : dg = 1
      · exact iteP (dT (by omega)) (iteT (retL _ rfl rfl m0'))
      refine iteN (dF (by omega)) ⟨_, rfl, rfl, _, rfl, ?_⟩
      by_cases c1 : n = 0
      · exact iteP (dT (by omega)) (retL _ rfl rfl m0')
      refine iteN (dF (by omega)) ?_
      obtain ⟨n, rfl⟩ : ∃ n', n = n' + 1 := ⟨n - 1, by omega⟩
      refine ⟨by show 0 ≤ sizeLine; decide, fun Pp hPp => ?_⟩
      have s2 := same_new (o := .lst []) hPp
      have pP : p ≠ Pp := lf_ne lf1 hPp
      have hE2 := s2 _ _ (k1 _ _ Ep hE)
      have lf2 := lf_same lf1 s2
      have eP2 : upd H1 Pp (.lst []) Pp = some (.lst []) := upd_same
      have k2 : Keep p H (upd H1 Pp (.lst [])) := k1.trans (keep_same s2)
      have hPp0 : H Pp = none := free_keep k1 pP.symm hPp
      generalize upd H1 Pp (.lst []) = H2 at *
      refine ⟨_, rfl, E', _, rfl, .inl (SqL.of hE2), fun L hL => ?_⟩
      have s3 := same_new (o := .lst (es.map vI)) hL
      have pL : p ≠ L := lf_ne lf2 hL
      have PL : Pp ≠ L := ne_of_none eP2 hL
      have hL0 : H L = none := free_keep k2 pL.symm hL
      have eL3 : upd H2 L (.lst (es.map vI)) L = some (.lst (es.map vI)) := upd_same
      have eP3 := s3 _ _ eP2
      have lf3 := lf_same lf2 s3
      have k3 : Keep p H (upd H2 L (.lst (es.map vI))) := k2.trans (keep_same s3)
      generalize upd H2 L (.lst (es.map vI)) = H3 at *
      refine ⟨fun w σ H' => ∃ (ls : List Nat) (ws : List V) (qs : List (List Nat × PyData)) (x7 : Option V), w = ls.length ∧ σ = [some (.ref p), some (.ref E'), some (.int m), some (.int ((n + 1 : Nat) : Int)), some (.int dg), some (.ref Pp), some (.ref L), x7, none] ∧ Keep p H H' ∧ Lf H' p ∧ H' L = some (.lst (ls.map vI)) ∧ H' Pp = some (.lst ws) ∧ DtAll K H' ws (qs.map dPart) ∧ ((qs.map (·.1)).flatten ++ ls).Perm es ∧ qs.length + ls.length ≤ es.length ∧ ∀ q ∈ qs, Rise q.1 ∧ GoodW m q.1 q.2 ∧ Okd (3 * n + 1) q.2,
        ⟨_, es, [], [], none, rfl, rfl, k3, lf3, eL3, eP3, .nil, List.Perm.refl _, by rw [List.length_nil]; omega, fun q hq => absurd hq List.not_mem_nil⟩, fun w σ H4 hp => ?_⟩
      obtain ⟨ls, ws, qs, x7, rfl, rfl, k4, lf4, eL4, eP4, dt4, pm, ql, good⟩ := hp
      refine ⟨_, rfl, by show 0 ≤ sizeLine; decide, fun B hB => ?_⟩
      have s5 := same_new (o := .lst []) hB
      have k5 := k4.trans (keep_same (p := p) s5)
      have lf5 := lf_same lf4 s5
      have eL5 := s5 _ _ eL4
      have eP5 := s5 _ _ eP4
      have dt5 := dt4.tk (tk_same s5)
      refine ⟨L, B, _, rfl, rfl, SqL.of eL5, SqL.of upd_same, _, rfl, ?_⟩
      generalize upd H4 B (.lst []) = H5 at *
      have ml' : (ls.map vI).length = ls.length := List.length_map ..
      have flq : ∀ q ∈ qs, q.1.length ≤ 30 := fun q' hq' => by
        have h1 : q'.1.length ≤ (qs.map (·.1)).flatten.length := by
          have : q'.1.Sublist (qs.map (·.1)).flatten := List.sublist_flatten_of_mem (List.mem_map.mpr ⟨q', hq', rfl⟩)
          exact this.length_le
        have h2 := pm.length_eq
        rw [List.length_append] at h2
        omega
      rw [ml']
      by_cases c4 : 0 < ls.length
      · refine iteP (decide_eq_true c4) ⟨fun σ' H' => ∃ (ls' : List Nat) (ws' : List V) (qs' : List (List Nat × PyData)) (x7' : Option V), ls'.length < ls.length ∧ σ' = [some (.ref p), some (.ref E'), some (.int m), some (.int ((n + 1 : Nat) : Int)), some (.int dg), some (.ref Pp), some (.ref L), x7', none] ∧ Keep p H H' ∧ Lf H' p ∧ H' L = some (.lst (ls'.map vI)) ∧ H' Pp = some (.lst ws') ∧ DtAll K H' ws' (qs'.map dPart) ∧ ((qs'.map (·.1)).flatten ++ ls').Perm es ∧ qs'.length + ls'.length ≤ es.length ∧ ∀ q ∈ qs', Rise q.1 ∧ GoodW m q.1 q.2 ∧ Okd (3 * n + 1) q.2, fun σ' H' hN => ?_, ?_⟩
        · obtain ⟨ls', ws', qs', x7', lt, h1, h2, h3, h4, h5, h6, h7, h8, h9⟩ := hN
          exact ⟨ls'.length, lt, ls', ws', qs', x7', rfl, h1, h2, h3, h4, h5, h6, h7, h8, h9⟩
        have lsl : ls.length ≤ 30 := by omega
        refine ⟨_, rfl, _, rfl, L, _, rfl, .inl (SqL.of eL5), p, ls.length, by rw [ml']; rfl, lf5, c4, by omega, fun H6 tn k6 lf6 tl => ⟨_, _, rfl, rfl, ?_⟩⟩
        have eL6 := k6 _ _ pL.symm eL5
        have eP6 := k6 _ _ pP.symm eP5
        have dt6 := dt5.tk (tk_keep k6 lf5)
        have k06 := k5.trans k6
        refine ⟨1 + (tn : Int), rfl, by omega, by omega, fun D hD => ?_⟩
        have en : (1 + (tn : Int)).toNat = 1 + tn := by omega
        rw [en]
        have pD : p ≠ D := lf_ne lf6 hD
        have LD : L ≠ D := ne_of_none eL6 hD
        refine lc_range (n := 1 + tn) (fun j H' => ∃ got lr : List Nat, H' D = some (.lst (got.map vI)) ∧ got.length = j ∧ H' L = some (.lst (lr.map vI)) ∧ (got ++ lr).Perm ls ∧ Lf H' p ∧ ∀ b o, b ≠ p → b ≠ L → H6 b = some o → H' b = some o)
          ⟨[], ls, upd_same, rfl, by rw [upd_ne LD]; exact eL6, List.Perm.refl _, lf_upd lf6 pD, fun b o _ _ h => same_new hD _ _ h⟩ (fun j H7 hj hp => ?_) (fun H7 hp => ?_)
        · obtain ⟨got, lr, eD, gl, eL, gp, lf7, kk⟩ := hp
          have ll := gp.length_eq
          rw [List.length_append] at ll
          have lr0 : 0 < lr.length := by omega
          have mr' : (lr.map vI).length = lr.length := List.length_map ..
          refine ⟨rfl, ?_⟩
          refine ⟨_, rfl, .inl ⟨rfl, _, SqL.of eL⟩, ?_⟩
          refine ⟨_, rfl, _, rfl, L, _, rfl, .inl (SqL.of eL), p, lr.length, by rw [mr']; rfl, lf7, lr0, by omega, fun H8 at' k8 lf8 al => ?_⟩
          have eL8 := k8 _ _ pL.symm eL
          have eD8 := k8 _ _ pD.symm eD
          have ex : lr[at']? = some lr[at'] := List.getElem?_eq_getElem al
          refine ⟨L, _, _, at', vI lr[at'], rfl, rfl, eL8, by omega, by omega, ?_, by rw [List.getElem?_map, ex]; rfl, ?_⟩
          · rw [mr']
            exact six_nat al
          refine ⟨_, by rw [upd_ne LD.symm]; exact eD8, by rw [List.length_map]; exact small1000 (by omega), got ++ [lr[at']], lr.eraseIdx at', ?_, by rw [List.length_append, gl]; rfl, ?_, ?_, ?_, ?_⟩
          · rw [upd_same, List.map_append]
            rfl
          · rw [upd_ne LD, upd_same, erase_map]
          · rw [List.append_assoc]
            exact (List.Perm.append_left got (pop_perm ex)).trans gp
          · exact lf_upd (lf_upd lf8 pL) pD
          · intro b o b1 b2 h
            rw [upd_ne (ne_of_none h hD), upd_ne b2]
            exact k8 _ _ b1 (kk b o b1 b2 h)
        obtain ⟨got, lr, eD, gl, eL, gp, lf7, kk⟩ := hp
        have ll := gp.length_eq
        rw [List.length_append] at ll
        have tk7 : TK H6 H7 := fun b xs h => kk b _ (fun e => by
          obtain ⟨x, y, z, _⟩ := lf6
          rw [e, z] at h
          cases h) (fun e => by rw [e, eL6] at h; cases h) h
        refine ⟨D, got.map ci, rfl, by rw [← vI_map]; exact SqL.of eD, fun ns' S perm ris hS => ?_⟩
        rw [sorted_int perm ris]
        have s8 := same_new (o := .lst ((srt got).map vI)) hS
        have eL8 := s8 _ _ eL
        have pS : S ≠ p := (lf_ne lf7 hS).symm
        have LS : L ≠ S := ne_of_none eL hS
        have eP8 := s8 _ _ (kk _ _ pP.symm PL eP6)
        have lf8 := lf_same lf7 s8
        have dt8 := (dt6.tk tk7).tk (tk_same s8)
        have kk8 : Keep p H (upd H7 S (.lst ((srt got).map vI))) := fun b o b1 h => s8 _ _ (kk b o b1 (fun e => by rw [e, hL0] at h; cases h) (k06 b o b1 h))
        have eS8 : upd H7 S (.lst ((srt got).map vI)) S = some (.lst ((srt got).map vI)) := upd_same
        have hS0 : H S = none := free_keep (p := p) (fun b o b1 h => (kk b o b1 (fun e => by rw [e, hL0] at h; cases h) (k06 b o b1 h))) pS hS
        generalize upd H7 S (.lst ((srt got).map vI)) = H8 at *
        have wl := dt8.len
        rw [List.length_map] at wl
        have snd : (srt got).Nodup := (srt_perm got).nodup_iff.mpr ((List.nodup_append.mp ((gp.nodup_iff).mpr ((List.nodup_append.mp (pm.nodup_iff.mpr end')).2.1))).1)
        have ssub : ∀ x ∈ srt got, x ∈ es := fun x hx => pm.mem_iff.mp (List.mem_append.mpr (.inr (gp.mem_iff.mp (List.mem_append.mpr (.inl (srt_mem.mp hx))))))
        refine ⟨_, rfl, .inl ⟨rfl, _, SqL.of eP8⟩, ?_⟩
        refine ⟨_, rfl, S, _, rfl, .inl ⟨SqL.of eS8, fun tS htS => ?_⟩⟩
        have s9 := same_new (o := .tup ((srt got).map vI)) htS
        have lf9 := lf_same lf8 s9
        have etS : upd H8 tS (.tup ((srt got).map vI)) tS = some (.tup ((srt got).map vI)) := upd_same
        refine ⟨_, rfl, _, rfl, _, rfl, _, rfl, _, _, rfl, rfl, ?_⟩
        refine ⟨p, S, m, srt got, by
          have e : ((n + 1 : Nat) : Int) - 1 = ((n : Nat) : Int) := by omega
          show [V.ref p, V.ref S, V.int (m : Nat), V.int (((n + 1 : Nat) : Int) - 1)] = _
          rw [e], lf9, pS, s9 _ _ eS8, ?_, snd, fun x hx => elt x (ssub x hx), m0', m100, fun H10 vw dw k10 lf10 dtw gw okw => ?_⟩
        · rw [(srt_perm got).length_eq]
          omega
        have k810 : Keep p H8 H10 := (keep_same s9).trans k10
        have eP10 := k810 _ _ pP.symm eP8
        have tk10 := tk_keep k810 lf8
        have etS10 := tk_keep k10 lf9 _ _ etS
        refine ⟨by show 2 ≤ sizeLine; decide, fun t ht => ?_⟩
        have s11 := same_new (o := .tup [.ref tS, vw]) ht
        have eP11 := s11 _ _ eP10
        refine ⟨Pp, ws, _, rfl, rfl, eP11, small1000 (by omega), lr, ws ++ [.ref t], qs ++ [(srt got, dw)], _, by omega, rfl, ?_, ?_, ?_, upd_same, ?_, ?_, ?_, ?_⟩
        · exact keep_at ((kk8.trans k810).trans (keep_same s11)) hPp0
        · exact lf_upd (lf_same lf10 s11) pP
        · rw [upd_ne PL.symm]
          exact s11 _ _ (k810 _ _ pL.symm eL8)
        · rw [List.map_append]
          refine (((dt8.tk tk10).tk (tk_same s11)).app (.cons (.tup (.inl upd_same) (.cons (.tup (.inl (s11 _ _ etS10)) (dt_ints _)) (.cons (dtw.tk (tk_same s11)) .nil))) .nil)).tk (tk_lst eP11)
        · rw [List.map_append, List.flatten_append]
          show (_ ++ [srt got].flatten ++ lr).Perm es
          rw [List.flatten_singleton, List.append_assoc]
          exact (List.Perm.append_left _ (((srt_perm got).append_right lr).trans gp)).trans pm
        · rw [List.length_append, List.length_singleton]
          omega
        · intro q' hq'
          rcases List.mem_append.mp hq' with h | h
          · exact good q' h
          · rw [List.mem_singleton.mp h]
            exact ⟨rise_of (srt_pw got) snd, gw, okw⟩
      · refine iteN (decide_eq_false c4) ?_
        have l0 : ls = [] := List.eq_nil_of_length_eq_zero (by omega)
        subst l0
        rw [List.append_nil] at pm
        refine ⟨_, rfl, Pp, _, rfl, .inl ⟨SqL.of eP5, fun tP htP => ?_⟩⟩
        have s6 := same_new (o := .tup ws) htP
        refine ⟨by show 2 ≤ sizeLine; decide, fun t ht => ?_⟩
        have s7 := same_new (o := .tup [.str "parts", .ref tP]) ht
        have s57 := s6.trans s7
        refine q _ _ (dWhy qs) (k5.trans (keep_same s57)) (lf_same lf5 s57) (.tup (.inl upd_same) (.cons (.str _) (.cons (.tup (.inl (s7 _ _ upd_same)) (dt5.tk (tk_same s57))) .nil))) (.parts (fun q' hq' => (good q' hq').1) pm fun q' hq' => (good q' hq').2.1) ?_
        have e : 3 * (n + 1) + 1 = (((3 * n + 1) + 1) + 1) + 1 := by omega
        rw [e]
        refine Okd.tup (by show 2 ≤ 30; decide) fun d hd => ?_
        rcases List.mem_cons.mp hd with rfl | hd
        · exact okd_str (by decide +kernel)
        rw [List.mem_singleton.mp hd]
        refine Okd.tup (by rw [List.length_map]; rw [List.length_nil] at ql; omega) fun d hd => ?_
        obtain ⟨q', hq', rfl⟩ := List.mem_map.mp hd
        refine Okd.tup (by show 2 ≤ 30; decide) fun d hd => ?_
        rcases List.mem_cons.mp hd with rfl | hd
        · refine (Okd.tup (n := 0) (by rw [List.length_map]; exact flq q' hq') fun d hd => ?_).mono (by omega)
          obtain ⟨x, _, rfl⟩ := List.mem_map.mp hd
          exact okd_int
        rw [List.mem_singleton.mp hd]
        exact (good q' hq').2.2
end
end W35

namespace W35
open PySem PySem.Spec PyProof.Rows L2 Gs Gp Gr Dw
/-! ### rows of ties that come round -/
inductive WT (ts : List Tie) : Nat → List Tie → Nat → Prop
  | nil {a : Nat} : WT ts a [] a
  | cons {t : Tie} {r : List Tie} {b : Nat} : t ∈ ts → WT ts t.2.1 r b → WT ts t.1 (t :: r) b
def Round (m : Nat) (ts : List Tie) : Prop := ∃ b r, r ≠ [] ∧ WT ts b r b ∧ ∀ lot < m, ∃ t ∈ r, lot ∈ t.2.2
theorem WT.mem {ts : List Tie} : ∀ {a b : Nat} {r : List Tie}, WT ts a r b → ∀ t ∈ r, t ∈ ts
  | _, _, _, .nil, t, h => absurd h List.not_mem_nil
  | _, _, _, .cons h w, t, ht => by
    rcases List.mem_cons.mp ht with rfl | ht
    · exact h
    · exact w.mem t ht
theorem WT.sub {ts us : List Tie} : ∀ {a b : Nat} {r : List Tie}, WT ts a r b → (∀ t ∈ r, t ∈ us) → WT us a r b
  | _, _, _, .nil, _ => .nil
  | _, _, _, .cons h w, s => .cons (s _ List.mem_cons_self) (w.sub fun t ht => s t (List.mem_cons_of_mem _ ht))
theorem WT.app {ts : List Tie} : ∀ {a b c : Nat} {r q : List Tie}, WT ts a r b → WT ts b q c → WT ts a (r ++ q) c
  | _, _, _, _, _, .nil, h => h
  | _, _, _, _, _, .cons h w, h2 => .cons h (w.app h2)
/-! ### a why lets none by -/
def At (ps : List (List Nat)) (x i : Nat) : Prop := ∃ p, ps[i]? = some p ∧ x ∈ p
theorem walk_up {ps : List (List Nat)} {ts : List Tie} (dis : ∀ (i j : Nat) p q x, ps[i]? = some p → ps[j]? = some q → x ∈ p → x ∈ q → i = j) (up : ∀ t ∈ ts, Up ps t) :
    ∀ {a c : Nat} {r : List Tie}, WT ts a r c → ∀ {i j : Nat}, At ps a i → At ps c j → i ≤ j ∧ (i = j → ∀ t ∈ r, At ps t.1 i ∧ At ps t.2.1 i)
  | _, _, _, .nil, i, j, ⟨p, h1, h2⟩, ⟨q, h3, h4⟩ => by
    have e := dis i j p q _ h1 h3 h2 h4
    exact ⟨by omega, fun _ t ht => absurd ht List.not_mem_nil⟩
  | _, _, _, @WT.cons _ t r _ ht w, i, j, ⟨p, h1, h2⟩, hc => by
    obtain ⟨i', j', p', q', g1, g2, g3, g4, g5⟩ := up t ht
    have e := dis i i' p p' _ h1 g1 h2 g3
    obtain ⟨k1, k2⟩ := walk_up dis up w ⟨q', g2, g4⟩ hc
    refine ⟨by omega, fun ij u hu => ?_⟩
    have ej : j' = i := by omega
    rcases List.mem_cons.mp hu with rfl | hu
    · exact ⟨⟨p, h1, h2⟩, ⟨q', by rw [← ej]; exact g2, g4⟩⟩
    · have := k2 (by omega) u hu
      rw [ej] at this
      exact this
theorem why_no {m : Nat} {es : List Nat} {ts : List Tie} {d : PyData} (h : WhyP m es ts d) : es.Nodup → (∀ x ∈ es, x < 900) → (∀ t ∈ ts, t.1 ∈ es ∧ t.2.1 ∈ es) → ¬ Round m ts := by
  induction h with
  | none =>
    rintro _ _ _ ⟨b, r, ne, w, _⟩
    cases r with
    | nil => exact ne rfl
    | cons t r => exact absurd (w.mem t List.mem_cons_self) List.not_mem_nil
  | lot lt no =>
    rintro _ _ _ ⟨b, r, ne, w, all⟩
    obtain ⟨t, ht, h⟩ := all _ lt
    exact no t (w.mem t ht) h
  | @parts es ts d qs po _ ih =>
    rintro nd lt tin ⟨b, r, ne, w, all⟩
    obtain ⟨dis, pnd, plt⟩ := apart_of nd lt po.pm
    obtain ⟨t0, r', rfl⟩ : ∃ t0 r', r = t0 :: r' := by
      cases r with
      | nil => exact absurd rfl ne
      | cons t r => exact ⟨t, r, rfl⟩
    have be : b ∈ es := by
      cases w with
      | cons h _ => exact (tin _ h).1
    obtain ⟨p, hp, hb⟩ := List.mem_flatten.mp (po.pm.mem_iff.mpr be)
    obtain ⟨i, hi⟩ := List.mem_iff_getElem?.mp hp
    obtain ⟨q, hq, rfl⟩ := List.mem_map.mp hp
    have inn := (walk_up dis po.up w ⟨_, hi, hb⟩ ⟨_, hi, hb⟩).2 rfl
    have mem : ∀ t ∈ t0 :: r', t ∈ ts.filter (tIn q.1) := fun t ht => by
      obtain ⟨⟨p1, h1, h2⟩, ⟨p2, h3, h4⟩⟩ := inn t ht
      rw [hi] at h1 h3
      cases h1
      cases h3
      refine List.mem_filter.mpr ⟨w.mem t ht, ?_⟩
      unfold tIn
      rw [decide_eq_true h2, decide_eq_true h4]
      rfl
    refine ih q hq (pnd _ hp) (plt _ hp) (fun t ht => ?_) ⟨b, t0 :: r', ne, w.sub mem, all⟩
    have := (List.mem_filter.mp ht).2
    unfold tIn at this
    rw [Bool.and_eq_true] at this
    exact ⟨of_decide_eq_true this.1, of_decide_eq_true this.2⟩
/-! ### a lap is told just where one comes round -/
theorem tie_num {ts : List Tie} {t : Tie} (h : t ∈ ts) : ∃ n, n < ts.length ∧ sT ts n = t.1 ∧ eT ts n = t.2.1 ∧ lT ts n = t.2.2 := by
  obtain ⟨n, hn⟩ := List.mem_iff_getElem?.mp h
  obtain ⟨h1, h2, h3⟩ := tie_at (a := t.1) (b := t.2.1) (ls := t.2.2) hn
  exact ⟨n, (List.getElem?_eq_some_iff.mp hn).1, h1, h2, h3⟩
theorem wk_wt {ts : List Tie} : ∀ {a b : Nat} {r : List Nat}, Wk (sT ts) (eT ts) a r b → (∀ n ∈ r, n < ts.length) → ∃ q : List Tie, WT ts a q b ∧ (r ≠ [] → q ≠ []) ∧ ∀ n ∈ r, ∃ t ∈ q, t.2.2 = lT ts n
  | _, _, _, .nil, _ => ⟨[], .nil, fun h => absurd rfl h, fun n hn => absurd hn List.not_mem_nil⟩
  | _, _, _, @Wk.cons _ _ n y r w, lt => by
    obtain ⟨q, h1, h2, h3⟩ := wk_wt w fun k hk => lt k (List.mem_cons_of_mem _ hk)
    have nl := lt n List.mem_cons_self
    have e : ts[n]? = some ts[n] := List.getElem?_eq_getElem nl
    obtain ⟨e1, e2, e3⟩ := tie_at (a := ts[n].1) (b := ts[n].2.1) (ls := ts[n].2.2) e
    rw [e1]
    rw [e2] at h1
    refine ⟨ts[n] :: q, .cons (List.getElem_mem nl) h1, fun _ => by simp, fun k hk => ?_⟩
    rcases List.mem_cons.mp hk with rfl | hk
    · exact ⟨ts[k], List.mem_cons_self, e3.symm⟩
    · obtain ⟨t, ht, et⟩ := h3 k hk
      exact ⟨t, List.mem_cons_of_mem _ ht, et⟩
theorem wt_R {ts : List Tie} : ∀ {a b : Nat} {r : List Tie}, WT ts a r b → R (adjOf (prsOf (sT ts) (eT ts) ts.length)) a b ∧ ∀ t ∈ r, R (adjOf (prsOf (sT ts) (eT ts) ts.length)) a t.1 ∧ R (adjOf (prsOf (sT ts) (eT ts) ts.length)) t.2.1 b
  | _, _, _, .nil => ⟨.refl, fun t ht => absurd ht List.not_mem_nil⟩
  | _, _, _, @WT.cons _ t r b h w => by
    obtain ⟨h1, h2⟩ := wt_R w
    obtain ⟨n, hn, e1, e2, e3⟩ := tie_num h
    have ed : t.2.1 ∈ adjOf (prsOf (sT ts) (eT ts) ts.length) t.1 := adjG_mem.mpr ⟨n, hn, e1, e2⟩
    refine ⟨(R.one ed).trans h1, fun u hu => ?_⟩
    rcases List.mem_cons.mp hu with rfl | hu
    · exact ⟨.refl, h1⟩
    · exact ⟨(R.one ed).trans (h2 u hu).1, (h2 u hu).2⟩
theorem sou_iff {ts : List Tie} {n m : Nat} (tok : TsOk ts n) : (∃ stem lap, souT ts m n (List.range n) = .lap stem lap) ↔ Round m ts := by
  have SQ := sought_ok (L := lT ts) (many := m) tok.lt List.nodup_range (fun b hb => List.mem_range.mp hb) _ rfl
  generalize hes : srt (keys (cameTo (eT ts) (owOf (sT ts) (List.range ts.length)) n (List.range n))) = es at SQ
  obtain ⟨re, esn, elt, ecl, alt⟩ := SQ
  unfold souT
  constructor
  · rintro ⟨stem, lap, e⟩
    rcases alt with ⟨stem', lap', e1, good, _⟩ | ⟨e1, _⟩
    · rw [e1] at e
      cases e
      obtain ⟨g1, g2, ⟨b, _, s, _, w⟩, g4⟩ := good
      obtain ⟨q, h1, h2, h3⟩ := wk_wt w fun k hk => g2 k (List.mem_append.mpr (.inr hk))
      refine ⟨s, q, h2 g1, h1, fun lot hl => ?_⟩
      obtain ⟨k, hk, hh⟩ := g4 lot hl
      obtain ⟨t, ht, et⟩ := h3 k hk
      exact ⟨t, ht, by rw [et]; exact hh⟩
    · rw [e1] at e
      cases e
  · rintro ⟨b, r, ne, w, all⟩
    rcases alt with ⟨stem', lap', e1, _⟩ | ⟨e1, _, nod⟩
    · exact ⟨_, _, e1⟩
    · exfalso
      apply nod
      obtain ⟨t0, r', rfl⟩ : ∃ t0 r', r = t0 :: r' := by
        cases r with
        | nil => exact absurd rfl ne
        | cons t r => exact ⟨t, r, rfl⟩
      obtain ⟨rr, rt⟩ := wt_R w
      have h0 := w.mem t0 List.mem_cons_self
      have eb : b = t0.1 := by
        cases w
        rfl
      subst eb
      obtain ⟨n0, hn, e1, e2, e3⟩ := tie_num h0
      have ed : t0.2.1 ∈ adjOf (prsOf (sT ts) (eT ts) ts.length) t0.1 := adjG_mem.mpr ⟨n0, hn, e1, e2⟩
      have p1 : ∀ {x y : Nat}, R (adjOf (prsOf (sT ts) (eT ts) ts.length)) x t0.1 → R (adjOf (prsOf (sT ts) (eT ts) ts.length)) t0.1 y → P1 (adjOf (prsOf (sT ts) (eT ts) ts.length)) x y := fun h1 h2 => P1.of h1 ed ((rt t0 List.mem_cons_self).2.trans h2)
      refine ⟨n0, hn, ?_, .inl ?_, fun lot hl => ?_⟩
      · exact (re _).mpr ⟨sT ts n0, List.mem_range.mpr (tok.lt n0 hn).1, .refl⟩
      · rw [e1, e2]
        exact p1 (rt t0 List.mem_cons_self).2 .refl
      · obtain ⟨t, ht, hh⟩ := all lot hl
        obtain ⟨k, hk, f1, f2, f3⟩ := tie_num (w.mem t ht)
        obtain ⟨r1, r2⟩ := rt t ht
        refine ⟨k, hk, ?_, ?_, by rw [f3]; exact hh⟩
        · rw [f2, e1]
          exact p1 r2 .refl
        · rw [e2, f1]
          exact p1 (rt t0 List.mem_cons_self).2 r1
end W35

namespace Dn
open PySem PySem.Spec PyProof.Rows L2 Gp Dw
/-! ### dicts whose keys are tuples of any depth -/
abbrev NKv := NestedKey × Addr × V
def NRel : NKv → NestedKey × Addr × Value → Prop := fun p q => p.1 = q.1 ∧ p.2.1 = q.2.1 ∧ RelV p.2.2 q.2.2
/-- the dict at a, by its keys, where these lie, and its values -/
def DN (P : Program) (w : World) (a : Addr) (kvs : List NKv) : HO := .ext fun h => kvs.length ≤ sizeLine ∧ (a == sysModules) = false ∧ ∃ xs : List (NestedKey × Addr × Value), Paired NRel kvs xs ∧
  ∃ o es ep, h.get? a = some o ∧ o.ExactDict ∧ o.data = .dict es ep ∧ es.toList = xs.map (entryOfKey (nestedKind P w)) ∧ (xs.map (·.1)).Nodup
section
variable {X : Cx} {pins : List (Addr × Obj)} {σ : L2.St} {H : Hp} {s : Shared}
mutual
theorem nested_of (I : Inv X pins σ H s) : ∀ (k : NestedKey) (v : V) (u : Value), Dp X.K H v k.data → RelV v u → NestedIs s.heap k u
  | .none, _, _, h, r => by
    cases h
    cases r
    exact .none
  | .num i, _, _, h, r => by
    cases h
    obtain ⟨t, rfl⟩ := r
    exact .int i t
  | .text x, _, _, h, r => by
    cases h
    obtain ⟨t, rfl⟩ := r
    exact .text x t
  | .tup ks, _, _, h, r => by
    cases h with
    | tup hs ha =>
      cases r
      obtain ⟨its, rv, ⟨o, ho, hc, n, hd⟩, _⟩ := I.tuple hs
      exact .tup ho hc hd (by simpa using nestedAll_of I ks _ its ha rv)
theorem nestedAll_of (I : Inv X pins σ H s) : ∀ (ks : List NestedKey) (vs : List V) (us : List Value), DpAll X.K H vs (NestedKey.datas ks) → Vals vs us → NestedAll s.heap ks us
  | [], _, _, h, r => by
    cases h
    cases r
    exact .nil
  | k :: ks, _, _, h, r => by
    cases h with
    | cons h1 h2 =>
      cases r with
      | cons r1 r2 => exact .cons (nested_of I k _ _ h1 r1) (nestedAll_of I ks _ _ h2 r2)
end
end
/-- the keys lie where they are told to -/
def KeysAt (K : PySem.W.Frag) (H : Hp) (kvs : List NKv) : Prop := ∀ e ∈ kvs, Dp K H (.ref e.2.1) e.1.data ∧ e.1.depth ≤ 8
theorem KeysAt.mono {K : PySem.W.Frag} {H H' : Hp} {kvs : List NKv} (s : Same H H') (h : KeysAt K H kvs) : KeysAt K H' kvs := fun e he => ⟨dp_mono s (h e he).1, (h e he).2⟩
section
variable {X : Cx} {pins : List (Addr × Obj)} {σ : L2.St} {H : Hp} {s : Shared} {a b : Addr} {kvs : List NKv} {k : NestedKey}
theorem dn_of (I : Inv X pins σ H s) (e : H a = some (DN X.prog X.w a kvs)) (ks : KeysAt X.K H kvs) : kvs.length ≤ sizeLine ∧ (a == sysModules) = false ∧ ∃ xs, Paired NRel kvs xs ∧ s.heap.DictOfH (nestedKind X.prog X.w) a xs := by
  obtain ⟨⟨z, y, xs, r, o, es, ep, h1, h2, h3, h4, h5⟩, _, _⟩ := (show ObjOk X.prog X.w H s.heap a (DN X.prog X.w a kvs) from I.hok a _ e)
  refine ⟨z, y, xs, r, o, es, ep, h1, h2, h3, h4, fun x hx => ?_, h5⟩
  have all : ∀ {l : List NKv} {m : List (NestedKey × Addr × Value)}, Paired NRel l m → KeysAt X.K H l → ∀ x ∈ m, (nestedKind X.prog X.w).is s.heap x.1 x.2.1 := by
    intro l m q
    induction q with
    | nil => intro _ x hx; exact nomatch hx
    | @cons p q ps qs hq t ih =>
      intro ka x hx
      rcases List.mem_cons.mp hx with e | hx
      · subst e
        obtain ⟨k1, k2⟩ := ka p List.mem_cons_self
        exact ⟨by rw [← hq.1, ← hq.2.1]; exact nested_of I _ _ _ k1 rfl, by rw [← hq.1]; exact k2⟩
      · exact ih (fun e he => ka e (List.mem_cons_of_mem _ he)) x hx
  exact all r ks x hx
theorem dn_ok {h' : Heap} {xs : List (NestedKey × Addr × Value)} {H' : Hp} (z : kvs.length ≤ sizeLine) (hd : (a == sysModules) = false) (rel : Paired NRel kvs xs) (dd : h'.DictOfH (nestedKind X.prog X.w) a xs) : ObjOk X.prog X.w H' h' a (DN X.prog X.w a kvs) := by
  obtain ⟨o, es, ep, h1, h2, h3, h4, _, h5⟩ := dd
  refine ⟨⟨z, hd, xs, rel, o, es, ep, h1, h2, h3, h4, h5⟩, ⟨o, h1⟩, fun g1 g2 q keep => ?_⟩
  obtain ⟨z, y, xs, r, o, es, ep, h1, h⟩ := q
  exact ⟨z, y, xs, r, o, es, ep, keep _ h1, h⟩
theorem mem_keys {m : List (NestedKey × Addr × Value)} (q : Paired NRel kvs m) : (atKey m k).isSome = decide (k ∈ kvs.map (·.1)) := by
  induction q with
  | nil => rfl
  | @cons p q ps qs hq t ih =>
    unfold atKey at ih ⊢
    rw [List.find?_cons]
    by_cases c : q.1 = k
    · rw [decide_eq_true c]
      have : k ∈ (p :: ps).map (·.1) := by
        rw [List.map_cons, hq.1, c]
        exact List.mem_cons_self
      rw [decide_eq_true this]
      rfl
    · rw [decide_eq_false c]
      have : decide (k ∈ (p :: ps).map (·.1)) = decide (k ∈ ps.map (·.1)) := decide_eq_decide.mpr (by
        rw [List.map_cons, List.mem_cons, hq.1]
        exact ⟨fun h => h.resolve_left fun e => c e.symm, .inr⟩)
      rw [this]
      exact ih
end
theorem room9 {A : Around} (hu : A.units + 9 < cLine) : A.in1.units + 8 < cLine := by
  show A.units + 1 + 8 < cLine
  omega
section
variable {X : Cx}
/-- k not in d -/
theorem op_notInN (hu : X.A.units + 9 < cLine) : OpR X (compareOp .NotIn) (fun x y H Q => ∃ a kvs k b, x = .ref b ∧ y = .ref a ∧ H a = some (DN X.prog X.w a kvs) ∧ KeysAt X.K H kvs ∧ Dp X.K H (.ref b) k.data ∧ k.depth ≤ 8 ∧ Q (.bl (!decide (k ∈ kvs.map (·.1)))) H) := by
  intro pins s σ H x y v u Q I rx ry h
  obtain ⟨a, kvs, k, b, rfl, rfl, e, ks, dk, d8, q⟩ := h
  cases rx
  cases ry
  obtain ⟨z, hd, xs, rel, dd⟩ := dn_of I e ks
  refine wpAny_notIn_heap (knd := nestedKind X.prog X.w) (k := k) (room9 hu) ⟨nested_of I k _ _ dk rfl, d8⟩ hd dd ?_
  rw [mem_keys rel]
  exact ⟨.bl _, H, I.tok _, rfl, q⟩
/-- d[k] = v, k not yet there -/
theorem set_dN (hu : X.A.units + 9 < cLine) : PSet X (fun o i v H Q => ∃ a kvs k b, o = .ref a ∧ i = .ref b ∧ H a = some (DN X.prog X.w a kvs) ∧ KeysAt X.K H kvs ∧ Dp X.K H (.ref b) k.data ∧ k.depth ≤ 8 ∧ kvs.length < sizeLine ∧ k ∉ kvs.map (·.1) ∧ Q (upd H a (DN X.prog X.w a (kvs ++ [(k, b, v)])))) := by
  intro pins s σ H o i v ov iv u Q I ro ri rv h
  obtain ⟨a, kvs, k, b, rfl, rfl, e, ks, dk, d8, l, new, q⟩ := h
  cases (show ov = Value.ref a from ro)
  cases (show iv = Value.ref b from ri)
  obtain ⟨z, hd, xs, rel, dd⟩ := dn_of I e ks
  have hz : xs.length ≤ sizeLine := by rw [← Paired.length rel]; exact z
  have none : atKey xs k = none := by
    have := mem_keys (k := k) rel
    rw [decide_eq_false new] at this
    exact Option.isSome_eq_false_iff.mp this |> Option.isNone_iff_eq_none.mp
  refine wpAny_setItem_heap (knd := nestedKind X.prog X.w) (k := k) (hsz := hz) (room9 hu) ⟨nested_of I k _ _ dk rfl, d8⟩ dd fun h' dd' hs => ⟨_, ?_, q⟩
  rw [storedH_new none] at dd'
  have he : ∃ q, h'.get? a = some q := let ⟨q, _, _, hq, _⟩ := dd'; ⟨q, hq⟩
  refine d_write I (by rw [e]; exact True.intro) hs he (dn_ok (by rw [List.length_append]; exact l) hd (Paired.snoc rel ⟨rfl, rfl, rv⟩) dd')
/-- {k: v} -/
def tDisp1 (P : Program) (w : World) (K : PySem.W.Frag) (tk tv : TE) : TE := fun σ H Q => ∀ p, H p = none → tk σ (upd H p (DN P w p [])) fun x H1 => tv σ H1 fun y H2 => H2 p = some (DN P w p []) ∧ ∃ k b, x = .ref b ∧ Dp K H2 (.ref b) k.data ∧ k.depth ≤ 8 ∧ Q (.ref p) (upd H2 p (DN P w p [(k, b, y)]))
theorem pe_disp1 {pos : Pos} {e1 e2 : Expr} {tk tv : TE} (hu : X.A.units + 8 < cLine) (hk : PE X e1 tk) (hv : PE X e2 tv) : PE X (.Dict [some e1] [e2] pos) (tDisp1 X.prog X.w X.K tk tv) := by
  refine ⟨fun pins s σ H Q I q => ?_⟩
  have hn := I.hok.fresh (Nat.le_refl s.heap.objs.size)
  have new : ObjOk X.prog X.w (upd H s.heap.objs.size (DN X.prog X.w s.heap.objs.size [])) (s.heap.push { cls := .type "dict", data := .dict #[] }) s.heap.objs.size (DN X.prog X.w s.heap.objs.size []) :=
    dn_ok (Nat.zero_le _) (beq_eq_false_iff_ne.mpr (Ne.symm (Nat.ne_of_lt I.big))) .nil (Heap.DictOfH.new s.heap)
  have I1 := I.laid (a := s.heap.objs.size) (o := DN X.prog X.w s.heap.objs.size []) (h' := s.heap.push { cls := .type "dict", data := .dict #[] }) (t' := s.toks) (fun _ _ q => Heap.get?_push_of_some _ q) (Nat.le_refl _) new
  have pp : PPs X pos [some e1] [e2] [(tk, tv)] := pps_cons hk hv pps_nil
  rw [arm_eval_Dict, zip_pairTrees [some e1] [e2] X.env pos rfl rfl, dictDisplay_pairs (pairTrees [some e1] [e2] X.env pos) (by simp [pairTrees]) (by simp [pairTrees])]
  refine wpAny_bind (wpAny_standAt (wpAny_bind (wpAny_subDictH (knd := nestedKind X.prog X.w) hu (by simp [pairTrees]) ?_)))
  refine thn (pp.run pins _ σ _ (fun ps H2 => match ps with
    | [(x, y)] => H2 s.heap.objs.size = some (DN X.prog X.w s.heap.objs.size []) ∧ ∃ k b, x = .ref b ∧ Dp X.K H2 (.ref b) k.data ∧ k.depth ≤ 8 ∧ Q (.ref s.heap.objs.size) (upd H2 s.heap.objs.size (DN X.prog X.w s.heap.objs.size [(k, b, y)]))
    | _ => False) I1 (q _ hn)) fun ws s2 ⟨ps, H2, I2, rel, q2⟩ => ?_
  match ps, rel, q2 with
  | [(x, y)], rel, ⟨e, k, b, ex, dk, d8, q2⟩ =>
    subst ex
    cases rel with
    | @cons _ wr _ ws hr t =>
      cases t
      obtain ⟨u, r⟩ := wr
      obtain ⟨ru, rr⟩ := hr
      cases (show u = Value.ref b from ru)
      obtain ⟨z, hd, xs0, r0, dd⟩ := dn_of I2 e (fun e he => absurd he List.not_mem_nil)
      cases r0
      refine ⟨[(k, b, r)], ⟨rfl, rfl, ⟨nested_of I2 k _ _ dk rfl, d8⟩, trivial⟩, dd, fun h' tk dd' hs => wpAny_pure ⟨.ref s.heap.objs.size, _, ?_, rfl, q2⟩⟩
      have he : ∃ q, h'.get? s.heap.objs.size = some q := let ⟨q, _, _, hq, _⟩ := dd'; ⟨q, hq⟩
      exact d_write I2 (by rw [e]; exact True.intro) hs he (dn_ok (by show 1 ≤ sizeLine; decide) hd (.cons ⟨rfl, rfl, rr⟩ .nil) dd')
theorem pe_disp1P {P : Program} {w : World} {pos : Pos} {e1 e2 : Expr} {tk tv : TE} (hp : X.prog = P) (hw : X.w = w) (hu : X.A.units + 8 < cLine) (hk : PE X e1 tk) (hv : PE X e2 tv) : PE X (.Dict [some e1] [e2] pos) (tDisp1 P w X.K tk tv) := by
  subst hp hw
  exact pe_disp1 hu hk hv
theorem op_notInNP {P : Program} {w : World} (hp : X.prog = P) (hw : X.w = w) (hu : X.A.units + 9 < cLine) : OpR X (compareOp .NotIn) (fun x y H Q => ∃ a kvs k b, x = .ref b ∧ y = .ref a ∧ H a = some (DN P w a kvs) ∧ KeysAt X.K H kvs ∧ Dp X.K H (.ref b) k.data ∧ k.depth ≤ 8 ∧ Q (.bl (!decide (k ∈ kvs.map (·.1)))) H) := by
  subst hp hw
  exact op_notInN hu
theorem set_dNP {P : Program} {w : World} (hp : X.prog = P) (hw : X.w = w) (hu : X.A.units + 9 < cLine) : PSet X (fun o i v H Q => ∃ a kvs k b, o = .ref a ∧ i = .ref b ∧ H a = some (DN P w a kvs) ∧ KeysAt X.K H kvs ∧ Dp X.K H (.ref b) k.data ∧ k.depth ≤ 8 ∧ kvs.length < sizeLine ∧ k ∉ kvs.map (·.1) ∧ Q (upd H a (DN P w a (kvs ++ [(k, b, v)])))) := by
  subst hp hw
  exact set_dN hu
end
end Dn

namespace Gp
open PySem PySem.Spec PyProof.Rows L2
/-! ### set(t), t a tuple of numbers -/
theorem cr_setTI {X : Cx} (hc : X.calm = true) : CallR X (.type "set") (fun xs H Q => ∃ (l : Addr) (ns : List Int), xs = [.ref l] ∧ SqT X.K H l (ns.map V.int) ∧ ns.length ≤ 1000 ∧
    ∀ p c, H p = none → c ≤ ns.length → Q (.ref p) (upd H p (SetO X.w p (fun k => decide (k ∈ ns)) c))) := by
  intro pins s σ H xs us Q I r h
  obtain ⟨l, ns, rfl, hl, hn, q⟩ := h
  rw [Vals.ref1 r]
  obtain ⟨its, rv, pl, hz⟩ := I.tuple hl
  have hn0 : H s.heap.objs.size = none := I.hok.fresh (Nat.le_refl _)
  refine call_set_tupI ns (I.ok.hd hc) pl (by simpa using ints_of rv) (by unfold scanBound; omega) fun h' tk c R cl k => ?_
  refine ⟨.ref s.heap.objs.size, _, I.laid (t' := tk) (o := SetO X.w s.heap.objs.size (fun k => decide (k ∈ ns)) c) k (Nat.le_refl _) (setO_new R), rfl, q _ c hn0 cl⟩
theorem cr_setTIw {X : Cx} {w : World} (hw : X.w = w) (hc : X.calm = true) : CallR X (.type "set") (fun xs H Q => ∃ (l : Addr) (ns : List Int), xs = [.ref l] ∧ SqT X.K H l (ns.map V.int) ∧ ns.length ≤ 1000 ∧
    ∀ p c, H p = none → c ≤ ns.length → Q (.ref p) (upd H p (SetO w p (fun k => decide (k ∈ ns)) c))) := by
  subst hw
  exact cr_setTI hc
theorem cr_sortedSetW {X : Cx} {w : World} (hw : X.w = w) (hc : X.calm = true) : CallR X (.builtin "sorted") (rSortedSet w) := by
  subst hw
  exact cr_sortedSet hc
end Gp

namespace W35
open PySem PySem.Spec PyProof.Rows L2 Gs Gp Gr Dw Dn
/-! ### states: where one is, and the lots so far -/
abbrev Stt := Nat × List Nat
def nxl (m : Nat) (l : List Nat) (t : Tie) : List Nat := (List.range m).filter fun x => decide (x ∈ l ∨ x ∈ t.2.2)
def lotsOf (m : Nat) (r : List Tie) : List Nat := (List.range m).filter fun x => r.any fun t => decide (x ∈ t.2.2)
inductive Reach (m : Nat) (ts : List Tie) (b : Nat) : Stt → Prop
  | base : Reach m ts b (b, [])
  | step {l : List Nat} {t : Tie} : Reach m ts b (t.1, l) → t ∈ ts → Reach m ts b (t.2.1, nxl m l t)
theorem lotsOf_snoc {m : Nat} {r : List Tie} {t : Tie} : lotsOf m (r ++ [t]) = nxl m (lotsOf m r) t := by
  unfold nxl
  show (List.range m).filter _ = _
  refine List.filter_congr fun x hx => ?_
  rw [Bool.eq_iff_iff, decide_eq_true_iff, List.any_append, Bool.or_eq_true]
  have : x ∈ lotsOf m r ↔ (r.any fun t => decide (x ∈ t.2.2)) = true := by
    unfold lotsOf
    rw [List.mem_filter]
    exact ⟨fun h => h.2, fun h => ⟨hx, h⟩⟩
  rw [this]
  simp
theorem lotsOf_nil {m : Nat} : lotsOf m [] = [] := by
  unfold lotsOf
  exact List.filter_eq_nil_iff.mpr fun x _ => by simp
theorem reach_walk {m : Nat} {ts : List Tie} {b : Nat} {s : Stt} (h : Reach m ts b s) : ∃ r, WT ts b r s.1 ∧ s.2 = lotsOf m r := by
  induction h with
  | base => exact ⟨[], .nil, lotsOf_nil.symm⟩
  | @step l t _ ht ih =>
    obtain ⟨r, w, e⟩ := ih
    refine ⟨r ++ [t], w.app (.cons ht .nil), ?_⟩
    rw [lotsOf_snoc, ← e]
theorem walk_reach {m : Nat} {ts : List Tie} {b : Nat} : ∀ {a c : Nat} {r : List Tie}, WT ts a r c → ∀ {r0 : List Tie}, Reach m ts b (a, lotsOf m r0) → Reach m ts b (c, lotsOf m (r0 ++ r))
  | _, _, _, .nil, r0, h => by
    rw [List.append_nil]
    exact h
  | _, _, _, @WT.cons _ t r _ ht w, r0, h => by
    have := walk_reach w (r0 := r0 ++ [t]) (by rw [lotsOf_snoc]; exact h.step ht)
    rw [List.append_assoc] at this
    exact this
theorem lots_all {m : Nat} {r : List Tie} : lotsOf m r = List.range m ↔ ∀ lot < m, ∃ t ∈ r, lot ∈ t.2.2 := by
  unfold lotsOf
  rw [List.filter_eq_self]
  constructor
  · intro h lot hl
    obtain ⟨t, ht, z⟩ := List.any_eq_true.mp (h lot (List.mem_range.mpr hl))
    exact ⟨t, ht, of_decide_eq_true z⟩
  · intro h x hx
    obtain ⟨t, ht, z⟩ := h x (List.mem_range.mp hx)
    exact List.any_eq_true.mpr ⟨t, ht, decide_eq_true z⟩
theorem round_iff {m : Nat} {ts : List Tie} (m0 : 0 < m) : Round m ts ↔ ∃ b, (∃ t ∈ ts, t.1 = b) ∧ Reach m ts b (b, List.range m) := by
  constructor
  · rintro ⟨b, r, ne, w, all⟩
    refine ⟨b, ?_, ?_⟩
    · cases w with
      | nil => exact absurd rfl ne
      | cons h _ => exact ⟨_, h, rfl⟩
    · have := walk_reach (m := m) w (r0 := []) (by rw [lotsOf_nil]; exact .base)
      rw [List.nil_append, lots_all.mpr all] at this
      exact this
  · rintro ⟨b, _, h⟩
    obtain ⟨r, w, e⟩ := reach_walk h
    have all := lots_all.mp e.symm
    refine ⟨b, r, fun e => ?_, w, all⟩
    obtain ⟨t, ht, _⟩ := all 0 m0
    rw [e] at ht
    exact absurd ht List.not_mem_nil
/-! ### how many there may be -/
def subs : Nat → List (List Nat)
  | 0 => [[]]
  | m + 1 => subs m ++ (subs m).map (· ++ [m])
theorem subs_len : ∀ m, (subs m).length = 2 ^ m
  | 0 => rfl
  | m + 1 => by
    unfold subs
    rw [List.length_append, List.length_map, subs_len m, Nat.pow_succ]
    omega
theorem mem_subs (p : Nat → Bool) : ∀ m, (List.range m).filter p ∈ subs m
  | 0 => by simp [subs]
  | m + 1 => by
    unfold subs
    rw [List.range_succ, List.filter_append, List.mem_append]
    cases e : p m with
    | false =>
      left
      rw [List.filter_cons_of_neg (by rw [e]; decide), List.filter_nil, List.append_nil]
      exact mem_subs p m
    | true =>
      right
      rw [List.filter_cons_of_pos e, List.filter_nil]
      exact List.mem_map.mpr ⟨_, mem_subs p m, rfl⟩
theorem nil_subs : ∀ m, [] ∈ subs m
  | 0 => by simp [subs]
  | m + 1 => by
    unfold subs
    exact List.mem_append.mpr (.inl (nil_subs m))
def allS (n m : Nat) : List Stt := (List.range n).flatMap fun x => (subs m).map fun l => (x, l)
theorem allS_len (n m : Nat) : (allS n m).length = n * 2 ^ m := by
  unfold allS
  rw [List.length_flatMap]
  induction n with
  | zero => simp
  | succ n ih =>
    rw [List.range_succ, List.map_append, List.sum_append, ih]
    simp [subs_len, Nat.succ_mul]
theorem mem_allS {n m x : Nat} {l : List Nat} (h : x < n) (hl : l ∈ subs m) : (x, l) ∈ allS n m := List.mem_flatMap.mpr ⟨x, List.mem_range.mpr h, List.mem_map.mpr ⟨l, hl, rfl⟩⟩
theorem pigA {α : Type} [DecidableEq α] {es : List α} : ∀ {l : List α}, l.Nodup → (∀ x ∈ l, x ∈ es) → l.length ≤ es.length := fun {l} => by
  induction l generalizing es with
  | nil => exact fun _ _ => Nat.zero_le _
  | cons x l ih =>
    intro nd sub
    rw [List.nodup_cons] at nd
    have hx := sub x List.mem_cons_self
    have z := ih (es := es.erase x) nd.2 fun y hy => (List.mem_erase_of_ne (fun e : y = x => nd.1 (e ▸ hy))).mpr (sub y (List.mem_cons_of_mem _ hy))
    rw [List.length_erase_of_mem hx] at z
    have : 0 < es.length := List.length_pos_of_mem hx
    rw [List.length_cons]
    omega
/-! ### as keys -/
def nkN (x : Nat) : NestedKey := .num (x : Int)
def nk (s : Stt) : NestedKey := .tup [nkN s.1, .tup (s.2.map nkN)]
def dStt (s : Stt) : PyData := .tuple [.int (s.1 : Nat), .tuple (s.2.map dI)]
theorem datas_nk : ∀ l : List Nat, NestedKey.datas (l.map nkN) = l.map dI
  | [] => by simp [NestedKey.datas]
  | x :: l => by
    rw [List.map_cons, NestedKey.datas, datas_nk l]
    simp [nkN, NestedKey.data, dI]
theorem nk_data (s : Stt) : (nk s).data = dStt s := by
  unfold nk dStt nkN
  rw [NestedKey.data, NestedKey.datas, NestedKey.datas, NestedKey.datas, NestedKey.data, NestedKey.data]
  congr 3
  exact congrArg PyData.tuple (datas_nk s.2)
theorem nkN_inj {a b : List Nat} (h : a.map nkN = b.map nkN) : a = b := (List.map_inj_right fun x y e => by
  unfold nkN at e
  injection e with e
  omega).mp h
theorem nk_inj {a b : Stt} (h : nk a = nk b) : a = b := by
  unfold nk at h
  injection h with h
  injection h with h1 h2
  injection h2 with h2 _
  injection h2 with h2
  unfold nkN at h1
  injection h1 with h1
  exact Prod.ext (by omega) (nkN_inj h2)
theorem depth_nums : ∀ l : List Nat, NestedKey.depthAll (l.map nkN) = 0
  | [] => by simp [NestedKey.depthAll]
  | x :: l => by
    rw [List.map_cons, NestedKey.depthAll, depth_nums l]
    simp [nkN, NestedKey.depth]
theorem nk_depth (s : Stt) : (nk s).depth ≤ 8 := by
  unfold nk
  rw [NestedKey.depth, NestedKey.depthAll, NestedKey.depthAll, NestedKey.depthAll, NestedKey.depth, depth_nums]
  simp [nkN, NestedKey.depth]
theorem dStt_eqv {a b : Stt} : PyData.eqv (dStt a) (dStt b) = decide (a = b) := by
  have pl : ∀ s : Stt, Sf.Pl 2 (dStt s) := fun s => Sf.pl2 (Sf.pl_int.mono (by decide)) (Sf.Pl.tup (n := 0) fun d hd => by
    obtain ⟨x, _, rfl⟩ := List.mem_map.mp hd
    exact Sf.pl_int)
  rw [Bool.eq_iff_iff, decide_eq_true_iff]
  constructor
  · intro h
    have := Sf.eqv_eq _ _ (pl a).1 (pl b).1 h
    unfold dStt at this
    injection this with this
    injection this with h1 h2
    injection h2 with h2 _
    injection h2 with h2
    injection h1 with h1
    refine Prod.ext (by omega) ((List.map_inj_right fun x y e => ?_).mp h2)
    unfold dI at e
    injection e with e
    omega
  · rintro rfl
    exact Sf.eqv_self (pl a).1
theorem dStt_sh (s : Stt) : SeqAt.shaped (dStt s) = true := (show Sf.Pl 2 (dStt s) from Sf.pl2 (Sf.pl_int.mono (by decide)) (Sf.Pl.tup (n := 0) fun d hd => by
    obtain ⟨x, _, rfl⟩ := List.mem_map.mp hd
    exact Sf.pl_int)).shaped (by decide)
end W35

namespace W35
open PySem PySem.Spec PyProof.Rows L2 Gs Gp Gr Dw Dn
/-! ### _law_comes_round -/
theorem dt_tup {K : PySem.W.Frag} {H : Hp} {v : V} {ds : List PyData} (h : Dt K H v (.tuple ds)) : ∃ a xs, v = .ref a ∧ SqT K H a xs ∧ DtAll K H xs ds := by
  cases h with
  | tup h r => exact ⟨_, _, rfl, h.elim (fun h => SqT.of h) fun h => h H, r⟩
theorem dt_stt {K : PySem.W.Frag} {H : Hp} {v : V} {s : Stt} (h : Dt K H v (dStt s)) : ∃ a l, v = .ref a ∧ SqT K H a [.int (s.1 : Nat), .ref l] ∧ SqT K H l (s.2.map vI) := by
  obtain ⟨a, xs, rfl, ha, al⟩ := dt_tup h
  cases al with
  | cons h1 r =>
    cases r with
    | cons h2 r =>
      cases r
      cases h1
      obtain ⟨l, ys, rfl, hl, bl⟩ := dt_tup h2
      have e : ys = s.2.map vI := by
        rw [vI_map]
        exact dpA_ints (by rw [dInts_ci]; exact bl.dp)
      subst e
      exact ⟨a, l, rfl, ha, hl⟩
theorem DtAll.unsnoc {K : PySem.W.Frag} {H : Hp} {d : PyData} : ∀ {ds : List PyData} {vs : List V}, DtAll K H vs (ds ++ [d]) → ∃ ws v, vs = ws ++ [v] ∧ DtAll K H ws ds ∧ Dt K H v d
  | [], _, .cons h .nil => ⟨[], _, rfl, .nil, h⟩
  | e :: ds, _, .cons h r => by
    obtain ⟨ws, v, rfl, h1, h2⟩ := DtAll.unsnoc (ds := ds) r
    exact ⟨_ :: ws, v, rfl, .cons h h1, h2⟩
theorem catA {K : PySem.W.Frag} {H : Hp} {a b : Addr} {xs ys : List V} {Q : VK} (ha : SqT K H a xs) (hb : SqT K H b ys) (hl : xs.length + ys.length ≤ 900) (q : ∀ H' c, Same H H' → SqT K H' c (xs ++ ys) → Q (.ref c) H') : rCatA K (.ref a) (.ref b) H Q := by
  refine ⟨a, b, xs, ys, rfl, rfl, ha, hb, Nat.le_of_lt (small1000 (by omega)), fun e => ?_, fun _ e => ?_, fun _ _ p hp => ?_⟩
  · subst e
    exact q H b (Same.refl _) hb
  · subst e
    exact q H a (Same.refl _) (by rw [List.append_nil]; exact ha)
  · exact q _ p (same_new hp) (SqT.of upd_same)
theorem nxl_mem {m : Nat} {l : List Nat} {t : Tie} {x : Nat} : x ∈ nxl m l t ↔ x < m ∧ (x ∈ l ∨ x ∈ t.2.2) := by
  unfold nxl
  rw [List.mem_filter, List.mem_range, decide_eq_true_iff]
theorem reach_lt {m : Nat} {ts : List Tie} {b : Nat} {s : Stt} (h : Reach m ts b s) : ∀ x ∈ s.2, x < m := by
  obtain ⟨r, _, e⟩ := reach_walk h
  intro x hx
  rw [e] at hx
  exact List.mem_range.mp (List.mem_filter.mp hx).1
theorem nxl_sorted {m : Nat} {l : List Nat} {t : Tie} {ns : List Int} (hl : ∀ x ∈ l, x < m) (ht : ∀ x ∈ t.2.2, x < m) (pw : ns.Pairwise (· < ·)) (mem : ∀ k : Int, k ∈ ns ↔ decide (k ∈ (l ++ t.2.2).map ci) = true) : ns = (nxl m l t).map ci := by
  have p2 : ((nxl m l t).map ci).Pairwise (· < ·) := by
    rw [List.pairwise_map]
    refine List.Pairwise.imp (fun {a b} h => ?_) (List.Pairwise.filter _ List.pairwise_lt_range)
    unfold ci
    omega
  have nd : ∀ {l : List Int}, l.Pairwise (· < ·) → l.Nodup := fun h => h.imp fun {a b} h => by omega
  have le : ∀ {l : List Int}, l.Pairwise (· < ·) → l.Pairwise (· ≤ ·) := fun h => h.imp fun {a b} h => by omega
  refine List.Perm.eq_of_pairwise (le := (· ≤ ·)) (fun a b _ _ h1 h2 => Int.le_antisymm h1 h2) (le pw) (le p2) ((List.perm_ext_iff_of_nodup (nd pw) (nd p2)).mpr fun k => ?_)
  rw [mem, decide_eq_true_iff]
  constructor
  · intro h
    obtain ⟨x, hx, rfl⟩ := List.mem_map.mp h
    refine List.mem_map.mpr ⟨x, nxl_mem.mpr ?_, rfl⟩
    rcases List.mem_append.mp hx with h | h
    · exact ⟨hl x h, .inl h⟩
    · exact ⟨ht x h, .inr h⟩
  · intro h
    obtain ⟨x, hx, rfl⟩ := List.mem_map.mp h
    exact List.mem_map.mpr ⟨x, List.mem_append.mpr (nxl_mem.mp hx).2, rfl⟩
/-- what is kept while one goes along -/
structure Gone (P : Program) (w : World) (K : PySem.W.Frag) (m n : Nat) (ts : List Tie) (b : Nat) (S W : Addr) (H : Hp) (vs st : List Stt) : Prop where
  dic : ∃ kvs, H S = some (DN P w S kvs) ∧ kvs.map (·.1) = vs.map nk ∧ ∀ e ∈ kvs, Dt K H (.ref e.2.1) e.1.data
  lst : ∃ ws, H W = some (.lst ws) ∧ DtAll K H ws (st.map dStt)
  nd : vs.Nodup
  re : ∀ v ∈ vs, Reach m ts b v
  al : ∀ v ∈ vs, v ∈ allS n m
  no : (b, List.range m) ∉ vs
  be : (b, []) ∈ vs
  sv : ∀ v ∈ st, v ∈ vs
  sl : st.length ≤ vs.length
theorem Gone.tk {P : Program} {w : World} {K : PySem.W.Frag} {m n : Nat} {ts : List Tie} {b : Nat} {S W : Addr} {H H' : Hp} {vs st : List Stt} (s : Same H H') (g : Gone P w K m n ts b S W H vs st) : Gone P w K m n ts b S W H' vs st := by
  obtain ⟨kvs, h1, h2, h3⟩ := g.dic
  obtain ⟨ws, h4, h5⟩ := g.lst
  exact ⟨⟨kvs, s _ _ h1, h2, fun e he => (h3 e he).tk (tk_same s)⟩, ⟨ws, s _ _ h4, h5.tk (tk_same s)⟩, g.nd, g.re, g.al, g.no, g.be, g.sv, g.sl⟩
def Cls (m : Nat) (ts : List Tie) (vs : List Stt) (v : Stt) : Prop := ∀ t ∈ ts, t.1 = v.1 → (t.2.1, nxl m v.2 t) ∈ vs
theorem Cls.mono {m : Nat} {ts : List Tie} {vs us : List Stt} {v : Stt} (h : ∀ x ∈ vs, x ∈ us) (c : Cls m ts vs v) : Cls m ts us v := fun t ht e => h _ (c t ht e)
theorem closed_no {m : Nat} {ts : List Tie} {b : Nat} {vs : List Stt} (be : (b, []) ∈ vs) (cl : ∀ v ∈ vs, Cls m ts vs v) {s : Stt} (r : Reach m ts b s) : s ∈ vs := by
  induction r with
  | base => exact be
  | step _ ht ih => exact cl _ ih _ ht rfl
abbrev NCr : List Str := ["_law_ties_here", "_law_count", "_law_many", "_law_begin", "_law_states", "_law_waiting", "_law_here", "_law_lots", "_law_tie", "_law_later"]
theorem scRound : FnScope NCr ["_law_ties_here", "_law_count", "_law_many"] (defScope sRound) := ⟨rfl, rfl, rfl, by decide +kernel, rfl, by decide +kernel, by decide +kernel⟩
def spRound : Sp := fun vs H Q _ => ∃ (T : Addr) (n m : Nat) (us : List V) (ts : List Tie), vs = [.ref T, .int n, .int m] ∧ H T = some (.lst us) ∧ Ties H us ts ∧ (∀ t ∈ ts, t.1 < n ∧ t.2.1 < n ∧ (∀ x ∈ t.2.2, x < m) ∧ t.2.2.length ≤ m) ∧ n ≤ 4 ∧ 0 < m ∧ m ≤ 2 ∧ ts.length ≤ 900 ∧
  ∀ H' b, Same H H' → (b = true ↔ Round m ts) → Q (.bl b) H'
section
variable {P : Program} {w : World} {K : PySem.W.Frag} {mg : Str → Option Value} {base : Heap} {f f1 f2 : Addr} {fd d1 d2 : FuncData} {k : Nat}
theorem ok_round (F : Fun K "_law_comes_round" "_law_comes_round" sRound f fd) (mr : mg "range" = none) (mt : mg "tuple" = none) (ms : mg "sorted" = none) (me : mg "set" = none) : FnOk P w K mg base CX0 (k + 1) f fd ["_law_ties_here", "_law_count", "_law_many"] spRound := by
  refine F.ok scRound (fun vs H Q E h => ?_) (fun cdv A outer s H vs Q E hr h => ?_)
  · obtain ⟨T, n, m, us, ts, rfl, _⟩ := h
    rfl
  · obtain ⟨T, n, m, us, ts, rfl, hT, tu, bd, n4, m0, m2, tl, q⟩ := h
    have u9 : (A.deeper (envOfC "_law_comes_round" (defScope sRound) s.heap.objs.size f cdv)).units + 9 < cLine := by have := hr.units; omega
    refine ⟨_, pss_cons (ps_for PassesOwn.never rfl (pi_range1 (by rfl) mr (pa_cons (pv 1) pa_nil)) (pg_name (i := 3) scRound.nd rfl (Or.inl rfl))
        (pss_cons (ps_set (i := 4) scRound.nd rfl (.inl rfl) (pe_disp1P (P := P) (w := w) rfl rfl (Nat.lt_of_succ_lt u9) (pe_tup (pa_cons (pv 3) (pa_cons (pe_tup pa_nil) pa_nil))) pe_bl))
        (pss_cons (ps_set (i := 5) scRound.nd rfl (.inl rfl) (pe_lst (pa_cons (pe_tup (pa_cons (pv 3) (pa_cons (pe_tup pa_nil) pa_nil))) pa_nil)))
        (pss_one (ps_while PassesOwn.never (pt_cmpR (op_neNil hr.units0) (pv 5) (pe_lst pa_nil) (nomark _))
          (pss_cons (ps_asg (pe_bm0 PySem.F.plainAttrs_list PySem.F.slot_list_pop PySem.F.type_list_pop mt_pop (pv 5)) (pg_tup (by rfl) (pgs_cons (pg_name (i := 6) scRound.nd rfl (.inl rfl)) (pgs_cons (pg_name (i := 7) scRound.nd rfl (.inl rfl)) pgs_nil))))
          (pss_one (ps_for PassesOwn.never rfl (pi_list (pv 0)) (pg_name (i := 8) scRound.nd rfl (Or.inl rfl))
            (pss_one (ps_if (pt_cmpR op_eq (pe_ix ix_tup (pv 8) pe_int (fun _ _ => rfl)) (pv 6) (nomark _))
              (pss_cons (ps_set (i := 9) scRound.nd rfl (.inl rfl) (pe_tup (pa_cons (pe_ix ix_tup (pv 8) pe_int (fun _ _ => rfl)) (pa_cons (pe_callTy call_tuple_of (by rfl) mt (by decide +kernel) (pa_cons (pe_callB (cr_sortedSetW (w := w) rfl rfl) (by rfl) ms (by decide +kernel) (pa_cons (pe_callTy (cr_setTIw (w := w) rfl rfl) (by rfl) me (by decide +kernel) (pa_cons (pe_op op_catA (pv 7) (pe_ix ix_tup (pv 8) pe_int (fun _ _ => rfl))) pa_nil)) pa_nil)) pa_nil)) pa_nil))))
              (pss_cons (ps_if (pt_cmpR (op_eqD hr.units) (pv 9) (pe_tup (pa_cons (pv 3) (pa_cons (pe_tupRg rfl (by rfl) mt (prg_1 (by rfl) mr (pv 2))) pa_nil))) (nomark _)) (pss_one (ps_ret pe_bl)) pss_nil)
              (pss_one (ps_if (pt_cmpR (op_notInNP (P := P) (w := w) rfl rfl u9) (pv 9) (pv 4) (by rfl))
                (pss_cons (ps_asg pe_bl (pg_sub (pv 4) (pv 9) (set_dNP (P := P) (w := w) rfl rfl u9)))
                (pss_one (ps_expr (pe_bm PySem.F.plainAttrs_list PySem.F.slot_list_append PySem.F.type_list_append mt_append (pv 5) (pa_cons (pv 9) pa_nil)))))
                pss_nil)))) pss_nil))))))))))
      (pss_one (ps_ret pe_bl)), ?_⟩
    have ul := tu.len
    have SN := allS_len n m
    have N16 : (allS n m).length ≤ 16 := by
      rw [SN]
      have : 2 ^ m ≤ 2 ^ 2 := Nat.pow_le_pow_right (by decide) m2
      calc n * 2 ^ m ≤ 4 * 2 ^ 2 := Nat.mul_le_mul n4 this
        _ = 16 := by decide
    generalize hN : (allS n m).length = N at *
    refine ⟨_, rfl, (n : Int), rfl, by omega, by omega, ?_⟩
    rw [Int.toNat_natCast]
    refine for_range (n := n) (fun i σ H' => ∃ x3 x4 x5 x6 x7 x8 x9 : Option V, σ = [some (.ref T), some (.int n), some (.int m), x3, x4, x5, x6, x7, x8, x9] ∧ Same H H' ∧ ∀ b < i, ¬ Reach m ts b (b, List.range m))
      ⟨_, _, _, _, _, _, _, rfl, Same.refl _, fun b hb => absurd hb (Nat.not_lt_zero _)⟩ (fun i σ H1 hi hp => ?body) (fun σ H1 hp => ?fin)
    case fin =>
      obtain ⟨x3, x4, x5, x6, x7, x8, x9, rfl, s1, nor⟩ := hp
      refine q H1 false s1 ⟨fun z => absurd z (by decide), fun z => ?_⟩
      obtain ⟨b, ⟨t, ht, e⟩, r⟩ := (round_iff m0).mp z
      exact absurd r (nor b (by rw [← e]; exact (bd t ht).1))
    obtain ⟨x3, x4, x5, x6, x7, x8, x9, rfl, s1, nor⟩ := hp
    have zi : (0 : Int) + (i : Int) = ((i : Nat) : Int) := Int.zero_add _
    rw [zi]
    -- the states
    refine fun S hS => ⟨_, rfl, by show 0 ≤ sizeLine; decide, fun e1 he1 => ⟨by show 2 ≤ sizeLine; decide, fun k1 hk1 => ?_⟩⟩
    have a1 := same_new (o := DN P w S []) hS
    have a2 := same_new (o := .tup []) he1
    have a3 := same_new (o := .tup [.int (i : Nat), .ref e1]) hk1
    have eS3 : (upd (upd (upd H1 S (DN P w S [])) e1 (.tup [])) k1 (.tup [.int (i : Nat), .ref e1])) S = some (DN P w S []) := a3 _ _ (a2 _ _ upd_same)
    have dk1 : Dt K (upd (upd (upd H1 S (DN P w S [])) e1 (.tup [])) k1 (.tup [.int (i : Nat), .ref e1])) (.ref k1) (dStt (i, [])) := .tup (.inl upd_same) (.cons (.int _) (.cons (.tup (.inl (a3 _ _ upd_same)) .nil) .nil))
    have s13 : Same H1 (upd (upd (upd H1 S (DN P w S [])) e1 (.tup [])) k1 (.tup [.int (i : Nat), .ref e1])) := a1.trans (a2.trans a3)
    generalize upd (upd (upd H1 S (DN P w S [])) e1 (.tup [])) k1 (.tup [.int (i : Nat), .ref e1]) = H3 at *
    refine ⟨eS3, nk (i, []), k1, rfl, by rw [nk_data]; exact dk1.dp, nk_depth _, ?_⟩
    have tk4 : TK H3 (upd H3 S (DN P w S [(nk (i, []), k1, .bl true)])) := fun b xs h => by
      rw [upd_ne (fun z => by rw [z, eS3] at h; cases h)]
      exact h
    have dk1' := dk1.tk tk4
    have s14 : Same H1 (upd H3 S (DN P w S [(nk (i, []), k1, .bl true)])) := keep_new hS s13
    have eS4 : upd H3 S (DN P w S [(nk (i, []), k1, .bl true)]) S = some (DN P w S [(nk (i, []), k1, .bl true)]) := upd_same
    generalize upd H3 S (DN P w S [(nk (i, []), k1, .bl true)]) = H4 at *
    -- what waits
    refine ⟨_, rfl, by show 0 ≤ sizeLine; decide, fun e2 he2 => ⟨by show 2 ≤ sizeLine; decide, fun k2 hk2 => ⟨by show 1 ≤ sizeLine; decide, fun W hW => ?_⟩⟩⟩
    have b1 := same_new (o := .tup []) he2
    have b2 := same_new (o := .tup [.int (i : Nat), .ref e2]) hk2
    have b3 := same_new (o := .lst [.ref k2]) hW
    have s4 := b1.trans (b2.trans b3)
    have dk2 : Dt K (upd (upd (upd H4 e2 (.tup [])) k2 (.tup [.int (i : Nat), .ref e2])) W (.lst [.ref k2])) (.ref k2) (dStt (i, [])) := .tup (.inl (b3 _ _ upd_same)) (.cons (.int _) (.cons (.tup (.inl ((b2.trans b3) _ _ upd_same)) .nil) .nil))
    have TS : T ≠ S := ne_of_none (s1 _ _ hT) hS
    have TW : T ≠ W := fun z => by
      have := ((s14.trans b1).trans b2) _ _ (s1 _ _ hT)
      rw [z, hW] at this
      cases this
    have SW : S ≠ W := fun z => by
      have := (b1.trans b2) _ _ eS4
      rw [z, hW] at this
      cases this
    have hW1 : H1 W = none := free_same (s14.trans (b1.trans b2)) hW
    have rng0 : (i, List.range m) ∉ [((i, []) : Stt)] := fun z => by
      have this : List.range m = [] := congrArg Prod.snd (List.mem_singleton.mp z)
      have l := congrArg List.length this
      rw [List.length_range, List.length_nil] at l
      omega
    have G0 : Gone P w K m n ts i S W (upd (upd (upd H4 e2 (.tup [])) k2 (.tup [.int (i : Nat), .ref e2])) W (.lst [.ref k2])) [(i, [])] [(i, [])] :=
      ⟨⟨_, s4 _ _ eS4, rfl, fun e he => by
        rw [List.mem_singleton.mp he]
        show Dt K _ (.ref k1) (nk (i, [])).data
        rw [nk_data]
        exact dk1'.tk (tk_same s4)⟩, ⟨_, upd_same, .cons dk2 .nil⟩, List.nodup_cons.mpr ⟨List.not_mem_nil, List.nodup_nil⟩, fun v hv => by rw [List.mem_singleton.mp hv]; exact .base, fun v hv => by rw [List.mem_singleton.mp hv]; exact mem_allS hi (nil_subs m), rng0, List.mem_singleton.mpr rfl, fun v hv => hv, Nat.le_refl _⟩
    have s15 := s14.trans s4
    generalize upd (upd (upd H4 e2 (.tup [])) k2 (.tup [.int (i : Nat), .ref e2])) W (.lst [.ref k2]) = H5 at *
    clear dk1 dk1' dk2 tk4 eS3 eS4 b1 b2 b3 a1 a2 a3
    refine ⟨fun μ σ H' => ∃ (vs st : List Stt) (x6 x7 x8 x9 : Option V), μ = 2 * (N - vs.length) + st.length ∧ σ = [some (.ref T), some (.int n), some (.int m), some (.int (i : Nat)), some (.ref S), some (.ref W), x6, x7, x8, x9] ∧ Same H1 H' ∧ Gone P w K m n ts i S W H' vs st ∧ ∀ v ∈ vs, v ∈ st ∨ Cls m ts vs v,
      ⟨_, [(i, [])], [(i, [])], _, _, _, _, rfl, rfl, s15, G0, fun v hv => .inl hv⟩, fun μ σ H6 hp => ?_⟩
    obtain ⟨vs, st, x6, x7, x8, x9, rfl, rfl, s6, G, cl⟩ := hp
    obtain ⟨ws, eW, dW⟩ := G.lst
    refine ⟨_, rfl, by show 0 ≤ sizeLine; decide, fun B hB => ?_⟩
    have s7 := same_new (o := .lst []) hB
    have G7 := G.tk s7
    have eW7 := s7 _ _ eW
    have s17 := s6.trans s7
    refine ⟨W, B, _, rfl, rfl, SqL.of eW7, SqL.of upd_same, _, rfl, ?_⟩
    generalize upd H6 B (.lst []) = H7 at *
    have wl := dW.len
    rw [List.length_map] at wl
    have vN : vs.length ≤ N := by
      rw [← hN]
      exact pigA G.nd G.al
    by_cases c : 0 < ws.length
    · obtain ⟨st, v0, rfl⟩ : ∃ st' v0, st = st' ++ [v0] := by
        rcases List.eq_nil_or_concat st with e | ⟨a, b, e⟩
        · subst e
          rw [List.length_nil] at wl
          omega
        · exact ⟨a, b, by rw [e, List.concat_eq_append]⟩
      rw [List.map_append] at dW
      obtain ⟨ws, y, rfl, dW', dy⟩ := DtAll.unsnoc dW
      refine iteP (decide_eq_true c) ⟨fun σ' H' => ∃ (vs' st' : List Stt) (x6 x7 x8 x9 : Option V), 2 * (N - vs'.length) + st'.length < 2 * (N - vs.length) + (st ++ [v0]).length ∧ σ' = [some (.ref T), some (.int n), some (.int m), some (.int (i : Nat)), some (.ref S), some (.ref W), x6, x7, x8, x9] ∧ Same H1 H' ∧ Gone P w K m n ts i S W H' vs' st' ∧ ∀ v ∈ vs', v ∈ st' ∨ Cls m ts vs' v, fun σ' H' hN' => ?_, ?_⟩
      · obtain ⟨vs', st', y6, y7, y8, y9, lt, h1, h2, h3, h4⟩ := hN'
        exact ⟨_, lt, vs', st', y6, y7, y8, y9, rfl, h1, h2, h3, h4⟩
      obtain ⟨ky, ly, rfl, hky, hly⟩ := dt_stt (dy.tk (tk_same s7))
      refine ⟨_, rfl, .inl ⟨rfl, _, SqL.of eW7⟩, W, _, .ref ky, rfl, rfl, eW7, by simp, ?_⟩
      rw [List.dropLast_concat]
      have tk8 : TK H7 (upd H7 W (.lst ws)) := tk_lst eW7
      have sqt : ∀ {a : Addr} {xs : List V}, SqT K H7 a xs → SqT K (upd H7 W (.lst ws)) a xs := fun {a xs} h => by
        rcases h with (h | ⟨o, h⟩) | h
        · exact .inl (.inl (tk8 _ _ h))
        · exact .inl (.inr ⟨o, by rw [upd_ne (fun z => by rw [z, eW7] at h; cases h)]; exact h⟩)
        · exact .inr h
      have hky8 := sqt hky
      have hly8 := sqt hly
      have G8 : Gone P w K m n ts i S W (upd H7 W (.lst ws)) vs st := by
        obtain ⟨kvs, h1, h2, h3⟩ := G7.dic
        exact ⟨⟨kvs, by rw [upd_ne SW]; exact h1, h2, fun e he => (h3 e he).tk tk8⟩, ⟨ws, upd_same, (dW'.tk (tk_same s7)).tk tk8⟩, G.nd, G.re, G.al, G.no, G.be, fun v hv => G.sv v (List.mem_append.mpr (.inl hv)), by have := G.sl; rw [List.length_append] at this; omega⟩
      have s18 : Same H1 (upd H7 W (.lst ws)) := keep_new hW1 s17
      have v0m := G.sv v0 (List.mem_append.mpr (.inr (List.mem_singleton.mpr rfl)))
      have v0r := G.re v0 v0m
      have v0lt := reach_lt v0r
      generalize upd H7 W (.lst ws) = H8 at *
      clear G7 G dW dW' dy eW eW7 tk8 sqt hky hly wl
      have v0l : v0.2.length ≤ 2 := by
        obtain ⟨r, _, e⟩ := reach_walk v0r
        rw [e]
        have := List.length_filter_le (fun x => r.any fun t => decide (x ∈ t.2.2)) (List.range m)
        rw [List.length_range] at this
        exact Nat.le_trans this m2
      refine ⟨ky, _, rfl, hky8, rfl, _, _, rfl, _, _, rfl, rfl, ?_⟩
      have hT8 := (s1.trans s18) _ _ hT
      have tu8 := tu.tk (tk_same (s1.trans s18))
      refine ⟨_, rfl, T, rfl, ⟨_, SqL.of hT8⟩, for_list (K := K) (xs := us) (fun j σ H' => ∃ (vs' st' : List Stt) (x8 x9 : Option V), 2 * (N - vs'.length) + st'.length < 2 * (N - vs.length) + (st ++ [v0]).length ∧ σ = [some (.ref T), some (.int n), some (.int m), some (.int (i : Nat)), some (.ref S), some (.ref W), some (.int (v0.1 : Nat)), some (.ref ly), x8, x9] ∧ (∀ b o, b ≠ S → b ≠ W → H8 b = some o → H' b = some o) ∧ Same H1 H' ∧ Gone P w K m n ts i S W H' vs' st' ∧ (∀ v ∈ vs, v ∈ vs') ∧ ∀ v ∈ vs', v ∈ st' ∨ Cls m ts vs' v ∨ (v = v0 ∧ Cls m (ts.take j) vs' v))
        ⟨vs, st, _, _, by rw [List.length_append]; show _ < _ + (_ + 1); omega, rfl, fun b o _ _ h => h, s18, G8, fun v hv => hv, fun v hv => ?_⟩ (fun j σ H' _ hp => ?_) (fun j x σ H9 hx hp => ?_) (fun σ H9 hp => ?_)⟩
      · rcases cl v hv with h | h
        · rcases List.mem_append.mp h with h | h
          · exact .inl h
          · exact .inr (.inr ⟨List.mem_singleton.mp h, fun t ht => by rw [List.take_zero] at ht; exact absurd ht List.not_mem_nil⟩)
        · exact .inr (.inl h)
      · obtain ⟨_, _, _, _, _, _, kk, _⟩ := hp
        exact SqL.of (kk _ _ TS TW hT8)
      · obtain ⟨vs', st', x8, x9, lt, rfl, kk, s9, G9, sub, cl9⟩ := hp
        have jl := (List.getElem?_eq_some_iff.mp hx).1
        obtain ⟨t, l, a, b, ls, rfl, et, ht, hl⟩ := tu8.at hx
        have etm := List.mem_of_getElem? et
        obtain ⟨al, bl, ll, lll⟩ := bd _ etm
        have bl : b < n := bl
        have ll : ∀ x ∈ ls, x < m := ll
        have lll : ls.length ≤ m := lll
        have nS : ∀ {c : Addr} {xs : List V}, H8 c = some (.tup xs) → c ≠ S ∧ c ≠ W := fun {c xs} h => by
          obtain ⟨kvs, h1, _⟩ := G8.dic
          obtain ⟨wz, h2, _⟩ := G8.lst
          exact ⟨fun z => (by rw [z, h1] at h; cases h), fun z => (by rw [z, h2] at h; cases h)⟩
        have tk89 : TK H8 H9 := fun c xs h => kk c _ (nS h).1 (nS h).2 h
        have ht9 := tk89 _ _ ht
        have hl9 := tk89 _ _ hl
        have hly9 : SqT K H9 ly (v0.2.map vI) := by
          rcases hly8 with (h | ⟨o, h⟩) | h
          · exact .inl (.inl (tk89 _ _ h))
          · obtain ⟨kvs, h1, _⟩ := G8.dic
            obtain ⟨wz, h2, _⟩ := G8.lst
            exact .inl (.inr ⟨o, kk _ _ (fun z => by rw [z, h1] at h; cases h) (fun z => by rw [z, h2] at h; cases h) h⟩)
          · exact .inr h
        have tk1 : ts.take (j + 1) = ts.take j ++ [(a, b, ls)] := by rw [List.take_add_one, et, Option.toList_some]
        refine ⟨_, rfl, t, _, 0, _, rfl, rfl, SqT.of ht9, atI_nat (j := 0) rfl, _, rfl, rfl, _, rfl, ?_⟩
        by_cases c0 : ¬ a = v0.1
        · refine iteN (decide_eq_false fun z => c0 (by have := V.int.inj z; omega)) ⟨vs', st', _, _, lt, rfl, kk, s9, G9, sub, fun v hv => ?_⟩
          rcases cl9 v hv with h | h | ⟨rfl, h⟩
          · exact .inl h
          · exact .inr (.inl h)
          · refine .inr (.inr ⟨rfl, fun u hu e => ?_⟩)
            rw [tk1] at hu
            rcases List.mem_append.mp hu with hu | hu
            · exact h u hu e
            · rw [List.mem_singleton.mp hu] at e
              exact absurd e c0
        have c0 : a = v0.1 := Classical.not_not.mp c0
        refine iteP (decide_eq_true (by rw [c0])) ?_
        -- later
        refine ⟨_, rfl, t, _, 1, _, rfl, rfl, SqT.of ht9, atI_nat (j := 1) rfl, ?_⟩
        refine ⟨_, rfl, _, rfl, t, _, 2, _, rfl, rfl, SqT.of ht9, atI_nat (j := 2) rfl, catA hly9 (SqT.of hl9) (by rw [List.length_map, List.length_map]; omega) fun H10 c10 s10 hc10 => ?_⟩
        rw [← List.map_append, vI_map] at hc10
        refine ⟨c10, (v0.2 ++ ls).map ci, rfl, hc10, by rw [List.length_map, List.length_append]; show _ ≤ 1000; omega, fun p10 cc hp10 hcc => ?_⟩
        rw [List.length_map, List.length_append] at hcc
        refine ⟨p10, _, cc, rfl, upd_same, by omega, fun nz L pw mem ln hL => ?_⟩
        have enz := nxl_sorted (m := m) (l := v0.2) (t := (a, b, ls)) v0lt ll pw mem
        subst enz
        rw [← vI_map]
        have s11 := s10.trans ((same_new (o := SetO w p10 (fun k => decide (k ∈ (v0.2 ++ ls).map ci)) cc) hp10).trans (same_new (o := .lst ((nxl m v0.2 (a, b, ls)).map vI)) hL))
        refine ⟨L, _, rfl, .inl ⟨SqL.of upd_same, fun tt htt => ?_⟩⟩
        refine ⟨by show 2 ≤ sizeLine; decide, fun lt' hlt' => ?_⟩
        have f1 := same_new (o := .tup ((nxl m v0.2 (a, b, ls)).map vI)) htt
        have f2 := same_new (o := .tup [.int (b : Nat), .ref tt]) hlt'
        have s12 := s11.trans (f1.trans f2)
        have dl : Dt K (upd (upd (upd (upd H10 p10 (SetO w p10 (fun k => decide (k ∈ (v0.2 ++ ls).map ci)) cc)) L (.lst ((nxl m v0.2 (a, b, ls)).map vI))) tt (.tup ((nxl m v0.2 (a, b, ls)).map vI))) lt' (.tup [.int (b : Nat), .ref tt])) (.ref lt') (dStt (b, nxl m v0.2 (a, b, ls))) :=
          .tup (.inl upd_same) (.cons (.int _) (.cons (.tup (.inl (f2 _ _ upd_same)) (dt_ints _)) .nil))
        generalize upd (upd (upd (upd H10 p10 (SetO w p10 (fun k => decide (k ∈ (v0.2 ++ ls).map ci)) cc)) L (.lst ((nxl m v0.2 (a, b, ls)).map vI))) tt (.tup ((nxl m v0.2 (a, b, ls)).map vI))) lt' (.tup [.int (b : Nat), .ref tt]) = H12 at *
        have rel : Reach m ts i (b, nxl m v0.2 (a, b, ls)) := Reach.step (t := (a, b, ls)) (by rw [c0]; exact v0r) etm
        have als : (b, nxl m v0.2 (a, b, ls)) ∈ allS n m := mem_allS bl (mem_subs _ m)
        have nxe : nxl m v0.2 (a, b, ls) = nxl m v0.2 (a, b, ls) := rfl
        have clv : ∀ {us : List Stt}, (b, nxl m v0.2 (a, b, ls)) ∈ us → Cls m (ts.take j) us v0 → Cls m (ts.take (j + 1)) us v0 := fun {us} h1 h2 u hu e => by
          rw [tk1] at hu
          rcases List.mem_append.mp hu with hu | hu
          · exact h2 u hu e
          · rw [List.mem_singleton.mp hu]
            exact h1
        generalize hlv : (b, nxl m v0.2 (a, b, ls)) = lv at *
        -- is it all round
        refine ⟨_, rfl, _, rfl, _, rfl, (m : Int), rfl, ⟨by omega, by omega, by omega, by omega, by omega⟩, fun tr htr => ⟨by show 2 ≤ sizeLine; decide, fun tg htg => ?_⟩⟩
        have g1 := same_new (o := .tup (rgV 0 (m : Int))) htr
        have g2 := same_new (o := .tup [.int (i : Nat), .ref tr]) htg
        have dg : Dt K (upd (upd H12 tr (.tup (rgV 0 (m : Int)))) tg (.tup [.int (i : Nat), .ref tr])) (.ref tg) (dStt (i, List.range m)) :=
          .tup (.inl upd_same) (.cons (.int _) (.cons (.tup (.inl (g2 _ _ (by rw [upd_same, rg_vI]))) (dt_ints _)) .nil))
        have s13 := s12.trans (g1.trans g2)
        have dl13 := dl.tk (tk_same (g1.trans g2))
        generalize upd (upd H12 tr (.tup (rgV 0 (m : Int)))) tg (.tup [.int (i : Nat), .ref tr]) = H13 at *
        refine ⟨dStt lv, dStt (i, List.range m), dl13.dp, dg.dp, dStt_sh _, dStt_sh _, _, rfl, ?_⟩
        rw [dStt_eqv]
        have s913 : Same H1 H13 := s9.trans s13
        by_cases ev : lv = (i, List.range m)
        · refine iteP (decide_eq_true ev) (q H13 true (s1.trans s913) ⟨fun _ => (round_iff m0).mpr ⟨i, ?_, by rw [← ev]; exact rel⟩, fun _ => rfl⟩)
          obtain ⟨r, wr, er⟩ := reach_walk rel
          rw [ev] at wr er
          have all := lots_all.mp er.symm
          cases wr with
          | nil =>
            obtain ⟨u, hu, _⟩ := all 0 m0
            exact absurd hu List.not_mem_nil
          | cons h _ => exact ⟨_, h, rfl⟩
        refine iteN (decide_eq_false ev) ?_
        have G13 := G9.tk s13
        obtain ⟨kvs, eS13, ekv, dkv⟩ := G13.dic
        obtain ⟨wz, eW13, dwz⟩ := G13.lst
        have kl : kvs.length = vs'.length := by
          have := congrArg List.length ekv
          rwa [List.length_map, List.length_map] at this
        have vN' : vs'.length ≤ N := by
          rw [← hN]
          exact pigA G9.nd G9.al
        have kat : KeysAt K H13 kvs := fun e he => ⟨(dkv e he).dp, by
          have : e.1 ∈ vs'.map nk := by
            rw [← ekv]
            exact List.mem_map.mpr ⟨e, he, rfl⟩
          obtain ⟨v, _, ev⟩ := List.mem_map.mp this
          rw [← ev]
          exact nk_depth v⟩
        have dlk : Dp K H13 (.ref lt') (nk lv).data := by
          rw [nk_data]
          exact dl13.dp
        have memk : nk lv ∈ kvs.map (·.1) ↔ lv ∈ vs' := by
          rw [ekv]
          constructor
          · intro h
            obtain ⟨v, hv, e⟩ := List.mem_map.mp h
            rw [← nk_inj e]
            exact hv
          · exact fun h => List.mem_map.mpr ⟨lv, h, rfl⟩
        have kk13 : ∀ b o, b ≠ S → b ≠ W → H8 b = some o → H13 b = some o := fun b o h1 h2 h => s13 _ _ (kk b o h1 h2 h)
        refine ⟨_, rfl, _, rfl, S, kvs, nk lv, lt', rfl, rfl, eS13, kat, dlk, nk_depth _, _, rfl, ?_⟩
        by_cases nw : lv ∈ vs'
        · refine iteN (by rw [decide_eq_true (memk.mpr nw)]; rfl) ⟨vs', st', _, _, lt, rfl, kk13, s913, G13, sub, fun v hv => ?_⟩
          rcases cl9 v hv with h | h | ⟨rfl, h⟩
          · exact .inl h
          · exact .inr (.inl h)
          · exact .inr (.inr ⟨rfl, clv nw h⟩)
        refine iteP (by rw [decide_eq_false fun h => nw (memk.mp h)]; rfl) ?_
        refine ⟨_, rfl, _, rfl, S, kvs, nk lv, lt', rfl, rfl, eS13, kat, dlk, nk_depth _, small1000 (by omega), fun h => nw (memk.mp h), ?_⟩
        have tk14 : TK H13 (upd H13 S (DN P w S (kvs ++ [(nk lv, lt', .bl true)]))) := fun b xs h => by
          rw [upd_ne (fun z => by rw [z, eS13] at h; cases h)]
          exact h
        have eW14 : upd H13 S (DN P w S (kvs ++ [(nk lv, lt', .bl true)])) W = some (.lst wz) := by
          rw [upd_ne SW.symm]
          exact eW13
        have wzl := dwz.len
        rw [List.length_map] at wzl
        have stN : st'.length < 1000 := by
          have := G9.sl
          omega
        refine ⟨_, rfl, .inl ⟨rfl, _, SqL.of eW14⟩, _, rfl, W, _, _, rfl, rfl, eW14, small1000 (by omega), ?_⟩
        have tk15 : TK (upd H13 S (DN P w S (kvs ++ [(nk lv, lt', .bl true)]))) (upd (upd H13 S (DN P w S (kvs ++ [(nk lv, lt', .bl true)]))) W (.lst (wz ++ [.ref lt']))) := tk_lst eW14
        have dl15 := (dl13.tk tk14).tk tk15
        refine ⟨vs' ++ [lv], st' ++ [lv], _, _, ?_, rfl, fun b o h1 h2 h => by rw [upd_ne h2, upd_ne h1]; exact kk13 b o h1 h2 h, ?_, ?_, fun v hv => List.mem_append.mpr (.inl (sub v hv)), fun v hv => ?_⟩
        · rw [List.length_append, List.length_append]
          have z1 : [lv].length = 1 := rfl
          have : vs'.length + 1 ≤ N := by
            rw [← hN]
            have := pigA (es := allS n m) (l := vs' ++ [lv]) (List.nodup_append.mpr ⟨G9.nd, List.nodup_cons.mpr ⟨List.not_mem_nil, List.nodup_nil⟩, fun x hx y hy e => by rw [List.mem_singleton.mp hy] at e; exact nw (e ▸ hx)⟩) (fun x hx => (List.mem_append.mp hx).elim (G9.al x) fun h => by rw [List.mem_singleton.mp h]; exact als)
            rwa [List.length_append] at this
          omega
        · exact keep_new hW1 (keep_new hS s913)
        · refine ⟨⟨kvs ++ [(nk lv, lt', .bl true)], by rw [upd_ne SW]; exact upd_same, ?_, fun e he => ?_⟩, ⟨wz ++ [.ref lt'], upd_same, ?_⟩, ?_, fun v hv => ?_, fun v hv => ?_, fun h => ?_, List.mem_append.mpr (.inl G9.be), fun v hv => ?_, by have := G9.sl; rw [List.length_append, List.length_append]; omega⟩
          · rw [List.map_append, List.map_append, ekv]
            rfl
          · rcases List.mem_append.mp he with h | h
            · exact ((dkv e h).tk tk14).tk tk15
            · rw [List.mem_singleton.mp h]
              show Dt K _ (.ref lt') (nk lv).data
              rw [nk_data]
              exact dl15
          · rw [List.map_append]
            exact ((dwz.tk tk14).tk tk15).app (.cons dl15 .nil)
          · exact List.nodup_append.mpr ⟨G9.nd, List.nodup_cons.mpr ⟨List.not_mem_nil, List.nodup_nil⟩, fun x hx y hy e => by rw [List.mem_singleton.mp hy] at e; exact nw (e ▸ hx)⟩
          · exact (List.mem_append.mp hv).elim (G9.re v) fun h => by rw [List.mem_singleton.mp h]; exact rel
          · exact (List.mem_append.mp hv).elim (G9.al v) fun h => by rw [List.mem_singleton.mp h]; exact als
          · exact (List.mem_append.mp h).elim G9.no fun h => ev (List.mem_singleton.mp h).symm
          · exact (List.mem_append.mp hv).elim (fun h => List.mem_append.mpr (.inl (G9.sv v h))) fun h => List.mem_append.mpr (.inr h)
        · rcases List.mem_append.mp hv with hv | hv
          · have mono : ∀ x ∈ vs', x ∈ vs' ++ [lv] := fun x hx => List.mem_append.mpr (.inl hx)
            rcases cl9 v hv with h | h | ⟨rfl, h⟩
            · exact .inl (List.mem_append.mpr (.inl h))
            · exact .inr (.inl (h.mono mono))
            · exact .inr (.inr ⟨rfl, clv (List.mem_append.mpr (.inr (List.mem_singleton.mpr rfl))) (h.mono mono)⟩)
          · exact .inl (List.mem_append.mpr (.inr hv))
      · obtain ⟨vs', st', x8, x9, lt, rfl, kk, s9, G9, sub, cl9⟩ := hp
        refine ⟨vs', st', _, _, _, _, lt, rfl, s9, G9, fun v hv => ?_⟩
        rcases cl9 v hv with h | h | ⟨rfl, h⟩
        · exact .inl h
        · exact .inr h
        · rw [ul, List.take_length] at h
          exact .inr h
    · refine iteN (decide_eq_false c) ⟨_, _, _, _, _, _, _, rfl, s1.trans s17, fun b hb => ?_⟩
      by_cases e : b = i
      · subst e
        have st0 : st = [] := List.eq_nil_of_length_eq_zero (by omega)
        subst st0
        exact fun r => G.no (closed_no G.be (fun v hv => (cl v hv).resolve_left List.not_mem_nil) r)
      · exact nor b (by omega)
end
end W35

namespace Gs
open PySem PySem.Spec PyProof.Rows L2
section
variable {P : Program} {w : World} {K : PySem.W.Frag} {mg : Str → Option Value} {f : Addr}
/-- a def's body, run at one place alone -/
theorem body_at {A : Around} {base : Heap} {name qual : Str} {params : Arguments} {body : List Stmt} {scope : Scope} {dV kV doc pm cdv ct oc : Value} {an od : Option Addr} {osl : Array (Option Value)}
    {N ps : List Str} {k : Nat} {s : Shared} {H : Hp} {vs : List V} {us : List Value} {args : Args} {Q : VK} {E : XK}
    (lk : K.lookup f = some ⟨oc, od, .func (PySem.W.fnOf name qual params body scope dV kV doc pm an cdv ct), osl⟩)
    (hcd : PySem.W.codeIn K cdv qual = true) (S : FnScope N ps scope) (hl : vs.length = ps.length) (hr : Room (k + 1) A)
    (e0 : Env0 P w K mg base A [] s H) (hb : BindsTo s (PySem.W.fnOf name qual params body scope dV kV doc pm an cdv ct) args (ps.zip us)) (r : Vals vs us)
    (hbody : Room k (A.deeper (envOfC qual scope s.heap.objs.size f cdv)) →
      ∃ t, PSs (cxOf CX0 P w K mg base N qual scope f cdv A [] s H E).nox body t ∧
        t { nx := fun _ H' => Q .non H', rt := Q } (start N vs) H) :
    codeAny (model P w) A (.call (.ref f) args) (CR CX0 [] P w H s Q E) s := by
  have kk : ∀ b o, base.get? b = some o → s.heap.get? b = some o := fun b o e => (e0.bs b o e).1
  have KX : K.In s.heap := e0.mod.kin.keeps kk
  have lim : s.heap.NoLimit := e0.mod.nolimit.keeps kk
  have kinds : ∀ q ∈ ps.zip us, scope.names.lookup q.1 = some .local ∨
      (scope.names.lookup q.1 = some .cell ∧ ((cellsFrom (s.heap.objs.size + 1) scope.names []).lookup q.1).isSome = true) := by
    intro q hq
    rcases S.par q.1 (List.of_mem_zip (a := q.1) (b := q.2) hq).1 with z | z
    · exact .inl z
    · exact .inr ⟨z, PySem.W.cellsFrom_some _ _ _ (.inl z)⟩
  refine codeAny_call_function hr.depth (KX _ _ lk) rfl S.co S.gen rfl (PySem.W.codeRec_of KX hcd) (hb _ _ _ _ ?_)
  refine wpAny_newFunctionEnv_cells S.kind kinds fun env he s1 x => ?_
  subst he
  refine ⟨lim.keeps x.toInCall.keep, codeAny_func ?_⟩
  obtain ⟨t, ht, hq⟩ := hbody (hr.deeper _)
  have I : Inv (cxOf CX0 P w K mg base N qual scope f cdv A [] s H E) [] (start N vs) H s1 := inv_start S hr.hd e0 hl r x
  refine wpAny_mono (ht.nox.run [] s1 (start N vs) H _ I hq) (fun fl s' hs => ?_) fun e s' hs => hs
  cases fl with
  | ret u =>
    obtain ⟨v, σ', H', J, rv, q⟩ := hs
    exact ⟨v, H', J.os, J.bare, J.base, J.hok, rv, q⟩
  | next =>
    obtain ⟨σ', H', J, q⟩ := hs
    exact ⟨.non, H', J.os, J.bare, J.base, J.hok, rfl, q⟩
  | brk =>
    obtain ⟨_, _, _, q⟩ := hs
    exact q.elim
  | cont =>
    obtain ⟨_, _, _, q⟩ := hs
    exact q.elim
/-- the law's call, from the promise at the caller's own place -/
theorem law_at {mb : Str → Option Value} {a : Addr} {s₁ : Shared} {vs : List Value} {ns : List Int}
    (KX : K.In s₁.heap) (hns : s₁.heap.Ns mainGlobals mg) (hbt : s₁.heap.Ns builtinsNs mb) (hbb : ∀ x : Str, x ≠ "__name__" → mb x = bootBuiltins x)
    (hlim : s₁.heap.NoLimit) (hg : s₁.gens = #[])
    (ha : s₁.heap.get? a = some { cls := .type "list", data := .seq vs.toArray }) (hi : IntsAre vs ns) (hl : ns.length ≤ sizeLine)
    (F : ∀ (base : Heap) (H : Hp), K.In base → base.Ns mainGlobals mg → SqL K H a (ns.map V.int) → Env0 P w K mg base callerA [] s₁ H →
      codeAny (model P w) callerA (.call (.ref f) ⟨[.ref a], []⟩) (CR CX0 [] P w H s₁ (fun v _ => v = .bl true) fun _ _ _ => False) s₁) :
    codeAny (model P w) callerA (.call (.ref f) ⟨[.ref a], []⟩)
      (fun r s' => r = .ok (.ret (.bool true)) ∧ OldK s₁.heap s'.heap ∧ s'.os = s₁.os ∧ AllBare s'.gens) s₁ := by
  have rv := vals_ints hi
  let so : Obj := { cls := .type "list", data := .seq vs.toArray }
  have go : ∀ H : Hp, (∀ b u, H b = some u → b = a ∧ u = .frz so (.lst (ns.map V.int)) ∧ K.lookup a = none) → SqL K H a (ns.map V.int) → HOk P w H s₁.heap →
      codeAny (model P w) callerA (.call (.ref f) ⟨[.ref a], []⟩)
        (fun r s' => r = .ok (.ret (.bool true)) ∧ OldK s₁.heap s'.heap ∧ s'.os = s₁.os ∧ AllBare s'.gens) s₁ := by
    intro H hH hS hok
    have stays : ∀ {b : Addr} {o : Obj}, s₁.heap.get? b = some o → b ≠ a → (hidT s₁.heap H).get? b = some o := by
      intro b o e nb
      refine hidT_get e ?_
      cases q : H b with
      | none => rfl
      | some u => exact absurd (hH b u q).1 nb
    have nsd : ∀ {b : Addr} {m : Str → Option Value}, s₁.heap.Ns b m → (hidT s₁.heap H).Ns b m := by
      intro b m ⟨o, es, ep, e, d, z⟩
      refine ⟨o, es, ep, stays e ?_, d, z⟩
      intro eb
      subst eb
      rw [ha] at e
      cases e
      have d' : Data.seq vs.toArray _ = Data.dict es ep := d
      cases d'
    have kin : K.In (hidT s₁.heap H) := by
      intro b o e
      refine hidT_get (KX b o e) ?_
      cases q : H b with
      | none => rfl
      | some u =>
        obtain ⟨e1, _, e2⟩ := hH b u q
        rw [e1, e2] at e
        cases e
    have md : Mod K mg (hidT s₁.heap H) := by
      obtain ⟨mc, h1, h2⟩ := hlim
      exact ⟨kin, nsd hns, ⟨mb, nsd hbt, hbb⟩, ⟨mc, nsd h1, h2⟩⟩
    have e0 : Env0 P w K mg (hidT s₁.heap H) callerA [] s₁ H := by
      refine ⟨rfl, md, fun b o e => of_hidT e, Nat.le_of_eq (hidT_size _ _), trivial, ?_, hok, .of_eq hg⟩
      intro b z
      exact absurd (show b ∈ ([] : List Addr) from z) List.not_mem_nil
    refine codeAny_mono (F _ H kin (nsd hns) hS e0) fun r s' h => ?_
    cases r with
    | error e => exact False.elim h
    | ok fl =>
      cases fl with
      | next => exact False.elim h
      | brk => exact False.elim h
      | cont => exact False.elim h
      | ret u =>
        obtain ⟨v, H', os, bare, un, hok', r', q⟩ := h
        have q' : v = .bl true := q
        subst q'
        obtain rfl : u = Value.bool true := r'
        refine ⟨rfl, OldK.of_keep fun b o e => ?_, os, bare⟩
        cases q : H b with
        | none =>
          exact un.keep b o e q (fun z => absurd (show b ∈ ([] : List Addr) from z) List.not_mem_nil) List.not_mem_nil
        | some u =>
          obtain ⟨e1, e2, _⟩ := hH b u q
          rw [e2] at q
          have z2 := un.frzs b so _ q
          obtain ⟨e3, _⟩ := hok' b _ z2
          rw [e1, ha] at e
          cases e
          exact e3
  cases hk : K.lookup a with
  | some o =>
    have e := KX a o hk
    rw [ha] at e
    cases e
    refine go (fun _ => none) (fun b u z => by cases z) (.inr ⟨_, vs.toArray, _, hk, rfl, rfl, rfl, ?_, by simpa using rv⟩) (fun b u z => by cases z)
    rw [List.size_toArray, hi.length]
    exact hl
  | none =>
    refine go (fun b => if b = a then some (.frz so (.lst (ns.map V.int))) else none) (fun b u z => ?_) (.inl (.inr ⟨so, if_pos rfl⟩)) (fun b u z => ?_)
    · by_cases eb : b = a
      · have z' := (if_pos eb).symm.trans z
        cases z'
        exact ⟨eb, rfl, hk⟩
      · have z' := (if_neg eb).symm.trans z
        cases z'
    · by_cases eb : b = a
      · have z' := (if_pos eb).symm.trans z
        cases z'
        subst eb
        exact ⟨ha, by rw [List.length_map]; exact hl, vs, _, rv, ha⟩
      · have z' := (if_neg eb).symm.trans z
        cases z'
end
/-- the goal that the head leaves -/
theorem walk_at1 {l : PySem.W.OpenLaw} {n : Nat} {q : Program} {loose : List Str} {XP : (Str → Option Value) → Heap → Prop} {YP : World → Heap → Prop} {d : DefRec} {K : Params → PySem.W.Frag}
    (hn : l.most = some n) (hn2 : n ≤ sizeLine) (hdf : d.params.defaults = [])
    (hY : ∀ (w : World) (h : Heap), YP w h → (K w.params).In h)
    (F : ∀ (w : World) (mg : Str → Option Value) (fa : Addr) (h : Heap), (K w.params).In h → h.Ns mainGlobals mg → mg d.name = some (.ref fa) →
      ∀ (base : Heap) (H : Hp) (s : Shared) (a : Addr) (ns : List Int), ns.length ≤ n → (K w.params).In base → base.Ns mainGlobals mg →
        SqL (K w.params) H a (ns.map V.int) → Env0 l.prog w (K w.params) mg base callerA [] s H →
        codeAny (model l.prog w) callerA (.call (.ref fa) ⟨[.ref a], []⟩) (CR CX0 [] l.prog w H s (fun v _ => v = .bl true) fun _ _ _ => False) s) :
    PySem.W.WalkO q loose XP YP l.row.toRowW d [] (fun f vs => PySem.call f vs) := by
  refine Att.attach_call hn hdf fun w s₀ s₁ mg mb fa o pm cd doc a vs ns G Y ho hd hcd hmg hobj hints hlen hg => ?_
  have KX := hY w _ Y
  refine law_at KX G.T.g G.T.b G.T.builtins G.T.nolimit hg hobj hints (Nat.le_trans hlen hn2) fun base H h1 h2 h3 h4 => ?_
  exact F w mg fa _ KX G.T.g hmg base H s₁ a ns hlen h1 h2 h3 h4
end Gs

namespace W35
open PySem PySem.Spec PyProof.Rows L2 Gs Gp Gr Dw Dn
/-! ### the law -/
theorem ts_ok {ts : List Tie} {n m : Nat} (h : ∀ t ∈ ts, t.1 < n ∧ t.2.1 < n ∧ (∀ x ∈ t.2.2, x < m) ∧ t.2.2.length ≤ m) (n10 : n ≤ 10) (m10 : m ≤ 10) (tl : ts.length ≤ 200) : TsOk ts n := by
  have at' : ∀ i, i < ts.length → ∃ t ∈ ts, sT ts i = t.1 ∧ eT ts i = t.2.1 ∧ lT ts i = t.2.2 := fun i hi => by
    have e : ts[i]? = some ts[i] := List.getElem?_eq_getElem hi
    obtain ⟨h1, h2, h3⟩ := tie_at (a := ts[i].1) (b := ts[i].2.1) (ls := ts[i].2.2) e
    exact ⟨ts[i], List.getElem_mem hi, h1, h2, h3⟩
  have out : ∀ i, ts.length ≤ i → lT ts i = [] := fun i hi => by
    unfold lT
    rw [List.getD_eq_getElem?_getD, List.getElem?_eq_none hi]
    rfl
  refine ⟨fun i hi => ?_, fun i x hx => ?_, by omega, tl, fun i => ?_⟩
  · obtain ⟨t, ht, h1, h2, _⟩ := at' i hi
    rw [h1, h2]
    exact ⟨(h t ht).1, (h t ht).2.1⟩
  · by_cases c : i < ts.length
    · obtain ⟨t, ht, _, _, h3⟩ := at' i c
      rw [h3] at hx
      have := (h t ht).2.2.1 x hx
      omega
    · rw [out i (by omega)] at hx
      exact absurd hx List.not_mem_nil
  · by_cases c : i < ts.length
    · obtain ⟨t, ht, _, _, h3⟩ := at' i c
      rw [h3]
      have := (h t ht).2.2.2
      omega
    · rw [out i (by omega)]
      exact Nat.zero_le _
abbrev NLz : List Str := ["_law_script", "_law_k", "_law_pool_here", "_law_count", "_law_many", "_law_ties_here", "_law_entries", "_law_comes", "_law_turn", "_law_why"]
theorem scLaw : FnScope NLz ["_law_script"] (defScope sLaw) := ⟨rfl, rfl, rfl, by decide +kernel, rfl, by decide +kernel, by decide +kernel⟩
section
variable {P : Program} {w : World} {K : PySem.W.Frag} {mg : Str → Option Value} {base : Heap} {f1 f2 f3 f4 f5 f6 f7 f8 aN : Addr} {d1 d2 d3 d4 d5 d6 d7 d8 : FuncData} {k : Nat}
theorem law_body (PO : Cl P w K mg base CX0 k "_law_pool" ["_law_script", "_law_k"] (spPool K) f1 d1) (TA : Cl P w K mg base CX0 k "_law_take" ["_law_pool_here", "_law_many"] spTake f2 d2) (TI : Cl P w K mg base CX0 k "_law_ties" ["_law_pool_here", "_law_count", "_law_many"] spTies f3 d3)
    (DR : Cl P w K mg base CX0 k "_law_drawn_why" ["_law_pool_here", "_law_entries", "_law_many", "_law_deep"] (spDrawn K 3) f4 d4) (SO : Cl P w K mg base CX0 k "sought" ["count", "begins", "ties", "many"] (spSought aN) f5 d5) (IW : Cl P w K mg base CX0 k "is_why" ["entries", "ties", "many", "thing"] (spWhy K 3) f6 d6)
    (CR : Cl P w K mg base CX0 k "_law_comes_round" ["_law_ties_here", "_law_count", "_law_many"] spRound f7 d7)
    (mr : mg "range" = none) (mx : mg "max" = none) (mn : mg "min" = none) (mln : mg "len" = none) (ml : mg "list" = none)
    {cdv : Value} {s : Shared} {H : Hp} {E : XK} {f : Addr} {a : Addr} {ns : List Int}
    (hr : Room k (callerA.deeper (envOfC "law" (defScope sLaw) s.heap.objs.size f cdv))) (hS : SqL K H a (ns.map V.int)) (hn : ns.length ≤ 63) :
    ∃ t, PSs (cxOf CX0 P w K mg base NLz "law" (defScope sLaw) f cdv callerA [] s H E).nox (defBody sLaw) t ∧ t { nx := fun _ _ => V.non = .bl true, rt := fun v _ => v = .bl true } (L2.start NLz [.ref a]) H := by
  refine ⟨_, pss_cons (ps_for PassesOwn.never rfl (pi_range1 (by rfl) mr (pa_cons (pe_callB (call_max2 rfl) (by rfl) mx (by decide +kernel) (pa_cons pe_int (pa_cons (pe_callB (call_min2 rfl) (by rfl) mn (by decide +kernel) (pa_cons pe_int (pa_cons (pe_callB call_len_seq (by rfl) mln PySem.boot_len (pa_cons (pv 0) pa_nil)) pa_nil))) pa_nil))) pa_nil)) (pg_name (i := 1) scLaw.nd rfl (Or.inl rfl))
      (pss_cons (ps_set (i := 2) scLaw.nd rfl (.inl rfl) (pe_call PO.ok hr (by rfl) PO.g PO.kp PO.bd .nil pass0 (pa_cons (pv 0) (pa_cons (pv 1) pa_nil))))
      (pss_cons (ps_set (i := 3) scLaw.nd rfl (.inl rfl) (pe_op op_add pe_int (pe_call TA.ok hr (by rfl) TA.g TA.kp TA.bd .nil pass0 (pa_cons (pv 2) (pa_cons pe_int pa_nil)))))
      (pss_cons (ps_set (i := 4) scLaw.nd rfl (.inl rfl) (pe_op op_add pe_int (pe_call TA.ok hr (by rfl) TA.g TA.kp TA.bd .nil pass0 (pa_cons (pv 2) (pa_cons pe_int pa_nil)))))
      (pss_cons (ps_set (i := 5) scLaw.nd rfl (.inl rfl) (pe_call TI.ok hr (by rfl) TI.g TI.kp TI.bd .nil pass0 (pa_cons (pv 2) (pa_cons (pv 3) (pa_cons (pv 4) pa_nil)))))
      (pss_cons (ps_set (i := 6) scLaw.nd rfl (.inl rfl) (pe_listRg rfl (by rfl) ml (prg_1 (by rfl) mr (pv 3))))
      (pss_cons (ps_set (i := 7) scLaw.nd rfl (.inl rfl) (pe_call CR.ok hr (by rfl) CR.g CR.kp CR.bd .nil pass0 (pa_cons (pv 5) (pa_cons (pv 3) (pa_cons (pv 4) pa_nil)))))
      (pss_join (ps_if (pt_cmpR op_ne (pe_cmpR op_eq (pe_ix ix_tup (pe_call SO.ok hr (by rfl) SO.g SO.kp SO.bd .nil pass0 (pa_cons (pv 3) (pa_cons (pv 6) (pa_cons (pv 5) (pa_cons (pv 4) pa_nil))))) pe_int (fun _ _ => rfl)) pe_str (nomark _)) (pv 7) (nomark _)) (pss_one (ps_ret pe_bl)) pss_nil)
      (pss_one (ps_for PassesOwn.never rfl (pi_range1 (by rfl) mr (pa_cons pe_int pa_nil)) (pg_name (i := 8) scLaw.nd rfl (Or.inl rfl))
          (pss_cons (ps_set (i := 9) scLaw.nd rfl (.inl rfl) (pe_call DR.ok hr (by rfl) DR.g DR.kp DR.bd .nil pass0 (pa_cons (pv 2) (pa_cons (pv 6) (pa_cons (pv 4) (pa_cons pe_int pa_nil))))))
          (pss_one (ps_if (PW.pt (pw_and (pt_val (pe_call IW.ok hr (by rfl) IW.g IW.kp IW.bd .nil pass0 (pa_cons (pv 6) (pa_cons (pv 5) (pa_cons (pv 4) (pa_cons (pv 9) pa_nil)))))) (pw_and1 (pt_val (pv 7))))) (pss_one (ps_ret pe_bl)) pss_nil)))))))))))))
    (pss_one (ps_ret pe_bl)), ?_⟩
  obtain ⟨m, em, m1, m2⟩ : ∃ m : Nat, (if (if ((ns.map V.int).length : Int) < 8 then ((ns.map V.int).length : Int) else 8) > 1 then (if ((ns.map V.int).length : Int) < 8 then ((ns.map V.int).length : Int) else 8) else 1) = (m : Int) ∧ 1 ≤ m ∧ m ≤ 8 := by
    rw [List.length_map]
    by_cases c : (ns.length : Int) < 8
    · rw [if_pos c]
      by_cases d : (ns.length : Int) > 1
      · rw [if_pos d]
        exact ⟨ns.length, rfl, by omega, by omega⟩
      · rw [if_neg d]
        exact ⟨1, rfl, by omega, by omega⟩
    · rw [if_neg c, if_pos (by decide)]
      exact ⟨8, rfl, by omega, by omega⟩
  refine ⟨_, rfl, a, _, rfl, .inl hS, 8, _, rfl, 1, _, rfl, _, rfl, by rw [em]; omega, by rw [em]; omega, ?_⟩
  rw [em, Int.toNat_natCast]
  refine for_range (n := m) (fun i σ H' => Same H H' ∧ ∃ x1 x2 x3 x4 x5 x6 x7 x8 x9 : Option V, σ = [some (.ref a), x1, x2, x3, x4, x5, x6, x7, x8, x9]) ⟨Same.refl _, _, _, _, _, _, _, _, _, _, rfl⟩ (fun i σ H1 hi hp => ?_) (fun σ H1 hp => rfl)
  obtain ⟨s1, x1, x2, x3, x4, x5, x6, x7, x8, x9, rfl⟩ := hp
  refine ⟨_, rfl, _, rfl, a, ns, i, (by rw [Int.zero_add]; rfl), s1.seq hS, hn, by omega, fun H2 p s2 hp lf => ?_⟩
  have hpH : H p = none := free_same s1 hp
  have k2 : Keep p H H2 := keep_same (s1.trans s2)
  refine ⟨_, rfl, p, 4, rfl, lf, by decide, by decide, fun H3 d k3 lf3 dl => ⟨_, _, rfl, rfl, ?_⟩⟩
  have en : (1 : Int) + (d : Nat) = ((1 + d : Nat) : Int) := by omega
  show tSeq _ _ _ ((([some (V.ref a), some (V.int (0 + (i : Int))), some (V.ref p), some (V.int (1 + (d : Nat))), x4, x5, x6, x7, x8, x9]))) H3
  rw [en]
  generalize hnn : 1 + d = n at *
  have n1 : 0 < n := by omega
  have n8 : n ≤ 4 := by omega
  refine ⟨_, rfl, p, 2, rfl, lf3, by decide, by decide, fun H3' d' k3' lf3' ml' => ⟨_, _, rfl, rfl, ?_⟩⟩
  have en' : (1 : Int) + (d' : Nat) = ((1 + d' : Nat) : Int) := by omega
  show tSeq _ _ _ ((([some (V.ref a), some (V.int (0 + (i : Int))), some (V.ref p), some (V.int (n : Nat)), some (V.int (1 + (d' : Nat))), x5, x6, x7, x8, x9]))) H3'
  rw [en']
  generalize hmm : 1 + d' = mm at *
  have mm0 : 0 < mm := by omega
  have mm2 : mm ≤ 2 := by omega
  refine ⟨_, rfl, _, rfl, _, rfl, p, n, mm, rfl, lf3', n1, by omega, by omega, fun H4 T us ts k4 lf4 hT eT tu bd tl => ?_⟩
  have k04 := ((k2.trans k3).trans k3').trans k4
  have pT : T ≠ p := fun e => by
    obtain ⟨x, y, h, _⟩ := lf3'
    rw [← e, hT] at h
    cases h
  have tok := ts_ok bd (by omega) (by omega) (by omega)
  refine ⟨_, rfl, (n : Int), rfl, ⟨by omega, by omega, by omega, by omega, by omega⟩, fun En hEn => ?_⟩
  rw [rg_vI]
  have s5 := same_new (o := .lst ((List.range n).map vI)) hEn
  have pE : En ≠ p := (lf_ne lf4 hEn).symm
  have eE5 : upd H4 En (.lst ((List.range n).map vI)) En = some (.lst ((List.range n).map vI)) := upd_same
  have eT5 := s5 _ _ eT
  have tu5 := tu.tk (tk_same s5)
  have lf5 := lf_same lf4 s5
  have k05 := k04.trans (keep_same (p := p) s5)
  generalize upd H4 En (.lst ((List.range n).map vI)) = H5 at *
  have eln : (List.range n).length = n := List.length_range
  have end' : (List.range n).Nodup := List.nodup_range
  have elt : ∀ x ∈ List.range n, x < n := fun x hx => List.mem_range.mp hx
  have si := sou_iff (m := mm) tok
  have tin : ts.filter (tIn (List.range n)) = ts := List.filter_eq_self.mpr fun t ht => by
    unfold tIn
    rw [decide_eq_true (List.mem_range.mpr (bd t ht).1), decide_eq_true (List.mem_range.mpr (bd t ht).2.1)]
    rfl
  have tie : ∀ t ∈ ts, t.1 ∈ List.range n ∧ t.2.1 ∈ List.range n := fun t ht => ⟨List.mem_range.mpr (bd t ht).1, List.mem_range.mpr (bd t ht).2.1⟩
  generalize List.range n = es at *
  refine ⟨_, rfl, _, rfl, _, rfl, T, n, mm, us, ts, rfl, eT5, tu5, bd, n8, mm0, mm2, by omega, fun H6 cb s6 hcb => ?_⟩
  have eT6 := s6 _ _ eT5
  have eE6 := s6 _ _ eE5
  have tu6 := tu5.tk (tk_same s6)
  have lf6 := lf_same lf5 s6
  have k06 := k05.trans (keep_same (p := p) s6)
  refine ⟨fun σ' H' => σ' = [some (.ref a), some (.int (0 + (i : Int))), some (.ref p), some (.int (n : Nat)), some (.int (mm : Nat)), some (.ref T), some (.ref En), some (.bl cb), x8, x9] ∧ Same H6 H', ?_, fun σ' H7 hp => ?_⟩
  · refine ⟨_, rfl, _, rfl, _, rfl, _, rfl, En, T, n, mm, es, us, ts, rfl, eE6, eT6, tu6, tok, end', elt, by omega, ?_⟩
    cases es1 : souT ts mm n es with
    | lap stem lap =>
      have : cb = true := hcb.mpr (si.mp ⟨_, _, es1⟩)
      subst this
      intro H' r r1 r2 s' _ _ _ _ e1 _ _ _ _
      exact ⟨r, _, 0, _, rfl, rfl, SqT.of e1, atI_nat (j := 0) rfl, rfl, _, rfl, rfl, _, rfl, iteN rfl ⟨rfl, s'⟩⟩
    | why ps =>
      have : cb = false := Bool.eq_false_iff.mpr fun z => by
        obtain ⟨_, _, e⟩ := si.mpr (hcb.mp z)
        rw [es1] at e
        cases e
      subst this
      intro H' r w' p' us' s' e1 e2 e3 wh
      exact ⟨r, _, 0, _, rfl, rfl, SqT.of e1, atI_nat (j := 0) rfl, rfl, _, rfl, rfl, _, rfl, iteN rfl ⟨rfl, s'⟩⟩
  obtain ⟨rfl, s7⟩ := hp
  -- twenty whys
  have k07 := k06.trans (keep_same (p := p) s7)
  refine ⟨20, rfl, by decide, by decide, ?_⟩
  have lf7 := lf_same lf6 s7
  have eT7 := s7 _ _ eT6
  have eE7 := s7 _ _ eE6
  have tu7 := tu6.tk (tk_same s7)
  refine for_range (n := 20) (fun j σ H' => Keep p H7 H' ∧ Lf H' p ∧ ∃ x8 x9 : Option V, σ = [some (.ref a), some (.int (0 + (i : Int))), some (.ref p), some (.int (n : Nat)), some (.int (mm : Nat)), some (.ref T), some (.ref En), some (.bl cb), x8, x9]) ⟨Keep.refl, lf7, _, _, rfl⟩ (fun j σ H8 hj hp => ?_) (fun σ H8 hp => ?_)
  · obtain ⟨k8, lf8, y8, y9, rfl⟩ := hp
    refine ⟨_, rfl, _, rfl, _, rfl, p, En, mm, es, rfl, lf8, pE, k8 _ _ pE eE7, by omega, end', fun x hx => by have := elt x hx; omega, mm0, by omega, fun H9 v dw k9 lf9 dtw gw okw => ?_⟩
    have k79 := k8.trans k9
    have dep : dw.depth ≤ 7 := okw.2
    refine ⟨_, rfl, _, rfl, _, rfl, _, rfl, En, T, v, dw, mm, es, us, ts, rfl, k79 _ _ pE eE7, by omega, end', fun x hx => by have := elt x hx; omega, k79 _ _ pT eT7, tu7.tk (tk_keep k79 lf7), by omega, dtw.dp, okw.mono (by decide), by omega, fun H10 s10 => ⟨_, rfl, ?_⟩⟩
    rw [tin]
    have k710 := k79.trans (keep_same (p := p) s10)
    have lf10 := lf_same lf9 s10
    cases hb : whyB mm es ts dw with
    | false => exact iteF (iteF ⟨k710, lf10, _, _, rfl⟩)
    | true =>
      have no := why_no (whyB_iff.mp hb) end' (fun x hx => by have := elt x hx; omega) tie
      have : cb = false := Bool.eq_false_iff.mpr fun z => no (hcb.mp z)
      subst this
      exact iteT ⟨_, rfl, _, rfl, iteF ⟨k710, lf10, _, _, rfl⟩⟩
  · obtain ⟨k8, lf8, y8, y9, rfl⟩ := hp
    exact ⟨same_of_keep hpH (k07.trans k8), _, _, _, _, _, _, _, _, _, rfl⟩
end
end W35

namespace W35
open PySem PySem.Spec PyProof.Rows L2 Gs Gp Gr Dw Dn
/-! ### what the top has written -/
abbrev TxtsAt (K : PySem.W.Frag) (a : Addr) (zs : List Str) : Prop := ∀ H : Hp, SqT K H a (zs.map V.str)
abbrev FnL (K : PySem.W.Frag) (x : Str) (st : Stmt) (kV : Value) (f : Addr) (oc dc pm cd ct : Value) (od an : Option Addr) (sl : Array (Option Value)) : Prop :=
  K.lookup f = some ⟨oc, od, .func (PySem.W.fnOf x x (defArgs st) (defBody st) (defScope st) .none kV dc pm an cd ct), sl⟩
theorem all_mk {P : Program} {w : World} {K : PySem.W.Frag} {h : Heap} {mg : Str → Option Value} {fa aN : Addr}  (X : K.In h) (G : h.Ns mainGlobals mg) (hfa : mg "law" = some (.ref fa))
    {f1 f2 f4 f6 f9 f10 f11 f12 f13 f14 f15 f16 f17 f18 f19 f20 f21 f22 f23 f24 f25 f26 f27 f28 f30 f31 f32 f37 f38 f39 : Addr} {od1 an1 od2 an2 od4 an4 od6 an6 od9 an9 od10 an10 od11 an11 od12 an12 od13 an13 od14 an14 od15 an15 od16 an16 od17 an17 od18 an18 od19 an19 od20 an20 od21 an21 od22 an22 od23 an23 od24 an24 od25 an25 od26 an26 od27 an27 od28 an28 od30 an30 od31 an31 od32 an32 od37 an37 od38 an38 od39 an39 : Option Addr} {sl1 sl2 sl4 sl6 sl9 sl10 sl11 sl12 sl13 sl14 sl15 sl16 sl17 sl18 sl19 sl20 sl21 sl22 sl23 sl24 sl25 sl26 sl27 sl28 sl30 sl31 sl32 sl37 sl38 sl39 : Array (Option Value)}
    {oc1 kV1 dc1 pm1 cd1 ct1 oc2 kV2 dc2 pm2 cd2 ct2 oc4 kV4 dc4 pm4 cd4 ct4 oc6 kV6 dc6 pm6 cd6 ct6 oc9 kV9 dc9 pm9 cd9 ct9 oc10 kV10 dc10 pm10 cd10 ct10 oc11 kV11 dc11 pm11 cd11 ct11 oc12 kV12 dc12 pm12 cd12 ct12 oc13 kV13 dc13 pm13 cd13 ct13 oc14 kV14 dc14 pm14 cd14 ct14 oc15 kV15 dc15 pm15 cd15 ct15 oc16 kV16 dc16 pm16 cd16 ct16 oc17 kV17 dc17 pm17 cd17 ct17 oc18 kV18 dc18 pm18 cd18 ct18 oc19 kV19 dc19 pm19 cd19 ct19 oc20 kV20 dc20 pm20 cd20 ct20 oc21 kV21 dc21 pm21 cd21 ct21 oc22 kV22 dc22 pm22 cd22 ct22 oc23 kV23 dc23 pm23 cd23 ct23 oc24 kV24 dc24 pm24 cd24 ct24 oc25 kV25 dc25 pm25 cd25 ct25 oc26 kV26 dc26 pm26 cd26 ct26 oc27 kV27 dc27 pm27 cd27 ct27 oc28 kV28 dc28 pm28 cd28 ct28 oc30 kV30 dc30 pm30 cd30 ct30 oc31 kV31 dc31 pm31 cd31 ct31 oc32 kV32 dc32 pm32 cd32 ct32 oc37 kV37 dc37 pm37 cd37 ct37 oc38 kV38 dc38 pm38 cd38 ct38 oc39 kV39 dc39 pm39 cd39 ct39 : Value}
    (a1 : PySem.W.nsIn K mainGlobals "is_whole" = some (some (.ref f1))) (l1 : FnL K "is_whole" sWhole kV1 f1 oc1 dc1 pm1 cd1 ct1 od1 an1 sl1)
    (c1 : PySem.W.codeIn K cd1 "is_whole" = true) (k1 : PySem.W.keepIn K (.ref f1) = true)
    (a2 : PySem.W.nsIn K mainGlobals "is_below" = some (some (.ref f2))) (l2 : FnL K "is_below" sBelow kV2 f2 oc2 dc2 pm2 cd2 ct2 od2 an2 sl2)
    (c2 : PySem.W.codeIn K cd2 "is_below" = true) (k2 : PySem.W.keepIn K (.ref f2) = true)
    (a4 : PySem.W.nsIn K mainGlobals "is_rising" = some (some (.ref f4))) (l4 : FnL K "is_rising" sRising kV4 f4 oc4 dc4 pm4 cd4 ct4 od4 an4 sl4)
    (c4 : PySem.W.codeIn K cd4 "is_rising" = true) (k4 : PySem.W.keepIn K (.ref f4) = true)
    (a6 : PySem.W.nsIn K mainGlobals "is_tuple_of" = some (some (.ref f6))) (l6 : FnL K "is_tuple_of" sTupOf kV6 f6 oc6 dc6 pm6 cd6 ct6 od6 an6 sl6)
    (c6 : PySem.W.codeIn K cd6 "is_tuple_of" = true) (k6 : PySem.W.keepIn K (.ref f6) = true)
    (a9 : PySem.W.nsIn K mainGlobals "ties_among" = some (some (.ref f9))) (l9 : FnL K "ties_among" sAmong kV9 f9 oc9 dc9 pm9 cd9 ct9 od9 an9 sl9)
    (c9 : PySem.W.codeIn K cd9 "ties_among" = true) (k9 : PySem.W.keepIn K (.ref f9) = true)
    (a10 : PySem.W.nsIn K mainGlobals "is_lot_why" = some (some (.ref f10))) (l10 : FnL K "is_lot_why" sLotWhy kV10 f10 oc10 dc10 pm10 cd10 ct10 od10 an10 sl10)
    (c10 : PySem.W.codeIn K cd10 "is_lot_why" = true) (k10 : PySem.W.keepIn K (.ref f10) = true)
    (a11 : PySem.W.nsIn K mainGlobals "is_part" = some (some (.ref f11))) (l11 : FnL K "is_part" sPart kV11 f11 oc11 dc11 pm11 cd11 ct11 od11 an11 sl11)
    (c11 : PySem.W.codeIn K cd11 "is_part" = true) (k11 : PySem.W.keepIn K (.ref f11) = true)
    (a12 : PySem.W.nsIn K mainGlobals "parted" = some (some (.ref f12))) (l12 : FnL K "parted" sParted kV12 f12 oc12 dc12 pm12 cd12 ct12 od12 an12 sl12)
    (c12 : PySem.W.codeIn K cd12 "parted" = true) (k12 : PySem.W.keepIn K (.ref f12) = true)
    (a13 : PySem.W.nsIn K mainGlobals "is_why_of" = some (some (.ref f13))) (l13 : FnL K "is_why_of" sWhyOf kV13 f13 oc13 dc13 pm13 cd13 ct13 od13 an13 sl13)
    (c13 : PySem.W.codeIn K cd13 "is_why_of" = true) (k13 : PySem.W.keepIn K (.ref f13) = true)
    (a14 : PySem.W.nsIn K mainGlobals "is_why" = some (some (.ref f14))) (l14 : FnL K "is_why" sWhy kV14 f14 oc14 dc14 pm14 cd14 ct14 od14 an14 sl14)
    (c14 : PySem.W.codeIn K cd14 "is_why" = true) (k14 : PySem.W.keepIn K (.ref f14) = true)
    (a15 : PySem.W.nsIn K mainGlobals "ends_by_starts" = some (some (.ref f15))) (l15 : FnL K "ends_by_starts" sEnds kV15 f15 oc15 dc15 pm15 cd15 ct15 od15 an15 sl15)
    (c15 : PySem.W.codeIn K cd15 "ends_by_starts" = true) (k15 : PySem.W.keepIn K (.ref f15) = true)
    (a16 : PySem.W.nsIn K mainGlobals "all_from" = some (some (.ref f16))) (l16 : FnL K "all_from" sAllFrom kV16 f16 oc16 dc16 pm16 cd16 ct16 od16 an16 sl16)
    (c16 : PySem.W.codeIn K cd16 "all_from" = true) (k16 : PySem.W.keepIn K (.ref f16) = true)
    (a17 : PySem.W.nsIn K mainGlobals "pieces" = some (some (.ref f17))) (l17 : FnL K "pieces" sPieces kV17 f17 oc17 dc17 pm17 cd17 ct17 od17 an17 sl17)
    (c17 : PySem.W.codeIn K cd17 "pieces" = true) (k17 : PySem.W.keepIn K (.ref f17) = true)
    (a18 : PySem.W.nsIn K mainGlobals "numbers_by_starts" = some (some (.ref f18))) (l18 : FnL K "numbers_by_starts" sNums kV18 f18 oc18 dc18 pm18 cd18 ct18 od18 an18 sl18)
    (c18 : PySem.W.codeIn K cd18 "numbers_by_starts" = true) (k18 : PySem.W.keepIn K (.ref f18) = true)
    (a19 : PySem.W.nsIn K mainGlobals "come_to_by" = some (some (.ref f19))) (l19 : FnL K "come_to_by" sCome kV19 f19 oc19 dc19 pm19 cd19 ct19 od19 an19 sl19)
    (c19 : PySem.W.codeIn K cd19 "come_to_by" = true) (k19 : PySem.W.keepIn K (.ref f19) = true)
    (a20 : PySem.W.nsIn K mainGlobals "row_back" = some (some (.ref f20))) (l20 : FnL K "row_back" sBack kV20 f20 oc20 dc20 pm20 cd20 ct20 od20 an20 sl20)
    (c20 : PySem.W.codeIn K cd20 "row_back" = true) (k20 : PySem.W.keepIn K (.ref f20) = true)
    (a21 : PySem.W.nsIn K mainGlobals "row_to" = some (some (.ref f21))) (l21 : FnL K "row_to" sRowTo kV21 f21 oc21 dc21 pm21 cd21 ct21 od21 an21 sl21)
    (c21 : PySem.W.codeIn K cd21 "row_to" = true) (k21 : PySem.W.keepIn K (.ref f21) = true)
    (a22 : PySem.W.nsIn K mainGlobals "shortest_lap" = some (some (.ref f22))) (l22 : FnL K "shortest_lap" sShort kV22 f22 oc22 dc22 pm22 cd22 ct22 od22 an22 sl22)
    (c22 : PySem.W.codeIn K cd22 "shortest_lap" = true) (k22 : PySem.W.keepIn K (.ref f22) = true)
    (a23 : PySem.W.nsIn K mainGlobals "lap_with_all" = some (some (.ref f23))) (l23 : FnL K "lap_with_all" sLapAll kV23 f23 oc23 dc23 pm23 cd23 ct23 od23 an23 sl23)
    (c23 : PySem.W.codeIn K cd23 "lap_with_all" = true) (k23 : PySem.W.keepIn K (.ref f23) = true)
    (a24 : PySem.W.nsIn K mainGlobals "first_come_to" = some (some (.ref f24))) (l24 : FnL K "first_come_to" sFirst kV24 f24 oc24 dc24 pm24 cd24 ct24 od24 an24 sl24)
    (c24 : PySem.W.codeIn K cd24 "first_come_to" = true) (k24 : PySem.W.keepIn K (.ref f24) = true)
    (a25 : PySem.W.nsIn K mainGlobals "first_lacking" = some (some (.ref f25))) (l25 : FnL K "first_lacking" sLack kV25 f25 oc25 dc25 pm25 cd25 ct25 od25 an25 sl25)
    (c25 : PySem.W.codeIn K cd25 "first_lacking" = true) (k25 : PySem.W.keepIn K (.ref f25) = true)
    (a26 : PySem.W.nsIn K mainGlobals "inner_numbers" = some (some (.ref f26))) (l26 : FnL K "inner_numbers" sInner kV26 f26 oc26 dc26 pm26 cd26 ct26 od26 an26 sl26)
    (c26 : PySem.W.codeIn K cd26 "inner_numbers" = true) (k26 : PySem.W.keepIn K (.ref f26) = true)
    (a27 : PySem.W.nsIn K mainGlobals "told_lap" = some (some (.ref f27))) (l27 : FnL K "told_lap" sTold kV27 f27 oc27 dc27 pm27 cd27 ct27 od27 an27 sl27)
    (c27 : PySem.W.codeIn K cd27 "told_lap" = true) (k27 : PySem.W.keepIn K (.ref f27) = true)
    (a28 : PySem.W.nsIn K mainGlobals "sought" = some (some (.ref f28))) (l28 : FnL K "sought" sSought kV28 f28 oc28 dc28 pm28 cd28 ct28 od28 an28 sl28)
    (c28 : PySem.W.codeIn K cd28 "sought" = true) (k28 : PySem.W.keepIn K (.ref f28) = true)
    (a30 : PySem.W.nsIn K mainGlobals "_law_pool" = some (some (.ref f30))) (l30 : FnL K "_law_pool" sPool kV30 f30 oc30 dc30 pm30 cd30 ct30 od30 an30 sl30)
    (c30 : PySem.W.codeIn K cd30 "_law_pool" = true) (k30 : PySem.W.keepIn K (.ref f30) = true)
    (a31 : PySem.W.nsIn K mainGlobals "_law_take" = some (some (.ref f31))) (l31 : FnL K "_law_take" sTake kV31 f31 oc31 dc31 pm31 cd31 ct31 od31 an31 sl31)
    (c31 : PySem.W.codeIn K cd31 "_law_take" = true) (k31 : PySem.W.keepIn K (.ref f31) = true)
    (a32 : PySem.W.nsIn K mainGlobals "_law_ties" = some (some (.ref f32))) (l32 : FnL K "_law_ties" sTies kV32 f32 oc32 dc32 pm32 cd32 ct32 od32 an32 sl32)
    (c32 : PySem.W.codeIn K cd32 "_law_ties" = true) (k32 : PySem.W.keepIn K (.ref f32) = true)
    (a37 : PySem.W.nsIn K mainGlobals "_law_drawn_why" = some (some (.ref f37))) (l37 : FnL K "_law_drawn_why" sDrawn kV37 f37 oc37 dc37 pm37 cd37 ct37 od37 an37 sl37)
    (c37 : PySem.W.codeIn K cd37 "_law_drawn_why" = true) (k37 : PySem.W.keepIn K (.ref f37) = true)
    (a38 : PySem.W.nsIn K mainGlobals "_law_comes_round" = some (some (.ref f38))) (l38 : FnL K "_law_comes_round" sRound kV38 f38 oc38 dc38 pm38 cd38 ct38 od38 an38 sl38)
    (c38 : PySem.W.codeIn K cd38 "_law_comes_round" = true) (k38 : PySem.W.keepIn K (.ref f38) = true)
    (a39 : PySem.W.nsIn K mainGlobals "law" = some (some (.ref f39))) (l39 : FnL K "law" sLaw kV39 f39 oc39 dc39 pm39 cd39 ct39 od39 an39 sl39)
    (c39 : PySem.W.codeIn K cd39 "law" = true) (k39 : PySem.W.keepIn K (.ref f39) = true)
    (gN : PySem.W.nsIn K mainGlobals "NONE" = some (some (.ref aN))) {oN : Obj} {nN : Nat} {tN0 : Tok} (pN : K.lookup aN = some oN) (qN : oN.cls = .type "tuple") (rN : oN.data = .seq #[.str "none" tN0] nN)
    (zR : PySem.W.nsIn K mainGlobals "range" = some none) (zL : PySem.W.nsIn K mainGlobals "len" = some none) (zT : PySem.W.nsIn K mainGlobals "tuple" = some none) (zS : PySem.W.nsIn K mainGlobals "sorted" = some none) (zl : PySem.W.nsIn K mainGlobals "list" = some none) (zi : PySem.W.nsIn K mainGlobals "int" = some none) (zV : PySem.W.nsIn K mainGlobals "reversed" = some none) (zE : PySem.W.nsIn K mainGlobals "enumerate" = some none) (zs : PySem.W.nsIn K mainGlobals "set" = some none) (zX : PySem.W.nsIn K mainGlobals "max" = some none) (zN : PySem.W.nsIn K mainGlobals "min" = some none) (zZ : PySem.W.nsIn K mainGlobals "zip" = some none) (zY : PySem.W.nsIn K mainGlobals "any" = some none) (zA : PySem.W.nsIn K mainGlobals "all" = some none) (zI : PySem.W.nsIn K mainGlobals "isinstance" = some none) (zB : PySem.W.nsIn K mainGlobals "bool" = some none)
    (base : Heap) (H : Hp) (s : Shared) (a : Addr) (ns : List Int) (hn : ns.length ≤ 63) (hS : SqL K H a (ns.map V.int))
    (e0 : Env0 P w K mg base callerA [] s H) :
    codeAny (model P w) callerA (.call (.ref fa) ⟨[.ref a], []⟩) (CR CX0 [] P w H s (fun v _ => v = .bl true) fun _ _ _ => False) s := by
  have e := hfa.symm.trans (PySem.W.mg_of X G a39)
  cases e
  have F1 := fun_mk (st := sWhole) l1 c1 k1
  have b1 := F1.binds (ps := ["thing"]) fun _ _ _ _ _ _ us hl => match us, hl with | [_], _ => rfl
  have g1 := PySem.W.mg_of X G a1
  have F2 := fun_mk (st := sBelow) l2 c2 k2
  have b2 := F2.binds (ps := ["thing", "many"]) fun _ _ _ _ _ _ us hl => match us, hl with | [_, _], _ => rfl
  have g2 := PySem.W.mg_of X G a2
  have F4 := fun_mk (st := sRising) l4 c4 k4
  have b4 := F4.binds (ps := ["names"]) fun _ _ _ _ _ _ us hl => match us, hl with | [_], _ => rfl
  have g4 := PySem.W.mg_of X G a4
  have F6 := fun_mk (st := sTupOf) l6 c6 k6
  have b6 := F6.binds (ps := ["thing", "fewest", "most"]) fun _ _ _ _ _ _ us hl => match us, hl with | [_, _, _], _ => rfl
  have g6 := PySem.W.mg_of X G a6
  have F9 := fun_mk (st := sAmong) l9 c9 k9
  have b9 := F9.binds (ps := ["entries", "ties"]) fun _ _ _ _ _ _ us hl => match us, hl with | [_, _], _ => rfl
  have g9 := PySem.W.mg_of X G a9
  have F10 := fun_mk (st := sLotWhy) l10 c10 k10
  have b10 := F10.binds (ps := ["ties", "many", "thing"]) fun _ _ _ _ _ _ us hl => match us, hl with | [_, _, _], _ => rfl
  have g10 := PySem.W.mg_of X G a10
  have F11 := fun_mk (st := sPart) l11 c11 k11
  have b11 := F11.binds (ps := ["thing"]) fun _ _ _ _ _ _ us hl => match us, hl with | [_], _ => rfl
  have g11 := PySem.W.mg_of X G a11
  have F12 := fun_mk (st := sParted) l12 c12 k12
  have b12 := F12.binds (ps := ["entries", "ties", "thing"]) fun _ _ _ _ _ _ us hl => match us, hl with | [_, _, _], _ => rfl
  have g12 := PySem.W.mg_of X G a12
  have F13 := fun_mk (st := sWhyOf) l13 c13 k13
  have b13 := F13.binds (ps := ["entries", "ties", "many", "thing"]) fun _ _ _ _ _ _ us hl => match us, hl with | [_, _, _, _], _ => rfl
  have g13 := PySem.W.mg_of X G a13
  have F14 := fun_mk (st := sWhy) l14 c14 k14
  have b14 := F14.binds (ps := ["entries", "ties", "many", "thing"]) fun _ _ _ _ _ _ us hl => match us, hl with | [_, _, _, _], _ => rfl
  have g14 := PySem.W.mg_of X G a14
  have F15 := fun_mk (st := sEnds) l15 c15 k15
  have b15 := F15.binds (ps := ["entries", "pairs"]) fun _ _ _ _ _ _ us hl => match us, hl with | [_, _], _ => rfl
  have g15 := PySem.W.mg_of X G a15
  have F16 := fun_mk (st := sAllFrom) l16 c16 k16
  have b16 := F16.binds (ps := ["entry", "ends", "seen"]) fun _ _ _ _ _ _ us hl => match us, hl with | [_, _, _], _ => rfl
  have g16 := PySem.W.mg_of X G a16
  have F17 := fun_mk (st := sPieces) l17 c17 k17
  have b17 := F17.binds (ps := ["entries", "ties"]) fun _ _ _ _ _ _ us hl => match us, hl with | [_, _], _ => rfl
  have g17 := PySem.W.mg_of X G a17
  have F18 := fun_mk (st := sNums) l18 c18 k18
  have b18 := F18.binds (ps := ["entries", "ties", "numbers"]) fun _ _ _ _ _ _ us hl => match us, hl with | [_, _, _], _ => rfl
  have g18 := PySem.W.mg_of X G a18
  have F19 := fun_mk (st := sCome) l19 c19 k19
  have b19 := F19.binds (ps := ["begins", "ties", "onward"]) fun _ _ _ _ _ _ us hl => match us, hl with | [_, _, _], _ => rfl
  have g19 := PySem.W.mg_of X G a19
  have F20 := fun_mk (st := sBack) l20 c20 k20
  have b20 := F20.binds (ps := ["came_by", "ties", "entry"]) fun _ _ _ _ _ _ us hl => match us, hl with | [_, _, _], _ => rfl
  have g20 := PySem.W.mg_of X G a20
  have F21 := fun_mk (st := sRowTo) l21 c21 k21
  have b21 := F21.binds (ps := ["start", "end", "ties", "onward"]) fun _ _ _ _ _ _ us hl => match us, hl with | [_, _, _, _], _ => rfl
  have g21 := PySem.W.mg_of X G a21
  have F22 := fun_mk (st := sShort) l22 c22 k22
  have b22 := F22.binds (ps := ["start", "ties", "onward"]) fun _ _ _ _ _ _ us hl => match us, hl with | [_, _, _], _ => rfl
  have g22 := PySem.W.mg_of X G a22
  have F23 := fun_mk (st := sLapAll) l23 c23 k23
  have b23 := F23.binds (ps := ["ties", "inner", "many", "onward"]) fun _ _ _ _ _ _ us hl => match us, hl with | [_, _, _, _], _ => rfl
  have g23 := PySem.W.mg_of X G a23
  have F24 := fun_mk (st := sFirst) l24 c24 k24
  have b24 := F24.binds (ps := ["came_by", "entries"]) fun _ _ _ _ _ _ us hl => match us, hl with | [_, _], _ => rfl
  have g24 := PySem.W.mg_of X G a24
  have F25 := fun_mk (st := sLack) l25 c25 k25
  have b25 := F25.binds (ps := ["ties", "inner", "many"]) fun _ _ _ _ _ _ us hl => match us, hl with | [_, _, _], _ => rfl
  have g25 := PySem.W.mg_of X G a25
  have F26 := fun_mk (st := sInner) l26 c26 k26
  have b26 := F26.binds (ps := ["ties", "numbers", "parts"]) fun _ _ _ _ _ _ us hl => match us, hl with | [_, _, _], _ => rfl
  have g26 := PySem.W.mg_of X G a26
  have F27 := fun_mk (st := sTold) l27 c27 k27
  have b27 := F27.binds (ps := ["came_by", "ties", "part", "inner", "many"]) fun _ _ _ _ _ _ us hl => match us, hl with | [_, _, _, _, _], _ => rfl
  have g27 := PySem.W.mg_of X G a27
  have F28 := fun_mk (st := sSought) l28 c28 k28
  have b28 := F28.binds (ps := ["count", "begins", "ties", "many"]) fun _ _ _ _ _ _ us hl => match us, hl with | [_, _, _, _], _ => rfl
  have g28 := PySem.W.mg_of X G a28
  have F30 := fun_mk (st := sPool) l30 c30 k30
  have b30 := F30.binds (ps := ["_law_script", "_law_k"]) fun _ _ _ _ _ _ us hl => match us, hl with | [_, _], _ => rfl
  have g30 := PySem.W.mg_of X G a30
  have F31 := fun_mk (st := sTake) l31 c31 k31
  have b31 := F31.binds (ps := ["_law_pool_here", "_law_many"]) fun _ _ _ _ _ _ us hl => match us, hl with | [_, _], _ => rfl
  have g31 := PySem.W.mg_of X G a31
  have F32 := fun_mk (st := sTies) l32 c32 k32
  have b32 := F32.binds (ps := ["_law_pool_here", "_law_count", "_law_many"]) fun _ _ _ _ _ _ us hl => match us, hl with | [_, _, _], _ => rfl
  have g32 := PySem.W.mg_of X G a32
  have F37 := fun_mk (st := sDrawn) l37 c37 k37
  have b37 := F37.binds (ps := ["_law_pool_here", "_law_entries", "_law_many", "_law_deep"]) fun _ _ _ _ _ _ us hl => match us, hl with | [_, _, _, _], _ => rfl
  have g37 := PySem.W.mg_of X G a37
  have F38 := fun_mk (st := sRound) l38 c38 k38
  have b38 := F38.binds (ps := ["_law_ties_here", "_law_count", "_law_many"]) fun _ _ _ _ _ _ us hl => match us, hl with | [_, _, _], _ => rfl
  have g38 := PySem.W.mg_of X G a38
  have mzR := PySem.W.mg_none_of X G zR
  have mzL := PySem.W.mg_none_of X G zL
  have mzT := PySem.W.mg_none_of X G zT
  have mzS := PySem.W.mg_none_of X G zS
  have mzl := PySem.W.mg_none_of X G zl
  have mzi := PySem.W.mg_none_of X G zi
  have mzV := PySem.W.mg_none_of X G zV
  have mzE := PySem.W.mg_none_of X G zE
  have mzs := PySem.W.mg_none_of X G zs
  have mzX := PySem.W.mg_none_of X G zX
  have mzN := PySem.W.mg_none_of X G zN
  have mzZ := PySem.W.mg_none_of X G zZ
  have mzY := PySem.W.mg_none_of X G zY
  have mzA := PySem.W.mg_none_of X G zA
  have mzI := PySem.W.mg_none_of X G zI
  have mzB := PySem.W.mg_none_of X G zB
  have hN : TxtsAt K aN ["none"] := fun H => .inr ⟨oN, _, nN, pN, qN, rN, by show 1 ≤ sizeLine; decide, (.cons ⟨tN0, rfl⟩ .nil)⟩
  have GN := PySem.W.mg_of X G gN
  have AM : Cl P w K mg base CX0 1 "ties_among" ["entries", "ties"] (spAmong) f9 _ := ⟨g9, ok_among F9 mzs, k9, b9⟩
  have EN : Cl P w K mg base CX0 1 "ends_by_starts" ["entries", "pairs"] (spEnds) f15 _ := ⟨g15, ok_ends F15, k15, b15⟩
  have AF : Cl P w K mg base CX0 1 "all_from" ["entry", "ends", "seen"] (spAllFrom) f16 _ := ⟨g16, ok_allFrom F16 mzL, k16, b16⟩
  have PI : Cl P w K mg base CX0 2 "pieces" ["entries", "ties"] (spPieces) f17 _ := ⟨g17, ok_pieces F17 AM EN AF mzV mzS, k17, b17⟩
  have NU : Cl P w K mg base CX0 2 "numbers_by_starts" ["entries", "ties", "numbers"] (spNums) f18 _ := ⟨g18, ok_nums F18 EN, k18, b18⟩
  have CO : Cl P w K mg base CX0 1 "come_to_by" ["begins", "ties", "onward"] (spCome) f19 _ := ⟨g19, ok_come F19 mzl mzL, k19, b19⟩
  have BA : Cl P w K mg base CX0 1 "row_back" ["came_by", "ties", "entry"] (spBack) f20 _ := ⟨g20, ok_back F20, k20, b20⟩
  have RT : Cl P w K mg base CX0 2 "row_to" ["start", "end", "ties", "onward"] (spRowTo) f21 _ := ⟨g21, ok_rowTo F21 BA CO, k21, b21⟩
  have FI : Cl P w K mg base CX0 1 "first_come_to" ["came_by", "entries"] (spFirst) f24 _ := ⟨g24, ok_first F24 mzs, k24, b24⟩
  have LK : Cl P w K mg base CX0 1 "first_lacking" ["ties", "inner", "many"] (spLack) f25 _ := ⟨g25, ok_lack F25 mzR, k25, b25⟩
  have IN : Cl P w K mg base CX0 1 "inner_numbers" ["ties", "numbers", "parts"] (spInner) f26 _ := ⟨g26, ok_inner F26 mzE, k26, b26⟩
  have LA : Cl P w K mg base CX0 3 "lap_with_all" ["ties", "inner", "many", "onward"] (spLapAll) f23 _ := ⟨g23, ok_lapAll F23 RT mzR mzY, k23, b23⟩
  have SH : Cl P w K mg base CX0 3 "shortest_lap" ["start", "ties", "onward"] (spShort) f22 _ := ⟨g22, ok_short F22 RT mzN mzL, k22, b22⟩
  have TL : Cl P w K mg base CX0 4 "told_lap" ["came_by", "ties", "part", "inner", "many"] (spTold) f27 _ := ⟨g27, ok_told F27 (NU.mono (by decide)) LA SH (FI.mono (by decide)) (BA.mono (by decide)), k27, b27⟩
  have SO : Cl P w K mg base CX0 5 "sought" ["count", "begins", "ties", "many"] (spSought aN) f28 _ := ⟨g28, ok_sought F28 (CO.mono (by decide)) (NU.mono (by decide)) (PI.mono (by decide)) (IN.mono (by decide)) (LK.mono (by decide)) TL GN mzl mzR mzL mzS mzZ mzT, k28, b28⟩
  have WH : Cl P w K mg base CX0 1 "is_whole" ["thing"] (spWhole K) f1 _ := ⟨g1, ok_whole F1 mzI mzi mzB, k1, b1⟩
  have BE : Cl P w K mg base CX0 2 "is_below" ["thing", "many"] (spBelow K) f2 _ := ⟨g2, ok_below F2 WH, k2, b2⟩
  have RS : Cl P w K mg base CX0 1 "is_rising" ["names"] (spRise K) f4 _ := ⟨g4, ok_rise F4 mzZ mzA, k4, b4⟩
  have TU : Cl P w K mg base CX0 1 "is_tuple_of" ["thing", "fewest", "most"] (spTupOf K) f6 _ := ⟨g6, ok_tupOf F6 mzI mzT mzL, k6, b6⟩
  have LW : Cl P w K mg base CX0 3 "is_lot_why" ["ties", "many", "thing"] (spLotWhy K) f10 _ := ⟨g10, ok_lotWhy F10 (TU.mono (by decide)) BE mzY, k10, b10⟩
  have PT : Cl P w K mg base CX0 2 "is_part" ["thing"] (spPart K) f11 _ := ⟨g11, ok_part F11 TU WH RS mzI mzT mzA, k11, b11⟩
  have PD : Cl P w K mg base CX0 3 "parted" ["entries", "ties", "thing"] (spParted K) f12 _ := ⟨g12, ok_parted F12 (TU.mono (by decide)) PT mzI mzT mzA mzS mzE mzZ mzl, k12, b12⟩
  have WO : Cl P w K mg base CX0 8 "is_why_of" ["entries", "ties", "many", "thing"] (spWhyOf K 4) f13 _ := ⟨g13, ok_whyOf F13 g13 k13 b13 LW PD GN hN mzA 4, k13, b13⟩
  have IW : Cl P w K mg base CX0 9 "is_why" ["entries", "ties", "many", "thing"] (spWhy K 3) f14 _ := ⟨g14, ok_why F14 WO (AM.mono (by decide)), k14, b14⟩
  have PO : Cl P w K mg base CX0 1 "_law_pool" ["_law_script", "_law_k"] (spPool K) f30 _ := ⟨g30, ok_pool F30 mzL mzi, k30, b30⟩
  have TA : Cl P w K mg base CX0 1 "_law_take" ["_law_pool_here", "_law_many"] (spTake) f31 _ := ⟨g31, ok_take F31, k31, b31⟩
  have TI : Cl P w K mg base CX0 2 "_law_ties" ["_law_pool_here", "_law_count", "_law_many"] (spTies) f32 _ := ⟨g32, ok_ties F32 TA mzR mzT, k32, b32⟩
  have DR : Cl P w K mg base CX0 5 "_law_drawn_why" ["_law_pool_here", "_law_entries", "_law_many", "_law_deep"] (spDrawn K 3) f37 _ := ⟨g37, ok_drawn (k := 1) F37 g37 k37 b37 TA mzl mzL mzS mzR mzT 3, k37, b37⟩
  have CR : Cl P w K mg base CX0 1 "_law_comes_round" ["_law_ties_here", "_law_count", "_law_many"] (spRound) f38 _ := ⟨g38, ok_round F38 mzR mzT mzS mzs, k38, b38⟩
  refine Gs.body_at (k := 9) (N := NLz) (ps := ["_law_script"]) (vs := [.ref a]) (us := [.ref a]) l39 c39 scLaw rfl ⟨rfl, by decide, by decide⟩ e0 (.of_eq rfl) (.cons rfl .nil) fun hr => ?_
  exact law_body (PO.mono (by decide)) (TA.mono (by decide)) (TI.mono (by decide)) (DR.mono (by decide)) (SO.mono (by decide)) IW (CR.mono (by decide)) mzR mzX mzN mzL mzl hr hS hn
end W35

open PySem PySem.W PyProof.Rows
set_option maxHeartbeats 0 in
theorem PySem.Challenge.cw_glassladder_k35_whole_never_a_why_and_a_holds : PySem.Challenge.rw_glassladder_k35_whole_never_a_why_and_a.Holds := by
  w_on; o_law; k_head; (case hw => w_witness2)
  k_fill
  refine Gs.walk_at1 (l := PySem.Challenge.rw_glassladder_k35_whole_never_a_why_and_a) (n := 63) rfl (by decide) rfl (fun w h Y => PySem.W.kIn_of Y) ?F
  case F =>
    intro w mg fa h KX G hmg base H s a ns hn _ _ hS e0
    refine' W35.all_mk KX G hmg ?a1 ?l1 ?c1 ?k1 ?a2 ?l2 ?c2 ?k2 ?a4 ?l4 ?c4 ?k4 ?a6 ?l6 ?c6 ?k6 ?a9 ?l9 ?c9 ?k9 ?a10 ?l10 ?c10 ?k10 ?a11 ?l11 ?c11 ?k11 ?a12 ?l12 ?c12 ?k12 ?a13 ?l13 ?c13 ?k13 ?a14 ?l14 ?c14 ?k14 ?a15 ?l15 ?c15 ?k15 ?a16 ?l16 ?c16 ?k16 ?a17 ?l17 ?c17 ?k17 ?a18 ?l18 ?c18 ?k18 ?a19 ?l19 ?c19 ?k19 ?a20 ?l20 ?c20 ?k20 ?a21 ?l21 ?c21 ?k21 ?a22 ?l22 ?c22 ?k22 ?a23 ?l23 ?c23 ?k23 ?a24 ?l24 ?c24 ?k24 ?a25 ?l25 ?c25 ?k25 ?a26 ?l26 ?c26 ?k26 ?a27 ?l27 ?c27 ?k27 ?a28 ?l28 ?c28 ?k28 ?a30 ?l30 ?c30 ?k30 ?a31 ?l31 ?c31 ?k31 ?a32 ?l32 ?c32 ?k32 ?a37 ?l37 ?c37 ?k37 ?a38 ?l38 ?c38 ?k38 ?a39 ?l39 ?c39 ?k39 ?gN ?pN ?qN ?rN ?zR ?zL ?zT ?zS ?zl ?zi ?zV ?zE ?zs ?zX ?zN ?zZ ?zY ?zA ?zI ?zB base H s a ns hn hS e0
    (case a1 => first | rfl | k_is)
    (case l1 => first | rfl | k_is)
    (case c1 => first | rfl | k_is)
    (case k1 => first | rfl | k_is)
    (case a2 => first | rfl | k_is)
    (case l2 => first | rfl | k_is)
    (case c2 => first | rfl | k_is)
    (case k2 => first | rfl | k_is)
    (case a4 => first | rfl | k_is)
    (case l4 => first | rfl | k_is)
    (case c4 => first | rfl | k_is)
    (case k4 => first | rfl | k_is)
    (case a6 => first | rfl | k_is)
    (case l6 => first | rfl | k_is)
    (case c6 => first | rfl | k_is)
    (case k6 => first | rfl | k_is)
    (case a9 => first | rfl | k_is)
    (case l9 => first | rfl | k_is)
    (case c9 => first | rfl | k_is)
    (case k9 => first | rfl | k_is)
    (case a10 => first | rfl | k_is)
    (case l10 => first | rfl | k_is)
    (case c10 => first | rfl | k_is)
    (case k10 => first | rfl | k_is)
    (case a11 => first | rfl | k_is)
    (case l11 => first | rfl | k_is)
    (case c11 => first | rfl | k_is)
    (case k11 => first | rfl | k_is)
    (case a12 => first | rfl | k_is)
    (case l12 => first | rfl | k_is)
    (case c12 => first | rfl | k_is)
    (case k12 => first | rfl | k_is)
    (case a13 => first | rfl | k_is)
    (case l13 => first | rfl | k_is)
    (case c13 => first | rfl | k_is)
    (case k13 => first | rfl | k_is)
    (case a14 => first | rfl | k_is)
    (case l14 => first | rfl | k_is)
    (case c14 => first | rfl | k_is)
    (case k14 => first | rfl | k_is)
    (case a15 => first | rfl | k_is)
    (case l15 => first | rfl | k_is)
    (case c15 => first | rfl | k_is)
    (case k15 => first | rfl | k_is)
    (case a16 => first | rfl | k_is)
    (case l16 => first | rfl | k_is)
    (case c16 => first | rfl | k_is)
    (case k16 => first | rfl | k_is)
    (case a17 => first | rfl | k_is)
    (case l17 => first | rfl | k_is)
    (case c17 => first | rfl | k_is)
    (case k17 => first | rfl | k_is)
    (case a18 => first | rfl | k_is)
    (case l18 => first | rfl | k_is)
    (case c18 => first | rfl | k_is)
    (case k18 => first | rfl | k_is)
    (case a19 => first | rfl | k_is)
    (case l19 => first | rfl | k_is)
    (case c19 => first | rfl | k_is)
    (case k19 => first | rfl | k_is)
    (case a20 => first | rfl | k_is)
    (case l20 => first | rfl | k_is)
    (case c20 => first | rfl | k_is)
    (case k20 => first | rfl | k_is)
    (case a21 => first | rfl | k_is)
    (case l21 => first | rfl | k_is)
    (case c21 => first | rfl | k_is)
    (case k21 => first | rfl | k_is)
    (case a22 => first | rfl | k_is)
    (case l22 => first | rfl | k_is)
    (case c22 => first | rfl | k_is)
    (case k22 => first | rfl | k_is)
    (case a23 => first | rfl | k_is)
    (case l23 => first | rfl | k_is)
    (case c23 => first | rfl | k_is)
    (case k23 => first | rfl | k_is)
    (case a24 => first | rfl | k_is)
    (case l24 => first | rfl | k_is)
    (case c24 => first | rfl | k_is)
    (case k24 => first | rfl | k_is)
    (case a25 => first | rfl | k_is)
    (case l25 => first | rfl | k_is)
    (case c25 => first | rfl | k_is)
    (case k25 => first | rfl | k_is)
    (case a26 => first | rfl | k_is)
    (case l26 => first | rfl | k_is)
    (case c26 => first | rfl | k_is)
    (case k26 => first | rfl | k_is)
    (case a27 => first | rfl | k_is)
    (case l27 => first | rfl | k_is)
    (case c27 => first | rfl | k_is)
    (case k27 => first | rfl | k_is)
    (case a28 => first | rfl | k_is)
    (case l28 => first | rfl | k_is)
    (case c28 => first | rfl | k_is)
    (case k28 => first | rfl | k_is)
    (case a30 => first | rfl | k_is)
    (case l30 => first | rfl | k_is)
    (case c30 => first | rfl | k_is)
    (case k30 => first | rfl | k_is)
    (case a31 => first | rfl | k_is)
    (case l31 => first | rfl | k_is)
    (case c31 => first | rfl | k_is)
    (case k31 => first | rfl | k_is)
    (case a32 => first | rfl | k_is)
    (case l32 => first | rfl | k_is)
    (case c32 => first | rfl | k_is)
    (case k32 => first | rfl | k_is)
    (case a37 => first | rfl | k_is)
    (case l37 => first | rfl | k_is)
    (case c37 => first | rfl | k_is)
    (case k37 => first | rfl | k_is)
    (case a38 => first | rfl | k_is)
    (case l38 => first | rfl | k_is)
    (case c38 => first | rfl | k_is)
    (case k38 => first | rfl | k_is)
    (case a39 => first | rfl | k_is)
    (case l39 => first | rfl | k_is)
    (case c39 => first | rfl | k_is)
    (case k39 => first | rfl | k_is)
    (case gN => first | rfl | k_is)
    (case pN => first | rfl | k_is)
    (case qN => first | rfl | k_is)
    (case rN => first | rfl | k_is)
    (case zR => first | rfl | k_is)
    (case zL => first | rfl | k_is)
    (case zT => first | rfl | k_is)
    (case zS => first | rfl | k_is)
    (case zl => first | rfl | k_is)
    (case zi => first | rfl | k_is)
    (case zV => first | rfl | k_is)
    (case zE => first | rfl | k_is)
    (case zs => first | rfl | k_is)
    (case zX => first | rfl | k_is)
    (case zN => first | rfl | k_is)
    (case zZ => first | rfl | k_is)
    (case zY => first | rfl | k_is)
    (case zA => first | rfl | k_is)
    (case zI => first | rfl | k_is)
    (case zB => first | rfl | k_is)
