import PyProof.Rows.All
import Wide.All
import OpenK.AllK
import Wide.FinOn
import HandS.ForMost
import HandS.ForExc
import HandS.Wide
import HandS.Defaults
import HandS.ExcIs
import HandS.ExcValue
import PyProof.Rows.ReprR
import HandS.Strs
import HandS.DictComp
import PyProof.Rows.SetFrom
import HandS.Walk
import HandS.Deep
import HandS.Iter
import HandS.Flow
import HandS.SortInts
import PyProof.NeKinds
import HandS.List
import HandS.Comp
import HandS.FStrTup
import HandS.ExcOwn
import HandS.ExcInit
import HandS.ExcField
import HandS.IsInst
import HandS.RaiseMore
import HandS.More
import HandS.Conv
import PySem.Challenge.RW_glassladder_k34_pieces_told
set_option Elab.async false
set_option linter.all false
set_option maxRecDepth 100000
set_option maxHeartbeats 8000000
namespace Gr
/-! ### going through a graph: pieces by two goings through -/
/-- x leads to y -/
inductive R (adj : Nat → List Nat) (x : Nat) : Nat → Prop
  | refl : R adj x x
  | step {y z : Nat} : R adj x y → z ∈ adj y → R adj x z
theorem R.trans {adj : Nat → List Nat} {x y z : Nat} (h : R adj x y) (g : R adj y z) : R adj x z := by
  induction g with
  | refl => exact h
  | step _ e ih => exact .step ih e
theorem R.one {adj : Nat → List Nat} {x y : Nat} (h : y ∈ adj x) : R adj x y := .step .refl h
theorem R.mem {adj : Nat → List Nat} {es : List Nat} (cl : ∀ x ∈ es, ∀ y ∈ adj x, y ∈ es) {x y : Nat} (hx : x ∈ es) (h : R adj x y) : y ∈ es := by
  induction h with
  | refl => exact hx
  | step _ e ih => exact cl _ ih _ e
theorem R.flip {adj bdj : Nat → List Nat} (h : ∀ x y, y ∈ adj x → x ∈ bdj y) {x y : Nat} (g : R adj x y) : R bdj y x := by
  induction g with
  | refl => exact .refl
  | step _ e ih => exact (R.one (h _ _ e)).trans ih
structure St where
  path : List (Nat × Nat)
  ord : List Nat
  ks : List Nat
/-- one turn; the path's last is told first here -/
def step (adj : Nat → List Nat) (s : St) : St :=
  match s.path with
  | [] => s
  | (h, a) :: p => match (adj h)[a]? with
    | none => ⟨p, s.ord ++ [h], s.ks⟩
    | some t => if t ∈ s.ks then ⟨(h, a + 1) :: p, s.ord, s.ks⟩ else ⟨(t, 0) :: (h, a + 1) :: p, s.ord, s.ks ++ [t]⟩
def iter (adj : Nat → List Nat) : Nat → St → St
  | 0, s => s
  | n + 1, s => iter adj n (step adj s)
def nodes (s : St) : List Nat := s.path.map (·.1)
structure Inv (es : List Nat) (adj : Nat → List Nat) (ks0 : List Nat) (e : Nat) (s : St) : Prop where
  keys : ∀ x, x ∈ s.ks ↔ x ∈ ks0 ∨ x ∈ s.ord ∨ x ∈ nodes s
  nd : (s.ord ++ nodes s).Nodup
  dis : ∀ x, x ∈ s.ord ++ nodes s → x ∉ ks0
  fr : ∀ f ∈ s.path, f.2 ≤ (adj f.1).length ∧ ∀ i, i < f.2 → ∀ t, (adj f.1)[i]? = some t → t ∈ s.ks
  fin : ∀ u ∈ s.ord, ∀ v ∈ adj u, v ∈ s.ks
  chain : (nodes s).Pairwise (fun a b => R adj b a)
  rch : ∀ x, x ∈ s.ord ++ nodes s → R adj e x
  sub : ∀ x ∈ s.ks, x ∈ es
  has : e ∈ s.ord ++ nodes s
section
variable {es ks0 : List Nat} {adj : Nat → List Nat} {e : Nat} {s : St}
theorem inv_init (he : e ∈ es) (h0 : ∀ x ∈ ks0, x ∈ es) (hn : e ∉ ks0) : Inv es adj ks0 e ⟨[(e, 0)], [], ks0 ++ [e]⟩ := by
  refine ⟨fun x => ?_, ?_, ?_, ?_, ?_, ?_, ?_, ?_, ?_⟩
  · simp [nodes]
  · simp [nodes]
  · simp [nodes]; exact hn
  · simp
  · simp
  · simp [nodes]
  · simp [nodes]; exact .refl
  · simp; rintro x (h | rfl)
    · exact h0 x h
    · exact he
  · simp [nodes]
theorem inv_step (cl : ∀ x ∈ es, ∀ y ∈ adj x, y ∈ es) (I : Inv es adj ks0 e s) : Inv es adj ks0 e (step adj s) := by
  obtain ⟨path, ord, ks⟩ := s
  match path, I with
  | [], I => exact I
  | (h, a) :: p, I =>
    obtain ⟨keys, nd, dis, fr, fin, chain, rch, sub, has⟩ := I
    have fh := fr (h, a) List.mem_cons_self
    have hk : h ∈ ks := (keys h).mpr (.inr (.inr (by simp [nodes])))
    have rh : R adj e h := rch h (by simp [nodes])
    unfold step
    dsimp only
    split
    · rename_i hn
      have al : a = (adj h).length := by
        have := List.getElem?_eq_none_iff.mp hn
        have := fh.1
        simp at this
        omega
      refine ⟨fun x => ?_, ?_, ?_, ?_, ?_, ?_, ?_, sub, ?_⟩
      · rw [keys x]
        simp only [nodes, List.map_cons, List.mem_cons, List.mem_append, List.mem_singleton, List.not_mem_nil, or_false]
        grind
      · simp only [nodes, List.map_cons] at nd ⊢
        simpa using nd
      · intro x hx
        exact dis x (by simp only [nodes, List.map_cons] at hx ⊢; simpa using hx)
      · exact fun f hf => fr f (List.mem_cons_of_mem _ hf)
      · intro u hu v hv
        rcases List.mem_append.mp hu with hu | hu
        · exact fin u hu v hv
        · rw [List.mem_singleton.mp hu] at hv
          obtain ⟨i, hi, e⟩ := List.mem_iff_getElem.mp hv
          exact fh.2 i (by simp; omega) v (by simp only; rw [List.getElem?_eq_getElem hi, e])
      · simp only [nodes, List.map_cons, List.pairwise_cons] at chain
        exact chain.2
      · intro x hx
        exact rch x (by simp only [nodes, List.map_cons] at hx ⊢; simpa using hx)
      · simp only [nodes, List.map_cons] at has ⊢
        simpa using has
    · rename_i t ht
      have tm : t ∈ adj h := List.mem_of_getElem? ht
      have al : a < (adj h).length := (List.getElem?_eq_some_iff.mp ht).1
      split
      · rename_i tk
        refine ⟨keys, nd, dis, ?_, fin, chain, rch, sub, has⟩
        intro f hf
        rcases List.mem_cons.mp hf with rfl | hf
        · refine ⟨al, fun i hi t' e => ?_⟩
          by_cases c : i = a
          · rw [c] at e
            simp only at e
            rw [ht] at e
            cases e
            exact tk
          · exact fh.2 i (by simp at hi ⊢; omega) t' e
        · exact fr f (List.mem_cons_of_mem _ hf)
      · rename_i tk
        have tn := mt (keys t).mpr tk
        refine ⟨fun x => ?_, ?_, ?_, ?_, ?_, ?_, ?_, ?_, ?_⟩
        · simp only [nodes, List.map_cons, List.mem_cons, List.mem_append, List.not_mem_nil, or_false]
          have := keys x
          simp only [nodes, List.map_cons, List.mem_cons] at this
          grind
        · simp only [nodes, List.map_cons] at nd tn ⊢
          rw [List.nodup_append] at nd ⊢
          refine ⟨nd.1, List.nodup_cons.mpr ⟨fun z => tn (.inr (.inr z)), nd.2.1⟩, fun x hx y hy => ?_⟩
          rcases List.mem_cons.mp hy with rfl | hy
          · exact fun z => tn (.inr (.inl (z ▸ hx)))
          · exact nd.2.2 x hx y hy
        · intro x hx
          simp only [nodes, List.map_cons, List.mem_append, List.mem_cons] at hx
          by_cases c : x = t
          · rw [c]
            exact fun z => tn (.inl z)
          · exact dis x (by simp only [nodes, List.map_cons, List.mem_append, List.mem_cons]; grind)
        · intro f hf
          have g : ∀ f ∈ (h, a) :: p, ∀ i, i < f.2 → ∀ t', (adj f.1)[i]? = some t' → t' ∈ ks ++ [t] := fun f hf i hi t' e => List.mem_append.mpr (.inl ((fr f hf).2 i hi t' e))
          rcases List.mem_cons.mp hf with rfl | hf
          · exact ⟨Nat.zero_le _, fun i hi => absurd hi (Nat.not_lt_zero i)⟩
          rcases List.mem_cons.mp hf with rfl | hf
          · refine ⟨al, fun i hi t' e => ?_⟩
            by_cases c : i = a
            · rw [c] at e
              simp only at e
              rw [ht] at e
              cases e
              simp
            · exact g (h, a) List.mem_cons_self i (by simp at hi ⊢; omega) t' e
          · exact ⟨(fr f (List.mem_cons_of_mem _ hf)).1, g f (List.mem_cons_of_mem _ hf)⟩
        · exact fun u hu v hv => List.mem_append.mpr (.inl (fin u hu v hv))
        · simp only [nodes, List.map_cons, List.pairwise_cons] at chain ⊢
          refine ⟨fun b hb => ?_, chain⟩
          rcases List.mem_cons.mp hb with rfl | hb
          · exact R.one tm
          · exact (chain.1 b hb).step tm
        · intro x hx
          by_cases c : x = t
          · rw [c]
            exact rh.step tm
          · exact rch x (by simp only [nodes, List.map_cons, List.mem_append, List.mem_cons] at hx ⊢; grind)
        · intro x hx
          rcases List.mem_append.mp hx with hx | hx
          · exact sub x hx
          · rw [List.mem_singleton.mp hx]
            exact cl h (sub h hk) t tm
        · simp only [nodes, List.map_cons, List.mem_append, List.mem_cons] at has ⊢
          grind
end
/-! it ends -/
def lack (es : List Nat) (adj : Nat → List Nat) (ks : List Nat) : Nat := (es.map fun x => if x ∈ ks then 0 else (adj x).length + 2).sum
def mu (es : List Nat) (adj : Nat → List Nat) (s : St) : Nat := lack es adj s.ks + (s.path.map fun f => (adj f.1).length - f.2 + 1).sum
theorem lack_le {adj : Nat → List Nat} {ks : List Nat} {t : Nat} : ∀ {es : List Nat}, lack es adj (ks ++ [t]) ≤ lack es adj ks
  | [] => Nat.le_refl _
  | x :: es => by
    have ih := @lack_le adj ks t es
    unfold lack at ih ⊢
    simp only [List.map_cons, List.sum_cons]
    have : (if x ∈ ks ++ [t] then 0 else (adj x).length + 2) ≤ (if x ∈ ks then 0 else (adj x).length + 2) := by
      by_cases c : x ∈ ks
      · simp [c]
      · by_cases d : x ∈ ks ++ [t]
        · rw [if_pos d]
          exact Nat.zero_le _
        · rw [if_neg c, if_neg d]
          exact Nat.le_refl _
    omega
theorem lack_lt {adj : Nat → List Nat} {ks : List Nat} {t : Nat} (hk : t ∉ ks) : ∀ {es : List Nat}, t ∈ es → lack es adj (ks ++ [t]) + ((adj t).length + 2) ≤ lack es adj ks
  | [], h => absurd h List.not_mem_nil
  | x :: es, h => by
    have l := @lack_le adj ks t es
    by_cases c : x = t
    · subst c
      unfold lack at l ⊢
      simp only [List.map_cons, List.sum_cons]
      rw [if_neg hk, if_pos (by simp)]
      omega
    · have ih := @lack_lt adj ks t hk es ((List.mem_cons.mp h).resolve_left fun z => c z.symm)
      unfold lack at ih ⊢
      simp only [List.map_cons, List.sum_cons]
      have : (if x ∈ ks ++ [t] then 0 else (adj x).length + 2) = (if x ∈ ks then 0 else (adj x).length + 2) := by
        simp [c]
      omega
theorem mu_step {es ks0 : List Nat} {adj : Nat → List Nat} {e : Nat} {s : St} (cl : ∀ x ∈ es, ∀ y ∈ adj x, y ∈ es) (I : Inv es adj ks0 e s) (hp : s.path ≠ []) : mu es adj (step adj s) < mu es adj s := by
  obtain ⟨path, ord, ks⟩ := s
  match path, I with
  | [], I => exact absurd rfl hp
  | (h, a) :: p, I =>
    have fh := I.fr (h, a) List.mem_cons_self
    have hk : h ∈ ks := (I.keys h).mpr (.inr (.inr (by simp [nodes])))
    unfold step mu
    dsimp only
    split
    · simp only [List.map_cons, List.sum_cons]
      omega
    · rename_i t ht
      have tm : t ∈ adj h := List.mem_of_getElem? ht
      have al : a < (adj h).length := (List.getElem?_eq_some_iff.mp ht).1
      split
      · simp only [List.map_cons, List.sum_cons]
        omega
      · rename_i tk
        have l := lack_lt (adj := adj) tk (cl h (I.sub h hk) t tm)
        simp only [List.map_cons, List.sum_cons]
        omega
/-- the whole going through from e on -/
def dfs (es : List Nat) (adj : Nat → List Nat) (ks : List Nat) (e : Nat) : St := iter adj (mu es adj ⟨[(e, 0)], [], ks ++ [e]⟩) ⟨[(e, 0)], [], ks ++ [e]⟩
theorem iter_nil {adj : Nat → List Nat} : ∀ {n : Nat} {s : St}, s.path = [] → iter adj n s = s
  | 0, _, _ => rfl
  | n + 1, s, h => by
    have e : step adj s = s := by
      unfold step
      rw [h]
    rw [iter, e, iter_nil h]
theorem iter_succ {adj : Nat → List Nat} : ∀ {n : Nat} {s : St}, iter adj (n + 1) s = step adj (iter adj n s)
  | 0, _ => rfl
  | n + 1, s => by
    rw [iter, iter_succ (n := n)]
    rfl
/-- from any state that is come to, the same end -/
theorem iter_end {es ks0 : List Nat} {adj : Nat → List Nat} {e : Nat} (cl : ∀ x ∈ es, ∀ y ∈ adj x, y ∈ es) : ∀ {m : Nat} {s : St}, Inv es adj ks0 e s → mu es adj s ≤ m → (iter adj m s).path = [] ∧ Inv es adj ks0 e (iter adj m s)
  | 0, s, I, h => by
    by_cases c : s.path = []
    · exact ⟨c, I⟩
    · have := mu_step cl I c
      omega
  | m + 1, s, I, h => by
    by_cases c : s.path = []
    · rw [iter_nil c]
      exact ⟨c, I⟩
    · have := mu_step cl I c
      exact iter_end (m := m) (s := step adj s) cl (inv_step cl I) (by omega)
theorem iter_more {adj : Nat → List Nat} {n k : Nat} {s : St} (h : (iter adj n s).path = []) (l : n ≤ k) : iter adj k s = iter adj n s := by
  induction l with
  | refl => rfl
  | step _ ih => rw [iter_succ, ih]; unfold step; rw [h]
section
variable {es ks0 : List Nat} {adj : Nat → List Nat} {e : Nat} (cl : ∀ x ∈ es, ∀ y ∈ adj x, y ∈ es) (he : e ∈ es) (h0 : ∀ x ∈ ks0, x ∈ es) (hn : e ∉ ks0)
include cl he h0 hn
theorem dfs_end : (dfs es adj ks0 e).path = [] ∧ Inv es adj ks0 e (dfs es adj ks0 e) := iter_end cl (inv_init he h0 hn) (Nat.le_refl _)
/-- a state with no path is the end -/
theorem dfs_of {n : Nat} (h : (iter adj n ⟨[(e, 0)], [], ks0 ++ [e]⟩).path = []) : iter adj n ⟨[(e, 0)], [], ks0 ++ [e]⟩ = dfs es adj ks0 e := by
  have d := (dfs_end cl he h0 hn).1
  rcases Nat.le_total n (mu es adj ⟨[(e, 0)], [], ks0 ++ [e]⟩) with l | l
  · exact (iter_more h l).symm
  · exact iter_more d l
end
end Gr

namespace Gr
/-! ### the order by which entries are left -/
def OkP (adj : Nat → List Nat) (O P : List Nat) : Prop := ∀ u ∈ O, ∀ v ∈ adj u,
  (v ∈ O ∧ ∀ x ∈ O, O.idxOf u ≤ O.idxOf x → O.idxOf x < O.idxOf v → R adj v x) ∨ (v ∈ P ∧ ∀ x ∈ O, O.idxOf u ≤ O.idxOf x → R adj v x)
theorem idx_in {O : List Nat} {h x : Nat} (hx : x ∈ O) : (O ++ [h]).idxOf x = O.idxOf x := by
  rw [List.idxOf_append, if_pos hx]
theorem idx_new {O : List Nat} {h : Nat} (hn : h ∉ O) : (O ++ [h]).idxOf h = O.length := by
  rw [List.idxOf_append, if_neg hn, List.idxOf_cons_self, Nat.zero_add]
theorem idx_inj {O : List Nat} {x y : Nat} (hx : x ∈ O) (hy : y ∈ O) (h : O.idxOf x = O.idxOf y) : x = y := by
  have lx := List.idxOf_lt_length_of_mem hx
  have ly := List.idxOf_lt_length_of_mem hy
  have e1 : O[O.idxOf x]'lx = x := by
    have := List.findIdx_getElem (p := (· == x)) (xs := O) (w := lx)
    exact eq_of_beq this
  have e2 : O[O.idxOf y]'ly = y := by
    have := List.findIdx_getElem (p := (· == y)) (xs := O) (w := ly)
    exact eq_of_beq this
  rw [← e1, ← e2]
  simp only [h]
theorem ok_more {adj : Nat → List Nat} {O P P' : List Nat} (h : OkP adj O P) (g : ∀ x ∈ P, x ∈ P') : OkP adj O P' := fun u hu v hv => by
  rcases h u hu v hv with h | ⟨h1, h2⟩
  · exact .inl h
  · exact .inr ⟨g v h1, h2⟩
/-- one more is left: h, the path's last -/
theorem ok_leave {adj : Nat → List Nat} {O P : List Nat} {h : Nat} (hO : h ∉ O) (ok : OkP adj O (h :: P)) (rp : ∀ x ∈ P, R adj x h) (all : ∀ v ∈ adj h, v ∈ O ∨ v = h ∨ v ∈ P) : OkP adj (O ++ [h]) P := by
  intro u hu v hv
  have len : ∀ x ∈ O, O.idxOf x < O.length := fun x hx => List.idxOf_lt_length_of_mem hx
  rcases List.mem_append.mp hu with hu' | hu'
  · rcases ok u hu' v hv with ⟨h1, h2⟩ | ⟨h1, h2⟩
    · refine .inl ⟨List.mem_append.mpr (.inl h1), fun x hx l1 l2 => ?_⟩
      rw [idx_in h1] at l2
      rcases List.mem_append.mp hx with hx | hx
      · rw [idx_in hx] at l1 l2
        rw [idx_in hu'] at l1
        exact h2 x hx l1 l2
      · rw [List.mem_singleton.mp hx, idx_new hO] at l2
        have := len v h1
        omega
    · rcases List.mem_cons.mp h1 with rfl | h1
      · refine .inl ⟨by simp, fun x hx l1 l2 => ?_⟩
        rw [idx_new hO] at l2
        rcases List.mem_append.mp hx with hx | hx
        · rw [idx_in hx, idx_in hu'] at l1
          exact h2 x hx l1
        · rw [List.mem_singleton.mp hx]
          exact .refl
      · refine .inr ⟨h1, fun x hx l1 => ?_⟩
        rcases List.mem_append.mp hx with hx | hx
        · rw [idx_in hx, idx_in hu'] at l1
          exact h2 x hx l1
        · rw [List.mem_singleton.mp hx]
          exact rp v h1
  · have eu := List.mem_singleton.mp hu'
    subst eu
    rcases all v hv with h1 | rfl | h1
    · refine .inl ⟨List.mem_append.mpr (.inl h1), fun x hx l1 l2 => ?_⟩
      rw [idx_new hO] at l1
      rw [idx_in h1] at l2
      have := len v h1
      omega
    · refine .inl ⟨by simp, fun x hx l1 l2 => ?_⟩
      omega
    · refine .inr ⟨h1, fun x hx l1 => ?_⟩
      rw [idx_new hO] at l1
      rcases List.mem_append.mp hx with hx | hx
      · rw [idx_in hx] at l1
        have := len x hx
        omega
      · rw [List.mem_singleton.mp hx]
        exact rp v h1
section
variable {es ks0 O0 : List Nat} {adj : Nat → List Nat} {e : Nat} {s : St}
theorem ok_step (cl : ∀ x ∈ es, ∀ y ∈ adj x, y ∈ es) (hO : ∀ x, x ∈ O0 ↔ x ∈ ks0) (I : Inv es adj ks0 e s) (ok : OkP adj (O0 ++ s.ord) (nodes s)) : OkP adj (O0 ++ (step adj s).ord) (nodes (step adj s)) := by
  have J := inv_step cl I
  obtain ⟨path, ord, ks⟩ := s
  match path, I, J, ok with
  | [], I, J, ok => exact ok
  | (h, a) :: p, I, J, ok =>
    unfold step at J ⊢
    dsimp only at J ⊢
    split
    · rename_i hn
      rw [hn] at J
      dsimp only at J
      have nh : h ∉ O0 ++ ord := by
        intro z
        rcases List.mem_append.mp z with z | z
        · exact I.dis h (by simp [nodes]) ((hO h).mp z)
        · have := I.nd
          simp only [nodes, List.map_cons] at this
          rw [List.nodup_append] at this
          exact this.2.2 h z h List.mem_cons_self rfl
      show OkP adj (O0 ++ (ord ++ [h])) (nodes ⟨p, ord ++ [h], ks⟩)
      rw [← List.append_assoc]
      refine ok_leave nh ok (fun x hx => ?_) fun v hv => ?_
      · have := I.chain
        simp only [nodes, List.map_cons, List.pairwise_cons] at this
        exact this.1 x hx
      · have := (I.keys v).mp (J.fin h (by simp) v hv)
        simp only [nodes, List.map_cons, List.mem_cons] at this
        simp only [List.mem_append, hO v]
        have e : v ∈ nodes ⟨p, ord ++ [h], ks⟩ ↔ v ∈ p.map (·.1) := Iff.rfl
        rw [e]
        grind
    · split
      · exact ok
      · exact ok_more ok fun x hx => by
          simp only [nodes, List.map_cons, List.mem_cons] at hx ⊢
          grind
theorem ok_iter (cl : ∀ x ∈ es, ∀ y ∈ adj x, y ∈ es) (hO : ∀ x, x ∈ O0 ↔ x ∈ ks0) : ∀ {n : Nat} {s : St}, Inv es adj ks0 e s → OkP adj (O0 ++ s.ord) (nodes s) → OkP adj (O0 ++ (iter adj n s).ord) (nodes (iter adj n s))
  | 0, _, _, ok => ok
  | n + 1, s, I, ok => ok_iter (n := n) (s := step adj s) cl hO (inv_step cl I) (ok_step cl hO I ok)
/-- what a going through from e tells -/
structure Went (adj : Nat → List Nat) (ks0 : List Nat) (e : Nat) (o ks : List Nat) : Prop where
  keys : ∀ x, x ∈ ks ↔ x ∈ ks0 ∨ x ∈ o
  nd : o.Nodup
  dis : ∀ x ∈ o, x ∉ ks0
  has : e ∈ o
  rch : ∀ x ∈ o, R adj e x
  fin : ∀ u ∈ o, ∀ v ∈ adj u, v ∈ ks0 ∨ v ∈ o
theorem dfs_went (cl : ∀ x ∈ es, ∀ y ∈ adj x, y ∈ es) (he : e ∈ es) (h0 : ∀ x ∈ ks0, x ∈ es) (hn : e ∉ ks0) : Went adj ks0 e (dfs es adj ks0 e).ord (dfs es adj ks0 e).ks ∧ (∀ x ∈ (dfs es adj ks0 e).ks, x ∈ es) := by
  obtain ⟨hp, I⟩ := dfs_end cl he h0 hn
  have np : nodes (dfs es adj ks0 e) = [] := by unfold nodes; rw [hp]; rfl
  have k : ∀ x, x ∈ (dfs es adj ks0 e).ks ↔ x ∈ ks0 ∨ x ∈ (dfs es adj ks0 e).ord := fun x => by
    rw [I.keys x, np]
    simp
  refine ⟨⟨k, ?_, ?_, ?_, ?_, fun u hu v hv => (k v).mp (I.fin u hu v hv)⟩, I.sub⟩
  · have := I.nd
    rw [np, List.append_nil] at this
    exact this
  · intro x hx
    exact I.dis x (List.mem_append.mpr (.inl hx))
  · have := I.has
    rw [np, List.append_nil] at this
    exact this
  · intro x hx
    exact I.rch x (List.mem_append.mpr (.inl hx))
theorem dfs_ok (cl : ∀ x ∈ es, ∀ y ∈ adj x, y ∈ es) (he : e ∈ es) (h0 : ∀ x ∈ ks0, x ∈ es) (hn : e ∉ ks0) (hO : ∀ x, x ∈ O0 ↔ x ∈ ks0) (ok : OkP adj O0 []) : OkP adj (O0 ++ (dfs es adj ks0 e).ord) [] := by
  have z := ok_iter (n := mu es adj ⟨[(e, 0)], [], ks0 ++ [e]⟩) cl hO (inv_init he h0 hn) (by
    show OkP adj (O0 ++ []) _
    rw [List.append_nil]
    exact ok_more ok fun x hx => absurd hx List.not_mem_nil)
  have np : nodes (dfs es adj ks0 e) = [] := by
    unfold nodes
    rw [(dfs_end cl he h0 hn).1]
    rfl
  have z' : OkP adj (O0 ++ (dfs es adj ks0 e).ord) (nodes (dfs es adj ks0 e)) := z
  rw [np] at z'
  exact z'
end
/-! ### the first going through of all -/
def goAll (es : List Nat) (adj : Nat → List Nat) : List Nat → List Nat × List Nat → List Nat × List Nat
  | [], a => a
  | e :: r, (O, ks) => if e ∈ ks then goAll es adj r (O, ks) else goAll es adj r (O ++ (dfs es adj ks e).ord, (dfs es adj ks e).ks)
structure Gone (es : List Nat) (adj : Nat → List Nat) (O ks : List Nat) : Prop where
  keys : ∀ x, x ∈ O ↔ x ∈ ks
  nd : O.Nodup
  sub : ∀ x ∈ O, x ∈ es
  ok : OkP adj O []
theorem gone_one {es : List Nat} {adj : Nat → List Nat} {O ks : List Nat} {e : Nat} (cl : ∀ x ∈ es, ∀ y ∈ adj x, y ∈ es) (G : Gone es adj O ks) (he : e ∈ es) (hn : e ∉ ks) : Gone es adj (O ++ (dfs es adj ks e).ord) (dfs es adj ks e).ks := by
  have h0 : ∀ x ∈ ks, x ∈ es := fun x hx => G.sub x ((G.keys x).mpr hx)
  obtain ⟨W, sub⟩ := dfs_went cl he h0 hn
  refine ⟨fun x => ?_, ?_, ?_, dfs_ok cl he h0 hn G.keys G.ok⟩
  · rw [List.mem_append, W.keys x, G.keys x]
  · rw [List.nodup_append]
    exact ⟨G.nd, W.nd, fun a ha b hb e => W.dis b hb ((G.keys b).mp (e ▸ ha))⟩
  · intro x hx
    rcases List.mem_append.mp hx with hx | hx
    · exact G.sub x hx
    · exact sub x ((W.keys x).mpr (.inr hx))
theorem goAll_ok {es : List Nat} {adj : Nat → List Nat} (cl : ∀ x ∈ es, ∀ y ∈ adj x, y ∈ es) : ∀ {r O ks : List Nat}, (∀ x ∈ r, x ∈ es) → Gone es adj O ks → Gone es adj (goAll es adj r (O, ks)).1 (goAll es adj r (O, ks)).2 ∧ (∀ x ∈ O, x ∈ (goAll es adj r (O, ks)).1) ∧ ∀ x ∈ r, x ∈ (goAll es adj r (O, ks)).1
  | [], O, ks, _, G => ⟨G, fun x hx => hx, fun x hx => absurd hx List.not_mem_nil⟩
  | e :: r, O, ks, hr, G => by
    unfold goAll
    split
    · rename_i hk
      obtain ⟨a, b, c⟩ := goAll_ok cl (fun x hx => hr x (List.mem_cons_of_mem _ hx)) G
      refine ⟨a, b, fun x hx => ?_⟩
      rcases List.mem_cons.mp hx with rfl | hx
      · exact b x ((G.keys x).mpr hk)
      · exact c x hx
    · rename_i hk
      have he := hr e List.mem_cons_self
      have h0 : ∀ x ∈ ks, x ∈ es := fun x hx => G.sub x ((G.keys x).mpr hx)
      obtain ⟨W, _⟩ := dfs_went cl he h0 hk
      obtain ⟨a, b, c⟩ := goAll_ok cl (fun x hx => hr x (List.mem_cons_of_mem _ hx)) (gone_one cl G he hk)
      refine ⟨a, fun x hx => b x (List.mem_append.mpr (.inl hx)), fun x hx => ?_⟩
      rcases List.mem_cons.mp hx with rfl | hx
      · exact b x (List.mem_append.mpr (.inr W.has))
      · exact c x hx
/-! ### what the order tells -/
def Mut (adj : Nat → List Nat) (x y : Nat) : Prop := R adj x y ∧ R adj y x
theorem Mut.symm {adj : Nat → List Nat} {x y : Nat} (h : Mut adj x y) : Mut adj y x := ⟨h.2, h.1⟩
theorem Mut.refl {adj : Nat → List Nat} {x : Nat} : Mut adj x x := ⟨.refl, .refl⟩
theorem Mut.trans {adj : Nat → List Nat} {x y z : Nat} (h : Mut adj x y) (g : Mut adj y z) : Mut adj x z := ⟨h.1.trans g.1, g.2.trans h.2⟩
theorem max_of {p : Nat → Prop} (f : Nat → Nat) : ∀ {O : List Nat}, (∃ x ∈ O, p x) → ∃ y ∈ O, p y ∧ ∀ x ∈ O, p x → f x ≤ f y
  | [], h => by
    obtain ⟨x, hx, _⟩ := h
    exact absurd hx List.not_mem_nil
  | a :: O, h => by
    by_cases c : ∃ x ∈ O, p x
    · obtain ⟨y, hy, py, hm⟩ := max_of f c
      by_cases d : p a ∧ f y < f a
      · refine ⟨a, List.mem_cons_self, d.1, fun x hx px => ?_⟩
        rcases List.mem_cons.mp hx with rfl | hx
        · exact Nat.le_refl _
        · have := hm x hx px
          omega
      · refine ⟨y, List.mem_cons_of_mem _ hy, py, fun x hx px => ?_⟩
        rcases List.mem_cons.mp hx with rfl | hx
        · exact Nat.le_of_not_lt fun z => d ⟨px, z⟩
        · exact hm x hx px
    · obtain ⟨x, hx, px⟩ := h
      rcases List.mem_cons.mp hx with rfl | hx
      · refine ⟨x, List.mem_cons_self, px, fun y hy py => ?_⟩
        rcases List.mem_cons.mp hy with rfl | hy
        · exact Nat.le_refl _
        · exact absurd ⟨y, hy, py⟩ c
      · exact absurd ⟨x, hx, px⟩ c
/-- of all that lead round with u, the last one left is behind all that u leads to -/
theorem last_of {adj : Nat → List Nat} {O : List Nat} (ok : OkP adj O []) {u : Nat} (hu : u ∈ O) : ∃ y ∈ O, Mut adj u y ∧ ∀ v, R adj u v → v ∈ O ∧ O.idxOf v ≤ O.idxOf y := by
  obtain ⟨y, hy, my, mx⟩ := max_of (p := Mut adj u) (fun x => O.idxOf x) ⟨u, hu, .refl⟩
  refine ⟨y, hy, my, fun v hv => ?_⟩
  induction hv with
  | refl => exact ⟨hu, mx u hu .refl⟩
  | @step v' v rv hv ih =>
    obtain ⟨h1, h2⟩ := ih
    rcases ok v' h1 v hv with ⟨g1, g2⟩ | ⟨g1, _⟩
    · refine ⟨g1, ?_⟩
      rcases Nat.lt_or_ge (O.idxOf y) (O.idxOf v) with l | l
      · have z := g2 y hy h2 l
        exact mx v g1 ⟨rv.step hv, z.trans my.2⟩
      · exact l
    · exact absurd g1 List.not_mem_nil
end Gr

namespace Gr
/-! ### the second going through -/
def srt (l : List Nat) : List Nat := l.mergeSort fun a b => decide (a ≤ b)
theorem srt_perm (l : List Nat) : (srt l).Perm l := List.mergeSort_perm l _
theorem srt_mem {l : List Nat} {x : Nat} : x ∈ srt l ↔ x ∈ l := (srt_perm l).mem_iff
theorem srt_pw (l : List Nat) : (srt l).Pairwise (· ≤ ·) := by
  have h := List.pairwise_mergeSort (le := fun a b : Nat => decide (a ≤ b)) (fun a b c h1 h2 => by simp at *; omega) (fun a b => by simp; omega) l
  exact h.imp fun h => by simpa using h
theorem srt_eq {l m : List Nat} (p : m.Perm l) (s : m.Pairwise (· ≤ ·)) : m = srt l :=
  List.Perm.eq_of_pairwise (le := (· ≤ ·)) (fun a b _ _ h1 h2 => Nat.le_antisymm h1 h2) s (srt_pw l) (p.trans (srt_perm l).symm)
def goBack (es : List Nat) (bdj : Nat → List Nat) : List Nat → List (List Nat) × List Nat → List (List Nat) × List Nat
  | [], a => a
  | e :: r, (T, ks) => if e ∈ ks then goBack es bdj r (T, ks) else goBack es bdj r (T ++ [srt (dfs es bdj ks e).ord], (dfs es bdj ks e).ks)
structure Told (es : List Nat) (adj : Nat → List Nat) (O : List Nat) (T : List (List Nat)) (ks : List Nat) : Prop where
  keys : ∀ x, x ∈ ks ↔ ∃ p ∈ T, x ∈ p
  cls : ∀ p ∈ T, ∀ x ∈ p, x ∈ es ∧ ∀ y ∈ es, (y ∈ p ↔ Mut adj x y)
  ord : T.Pairwise fun p q => ∀ x ∈ q, ∀ y ∈ p, ¬ R adj x y
  top : ∀ p ∈ T, ∃ e ∈ p, ∀ z ∈ O, z ∉ ks → O.idxOf z < O.idxOf e
  shp : ∀ p ∈ T, p.Nodup ∧ p ≠ [] ∧ p.Pairwise (· ≤ ·)
section
variable {es O : List Nat} {adj bdj : Nat → List Nat}
theorem told_ks {T : List (List Nat)} {ks : List Nat} (D : Told es adj O T ks) {x y : Nat} (hx : x ∈ es) (m : Mut adj x y) (hy : y ∈ ks) : x ∈ ks := by
  obtain ⟨p, hp, yp⟩ := (D.keys y).mp hy
  exact (D.keys x).mpr ⟨p, hp, ((D.cls p hp y yp).2 x hx).mpr m.symm⟩
theorem told_one (cl : ∀ x ∈ es, ∀ y ∈ adj x, y ∈ es) (cb : ∀ x ∈ es, ∀ y ∈ bdj x, y ∈ es) (fl : ∀ x y, y ∈ adj x ↔ x ∈ bdj y) (ok : OkP adj O []) (nd : O.Nodup) (sub : ∀ x, x ∈ O ↔ x ∈ es)
    {T : List (List Nat)} {ks : List Nat} (D : Told es adj O T ks) {e : Nat} {A B : List Nat} (eO : O = A ++ e :: B) (hB : ∀ x ∈ B, x ∈ ks) (hn : e ∉ ks) : Told es adj O (T ++ [srt (dfs es bdj ks e).ord]) (dfs es bdj ks e).ks := by
  have he : e ∈ es := (sub e).mp (by rw [eO]; simp)
  have h0 : ∀ x ∈ ks, x ∈ es := fun x hx => by
    obtain ⟨p, hp, xp⟩ := (D.keys x).mp hx
    exact (D.cls p hp x xp).1
  obtain ⟨W, wsub⟩ := dfs_went cb he h0 hn
  have eA : e ∉ A := by
    rw [eO, List.nodup_append] at nd
    exact fun z => nd.2.2 e z e List.mem_cons_self rfl
  have ie : O.idxOf e = A.length := by
    rw [eO, List.idxOf_append, if_neg eA, List.idxOf_cons_self, Nat.zero_add]
  have lt : ∀ z ∈ O, z ∉ ks → z ≠ e → O.idxOf z < O.idxOf e := fun z hz zk ze => by
    rw [eO] at hz
    have zA : z ∈ A := by
      rcases List.mem_append.mp hz with h | h
      · exact h
      · rcases List.mem_cons.mp h with h | h
        · exact absurd h ze
        · exact absurd (hB z h) zk
    rw [ie, eO, List.idxOf_append, if_pos zA]
    exact List.idxOf_lt_length_of_mem zA
  have in_es : ∀ x ∈ (dfs es bdj ks e).ord, x ∈ es := fun x hx => wsub x ((W.keys x).mpr (.inr hx))
  have un : ∀ x ∈ (dfs es bdj ks e).ord, ∃ y ∈ O, y ∉ ks ∧ Mut adj x y ∧ ∀ v, R adj x v → v ∈ O ∧ O.idxOf v ≤ O.idxOf y := fun x hx => by
    obtain ⟨y, hy, m, mx⟩ := last_of ok ((sub x).mpr (in_es x hx))
    exact ⟨y, hy, fun z => W.dis x hx (told_ks D (in_es x hx) m z), m, mx⟩
  have fw : ∀ x ∈ (dfs es bdj ks e).ord, Mut adj e x := fun x hx => by
    have r : R adj x e := R.flip (fun a b h => (fl b a).mpr h) (W.rch x hx)
    obtain ⟨y, hy, yk, m, mx⟩ := un x hx
    have l := (mx e r).2
    by_cases c : y = e
    · rw [c] at m
      exact m.symm
    · have := lt y hy yk c
      omega
  have bw : ∀ z, R bdj e z → R adj e z → z ∈ (dfs es bdj ks e).ord := fun z hz => by
    induction hz with
    | refl => exact fun _ => W.has
    | @step z' z r h ih =>
      intro g
      have z'a : z' ∈ adj z := (fl z z').mpr h
      have i := ih (g.step z'a)
      rcases W.fin z' i z h with k | k
      · have rz : R adj z e := R.flip (fun a b h => (fl b a).mpr h) (r.step h)
        exact absurd (told_ks D he ⟨g, rz⟩ k) hn
      · exact k
  have iff : ∀ x, x ∈ (dfs es bdj ks e).ord ↔ Mut adj e x := fun x => ⟨fw x, fun m => bw x (R.flip (fun a b h => (fl a b).mp h) m.2) m.1⟩
  refine ⟨fun x => ?_, ?_, ?_, ?_, ?_⟩
  · rw [W.keys x, D.keys x]
    constructor
    · rintro (⟨p, hp, h⟩ | h)
      · exact ⟨p, List.mem_append.mpr (.inl hp), h⟩
      · exact ⟨_, List.mem_append.mpr (.inr (List.mem_singleton.mpr rfl)), srt_mem.mpr h⟩
    · rintro ⟨p, hp, h⟩
      rcases List.mem_append.mp hp with hp | hp
      · exact .inl ⟨p, hp, h⟩
      · rw [List.mem_singleton.mp hp] at h
        exact .inr (srt_mem.mp h)
  · intro p hp x hx
    rcases List.mem_append.mp hp with hp | hp
    · exact D.cls p hp x hx
    · have ep := List.mem_singleton.mp hp
      subst ep
      have hx' := srt_mem.mp hx
      refine ⟨in_es x hx', fun y hy => ?_⟩
      rw [srt_mem, iff y]
      have m := fw x hx'
      exact ⟨fun h => m.symm.trans h, fun h => m.trans h⟩
  · rw [List.pairwise_append]
    refine ⟨D.ord, List.pairwise_singleton _ _, fun p hp q hq x hx y hy r => ?_⟩
    rw [List.mem_singleton.mp hq] at hx
    have hx' := srt_mem.mp hx
    obtain ⟨ep, he', tp⟩ := D.top p hp
    obtain ⟨z, hz, zk, m, mx⟩ := un x hx'
    have me : Mut adj y ep := ((D.cls p hp y hy).2 ep (D.cls p hp ep he').1).mp he'
    have l := (mx ep (r.trans me.1)).2
    have := tp z hz zk
    omega
  · intro p hp
    rcases List.mem_append.mp hp with hp | hp
    · obtain ⟨ep, h1, h2⟩ := D.top p hp
      exact ⟨ep, h1, fun z hz zk => h2 z hz fun k => zk ((W.keys z).mpr (.inl k))⟩
    · rw [List.mem_singleton.mp hp]
      refine ⟨e, srt_mem.mpr W.has, fun z hz zk => lt z hz (fun k => zk ((W.keys z).mpr (.inl k))) fun c => ?_⟩
      rw [c] at zk
      exact zk ((W.keys e).mpr (.inr W.has))
  · intro p hp
    rcases List.mem_append.mp hp with hp | hp
    · exact D.shp p hp
    · rw [List.mem_singleton.mp hp]
      refine ⟨(srt_perm _).nodup_iff.mpr W.nd, fun z => ?_, srt_pw _⟩
      have := srt_mem.mpr W.has
      rw [z] at this
      exact absurd this List.not_mem_nil
theorem goBack_ok (cl : ∀ x ∈ es, ∀ y ∈ adj x, y ∈ es) (cb : ∀ x ∈ es, ∀ y ∈ bdj x, y ∈ es) (fl : ∀ x y, y ∈ adj x ↔ x ∈ bdj y) (ok : OkP adj O []) (nd : O.Nodup) (sub : ∀ x, x ∈ O ↔ x ∈ es) :
    ∀ {r B : List Nat} {T : List (List Nat)} {ks : List Nat}, O = r.reverse ++ B → (∀ x ∈ B, x ∈ ks) → Told es adj O T ks → Told es adj O (goBack es bdj r (T, ks)).1 (goBack es bdj r (T, ks)).2 ∧ ∀ x ∈ O, x ∈ (goBack es bdj r (T, ks)).2
  | [], B, T, ks, eO, hB, D => ⟨D, fun x hx => hB x (by rw [eO] at hx; simpa using hx)⟩
  | e :: r, B, T, ks, eO, hB, D => by
    have eO' : O = r.reverse ++ (e :: B) := by rw [eO]; simp
    unfold goBack
    split
    · rename_i hk
      exact goBack_ok cl cb fl ok nd sub eO' (fun x hx => by
        rcases List.mem_cons.mp hx with rfl | hx
        · exact hk
        · exact hB x hx) D
    · rename_i hk
      have he : e ∈ es := (sub e).mp (by rw [eO']; simp)
      have h0 : ∀ x ∈ ks, x ∈ es := fun x hx => by
        obtain ⟨p, hp, xp⟩ := (D.keys x).mp hx
        exact (D.cls p hp x xp).1
      obtain ⟨W, _⟩ := dfs_went cb he h0 hk
      exact goBack_ok cl cb fl ok nd sub eO' (fun x hx => by
        rcases List.mem_cons.mp hx with rfl | hx
        · exact (W.keys x).mpr (.inr W.has)
        · exact (W.keys x).mpr (.inl (hB x hx))) (told_one cl cb fl ok nd sub D eO' hB hk)
end
/-- the pieces -/
def leftOf (es : List Nat) (adj : Nat → List Nat) : List Nat := (goAll es adj es ([], [])).1
def pcs (es : List Nat) (adj bdj : Nat → List Nat) : List (List Nat) := (goBack es bdj (leftOf es adj).reverse ([], [])).1
theorem pcs_ok {es : List Nat} {adj bdj : Nat → List Nat} (cl : ∀ x ∈ es, ∀ y ∈ adj x, y ∈ es) (cb : ∀ x ∈ es, ∀ y ∈ bdj x, y ∈ es) (fl : ∀ x y, y ∈ adj x ↔ x ∈ bdj y) :
    (∀ x ∈ es, ∃ p ∈ pcs es adj bdj, x ∈ p) ∧ (∀ p ∈ pcs es adj bdj, ∀ x ∈ p, x ∈ es ∧ ∀ y ∈ es, (y ∈ p ↔ Mut adj x y)) ∧ ((pcs es adj bdj).Pairwise fun p q => ∀ x ∈ q, ∀ y ∈ p, ¬ R adj x y) ∧ ∀ p ∈ pcs es adj bdj, p.Nodup ∧ p ≠ [] ∧ p.Pairwise (· ≤ ·) := by
  obtain ⟨G, _, all⟩ := goAll_ok (es := es) (adj := adj) (r := es) (O := []) (ks := []) cl (fun x hx => hx) ⟨fun x => Iff.rfl, List.nodup_nil, fun x hx => absurd hx List.not_mem_nil, fun u hu => absurd hu List.not_mem_nil⟩
  have sub : ∀ x, x ∈ leftOf es adj ↔ x ∈ es := fun x => ⟨G.sub x, all x⟩
  have z := goBack_ok (O := leftOf es adj) (T := []) (ks := []) (r := (leftOf es adj).reverse) (B := []) cl cb fl G.ok G.nd sub (by simp) (fun x hx => absurd hx List.not_mem_nil)
    ⟨fun x => by simp, fun p hp => absurd hp List.not_mem_nil, List.Pairwise.nil, fun p hp => absurd hp List.not_mem_nil, fun p hp => absurd hp List.not_mem_nil⟩
  obtain ⟨D, cov⟩ := z
  exact ⟨fun x hx => (D.keys x).mp (cov x ((sub x).mpr hx)), D.cls, D.ord, D.shp⟩
end Gr

namespace Gr
/-! ### the law's own going along: by one entry between after the other -/
inductive Pk (E : Nat → Nat → Prop) (k : Nat) : Nat → Nat → Prop
  | edge {i j : Nat} : E i j → Pk E k i j
  | via {i m j : Nat} : m < k → Pk E k i m → Pk E k m j → Pk E k i j
section
variable {E : Nat → Nat → Prop} {k : Nat}
theorem Pk.mono {l : Nat} (h : k ≤ l) {i j : Nat} (p : Pk E k i j) : Pk E l i j := by
  induction p with
  | edge e => exact .edge e
  | via hm _ _ a b => exact .via (by omega) a b
theorem pk_zero {i j : Nat} : Pk E 0 i j ↔ E i j := by
  constructor
  · intro p
    cases p with
    | edge e => exact e
    | via h _ _ => exact absurd h (Nat.not_lt_zero _)
  · exact .edge
theorem pk_succ {i j : Nat} : Pk E (k + 1) i j ↔ Pk E k i j ∨ (Pk E k i k ∧ Pk E k k j) := by
  constructor
  · intro p
    induction p with
    | edge e => exact .inl (.edge e)
    | @via i m j hm _ _ a b =>
      by_cases c : m = k
      · subst c
        exact .inr ⟨a.elim id (·.1), b.elim id (·.2)⟩
      · have hm' : m < k := by omega
        rcases a with a | ⟨a1, a2⟩
        · rcases b with b | ⟨b1, b2⟩
          · exact .inl (.via hm' a b)
          · exact .inr ⟨.via hm' a b1, b2⟩
        · rcases b with b | ⟨b1, b2⟩
          · exact .inr ⟨a1, .via hm' a2 b⟩
          · exact .inr ⟨a1, b2⟩
  · rintro (p | ⟨p, q⟩)
    · exact p.mono (Nat.le_succ k)
    · exact .via (Nat.lt_succ_self k) (p.mono (Nat.le_succ k)) (q.mono (Nat.le_succ k))
theorem pk_to {i : Nat} : Pk E (k + 1) i k ↔ Pk E k i k := by
  rw [pk_succ]
  exact ⟨fun h => h.elim id (·.1), .inl⟩
theorem pk_of {j : Nat} : Pk E (k + 1) k j ↔ Pk E k k j := by
  rw [pk_succ]
  exact ⟨fun h => h.elim id (·.2), .inl⟩
/-- while entry k is put between: M behind some of the pairs -/
structure Wsh (E : Nat → Nat → Prop) (k : Nat) (M : Nat → Nat → Bool) (done : Nat → Nat → Prop) : Prop where
  lo : ∀ i j, Pk E k i j → M i j = true
  up : ∀ i j, M i j = true → Pk E (k + 1) i j
  dn : ∀ i j, done i j → Pk E (k + 1) i j → M i j = true
def put (M : Nat → Nat → Bool) (i j : Nat) (v : Bool) : Nat → Nat → Bool := fun a b => if a = i ∧ b = j then v else M a b
theorem wsh_put {M : Nat → Nat → Bool} {done : Nat → Nat → Prop} (W : Wsh E k M done) (i j : Nat) : Wsh E k (put M i j (M i j || (M i k && M k j))) (fun a b => done a b ∨ (a = i ∧ b = j)) := by
  have new : (M i j || (M i k && M k j)) = true ↔ Pk E (k + 1) i j := by
    rw [Bool.or_eq_true, Bool.and_eq_true]
    constructor
    · rintro (h | ⟨h1, h2⟩)
      · exact W.up i j h
      · exact pk_succ.mpr (.inr ⟨pk_to.mp (W.up i k h1), pk_of.mp (W.up k j h2)⟩)
    · intro h
      rcases pk_succ.mp h with h | ⟨h1, h2⟩
      · exact .inl (W.lo i j h)
      · exact .inr ⟨W.lo i k h1, W.lo k j h2⟩
  refine ⟨fun a b h => ?_, fun a b h => ?_, fun a b d h => ?_⟩
  · unfold put
    split
    · rename_i c
      rw [c.1, c.2] at h
      exact new.mpr (h.mono (Nat.le_succ k))
    · exact W.lo a b h
  · unfold put at h
    split at h
    · rename_i c
      rw [c.1, c.2]
      exact new.mp h
    · exact W.up a b h
  · unfold put
    split
    · rename_i c
      rw [c.1, c.2] at h
      exact new.mpr h
    · rename_i c
      rcases d with d | d
      · exact W.dn a b d h
      · exact absurd d c
theorem wsh_begin {M : Nat → Nat → Bool} (h : ∀ i j, M i j = true ↔ Pk E k i j) : Wsh E k M (fun _ _ => False) :=
  ⟨fun i j => (h i j).mpr, fun i j z => ((h i j).mp z).mono (Nat.le_succ k), fun _ _ d => d.elim⟩
theorem wsh_end {M : Nat → Nat → Bool} {n : Nat} {done : Nat → Nat → Prop} (hE : ∀ i j, E i j → i < n ∧ j < n) (W : Wsh E k M done) (all : ∀ i j, i < n → j < n → done i j) : ∀ i j, M i j = true ↔ Pk E (k + 1) i j := by
  intro i j
  refine ⟨W.up i j, fun h => W.dn i j ?_ h⟩
  have hi : ∀ {i j : Nat}, Pk E (k + 1) i j → i < n ∧ j < n := fun p => by
    induction p with
    | edge e => exact hE _ _ e
    | via _ _ _ a b => exact ⟨a.1, b.2⟩
  exact all i j (hi h).1 (hi h).2
end
theorem pk_R {adj : Nat → List Nat} {k i j : Nat} (h : Pk (fun i j => j ∈ adj i) k i j) : R adj i j := by
  induction h with
  | edge e => exact R.one e
  | via _ _ _ a b => exact a.trans b
theorem R_pk {adj : Nat → List Nat} {n i j : Nat} (hE : ∀ i j, j ∈ adj i → i < n ∧ j < n) (h : R adj i j) : i = j ∨ Pk (fun i j => j ∈ adj i) n i j := by
  induction h with
  | refl => exact .inl rfl
  | @step y z _ e ih =>
    rcases ih with rfl | p
    · exact .inr (.edge e)
    · exact .inr (.via (hE _ _ e).1 p (.edge e))
/-! ### ends by starts -/
def adjOf (ps : List (Nat × Nat)) (x : Nat) : List Nat := (ps.filter fun p => p.1 = x).map (·.2)
theorem adj_mem {ps : List (Nat × Nat)} {x y : Nat} : y ∈ adjOf ps x ↔ (x, y) ∈ ps := by
  unfold adjOf
  rw [List.mem_map]
  constructor
  · rintro ⟨⟨a, b⟩, h, rfl⟩
    rw [List.mem_filter] at h
    have : a = x := by simpa using h.2
    rw [← this]
    exact h.1
  · intro h
    exact ⟨(x, y), List.mem_filter.mpr ⟨h, by simp⟩, rfl⟩
theorem adj_snoc {ps : List (Nat × Nat)} {p : Nat × Nat} {x : Nat} : adjOf (ps ++ [p]) x = if p.1 = x then adjOf ps x ++ [p.2] else adjOf ps x := by
  unfold adjOf
  rw [List.filter_append, List.map_append]
  by_cases c : p.1 = x
  · simp [c]
  · simp [c]
def swp (ps : List (Nat × Nat)) : List (Nat × Nat) := ps.map fun p => (p.2, p.1)
theorem swp_mem {ps : List (Nat × Nat)} {x y : Nat} : (x, y) ∈ swp ps ↔ (y, x) ∈ ps := by
  unfold swp
  rw [List.mem_map]
  constructor
  · rintro ⟨⟨a, b⟩, h, e⟩
    cases e
    exact h
  · intro h
    exact ⟨(y, x), h, rfl⟩
/-- ties whose both ends are in it -/
def among (es : List Nat) (ts : List (Nat × Nat)) : List (Nat × Nat) := ts.filter fun t => decide (t.1 ∈ es) && decide (t.2 ∈ es)
theorem among_mem {es : List Nat} {ts : List (Nat × Nat)} {x y : Nat} : (x, y) ∈ among es ts ↔ (x, y) ∈ ts ∧ x ∈ es ∧ y ∈ es := by
  unfold among
  rw [List.mem_filter]
  simp
def pieces (es : List Nat) (ts : List (Nat × Nat)) : List (List Nat) := pcs es (adjOf (among es ts)) (adjOf (swp (among es ts)))
theorem pieces_ok (es : List Nat) (ts : List (Nat × Nat)) :
    (∀ x ∈ es, ∃ p ∈ pieces es ts, x ∈ p) ∧ (∀ p ∈ pieces es ts, ∀ x ∈ p, x ∈ es ∧ ∀ y ∈ es, (y ∈ p ↔ Mut (adjOf (among es ts)) x y)) ∧ ((pieces es ts).Pairwise fun p q => ∀ x ∈ q, ∀ y ∈ p, ¬ R (adjOf (among es ts)) x y) ∧ ∀ p ∈ pieces es ts, p.Nodup ∧ p ≠ [] ∧ p.Pairwise (· ≤ ·) := by
  refine pcs_ok (fun x _ y hy => ?_) (fun x _ y hy => ?_) fun x y => ?_
  · exact (among_mem.mp (adj_mem.mp hy)).2.2
  · exact (among_mem.mp (swp_mem.mp (adj_mem.mp hy))).2.1
  · rw [adj_mem, adj_mem, swp_mem]
end Gr

namespace Gs
open PySem PySem.Spec PyProof.Rows L2
/-! ### a caught error, kept behind its suite -/
/-- the error object of the class cls at a, its own dict d -/
def ExK (cls : Value) (d : Option Addr) (a : Addr) : HO :=
  .ext fun h => ∃ (o : Obj) (fs : Array Value), h.get? a = some o ∧ Zc cls d o ∧ o.data = .fields fs
section
variable {X : Cx} {pins : List (Addr × Obj)} {σ : L2.St} {H : Hp} {s : Shared}
theorem track {a : Addr} {o : Obj} {cls : Value} {d : Option Addr} {fs : Array Value}
    (I : Inv X ((a, o) :: pins) σ H s) (n0 : X.s_0.heap.get? a = none)
    (np : ∀ p ∈ X.pn ++ pins, p.1 ≠ a) (z : Zc cls d o) (hd : o.data = .fields fs) :
    Inv X pins σ (upd H a (ExK cls d a)) s := by
  have P := I.pin (a, o) (List.mem_append.mpr (.inr List.mem_cons_self))
  have g : s.heap.get? a = some o := P.1
  have hn : H a = none := P.2.1
  have b := I.base
  have nt : ∀ {c u}, H c = some u → c ≠ a := fun e => ne_of_none e hn
  have n1 : ∀ {c u}, X.s_0.heap.get? c = some u → c ≠ a := fun e q => by
    rw [q, n0] at e
    cases e
  refine ⟨I.ok, I.os, I.bare, ⟨b.keep, b.slot, ?_, b.there, ?_, ?_, ?_⟩, I.loc, I.cell, ?_, ?_, ?_, ?_, I.len⟩
  · intro c u e n x
    rw [upd_ne (n1 e)]
    exact b.free c u e n x
  · intro c xs e
    have q := b.tups c xs e
    rw [upd_ne (nt q)]
    exact q
  · intro c u v e
    have q := b.frzs c u v e
    rw [upd_ne (nt q)]
    exact q
  · intro c ps e
    obtain ⟨m, q⟩ := b.tbls c ps e
    refine ⟨m, ?_⟩
    rw [upd_ne (nt q)]
    exact q
  · rw [upd_ne (fun e => P.2.2.1 e.symm)]
    exact I.free
  · intro x c e
    have ne : c ≠ a := fun q => by
      obtain ⟨v, u, e1, e2⟩ := I.cell x c e
      rw [q, g] at e1
      cases e1
      exact P.2.2.2.2 _ e2
    rw [upd_ne ne]
    exact I.freeC x c e
  · intro p hp
    have hm : p ∈ X.pn ++ (a, o) :: pins := by
      rcases List.mem_append.mp hp with h | h
      · exact List.mem_append.mpr (.inl h)
      · exact List.mem_append.mpr (.inr (List.mem_cons_of_mem _ h))
    obtain ⟨e1, e2, e3⟩ := I.pin p hm
    refine ⟨e1, ?_, e3⟩
    rw [upd_ne (np p hp)]
    exact e2
  · refine HOk.laidN I.hok (fun _ _ e => e) hn ?_
    exact ⟨⟨o, fs, g, z, hd⟩, ⟨o, g⟩, fun h1 h2 ⟨o1, f1, e1, r⟩ k => ⟨o1, f1, k o1 e1, r⟩⟩
end
/-- what 'except x as n: y = n' wishes of an error of the body; slots i of n, j of y -/
def wKeep (K : PySem.W.Frag) (c : Value) (i j : Nat) (W0 : WX) (D : Ends) : WX := fun cls d σ H =>
  ∃ b, PySem.W.exmOne K cls c = some b ∧
    (b = true → ∀ a, H a = none → D.nx (((σ.set i (some (.ref a))).set j (some (.ref a))).set i none) (upd H a (ExK cls d a))) ∧
    (b = false → W0 cls d σ H)
section
variable {X : Cx} {x n y : Str} {c : Value} {i j : Nat} {body : List Stmt} {p1 p2 p3 np pos pos' : Pos} {tb : WX → TS} {W0 : WX}
theorem ps_try_kept (hs : X.stack = X.env :: X.outer) (hf : X.env.frame = some X.env.locals) (hex : X.ex = [])
    (hN : X.N.Nodup) (hi : X.N[i]? = some n) (hj : X.N[j]? = some y)
    (hln : X.env.kindOf n = some .local) (hly : X.env.kindOf y = some .local)
    (hdn : (n == ("__debug__" : Str)) = false) (hcn : (n == ("__classdict__" : Str)) = false)
    (hlt : i < X.N.length) (hij : i ≠ j)
    (hc : Names X x c) (tk : Takes X W0)
    (hsw : swapsWith (.Name n p2) (some (.Name y p1)) p3.line X.env = pure false)
    (hb : ∀ (W : WX) (pn : List (Addr × Obj)) (xe : Value → Shared → Prop), Takes (X.tr pn xe) W →
      PassesOwn (model X.prog X.w) X.A X.env xe → PSs (X.tr pn xe) body (tb W)) :
    PS X (.Try body [.ExceptHandler (some (.Name x np)) (some n) [.Assign [.Name y p1] (.Name n p2) p3] pos'] [] [] pos)
      (fun D σ H => tb (wKeep X.K c i j W0 D) D σ H) := by
  constructor
  intro pins s σ H D I h
  have ok := I.ok
  have hfr : X.A.frames = some (X.env :: X.outer) := by
    rw [ok.frames, hs]
  refine wpAny_Try_except ?_
  let hh : List ExceptHandler := [.ExceptHandler (some (.Name x np)) (some n) [.Assign [.Name y p1] (.Name n p2) p3] pos']
  let xe' : Value → Shared → Prop := fun e s₁ =>
    wpAny (model X.prog X.w) X.A (noteFrame e X.env) (fun _ s₂ =>
      wpAny (model X.prog X.w) X.A (setFlight e none) (fun _ s₃ =>
        wpAny (model X.prog X.w) X.A (handleBy e X.env hh) (SP X pins D) X.xe s₃) X.xe s₂) X.xe s₁
  have tk' : Takes (X.tr (X.pn ++ pins) xe') (wKeep X.K c i j W0 D) := by
    intro u s' xx
    obtain ⟨a, B, sI, pins', σ', H', cls, d, eu, J', nb, up, sky, na, os, ag, b, hb1, hyes, hno⟩ := xx
    subst eu
    have J : Inv X pins σ' H' sI := J'.ofTry ok
    have sky' : Sky B (X.env :: X.outer) a (Zc cls d) X.env.locals s'.heap := by
      rw [← hs]
      exact sky
    show wpAny (model X.prog X.w) X.A (noteFrame (.ref a) X.env) _ _ _
    refine Sky.land Zc.steady hfr hf sky' fun h3 fl3 up3 => ?_
    have J3 : Inv X pins σ' H' { s' with heap := h3 } := Inv.landed J nb fl3.1 (up.trans up3) os ag
    obtain ⟨o3, v3, e3, z3, d3⟩ := fl3.there
    have nfr : a ∉ frs (X.env :: X.outer) := by
      intro hm
      obtain ⟨_, o', e', q⟩ := fl3.2.2.1.mem hm
      rw [e3] at e'
      cases e'
      exact q _ d3
    have nL : a ≠ X.env.locals := fun z => nfr (by
      refine List.mem_filterMap.mpr ⟨X.env, List.mem_cons_self, ?_⟩
      rw [hf, z])
    have nF : a ∉ X.fs := fun hm => by
      obtain ⟨e, he, q⟩ := List.mem_filterMap.mp hm
      exact nfr (List.mem_filterMap.mpr ⟨e, List.mem_cons_of_mem _ he, q⟩)
    have new : sI.heap.get? a = none := by
      cases q : sI.heap.get? a with
      | none => rfl
      | some o =>
        have q2 := nb a o q (by rw [hs]; exact nfr)
        rw [fl3.2.1] at q2
        cases q2
    have n0 : X.s_0.heap.get? a = none := by
      cases q : X.s_0.heap.get? a with
      | none => rfl
      | some o =>
        obtain ⟨o', q2⟩ := J.base.there a o q (by rw [hex]; exact List.not_mem_nil)
        rw [new] at q2
        cases q2
    have npn : ∀ p ∈ X.pn ++ pins, p.1 ≠ a := fun p hp q => by
      have q2 := (J.pin p hp).1
      rw [q, new] at q2
      cases q2
    have S3 := J3.suite e3 d3 na nL nF
    refine wpAny_handleBy_cons (codeAny_handlers_test ?_) (by intro q; cases q)
    have LT : PySem.W.Looks (model X.prog X.w) h3 (typeOf (.ref a)) cls := by
      intro A Q E s k q
      refine wpAny_typeOf_ref (k _ _ e3) ?_
      rw [z3.1]
      exact q
    have LM := PySem.W.exm_one (M := model X.prog X.w) J3.kIn LT hb1
    have look : ∀ {Q : Value → Shared → Prop} {E : Value → Shared → Prop}, Q c { s' with heap := h3 } →
        wpAny (model X.prog X.w) (X.A.mark (some (.ref a))) (eval (.Name x np) X.env) Q E { s' with heap := h3 } := by
      intro Q E q
      obtain ⟨hg, hdbg, hm | ⟨hm, hv, hnn⟩⟩ := hc
      · exact ld_glob (X := X.suite a ((a, o3) :: (X.pn ++ pins))) S3 hg hm q hdbg
      · exact ld_blt (X := X.suite a ((a, o3) :: (X.pn ++ pins))) S3 hg hm hv q hnn hdbg
    refine look (LM.here ?_)
    cases b with
    | true =>
      refine codeAny_handlers_suite_as ?_
      refine HandSPX.lands_againZ fl3 fun h4 fl4 up4 => ?_
      have J4 : Inv X pins σ' H' { s' with heap := h4 } := Inv.landed J nb fl4.1 ((up.trans up3).trans up4) os ag
      obtain ⟨o4, v4, e4, z4, d4⟩ := fl4.there
      have S4 := J4.suite e4 d4 na nL nF
      refine store_ok (X := X.suite a ((a, o4) :: (X.pn ++ pins))) (v := .ref a) S4 hN hi (.inl hln) rfl (fun s5 S5 => ?_) (.inr hln)
      have st : PSs (X.suite a ((a, o4) :: (X.pn ++ pins))) [.Assign [.Name y p1] (.Name n p2) p3] _ :=
        pss_one (ps_set (i := j) hN hj (.inl hly) (pe_var hi (.inl hln) hdn hcn) hsw (.inr hly))
      have len : i < σ'.length := by
        rw [J.len]
        exact hlt
      have sl : (σ'.set i (some (V.ref a)))[i]? = some (some (V.ref a)) := by
        rw [List.getElem?_set_self len]
      refine wpAny_mono (st.run [] s5 _ H' { nx := fun σ6 H6 => σ6 = (σ'.set i (some (.ref a))).set j (some (.ref a)) ∧ H6 = H', rt := fun _ _ => False } S5 ⟨.ref a, sl, rfl, rfl⟩) (fun f s6 hsp => ?_) (fun _ _ z => False.elim z)
      cases f with
      | next =>
        obtain ⟨σ6, H6, S6, e6, e7⟩ := hsp
        subst e6
        subst e7
        have T6 : Inv X ((a, o4) :: pins) _ H6 s6 := ⟨ok, S6.os, S6.bare, S6.base, S6.loc, S6.cell, S6.free, S6.freeC, (fun p hp => S6.pin p (by
          show p ∈ ((a, o4) :: (X.pn ++ pins)) ++ []
          rw [List.append_nil]
          rcases List.mem_append.mp hp with h | h
          · exact List.mem_cons_of_mem _ (List.mem_append.mpr (.inl h))
          · rcases List.mem_cons.mp h with h | h
            · rw [h]
              exact List.mem_cons_self
            · exact List.mem_cons_of_mem _ (List.mem_append.mpr (.inr h)))), S6.hok, S6.len⟩
        refine gone_ok T6 hN hi hln fun s7 J7 => ?_
        exact ⟨_, _, track J7 n0 npn z4 d4, hyes rfl a na⟩
      | brk =>
        obtain ⟨_, _, _, q⟩ := hsp
        exact False.elim q
      | cont =>
        obtain ⟨_, _, _, q⟩ := hsp
        exact False.elim q
      | ret u =>
        obtain ⟨_, _, _, _, _, q⟩ := hsp
        exact False.elim q
    | false =>
      show wpAny _ X.A (handleBy (.ref a) X.env []) _ _ _
      refine wpAny_handleBy_nil ?_
      have T3 := fl3.2.2.2
      obtain ⟨oe, fv, T, oT, ts', he, hz, hd, h1, hr⟩ := T3
      unfold PySem.passOn
      refine wpAny_bind (wpAny_field he hd h1 ?_)
      rw [if_neg (by simp)]
      have fin : wpAny (model X.prog X.w) X.A (setFlight (.ref a) X.env.frame)
          (fun _ s4 => wpAny (model X.prog X.w) X.A (throw (.ref a) : Sem Flow) (SP X pins D) X.xe s4) X.xe { s' with heap := h3 } := by
        rw [hf]
        refine HandSPX.setFlight_upZ fl3 fun h4 hh4 up4 => wpAny_throw (tk _ _ ?_)
        refine ⟨a, B, sI, pins, σ', H', cls, d, rfl, J, nb, (up.trans up3).trans up4, .inr (.inr ?_), na, os, ag, hno rfl⟩
        rw [hs]
        exact hh4
      first
        | exact wpAny_bind (wpAny_pure (wpAny_bind fin))
        | exact wpAny_bind fin
  refine wpAny_mono ((hb _ (X.pn ++ pins) xe' tk' PassesOwn.looking).run [] s σ H D (I.toTry _) h) (fun f s1 hsp => ?_) (fun _ _ he => he)
  cases f with
  | next =>
    obtain ⟨σ', H', J', q⟩ := hsp
    exact wpAny_execs_nil ⟨σ', H', J'.ofTry ok, q⟩
  | brk =>
    obtain ⟨σ', H', J', q⟩ := hsp
    exact ⟨_, _, J'.ofTry ok, q⟩
  | cont =>
    obtain ⟨σ', H', J', q⟩ := hsp
    exact ⟨_, _, J'.ofTry ok, q⟩
  | ret u =>
    obtain ⟨v, σ', H', J', r, q⟩ := hsp
    exact ⟨_, _, _, J'.ofTry ok, r, q⟩
/-- isinstance(e, c) of a kept error -/
theorem call_isK {D : Addr} (C : ExcC X.K D) : CallR X (.builtin "isinstance") (fun xs H Q => ∃ (a : Addr) (t : V) (tv : Value) (b : Bool),
    xs = [.ref a, t] ∧ H a = some (ExK (.ref D) none a) ∧ (∀ u, RelV t u → u = tv) ∧ PySem.W.kitOne X.K (.ref D) tv = some b ∧ Q (.bl b) H) := by
  intro pins s σ H xs us Q I r h
  obtain ⟨a, t, tv, b, rfl, ha, ht, e, q⟩ := h
  cases r with
  | cons rx rr =>
    cases rr with
    | cons rt rr =>
      cases rr
      cases rx
      have ec := ht _ rt
      subst ec
      obtain ⟨⟨o, fs, g, z, hv⟩, _, _⟩ := I.hok a _ ha
      have W : PySem.W.InstAt s.heap a o D none := by
        obtain ⟨oc, od, oda, osl⟩ := o
        obtain ⟨h1, h2⟩ := z
        dsimp only at h1 h2 hv
        subst h1 h2 hv
        exact ⟨g, rfl, rfl, trivial⟩
      have kit := PySem.W.handS_kitx_exc (x := a) (ox := o) C.hg C.hk C.hs C.hd C.ha C.hn C.ht C.hm
      exact PySem.W.kia_one kit I.kIn W e (fun z => nomatch z) fun tk => ⟨.bl b, H, I.kept (t' := tk) fun _ _ z => z, rfl, q⟩
/-- repr of data, where no other repr is under way -/
theorem call_reprD (hg : X.A.guards = some []) (hu : X.A.units + 64 < cLine) : CallR X (.builtin "repr") (fun xs H Q => ∃ (a : Addr) (d : PyData),
    xs = [.ref a] ∧ Dp X.K H (.ref a) d ∧ d.showable = true ∧ d.hasDict = false ∧ d.depth ≤ 60 ∧ d.shown.length ≤ sizeLine ∧ Q (.str d.shown) H) := by
  intro pins s σ H xs us Q I r h
  obtain ⟨a, d, rfl, hd, h1, h2, h3, h4, q⟩ := h
  obtain ⟨u, rfl, ru⟩ := vals1 r
  cases ru
  obtain ⟨as, rd⟩ := Dp.reads I d _ _ hd rfl
  exact repr_of_reads' rd h1 (PyData.noDict_hsm h2) hg (by omega) (fun _ _ e => e) (fun h' u tk k => ⟨.str d.shown, H, I.kept k, ⟨u, rfl⟩, q⟩) h4
/-- // by any number but nought, below 2 ^ 9000 in size -/
theorem op_fdivZ : OpR X (binaryOp .FloorDiv) (rI (fun _ k => k ≠ 0 ∧ k.natAbs.log2 < 9000) fun m k => .int (m.fdiv k)) :=
  opI fun _ _ _ _ _ _ _ hc q => floordiv_int hc.1 q (.inl (PyProof.noPylong_of_log2 hc.2))
end
end Gs

namespace Gs
open PySem PySem.Spec PyProof.Rows L2
/-! a statement whose ways join: what holds behind it is told once, and the rest is read once -/
def tJoin (t u : TS) : TS := fun D σ H => ∃ I : L2.St → Hp → Prop, t { D with nx := I } σ H ∧ ∀ σ' H', I σ' H' → u D σ' H'
theorem pss_join {X : Cx} {st : Stmt} {rest : List Stmt} {t u : TS} (h1 : PS X st t) (h2 : PSs X rest u) : PSs X (st :: rest) (tJoin t u) := by
  refine ⟨fun pins s σ H D Iv h => ?_⟩
  obtain ⟨I, ht, hu⟩ := h
  refine wpAny_execs_cons (thn (h1.run pins s σ H { D with nx := I } Iv ht) fun f s1 q => ?_)
  cases f with
  | next =>
    obtain ⟨σ', H', I', q⟩ := q
    exact h2.run pins s1 σ' H' D I' (hu σ' H' q)
  | ret v => exact q
  | brk => exact q
  | cont => exact q
end Gs

namespace Gp
open PySem PySem.Spec PyProof.Rows L2
/-! ### heaps: what stays -/
theorem same_new {H : Hp} {p : Addr} {o : HO} (h : H p = none) : Same H (upd H p o) := by
  intro b x e
  rw [upd_ne (ne_of_none e h)]
  exact e
theorem same_tup {K : PySem.W.Frag} {H H' : Hp} {a : Addr} {xs : List V} (e : Same H H') (h : SqT K H a xs) : SqT K H' a xs := by
  rcases h with (h | ⟨o, h⟩) | h
  · exact .inl (.inl (e _ _ h))
  · exact .inl (.inr ⟨o, e _ _ h⟩)
  · exact .inr h
theorem free_same {H H' : Hp} (s : Same H H') {r : Addr} (h : H' r = none) : H r = none := by
  cases e : H r with
  | none => rfl
  | some o =>
    have z := s r o e
    rw [h] at z
    cases z
theorem keep_new {H0 H : Hp} {L : Addr} {o : HO} (hL : H0 L = none) (s : Same H0 H) : Same H0 (upd H L o) := fun b u e => by
  rw [upd_ne (ne_of_none e hL)]
  exact s b u e
theorem iteP {b : Bool} {A B : Prop} (e : b = true) (h : A) : if b = true then A else B := by
  rw [if_pos e]
  exact h
theorem iteN {b : Bool} {A B : Prop} (e : b = false) (h : B) : if b = true then A else B := by
  rw [if_neg (by rw [e]; decide)]
  exact h
theorem log_of {k : Int} {n : Nat} (h0 : 0 < n) (hn : n ≤ 9000) (h : k.natAbs < 2 ^ n) : k.natAbs.log2 < 9000 :=
  Nat.lt_of_lt_of_le (PySem.Flt.log2_lt_of h0 h) hn
/-- all stays but what lies at p -/
def Keep (p : Addr) (H H' : Hp) : Prop := ∀ b o, b ≠ p → H b = some o → H' b = some o
theorem Keep.refl {p : Addr} {H : Hp} : Keep p H H := fun _ _ _ e => e
theorem Keep.trans {p : Addr} {H H1 H2 : Hp} (a : Keep p H H1) (b : Keep p H1 H2) : Keep p H H2 := fun c o n h => b c o n (a c o n h)
theorem keep_upd {p : Addr} {H : Hp} {o : HO} : Keep p H (upd H p o) := fun b u n e => by
  rw [upd_ne n]
  exact e
theorem keep_same {p : Addr} {H H' : Hp} (s : Same H H') : Keep p H H' := fun b u _ e => s b u e
theorem same_of_keep {p : Addr} {H H' : Hp} (h : H p = none) (k : Keep p H H') : Same H H' := fun b o e => k b o (ne_of_none e h) e
theorem free_keep {p : Addr} {H H' : Hp} (k : Keep p H H') {r : Addr} (hr : r ≠ p) (h : H' r = none) : H r = none := by
  cases e : H r with
  | none => rfl
  | some o =>
    have z := k r o hr e
    rw [h] at z
    cases z
theorem keep_at {p D : Addr} {H H' : Hp} {o : HO} (k : Keep p H H') (h : H D = none) : Keep p H (upd H' D o) := fun b u n e => by
  rw [upd_ne (ne_of_none e h)]
  exact k b u n e
structure Cl (P : Program) (w : World) (K : PySem.W.Frag) (mg : Str → Option Value) (base : Heap) (CX : CXT) (k : Nat) (x : Str) (ps : List Str) (sp : Sp) (f : Addr) (fd : FuncData) : Prop where
  g : mg x = some (.ref f)
  ok : FnOk P w K mg base CX k f fd ps sp
  kp : PySem.W.keepIn K (.ref f) = true
  bd : Binds K fd ps []
theorem ix_tupK {X : Cx} {K : PySem.W.Frag} (hk : X.K = K) : IxR X (rIxT K) := by
  subst hk
  exact ix_tup
theorem ix_listK {X : Cx} {K : PySem.W.Frag} (hk : X.K = K) : IxR X (rIxL K) := by
  subst hk
  exact ix_list
theorem pi_listK {X : Cx} {K : PySem.W.Frag} {tg e : Expr} {t : TE} (hk : X.K = K) (h : PE X e t) : PI X tg e (iList K t) := by
  subst hk
  exact pi_list h
theorem pi_tupK {X : Cx} {K : PySem.W.Frag} {tg e : Expr} {t : TE} (hk : X.K = K) (h : PE X e t) : PI X tg e (iTup K t) := by
  subst hk
  exact pi_tup h
theorem call_tuple_ofK {X : Cx} {K : PySem.W.Frag} (hk : X.K = K) : CallR X (.type "tuple") (fun xs H Q => ∃ p ys, xs = [.ref p] ∧ ((SqL K H p ys ∧ ∀ l, H l = none → Q (.ref l) (upd H l (.tup ys))) ∨ (SqT K H p ys ∧ Q (.ref p) H))) := by
  subst hk
  exact call_tuple_of
theorem u1 {k : Nat} {A : Around} (r : Room k A) : A.units + 1 < cLine := by have := r.units; omega
theorem u0 {k : Nat} {A : Around} (r : Room k A) : A.units < cLine := by have := r.units; omega
theorem u65 {k : Nat} {A : Around} (r : Room k A) : A.units + 65 < cLine := by
  have := r.un
  omega
/-! ### walks of any kind -/
theorem walkC {J : It} {n : Nat} {B : V → Hp → (Hp → Prop) → Prop} {Qd : Hp → Prop} {H0 : Hp} (Pv : Nat → Hp → Prop) (h0 : Pv 0 H0) (hgo : ∀ i H, i < n → Pv i H → J.go i H) (hst : ∀ H, Pv n H → J.stop n H)
    (hs : ∀ i x H H', i < n → Pv i H → J.yld i H x H' → B x H' (Pv (i + 1))) (hd : ∀ H, Pv n H → Qd H) :
    ∃ W : Nat → Nat → Hp → Prop, (∃ m, W 0 m H0) ∧ ∀ i m H, W i m H → (J.stop i H ∧ Qd H) ∨ (J.go i H ∧ ∃ Nx : Hp → Prop, (∀ H', Nx H' → ∃ m', m' < m ∧ W (i + 1) m' H') ∧ ∀ x H', J.yld i H x H' → B x H' Nx) := by
  refine ⟨fun i m H => m + i = n ∧ Pv i H, ⟨n, Nat.add_zero n, h0⟩, fun i m H hW => ?_⟩
  obtain ⟨e, p⟩ := hW
  by_cases c : i < n
  · exact .inr ⟨hgo i H c p, Pv (i + 1), fun H' p' => ⟨m - 1, by omega, by omega, p'⟩, fun x H' y => hs i x H H' c p y⟩
  · have ei : i = n := by omega
    subst ei
    exact .inl ⟨hst H p, hd H p⟩
theorem walkF {J : It} {n : Nat} {B : V → L2.St → Hp → (L2.St → Hp → Prop) → Prop} {Qd : L2.St → Hp → Prop} {σ0 : L2.St} {H0 : Hp} (Pv : Nat → L2.St → Hp → Prop) (h0 : Pv 0 σ0 H0) (hgo : ∀ i σ H, i < n → Pv i σ H → J.go i H) (hst : ∀ σ H, Pv n σ H → J.stop n H)
    (hs : ∀ i x σ H H', i < n → Pv i σ H → J.yld i H x H' → B x σ H' (Pv (i + 1))) (hd : ∀ σ H, Pv n σ H → Qd σ H) :
    ∃ W : Nat → Nat → L2.St → Hp → Prop, (∃ m, W 0 m σ0 H0) ∧ ∀ i m σ H, W i m σ H → (J.stop i H ∧ Qd σ H) ∨ (J.go i H ∧ ∃ Nx : L2.St → Hp → Prop, (∀ σ' H', Nx σ' H' → ∃ m', m' < m ∧ W (i + 1) m' σ' H') ∧ ∀ x H', J.yld i H x H' → B x σ H' Nx) := by
  refine ⟨fun i m σ H => m + i = n ∧ Pv i σ H, ⟨n, Nat.add_zero n, h0⟩, fun i m σ H hW => ?_⟩
  obtain ⟨e, p⟩ := hW
  by_cases c : i < n
  · exact .inr ⟨hgo i σ H c p, Pv (i + 1), fun σ' H' p' => ⟨m - 1, by omega, by omega, p'⟩, fun x H' y => hs i x σ H H' c p y⟩
  · have ei : i = n := by omega
    subst ei
    exact .inl ⟨hst σ H p, hd σ H p⟩
end Gp

namespace Gp
open PySem PySem.Spec PyProof.Rows L2
/-! ### set(ints), k in it -/
def SetI (P : Program) (w : World) (a : Addr) (S : Int → Bool) : HO := .ext fun h => ∃ n, h.SetOf (PySem.intKind P w) a S n
theorem setI_new {P : Program} {w : World} {H : Hp} {h : Heap} {a : Addr} {S : Int → Bool} (R : ∃ n, h.SetOf (PySem.intKind P w) a S n) : ObjOk P w H h a (SetI P w a S) := by
  have ⟨n, o, es, ep, t, ho, r⟩ := R
  refine ⟨R, ⟨o, ho⟩, fun h1 h2 p k => ?_⟩
  obtain ⟨n, o, es, ep, t, ho, r⟩ := p
  exact ⟨n, o, es, ep, t, k o ho, r⟩
section
variable {X : Cx}
theorem ints_of {us : List Value} : ∀ {ns : List Int}, Vals (ns.map V.int) us → IntsAre us ns := fun h => by
  rename_i ns
  induction ns generalizing us with
  | nil => cases h; exact .nil
  | cons n ns ih =>
    cases h with
    | cons a r =>
      obtain ⟨t, rfl⟩ := a
      exact .cons _ _ (ih r)
theorem cr_setI {P : Program} {w : World} (hc : X.calm = true) (hp : X.prog = P) (hw : X.w = w) : CallR X (.type "set") (fun xs H Q => ∃ (l : Addr) (ns : List Int), xs = [.ref l] ∧ SqL X.K H l (ns.map V.int) ∧ ns.length ≤ 1000 ∧
    ∀ p, H p = none → Q (.ref p) (upd H p (SetI P w p fun k => decide (k ∈ ns)))) := by
  subst hp hw
  intro pins s σ H xs us Q I r h
  obtain ⟨l, ns, rfl, hl, hn, q⟩ := h
  rw [Vals.ref1 r]
  obtain ⟨its, rv, pl, hz⟩ := I.list hl
  have hn0 : H s.heap.objs.size = none := I.hok.fresh (Nat.le_refl _)
  have len : its.length = ns.length := by
    have := rv.length
    rw [List.length_map] at this
    exact this.symm
  refine PySem.call_set_list (ns := ns) (I.ok.hd hc) pl.isList (by simpa using ints_of rv) (by rw [List.size_toArray, len]; unfold scanBound; omega) fun h' tk R k => ?_
  have e : (fun k' => (firstMet (fun i => ns.getD i 0) its.toArray.size).any (· == k')) = fun k : Int => decide (k ∈ ns) := by
    funext k'
    rw [firstMet_any, List.size_toArray, len]
    have e2 : (List.range ns.length).map (fun i => ns.getD i 0) = ns := by
      apply List.ext_getElem
      · simp
      · intro i h1 h2
        simp at h1
        simp [List.getD_eq_getElem?_getD, h1]
    rw [e2, Bool.eq_iff_iff, List.any_eq_true, decide_eq_true_iff]
    constructor
    · rintro ⟨x, hx, e⟩
      rw [← eq_of_beq e]
      exact hx
    · exact fun h => ⟨k', h, by simp⟩
  rw [e] at R
  refine ⟨.ref s.heap.objs.size, _, I.laid (t' := tk) (o := SetI X.prog X.w s.heap.objs.size fun k => decide (k ∈ ns)) (fun b o e => ?_) (Nat.le_refl _) (setI_new ⟨_, R⟩), rfl, q _ hn0⟩
  exact k b o (Heap.lt_size e) e
theorem or_inI {P : Program} {w : World} (hp : X.prog = P) (hw : X.w = w) : OpR X (compareOp .In) (fun x y H Q => ∃ k a S, x = V.int k ∧ y = V.ref a ∧ H a = some (SetI P w a S) ∧ Q (.bl (S k)) H) := by
  subst hp hw
  intro pins s σ H x y v u Q I rx ry h
  obtain ⟨k, a, S, rfl, rfl, ha, q⟩ := h
  obtain ⟨tk, rfl⟩ := rx
  cases ry
  obtain ⟨n, R⟩ := (I.hok a _ ha).1
  exact wpAny_inSet_of (intKind_is _ _ _ _) rfl R ⟨.bl (S k), H, I.tok _, rfl, q⟩
/-! ### y = {k: v for x in xs} -/
theorem sw_dict {kx vx : Expr} {cs : List Comprehension} {sc : Scope} {p1 p2 : Pos} {y : Str} {l : Nat} {ev : Env} (h1 : ev.scope.kind = .function) (h2 : ev.scope.names.lookup y = some .local) (h3 : (p2.line == p1.line) = true)
    (h4 : (sc.names.any fun (n, k) => n == y && (k == .local || k == .cell)) = false) : swapsWith (.DictComp kx vx cs sc p1) (some (.Name y p2)) l ev = pure true := by
  have e1 : ev.kindOf y = some .local := h2
  have e2 : ev.blockKind = .function := by
    unfold Env.blockKind
    rw [h1]
    rfl
  unfold swapsWith
  simp only [e2, e1, h4, Expr.pos, h3]
  rfl
theorem ps_setDc {i : Nat} {y : Str} {p2 : Pos} {kx vx tg it : Expr} {fs : List Expr} {sc : Scope} {own : List (Str × Nat)} {p1 p3 : Pos} {wi : TI} {g : TG} {tt : TT} {tk tv : TE} (hc : X.calm = true) (nd : X.N.Nodup) (hy : X.N[i]? = some y) (hl : X.env.scope.names.lookup y = some .local)
    (sw : swapsWith (.DictComp kx vx [⟨tg, it, fs, 0⟩] sc p1) (some (.Name y p2)) p3.line X.env = pure true) (hi : PI X tg it wi) (ok : BlkOk X.N X.env.scope sc own)
    (hg : ∀ (a : Shared) (b : Hp) (c : Addr) (d : List (Str × Addr)) (e : List Addr), PG (X.blk a b sc (compEnvC sc d c X.env) e) tg g) (ht : ∀ (a : Shared) (b : Hp) (c : Addr) (d : List (Str × Addr)) (e : List Addr), PTs (X.blk a b sc (compEnvC sc d c X.env) e) fs tt)
    (hk : ∀ (a : Shared) (b : Hp) (c : Addr) (d : List (Str × Addr)) (e : List Addr), PE (X.blk a b sc (compEnvC sc d c X.env) e) kx tk)
    (hv : ∀ (a : Shared) (b : Hp) (c : Addr) (d : List (Str × Addr)) (e : List Addr), PE (X.blk a b sc (compEnvC sc d c X.env) e) vx tv) (hs : ∀ x, foldedSetIterable it X.env x = pure x := by intro _; rfl) :
    PS X (.Assign [.Name y p2] (.DictComp kx vx [⟨tg, it, fs, 0⟩] sc p1) p3) (tAsg (tDc wi g tt tk tv (own.map (·.2))) (gName i)) := by
  constructor
  intro pins s σ H D I h
  rw [exec_Assign_Name_used _ _ _ _ sw]
  refine wpAny_bind (wpAny_standAt (wpAny_bind ?_))
  have h0 : tDc wi g tt tk tv (own.map (·.2)) σ H (fun x H1 => gName i x σ H1 D.nx) := h
  refine wpAny_bind (thn (dc_core (Qf := fun _ s' => SP X pins D .next s') hc nd I hi ok hg ht hk hv hs h0 fun L C s' m H' I' q hn f => ?_) fun _ s' hq => wpAny_pure (wpAny_pure hq))
  refine wpAny_assign_Name (store_ok2 (v := V.ref L) I' nd hy (.inl hl) rfl (fun s2 I2 ⟨b, sb, hb⟩ => ?_) (.inr hl))
  obtain ⟨f0, f1, f2, f3, f4, f5⟩ := f
  have ne : C ≠ b := by
    rcases hb with z | z
    · rw [z]
      exact f1
    · exact fun e => f4 y b z e.symm
  exact ⟨m, hn.sameBut sb ne, fun h3 sb3 => ⟨_, H', I2.turned (t' := s2.toks) (fun c o hc e => (sb3.2 c hc).trans e) f0 f1 f3 f4 f5, q⟩⟩
end
end Gp

namespace W34
open PySem
def topS (i : Nat) : Stmt := PySem.Challenge.pw_glassladder_k34_pieces_told.main.body.getD i (.Pass ⟨0, 0, 0, 0⟩)
abbrev sAmong : Stmt := topS 1
abbrev sEnds : Stmt := topS 2
abbrev sAllFrom : Stmt := topS 3
abbrev sPieces : Stmt := topS 4
abbrev sPool : Stmt := topS 6
abbrev sTake : Stmt := topS 7
abbrev sTies : Stmt := topS 8
abbrev sLeads : Stmt := topS 9
abbrev sRight : Stmt := topS 13
abbrev sLaw : Stmt := topS 14
end W34

namespace W34
open PySem PySem.Spec PyProof.Rows L2 Gs Gp Gr
/-! ### entries and ties in the heap -/
def vI (x : Nat) : V := .int x
def ci (x : Nat) : Int := x
abbrev Tie := Nat × Nat × List Nat
inductive Ties (H : Hp) : List V → List Tie → Prop
  | nil : Ties H [] []
  | cons {t l : Addr} {us : List V} {a b : Nat} {ls : List Nat} {ts : List Tie} : H t = some (.tup [.int a, .int b, .ref l]) → H l = some (.tup (ls.map vI)) → Ties H us ts → Ties H (.ref t :: us) ((a, b, ls) :: ts)
inductive Prs (H : Hp) : List V → List (Nat × Nat) → Prop
  | nil : Prs H [] []
  | cons {t : Addr} {us : List V} {a b : Nat} {ts : List (Nat × Nat)} : H t = some (.tup [.int a, .int b]) → Prs H us ts → Prs H (.ref t :: us) ((a, b) :: ts)
/-- tuples stay -/
def TK (H H' : Hp) : Prop := ∀ b xs, H b = some (.tup xs) → H' b = some (.tup xs)
theorem TK.trans {H H1 H2 : Hp} (a : TK H H1) (b : TK H1 H2) : TK H H2 := fun c xs h => b c xs (a c xs h)
theorem tk_same {H H' : Hp} (s : Same H H') : TK H H' := fun b xs h => s b _ h
theorem tk_lst {H : Hp} {D : Addr} {acc : List V} {o : HO} (h : H D = some (.lst acc)) : TK H (upd H D o) := fun b xs e => by
  rw [upd_ne (fun z => by rw [z, h] at e; cases e)]
  exact e
theorem tk_dict {H : Hp} {D : Addr} {acc : List (Key × V)} {o : HO} (h : H D = some (.dK acc)) : TK H (upd H D o) := fun b xs e => by
  rw [upd_ne (fun z => by rw [z, h] at e; cases e)]
  exact e
section
variable {H H' : Hp}
theorem Ties.tk (k : TK H H') : ∀ {us : List V} {ts : List Tie}, Ties H us ts → Ties H' us ts
  | _, _, .nil => .nil
  | _, _, .cons h g r => .cons (k _ _ h) (k _ _ g) (r.tk k)
theorem Ties.len : ∀ {us : List V} {ts : List Tie}, Ties H us ts → us.length = ts.length
  | _, _, .nil => rfl
  | _, _, .cons _ _ r => congrArg (· + 1) r.len
theorem Ties.app : ∀ {us vs : List V} {ts ss : List Tie}, Ties H us ts → Ties H vs ss → Ties H (us ++ vs) (ts ++ ss)
  | _, _, _, _, .nil, h => h
  | _, _, _, _, .cons h g r, h2 => .cons h g (r.app h2)
theorem Ties.at : ∀ {us : List V} {ts : List Tie}, Ties H us ts → ∀ {i : Nat} {v : V}, us[i]? = some v → ∃ t l a b ls, v = .ref t ∧ ts[i]? = some (a, b, ls) ∧ H t = some (.tup [.int (a : Nat), .int (b : Nat), .ref l]) ∧ H l = some (.tup (ls.map vI))
  | _, _, .nil, i, v, e => by simp at e
  | _, _, .cons h g r, 0, v, e => by
    cases e
    exact ⟨_, _, _, _, _, rfl, rfl, h, g⟩
  | _, _, .cons h g r, i + 1, v, e => r.at (i := i) e
theorem Prs.tk (k : TK H H') : ∀ {us : List V} {ts : List (Nat × Nat)}, Prs H us ts → Prs H' us ts
  | _, _, .nil => .nil
  | _, _, .cons h r => .cons (k _ _ h) (r.tk k)
theorem Prs.len : ∀ {us : List V} {ts : List (Nat × Nat)}, Prs H us ts → us.length = ts.length
  | _, _, .nil => rfl
  | _, _, .cons _ r => congrArg (· + 1) r.len
theorem Prs.app : ∀ {us vs : List V} {ts ss : List (Nat × Nat)}, Prs H us ts → Prs H vs ss → Prs H (us ++ vs) (ts ++ ss)
  | _, _, _, _, .nil, h => h
  | _, _, _, _, .cons h r, h2 => .cons h (r.app h2)
theorem Prs.at : ∀ {us : List V} {ts : List (Nat × Nat)}, Prs H us ts → ∀ {i : Nat} {v : V}, us[i]? = some v → ∃ t a b, v = .ref t ∧ ts[i]? = some (a, b) ∧ H t = some (.tup [.int (a : Nat), .int (b : Nat)])
  | _, _, .nil, i, v, e => by simp at e
  | _, _, .cons h r, 0, v, e => by
    cases e
    exact ⟨_, _, _, rfl, rfl, h⟩
  | _, _, .cons h r, i + 1, v, e => r.at (i := i) e
end
theorem vI_map (es : List Nat) : es.map vI = (es.map ci).map V.int := by
  rw [List.map_map]
  rfl
theorem mem_int {es : List Nat} {x : Nat} : ((x : Int) ∈ es.map ci) ↔ x ∈ es := by
  rw [List.mem_map]
  constructor
  · rintro ⟨y, hy, e⟩
    have : y = x := by unfold ci at e; omega
    rw [← this]
    exact hy
  · exact fun h => ⟨x, h, rfl⟩
theorem take_filter {α : Type} {p : α → Bool} {xs : List α} {i : Nat} {a : α} (e : xs[i]? = some a) : (xs.take (i + 1)).filter p = (xs.take i).filter p ++ (if p a = true then [a] else []) := by
  rw [List.take_add_one, e, Option.toList_some, List.filter_append]
  by_cases c : p a = true
  · rw [if_pos c, List.filter_cons_of_pos c, List.filter_nil]
  · rw [if_neg c, List.filter_cons_of_neg c, List.filter_nil]
theorem take_map {α β : Type} {g : α → β} {xs : List α} {i : Nat} {a : α} (e : xs[i]? = some a) : (xs.take (i + 1)).map g = (xs.take i).map g ++ [g a] := by
  rw [List.take_add_one, e, Option.toList_some, List.map_append]
  rfl
/-! ### ties_among -/
def tIn (es : List Nat) (t : Tie) : Bool := decide (t.1 ∈ es) && decide (t.2.1 ∈ es)
theorem scAmong : FnScope ["entries", "ties", "here", "tie"] ["entries", "ties"] (defScope sAmong) := ⟨rfl, rfl, rfl, by decide +kernel, rfl, by decide +kernel, by decide +kernel⟩
def spAmong : Sp := fun vs H Q _ => ∃ (E T : Addr) (es : List Nat) (us : List V) (ts : List Tie), vs = [.ref E, .ref T] ∧ H E = some (.lst (es.map vI)) ∧ H T = some (.lst us) ∧ Ties H us ts ∧ es.length ≤ 900 ∧ ts.length ≤ 900 ∧
  ∀ H' r us', Same H H' → H r = none → H' r = some (.lst us') → Ties H' us' (ts.filter (tIn es)) → Q (.ref r) H'
section
variable {P : Program} {w : World} {K : PySem.W.Frag} {mg : Str → Option Value} {base : Heap} {f f1 f2 : Addr} {fd d1 d2 : FuncData} {k : Nat}
theorem ok_among (F : Fun K "ties_among" "ties_among" sAmong f fd) (ms : mg "set" = none) : FnOk P w K mg base CX0 (k + 1) f fd ["entries", "ties"] spAmong := by
  refine F.ok scAmong (fun vs H Q E h => ?_) (fun cdv A outer s H vs Q E hr h => ?_)
  · obtain ⟨E, T, es, us, ts, rfl, _⟩ := h
    rfl
  · obtain ⟨E', T, es, us, ts, rfl, hE, hT, tu, el, tl, q⟩ := h
    refine ⟨_, pss_cons (ps_set (i := 2) scAmong.nd rfl (.inr rfl) (pe_callTy (cr_setI (P := P) (w := w) rfl rfl rfl) (by rfl) ms (by decide +kernel) (pa_cons (pv 0) pa_nil)))
      (pss_one (ps_ret (pe_lc (own := [("tie", 3)]) (g := gName 3) rfl scAmong.nd (pi_list (pv 1)) (blkOk_by (own := [("tie", 3)]) (N := ["entries", "ties", "here", "tie"]) (sc := defScope sAmong) (by decide +kernel))
        (fun _ _ _ _ _ => pg_name (i := 3) scAmong.nd rfl (Or.inl rfl))
        (fun _ _ _ _ _ => pts_one (PW.pt (pw_and (pt_cmpR (or_inI (P := P) (w := w) rfl rfl) (pe_ix (ix_tupK (K := K) rfl) (pv 3) pe_int (fun _ _ => rfl)) (pv 2) (by rfl)) (pw_and1 (pt_cmpR (or_inI (P := P) (w := w) rfl rfl) (pe_ix (ix_tupK (K := K) rfl) (pv 3) pe_int (fun _ _ => rfl)) (pv 2) (by rfl))))))
        (fun _ _ _ _ _ => pv 3)))), ?_⟩
    refine ⟨_, rfl, E', es.map ci, rfl, by rw [← vI_map]; exact SqL.of hE, by rw [List.length_map]; omega, fun S hS => ?_⟩
    have sS := same_new (o := SetI P w S fun k => decide (k ∈ es.map ci)) hS
    have eS : upd H S (SetI P w S fun k => decide (k ∈ es.map ci)) S = some (SetI P w S fun k => decide (k ∈ es.map ci)) := upd_same
    have hT1 := sS _ _ hT
    have tu1 := tu.tk (tk_same sS)
    refine ⟨_, rfl, T, rfl, ⟨_, SqL.of hT1⟩, fun D hD => ?_⟩
    have hD0 : H D = none := free_same sS hD
    show ∃ W : Nat → Nat → Hp → Prop, _
    generalize hH1 : upd H S (SetI P w S fun k => decide (k ∈ es.map ci)) = H1 at *
    have ul := tu1.len
    refine lc_list (K := K) (xs := us) (fun i H' => ∃ us', H' D = some (.lst us') ∧ Ties H' us' ((ts.take i).filter (tIn es)) ∧ Same H1 H' ∧ us'.length ≤ i)
      ⟨[], upd_same, .nil, same_new hD, Nat.le_refl _⟩ (fun i H' _ hp => ?_) (fun i x H2 hx hp => ?_) (fun H2 hp => ?_)
    · obtain ⟨_, _, _, sm, _⟩ := hp
      exact SqL.of (sm _ _ hT1)
    · obtain ⟨us', e2, t2, sm, lu⟩ := hp
      obtain ⟨t, l, a, b, ls, rfl, et, ht, hl⟩ := tu1.at hx
      have il : i < us.length := (List.getElem?_eq_some_iff.mp hx).1
      have ht2 := sm _ _ ht
      have eS2 := sm _ _ eS
      have d1 : decide (((a : Nat) : Int) ∈ es.map ci) = decide (a ∈ es) := decide_eq_decide.mpr mem_int
      have d2 : decide (((b : Nat) : Int) ∈ es.map ci) = decide (b ∈ es) := decide_eq_decide.mpr mem_int
      have keep : tIn es (a, b, ls) = true → ∃ acc, H2 D = some (.lst acc) ∧ acc.length < sizeLine ∧ ∃ us', upd H2 D (.lst (acc ++ [.ref t])) D = some (.lst us') ∧ Ties (upd H2 D (.lst (acc ++ [.ref t]))) us' ((ts.take (i + 1)).filter (tIn es)) ∧ Same H1 (upd H2 D (.lst (acc ++ [.ref t]))) ∧ us'.length ≤ i + 1 := fun z => by
        refine ⟨us', e2, small1000 (by omega), us' ++ [.ref t], upd_same, ?_, keep_new hD sm, by rw [List.length_append]; exact Nat.succ_le_succ lu⟩
        rw [take_filter et, if_pos z]
        exact ((t2.app (.cons ht2 (sm _ _ hl) .nil)).tk (tk_lst e2))
      have drop : tIn es (a, b, ls) = false → ∃ us', H2 D = some (.lst us') ∧ Ties H2 us' ((ts.take (i + 1)).filter (tIn es)) ∧ Same H1 H2 ∧ us'.length ≤ i + 1 := fun z => by
        refine ⟨us', e2, ?_, sm, by omega⟩
        rw [take_filter et, if_neg (by rw [z]; decide), List.append_nil]
        exact t2
      refine ⟨rfl, ?_⟩
      refine ⟨_, rfl, t, _, 0, _, rfl, rfl, SqT.of ht2, atI_nat (j := 0) rfl, _, rfl, _, S, _, rfl, rfl, eS2, _, rfl, ?_⟩
      rw [d1]
      by_cases c1 : a ∈ es
      · refine iteP (decide_eq_true c1) ?_
        refine ⟨_, rfl, t, _, 1, _, rfl, rfl, SqT.of ht2, atI_nat (j := 1) rfl, _, rfl, _, S, _, rfl, rfl, eS2, _, rfl, ?_⟩
        rw [d2]
        by_cases c2 : b ∈ es
        · exact iteP (decide_eq_true c2) ⟨_, rfl, keep (by unfold tIn; simp [c1, c2])⟩
        · exact iteN (decide_eq_false c2) (drop (by unfold tIn; simp [c2]))
      · exact iteN (decide_eq_false c1) (iteF (drop (by unfold tIn; simp [c1])))
    · obtain ⟨us', e2, t2, sm, lu⟩ := hp
      rw [ul, List.take_length] at t2
      exact q H2 D us' (sS.trans sm) hD0 e2 t2
end
end W34

namespace W34
open PySem PySem.Spec PyProof.Rows L2 Gs Gp Gr
/-! ### ends_by_starts -/
def kvA (p : Nat × Addr) : Key × V := (.inl (p.1 : Int), .ref p.2)
def EndsA (H : Hp) (r : Addr) (es : List Nat) (adj : Nat → List Nat) : Prop := ∃ al : List (Nat × Addr), H r = some (.dK (al.map kvA)) ∧ al.map (·.1) = es ∧ ∀ p ∈ al, H p.2 = some (.lst ((adj p.1).map vI))
theorem EndsA.same {H H' : Hp} {r : Addr} {es : List Nat} {adj : Nat → List Nat} (s : Same H H') (h : EndsA H r es adj) : EndsA H' r es adj := by
  obtain ⟨al, h1, h2, h3⟩ := h
  exact ⟨al, s _ _ h1, h2, fun p hp => s _ _ (h3 p hp)⟩
theorem val_al : ∀ {al : List (Nat × Addr)} {x : Nat}, x ∈ al.map (·.1) → ∃ a, (x, a) ∈ al ∧ valV (al.map kvA) (.inl (x : Int)) = some (.ref a)
  | [], x, h => absurd h List.not_mem_nil
  | (y, b) :: al, x, h => by
    by_cases c : y = x
    · subst c
      refine ⟨b, List.mem_cons_self, ?_⟩
      unfold valV
      rw [List.map_cons, List.find?_cons_of_pos (by simp [kvA])]
      rfl
    · have h' : x ∈ al.map (·.1) := by
        rcases List.mem_cons.mp h with e | h
        · exact absurd e.symm c
        · exact h
      obtain ⟨a, ha, e⟩ := val_al h'
      refine ⟨a, List.mem_cons_of_mem _ ha, ?_⟩
      unfold valV at e ⊢
      rw [List.map_cons, List.find?_cons_of_neg (by simp [kvA]; omega)]
      exact e
theorem put_new {kvs : List (Key × V)} {k : Key} {v : V} (h : ∀ kv ∈ kvs, kv.1 ≠ k) : putK kvs k v = kvs ++ [(k, v)] := by
  unfold putK
  rw [if_neg]
  intro z
  obtain ⟨kv, hkv, e⟩ := List.any_eq_true.mp z
  exact h kv hkv (by simpa using e)
theorem nd_inj {α β : Type} {f : α → β} : ∀ {l : List α}, (l.map f).Nodup → ∀ {a b : α}, a ∈ l → b ∈ l → f a = f b → a = b
  | [], _, _, _, h, _, _ => absurd h List.not_mem_nil
  | c :: l, nd, a, b, ha, hb, e => by
    rw [List.map_cons, List.nodup_cons] at nd
    rcases List.mem_cons.mp ha with e1 | h1
    · rcases List.mem_cons.mp hb with e2 | h2
      · rw [e1, e2]
      · exact absurd (List.mem_map.mpr ⟨b, h2, by rw [← e, e1]⟩) nd.1
    · rcases List.mem_cons.mp hb with e2 | h2
      · exact absurd (List.mem_map.mpr ⟨a, h1, by rw [e, e2]⟩) nd.1
      · exact nd_inj nd.2 h1 h2 e
abbrev NEn : List Str := ["entries", "pairs", "ends", "start", "end", "entry"]
theorem scEnds : FnScope NEn ["entries", "pairs"] (defScope sEnds) := ⟨rfl, rfl, rfl, by decide +kernel, rfl, by decide +kernel, by decide +kernel⟩
def spEnds : Sp := fun vs H Q _ => ∃ (E T : Addr) (es : List Nat) (us : List V) (ps : List (Nat × Nat)), vs = [.ref E, .ref T] ∧ H E = some (.lst (es.map vI)) ∧ H T = some (.lst us) ∧ Prs H us ps ∧ es.Nodup ∧ (∀ p ∈ ps, p.1 ∈ es) ∧ es.length ≤ 900 ∧ ps.length ≤ 900 ∧
  ∀ H' r, Same H H' → H r = none → EndsA H' r es (adjOf ps) → Q (.ref r) H'
section
variable {P : Program} {w : World} {K : PySem.W.Frag} {mg : Str → Option Value} {base : Heap} {f f1 f2 : Addr} {fd d1 d2 : FuncData} {k : Nat}
theorem ok_ends (F : Fun K "ends_by_starts" "ends_by_starts" sEnds f fd) : FnOk P w K mg base CX0 (k + 1) f fd ["entries", "pairs"] spEnds := by
  refine F.ok scEnds (fun vs H Q E h => ?_) (fun cdv A outer s H vs Q E hr h => ?_)
  · obtain ⟨E, T, es, us, ps, rfl, _⟩ := h
    rfl
  · obtain ⟨E', T, es, us, ps, rfl, hE, hT, pr, nd, sub, el, pl, q⟩ := h
    refine ⟨_, pss_cons (ps_setDc (i := 2) (own := [("entry", 5)]) (g := gName 5) (tt := tYes) rfl scEnds.nd rfl rfl (sw_dict rfl rfl rfl rfl) (pi_list (pv 0)) (blkOk_by (own := [("entry", 5)]) (N := NEn) (sc := defScope sEnds) (by decide +kernel))
        (fun _ _ _ _ _ => pg_name (i := 5) scEnds.nd rfl (Or.inl rfl)) (fun _ _ _ _ _ => pts_nil) (fun _ _ _ _ _ => pv 5) (fun _ _ _ _ _ => pe_lst pa_nil))
      (pss_cons (ps_for PassesOwn.never rfl (pi_list (pv 1)) (pg_tup (by rfl) (pgs_cons (pg_name (i := 3) scEnds.nd rfl (.inl rfl)) (pgs_cons (pg_name (i := 4) scEnds.nd rfl (.inl rfl)) pgs_nil)))
        (pss_one (ps_expr (pe_bm PySem.F.plainAttrs_list PySem.F.slot_list_append PySem.F.type_list_append mt_append (pe_dget (u1 hr) (pv 2) (pv 3) (fun _ _ => rfl)) (pa_cons (pv 4) pa_nil)))))
      (pss_one (ps_ret (pv 2)))), ?_⟩
    refine ⟨_, rfl, E', rfl, ⟨_, SqL.of hE⟩, fun D hD => ?_⟩
    have ml : (es.map vI).length = es.length := List.length_map ..
    refine walkC (J := Itl K E') (n := es.length) (fun i H' => ∃ al : List (Nat × Addr), H' D = some (.dK (al.map kvA)) ∧ al.map (·.1) = es.take i ∧ (al.map (·.2)).Nodup ∧ (∀ p ∈ al, H p.2 = none ∧ H' p.2 = some (.lst [])) ∧ Same H H')
      ⟨[], upd_same, by rw [List.take_zero]; rfl, List.nodup_nil, fun p hp => absurd hp List.not_mem_nil, same_new hD⟩ (fun i H' hi hp => ?_) (fun H' hp => ?_) (fun i x H1 H1' hi hp hy => ?_) (fun H1 hp => ?_)
    · obtain ⟨_, _, _, _, _, sm⟩ := hp
      exact ⟨_, _, SqL.of (sm _ _ hE), List.getElem?_eq_getElem (by rw [ml]; exact hi)⟩
    · obtain ⟨_, _, _, _, _, sm⟩ := hp
      exact ⟨_, SqL.of (sm _ _ hE), by rw [ml]; exact Nat.le_refl _⟩
    · obtain ⟨al, eD, ek, nd2, st, sm⟩ := hp
      obtain ⟨rfl, hy⟩ := hy
      have hx := hy _ (SqL.of (sm _ _ hE))
      rw [List.getElem?_map, List.getElem?_eq_getElem hi] at hx
      cases hx
      have lal : al.length = i := by
        have := congrArg List.length ek
        rw [List.length_map, List.length_take] at this
        omega
      refine ⟨rfl, ?_⟩
      refine ⟨_, rfl, by show 0 ≤ sizeLine; decide, fun L hL => ?_⟩
      have sL := same_new (o := .lst []) hL
      have eD' := sL _ _ eD
      have nLD : L ≠ D := fun e => by
        rw [e, eD] at hL
        cases hL
      have hL0 : H L = none := free_same sm hL
      refine ⟨_, .inl ((es[i] : Nat) : Int), rfl, eD', by rw [List.length_map]; exact small1000 (by omega), ?_⟩
      have fresh : ∀ kv ∈ al.map kvA, kv.1 ≠ (.inl ((es[i] : Nat) : Int) : Key) := fun kv hkv e => by
        obtain ⟨p, hp, rfl⟩ := List.mem_map.mp hkv
        have e1 : p.1 = es[i] := by
          have : (p.1 : Int) = (es[i] : Nat) := Sum.inl.inj e
          omega
        have m1 : p.1 ∈ es.take i := by
          rw [← ek]
          exact List.mem_map.mpr ⟨p, hp, rfl⟩
        have nd' : (es.take (i + 1)).Nodup := nd.sublist (List.take_sublist _ _)
        rw [List.take_add_one, List.getElem?_eq_getElem hi, Option.toList_some, List.nodup_append] at nd'
        exact nd'.2.2 _ m1 _ (List.mem_singleton.mpr rfl) e1
      rw [put_new fresh]
      refine ⟨al ++ [(es[i], L)], ?_, ?_, ?_, fun p hp => ?_, keep_new hD (sm.trans sL)⟩
      · rw [upd_same, List.map_append]
        rfl
      · rw [List.map_append, ek, List.take_add_one, List.getElem?_eq_getElem hi]
        rfl
      · rw [List.map_append, List.nodup_append]
        refine ⟨nd2, List.nodup_cons.mpr ⟨List.not_mem_nil, List.nodup_nil⟩, fun a ha b hb e => ?_⟩
        obtain ⟨p, hp, rfl⟩ := List.mem_map.mp ha
        have eb : b = L := List.mem_singleton.mp hb
        have := (st p hp).2
        rw [e, eb, hL] at this
        cases this
      · rcases List.mem_append.mp hp with hp | hp
        · refine ⟨(st p hp).1, ?_⟩
          have := (st p hp).2
          rw [upd_ne (fun e => by rw [e, eD] at this; cases this)]
          exact sL _ _ this
        · rw [List.mem_singleton.mp hp]
          refine ⟨hL0, ?_⟩
          rw [upd_ne nLD]
          exact upd_same
    · obtain ⟨al, eD, ek, nd2, st, sm⟩ := hp
      rw [List.take_length] at ek
      have pl' := pr.len
      refine ⟨_, rfl, T, rfl, ⟨_, SqL.of (sm _ _ hT)⟩, for_list (K := K) (xs := us) (fun i σ H' => Same H H' ∧ ∃ x3 x4, σ = [some (.ref E'), some (.ref T), some (.ref D), x3, x4, none] ∧ H' D = some (.dK (al.map kvA)) ∧ ∀ p ∈ al, H' p.2 = some (.lst ((adjOf (ps.take i) p.1).map vI)))
        ⟨sm, _, _, rfl, eD, fun p hp => (st p hp).2⟩ (fun i σ H' _ hp => SqL.of (hp.1 _ _ hT)) (fun i x σ H2 hx hp => ?_) (fun σ H2 hp => ?_)⟩
      · obtain ⟨s2, x3, x4, rfl, e2, a2⟩ := hp
        obtain ⟨t, a, b, rfl, et, ht⟩ := pr.at hx
        have il : i < us.length := (List.getElem?_eq_some_iff.mp hx).1
        obtain ⟨ad, had, ev⟩ := val_al (al := al) (x := a) (by rw [ek]; exact sub _ (List.mem_of_getElem? et))
        have had2 : H2 ad = some (.lst ((adjOf (ps.take i) a).map vI)) := a2 _ had
        have la : (adjOf (ps.take i) a).length ≤ i := by
          unfold adjOf
          rw [List.length_map]
          exact Nat.le_trans (List.length_filter_le _ _) (by rw [List.length_take]; omega)
        refine ⟨t, _, rfl, SqT.of (s2 _ _ ht), rfl, _, _, rfl, _, _, rfl, rfl, ?_⟩
        refine ⟨_, rfl, _, rfl, D, .ref ad, rfl, (show DGet H2 D (kV (Sum.inl (a : Int))) (some (.ref ad)) from ev ▸ DGet.k e2), .inl ⟨rfl, _, SqL.of had2⟩, _, rfl, ad, _, _, rfl, rfl, had2, by rw [List.length_map]; exact small1000 (by omega), ?_⟩
        have nD : ad ≠ D := fun e => by
          rw [e, e2] at had2
          cases had2
        refine ⟨?_, _, _, rfl, by rw [upd_ne nD.symm]; exact e2, fun p hp => ?_⟩
        · exact keep_new (st _ had).1 s2
        · have ea : ps.take (i + 1) = ps.take i ++ [(a, b)] := by
            rw [List.take_add_one, et]
            rfl
          rw [ea, adj_snoc]
          by_cases c : p = (a, ad)
          · subst c
            rw [upd_same, if_pos rfl, List.map_append]
            rfl
          · have n2 : p.2 ≠ ad := fun e => c (nd_inj nd2 hp had e)
            have n1 : ¬ a = p.1 := fun e => by
              apply c
              refine nd_inj (f := Prod.fst) (l := al) (by rw [ek]; exact nd) hp had e.symm
            rw [upd_ne n2, if_neg n1]
            exact a2 p hp
      · obtain ⟨s2, x3, x4, rfl, e2, a2⟩ := hp
        rw [pl', List.take_length] at a2
        exact ⟨_, rfl, q H2 D s2 hD ⟨al, e2, ek, a2⟩⟩
end
end W34

namespace W34
open PySem PySem.Spec PyProof.Rows L2 Gs Gp Gr
/-! ### all_from -/
def kvT (x : Nat) : Key × V := (.inl (x : Int), .bl true)
theorem val_ks : ∀ {ks : List Nat} {x : Nat}, valV (ks.map kvT) (.inl (x : Int)) = if x ∈ ks then some (.bl true) else none
  | [], x => rfl
  | y :: ks, x => by
    have ih := @val_ks ks x
    unfold valV at ih ⊢
    by_cases c : y = x
    · subst c
      rw [List.map_cons, List.find?_cons_of_pos (by simp [kvT]), if_pos List.mem_cons_self]
      rfl
    · rw [List.map_cons, List.find?_cons_of_neg (by simp [kvT]; omega), ih]
      by_cases d : x ∈ ks
      · rw [if_pos d, if_pos (List.mem_cons_of_mem _ d)]
      · rw [if_neg d, if_neg (fun z => by
          rcases List.mem_cons.mp z with e | z
          · exact c e.symm
          · exact d z)]
theorem put_ks {ks : List Nat} {x : Nat} (h : x ∉ ks) : putK (ks.map kvT) (.inl (x : Int)) (.bl true) = (ks ++ [x]).map kvT := by
  rw [put_new, List.map_append]
  · rfl
  · intro kv hkv e
    obtain ⟨y, hy, rfl⟩ := List.mem_map.mp hkv
    have : (y : Int) = (x : Int) := Sum.inl.inj e
    have : y = x := by omega
    exact h (this ▸ hy)
theorem pig {es : List Nat} : ∀ {l : List Nat}, l.Nodup → (∀ x ∈ l, x ∈ es) → l.length ≤ es.length := fun {l} => by
  induction l generalizing es with
  | nil => exact fun _ _ => Nat.zero_le _
  | cons x l ih =>
    intro nd sub
    rw [List.nodup_cons] at nd
    have hx := sub x List.mem_cons_self
    have z := ih (es := es.erase x) nd.2 fun y hy => (List.mem_erase_of_ne (fun e : y = x => nd.1 (e ▸ hy))).mpr (sub y (List.mem_cons_of_mem _ hy))
    rw [List.length_erase_of_mem hx] at z
    have : 0 < es.length := List.length_pos_of_mem hx
    rw [List.length_cons]
    omega
theorem prs_snoc {H : Hp} : ∀ {ts : List (Nat × Nat)} {us : List V} {a b : Nat}, Prs H us (ts ++ [(a, b)]) → ∃ us0 t, us = us0 ++ [.ref t] ∧ Prs H us0 ts ∧ H t = some (.tup [.int (a : Nat), .int (b : Nat)])
  | [], us, a, b, h => by
    cases h with
    | cons h r =>
      cases r
      exact ⟨[], _, rfl, .nil, h⟩
  | (c, d) :: ts, us, a, b, h => by
    cases h with
    | cons h r =>
      obtain ⟨us0, t, rfl, r', e⟩ := prs_snoc r
      exact ⟨_ :: us0, t, rfl, .cons h r', e⟩
theorem inv_iter {es ks0 : List Nat} {adj : Nat → List Nat} {e : Nat} (cl : ∀ x ∈ es, ∀ y ∈ adj x, y ∈ es) : ∀ {n : Nat} {s : Gr.St}, Gr.Inv es adj ks0 e s → Gr.Inv es adj ks0 e (iter adj n s)
  | 0, _, I => I
  | n + 1, s, I => inv_iter (n := n) (s := step adj s) cl (inv_step cl I)
theorem len_step {adj : Nat → List Nat} {s : Gr.St} : (Gr.step adj s).ks.length + s.ord.length + s.path.length = s.ks.length + (Gr.step adj s).ord.length + (Gr.step adj s).path.length := by
  obtain ⟨path, ord, ks⟩ := s
  match path with
  | [] => rfl
  | (h, a) :: p =>
    unfold Gr.step
    dsimp only
    split
    · simp
      omega
    · split
      · simp
      · simp
        omega
theorem len_iter {adj : Nat → List Nat} : ∀ {n : Nat} {s : Gr.St}, (iter adj n s).ks.length + s.ord.length + s.path.length = s.ks.length + (iter adj n s).ord.length + (iter adj n s).path.length
  | 0, s => rfl
  | n + 1, s => by
    have h1 := len_iter (adj := adj) (n := n) (s := Gr.step adj s)
    have h2 := len_step (adj := adj) (s := s)
    rw [iter]
    omega
theorem EndsA.keep {H H' : Hp} {r S : Addr} {es : List Nat} {adj : Nat → List Nat} {kvs : List (Key × V)} (k : Keep S H H') (hr : r ≠ S) (hS : H S = some (.dK kvs)) (h : EndsA H r es adj) : EndsA H' r es adj := by
  obtain ⟨al, h1, h2, h3⟩ := h
  refine ⟨al, k _ _ hr h1, h2, fun p hp => k _ _ (fun e => ?_) (h3 p hp)⟩
  have := h3 p hp
  rw [e, hS] at this
  cases this
theorem EndsA.get {H : Hp} {r : Addr} {es : List Nat} {adj : Nat → List Nat} (h : EndsA H r es adj) {x : Nat} (hx : x ∈ es) : ∃ a, DGet H r (.int (x : Nat)) (some (.ref a)) ∧ H a = some (.lst ((adj x).map vI)) := by
  obtain ⟨al, h1, h2, h3⟩ := h
  obtain ⟨a, ha, ev⟩ := val_al (al := al) (x := x) (by rw [h2]; exact hx)
  exact ⟨a, (show DGet H r (kV (Sum.inl (x : Int))) (some (.ref a)) from ev ▸ DGet.k h1), h3 _ ha⟩
abbrev NAf : List Str := ["entry", "ends", "seen", "order", "path", "here", "at", "there"]
theorem scAllFrom : FnScope NAf ["entry", "ends", "seen"] (defScope sAllFrom) := ⟨rfl, rfl, rfl, by decide +kernel, rfl, by decide +kernel, by decide +kernel⟩
def spAllFrom : Sp := fun vs H Q _ => ∃ (e : Nat) (r S : Addr) (es ks : List Nat) (adj : Nat → List Nat), vs = [.int e, .ref r, .ref S] ∧ EndsA H r es adj ∧ H S = some (.dK (ks.map kvT)) ∧ r ≠ S ∧ (∀ x ∈ es, ∀ y ∈ adj x, y ∈ es) ∧ e ∈ es ∧ (∀ x ∈ ks, x ∈ es) ∧ e ∉ ks ∧ es.length ≤ 900 ∧ ks.length ≤ 900 ∧
  ∀ H' o, Keep S H H' → H' S = some (.dK ((dfs es adj ks e).ks.map kvT)) → H o = none → o ≠ S → H' o = some (.lst ((dfs es adj ks e).ord.map vI)) → Q (.ref o) H'
section
variable {P : Program} {w : World} {K : PySem.W.Frag} {mg : Str → Option Value} {base : Heap} {f f1 f2 : Addr} {fd d1 d2 : FuncData} {k : Nat}
theorem ok_allFrom (F : Fun K "all_from" "all_from" sAllFrom f fd) (ml : mg "len" = none) : FnOk P w K mg base CX0 (k + 1) f fd ["entry", "ends", "seen"] spAllFrom := by
  refine F.ok scAllFrom (fun vs H Q E h => ?_) (fun cdv A outer s H vs Q E hr h => ?_)
  · obtain ⟨e, r, S, es, ks, adj, rfl, _⟩ := h
    rfl
  · obtain ⟨e, r, S, es, ks, adj, rfl, en, hS, rS, cl, he, h0, hn, el, kl, q⟩ := h
    refine ⟨_, pss_cons (ps_set (i := 3) scAllFrom.nd rfl (.inl rfl) (pe_lst pa_nil))
      (pss_cons (ps_dput (u1 hr) (pv 2) (pv 0) pe_bl (by rfl))
      (pss_cons (ps_set (i := 4) scAllFrom.nd rfl (.inl rfl) (pe_lst (pa_cons (pe_tup (pa_cons (pv 0) (pa_cons pe_int pa_nil))) pa_nil)))
      (pss_cons (ps_while PassesOwn.never (pt_truth (pv 4) (by intro _; rfl))
        (pss_cons (ps_asg (pe_bm0 PySem.F.plainAttrs_list PySem.F.slot_list_pop PySem.F.type_list_pop mt_pop (pv 4)) (pg_tup (by rfl) (pgs_cons (pg_name (i := 5) scAllFrom.nd rfl (.inl rfl)) (pgs_cons (pg_name (i := 6) scAllFrom.nd rfl (.inl rfl)) pgs_nil))))
        (pss_one (ps_if (pt_cmpR op_eq (pv 6) (pe_callB call_len_seq (by rfl) ml PySem.boot_len (pa_cons (pe_dget (u1 hr) (pv 1) (pv 5) (fun _ _ => rfl)) pa_nil)) (nomark _))
          (pss_one (ps_expr (pe_bm PySem.F.plainAttrs_list PySem.F.slot_list_append PySem.F.type_list_append mt_append (pv 3) (pa_cons (pv 5) pa_nil))))
          (pss_cons (ps_expr (pe_bm PySem.F.plainAttrs_list PySem.F.slot_list_append PySem.F.type_list_append mt_append (pv 4) (pa_cons (pe_tup (pa_cons (pv 5) (pa_cons (pe_op op_add (pv 6) pe_int) pa_nil))) pa_nil)))
          (pss_cons (ps_set (i := 7) scAllFrom.nd rfl (.inl rfl) (pe_ix ix_list (pe_dget (u1 hr) (pv 1) (pv 5) (fun _ _ => rfl)) (pv 6) (fun _ _ => rfl)))
          (pss_one (ps_if (pt_cmp (pc_dnotin (u1 hr) (pv 7) (pv 2)) (by rfl))
            (pss_cons (ps_dput (u1 hr) (pv 2) (pv 7) pe_bl (by rfl))
            (pss_one (ps_expr (pe_bm PySem.F.plainAttrs_list PySem.F.slot_list_append PySem.F.type_list_append mt_append (pv 4) (pa_cons (pe_tup (pa_cons (pv 7) (pa_cons pe_int pa_nil))) pa_nil)))))
            pss_nil))))))))
      (pss_one (ps_ret (pv 3)))))), ?_⟩
    have I0 : Gr.Inv es adj ks e ⟨[(e, 0)], [], ks ++ [e]⟩ := inv_init he h0 hn
    refine ⟨by show 0 ≤ sizeLine; decide, fun O hO => ?_⟩
    have OS : O ≠ S := fun z => by
      rw [z, hS] at hO
      cases hO
    have hS1 : upd H O (.lst []) S = some (.dK (ks.map kvT)) := by
      rw [upd_ne OS.symm]
      exact hS
    refine ⟨_, rfl, _, rfl, S, _, rfl, DPut.k (k := .inl (e : Int)) hS1 (by rw [List.length_map]; exact small1000 (by omega)), ?_⟩
    rw [put_ks hn]
    have k1 : Keep S H (upd (upd H O (.lst [])) S (.dK ((ks ++ [e]).map kvT))) := (keep_same (same_new hO)).trans keep_upd
    have eS1 : upd (upd H O (.lst [])) S (.dK ((ks ++ [e]).map kvT)) S = some (.dK ((ks ++ [e]).map kvT)) := upd_same
    have eO1 : upd (upd H O (.lst [])) S (.dK ((ks ++ [e]).map kvT)) O = some (.lst []) := by
      rw [upd_ne OS]
      exact upd_same
    generalize upd (upd H O (.lst [])) S (.dK ((ks ++ [e]).map kvT)) = H1 at *
    refine ⟨_, rfl, by show 2 ≤ sizeLine; decide, fun t ht => ⟨by show 1 ≤ sizeLine; decide, fun PT hPT => ?_⟩⟩
    have s2 := same_new (o := .tup [.int (e : Nat), .int 0]) ht
    have s3 := same_new (o := .lst [.ref t]) hPT
    have s23 := s2.trans s3
    have PS : PT ≠ S := fun z => by
      rw [z, s2 _ _ eS1] at hPT
      cases hPT
    have PO : PT ≠ O := fun z => by
      rw [z, s2 _ _ eO1] at hPT
      cases hPT
    have hPT0 : H PT = none := free_keep k1 PS (free_same s2 hPT)
    refine ⟨fun c σ H' => ∃ (n : Nat) (us : List V) (x5 x6 x7 : Option V), σ = [some (.int e), some (.ref r), some (.ref S), some (.ref O), some (.ref PT), x5, x6, x7] ∧ c = mu es adj (iter adj n ⟨[(e, 0)], [], ks ++ [e]⟩) ∧ Keep S H H' ∧ H' S = some (.dK ((iter adj n ⟨[(e, 0)], [], ks ++ [e]⟩).ks.map kvT)) ∧
        H' O = some (.lst ((iter adj n ⟨[(e, 0)], [], ks ++ [e]⟩).ord.map vI)) ∧ H' PT = some (.lst us) ∧ Prs H' us (iter adj n ⟨[(e, 0)], [], ks ++ [e]⟩).path.reverse,
      ⟨_, 0, [.ref t], none, none, none, rfl, rfl, k1.trans (keep_same s23), s23 _ _ eS1, s23 _ _ eO1, upd_same, .cons (s3 _ _ upd_same) .nil⟩, fun c σ H2 hp => ?_⟩
    clear eS1 eO1 k1 s2 s3 s23 ht hPT hS1
    obtain ⟨n, us, x5, x6, x7, rfl, rfl, k2, eS, eO, eP, pr⟩ := hp
    have I := inv_iter (n := n) cl I0
    have lit := len_iter (adj := adj) (n := n) (s := ⟨[(e, 0)], [], ks ++ [e]⟩)
    have isu := iter_succ (adj := adj) (n := n) (s := ⟨[(e, 0)], [], ks ++ [e]⟩)
    have dof := @dfs_of es ks adj e cl he h0 hn n
    generalize hst : iter adj n ⟨[(e, 0)], [], ks ++ [e]⟩ = st at *
    obtain ⟨path, ord, kk⟩ := st
    dsimp only at eS eO pr dof lit
    rw [List.length_append] at lit
    simp only [List.length_nil, List.length_cons, List.length_singleton] at lit
    have en2 : EndsA H2 r es adj := en.keep k2 rS hS
    refine ⟨_, rfl, _, .inl ⟨us, SqL.of eP, rfl⟩, ?_⟩
    match path, I, isu, dof, pr, lit with
    | [], I, isu, dof, pr, _ =>
      cases pr
      refine iteN rfl ⟨_, rfl, ?_⟩
      have d := dof rfl
      refine q H2 O k2 ?_ hO OS ?_
      · rw [← d]
        exact eS
      · rw [← d]
        exact eO
    | (h, a) :: p, I, isu, dof, pr, lit =>
      rw [List.length_cons] at lit
      rw [List.reverse_cons] at pr
      obtain ⟨us0, t, rfl, pr0, et⟩ := prs_snoc pr
      refine iteP (by simp) ?_
      have hk : h ∈ kk := (I.keys h).mpr (.inr (.inr (by simp [nodes])))
      have hes : h ∈ es := I.sub h hk
      have fh := I.fr (h, a) List.mem_cons_self
      have dec := mu_step cl I (by simp)
      have nd := I.nd
      have subO : ∀ x ∈ ord ++ nodes ⟨(h, a) :: p, ord, kk⟩, x ∈ es := fun x hx => I.sub x ((I.keys x).mpr (by
        rcases List.mem_append.mp hx with z | z
        · exact .inr (.inl z)
        · exact .inr (.inr z)))
      have len := pig nd subO
      rw [List.length_append] at len
      dsimp only at len
      have ln : (nodes ⟨(h, a) :: p, ord, kk⟩).length = p.length + 1 := by simp [nodes]
      have lp0 := pr0.len
      rw [List.length_reverse] at lp0
      refine ⟨fun σ' H'' => ∃ (us : List V) (x5 x6 x7 : Option V), σ' = [some (.int e), some (.ref r), some (.ref S), some (.ref O), some (.ref PT), x5, x6, x7] ∧ Keep S H H'' ∧ H'' S = some (.dK ((step adj ⟨(h, a) :: p, ord, kk⟩).ks.map kvT)) ∧
        H'' O = some (.lst ((step adj ⟨(h, a) :: p, ord, kk⟩).ord.map vI)) ∧ H'' PT = some (.lst us) ∧ Prs H'' us (step adj ⟨(h, a) :: p, ord, kk⟩).path.reverse, fun σ' H'' hN => ?_, ?_⟩
      · obtain ⟨us', y5, y6, y7, e1, e2, e3, e4, e5, e6⟩ := hN
        refine ⟨mu es adj (step adj ⟨(h, a) :: p, ord, kk⟩), dec, n + 1, us', y5, y6, y7, e1, ?_, e2, ?_, ?_, e5, ?_⟩
        · rw [isu]
        · rw [isu]
          exact e3
        · rw [isu]
          exact e4
        · rw [isu]
          exact e6
      refine ⟨_, rfl, .inl ⟨rfl, _, SqL.of eP⟩, PT, _, .ref t, rfl, rfl, eP, by simp, ?_⟩
      rw [List.dropLast_concat]
      have eP3 : upd H2 PT (.lst us0) PT = some (.lst us0) := upd_same
      have t3 : TK H2 (upd H2 PT (.lst us0)) := tk_lst eP
      have et3 := t3 _ _ et
      have pr3 := pr0.tk t3
      have eS3 : upd H2 PT (.lst us0) S = some (.dK (kk.map kvT)) := by
        rw [upd_ne PS.symm]
        exact eS
      have eO3 : upd H2 PT (.lst us0) O = some (.lst (ord.map vI)) := by
        rw [upd_ne PO.symm]
        exact eO
      have k3 : Keep S H (upd H2 PT (.lst us0)) := keep_at k2 hPT0
      generalize upd H2 PT (.lst us0) = H3 at *
      have en3 : EndsA H3 r es adj := en.keep k3 rS hS
      obtain ⟨ad, dg, had⟩ := en3.get hes
      refine ⟨t, _, rfl, SqT.of et3, rfl, _, _, rfl, _, _, rfl, rfl, ?_⟩
      refine ⟨_, rfl, _, rfl, _, rfl, r, .ref ad, rfl, dg, ad, _, rfl, .inl (SqL.of had), rfl, _, rfl, ?_⟩
      rw [List.length_map]
      by_cases c : a = (adj h).length
      · refine iteP (decide_eq_true (by rw [c])) ?_
        have gn : (adj h)[a]? = none := List.getElem?_eq_none_iff.mpr (by omega)
        have st1 : step adj ⟨(h, a) :: p, ord, kk⟩ = ⟨p, ord ++ [h], kk⟩ := by
          unfold Gr.step
          simp only [gn]
        rw [st1]
        refine ⟨_, rfl, .inl ⟨rfl, _, SqL.of eO3⟩, _, rfl, O, _, _, rfl, rfl, eO3, by rw [List.length_map]; exact small1000 (by omega), ?_⟩
        refine ⟨us0, _, _, _, rfl, keep_at k3 hO, ?_, ?_, ?_, pr3.tk (tk_lst eO3)⟩
        · rw [upd_ne OS.symm]
          exact eS3
        · rw [upd_same, List.map_append]
          rfl
        · rw [upd_ne PO]
          exact eP3
      · refine iteN (decide_eq_false (fun z => c (by
          have := V.int.inj z
          omega))) ?_
        have al : a < (adj h).length := by
          have := fh.1
          dsimp only at this
          omega
        have gs : (adj h)[a]? = some ((adj h)[a]) := List.getElem?_eq_getElem al
        refine ⟨_, rfl, .inl ⟨rfl, _, SqL.of eP3⟩, _, rfl, _, rfl, _, _, rfl, rfl, by show 2 ≤ sizeLine; decide, fun t2 ht2 => ?_⟩
        have s4 := same_new (o := .tup [.int (h : Nat), .int ((a : Int) + 1)]) ht2
        have eP4 := s4 _ _ eP3
        refine ⟨PT, us0, _, rfl, rfl, eP4, small1000 (by omega), ?_⟩
        have t5 := tk_lst (o := .lst (us0 ++ [.ref t2])) eP4
        have eP5 : upd (upd H3 t2 (.tup [.int (h : Nat), .int ((a : Int) + 1)])) PT (.lst (us0 ++ [.ref t2])) PT = some (.lst (us0 ++ [.ref t2])) := upd_same
        have et5 := t5 _ _ (upd_same (H := H3) (a := t2) (o := .tup [.int (h : Nat), .int ((a : Int) + 1)]))
        have pr5 := (pr3.tk (tk_same s4)).tk t5
        have eS5 : upd (upd H3 t2 (.tup [.int (h : Nat), .int ((a : Int) + 1)])) PT (.lst (us0 ++ [.ref t2])) S = some (.dK (kk.map kvT)) := by
          rw [upd_ne PS.symm]
          exact s4 _ _ eS3
        have eO5 : upd (upd H3 t2 (.tup [.int (h : Nat), .int ((a : Int) + 1)])) PT (.lst (us0 ++ [.ref t2])) O = some (.lst (ord.map vI)) := by
          rw [upd_ne PO.symm]
          exact s4 _ _ eO3
        have k5 : Keep S H (upd (upd H3 t2 (.tup [.int (h : Nat), .int ((a : Int) + 1)])) PT (.lst (us0 ++ [.ref t2]))) := keep_at (k3.trans (keep_same s4)) hPT0
        generalize upd (upd H3 t2 (.tup [.int (h : Nat), .int ((a : Int) + 1)])) PT (.lst (us0 ++ [.ref t2])) = H5 at *
        have en5 : EndsA H5 r es adj := en.keep k5 rS hS
        obtain ⟨ad5, dg5, had5⟩ := en5.get hes
        refine ⟨_, rfl, _, rfl, r, .ref ad5, rfl, dg5, _, rfl, ad5, _, a, vI ((adj h)[a]), rfl, rfl, SqL.of had5, atI_nat (j := a) (by rw [List.getElem?_map, gs]; rfl), ?_⟩
        generalize hth : (adj h)[a] = th at *
        refine ⟨_, rfl, _, rfl, S, _, rfl, (show DGet H5 S (kV (Sum.inl (th : Int))) _ from DGet.k eS5), _, rfl, ?_⟩
        rw [val_ks]
        have prF : Prs H5 (us0 ++ [.ref t2]) (((h, a + 1) :: p).reverse) := by
          rw [List.reverse_cons]
          exact pr5.app (.cons et5 .nil)
        by_cases d : th ∈ kk
        · rw [if_pos d]
          refine iteF ?_
          have st1 : step adj ⟨(h, a) :: p, ord, kk⟩ = ⟨(h, a + 1) :: p, ord, kk⟩ := by
            unfold Gr.step
            simp only [gs, if_pos d]
          rw [st1]
          exact ⟨_, _, _, _, rfl, k5, eS5, eO5, eP5, prF⟩
        · rw [if_neg d]
          refine iteT ?_
          have st1 : step adj ⟨(h, a) :: p, ord, kk⟩ = ⟨(th, 0) :: (h, a + 1) :: p, ord, kk ++ [th]⟩ := by
            unfold Gr.step
            simp only [gs, if_neg d]
          rw [st1]
          have lkk : kk.length < 2000 := by omega
          refine ⟨_, rfl, _, rfl, S, _, rfl, DPut.k (k := .inl (th : Int)) eS5 (by rw [List.length_map]; exact Nat.lt_of_lt_of_le lkk (by decide)), ?_⟩
          rw [put_ks d]
          have k6 : Keep S H (upd H5 S (.dK ((kk ++ [th]).map kvT))) := k5.trans keep_upd
          have eP6 : upd H5 S (.dK ((kk ++ [th]).map kvT)) PT = some (.lst (us0 ++ [.ref t2])) := by
            rw [upd_ne PS]
            exact eP5
          have eO6 : upd H5 S (.dK ((kk ++ [th]).map kvT)) O = some (.lst (ord.map vI)) := by
            rw [upd_ne OS]
            exact eO5
          have pr6 := prF.tk (tk_dict (o := .dK ((kk ++ [th]).map kvT)) eS5)
          have eS6 : upd H5 S (.dK ((kk ++ [th]).map kvT)) S = some (.dK ((kk ++ [th]).map kvT)) := upd_same
          generalize upd H5 S (.dK ((kk ++ [th]).map kvT)) = H6 at *
          refine ⟨_, rfl, .inl ⟨rfl, _, SqL.of eP6⟩, _, rfl, by show 2 ≤ sizeLine; decide, fun t7 ht7 => ?_⟩
          have s7 := same_new (o := .tup [vI th, .int 0]) ht7
          have eP7 := s7 _ _ eP6
          refine ⟨PT, us0 ++ [.ref t2], _, rfl, rfl, eP7, small1000 (by rw [List.length_append, List.length_singleton]; omega), ?_⟩
          have t8 := tk_lst (o := .lst (us0 ++ [.ref t2] ++ [.ref t7])) eP7
          refine ⟨_, _, _, _, rfl, keep_at (k6.trans (keep_same s7)) hPT0, ?_, ?_, upd_same, ?_⟩
          · rw [upd_ne PS.symm]
            exact s7 _ _ eS6
          · rw [upd_ne PO.symm]
            exact s7 _ _ eO6
          · rw [List.reverse_cons]
            exact ((pr6.tk (tk_same s7)).tk t8).app (.cons (t8 _ _ upd_same) .nil)
end
end W34

namespace Gr
theorem goAll_snoc {es : List Nat} {adj : Nat → List Nat} {e : Nat} : ∀ {r : List Nat} {a : List Nat × List Nat}, goAll es adj (r ++ [e]) a = if e ∈ (goAll es adj r a).2 then goAll es adj r a else ((goAll es adj r a).1 ++ (dfs es adj (goAll es adj r a).2 e).ord, (dfs es adj (goAll es adj r a).2 e).ks)
  | [], (O, ks) => rfl
  | x :: r, (O, ks) => by
    by_cases c : x ∈ ks
    · have e1 : goAll es adj (x :: (r ++ [e])) (O, ks) = goAll es adj (r ++ [e]) (O, ks) := by rw [goAll, if_pos c]
      have e2 : goAll es adj (x :: r) (O, ks) = goAll es adj r (O, ks) := by rw [goAll, if_pos c]
      rw [List.cons_append, e1, e2]
      exact goAll_snoc
    · have e1 : goAll es adj (x :: (r ++ [e])) (O, ks) = goAll es adj (r ++ [e]) (O ++ (dfs es adj ks x).ord, (dfs es adj ks x).ks) := by rw [goAll, if_neg c]
      have e2 : goAll es adj (x :: r) (O, ks) = goAll es adj r (O ++ (dfs es adj ks x).ord, (dfs es adj ks x).ks) := by rw [goAll, if_neg c]
      rw [List.cons_append, e1, e2]
      exact goAll_snoc
theorem goBack_snoc {es : List Nat} {bdj : Nat → List Nat} {e : Nat} : ∀ {r : List Nat} {a : List (List Nat) × List Nat}, goBack es bdj (r ++ [e]) a = if e ∈ (goBack es bdj r a).2 then goBack es bdj r a else ((goBack es bdj r a).1 ++ [srt (dfs es bdj (goBack es bdj r a).2 e).ord], (dfs es bdj (goBack es bdj r a).2 e).ks)
  | [], (O, ks) => rfl
  | x :: r, (O, ks) => by
    by_cases c : x ∈ ks
    · have e1 : goBack es bdj (x :: (r ++ [e])) (O, ks) = goBack es bdj (r ++ [e]) (O, ks) := by rw [goBack, if_pos c]
      have e2 : goBack es bdj (x :: r) (O, ks) = goBack es bdj r (O, ks) := by rw [goBack, if_pos c]
      rw [List.cons_append, e1, e2]
      exact goBack_snoc
    · have e1 : goBack es bdj (x :: (r ++ [e])) (O, ks) = goBack es bdj (r ++ [e]) (O ++ [srt (dfs es bdj ks x).ord], (dfs es bdj ks x).ks) := by rw [goBack, if_neg c]
      have e2 : goBack es bdj (x :: r) (O, ks) = goBack es bdj r (O ++ [srt (dfs es bdj ks x).ord], (dfs es bdj ks x).ks) := by rw [goBack, if_neg c]
      rw [List.cons_append, e1, e2]
      exact goBack_snoc
/-- what is known all along: keys of entries, each once -/
structure Kys (es ks : List Nat) : Prop where
  nd : ks.Nodup
  sub : ∀ x ∈ ks, x ∈ es
theorem kys_dfs {es : List Nat} {adj : Nat → List Nat} {ks : List Nat} {e : Nat} (cl : ∀ x ∈ es, ∀ y ∈ adj x, y ∈ es) (he : e ∈ es) (h : Kys es ks) (hn : e ∉ ks) (nd : (dfs es adj ks e).ks.Nodup) : Kys es (dfs es adj ks e).ks := ⟨nd, (dfs_went cl he h.sub hn).2⟩
theorem nd_step {adj : Nat → List Nat} {s : St} (h : s.ks.Nodup) : (step adj s).ks.Nodup := by
  obtain ⟨path, ord, ks⟩ := s
  match path with
  | [] => exact h
  | (x, a) :: p =>
    unfold step
    dsimp only
    split
    · exact h
    · split
      · exact h
      · rename_i n
        rw [List.nodup_append]
        refine ⟨h, List.nodup_cons.mpr ⟨List.not_mem_nil, List.nodup_nil⟩, fun a ha b hb e => ?_⟩
        rw [List.mem_singleton.mp hb] at e
        exact n (e ▸ ha)
theorem nd_iter {adj : Nat → List Nat} : ∀ {n : Nat} {s : St}, s.ks.Nodup → (iter adj n s).ks.Nodup
  | 0, _, h => h
  | n + 1, s, h => nd_iter (n := n) (s := step adj s) (nd_step h)
theorem nd_dfs {es : List Nat} {adj : Nat → List Nat} {ks : List Nat} {e : Nat} (h : ks.Nodup) (hn : e ∉ ks) : (dfs es adj ks e).ks.Nodup := nd_iter (by
  show (ks ++ [e]).Nodup
  rw [List.nodup_append]
  refine ⟨h, List.nodup_cons.mpr ⟨List.not_mem_nil, List.nodup_nil⟩, fun a ha b hb c => ?_⟩
  rw [List.mem_singleton.mp hb] at c
  exact hn (c ▸ ha))
end Gr
namespace W34
open PySem PySem.Spec PyProof.Rows L2 Gs Gp Gr
/-! ### pieces -/
def pr2 (t : Tie) : Nat × Nat := (t.1, t.2.1)
theorem among_of (es : List Nat) : ∀ ts : List Tie, among es (ts.map pr2) = (ts.filter (tIn es)).map pr2
  | [] => rfl
  | t :: ts => by
    have ih := among_of es ts
    unfold among at ih ⊢
    rw [List.map_cons]
    by_cases c : tIn es t = true
    · rw [List.filter_cons_of_pos (by exact c), List.filter_cons_of_pos c, List.map_cons, ih]
    · rw [List.filter_cons_of_neg (by exact c), List.filter_cons_of_neg c, ih]
inductive Lss (H : Hp) : List V → List (List Nat) → Prop
  | nil : Lss H [] []
  | cons {a : Addr} {us : List V} {p : List Nat} {ps : List (List Nat)} : H a = some (.lst (p.map vI)) → Lss H us ps → Lss H (.ref a :: us) (p :: ps)
section
variable {H H' : Hp}
theorem Lss.same (s : Same H H') : ∀ {us : List V} {ps : List (List Nat)}, Lss H us ps → Lss H' us ps
  | _, _, .nil => .nil
  | _, _, .cons h r => .cons (s _ _ h) (r.same s)
theorem Lss.len : ∀ {us : List V} {ps : List (List Nat)}, Lss H us ps → us.length = ps.length
  | _, _, .nil => rfl
  | _, _, .cons _ r => congrArg (· + 1) r.len
theorem Lss.app : ∀ {us vs : List V} {ps qs : List (List Nat)}, Lss H us ps → Lss H vs qs → Lss H (us ++ vs) (ps ++ qs)
  | _, _, _, _, .nil, h => h
  | _, _, _, _, .cons h r, h2 => .cons h (r.app h2)
theorem Lss.at : ∀ {us : List V} {ps : List (List Nat)}, Lss H us ps → ∀ {i : Nat} {v : V}, us[i]? = some v → ∃ a p, v = .ref a ∧ ps[i]? = some p ∧ H a = some (.lst (p.map vI))
  | _, _, .nil, i, v, e => by simp at e
  | _, _, .cons h r, 0, v, e => by
    cases e
    exact ⟨_, _, rfl, rfl, h⟩
  | _, _, .cons h r, i + 1, v, e => r.at (i := i) e
/-- lists stay but those at p and q -/
theorem Lss.keep {p q : Addr} (k : ∀ b xs, b ≠ p → b ≠ q → H b = some (.lst xs) → H' b = some (.lst xs)) : ∀ {us : List V} {ps : List (List Nat)}, .ref p ∉ us → .ref q ∉ us → Lss H us ps → Lss H' us ps
  | _, _, _, _, .nil => .nil
  | _, _, n, m, .cons h r => .cons (k _ _ (fun e => n (e ▸ List.mem_cons_self)) (fun e => m (e ▸ List.mem_cons_self)) h) (r.keep k (fun z => n (List.mem_cons_of_mem _ z)) (fun z => m (List.mem_cons_of_mem _ z)))
end
theorem sorted_int {l : List Nat} {ns : List Int} (p : ns.Perm (l.map ci)) (s : ns.Pairwise (· ≤ ·)) : ns.map V.int = (srt l).map vI := by
  have e : ns = (srt l).map ci := by
    refine List.Perm.eq_of_pairwise (le := (· ≤ ·)) (fun a b _ _ h1 h2 => Int.le_antisymm h1 h2) s ?_ (p.trans ((srt_perm l).symm.map ci))
    rw [List.pairwise_map]
    exact (srt_pw l).imp fun {a b} h => by
      unfold ci
      omega
  rw [e, ← vI_map]
abbrev NPc : List Str := ["entries", "ties", "pairs", "onward", "seen", "order", "entry", "backward", "told", "tie", "start", "end"]
theorem scPieces : FnScope NPc ["entries", "ties"] (defScope sPieces) := ⟨rfl, rfl, rfl, by decide +kernel, rfl, by decide +kernel, by decide +kernel⟩
def spPieces : Sp := fun vs H Q _ => ∃ (E T : Addr) (es : List Nat) (us : List V) (ts : List Tie), vs = [.ref E, .ref T] ∧ H E = some (.lst (es.map vI)) ∧ H T = some (.lst us) ∧ Ties H us ts ∧ es.Nodup ∧ es.length ≤ 400 ∧ ts.length ≤ 900 ∧
  ∀ H' r us', Same H H' → H r = none → H' r = some (.lst us') → (∀ b, .ref b ∈ us' → H b = none ∧ b ≠ r) → Lss H' us' (Gr.pieces es (ts.map pr2)) → Q (.ref r) H'
section
variable {P : Program} {w : World} {K : PySem.W.Frag} {mg : Str → Option Value} {base : Heap} {f f1 f2 f3 : Addr} {fd d1 d2 d3 : FuncData}
theorem ok_pieces (F : Fun K "pieces" "pieces" sPieces f fd) (AM : Cl P w K mg base CX0 1 "ties_among" ["entries", "ties"] spAmong f1 d1) (EN : Cl P w K mg base CX0 1 "ends_by_starts" ["entries", "pairs"] spEnds f2 d2) (AF : Cl P w K mg base CX0 1 "all_from" ["entry", "ends", "seen"] spAllFrom f3 d3)
    (mv : mg "reversed" = none) (ms : mg "sorted" = none) : FnOk P w K mg base CX0 2 f fd ["entries", "ties"] spPieces := by
  refine F.ok scPieces (fun vs H Q E h => ?_) (fun cdv A outer s H vs Q E hr h => ?_)
  · obtain ⟨E, T, es, us, ts, rfl, _⟩ := h
    rfl
  · obtain ⟨E', T, es, us, ts, rfl, hE, hT, tu, nd, el, tl, q⟩ := h
    refine ⟨_, pss_cons (ps_setLc (i := 2) (own := [("tie", 9)]) (g := gName 9) (tt := tYes) rfl scPieces.nd rfl rfl (sw_true rfl rfl rfl rfl) (pi_list (pe_call AM.ok hr (by rfl) AM.g AM.kp AM.bd .nil pass0 (pa_cons (pv 0) (pa_cons (pv 1) pa_nil)))) (blkOk_by (own := [("tie", 9)]) (N := NPc) (sc := defScope sPieces) (by decide +kernel))
        (fun _ _ _ _ _ => pg_name (i := 9) scPieces.nd rfl (Or.inl rfl)) (fun _ _ _ _ _ => pts_nil)
        (fun _ _ _ _ _ => pe_tup (pa_cons (pe_ix (ix_tupK (K := K) rfl) (pv 9) pe_int (fun _ _ => rfl)) (pa_cons (pe_ix (ix_tupK (K := K) rfl) (pv 9) pe_int (fun _ _ => rfl)) pa_nil))))
      (pss_cons (ps_set (i := 3) scPieces.nd rfl (.inl rfl) (pe_call EN.ok hr (by rfl) EN.g EN.kp EN.bd .nil pass0 (pa_cons (pv 0) (pa_cons (pv 2) pa_nil))))
      (pss_cons (ps_set (i := 4) scPieces.nd rfl (.inl rfl) pe_dnewK)
      (pss_cons (ps_set (i := 5) scPieces.nd rfl (.inl rfl) (pe_lst pa_nil))
      (pss_cons (ps_for PassesOwn.never rfl (pi_list (pv 0)) (pg_name (i := 6) scPieces.nd rfl (Or.inl rfl))
        (pss_one (ps_if (pt_cmp (pc_dnotin (u1 hr) (pv 6) (pv 4)) (by rfl))
          (pss_one (ps_expr (pe_bm PySem.F.plainAttrs_list PySem.F.slot_list_extend PySem.F.type_list_extend mt_extend (pv 5) (pa_cons (pe_call AF.ok hr (by rfl) AF.g AF.kp AF.bd .nil pass0 (pa_cons (pv 6) (pa_cons (pv 3) (pa_cons (pv 4) pa_nil)))) pa_nil)))) pss_nil)))
      (pss_cons (ps_set (i := 7) scPieces.nd rfl (.inl rfl) (pe_call EN.ok hr (by rfl) EN.g EN.kp EN.bd .nil pass0 (pa_cons (pv 0) (pa_cons
          (pe_lc (own := [("start", 10), ("end", 11)]) (g := gTup K 2 (gCons (gName 10) (gCons (gName 11) gNil))) (tt := tYes) rfl scPieces.nd (pi_list (pv 2)) (blkOk_by (own := [("start", 10), ("end", 11)]) (N := NPc) (sc := defScope sPieces) (by decide +kernel))
            (fun _ _ _ _ _ => pg_tup (by rfl) (pgs_cons (pg_name (i := 10) scPieces.nd rfl (.inl rfl)) (pgs_cons (pg_name (i := 11) scPieces.nd rfl (.inl rfl)) pgs_nil))) (fun _ _ _ _ _ => pts_nil)
            (fun _ _ _ _ _ => pe_tup (pa_cons (pv 11) (pa_cons (pv 10) pa_nil)))) pa_nil))))
      (pss_cons (ps_set (i := 4) scPieces.nd rfl (.inl rfl) pe_dnewK)
      (pss_cons (ps_set (i := 8) scPieces.nd rfl (.inl rfl) (pe_lst pa_nil))
      (pss_cons (ps_for PassesOwn.never rfl (pi_reversed (by rfl) mv (pa_cons (pv 5) pa_nil)) (pg_name (i := 6) scPieces.nd rfl (Or.inl rfl))
        (pss_one (ps_if (pt_cmp (pc_dnotin (u1 hr) (pv 6) (pv 4)) (by rfl))
          (pss_one (ps_expr (pe_bm PySem.F.plainAttrs_list PySem.F.slot_list_append PySem.F.type_list_append mt_append (pv 8) (pa_cons (pe_callB cr_sortedI (by rfl) ms (by decide +kernel) (pa_cons (pe_call AF.ok hr (by rfl) AF.g AF.kp AF.bd .nil pass0 (pa_cons (pv 6) (pa_cons (pv 7) (pa_cons (pv 4) pa_nil)))) pa_nil)) pa_nil)))) pss_nil)))
      (pss_one (ps_ret (pv 8))))))))))), ?_⟩
    -- pairs
    refine ⟨_, rfl, _, rfl, E', T, es, us, ts, rfl, hE, hT, tu, by omega, tl, fun H1 r1 us1 s1 hr1 e1 tu1 => ?_⟩
    refine ⟨r1, rfl, ⟨_, SqL.of e1⟩, fun D hD => ?_⟩
    have l1 := tu1.len
    have fl1 : (ts.filter (tIn es)).length ≤ ts.length := List.length_filter_le _ _
    refine lc_list (K := K) (xs := us1) (fun i H' => ∃ ps, H' D = some (.lst ps) ∧ Prs H' ps (((ts.filter (tIn es)).take i).map pr2) ∧ Same H1 H')
      ⟨[], upd_same, .nil, same_new hD⟩ (fun i H' _ hp => ?_) (fun i x H2 hx hp => ?_) (fun H2 hp => ?_)
    · obtain ⟨_, _, _, sm⟩ := hp
      exact SqL.of (sm _ _ e1)
    · obtain ⟨ps, e2, pr, sm⟩ := hp
      obtain ⟨t, l, a, b, ls, rfl, et, ht, hl⟩ := tu1.at hx
      have il : i < us1.length := (List.getElem?_eq_some_iff.mp hx).1
      have lp := pr.len
      rw [List.length_map, List.length_take] at lp
      refine ⟨rfl, ?_⟩
      refine ⟨_, rfl, t, _, 0, _, rfl, rfl, SqT.of (sm _ _ ht), atI_nat (j := 0) rfl, _, rfl, t, _, 1, _, rfl, rfl, SqT.of (sm _ _ ht), atI_nat (j := 1) rfl, by show 2 ≤ sizeLine; decide, fun t2 ht2 => ?_⟩
      have s3 := same_new (o := .tup [.int (a : Nat), .int (b : Nat)]) ht2
      have e3 := s3 _ _ e2
      have t4 := tk_lst (o := .lst (ps ++ [.ref t2])) e3
      refine ⟨ps, e3, small1000 (by omega), ps ++ [.ref t2], upd_same, ?_, keep_new hD (sm.trans s3)⟩
      rw [take_map et]
      exact ((pr.tk (tk_same s3)).app (.cons upd_same .nil)).tk t4
    obtain ⟨ps, e2, pr, sm⟩ := hp
    rw [l1, List.take_length, ← among_of] at pr
    have sH2 := s1.trans sm
    have lam : (among es (ts.map pr2)).length ≤ 900 := by
      rw [among_of, List.length_map]
      omega
    have cla : ∀ x ∈ es, ∀ y ∈ adjOf (among es (ts.map pr2)) x, y ∈ es := fun x _ y hy => (among_mem.mp (adj_mem.mp hy)).2.2
    have clb : ∀ x ∈ es, ∀ y ∈ adjOf (swp (among es (ts.map pr2))) x, y ∈ es := fun x _ y hy => (among_mem.mp (swp_mem.mp (adj_mem.mp hy))).2.1
    have piE : Gr.pieces es (ts.map pr2) = (goBack es (adjOf (swp (among es (ts.map pr2)))) (goAll es (adjOf (among es (ts.map pr2))) es ([], [])).1.reverse ([], [])).1 := rfl
    rw [piE] at q
    have subA : ∀ p ∈ among es (ts.map pr2), p.1 ∈ es := fun p hp => (among_mem.mp (show (p.1, p.2) ∈ _ from hp)).2.1
    have subB : ∀ p ∈ swp (among es (ts.map pr2)), p.1 ∈ es := fun p hp => (among_mem.mp (swp_mem.mp (show (p.1, p.2) ∈ _ from hp))).2.2
    generalize among es (ts.map pr2) = am at *
    -- onward
    refine ⟨_, rfl, _, rfl, E', D, es, ps, am, rfl, sH2 _ _ hE, e2, pr, nd, subA, by omega, lam, fun H3 ro s3 hro en => ?_⟩
    have sH3 := sH2.trans s3
    intro S hS
    have s4 := same_new (o := .dK []) hS
    refine ⟨by show 0 ≤ sizeLine; decide, fun O hO => ?_⟩
    have s5 := same_new (o := .lst []) hO
    have SO : S ≠ O := fun e => by
      rw [← e, upd_same] at hO
      cases hO
    have hO3 : H3 O = none := free_same s4 hO
    have rS : ro ≠ S := fun e => by
      obtain ⟨al, h, _⟩ := en
      rw [e, hS] at h
      cases h
    have ml : (es.map vI).length = es.length := List.length_map ..
    have eS5 : upd (upd H3 S (.dK [])) O (.lst []) S = some (.dK []) := by
      rw [upd_ne SO]
      exact upd_same
    refine ⟨_, rfl, E', rfl, ⟨_, SqL.of ((s4.trans s5) _ _ (sH3 _ _ hE))⟩, for_list (K := K) (xs := es.map vI) (fun i σ H' => ∃ x6, σ = [some (.ref E'), some (.ref T), some (.ref D), some (.ref ro), some (.ref S), some (.ref O), x6, none, none, none, none, none] ∧ Same H3 H' ∧ Kys es (goAll es (adjOf am) (es.take i) ([], [])).2 ∧
        H' S = some (.dK ((goAll es (adjOf am) (es.take i) ([], [])).2.map kvT)) ∧ H' O = some (.lst ((goAll es (adjOf am) (es.take i) ([], [])).1.map vI)))
      ⟨_, rfl, s4.trans s5, ⟨List.nodup_nil, fun x hx => absurd hx List.not_mem_nil⟩, eS5, upd_same⟩ (fun i σ H' _ hp => ?_) (fun i x σ H6 hx hp => ?_) (fun σ H6 hp => ?_)⟩
    · obtain ⟨_, _, sm, _⟩ := hp
      exact SqL.of (sm _ _ (sH3 _ _ hE))
    · obtain ⟨x6, rfl, s6, ky, eS, eO⟩ := hp
      have il : i < es.length := by
        have := (List.getElem?_eq_some_iff.mp hx).1
        rw [ml] at this
        exact this
      rw [List.getElem?_map, List.getElem?_eq_getElem il] at hx
      cases hx
      have tk : es.take (i + 1) = es.take i ++ [es[i]] := by
        rw [List.take_add_one, List.getElem?_eq_getElem il]
        rfl
      have he : es[i] ∈ es := List.getElem_mem il
      have G := (goAll_ok (es := es) (adj := adjOf am) (r := es.take i) (O := []) (ks := []) cla (fun x hx => List.mem_of_mem_take hx) ⟨fun x => Iff.rfl, List.nodup_nil, fun x hx => absurd hx List.not_mem_nil, fun u hu => absurd hu List.not_mem_nil⟩).1
      rw [tk, goAll_snoc]
      generalize goAll es (adjOf am) (es.take i) ([], []) = go at *
      obtain ⟨od, ks⟩ := go
      dsimp only at *
      have lo := pig G.nd G.sub
      have lk := pig ky.nd ky.sub
      refine ⟨_, rfl, _, rfl, S, _, rfl, (show DGet H6 S (kV (Sum.inl ((es[i] : Nat) : Int))) _ from DGet.k eS), _, rfl, ?_⟩
      rw [val_ks]
      by_cases c : es[i] ∈ ks
      · rw [if_pos c, if_pos c]
        exact iteF ⟨_, rfl, s6, ky, eS, eO⟩
      · rw [if_neg c, if_neg c]
        refine iteT ?_
        have h0 : ∀ x ∈ ks, x ∈ es := ky.sub
        obtain ⟨W, _⟩ := dfs_went cla he h0 c
        have lw : (dfs es (adjOf am) ks es[i]).ord.length ≤ es.length := pig W.nd fun x hx => (dfs_went cla he h0 c).2 x ((W.keys x).mpr (.inr hx))
        refine ⟨_, rfl, .inl ⟨rfl, _, SqL.of eO⟩, _, rfl, _, rfl, _, rfl, es[i], ro, S, es, ks, adjOf am, rfl, en.same s6, eS, rS, cla, he, h0, c, by omega, by omega, fun H7 o k7 eS7 ho oS eo => ?_⟩
        have oO : o ≠ O := fun e => by
          rw [e, eO] at ho
          cases ho
        have eO7 := k7 _ _ SO.symm eO
        refine ⟨O, o, _, _, rfl, rfl, eO7, eo, Nat.le_of_lt (small1000 (by rw [List.length_map, List.length_map]; omega)), ?_⟩
        have s7 : Same H3 H7 := fun b u e => k7 _ _ (ne_of_none e hS) (s6 _ _ e)
        refine ⟨_, rfl, keep_new hO3 s7, kys_dfs cla he ky c (nd_dfs ky.nd c), ?_, ?_⟩
        · rw [upd_ne SO]
          exact eS7
        · rw [upd_same, List.map_append]
    obtain ⟨x6, rfl, s6, ky, eS, eO⟩ := hp
    rw [ml, List.take_length] at ky eS eO
    have G := (goAll_ok (es := es) (adj := adjOf am) (r := es) (O := []) (ks := []) cla (fun x hx => hx) ⟨fun x => Iff.rfl, List.nodup_nil, fun x hx => absurd hx List.not_mem_nil, fun u hu => absurd hu List.not_mem_nil⟩).1
    generalize goAll es (adjOf am) es ([], []) = go at *
    obtain ⟨od, ks⟩ := go
    dsimp only at *
    have lo := pig G.nd G.sub
    -- backward
    have e26 : H6 D = some (.lst ps) := s6 _ _ (s3 _ _ e2)
    have pr6 := (pr.tk (tk_same s3)).tk (tk_same s6)
    have lpr := pr.len
    refine ⟨_, rfl, _, rfl, D, rfl, ⟨_, SqL.of e26⟩, fun D2 hD2 => ?_⟩
    refine lc_list (K := K) (xs := ps) (fun i H' => ∃ qs, H' D2 = some (.lst qs) ∧ Prs H' qs ((am.take i).map fun p => (p.2, p.1)) ∧ Same H6 H')
      ⟨[], upd_same, .nil, same_new hD2⟩ (fun i H' _ hp => ?_) (fun i x H7 hx hp => ?_) (fun H7 hp => ?_)
    · obtain ⟨_, _, _, sm⟩ := hp
      exact SqL.of (sm _ _ e26)
    · obtain ⟨qs, e7, pq, s7⟩ := hp
      obtain ⟨t, a, b, rfl, et, ht⟩ := pr6.at hx
      have il : i < ps.length := (List.getElem?_eq_some_iff.mp hx).1
      have lp := pq.len
      rw [List.length_map, List.length_take] at lp
      refine ⟨t, _, rfl, SqT.of (s7 _ _ ht), rfl, _, _, rfl, _, _, rfl, rfl, rfl, ?_⟩
      refine ⟨_, rfl, _, rfl, by show 2 ≤ sizeLine; decide, fun t2 ht2 => ?_⟩
      have s8 := same_new (o := .tup [.int (b : Nat), .int (a : Nat)]) ht2
      have e8 := s8 _ _ e7
      have t9 := tk_lst (o := .lst (qs ++ [.ref t2])) e8
      refine ⟨qs, e8, small1000 (by omega), qs ++ [.ref t2], upd_same, ?_, keep_new hD2 (s7.trans s8)⟩
      rw [take_map et]
      exact ((pq.tk (tk_same s8)).app (.cons upd_same .nil)).tk t9
    obtain ⟨qs, e7, pq, s7⟩ := hp
    rw [lpr, List.take_length] at pq
    have sH7 := (sH3.trans s6).trans s7
    have lsw : (swp am).length ≤ 900 := by
      unfold swp
      rw [List.length_map]
      exact lam
    refine ⟨E', D2, es, qs, swp am, rfl, sH7 _ _ hE, e7, pq, nd, subB, by omega, lsw, fun H8 rb s8 hrb enb => ?_⟩
    have eO8 : H8 O = some (.lst (od.map vI)) := s8 _ _ (s7 _ _ eO)
    have sH8 := sH7.trans s8
    intro S2 hS2
    have s9 := same_new (o := .dK []) hS2
    refine ⟨by show 0 ≤ sizeLine; decide, fun O2 hO2 => ?_⟩
    have s10 := same_new (o := .lst []) hO2
    have SO2 : S2 ≠ O2 := fun e => by
      rw [← e, upd_same] at hO2
      cases hO2
    have hO28 : H8 O2 = none := free_same s9 hO2
    have hO20 : H O2 = none := free_same sH8 hO28
    have rS2 : rb ≠ S2 := fun e => by
      obtain ⟨al, h, _⟩ := enb
      rw [e, hS2] at h
      cases h
    have eS10 : upd (upd H8 S2 (.dK [])) O2 (.lst []) S2 = some (.dK []) := by
      rw [upd_ne SO2]
      exact upd_same
    have mo : (od.map vI).length = od.length := List.length_map ..
    refine ⟨_, rfl, O, od.map vI, rfl, SqL.of ((s9.trans s10) _ _ eO8), ?_⟩
    rw [mo]
    refine walkF (J := Itv K O od.length) (n := od.length) (fun i σ H' => ∃ x6 us', σ = [some (.ref E'), some (.ref T), some (.ref D), some (.ref ro), some (.ref S2), some (.ref O), x6, some (.ref rb), some (.ref O2), none, none, none] ∧ Same H8 H' ∧ Kys es (goBack es (adjOf (swp am)) (od.reverse.take i) ([], [])).2 ∧
        H' S2 = some (.dK ((goBack es (adjOf (swp am)) (od.reverse.take i) ([], [])).2.map kvT)) ∧ H' O2 = some (.lst us') ∧ (∀ b, .ref b ∈ us' → H8 b = none ∧ b ≠ S2 ∧ b ≠ O2) ∧ Lss H' us' (goBack es (adjOf (swp am)) (od.reverse.take i) ([], [])).1 ∧ us'.length ≤ i)
      ⟨_, [], rfl, s9.trans s10, ⟨List.nodup_nil, fun x hx => absurd hx List.not_mem_nil⟩, eS10, upd_same, fun b hb => absurd hb List.not_mem_nil, .nil, Nat.le_refl _⟩ (fun i σ H' hi hp => ?_) (fun σ H' hp => Nat.le_refl _) (fun i x σ H9o H9 hi hp hy => ?_) (fun σ H9 hp => ?_)
    · obtain ⟨_, _, _, sm, _⟩ := hp
      exact ⟨hi, _, _, SqL.of (sm _ _ eO8), List.getElem?_eq_getElem (by rw [mo]; omega)⟩
    · obtain ⟨x6, us', rfl, s11, kyb, eSb, eOb, fr, ls, lu⟩ := hp
      obtain ⟨rfl, hy⟩ := hy
      have hx := hy _ (SqL.of (s11 _ _ eO8))
      have ir : od.length - 1 - i < od.length := by omega
      rw [List.getElem?_map, List.getElem?_eq_getElem ir] at hx
      cases hx
      have er : od.reverse[i]? = some (od[od.length - 1 - i]) := by
        rw [List.getElem?_reverse (by omega), List.getElem?_eq_getElem ir]
      have tk : od.reverse.take (i + 1) = od.reverse.take i ++ [od[od.length - 1 - i]] := by
        rw [List.take_add_one, er]
        rfl
      have he : od[od.length - 1 - i] ∈ es := G.sub _ (List.getElem_mem ir)
      generalize od[od.length - 1 - i] = e at *
      rw [tk, goBack_snoc]
      generalize goBack es (adjOf (swp am)) (od.reverse.take i) ([], []) = go at *
      obtain ⟨T9, kb⟩ := go
      dsimp only at *
      have lk := pig kyb.nd kyb.sub
      refine ⟨_, rfl, _, rfl, S2, _, rfl, (show DGet H9 S2 (kV (Sum.inl (e : Int))) _ from DGet.k eSb), _, rfl, ?_⟩
      rw [val_ks]
      by_cases c : e ∈ kb
      · rw [if_pos c, if_pos c]
        exact iteF ⟨_, _, rfl, s11, kyb, eSb, eOb, fr, ls, by omega⟩
      · rw [if_neg c, if_neg c]
        refine iteT ?_
        refine ⟨_, rfl, .inl ⟨rfl, _, SqL.of eOb⟩, _, rfl, _, rfl, _, rfl, e, rb, S2, es, kb, adjOf (swp am), rfl, enb.same s11, eSb, rS2, clb, he, kyb.sub, c, by omega, by omega, fun H12 o k12 eS12 ho oS eo => ?_⟩
        refine ⟨o, (dfs es (adjOf (swp am)) kb e).ord.map ci, rfl, by rw [← vI_map]; exact SqL.of eo, fun ns' pp perm ris hpp => ?_⟩
        rw [sorted_int perm ris]
        have eO12 := k12 _ _ SO2.symm eOb
        have s13 := same_new (o := .lst ((srt (dfs es (adjOf (swp am)) kb e).ord).map vI)) hpp
        have ppO : pp ≠ O2 := fun z => by
          rw [z, eO12] at hpp
          cases hpp
        have ppS : pp ≠ S2 := fun z => by
          rw [z, eS12] at hpp
          cases hpp
        have s12 : Same H8 H12 := fun b u z => k12 _ _ (ne_of_none z hS2) (s11 _ _ z)
        refine ⟨O2, us', _, rfl, rfl, s13 _ _ eO12, small1000 (by omega), ?_⟩
        refine ⟨_, us' ++ [.ref pp], rfl, keep_new hO28 (s12.trans s13), kys_dfs clb he kyb c (nd_dfs kyb.nd c), ?_, upd_same, fun b hb => ?_, ?_, by rw [List.length_append]; exact Nat.succ_le_succ lu⟩
        · rw [upd_ne SO2]
          exact s13 _ _ eS12
        · rcases List.mem_append.mp hb with hb | hb
          · exact fr b hb
          · cases List.mem_singleton.mp hb
            exact ⟨free_same s12 hpp, ppS, ppO⟩
        · refine Lss.app ?_ (.cons (by rw [upd_ne ppO]; exact upd_same) .nil)
          refine Lss.keep (p := S2) (q := O2) (fun b xs n1 n2 h => ?_) (fun z => (fr _ z).2.1 rfl) (fun z => (fr _ z).2.2 rfl) ls
          rw [upd_ne n2]
          exact s13 _ _ (k12 _ _ n1 h)
    · obtain ⟨x6, us', rfl, s11, kyb, eSb, eOb, fr, ls, lu⟩ := hp
      refine ⟨_, rfl, q H9 O2 us' (sH8.trans s11) hO20 eOb (fun b hb => ⟨free_same sH8 (fr b hb).1, (fr b hb).2.2⟩) ?_⟩
      have tl : od.reverse.take od.length = od.reverse := List.take_of_length_le (by rw [List.length_reverse]; exact Nat.le_refl _)
      rw [tl] at ls
      exact ls
end
end W34

namespace Gs
open PySem PySem.Spec PyProof.Rows L2
/-- xs != []: whatever the items are -/
theorem op_neNil {X : Cx} (hu : X.A.units < cLine) : OpR X (compareOp .NotEq) (fun x y H Q => ∃ a b xs, x = .ref a ∧ y = .ref b ∧ SqL X.K H a xs ∧ SqL X.K H b [] ∧ Q (.bl (decide (0 < xs.length))) H) := by
  intro pins s σ H x y v u Q I rx ry h
  obtain ⟨a, b, xs, rfl, rfl, ha, hb, q⟩ := h
  cases rx
  cases ry
  obtain ⟨its, r, ht, hz⟩ := I.list ha
  obtain ⟨its2, r2, ht2, hz2⟩ := I.list hb
  cases r2
  have hl := r.length
  by_cases c : 0 < xs.length
  · rw [decide_eq_true c] at q
    exact SeqAt.RcNeAt.lists_lengths ht.isList ht2.isList (by cases its with
      | nil => exact absurd c (by rw [hl]; exact Nat.lt_irrefl 0)
      | cons z zs => simp) hu X.prog X.w _ _ ⟨.bl true, H, I, rfl, q⟩
  · rw [decide_eq_false c] at q
    have e : its = [] := by
      cases its with
      | nil => rfl
      | cons z zs => exact absurd (show 0 < xs.length by rw [hl]; exact Nat.succ_pos _) c
    subst e
    exact SeqAt.RcNeAt.lists (e := fun _ => true) ht.isList ht2.isList rfl hu (fun j h1 => absurd h1 (Nat.not_lt_zero _)) X.prog X.w _ _ ⟨.bl false, H, I, rfl, q⟩
end Gs

namespace W34
open PySem PySem.Spec PyProof.Rows L2 Gs Gp Gr
/-! ### a pool, and what is taken of it -/
def Lf (H : Hp) (p : Addr) : Prop := ∃ x y : Int, H p = some (.lst [.int x, .int y]) ∧ 0 ≤ y ∧ y < 2147483647
theorem lf_ne {p b : Addr} {H : Hp} (hp : Lf H p) (h : H b = none) : p ≠ b := fun e => by
  obtain ⟨x, y, hp, _⟩ := hp
  rw [e, h] at hp
  cases hp
theorem lf_upd {p b : Addr} {H : Hp} {o : HO} (hp : Lf H p) (h : p ≠ b) : Lf (upd H b o) p := by
  obtain ⟨x, y, hp, hy⟩ := hp
  exact ⟨x, y, by rw [upd_ne h]; exact hp, hy⟩
theorem lf_same {p : Addr} {H H' : Hp} (lf : Lf H p) (s : Same H H') : Lf H' p := by
  obtain ⟨x, y, h, hy⟩ := lf
  exact ⟨x, y, s _ _ h, hy⟩
theorem tk_keep {H H' : Hp} {p : Addr} (k : Keep p H H') (hp : Lf H p) : TK H H' := fun b xs h => by
  obtain ⟨x, y, hp, _⟩ := hp
  exact k b _ (fun e => by rw [e, hp] at h; cases h) h
abbrev NPo : List Str := ["_law_script", "_law_k", "_law_cell", "_law_seed"]
theorem scPool : FnScope NPo ["_law_script", "_law_k"] (defScope sPool) := ⟨rfl, rfl, rfl, by decide +kernel, rfl, by decide +kernel, by decide +kernel⟩
theorem scTake : FnScope ["_law_pool_here", "_law_many", "_law_digit"] ["_law_pool_here", "_law_many"] (defScope sTake) := ⟨rfl, rfl, rfl, by decide +kernel, rfl, by decide +kernel, by decide +kernel⟩
def spPool (K : PySem.W.Frag) : Sp := fun vs H Q _ => ∃ (a : Addr) (ns : List Int) (k : Nat), vs = [.ref a, .int k] ∧ SqL K H a (ns.map V.int) ∧ ns.length ≤ 63 ∧ k ≤ 100 ∧ ∀ H' p, Same H H' → H p = none → Lf H' p → Q (.ref p) H'
def spTake : Sp := fun vs H Q _ => ∃ (p : Addr) (m : Nat), vs = [.ref p, .int m] ∧ Lf H p ∧ 0 < m ∧ m < 1000 ∧ ∀ H' (d : Nat), Keep p H H' → Lf H' p → d < m → Q (.int d) H'
section
variable {P : Program} {w : World} {K : PySem.W.Frag} {mg : Str → Option Value} {base : Heap} {f f1 f2 : Addr} {fd d1 d2 : FuncData} {k : Nat}
theorem ok_pool (F : Fun K "_law_pool" "_law_pool" sPool f fd) (ml : mg "len" = none) (mi : mg "int" = none) : FnOk P w K mg base CX0 (k + 1) f fd ["_law_script", "_law_k"] (spPool K) := by
  refine F.ok scPool (fun vs H Q E h => ?_) (fun cdv A outer s H vs Q E hr h => ?_)
  · obtain ⟨a, ns, k, rfl, _⟩ := h
    rfl
  · obtain ⟨a, ns, kk, rfl, hS, hn, hk, q⟩ := h
    refine ⟨_, pss_cons (ps_set (i := 2) scPool.nd rfl (.inl rfl) pe_int)
      (pss_join (ps_if (pt_cmpR (op_neNil hr.units0) (pv 0) (pe_lst pa_nil) (nomark _)) (pss_one (ps_set (i := 2) scPool.nd rfl (.inl rfl) (pe_ix ix_list (pv 0) (pe_op op_mod (pv 1) (pe_callB call_len_seq (by rfl) ml PySem.boot_len (pa_cons (pv 0) pa_nil))) (fun _ _ => rfl)))) pss_nil)
      (pss_join (ps_if (pt_cmpR op_ge (pv 1) (pe_callB call_len_seq (by rfl) ml PySem.boot_len (pa_cons (pv 0) pa_nil)) (nomark _))
        (pss_one (ps_set (i := 2) scPool.nd rfl (.inl rfl) (pe_ix ix_list (pe_lst (pa_cons (pe_op op_mod (pv 2) pe_int) (pa_cons (pe_op op_fdivW (pv 2) (pe_op op_pow pe_int pe_int)) pa_nil))) (pe_callTy call_int1 (by rfl) mi (by decide +kernel) (pa_cons (pe_cmpR op_ge (pv 2) (pe_op op_pow pe_int pe_int) (nomark _)) pa_nil)) (fun _ _ => rfl)))) pss_nil)
      (pss_cons (ps_set (i := 3) scPool.nd rfl (.inl rfl) (pe_op op_mod (pe_op op_mul (pe_op op_add (pe_op op_add (pe_op op_mod (pv 2) pe_int) (pe_op op_mul pe_int (pv 1))) pe_int) pe_int) pe_int))
      (pss_one (ps_ret (pe_lst (pa_cons (pe_op op_mul (pv 2) (pe_callTy call_int1 (by rfl) mi (by decide +kernel) (pa_cons (pe_cmpR op_ge (pv 2) (pe_op op_pow pe_int pe_int) (nomark _)) pa_nil))) (pa_cons (pv 3) pa_nil)))))))), ?_⟩
    refine ⟨fun σ H' => Same H H' ∧ ∃ c : Int, σ = [some (.ref a), some (.int kk), some (.int c), none], ?_, fun σ H1 hp => ?_⟩
    · refine ⟨_, rfl, by show 0 ≤ sizeLine; decide, fun B hB => ?_⟩
      have s1 := same_new (o := .lst []) hB
      have hS1 := s1.seq hS
      refine ⟨a, B, _, rfl, rfl, hS1, SqL.of upd_same, _, rfl, ?_⟩
      rw [List.length_map]
      by_cases c : 0 < ns.length
      · refine iteP (decide_eq_true c) ?_
        have z0 := Int.emod_nonneg (kk : Int) (show (ns.length : Int) ≠ 0 by omega)
        have z1 := Int.emod_lt_of_pos (kk : Int) (show (0 : Int) < (ns.length : Int) by omega)
        obtain ⟨j, hj⟩ : ∃ j : Nat, (kk : Int) % (ns.length : Int) = (j : Int) := ⟨((kk : Int) % (ns.length : Int)).toNat, by omega⟩
        have jl : j < ns.length := by omega
        refine ⟨_, rfl, _, rfl, _, rfl, a, _, rfl, .inl hS1, _, _, rfl, rfl, by rw [List.length_map]; omega, a, _, _, .int ns[j], rfl, rfl, hS1, ?_, ?_⟩
        · rw [List.length_map, hj]
          exact atI_nat (by rw [List.getElem?_map, List.getElem?_eq_getElem jl]; rfl)
        · exact ⟨s1, _, rfl⟩
      · exact iteN (decide_eq_false c) ⟨s1, _, rfl⟩
    obtain ⟨s1, c, rfl⟩ := hp
    refine ⟨fun σ H' => Same H H' ∧ ∃ c : Int, σ = [some (.ref a), some (.int kk), some (.int c), none], ?_, fun σ H2 hp => ?_⟩
    · refine ⟨_, rfl, _, rfl, a, _, rfl, .inl (s1.seq hS), _, _, rfl, rfl, _, rfl, ?_⟩
      refine ite2 (fun _ => ?_) (fun _ => ⟨s1, _, rfl⟩)
      refine ⟨_, rfl, _, _, rfl, rfl, by show (0 : Int) < 1000003; decide, _, rfl, 10, 18, rfl, rfl, ⟨by decide, by decide, by decide⟩, _, _, rfl, rfl, ⟨by decide, log_of (n := 100) (by decide) (by decide) (by decide)⟩, by show 2 ≤ sizeLine; decide, fun B hB => ?_⟩
      have s2 := s1.trans (same_new (o := .lst [.int (c % 1000003), .int (c / 10 ^ (18 : Int).toNat)]) hB)
      refine ⟨_, rfl, 10, 36, rfl, rfl, ⟨by decide, by decide, by decide⟩, _, _, rfl, rfl, .inr ⟨_, rfl, ?_⟩⟩
      cases decide ((10 : Int) ^ (36 : Int).toNat ≤ c) with
      | true => exact ⟨B, _, 1, _, rfl, rfl, SqL.of upd_same, atI_nat (j := 1) rfl, s2, _, rfl⟩
      | false => exact ⟨B, _, 0, _, rfl, rfl, SqL.of upd_same, atI_nat (j := 0) rfl, s2, _, rfl⟩
    obtain ⟨s2, c, rfl⟩ := hp
    refine ⟨_, rfl, _, _, rfl, rfl, by show (0 : Int) < 2147483629; decide, _, rfl, _, _, rfl, rfl, .inl ⟨by decide, by decide⟩, _, _, rfl, rfl, _, _, rfl, rfl, _, _, rfl, rfl, .inr ⟨by decide, by decide⟩, _, _, rfl, rfl, by show (0 : Int) < 2147483647; decide, ?_⟩
    have y0 := Int.emod_nonneg ((c % 2147483629 + 104729 * (kk : Int) + 11) * 48271) (show (2147483647 : Int) ≠ 0 by decide)
    have y1 := Int.emod_lt_of_pos ((c % 2147483629 + 104729 * (kk : Int) + 11) * 48271) (show (0 : Int) < 2147483647 by decide)
    refine ⟨_, rfl, _, rfl, 10, 18, rfl, rfl, ⟨by decide, by decide, by decide⟩, _, _, rfl, rfl, .inr ⟨_, rfl, ?_⟩⟩
    refine ⟨_, _, rfl, rfl, .inr (by split <;> exact ⟨by decide, by decide⟩), _, rfl, by show 2 ≤ sizeLine; decide, fun p hp => ?_⟩
    exact q _ p (s2.trans (same_new hp)) (free_same s2 hp) ⟨_, _, upd_same, y0, y1⟩
theorem ok_take (F : Fun K "_law_take" "_law_take" sTake f fd) : FnOk P w K mg base CX0 (k + 1) f fd ["_law_pool_here", "_law_many"] spTake := by
  refine F.ok scTake (fun vs H Q E h => ?_) (fun cdv A outer s H vs Q E hr h => ?_)
  · obtain ⟨p, m, rfl, _⟩ := h
    rfl
  · obtain ⟨p, m, rfl, ⟨x, y, hp, y0, y1⟩, m0, m1, q⟩ := h
    refine ⟨_, pss_cons (ps_if (pt_cmpR op_gt (pe_ix ix_list (pv 0) pe_int (fun _ _ => rfl)) pe_int (nomark _))
        (pss_cons (ps_set (i := 2) scTake.nd rfl (.inl rfl) (pe_op op_mod (pe_ix ix_list (pv 0) pe_int (fun _ _ => rfl)) (pv 1)))
        (pss_cons (ps_asg (pe_op op_fdivW (pe_ix ix_list (pv 0) pe_int (fun _ _ => rfl)) (pv 1)) (pg_sub (pv 0) pe_int set_list))
        (pss_one (ps_ret (pv 2))))) pss_nil)
      (pss_cons (ps_asg (pe_op op_mod (pe_op op_add (pe_op op_mul (pe_ix ix_list (pv 0) pe_int (fun _ _ => rfl)) pe_int) pe_int) pe_int) (pg_sub (pv 0) pe_int set_list))
      (pss_one (ps_ret (pe_op op_mod (pe_op op_fdivW (pe_op op_mod (pe_op op_mul (pe_ix ix_list (pv 0) pe_int (fun _ _ => rfl)) (pe_ix ix_list (pv 0) pe_int (fun _ _ => rfl))) pe_int) pe_int) (pv 1))))), ?_⟩
    have mz : (0 : Int) < (m : Int) := by omega
    refine ⟨_, rfl, p, _, 0, _, rfl, rfl, SqL.of hp, atI_nat (j := 0) rfl, _, _, rfl, rfl, _, rfl, ite2 (fun _ => ?_) (fun _ => ?_)⟩
    · have z0 := Int.emod_nonneg x (show (m : Int) ≠ 0 by omega)
      have z1 := Int.emod_lt_of_pos x mz
      obtain ⟨j, hj⟩ : ∃ j : Nat, x % (m : Int) = (j : Int) := ⟨(x % (m : Int)).toNat, by omega⟩
      refine ⟨_, rfl, p, _, 0, _, rfl, rfl, SqL.of hp, atI_nat (j := 0) rfl, _, rfl, _, _, rfl, rfl, mz, ?_⟩
      refine ⟨_, rfl, p, _, 0, _, rfl, rfl, SqL.of hp, atI_nat (j := 0) rfl, _, rfl, _, _, rfl, rfl, ⟨mz, log_of (n := 20) (by decide) (by decide) (by omega)⟩, ?_⟩
      refine ⟨_, rfl, p, _, 0, 0, rfl, rfl, hp, rfl, ?_⟩
      refine ⟨_, rfl, ?_⟩
      have fin := q (upd H p (.lst [.int (x / (m : Int)), .int y])) j keep_upd ⟨_, _, upd_same, y0, y1⟩ (by omega)
      rw [← hj] at fin
      exact fin
    · refine ⟨_, rfl, p, _, 1, _, rfl, rfl, SqL.of hp, atI_nat (j := 1) rfl, _, _, rfl, rfl, .inr ⟨by decide, by decide⟩, _, _, rfl, rfl, _, _, rfl, rfl, by show (0 : Int) < 2147483647; decide, ?_⟩
      refine ⟨_, rfl, p, _, 1, 1, rfl, rfl, hp, rfl, ?_⟩
      have y2 := Int.emod_nonneg (y * 48271 + 11) (show (2147483647 : Int) ≠ 0 by decide)
      have y3 := Int.emod_lt_of_pos (y * 48271 + 11) (show (0 : Int) < 2147483647 by decide)
      have e1 : upd H p (.lst ([V.int x, V.int y].set 1 (.int ((y * 48271 + 11) % 2147483647)))) p = some (.lst [.int x, .int ((y * 48271 + 11) % 2147483647)]) := upd_same
      refine ⟨_, rfl, p, _, 1, _, rfl, rfl, SqL.of e1, atI_nat (j := 1) rfl, _, rfl, p, _, 1, _, rfl, rfl, SqL.of e1, atI_nat (j := 1) rfl, _, _, rfl, rfl, .inl ⟨by omega, by omega⟩, _, _, rfl, rfl, by show (0 : Int) < 2147483629; decide, _, _, rfl, rfl, ⟨by decide, log_of (n := 20) (by decide) (by decide) (by decide)⟩, _, rfl, _, _, rfl, rfl, mz, ?_⟩
      have z0 := Int.emod_nonneg ((y * 48271 + 11) % 2147483647 * ((y * 48271 + 11) % 2147483647) % 2147483629 / 64) (show (m : Int) ≠ 0 by omega)
      have z1 := Int.emod_lt_of_pos ((y * 48271 + 11) % 2147483647 * ((y * 48271 + 11) % 2147483647) % 2147483629 / 64) mz
      obtain ⟨j, hj⟩ : ∃ j : Nat, (y * 48271 + 11) % 2147483647 * ((y * 48271 + 11) % 2147483647) % 2147483629 / 64 % (m : Int) = (j : Int) := ⟨((y * 48271 + 11) % 2147483647 * ((y * 48271 + 11) % 2147483647) % 2147483629 / 64 % (m : Int)).toNat, by omega⟩
      have fin := q (upd H p (.lst [.int x, .int ((y * 48271 + 11) % 2147483647)])) j keep_upd ⟨_, _, upd_same, y2, y3⟩ (by omega)
      rw [← hj] at fin
      exact fin
end
end W34

namespace Gs
/-! the mathematics of shares -/
def gI (a b : Int) : Int := ((Int.gcd a b : Nat) : Int)
def lw (t b : Int) : Int × Int :=
  if b < 0 then (t.fdiv (-(gI t b)), b.fdiv (-(gI t b))) else (t.fdiv (gI t b), b.fdiv (gI t b))
def Sh (x : Int × Int) : Prop := 0 < x.2 ∧ Int.gcd x.1 x.2 = 1
theorem lw_ex (t b : Int) (h : b ≠ 0) : ∃ (g : Int), 0 < g ∧ g = gI t b ∧ ∃ p q : Int, lw t b = (p, q) ∧ Sh (p, q) ∧
    ((b < 0 ∧ t = -g * p ∧ b = -g * q) ∨ (0 < b ∧ t = g * p ∧ b = g * q)) := by
  have g0 : 0 < Int.gcd t b := by
    rcases Nat.eq_zero_or_pos (Int.gcd t b) with e | e
    · exact absurd (Int.gcd_eq_zero_iff.mp e).2 h
    · exact e
  have gp : 0 < gI t b := by unfold gI; omega
  obtain ⟨t', ht⟩ : gI t b ∣ t := Int.gcd_dvd_left t b
  obtain ⟨b', hb⟩ : gI t b ∣ b := Int.gcd_dvd_right t b
  have cop : Int.gcd t' b' = 1 := by
    have e1 := Int.gcd_mul_left (gI t b) t' b'
    rw [← ht, ← hb] at e1
    have e2 : (gI t b).natAbs = Int.gcd t b := by unfold gI; omega
    rw [e2] at e1
    have e3 : Int.gcd t b * 1 = Int.gcd t b * Int.gcd t' b' := by rw [Nat.mul_one]; exact e1
    exact (Nat.eq_of_mul_eq_mul_left g0 e3).symm
  generalize eg : gI t b = g at *
  have gne : g ≠ 0 := by omega
  refine ⟨g, gp, rfl, ?_⟩
  by_cases hn : b < 0
  · refine ⟨-t', -b', ?_, ⟨?_, ?_⟩, .inl ⟨hn, ?_, ?_⟩⟩
    · unfold lw
      rw [if_pos hn, eg]
      have e1 : t = (-g) * (-t') := by rw [ht]; grind
      have e2 : b = (-g) * (-b') := by rw [hb]; grind
      have z1 : t.fdiv (-g) = -t' := by rw [e1]; exact Int.mul_fdiv_cancel_left _ (by omega)
      have z2 : b.fdiv (-g) = -b' := by rw [e2]; exact Int.mul_fdiv_cancel_left _ (by omega)
      rw [z1, z2]
    · show 0 < -b'
      by_cases e : b' < 0
      · omega
      · have := Int.mul_nonneg (Int.le_of_lt gp) (show 0 ≤ b' by omega)
        omega
    · show Int.gcd (-t') (-b') = 1
      rw [Int.neg_gcd, Int.gcd_neg]
      exact cop
    · rw [ht]; grind
    · rw [hb]; grind
  · have bp : 0 < b := by omega
    refine ⟨t', b', ?_, ⟨?_, cop⟩, .inr ⟨bp, ht, hb⟩⟩
    · unfold lw
      rw [if_neg hn, eg]
      have z1 : t.fdiv g = t' := by rw [ht]; exact Int.mul_fdiv_cancel_left _ gne
      have z2 : b.fdiv g = b' := by rw [hb]; exact Int.mul_fdiv_cancel_left _ gne
      rw [z1, z2]
    · show 0 < b'
      by_cases e : 0 < b'
      · exact e
      · have := Int.mul_nonneg (Int.le_of_lt gp) (show 0 ≤ -b' by omega)
        rw [Int.mul_neg] at this
        omega
theorem lw_sh {t b : Int} (h : b ≠ 0) : Sh (lw t b) := by
  obtain ⟨g, _, _, p, q, e, s, _⟩ := lw_ex t b h
  rw [e]; exact s
theorem lw_cross {t b : Int} (h : b ≠ 0) : (lw t b).1 * b = t * (lw t b).2 := by
  obtain ⟨g, _, _, p, q, e, s, ⟨_, e1, e2⟩ | ⟨_, e1, e2⟩⟩ := lw_ex t b h
  · rw [e]; show p * b = t * q; rw [e1, e2]; grind
  · rw [e]; show p * b = t * q; rw [e1, e2]; grind
theorem abs_le_mul {g p : Int} (h : 0 < g) : p.natAbs ≤ (g * p).natAbs := by
  rw [Int.natAbs_mul]
  exact Nat.le_mul_of_pos_left _ (by omega)
theorem lw_le {t b : Int} (h : b ≠ 0) : (lw t b).1.natAbs ≤ t.natAbs ∧ (lw t b).2.natAbs ≤ b.natAbs := by
  obtain ⟨g, gp, _, p, q, e, s, ⟨_, e1, e2⟩ | ⟨_, e1, e2⟩⟩ := lw_ex t b h
  · rw [e]
    have x1 : t = -(g * p) := by rw [e1]; grind
    have x2 : b = -(g * q) := by rw [e2]; grind
    show p.natAbs ≤ _ ∧ q.natAbs ≤ _
    rw [x1, x2, Int.natAbs_neg, Int.natAbs_neg]
    exact ⟨abs_le_mul gp, abs_le_mul gp⟩
  · rw [e, e1, e2]
    exact ⟨abs_le_mul gp, abs_le_mul gp⟩
theorem cop_dvd {p q r : Int} (c : Int.gcd p q = 1) (d : q ∣ p * r) : q ∣ r := by
  have d' : q.natAbs ∣ p.natAbs * r.natAbs := by
    rw [← Int.natAbs_mul]
    exact Int.natAbs_dvd_natAbs.mpr d
  have c' : Nat.Coprime q.natAbs p.natAbs := by
    have e : Nat.gcd p.natAbs q.natAbs = 1 := c
    rw [Nat.gcd_comm] at e
    exact e
  exact Int.natAbs_dvd_natAbs.mp (c'.dvd_of_dvd_mul_left d')
theorem sh_eq {x y : Int × Int} (hx : Sh x) (hy : Sh y) (h : x.1 * y.2 = y.1 * x.2) : x = y := by
  obtain ⟨p, q⟩ := x
  obtain ⟨r, s⟩ := y
  obtain ⟨q0, c1⟩ := hx
  obtain ⟨s0, c2⟩ := hy
  have h : p * s = r * q := h
  have q0 : 0 < q := q0
  have s0 : 0 < s := s0
  have c1 : Int.gcd p q = 1 := c1
  have c2 : Int.gcd r s = 1 := c2
  have d1 : q ∣ s := cop_dvd c1 ⟨r, by rw [h]; grind⟩
  have d2 : s ∣ q := cop_dvd c2 ⟨p, by rw [← h]; grind⟩
  have e : q = s := Int.le_antisymm (Int.le_of_dvd s0 d1) (Int.le_of_dvd q0 d2)
  subst e
  have e2 : p = r := Int.eq_of_mul_eq_mul_right (by omega) h
  rw [e2]
theorem lw_eq {t b t' b' : Int} (h : b ≠ 0) (h' : b' ≠ 0) (e : t * b' = t' * b) : lw t b = lw t' b' := by
  have c := lw_cross (t := t) h
  have c' := lw_cross (t := t') h'
  have s := lw_sh (t := t) h
  have s' := lw_sh (t := t') h'
  generalize lw t b = x at *
  generalize lw t' b' = y at *
  refine sh_eq s s' ?_
  have n : b * b' ≠ 0 := Int.mul_ne_zero h h'
  refine Int.eq_of_mul_eq_mul_right n ?_
  have a1 : x.1 * y.2 * (b * b') = t * x.2 * (y.2 * b') := by rw [← c]; grind
  have a2 : y.1 * x.2 * (b * b') = t' * y.2 * (x.2 * b) := by rw [← c']; grind
  rw [a1, a2]
  have a3 : t * x.2 * (y.2 * b') = t * b' * (x.2 * y.2) := by grind
  have a4 : t' * y.2 * (x.2 * b) = t' * b * (x.2 * y.2) := by grind
  rw [a3, a4, e]
theorem lw_id {x : Int × Int} (h : Sh x) : lw x.1 x.2 = x := by
  have n : x.2 ≠ 0 := by have := h.1; omega
  exact sh_eq (lw_sh n) h (lw_cross n)
def pl (x y : Int × Int) : Int × Int := lw (x.1 * y.2 + y.1 * x.2) (x.2 * y.2)
def tm (x y : Int × Int) : Int × Int := lw (x.1 * y.1) (x.2 * y.2)
def ng (x : Int × Int) : Int × Int := (-x.1, x.2)
theorem Sh.ne {x : Int × Int} (h : Sh x) : x.2 ≠ 0 := by have := h.1; omega
theorem Sh.ng {x : Int × Int} (h : Sh x) : Sh (ng x) := ⟨h.1, by show Int.gcd (-x.1) x.2 = 1; rw [Int.neg_gcd]; exact h.2⟩
theorem mul_ne {a b : Int} (h : a ≠ 0) (h' : b ≠ 0) : a * b ≠ 0 := Int.mul_ne_zero h h'
theorem pl_sh {x y : Int × Int} (hx : Sh x) (hy : Sh y) : Sh (pl x y) := lw_sh (mul_ne hx.ne hy.ne)
theorem pl_same {x y : Int × Int} (hx : Sh x) (hy : Sh y) (e : x.2 = y.2) : lw (x.1 + y.1) x.2 = pl x y :=
  lw_eq hx.ne (mul_ne hx.ne hy.ne) (by rw [← e]; grind)
theorem pl3 {x y z : Int × Int} (hx : Sh x) (hy : Sh y) (hz : Sh z) :
    pl (pl x y) z = lw (x.1 * y.2 * z.2 + y.1 * x.2 * z.2 + z.1 * x.2 * y.2) (x.2 * y.2 * z.2) := by
  have n := mul_ne hx.ne hy.ne
  have c := lw_cross (t := x.1 * y.2 + y.1 * x.2) n
  have s := pl_sh hx hy
  refine lw_eq (mul_ne s.ne hz.ne) (mul_ne n hz.ne) ?_
  have e : pl x y = lw (x.1 * y.2 + y.1 * x.2) (x.2 * y.2) := rfl
  rw [← e] at c
  generalize pl x y = u at *
  have a1 : (u.1 * z.2 + z.1 * u.2) * (x.2 * y.2 * z.2) = u.1 * (x.2 * y.2) * (z.2 * z.2) + z.1 * u.2 * (x.2 * y.2 * z.2) := by grind
  rw [a1, c]
  grind
theorem pl_rc {x y z : Int × Int} (hx : Sh x) (hy : Sh y) (hz : Sh z) : pl (pl x y) z = pl (pl x z) y := by
  rw [pl3 hx hy hz, pl3 hx hz hy]
  congr 1 <;> grind
theorem sh0 : Sh (0, 1) := by constructor <;> decide
theorem pl_0 {s : Int × Int} (h : Sh s) : pl (0, 1) s = s := by
  have e : pl (0, 1) s = lw s.1 s.2 := by
    unfold pl
    congr 1
    · show 0 * s.2 + s.1 * 1 = s.1; grind
    · show 1 * s.2 = s.2; grind
  rw [e]
  exact lw_id h
def sumS (a : Int × Int) (l : List (Int × Int)) : Int × Int := l.foldl pl a
theorem sum_sh : ∀ (l : List (Int × Int)) (a : Int × Int), Sh a → (∀ x ∈ l, Sh x) → Sh (sumS a l)
  | [], _, h, _ => h
  | x :: l, a, h, hl => sum_sh l (pl a x) (pl_sh h (hl x List.mem_cons_self)) fun y hy => hl y (List.mem_cons_of_mem _ hy)
theorem sum_rc : ∀ (l : List (Int × Int)) (a s : Int × Int), Sh a → Sh s → (∀ x ∈ l, Sh x) → sumS (pl a s) l = pl (sumS a l) s
  | [], _, _, _, _, _ => rfl
  | x :: l, a, s, ha, hs, hl => by
    have hx := hl x List.mem_cons_self
    show sumS (pl (pl a s) x) l = pl (sumS (pl a x) l) s
    rw [pl_rc ha hs hx]
    exact sum_rc l (pl a x) s (pl_sh ha hx) hs fun y hy => hl y (List.mem_cons_of_mem _ hy)
theorem sum_start {l : List (Int × Int)} {s : Int × Int} (hs : Sh s) (hl : ∀ x ∈ l, Sh x) : sumS s l = pl (sumS (0, 1) l) s := by
  have e := sum_rc l (0, 1) s sh0 hs hl
  rw [pl_0 hs] at e
  exact e
/-! how great they may be -/
def Bd (n : Nat) (x : Int × Int) : Prop := x.1.natAbs < 2 ^ n ∧ x.2.natAbs < 2 ^ n
theorem mul_bd {a b : Int} {n m : Nat} (ha : a.natAbs < 2 ^ n) (hb : b.natAbs < 2 ^ m) : (a * b).natAbs < 2 ^ (n + m) := by
  rw [Int.natAbs_mul, Nat.pow_add]
  exact Nat.mul_lt_mul'' ha hb
theorem add_bd {a b : Int} {n : Nat} (ha : a.natAbs < 2 ^ n) (hb : b.natAbs < 2 ^ n) : (a + b).natAbs < 2 ^ (n + 1) := by
  rw [Nat.pow_succ]
  have := Int.natAbs_add_le a b
  omega
theorem bd_mono {a : Int} {n m : Nat} (ha : a.natAbs < 2 ^ n) (h : n ≤ m) : a.natAbs < 2 ^ m := Nat.lt_of_lt_of_le ha (Nat.pow_le_pow_right (by decide) h)
theorem Bd.mono {x : Int × Int} {n m : Nat} (h : Bd n x) (hm : n ≤ m) : Bd m x := ⟨bd_mono h.1 hm, bd_mono h.2 hm⟩
theorem lw_bd {t b : Int} {n : Nat} (h : b ≠ 0) (h1 : t.natAbs < 2 ^ n) (h2 : b.natAbs < 2 ^ n) : Bd n (lw t b) :=
  ⟨Nat.lt_of_le_of_lt (lw_le h).1 h1, Nat.lt_of_le_of_lt (lw_le h).2 h2⟩
theorem pl_bd {x y : Int × Int} {n m : Nat} (hx : Sh x) (hy : Sh y) (b1 : Bd n x) (b2 : Bd m y) : Bd (n + m + 1) (pl x y) := by
  refine lw_bd (mul_ne hx.ne hy.ne) (add_bd (mul_bd b1.1 b2.2) ?_) (bd_mono (mul_bd b1.2 b2.2) (by omega))
  have := mul_bd b2.1 b1.2
  rw [Nat.add_comm m n] at this
  exact this
theorem sum_bd : ∀ (l : List (Int × Int)) (a : Int × Int) (n : Nat), Sh a → Bd n a → (∀ x ∈ l, Sh x ∧ Bd 70 x) → Bd (n + 71 * l.length) (sumS a l)
  | [], _, _, _, b, _ => b
  | x :: l, a, n, h, b, hl => by
    have hx := hl x List.mem_cons_self
    have z := sum_bd l (pl a x) (n + 70 + 1) (pl_sh h hx.1) (pl_bd h hx.1 b hx.2) fun y hy => hl y (List.mem_cons_of_mem _ hy)
    have e : n + 70 + 1 + 71 * l.length = n + 71 * (x :: l).length := by rw [List.length_cons]; omega
    rw [e] at z
    exact z
/-! the greatest number that divides both, by turns -/
theorem gcd_turn {a b : Int} (ha : 0 ≤ a) (hb : 0 < b) : Int.gcd b (a.fmod b) = Int.gcd a b := by
  rw [Int.fmod_eq_emod_of_nonneg _ (by omega)]
  show Nat.gcd b.natAbs (a % b).natAbs = Nat.gcd a.natAbs b.natAbs
  have e : (a % b).natAbs = a.natAbs % b.natAbs := by
    rw [Int.natAbs_emod_of_nonneg ha]
  rw [e, Nat.gcd_comm a.natAbs b.natAbs, Nat.gcd_rec b.natAbs a.natAbs, Nat.gcd_comm]
theorem gI_abs {a b : Int} : gI (if a < 0 then -a else a) (if b < 0 then -b else b) = gI a b := by
  unfold gI
  congr 1
  show Nat.gcd _ _ = Nat.gcd _ _
  have e : ∀ x : Int, (if x < 0 then -x else x).natAbs = x.natAbs := fun x => by split <;> omega
  rw [e a, e b]
theorem gI_bd {a b : Int} {n : Nat} (h : b ≠ 0) (hb : b.natAbs < 2 ^ n) : 0 < gI a b ∧ (gI a b).natAbs < 2 ^ n := by
  have g0 : 0 < Int.gcd a b := by
    rcases Nat.eq_zero_or_pos (Int.gcd a b) with e | e
    · exact absurd (Int.gcd_eq_zero_iff.mp e).2 h
    · exact e
  have d : Int.gcd a b ∣ b.natAbs := Nat.gcd_dvd_right _ _
  have l := Nat.le_of_dvd (by omega) d
  unfold gI
  constructor
  · omega
  · have e : ((Int.gcd a b : Nat) : Int).natAbs = Int.gcd a b := Int.natAbs_natCast _
    rw [e]
    omega
theorem lw_1 (t : Int) : lw t 1 = (t, 1) := by
  unfold lw gI
  rw [if_neg (by decide), Int.gcd_one]
  simp
end Gs

namespace Sf
open PySem PySem.Spec PyProof.Rows L2
/-! ### data of ints, texts and tuples: == is being the same -/
mutual
def plainD : PyData → Bool
  | .int _ => true
  | .str x => PyData.strOk x
  | .tuple xs => plainAll xs
  | _ => false
def plainAll : List PyData → Bool
  | [] => true
  | x :: xs => plainD x && plainAll xs
end
mutual
theorem plain_lay : ∀ d : PyData, plainD d = true → d.canLay0 = true
  | .int _, _ => by simp [PyData.canLay0]
  | .str x, h => by simpa [PyData.canLay0, plainD] using h
  | .tuple xs, h => by
    rw [plainD] at h
    rw [PyData.canLay0]
    exact plainAll_lay xs h
  | .none, h => by simp [plainD] at h
  | .bool _, h => by simp [plainD] at h
  | .list _, h => by simp [plainD] at h
  | .dict _, h => by simp [plainD] at h
theorem plainAll_lay : ∀ ds : List PyData, plainAll ds = true → PyData.canLayAll0 ds = true
  | [], _ => by simp [PyData.canLayAll0]
  | x :: xs, h => by
    rw [plainAll, Bool.and_eq_true] at h
    rw [PyData.canLayAll0, plain_lay x h.1, plainAll_lay xs h.2]
    rfl
end
mutual
theorem eqv_eq : ∀ d e : PyData, plainD d = true → plainD e = true → PyData.eqv d e = true → d = e
  | .int i, e, _, h2, h => by
    cases e <;> simp_all [PyData.eqv, plainD]
  | .str i, e, _, h2, h => by
    cases e <;> simp_all [PyData.eqv, plainD]
  | .tuple xs, e, h1, h2, h => by
    cases e with
    | tuple ys =>
      rw [plainD] at h1 h2
      rw [PyData.eqv] at h
      rw [eqvAll_eq xs ys h1 h2 h]
    | _ => simp_all [PyData.eqv, plainD]
  | .none, _, h, _, _ => by simp [plainD] at h
  | .bool _, _, h, _, _ => by simp [plainD] at h
  | .list _, _, h, _, _ => by simp [plainD] at h
  | .dict _, _, h, _, _ => by simp [plainD] at h
theorem eqvAll_eq : ∀ ds es : List PyData, plainAll ds = true → plainAll es = true → PyData.eqvAll ds es = true → ds = es
  | [], [], _, _, _ => rfl
  | [], _ :: _, _, _, h => by simp [PyData.eqvAll] at h
  | _ :: _, [], _, _, h => by simp [PyData.eqvAll] at h
  | x :: xs, y :: ys, h1, h2, h => by
    rw [plainAll, Bool.and_eq_true] at h1 h2
    rw [PyData.eqvAll, Bool.and_eq_true] at h
    rw [eqv_eq x y h1.1 h2.1 h.1, eqvAll_eq xs ys h1.2 h2.2 h.2]
end
theorem eqv_self {d : PyData} (h : plainD d = true) : PyData.eqv d d = true := SeqAt.eqv_refl d (plain_lay d h)
theorem plainAll_iff : ∀ {ds : List PyData}, plainAll ds = true ↔ ∀ d ∈ ds, plainD d = true
  | [] => by simp [plainAll]
  | x :: xs => by
    rw [plainAll, Bool.and_eq_true, plainAll_iff (ds := xs)]
    simp
theorem depthAll_le {n : Nat} : ∀ {ds : List PyData}, (∀ d ∈ ds, d.depth ≤ n) → PyData.depthAll ds ≤ n
  | [], _ => by simp [PyData.depthAll]
  | x :: xs, h => by
    rw [PyData.depthAll]
    exact Nat.max_le.mpr ⟨h x List.mem_cons_self, depthAll_le fun d hd => h d (List.mem_cons_of_mem _ hd)⟩
/-- plain, and at most n within one another -/
def Pl (n : Nat) (d : PyData) : Prop := plainD d = true ∧ d.depth ≤ n
theorem Pl.mono {n m : Nat} {d : PyData} (h : Pl n d) (e : n ≤ m) : Pl m d := ⟨h.1, Nat.le_trans h.2 e⟩
theorem Pl.shaped {n : Nat} {d : PyData} (h : Pl n d) (hn : n ≤ 64) : SeqAt.shaped d = true := by
  show (d.canLay0 && decide (d.depth ≤ 64)) = true
  rw [Bool.and_eq_true]
  exact ⟨plain_lay d h.1, decide_eq_true (Nat.le_trans h.2 hn)⟩
theorem Pl.tup {n : Nat} {ds : List PyData} (h : ∀ d ∈ ds, Pl n d) : Pl (n + 1) (.tuple ds) := by
  refine ⟨?_, ?_⟩
  · rw [plainD]
    exact plainAll_iff.mpr fun d hd => (h d hd).1
  · rw [PyData.depth]
    exact Nat.succ_le_succ (depthAll_le fun d hd => (h d hd).2)
theorem shaped_list {n : Nat} {ds : List PyData} (h : ∀ d ∈ ds, Pl n d) (hn : n ≤ 63) : SeqAt.shaped (.list ds) = true := by
  show (PyData.canLay0 (.list ds) && decide (PyData.depth (.list ds) ≤ 64)) = true
  rw [Bool.and_eq_true]
  refine ⟨?_, decide_eq_true ?_⟩
  · rw [PyData.canLay0]
    exact plainAll_lay ds (plainAll_iff.mpr fun d hd => (h d hd).1)
  · rw [PyData.depth]
    exact Nat.le_trans (Nat.succ_le_succ (depthAll_le fun d hd => (h d hd).2)) (Nat.succ_le_succ hn)
theorem pl_int {i : Int} : Pl 0 (.int i) := ⟨rfl, by simp [PyData.depth]⟩
theorem pl_str {x : Str} (h : PyData.strOk x = true) : Pl 0 (.str x) := ⟨by rw [plainD]; exact h, by simp [PyData.depth]⟩
/-! ### lists without one twice -/
def notIn (acc : List PyData) (x : PyData) : Bool := !acc.any fun z => PyData.eqv z x
def merge (acc xs : List PyData) : List PyData := acc ++ xs.filter (notIn acc)
theorem merge_nil {xs : List PyData} : merge [] xs = xs := by
  show [] ++ xs.filter (notIn []) = xs
  rw [List.nil_append, List.filter_eq_self]
  intro a _
  rfl
theorem merge_sub {acc xs : List PyData} {p : PyData → Prop} (h1 : ∀ d ∈ acc, p d) (h2 : ∀ d ∈ xs, p d) : ∀ d ∈ merge acc xs, p d := fun d hd => by
  rcases List.mem_append.mp hd with h | h
  · exact h1 d h
  · exact h2 d (List.mem_filter.mp h).1
theorem mem_merge {acc xs : List PyData} (h1 : ∀ d ∈ acc, plainD d = true) (h2 : ∀ d ∈ xs, plainD d = true) {x : PyData} (h : x ∈ acc ∨ x ∈ xs) : x ∈ merge acc xs := by
  rcases h with h | h
  · exact List.mem_append.mpr (.inl h)
  · cases e : notIn acc x with
    | true => exact List.mem_append.mpr (.inr (List.mem_filter.mpr ⟨h, e⟩))
    | false =>
      have e' : (acc.any fun z => PyData.eqv z x) = true := by
        unfold notIn at e
        simpa using e
      obtain ⟨z, hz, ez⟩ := List.any_eq_true.mp e'
      rw [← eqv_eq z x (h1 z hz) (h2 x h) ez]
      exact List.mem_append.mpr (.inl hz)
theorem merge_len {acc xs : List PyData} : (merge acc xs).length ≤ acc.length + xs.length := by
  unfold merge
  rw [List.length_append]
  exact Nat.add_le_add_left (List.length_filter_le _ _) _
/-- the place of the first like one -/
def idx (ds : List PyData) (d : PyData) : Nat := ds.findIdx fun z => PyData.eqv z d
theorem idx_at {ds : List PyData} {d : PyData} (h1 : ∀ z ∈ ds, plainD z = true) (h : d ∈ ds) : ds[idx ds d]? = some d ∧ ∀ (m : Nat) (z : PyData), m < idx ds d → ds[m]? = some z → PyData.eqv z d = false := by
  have hd := h1 d h
  have hl : idx ds d < ds.length := List.findIdx_lt_length_of_exists ⟨d, h, eqv_self hd⟩
  refine ⟨?_, fun m z hm hz => ?_⟩
  · have hp : PyData.eqv (ds[idx ds d]'hl) d = true := List.findIdx_getElem (p := fun z => PyData.eqv z d) (w := hl)
    have e := eqv_eq _ _ (h1 _ (List.getElem_mem hl)) hd hp
    rw [List.getElem?_eq_getElem hl, e]
  · obtain ⟨hm', rfl⟩ := List.getElem?_eq_some_iff.mp hz
    have := List.not_of_lt_findIdx (p := fun z => PyData.eqv z d) hm
    simpa using this
/-! ### sayings and forms -/
inductive Un | no | al | ev
inductive Bi | an | or | un
inductive Fw | an | or | un | re
def Un.s : Un → Str | .no => "not" | .al => "always" | .ev => "ever"
def Bi.s : Bi → Str | .an => "and" | .or => "or" | .un => "until"
def Fw.s : Fw → Str | .an => "and" | .or => "or" | .un => "until" | .re => "release"
def Bi.f : Bi → Fw | .an => .an | .or => .or | .un => .un
def Bi.t : Bi → Fw | .an => .or | .or => .an | .un => .re
inductive Sy
  | yes
  | at (w : Str) (r : List PyData)
  | un (w : Un) (s : Sy)
  | bi (w : Bi) (s t : Sy)
inductive Fm
  | yes | no
  | is (b : Bool) (n : Nat)
  | bi (w : Fw) (s t : Fm)
def dAt (w : Str) (r : List PyData) : PyData := .tuple (.str w :: r)
def dSy : Sy → PyData
  | .yes => .tuple [.str "yes"]
  | .at w r => dAt w r
  | .un w s => .tuple [.str w.s, dSy s]
  | .bi w s t => .tuple [.str w.s, dSy s, dSy t]
def isW (b : Bool) : Str := if b then "is" else "isnt"
def dFm : Fm → PyData
  | .yes => .tuple [.str "yes"]
  | .no => .tuple [.str "no"]
  | .is b n => .tuple [.str (isW b), .int n]
  | .bi w s t => .tuple [.str w.s, dFm s, dFm t]
def atomW : List Str := ["place", "deed", "wish"]
def AtOk (w : Str) (r : List PyData) : Prop := w ∈ atomW ∧ Pl 8 (dAt w r)
/-- a saying at most n within one another, its atoms in order -/
inductive SyOk : Nat → Sy → Prop
  | yes {n : Nat} : SyOk (n + 1) .yes
  | at {n : Nat} {w : Str} {r : List PyData} : AtOk w r → SyOk (n + 1) (.at w r)
  | un {n : Nat} {w : Un} {s : Sy} : SyOk n s → SyOk (n + 1) (.un w s)
  | bi {n : Nat} {w : Bi} {s t : Sy} : SyOk n s → SyOk n t → SyOk (n + 1) (.bi w s t)
inductive FmOk : Nat → Fm → Prop
  | yes {n : Nat} : FmOk (n + 1) .yes
  | no {n : Nat} : FmOk (n + 1) .no
  | is {n : Nat} {b : Bool} {k : Nat} : FmOk (n + 1) (.is b k)
  | bi {n : Nat} {w : Fw} {s t : Fm} : FmOk n s → FmOk n t → FmOk (n + 1) (.bi w s t)
theorem SyOk.mono : ∀ {n m : Nat} {s : Sy}, SyOk n s → n ≤ m → SyOk m s
  | _, 0, _, .yes, h => absurd h (by omega)
  | _, 0, _, .at _, h => absurd h (by omega)
  | _, 0, _, .un _, h => absurd h (by omega)
  | _, 0, _, .bi _ _, h => absurd h (by omega)
  | _, _ + 1, _, .yes, _ => .yes
  | _, _ + 1, _, .at a, _ => .at a
  | _, _ + 1, _, .un a, h => .un (a.mono (by omega))
  | _, _ + 1, _, .bi a b, h => .bi (a.mono (by omega)) (b.mono (by omega))
theorem FmOk.mono : ∀ {n m : Nat} {s : Fm}, FmOk n s → n ≤ m → FmOk m s
  | _, 0, _, .yes, h => absurd h (by omega)
  | _, 0, _, .no, h => absurd h (by omega)
  | _, 0, _, .is, h => absurd h (by omega)
  | _, 0, _, .bi _ _, h => absurd h (by omega)
  | _, _ + 1, _, .yes, _ => .yes
  | _, _ + 1, _, .no, _ => .no
  | _, _ + 1, _, .is, _ => .is
  | _, _ + 1, _, .bi a b, h => .bi (a.mono (by omega)) (b.mono (by omega))
def wd : Sy → Str | .yes => "yes" | .at w _ => w | .un w _ => w.s | .bi w _ _ => w.s
def hv : Sy → List Sy | .yes => [] | .at _ _ => [] | .un _ s => [s] | .bi _ s t => [s, t]
def isAt : Sy → Bool | .at _ _ => true | _ => false
theorem hv_len {s : Sy} : (hv s).length ≤ 2 := by
  cases s <;> simp [hv]
theorem dSy_hv {s : Sy} (h : isAt s = false) : dSy s = .tuple (.str (wd s) :: (hv s).map dSy) := by
  cases s <;> first | rfl | cases h
theorem hv_ok {n : Nat} {s : Sy} (h : SyOk (n + 1) s) : ∀ t ∈ hv s, SyOk n t := by
  cases h with
  | yes => exact fun t ht => absurd ht List.not_mem_nil
  | «at» _ => exact fun t ht => absurd ht List.not_mem_nil
  | un a => exact fun t ht => by rw [List.mem_singleton.mp ht]; exact a
  | bi a b =>
    intro t ht
    rcases List.mem_cons.mp ht with e | ht
    · rw [e]; exact a
    · rw [List.mem_singleton.mp ht]; exact b
def atomsOf : Sy → List PyData
  | .yes => []
  | .at w r => [dAt w r]
  | .un _ s => merge [] (atomsOf s)
  | .bi _ s t => merge (merge [] (atomsOf s)) (atomsOf t)
def gather (f : Sy → List PyData) (acc : List PyData) (hs : List Sy) : List PyData := hs.foldl (fun a h => merge a (f h)) acc
theorem atomsOf_hv {s : Sy} (h : isAt s = false) : atomsOf s = gather atomsOf [] (hv s) := by
  cases s <;> first | rfl | cases h
theorem atoms_pl {n : Nat} {s : Sy} (h : SyOk n s) : ∀ d ∈ atomsOf s, Pl 8 d := by
  induction h with
  | yes => exact fun d hd => absurd hd List.not_mem_nil
  | «at» a => exact fun d hd => by rw [List.mem_singleton.mp hd]; exact a.2
  | un a ih => exact merge_sub (fun d hd => absurd hd List.not_mem_nil) ih
  | bi a b i1 i2 => exact merge_sub (merge_sub (fun d hd => absurd hd List.not_mem_nil) i1) i2
theorem atoms_len {n : Nat} {s : Sy} (h : SyOk n s) : (atomsOf s).length ≤ 2 ^ n := by
  induction h with
  | yes => exact Nat.zero_le _
  | @«at» n w r a => exact Nat.one_le_two_pow
  | un a ih =>
    rw [atomsOf, merge_nil]
    exact Nat.le_trans ih (Nat.pow_le_pow_right (by decide) (by omega))
  | bi a b i1 i2 =>
    rw [atomsOf, merge_nil, Nat.pow_succ]
    exact Nat.le_trans merge_len (by omega)
/-- all atoms of a saying are among these -/
inductive Has (ds : List PyData) : Sy → Prop
  | yes : Has ds .yes
  | at {w : Str} {r : List PyData} : dAt w r ∈ ds → Has ds (.at w r)
  | un {w : Un} {s : Sy} : Has ds s → Has ds (.un w s)
  | bi {w : Bi} {s t : Sy} : Has ds s → Has ds t → Has ds (.bi w s t)
theorem Has.mono {ds es : List PyData} (h : ∀ d ∈ ds, d ∈ es) : ∀ {s : Sy}, Has ds s → Has es s
  | _, .yes => .yes
  | _, .at a => .at (h _ a)
  | _, .un a => .un (a.mono h)
  | _, .bi a b => .bi (a.mono h) (b.mono h)
theorem has_own {n : Nat} {s : Sy} (h : SyOk n s) : Has (atomsOf s) s := by
  induction h with
  | yes => exact .yes
  | «at» a => exact .at (List.mem_singleton.mpr rfl)
  | un a ih =>
    rw [atomsOf, merge_nil]
    exact .un ih
  | bi a b i1 i2 =>
    rw [atomsOf, merge_nil]
    have p1 := fun d hd => (atoms_pl a d hd).1
    have p2 := fun d hd => (atoms_pl b d hd).1
    exact .bi (i1.mono fun d hd => mem_merge p1 p2 (.inl hd)) (i2.mono fun d hd => mem_merge p1 p2 (.inr hd))
theorem hv_has {ds : List PyData} {s : Sy} (h : Has ds s) : ∀ t ∈ hv s, Has ds t := by
  cases h with
  | yes => exact fun t ht => absurd ht List.not_mem_nil
  | «at» _ => exact fun t ht => absurd ht List.not_mem_nil
  | un a => exact fun t ht => by rw [List.mem_singleton.mp ht]; exact a
  | bi a b =>
    intro t ht
    rcases List.mem_cons.mp ht with e | ht
    · rw [e]; exact a
    · rw [List.mem_singleton.mp ht]; exact b
def fm (ds : List PyData) : Sy → Bool → Fm
  | .yes, b => if b then .yes else .no
  | .at w r, b => .is b (idx ds (dAt w r))
  | .un .no s, b => fm ds s (!b)
  | .un .ev s, b => if b then .bi .un .yes (fm ds s b) else .bi .re .no (fm ds s b)
  | .un .al s, b => if b then .bi .re .no (fm ds s b) else .bi .un .yes (fm ds s b)
  | .bi w s t, b => .bi (if b then w.f else w.t) (fm ds s b) (fm ds t b)
theorem fm_ok {ds : List PyData} {n : Nat} {s : Sy} (h : SyOk n s) : ∀ b, FmOk (n + 1) (fm ds s b) := by
  induction h with
  | yes => intro b; cases b <;> constructor
  | «at» a => intro b; exact .is
  | @un n w s a ih =>
    intro b
    cases w with
    | no => exact (ih (!b)).mono (by omega)
    | ev => cases b
            · exact .bi .no (ih _)
            · exact .bi .yes (ih _)
    | al => cases b
            · exact .bi .yes (ih _)
            · exact .bi .no (ih _)
  | bi a b i1 i2 => intro c; exact .bi (i1 c) (i2 c)
theorem fm_not {ds : List PyData} {s : Sy} {b : Bool} : fm ds (.un .no s) b = fm ds s (!b) := rfl
theorem str_ok_un (w : Un) : PyData.strOk w.s = true := by cases w <;> decide +kernel
theorem str_ok_fw (w : Fw) : PyData.strOk w.s = true := by cases w <;> decide +kernel
theorem str_ok_bi (w : Bi) : PyData.strOk w.s = true := by cases w <;> decide +kernel
theorem pl2 {n : Nat} {a b : PyData} (h1 : Pl n a) (h2 : Pl n b) : Pl (n + 1) (.tuple [a, b]) := Pl.tup fun d hd => by
  rcases List.mem_cons.mp hd with e | hd
  · rw [e]; exact h1
  · rw [List.mem_singleton.mp hd]; exact h2
theorem pl3 {n : Nat} {a b c : PyData} (h1 : Pl n a) (h2 : Pl n b) (h3 : Pl n c) : Pl (n + 1) (.tuple [a, b, c]) := Pl.tup fun d hd => by
  rcases List.mem_cons.mp hd with e | hd
  · rw [e]; exact h1
  · rcases List.mem_cons.mp hd with e | hd
    · rw [e]; exact h2
    · rw [List.mem_singleton.mp hd]; exact h3
theorem pl1 {n : Nat} {a : PyData} (h1 : Pl n a) : Pl (n + 1) (.tuple [a]) := Pl.tup fun d hd => by
  rw [List.mem_singleton.mp hd]; exact h1
theorem fm_pl {n : Nat} {f : Fm} (h : FmOk n f) : Pl n (dFm f) := by
  induction h with
  | @yes n => exact (pl1 (pl_str (by decide +kernel))).mono (by omega)
  | @no n => exact (pl1 (pl_str (by decide +kernel))).mono (by omega)
  | @is n b k => exact (pl2 (pl_str (by cases b <;> decide +kernel)) pl_int).mono (by omega)
  | @bi n w s t a b i1 i2 => exact pl3 ((pl_str (str_ok_fw w)).mono (by omega)) i1 i2
theorem sy_pl {n : Nat} {s : Sy} (h : SyOk n s) : Pl (n + 8) (dSy s) := by
  induction h with
  | @yes n => exact (pl1 (pl_str (by decide +kernel))).mono (by omega)
  | @«at» n w r a => exact a.2.mono (by omega)
  | @un n w s a ih => exact (pl2 ((pl_str (str_ok_un w)).mono (by omega)) ih).mono (by omega)
  | @bi n w s t a b i1 i2 => exact (pl3 ((pl_str (str_ok_bi w)).mono (by omega)) i1 i2).mono (by omega)
/-! ### untils in a form -/
def hf : Fm → List Fm | .bi _ s t => [s, t] | _ => []
def wf : Fm → Str | .yes => "yes" | .no => "no" | .is b _ => isW b | .bi w _ _ => w.s
def isBi : Fm → Bool | .bi _ _ _ => true | _ => false
def ownU (f : Fm) : List PyData := match f with | .bi .un _ _ => [dFm f] | _ => []
def untilsOf : Fm → List PyData
  | .bi w s t => merge (merge (ownU (.bi w s t)) (untilsOf s)) (untilsOf t)
  | _ => []
def gatherF (f : Fm → List PyData) (acc : List PyData) (hs : List Fm) : List PyData := hs.foldl (fun a h => merge a (f h)) acc
theorem hf_len {s : Fm} : (hf s).length ≤ 2 := by
  cases s <;> simp [hf]
theorem untils_hf {f : Fm} : untilsOf f = gatherF untilsOf (ownU f) (hf f) := by
  cases f <;> rfl
theorem dFm_hf {f : Fm} (h : isBi f = true) : dFm f = .tuple (.str (wf f) :: (hf f).map dFm) := by
  cases f <;> first | rfl | cases h
theorem hf_ok {n : Nat} {f : Fm} (h : FmOk (n + 1) f) : ∀ t ∈ hf f, FmOk n t := by
  cases h with
  | bi a b =>
    intro t ht
    rcases List.mem_cons.mp ht with e | ht
    · rw [e]; exact a
    · rw [List.mem_singleton.mp ht]; exact b
  | _ => exact fun t ht => absurd ht List.not_mem_nil
theorem own_pl {n : Nat} {f : Fm} (h : FmOk n f) : ∀ d ∈ ownU f, Pl n d := by
  cases f with
  | bi w s t =>
    cases w with
    | un => exact fun d hd => by rw [List.mem_singleton.mp hd]; exact fm_pl h
    | _ => exact fun d hd => absurd hd List.not_mem_nil
  | _ => exact fun d hd => absurd hd List.not_mem_nil
theorem own_len {f : Fm} : (ownU f).length ≤ 1 := by
  cases f with
  | bi w s t => cases w <;> first | exact Nat.zero_le _ | exact Nat.le_refl _
  | _ => exact Nat.zero_le _
theorem untils_pl {n : Nat} {f : Fm} (h : FmOk n f) : ∀ d ∈ untilsOf f, Pl n d := by
  induction h with
  | bi a b i1 i2 => exact merge_sub (merge_sub (own_pl (.bi a b)) fun d hd => (i1 d hd).mono (by omega)) fun d hd => (i2 d hd).mono (by omega)
  | _ => exact fun d hd => absurd hd List.not_mem_nil
theorem untils_len {n : Nat} {f : Fm} (h : FmOk n f) : (untilsOf f).length + 1 ≤ 2 ^ n := by
  induction h with
  | @bi n w s t a b i1 i2 =>
    have h1 := @own_len (.bi w s t)
    rw [untilsOf, Nat.pow_succ]
    have h2 := @merge_len (ownU (.bi w s t)) (untilsOf s)
    have h3 := @merge_len (merge (ownU (.bi w s t)) (untilsOf s)) (untilsOf t)
    omega
  | _ => exact Nat.one_le_two_pow
theorem gather_take {α : Type} {f : α → List PyData} {acc : List PyData} {hs : List α} {i : Nat} {h : α} (e : hs[i]? = some h) :
    (hs.take (i + 1)).foldl (fun a h => merge a (f h)) acc = merge ((hs.take i).foldl (fun a h => merge a (f h)) acc) (f h) := by
  rw [List.take_add_one, e, Option.toList_some, List.foldl_append]
  rfl
theorem gather_sub {α : Type} {f : α → List PyData} {p : PyData → Prop} : ∀ {hs : List α} {acc : List PyData}, (∀ d ∈ acc, p d) → (∀ h ∈ hs, ∀ d ∈ f h, p d) → ∀ d ∈ hs.foldl (fun a h => merge a (f h)) acc, p d
  | [], _, h, _ => h
  | x :: xs, _, h, g => gather_sub (hs := xs) (merge_sub h (g x List.mem_cons_self)) fun y hy => g y (List.mem_cons_of_mem _ hy)
theorem gather_len {α : Type} {f : α → List PyData} {m : Nat} : ∀ {hs : List α} {acc : List PyData}, (∀ h ∈ hs, (f h).length ≤ m) → (hs.foldl (fun a h => merge a (f h)) acc).length ≤ acc.length + hs.length * m
  | [], _, _ => by simp
  | x :: xs, acc, h => by
    have h1 := gather_len (hs := xs) (acc := merge acc (f x)) (f := f) (m := m) fun y hy => h y (List.mem_cons_of_mem _ hy)
    have h2 := @merge_len acc (f x)
    have h3 := h x List.mem_cons_self
    rw [List.foldl_cons, List.length_cons, Nat.succ_mul]
    omega
end Sf

namespace W34
open PySem PySem.Spec PyProof.Rows L2 Gs Gp Gr
/-! ### ties drawn -/
abbrev NTi : List Str := ["_law_pool_here", "_law_count", "_law_many", "_law_found", "_law_turn", "_law_lots", "_law_lot"]
theorem scTies : FnScope NTi ["_law_pool_here", "_law_count", "_law_many"] (defScope sTies) := ⟨rfl, rfl, rfl, by decide +kernel, rfl, by decide +kernel, by decide +kernel⟩
def spTies : Sp := fun vs H Q _ => ∃ (p : Addr) (n m : Nat), vs = [.ref p, .int n, .int m] ∧ Lf H p ∧ 0 < n ∧ n ≤ 100 ∧ m ≤ 100 ∧
  ∀ H' r us ts, Keep p H H' → Lf H' p → H r = none → H' r = some (.lst us) → Ties H' us ts → (∀ t ∈ ts, t.1 < n ∧ t.2.1 < n) → ts.length ≤ 2 * n + 2 → Q (.ref r) H'
section
variable {P : Program} {w : World} {K : PySem.W.Frag} {mg : Str → Option Value} {base : Heap} {f f1 f2 : Addr} {fd d1 d2 : FuncData} {k : Nat}
theorem ok_ties (F : Fun K "_law_ties" "_law_ties" sTies f fd) (TA : Cl P w K mg base CX0 1 "_law_take" ["_law_pool_here", "_law_many"] spTake f1 d1) (mr : mg "range" = none) (mt : mg "tuple" = none) : FnOk P w K mg base CX0 2 f fd ["_law_pool_here", "_law_count", "_law_many"] spTies := by
  refine F.ok scTies (fun vs H Q E h => ?_) (fun cdv A outer s H vs Q E hr h => ?_)
  · obtain ⟨p, n, m, rfl, _⟩ := h
    rfl
  · obtain ⟨p, n, m, rfl, lf, n0, n1, m1, q⟩ := h
    refine ⟨_, pss_cons (ps_set (i := 3) scTies.nd rfl (.inl rfl) (pe_lst pa_nil))
      (pss_cons (ps_for PassesOwn.never rfl (pi_range1 (by rfl) mr (pa_cons (pe_call TA.ok hr (by rfl) TA.g TA.kp TA.bd .nil pass0 (pa_cons (pv 0) (pa_cons (pe_op op_add (pe_op op_mul pe_int (pv 1)) pe_int) pa_nil))) pa_nil)) (pg_name (i := 4) scTies.nd rfl (Or.inl rfl))
        (pss_cons (ps_set (i := 5) scTies.nd rfl (.inl rfl) (pe_callTy call_tuple_of (by rfl) mt (by decide +kernel) (pa_cons
          (pe_lc (own := [("_law_lot", 6)]) (g := gName 6) rfl scTies.nd (pi_range1 (by rfl) mr (pa_cons (pv 2) pa_nil)) (blkOk_by (own := [("_law_lot", 6)]) (N := NTi) (sc := defScope sTies) (by decide +kernel))
            (fun _ _ _ _ _ => pg_name (i := 6) scTies.nd rfl (Or.inl rfl))
            (fun _ _ _ _ _ => pts_one (pt_cmpR op_eq (pe_call TA.ok hr (by rfl) TA.g TA.kp TA.bd .nil pass0 (pa_cons (pv 0) (pa_cons pe_int pa_nil))) pe_int (nomark _)))
            (fun _ _ _ _ _ => pv 6)) pa_nil)))
        (pss_one (ps_expr (pe_bm PySem.F.plainAttrs_list PySem.F.slot_list_append PySem.F.type_list_append mt_append (pv 3) (pa_cons (pe_tup (pa_cons (pe_call TA.ok hr (by rfl) TA.g TA.kp TA.bd .nil pass0 (pa_cons (pv 0) (pa_cons (pv 1) pa_nil))) (pa_cons (pe_call TA.ok hr (by rfl) TA.g TA.kp TA.bd .nil pass0 (pa_cons (pv 0) (pa_cons (pv 1) pa_nil))) (pa_cons (pv 5) pa_nil)))) pa_nil))))))
      (pss_one (ps_ret (pv 3)))), ?_⟩
    refine ⟨by show 0 ≤ sizeLine; decide, fun L hL => ?_⟩
    have pL : p ≠ L := lf_ne lf hL
    have s0 := same_new (o := .lst []) hL
    refine ⟨_, rfl, _, rfl, _, _, rfl, rfl, .inl ⟨by decide, by decide⟩, _, _, rfl, rfl, p, 2 * n + 3, (by
      have e : ((2 * n + 3 : Nat) : Int) = 2 * (n : Int) + 3 := by omega
      rw [e]
      rfl), lf_same lf s0, by omega, by omega, fun H1 d k1 lf1 dl => ?_⟩
    have eL1 : H1 L = some (.lst []) := k1 _ _ pL.symm upd_same
    have k01 : Keep p H H1 := (keep_same s0).trans k1
    refine ⟨(d : Int), rfl, by omega, by omega, ?_⟩
    rw [Int.toNat_natCast]
    refine for_range (n := d) (fun i σ H' => ∃ us ts x4 x5 x6, σ = [some (.ref p), some (.int n), some (.int m), some (.ref L), x4, x5, x6] ∧ Keep p H H' ∧ Lf H' p ∧ H' L = some (.lst us) ∧ Ties H' us ts ∧ (∀ t ∈ ts, t.1 < n ∧ t.2.1 < n) ∧ ts.length = i)
      ⟨[], [], _, _, _, rfl, k01, lf1, eL1, .nil, fun t ht => absurd ht List.not_mem_nil, rfl⟩ (fun i σ H2 hi hp => ?_) (fun σ H2 hp => ?_)
    · obtain ⟨us, ts, x4, x5, x6, rfl, k2, lf2, e2, tu, bd, tl⟩ := hp
      have ul := tu.len
      refine ⟨_, rfl, (m : Int), rfl, by omega, by omega, fun D hD => ?_⟩
      rw [Int.toNat_natCast]
      have pD : p ≠ D := lf_ne lf2 hD
      have LD : L ≠ D := ne_of_none e2 hD
      refine lc_range (n := m) (fun j H' => ∃ ls : List Nat, H' D = some (.lst (ls.map vI)) ∧ Keep p H2 H' ∧ Lf H' p ∧ ls.length ≤ j)
        ⟨[], upd_same, keep_same (same_new hD), lf_upd lf2 pD, Nat.le_refl _⟩ (fun j H3 hj hp => ?_) (fun H3 hp => ?_)
      · obtain ⟨ls, e3, k3, lf3, ll⟩ := hp
        refine ⟨rfl, ?_⟩
        refine ⟨_, rfl, p, 2, rfl, lf3, by decide, by decide, fun H4 d4 k4 lf4 _ => ⟨rfl, _, rfl, ?_⟩⟩
        have e4 := k4 _ _ pD.symm e3
        refine ite2 (fun _ => ?_) (fun _ => ⟨ls, e4, k3.trans k4, lf4, by omega⟩)
        refine ⟨_, rfl, _, e4, by rw [List.length_map]; exact small1000 (by omega), ls ++ [j], ?_, ?_, lf_upd lf4 pD, by rw [List.length_append]; exact Nat.succ_le_succ ll⟩
        · rw [upd_same, List.map_append]
          show some (HO.lst (ls.map vI ++ [V.int (0 + (j : Int))])) = _
          rw [Int.zero_add]
          rfl
        · exact keep_at (k3.trans k4) hD
      · obtain ⟨ls, e3, k3, lf3, ll⟩ := hp
        refine ⟨D, _, rfl, .inl ⟨SqL.of e3, fun l hl => ?_⟩⟩
        have s4 := same_new (o := .tup (ls.map vI)) hl
        have lf4 := lf_same lf3 s4
        have e24 : upd H3 l (.tup (ls.map vI)) L = some (.lst us) := s4 _ _ (k3 _ _ pL.symm e2)
        have k24 : Keep p H2 (upd H3 l (.tup (ls.map vI))) := k3.trans (keep_same s4)
        have el4 : upd H3 l (.tup (ls.map vI)) l = some (.tup (ls.map vI)) := upd_same
        generalize upd H3 l (.tup (ls.map vI)) = H4 at *
        refine ⟨_, rfl, .inl ⟨rfl, _, SqL.of e24⟩, ?_⟩
        refine ⟨_, rfl, _, rfl, p, n, rfl, lf4, n0, by omega, fun H5 a k5 lf5 al => ?_⟩
        refine ⟨_, rfl, _, rfl, p, n, rfl, lf5, n0, by omega, fun H6 b k6 lf6 bl => ?_⟩
        refine ⟨_, rfl, by show 3 ≤ sizeLine; decide, fun t ht => ?_⟩
        have s7 := same_new (o := .tup [.int (a : Nat), .int (b : Nat), .ref l]) ht
        have k46 := k5.trans k6
        have e26 := k46 _ _ pL.symm e24
        have e27 := s7 _ _ e26
        have t46 := tk_keep k46 lf4
        refine ⟨L, us, _, rfl, rfl, e27, small1000 (by omega), us ++ [.ref t], ts ++ [(a, b, ls)], _, _, _, rfl, ?_, ?_, upd_same, ?_, ?_, ?_⟩
        · exact keep_at (((k2.trans k24).trans k46).trans (keep_same s7)) hL
        · exact lf_upd (lf_same lf6 s7) pL
        · refine (Ties.app ((((tu.tk (tk_keep k24 lf2)).tk t46).tk (tk_same s7))) (.cons upd_same (s7 _ _ (t46 _ _ el4)) .nil)).tk (tk_lst e27)
        · intro t' ht'
          rcases List.mem_append.mp ht' with h | h
          · exact bd t' h
          · rw [List.mem_singleton.mp h]
            exact ⟨al, bl⟩
        · rw [List.length_append, tl]
          rfl
    · obtain ⟨us, ts, x4, x5, x6, rfl, k2, lf2, e2, tu, bd, tl⟩ := hp
      exact ⟨_, rfl, q H2 L us ts k2 lf2 hL e2 tu bd (by omega)⟩
end
/-! ### leads -/
def MatA (H0 H : Hp) (L : Addr) (n : Nat) (M : Nat → Nat → Bool) : Prop := ∃ rs : List Addr, H L = some (.lst (rs.map V.ref)) ∧ H0 L = none ∧ rs.length = n ∧ rs.Nodup ∧ L ∉ rs ∧ ∀ i r, rs[i]? = some r → H0 r = none ∧ H r = some (.lst ((List.range n).map fun j => V.bl (M i j)))
theorem MatA.same {H0 H H' : Hp} {L : Addr} {n : Nat} {M : Nat → Nat → Bool} (s : Same H H') (h : MatA H0 H L n M) : MatA H0 H' L n M := by
  obtain ⟨rs, h1, h2, h3, h4, h5, h6⟩ := h
  exact ⟨rs, s _ _ h1, h2, h3, h4, h5, fun i r e => ⟨(h6 i r e).1, s _ _ (h6 i r e).2⟩⟩
theorem range_set {n i : Nat} {g : Nat → V} {v : V} : ((List.range n).map g).set i v = (List.range n).map fun j => if j = i then v else g j := by
  apply List.ext_getElem
  · simp
  · intro k h1 h2
    rw [List.length_set, List.length_map, List.length_range] at h1
    rw [List.getElem_set]
    by_cases c : i = k
    · subst c
      simp
    · rw [if_neg c]
      simp
      intro z
      exact absurd z.symm c
theorem MatA.at {H0 H : Hp} {L : Addr} {n : Nat} {M : Nat → Nat → Bool} (h : MatA H0 H L n M) {i : Nat} (hi : i < n) :
    ∃ (rs : List Addr) (r : Addr), H L = some (.lst (rs.map V.ref)) ∧ atI (rs.map V.ref) (i : Nat) = some (.ref r) ∧ H r = some (.lst ((List.range n).map fun j => V.bl (M i j))) ∧ H0 r = none ∧
      ∀ (j : Nat) (v : Bool), MatA H0 (upd H r (.lst (((List.range n).map fun j => V.bl (M i j)).set j (.bl v)))) L n (put M i j v) := by
  obtain ⟨rs, h1, h2, h3, h4, h5, h6⟩ := h
  have ir : rs[i]? = some rs[i] := List.getElem?_eq_getElem (by omega)
  refine ⟨rs, rs[i], h1, atI_nat (by rw [List.getElem?_map, ir]; rfl), (h6 i _ ir).2, (h6 i _ ir).1, fun j v => ?_⟩
  have nL : L ≠ rs[i] := fun e => h5 (e ▸ List.getElem_mem (by omega))
  refine ⟨rs, by rw [upd_ne nL]; exact h1, h2, h3, h4, h5, fun a r e => ⟨(h6 a r e).1, ?_⟩⟩
  by_cases c : a = i
  · subst c
    rw [ir] at e
    cases e
    rw [upd_same, range_set]
    congr 2
    apply List.map_congr_left
    intro b _
    unfold put
    by_cases d : b = j
    · simp [d]
    · simp [d]
  · have nr : r ≠ rs[i] := fun z => c (by
      obtain ⟨ha, rfl⟩ := List.getElem?_eq_some_iff.mp e
      exact (List.getElem_inj h4).mp z)
    rw [upd_ne nr, (h6 a r e).2]
    congr 2
    apply List.map_congr_left
    intro b _
    unfold put
    simp [c]
theorem row_at {n j : Nat} {g : Nat → V} (h : j < n) : atI ((List.range n).map g) (j : Nat) = some (g j) := atI_nat (by rw [List.getElem?_map, List.getElem?_range h]; rfl)
theorem _root_.Gr.Wsh.weak {E : Nat → Nat → Prop} {k : Nat} {M : Nat → Nat → Bool} {d1 d2 : Nat → Nat → Prop} (W : Wsh E k M d1) (h : ∀ a b, d2 a b → d1 a b) : Wsh E k M d2 := ⟨W.lo, W.up, fun i j d => W.dn i j (h i j d)⟩
theorem op_inDK {X : Cx} {K : PySem.W.Frag} (hk : X.K = K) (hu : X.A.units + 65 < cLine) : OpR X (compareOp .In) (rInD K) := by
  subst hk
  exact op_inD hu
theorem sl_tupK {X : Cx} {K : PySem.W.Frag} (hk : X.K = K) : SlR X (rSlT K) := by
  subst hk
  exact sl_tup
def dP (p : Nat × Nat) : PyData := .tuple [.int p.1, .int p.2]
theorem dP_pl (p : Nat × Nat) : Sf.Pl 1 (dP p) := Sf.pl2 Sf.pl_int Sf.pl_int
theorem Prs.dp {K : PySem.W.Frag} {H : Hp} : ∀ {us : List V} {ts : List (Nat × Nat)}, Prs H us ts → DpAll K H us (ts.map dP)
  | _, _, .nil => .nil
  | _, _, .cons h r => .cons (.tup (SqT.of h) (.cons (.int _) (.cons (.int _) .nil))) r.dp
theorem any_mem {ps : List (Nat × Nat)} {q : Nat × Nat} : ((ps.map dP).any fun z => PyData.eqv z (dP q)) = decide (q ∈ ps) := by
  rw [Bool.eq_iff_iff, List.any_eq_true, decide_eq_true_iff]
  constructor
  · rintro ⟨z, hz, e⟩
    obtain ⟨p, hp, rfl⟩ := List.mem_map.mp hz
    have := Sf.eqv_eq _ _ (dP_pl p).1 (dP_pl q).1 e
    unfold dP at this
    injection this with this
    injection this with h1 h2
    injection h2 with h2 _
    injection h1 with h1
    injection h2 with h2
    have e1 : p.1 = q.1 := by omega
    have e2 : p.2 = q.2 := by omega
    have : p = q := Prod.ext e1 e2
    rw [← this]
    exact hp
  · exact fun h => ⟨dP q, List.mem_map.mpr ⟨q, h, rfl⟩, Sf.eqv_self (dP_pl q).1⟩
theorem ix0 {n j : Nat} (h : j < n) : ixN n (0 + (j : Int)) = some j := by
  unfold ixN
  rw [Int.zero_add, if_pos (by omega), if_pos (by omega), Int.toNat_natCast]
theorem cutne {n : Nat} : ¬ (HT.sIx 3 0 none = 0 ∧ HT.sIx 3 3 (some 2) = 3) := by decide
abbrev NLd : List Str := ["_law_ties_here", "_law_count", "_law_leads_here", "_law_via", "_law_one", "_law_other", "_law_tie"]
theorem scLeads : FnScope NLd ["_law_ties_here", "_law_count"] (defScope sLeads) := ⟨rfl, rfl, rfl, by decide +kernel, rfl, by decide +kernel, by decide +kernel⟩
abbrev scL1 : Scope := { kind := .function, names := [(".0", .local), ("_law_one", .cell), ("range", .globalImplicit), ("_law_count", .cell), ("_law_ties_here", .cell)], isGenerator := false, isCoroutine := false }
abbrev scL2 : Scope := { kind := .function, names := [(".0", .local), ("_law_other", .local), ("_law_one", .cell), ("_law_ties_here", .cell)], isGenerator := false, isCoroutine := false }
def spLeads : Sp := fun vs H Q _ => ∃ (T : Addr) (n : Nat) (us : List V) (ts : List Tie), vs = [.ref T, .int n] ∧ H T = some (.lst us) ∧ Ties H us ts ∧ (∀ t ∈ ts, t.1 < n ∧ t.2.1 < n) ∧ n ≤ 100 ∧ ts.length ≤ 900 ∧
  ∀ H' L M, Same H H' → MatA H H' L n M → (∀ i j, M i j = true ↔ Pk (fun i j => (i, j) ∈ ts.map pr2) n i j) → Q (.ref L) H'
section
variable {P : Program} {w : World} {K : PySem.W.Frag} {mg : Str → Option Value} {base : Heap} {f f1 f2 : Addr} {fd d1 d2 : FuncData} {k : Nat}
theorem ok_leads (F : Fun K "_law_leads" "_law_leads" sLeads f fd) (mr : mg "range" = none) : FnOk P w K mg base CX0 (k + 1) f fd ["_law_ties_here", "_law_count"] spLeads := by
  refine F.ok scLeads (fun vs H Q E h => ?_) (fun cdv A outer s H vs Q E hr h => ?_)
  · obtain ⟨T, n, us, ts, rfl, _⟩ := h
    rfl
  · obtain ⟨T, n, us, ts, rfl, hT, tu, bd, n1, tl, q⟩ := h
    refine ⟨_, pss_cons (ps_setLc (i := 2) (own := [("_law_one", 4)]) (g := gName 4) (tt := tYes) rfl scLeads.nd rfl rfl (sw_true rfl rfl rfl rfl) (pi_range1 (by rfl) mr (pa_cons (pv 1) pa_nil)) (blkOk_by (own := [("_law_one", 4)]) (N := NLd) (sc := defScope sLeads) (by decide +kernel))
        (fun _ _ _ _ _ => pg_name (i := 4) scLeads.nd rfl (Or.inr rfl)) (fun _ _ _ _ _ => pts_nil)
        (fun _ _ _ _ _ => pe_lc (own := [("_law_other", 5)]) (g := gName 5) (tt := tYes) rfl scLeads.nd (pi_range1 (by rfl) mr (pa_cons (pv 1) pa_nil)) (blkOk_by (own := [("_law_other", 5)]) (N := NLd) (sc := scL1) (by decide +kernel))
          (fun _ _ _ _ _ => pg_name (i := 5) scLeads.nd rfl (Or.inl rfl)) (fun _ _ _ _ _ => pts_nil)
          (fun _ _ _ _ _ => pe_cmpR (op_inDK (K := K) rfl (u65 hr)) (pe_tup (pa_cons (pv 4) (pa_cons (pv 5) pa_nil)))
            (pe_lc (own := [("_law_tie", 6)]) (g := gName 6) (tt := tYes) rfl scLeads.nd (pi_listK (K := K) rfl (pv 0)) (blkOk_by (own := [("_law_tie", 6)]) (N := NLd) (sc := scL2) (by decide +kernel))
              (fun _ _ _ _ _ => pg_name (i := 6) scLeads.nd rfl (Or.inl rfl)) (fun _ _ _ _ _ => pts_nil)
              (fun _ _ _ _ _ => pe_slice (sl_tupK (K := K) rfl) (pv 6) po_none (po_some pe_int))) (by rfl))))
      (pss_cons (ps_for PassesOwn.never rfl (pi_range1 (by rfl) mr (pa_cons (pv 1) pa_nil)) (pg_name (i := 3) scLeads.nd rfl (Or.inl rfl))
        (pss_one (ps_for PassesOwn.never rfl (pi_range1 (by rfl) mr (pa_cons (pv 1) pa_nil)) (pg_name (i := 4) scLeads.nd rfl (Or.inl rfl))
          (pss_one (ps_for PassesOwn.never rfl (pi_range1 (by rfl) mr (pa_cons (pv 1) pa_nil)) (pg_name (i := 5) scLeads.nd rfl (Or.inl rfl))
            (pss_one (ps_asg (pe_or (pe_ix ix_list (pe_ix ix_list (pv 2) (pv 4) (fun _ _ => rfl)) (pv 5) (fun _ _ => rfl)) (pe_one (pe_and (pe_ix ix_list (pe_ix ix_list (pv 2) (pv 4) (fun _ _ => rfl)) (pv 3) (fun _ _ => rfl)) (pe_one (pe_ix ix_list (pe_ix ix_list (pv 2) (pv 3) (fun _ _ => rfl)) (pv 5) (fun _ _ => rfl))))))
              (pg_sub (pe_ix ix_list (pv 2) (pv 4) (fun _ _ => rfl)) (pv 5) set_list))))))))
      (pss_one (ps_ret (pv 2)))), ?_⟩
    -- the matrix at first
    refine ⟨_, rfl, (n : Int), rfl, by omega, by omega, fun D hD => ?_⟩
    rw [Int.toNat_natCast]
    have ul := tu.len
    refine lc_range (n := n) (fun i H' => ∃ rs : List Addr, H' D = some (.lst (rs.map V.ref)) ∧ rs.length = i ∧ rs.Nodup ∧ D ∉ rs ∧ Same H H' ∧ ∀ a r, rs[a]? = some r → H r = none ∧ H' r = some (.lst ((List.range n).map fun j => V.bl (decide ((a, j) ∈ ts.map pr2)))))
      ⟨[], upd_same, rfl, List.nodup_nil, List.not_mem_nil, same_new hD, fun a r e => by simp at e⟩ (fun i H1 hi hp => ?_) (fun H1 hp => ?_)
    · obtain ⟨rs, e1, rl, rn, Dr, s1, rr⟩ := hp
      refine ⟨rfl, ?_⟩
      refine ⟨_, rfl, (n : Int), rfl, by omega, by omega, fun D2 hD2 => ?_⟩
      rw [Int.toNat_natCast]
      have DD2 : D ≠ D2 := ne_of_none e1 hD2
      have hD20 : H D2 = none := free_same s1 hD2
      refine lc_range (n := n) (fun j H' => Same H1 H' ∧ H' D2 = some (.lst ((List.range j).map fun b => V.bl (decide ((i, b) ∈ ts.map pr2)))))
        ⟨same_new hD2, by rw [List.range_zero]; exact upd_same⟩ (fun j H2 hj hp => ?_) (fun H2 hp => ?_)
      · obtain ⟨s2, e2⟩ := hp
        refine ⟨rfl, ?_⟩
        refine ⟨_, rfl, _, rfl, by show 2 ≤ sizeLine; decide, fun t ht => ?_⟩
        have s3 := same_new (o := .tup [.int (0 + (i : Int)), .int (0 + (j : Int))]) ht
        have et3 : upd H2 t (.tup [.int (0 + (i : Int)), .int (0 + (j : Int))]) t = some (.tup [.int (0 + (i : Int)), .int (0 + (j : Int))]) := upd_same
        generalize upd H2 t (.tup [.int (0 + (i : Int)), .int (0 + (j : Int))]) = H3 at *
        have s03 := (s1.trans s2).trans s3
        refine ⟨_, rfl, T, rfl, ⟨_, SqL.of (s03 _ _ hT)⟩, fun D3 hD3 => ?_⟩
        refine lc_list (K := K) (xs := us) (fun l H' => Same H3 H' ∧ ∃ ps, H' D3 = some (.lst ps) ∧ Prs H' ps ((ts.take l).map pr2)) ⟨same_new hD3, [], upd_same, .nil⟩ (fun l H' _ hp => SqL.of (hp.1 _ _ (s03 _ _ hT))) (fun l x H4 hx hp => ?_) (fun H4 hp => ?_)
        · obtain ⟨s4, ps, e4, pr⟩ := hp
          obtain ⟨t', l', a, b, ls, rfl, et, ht', hl'⟩ := tu.at hx
          have il : l < us.length := (List.getElem?_eq_some_iff.mp hx).1
          have lp := pr.len
          rw [List.length_map, List.length_take] at lp
          refine ⟨rfl, ?_⟩
          refine ⟨_, rfl, 2, rfl, t', _, rfl, SqT.of (s4 _ _ (s03 _ _ ht')), cutne (n := 0), fun p2 hp2 => ?_⟩
          have s5 := same_new (o := .tup [.int (a : Nat), .int (b : Nat)]) hp2
          have e5 := s5 _ _ e4
          refine ⟨ps, e5, small1000 (by omega), keep_new hD3 (s4.trans s5), ps ++ [.ref p2], upd_same, ?_⟩
          rw [take_map et]
          exact ((pr.tk (tk_same s5)).app (.cons upd_same .nil)).tk (tk_lst e5)
        · obtain ⟨s4, ps, e4, pr⟩ := hp
          rw [ul, List.take_length] at pr
          refine ⟨dP (i, j), (ts.map pr2).map dP, ?_, .lst (SqL.of e4) pr.dp, (dP_pl _).shaped (by decide), Sf.shaped_list (n := 1) (fun d hd => ?_) (by decide), ?_⟩
          · have z := s4 _ _ et3
            rw [Int.zero_add, Int.zero_add] at z
            exact .tup (SqT.of z) (.cons (.int _) (.cons (.int _) .nil))
          · obtain ⟨p, _, rfl⟩ := List.mem_map.mp hd
            exact dP_pl p
          · rw [any_mem]
            have e24 := s4 _ _ (s3 _ _ e2)
            refine ⟨_, e24, by rw [List.length_map, List.length_range]; exact small1000 (by omega), keep_new hD2 (s2.trans (s3.trans s4)), ?_⟩
            rw [upd_same, List.range_succ, List.map_append]
            rfl
      · obtain ⟨s2, e2⟩ := hp
        have e12 := s2 _ _ e1
        refine ⟨_, e12, by rw [List.length_map]; exact small1000 (by omega), rs ++ [D2], ?_, ?_, ?_, ?_, keep_new hD (s1.trans s2), fun a r e => ?_⟩
        · rw [upd_same, List.map_append]
          rfl
        · rw [List.length_append, rl]
          rfl
        · rw [List.nodup_append]
          refine ⟨rn, List.nodup_cons.mpr ⟨List.not_mem_nil, List.nodup_nil⟩, fun a ha b hb e => ?_⟩
          rw [List.mem_singleton.mp hb] at e
          obtain ⟨c, hc⟩ := List.mem_iff_getElem?.mp ha
          have := (rr c a hc).2
          rw [e, hD2] at this
          cases this
        · intro z
          rcases List.mem_append.mp z with z | z
          · exact Dr z
          · exact DD2 (List.mem_singleton.mp z)
        · by_cases c : a < rs.length
          · rw [List.getElem?_append_left c] at e
            obtain ⟨g1, g2⟩ := rr a r e
            refine ⟨g1, ?_⟩
            rw [upd_ne (fun z => by rw [z] at e; exact Dr (List.mem_of_getElem? e))]
            exact s2 _ _ g2
          · rw [List.getElem?_append_right (by omega)] at e
            have ea : a = i := by
              have := (List.getElem?_eq_some_iff.mp e).1
              simp at this
              omega
            subst ea
            rw [rl, Nat.sub_self] at e
            cases e
            refine ⟨hD20, ?_⟩
            rw [upd_ne DD2.symm]
            exact e2
    obtain ⟨rs, e1, rl, rn, Dr, s1, rr⟩ := hp
    have m1 : MatA H H1 D n (fun a j => decide ((a, j) ∈ ts.map pr2)) := ⟨rs, e1, hD, rl, rn, Dr, rr⟩
    have hE : ∀ i j, (i, j) ∈ ts.map pr2 → i < n ∧ j < n := fun i j h => by
      obtain ⟨t, ht, e⟩ := List.mem_map.mp h
      cases e
      exact bd t ht
    -- by each entry
    refine ⟨_, rfl, (n : Int), rfl, by omega, by omega, ?_⟩
    rw [Int.toNat_natCast]
    refine for_range (n := n) (fun k σ H' => ∃ M x3 x4 x5, σ = [some (.ref T), some (.int n), some (.ref D), x3, x4, x5, none] ∧ Same H H' ∧ MatA H H' D n M ∧ ∀ i j, M i j = true ↔ Pk (fun i j => (i, j) ∈ ts.map pr2) k i j)
      ⟨_, _, _, _, rfl, s1, m1, fun i j => by rw [pk_zero]; exact decide_eq_true_iff⟩ (fun k' σ H2 hk hp => ?_) (fun σ H2 hp => ?_)
    · obtain ⟨M, x3, x4, x5, rfl, s2, m2, iff⟩ := hp
      refine ⟨_, rfl, (n : Int), rfl, by omega, by omega, ?_⟩
      rw [Int.toNat_natCast]
      refine for_range (n := n) (fun i σ H' => ∃ M x4 x5, σ = [some (.ref T), some (.int n), some (.ref D), some (.int (0 + (k' : Int))), x4, x5, none] ∧ Same H H' ∧ MatA H H' D n M ∧ Wsh (fun i j => (i, j) ∈ ts.map pr2) k' M (fun a b => a < i ∧ b < n))
        ⟨_, _, _, rfl, s2, m2, (wsh_begin iff).weak fun a b h => absurd h.1 (Nat.not_lt_zero a)⟩ (fun i σ H3 hi hp => ?_) (fun σ H3 hp => ?_)
      · obtain ⟨M, x4, x5, rfl, s3, m3, W⟩ := hp
        refine ⟨_, rfl, (n : Int), rfl, by omega, by omega, ?_⟩
        rw [Int.toNat_natCast]
        refine for_range (n := n) (fun j σ H' => ∃ M x5, σ = [some (.ref T), some (.int n), some (.ref D), some (.int (0 + (k' : Int))), some (.int (0 + (i : Int))), x5, none] ∧ Same H H' ∧ MatA H H' D n M ∧ Wsh (fun i j => (i, j) ∈ ts.map pr2) k' M (fun a b => (a < i ∧ b < n) ∨ (a = i ∧ b < j)))
          ⟨_, _, rfl, s3, m3, W.weak fun a b h => h.elim id fun z => absurd z.2 (Nat.not_lt_zero b)⟩ (fun j σ H4 hj hp => ?_) (fun σ H4 hp => ?_)
        · obtain ⟨M, x5, rfl, s4, m4, W⟩ := hp
          obtain ⟨rs1, r1, hL, at1, hr1, f1, up⟩ := m4.at hi
          obtain ⟨rs2, r2, hL2, at2, hr2, _, _⟩ := m4.at hk
          have z1 : ∀ {xs : List V} {i : Nat} {v : V}, atI xs (i : Nat) = some v → atI xs (0 + (i : Int)) = some v := fun h => by
            rw [Int.zero_add]
            exact h
          have W' := (wsh_put W i j).weak (d2 := fun a b => (a < i ∧ b < n) ∨ (a = i ∧ b < j + 1)) (fun a b h => by
            rcases h with h | h
            · exact .inl (.inl h)
            · by_cases c : b = j
              · exact .inr ⟨h.1, c⟩
              · exact .inl (.inr ⟨h.1, by omega⟩))
          have s5 : ∀ v, Same H (upd H4 r1 (.lst (((List.range n).map fun j => V.bl (M i j)).set j (.bl v)))) := fun v => keep_new f1 s4
          have ixn : ixN ((List.range n).map fun j => V.bl (M i j)).length (0 + (j : Int)) = some j := ix0 (by rw [List.length_map, List.length_range]; exact hj)
          refine ⟨_, rfl, _, rfl, D, _, _, _, rfl, rfl, SqL.of hL, z1 at1, _, rfl, r1, _, _, _, rfl, rfl, SqL.of hr1, z1 (row_at hj), _, rfl, ?_⟩
          cases c1 : M i j with
          | true =>
            rw [c1, Bool.true_or] at W'
            exact iteT ⟨_, rfl, _, rfl, D, _, _, _, rfl, rfl, SqL.of hL, z1 at1, _, rfl, r1, _, _, j, rfl, rfl, hr1, ixn, _, _, rfl, s5 _, up j true, W'⟩
          | false =>
            refine iteF ⟨_, rfl, _, rfl, D, _, _, _, rfl, rfl, SqL.of hL, z1 at1, _, rfl, r1, _, _, _, rfl, rfl, SqL.of hr1, z1 (row_at hk), _, rfl, ?_⟩
            cases c2 : M i k' with
            | true =>
              refine iteT ⟨_, rfl, _, rfl, D, _, _, _, rfl, rfl, SqL.of hL2, z1 at2, _, rfl, r2, _, _, _, rfl, rfl, SqL.of hr2, z1 (row_at hj), ?_⟩
              rw [c1, c2, Bool.false_or, Bool.true_and] at W'
              exact ⟨_, rfl, _, rfl, D, _, _, _, rfl, rfl, SqL.of hL, z1 at1, _, rfl, r1, _, _, j, rfl, rfl, hr1, ixn, _, _, rfl, s5 _, up j _, W'⟩
            | false =>
              rw [c1, c2, Bool.false_or, Bool.false_and] at W'
              exact iteF ⟨_, rfl, _, rfl, D, _, _, _, rfl, rfl, SqL.of hL, z1 at1, _, rfl, r1, _, _, j, rfl, rfl, hr1, ixn, _, _, rfl, s5 _, up j false, W'⟩
        · obtain ⟨M, x5, rfl, s4, m4, W⟩ := hp
          exact ⟨M, _, _, rfl, s4, m4, W.weak fun a b h => by
            by_cases c : a = i
            · exact .inr ⟨c, h.2⟩
            · exact .inl ⟨by omega, h.2⟩⟩
      · obtain ⟨M, x4, x5, rfl, s3, m3, W⟩ := hp
        exact ⟨M, _, _, _, rfl, s3, m3, wsh_end hE W fun i j hi hj => ⟨hi, hj⟩⟩
    · obtain ⟨M, x3, x4, x5, rfl, s2, m2, iff⟩ := hp
      exact ⟨_, rfl, q H2 D M s2 m2 iff⟩
end
end W34

namespace Sf
open PySem PySem.Spec PyProof.Rows L2
/-! ### data that may be shown: its text is at most L long -/
structure Shw (L : Nat) (d : PyData) : Prop where
  s : d.showable = true
  n : d.hasDict = false
  l : d.shown.length ≤ L
theorem Shw.mono {L M : Nat} {d : PyData} (h : Shw L d) (e : L ≤ M) : Shw M d := ⟨h.s, h.n, Nat.le_trans h.l e⟩
theorem shw_int {i : Int} (h : i.natAbs.log2 < 1920) : Shw 1921 (.int i) := by
  refine ⟨by rw [PyData.showable]; exact decide_eq_true h, by simp [PyData.hasDict], ?_⟩
  rw [PyData.shown]
  exact int_text_len_1921 h
theorem shw_str {z : Str} {L : Nat} (h : (reprText z).length ≤ L) : Shw L (.str z) := ⟨by simp [PyData.showable], by simp [PyData.hasDict], by rw [PyData.shown]; exact h⟩
theorem shw1 {a : Nat} {d : PyData} (h : Shw a d) : Shw (a + 4) (.tuple [d]) := by
  refine ⟨by simp [PyData.showable, PyData.showableAll, h.s], by simp [PyData.hasDict, PyData.hasDictAll, h.n], ?_⟩
  have z := fmt_text [d.shown]
  rw [piled_cons, piled_nil] at z
  have e : PyData.shown (.tuple [d]) = tupleText [d.shown] := by simp only [PyData.shown, PyData.shownAll]
  have := h.l
  rw [e]
  omega
theorem shw2 {a b : Nat} {d e : PyData} (h : Shw a d) (g : Shw b e) : Shw (a + b + 6) (.tuple [d, e]) := by
  refine ⟨by simp [PyData.showable, PyData.showableAll, h.s, g.s], by simp [PyData.hasDict, PyData.hasDictAll, h.n, g.n], ?_⟩
  have z := fmt_text [d.shown, e.shown]
  rw [piled_cons, piled_cons, piled_nil] at z
  have q : PyData.shown (.tuple [d, e]) = tupleText [d.shown, e.shown] := by simp only [PyData.shown, PyData.shownAll]
  have := h.l
  have := g.l
  rw [q]
  omega
theorem shw3 {a b c : Nat} {d e f : PyData} (h : Shw a d) (g : Shw b e) (k : Shw c f) : Shw (a + b + c + 8) (.tuple [d, e, f]) := by
  refine ⟨by simp [PyData.showable, PyData.showableAll, h.s, g.s, k.s], by simp [PyData.hasDict, PyData.hasDictAll, h.n, g.n, k.n], ?_⟩
  have z := fmt_text [d.shown, e.shown, f.shown]
  rw [piled_cons, piled_cons, piled_cons, piled_nil] at z
  have q : PyData.shown (.tuple [d, e, f]) = tupleText [d.shown, e.shown, f.shown] := by simp only [PyData.shown, PyData.shownAll]
  have := h.l
  have := g.l
  have := k.l
  rw [q]
  omega
theorem shwAll {L : Nat} : ∀ {ds : List PyData}, (∀ d ∈ ds, Shw L d) → PyData.showableAll ds = true ∧ PyData.hasDictAll ds = false ∧ piled (PyData.shownAll ds) ≤ ds.length * (L + 2)
  | [], _ => ⟨rfl, rfl, Nat.zero_le _⟩
  | d :: ds, h => by
    obtain ⟨h1, h2, h3⟩ := shwAll (ds := ds) fun e he => h e (List.mem_cons_of_mem _ he)
    have g := h d List.mem_cons_self
    have := g.l
    refine ⟨by rw [PyData.showableAll, g.s, h1]; rfl, by rw [PyData.hasDictAll, g.n, h2]; rfl, ?_⟩
    rw [PyData.shownAll, piled_cons, List.length_cons, Nat.succ_mul]
    omega
theorem shwN {L : Nat} {ds : List PyData} (h : ∀ d ∈ ds, Shw L d) : Shw (ds.length * (L + 2) + 2) (.tuple ds) := by
  obtain ⟨h1, h2, h3⟩ := shwAll h
  refine ⟨by rw [PyData.showable]; exact h1, by rw [PyData.hasDict]; exact h2, ?_⟩
  have z := fmt_text (PyData.shownAll ds)
  rw [PyData.shown]
  omega
theorem shwL {L : Nat} {ds : List PyData} (h : ∀ d ∈ ds, Shw L d) (z : (listText (PyData.shownAll ds)).length ≤ piled (PyData.shownAll ds) + 2) : Shw (ds.length * (L + 2) + 2) (.list ds) := by
  obtain ⟨h1, h2, h3⟩ := shwAll h
  refine ⟨by rw [PyData.showable]; exact h1, by rw [PyData.hasDict]; exact h2, ?_⟩
  rw [PyData.shown]
  omega
/-- a saying whose atoms may be shown -/
def ShOk : Sy → Prop
  | .yes => True
  | .at w r => Shw 12200 (dAt w r)
  | .un _ s => ShOk s
  | .bi _ s t => ShOk s ∧ ShOk t
theorem shw_sy {n : Nat} {s : Sy} (h : SyOk n s) : ShOk s → Shw (12300 * 2 ^ n - 60) (dSy s) := by
  induction h with
  | @yes n =>
    intro _
    have p : 1 ≤ 2 ^ n := Nat.one_le_two_pow
    exact (shw1 (shw_str (L := 30) (by decide +kernel))).mono (by rw [Nat.pow_succ]; omega)
  | @«at» n w r a =>
    intro g
    have p : 1 ≤ 2 ^ n := Nat.one_le_two_pow
    exact Shw.mono g (by rw [Nat.pow_succ]; omega)
  | @un n w s a ih =>
    intro g
    have p : 1 ≤ 2 ^ n := Nat.one_le_two_pow
    have z : Shw 30 (.str w.s) := shw_str (by cases w <;> decide +kernel)
    exact (shw2 z (ih g)).mono (by rw [Nat.pow_succ]; omega)
  | @bi n w s t a b i1 i2 =>
    intro g
    have p : 1 ≤ 2 ^ n := Nat.one_le_two_pow
    have z : Shw 30 (.str w.s) := shw_str (by cases w <;> decide +kernel)
    exact (shw3 z (i1 g.1) (i2 g.2)).mono (by rw [Nat.pow_succ]; omega)
end Sf

namespace Gs
open PySem PySem.Spec PyProof.Rows L2
section
variable {P : Program} {w : World} {K : PySem.W.Frag} {mg : Str → Option Value} {f : Addr}
/-- a def's body, run at one place alone -/
theorem body_at {A : Around} {base : Heap} {name qual : Str} {params : Arguments} {body : List Stmt} {scope : Scope} {dV kV doc pm cdv ct oc : Value} {an od : Option Addr} {osl : Array (Option Value)}
    {N ps : List Str} {k : Nat} {s : Shared} {H : Hp} {vs : List V} {us : List Value} {args : Args} {Q : VK} {E : XK}
    (lk : K.lookup f = some ⟨oc, od, .func (PySem.W.fnOf name qual params body scope dV kV doc pm an cdv ct), osl⟩)
    (hcd : PySem.W.codeIn K cdv qual = true) (S : FnScope N ps scope) (hl : vs.length = ps.length) (hr : Room (k + 1) A)
    (e0 : Env0 P w K mg base A [] s H) (hb : BindsTo s (PySem.W.fnOf name qual params body scope dV kV doc pm an cdv ct) args (ps.zip us)) (r : Vals vs us)
    (hbody : Room k (A.deeper (envOfC qual scope s.heap.objs.size f cdv)) →
      ∃ t, PSs (cxOf CX0 P w K mg base N qual scope f cdv A [] s H E).nox body t ∧
        t { nx := fun _ H' => Q .non H', rt := Q } (start N vs) H) :
    codeAny (model P w) A (.call (.ref f) args) (CR CX0 [] P w H s Q E) s := by
  have kk : ∀ b o, base.get? b = some o → s.heap.get? b = some o := fun b o e => (e0.bs b o e).1
  have KX : K.In s.heap := e0.mod.kin.keeps kk
  have lim : s.heap.NoLimit := e0.mod.nolimit.keeps kk
  have kinds : ∀ q ∈ ps.zip us, scope.names.lookup q.1 = some .local ∨
      (scope.names.lookup q.1 = some .cell ∧ ((cellsFrom (s.heap.objs.size + 1) scope.names []).lookup q.1).isSome = true) := by
    intro q hq
    rcases S.par q.1 (List.of_mem_zip (a := q.1) (b := q.2) hq).1 with z | z
    · exact .inl z
    · exact .inr ⟨z, PySem.W.cellsFrom_some _ _ _ (.inl z)⟩
  refine codeAny_call_function hr.depth (KX _ _ lk) rfl S.co S.gen rfl (PySem.W.codeRec_of KX hcd) (hb _ _ _ _ ?_)
  refine wpAny_newFunctionEnv_cells S.kind kinds fun env he s1 x => ?_
  subst he
  refine ⟨lim.keeps x.toInCall.keep, codeAny_func ?_⟩
  obtain ⟨t, ht, hq⟩ := hbody (hr.deeper _)
  have I : Inv (cxOf CX0 P w K mg base N qual scope f cdv A [] s H E) [] (start N vs) H s1 := inv_start S hr.hd e0 hl r x
  refine wpAny_mono (ht.nox.run [] s1 (start N vs) H _ I hq) (fun fl s' hs => ?_) fun e s' hs => hs
  cases fl with
  | ret u =>
    obtain ⟨v, σ', H', J, rv, q⟩ := hs
    exact ⟨v, H', J.os, J.bare, J.base, J.hok, rv, q⟩
  | next =>
    obtain ⟨σ', H', J, q⟩ := hs
    exact ⟨.non, H', J.os, J.bare, J.base, J.hok, rfl, q⟩
  | brk =>
    obtain ⟨_, _, _, q⟩ := hs
    exact q.elim
  | cont =>
    obtain ⟨_, _, _, q⟩ := hs
    exact q.elim
/-- the law's call, from the promise at the caller's own place -/
theorem law_at {mb : Str → Option Value} {a : Addr} {s₁ : Shared} {vs : List Value} {ns : List Int}
    (KX : K.In s₁.heap) (hns : s₁.heap.Ns mainGlobals mg) (hbt : s₁.heap.Ns builtinsNs mb) (hbb : ∀ x : Str, x ≠ "__name__" → mb x = bootBuiltins x)
    (hlim : s₁.heap.NoLimit) (hg : s₁.gens = #[])
    (ha : s₁.heap.get? a = some { cls := .type "list", data := .seq vs.toArray }) (hi : IntsAre vs ns) (hl : ns.length ≤ sizeLine)
    (F : ∀ (base : Heap) (H : Hp), K.In base → base.Ns mainGlobals mg → SqL K H a (ns.map V.int) → Env0 P w K mg base callerA [] s₁ H →
      codeAny (model P w) callerA (.call (.ref f) ⟨[.ref a], []⟩) (CR CX0 [] P w H s₁ (fun v _ => v = .bl true) fun _ _ _ => False) s₁) :
    codeAny (model P w) callerA (.call (.ref f) ⟨[.ref a], []⟩)
      (fun r s' => r = .ok (.ret (.bool true)) ∧ OldK s₁.heap s'.heap ∧ s'.os = s₁.os ∧ AllBare s'.gens) s₁ := by
  have rv := vals_ints hi
  let so : Obj := { cls := .type "list", data := .seq vs.toArray }
  have go : ∀ H : Hp, (∀ b u, H b = some u → b = a ∧ u = .frz so (.lst (ns.map V.int)) ∧ K.lookup a = none) → SqL K H a (ns.map V.int) → HOk P w H s₁.heap →
      codeAny (model P w) callerA (.call (.ref f) ⟨[.ref a], []⟩)
        (fun r s' => r = .ok (.ret (.bool true)) ∧ OldK s₁.heap s'.heap ∧ s'.os = s₁.os ∧ AllBare s'.gens) s₁ := by
    intro H hH hS hok
    have stays : ∀ {b : Addr} {o : Obj}, s₁.heap.get? b = some o → b ≠ a → (hidT s₁.heap H).get? b = some o := by
      intro b o e nb
      refine hidT_get e ?_
      cases q : H b with
      | none => rfl
      | some u => exact absurd (hH b u q).1 nb
    have nsd : ∀ {b : Addr} {m : Str → Option Value}, s₁.heap.Ns b m → (hidT s₁.heap H).Ns b m := by
      intro b m ⟨o, es, ep, e, d, z⟩
      refine ⟨o, es, ep, stays e ?_, d, z⟩
      intro eb
      subst eb
      rw [ha] at e
      cases e
      have d' : Data.seq vs.toArray _ = Data.dict es ep := d
      cases d'
    have kin : K.In (hidT s₁.heap H) := by
      intro b o e
      refine hidT_get (KX b o e) ?_
      cases q : H b with
      | none => rfl
      | some u =>
        obtain ⟨e1, _, e2⟩ := hH b u q
        rw [e1, e2] at e
        cases e
    have md : Mod K mg (hidT s₁.heap H) := by
      obtain ⟨mc, h1, h2⟩ := hlim
      exact ⟨kin, nsd hns, ⟨mb, nsd hbt, hbb⟩, ⟨mc, nsd h1, h2⟩⟩
    have e0 : Env0 P w K mg (hidT s₁.heap H) callerA [] s₁ H := by
      refine ⟨rfl, md, fun b o e => of_hidT e, Nat.le_of_eq (hidT_size _ _), trivial, ?_, hok, .of_eq hg⟩
      intro b z
      exact absurd (show b ∈ ([] : List Addr) from z) List.not_mem_nil
    refine codeAny_mono (F _ H kin (nsd hns) hS e0) fun r s' h => ?_
    cases r with
    | error e => exact False.elim h
    | ok fl =>
      cases fl with
      | next => exact False.elim h
      | brk => exact False.elim h
      | cont => exact False.elim h
      | ret u =>
        obtain ⟨v, H', os, bare, un, hok', r', q⟩ := h
        have q' : v = .bl true := q
        subst q'
        obtain rfl : u = Value.bool true := r'
        refine ⟨rfl, OldK.of_keep fun b o e => ?_, os, bare⟩
        cases q : H b with
        | none =>
          exact un.keep b o e q (fun z => absurd (show b ∈ ([] : List Addr) from z) List.not_mem_nil) List.not_mem_nil
        | some u =>
          obtain ⟨e1, e2, _⟩ := hH b u q
          rw [e2] at q
          have z2 := un.frzs b so _ q
          obtain ⟨e3, _⟩ := hok' b _ z2
          rw [e1, ha] at e
          cases e
          exact e3
  cases hk : K.lookup a with
  | some o =>
    have e := KX a o hk
    rw [ha] at e
    cases e
    refine go (fun _ => none) (fun b u z => by cases z) (.inr ⟨_, vs.toArray, _, hk, rfl, rfl, rfl, ?_, by simpa using rv⟩) (fun b u z => by cases z)
    rw [List.size_toArray, hi.length]
    exact hl
  | none =>
    refine go (fun b => if b = a then some (.frz so (.lst (ns.map V.int))) else none) (fun b u z => ?_) (.inl (.inr ⟨so, if_pos rfl⟩)) (fun b u z => ?_)
    · by_cases eb : b = a
      · have z' := (if_pos eb).symm.trans z
        cases z'
        exact ⟨eb, rfl, hk⟩
      · have z' := (if_neg eb).symm.trans z
        cases z'
    · by_cases eb : b = a
      · have z' := (if_pos eb).symm.trans z
        cases z'
        subst eb
        exact ⟨ha, by rw [List.length_map]; exact hl, vs, _, rv, ha⟩
      · have z' := (if_neg eb).symm.trans z
        cases z'
end
/-- the goal that the head leaves -/
theorem walk_at1 {l : PySem.W.OpenLaw} {n : Nat} {q : Program} {loose : List Str} {XP : (Str → Option Value) → Heap → Prop} {YP : World → Heap → Prop} {d : DefRec} {K : Params → PySem.W.Frag}
    (hn : l.most = some n) (hn2 : n ≤ sizeLine) (hdf : d.params.defaults = [])
    (hY : ∀ (w : World) (h : Heap), YP w h → (K w.params).In h)
    (F : ∀ (w : World) (mg : Str → Option Value) (fa : Addr) (h : Heap), (K w.params).In h → h.Ns mainGlobals mg → mg d.name = some (.ref fa) →
      ∀ (base : Heap) (H : Hp) (s : Shared) (a : Addr) (ns : List Int), ns.length ≤ n → (K w.params).In base → base.Ns mainGlobals mg →
        SqL (K w.params) H a (ns.map V.int) → Env0 l.prog w (K w.params) mg base callerA [] s H →
        codeAny (model l.prog w) callerA (.call (.ref fa) ⟨[.ref a], []⟩) (CR CX0 [] l.prog w H s (fun v _ => v = .bl true) fun _ _ _ => False) s) :
    PySem.W.WalkO q loose XP YP l.row.toRowW d [] (fun f vs => PySem.call f vs) := by
  refine Att.attach_call hn hdf fun w s₀ s₁ mg mb fa o pm cd doc a vs ns G Y ho hd hcd hmg hobj hints hlen hg => ?_
  have KX := hY w _ Y
  refine law_at KX G.T.g G.T.b G.T.builtins G.T.nolimit hg hobj hints (Nat.le_trans hlen hn2) fun base H h1 h2 h3 h4 => ?_
  exact F w mg fa _ KX G.T.g hmg base H s₁ a ns hlen h1 h2 h3 h4
end Gs

namespace Gs
open PySem PySem.Spec PyProof.Rows L2
/-! ### defs that show data as text: promised where no repr is under way -/
structure FnG (P : Program) (w : World) (K : PySem.W.Frag) (mg : Str → Option Value) (base : Heap) (CX : CXT) (k : Nat) (f : Addr) (fd : FuncData) (ps : List Str) (sp : Sp) : Prop where
  len : ∀ vs H Q E, sp vs H Q E → vs.length = ps.length
  run : ∀ (A : Around) (outer : List Env) (s : Shared) (H : Hp) (args : Args) (us : List Value) (vs : List V) (Q : VK) (E : XK), A.guards = some [] → Room k A →
    Env0 P w K mg base A outer s H → BindsTo s fd args (ps.zip us) → Vals vs us → sp vs H Q E →
    codeAny (model P w) A (.call (.ref f) args) (CR CX outer P w H s Q E) s
section
variable {P : Program} {w : World} {K : PySem.W.Frag} {mg : Str → Option Value} {base : Heap}
theorem body_any {CX : CXT} {A : Around} {outer : List Env} {f : Addr} {name qual : Str} {params : Arguments} {body : List Stmt} {scope : Scope} {dV kV doc pm cdv ct oc : Value} {an od : Option Addr} {osl : Array (Option Value)}
    {N ps : List Str} {k : Nat} {s : Shared} {H : Hp} {vs : List V} {us : List Value} {args : Args} {Q : VK} {E : XK}
    (lk : K.lookup f = some ⟨oc, od, .func (PySem.W.fnOf name qual params body scope dV kV doc pm an cdv ct), osl⟩)
    (hcd : PySem.W.codeIn K cdv qual = true) (S : FnScope N ps scope) (hl : vs.length = ps.length) (hr : Room (k + 1) A)
    (e0 : Env0 P w K mg base A outer s H) (hb : BindsTo s (PySem.W.fnOf name qual params body scope dV kV doc pm an cdv ct) args (ps.zip us)) (r : Vals vs us)
    (hbody : Room k (A.deeper (envOfC qual scope s.heap.objs.size f cdv)) →
      ∃ t, PSs (cxOf CX P w K mg base N qual scope f cdv A outer s H E) body t ∧
        t { nx := fun _ H' => Q .non H', rt := Q } (start N vs) H) :
    codeAny (model P w) A (.call (.ref f) args) (CR CX outer P w H s Q E) s := by
  have kk : ∀ b o, base.get? b = some o → s.heap.get? b = some o := fun b o e => (e0.bs b o e).1
  have KX : K.In s.heap := e0.mod.kin.keeps kk
  have lim : s.heap.NoLimit := e0.mod.nolimit.keeps kk
  have kinds : ∀ q ∈ ps.zip us, scope.names.lookup q.1 = some .local ∨
      (scope.names.lookup q.1 = some .cell ∧ ((cellsFrom (s.heap.objs.size + 1) scope.names []).lookup q.1).isSome = true) := by
    intro q hq
    rcases S.par q.1 (List.of_mem_zip (a := q.1) (b := q.2) hq).1 with z | z
    · exact .inl z
    · exact .inr ⟨z, PySem.W.cellsFrom_some _ _ _ (.inl z)⟩
  refine codeAny_call_function hr.depth (KX _ _ lk) rfl S.co S.gen rfl (PySem.W.codeRec_of KX hcd) (hb _ _ _ _ ?_)
  refine wpAny_newFunctionEnv_cells S.kind kinds fun env he s1 x => ?_
  subst he
  refine ⟨lim.keeps x.toInCall.keep, codeAny_func ?_⟩
  obtain ⟨t, ht, hq⟩ := hbody (hr.deeper _)
  have I : Inv (cxOf CX P w K mg base N qual scope f cdv A outer s H E) [] (start N vs) H s1 := inv_start S hr.hd e0 hl r x
  refine wpAny_mono (ht.run [] s1 (start N vs) H _ I hq) (fun fl s' hs => ?_) fun e s' hs => hs
  cases fl with
  | ret u =>
    obtain ⟨v, σ', H', J, rv, q⟩ := hs
    exact ⟨v, H', J.os, J.bare, J.base, J.hok, rv, q⟩
  | next =>
    obtain ⟨σ', H', J, q⟩ := hs
    exact ⟨.non, H', J.os, J.bare, J.base, J.hok, rfl, q⟩
  | brk =>
    obtain ⟨_, _, _, q⟩ := hs
    exact q.elim
  | cont =>
    obtain ⟨_, _, _, q⟩ := hs
    exact q.elim
theorem okG {x qual : Str} {st : Stmt} {f : Addr} {fd : FuncData} {N ps : List Str} {k : Nat} {sp : Sp} (F : Fun K x qual st f fd) (S : FnScope N ps (defScope st)) (len : ∀ vs H Q E, sp vs H Q E → vs.length = ps.length)
    (hbody : ∀ (cdv : Value) (A : Around) (outer : List Env) (s : Shared) (H : Hp) (vs : List V) (Q : VK) (E : XK), A.guards = some [] →
      Room k (A.deeper (envOfC qual (defScope st) s.heap.objs.size f cdv)) → sp vs H Q E →
      ∃ t, PSs (cxOf CX0 P w K mg base N qual (defScope st) f cdv A outer s H E).nox (defBody st) t ∧
        t { nx := fun _ H' => Q .non H', rt := Q } (start N vs) H) : FnG P w K mg base CX0 (k + 1) f fd ps sp := by
  obtain ⟨oc, od, kV, doc, pm, an, cdv, ct, osl, rfl, lk, hcd⟩ := F.ex
  refine ⟨len, fun A outer s H args us vs Q E hg hr e0 hb r hsp => ?_⟩
  refine body_any lk hcd S (len _ _ _ _ hsp) hr e0 hb r fun hr' => ?_
  obtain ⟨t, h1, h2⟩ := hbody cdv A outer s H vs Q E hg hr' hsp
  exact ⟨t, h1.nox, h2⟩
end
section
variable {X : Cx} {CX : CXT} {k : Nat} {f : Addr} {fd : FuncData} {ps : List Str} {sp : Sp} {E : XK} {x : Str} {p pos : Pos} {e : Expr} {es : List Expr} {t : TA}
theorem pe_callG (F : FnG X.prog X.w X.K X.mg X.base CX k f fd ps sp) (gd : X.A.guards = some []) (hr : Room k X.A) (hg : Gl X x) (hm : X.mg x = some (.ref f)) (hk : PySem.W.keepIn X.K (.ref f) = true)
    (hb : Binds X.K fd ps []) (hx : Passes CX X E) (ha : PA X (e :: es) t) (hdb : (x == ("__debug__" : Str)) = false := by decide)
    (he : starEach (e :: es) X.env = (false, eval e X.env) :: starEach es X.env := by rfl) (hpl : (backTo pos (starEach es X.env)).any (·.1) = false := by rfl) :
    PE X (.Call (.Name x p) (e :: es) [] pos) (tCall sp [] E t) := by
  constructor
  intro pins s σ H Q I h
  refine wpAny_Call_Name_kw (ld_glob I hg hm ?_ hdb)
  refine PySem.W.callWith_K (h₀ := X.base) I.ok.mod.kin hk (thn (ha.run pos pins s σ H _ I h) ?_) he hpl
  intro us s1 ⟨vs, H1, I1, r, q⟩
  refine ⟨I1.kIn, ?_⟩
  have q' : sp vs H1 Q E := by
    have z : sp (vs ++ []) H1 Q E := q
    rw [List.append_nil] at z
    exact z
  have hl : (us ++ []).length = ps.length := by
    rw [List.append_nil, ← r.length]
    exact F.len _ _ _ _ q'
  have bt := hb s1 us I1.kIn hl
  rw [List.append_nil] at bt
  refine wpAny_call (codeAny_mono (F.run X.A X.stack s1 H1 ⟨us, []⟩ us vs Q E gd hr I1.env0 bt r q') ?_)
  intro res s' hq
  cases res with
  | error e => exact hx pins σ H1 s1 e s' I1 hq
  | ok fl =>
    cases fl with
    | ret u => exact I1.after hq
    | next => exact hq.elim
    | brk => exact hq.elim
    | cont => exact hq.elim
/-- f(k = v, ..): keywords alone -/
theorem pe_callS0 {ks : List Str} {kws : List Keyword} {tk : TA} {W : L2.St → XK} {g : List Value → List Value → List Value} {gV : List V → List V → List V}
    (F : FnOk X.prog X.w X.K X.mg X.base CX k f fd ps sp) (hr : Room k X.A) (hg : Gl X x) (hm : X.mg x = some (.ref f)) (hk : PySem.W.keepIn X.K (.ref f) = true)
    (hb : KBn X.K fd ps 0 ks g gV) (hx : ∀ σ, PassesAt CX X σ (W σ)) (hkw : PK X kws tk)
    (hall : (backToKw pos (keywordEach kws X.env)).all (·.1.isSome) = true := by rfl) (hks : (backToKw pos (keywordEach kws X.env)).filterMap (·.1) = ks := by rfl)
    (hdb : (x == ("__debug__" : Str)) = false := by decide)
    (hpl : ((backTo pos (starEach [] X.env)).any (·.1) || (backToKw pos (keywordEach kws X.env)).any (·.1.isNone)) = false := by rfl) :
    PE X (.Call (.Name x p) [] kws pos) (fun σ H Q => tk σ H fun zs H1 => zs.length = ks.length ∧ sp (gV [] zs) H1 Q (W σ)) := by
  constructor
  intro pins s σ H Q I h
  refine wpAny_Call_Name_kw (ld_glob I hg hm ?_ hdb)
  refine PySem.W.callWith_KW0 (h₀ := X.base) I.ok.mod.kin hk hall ?_ hpl
  refine thn (hkw.run pos pins s σ H _ I h) ?_
  intro ws s2 ⟨zs, H2, I2, rz, l2, q2⟩
  refine ⟨I2.kIn, ?_⟩
  rw [hks]
  have r2 := hb.rel (vs := []) (us := []) .nil rz
  refine wpAny_call (codeAny_mono (F.run X.A X.stack s2 H2 ⟨[], ks.zip ws⟩ (g [] ws) (gV [] zs) Q (W σ) hr I2.env0 (hb.to s2 [] ws I2.kIn rfl (rz.length.symm.trans l2)) r2 q2) ?_)
  intro res s' hq
  cases res with
  | error e => exact hx σ pins H2 s2 e s' I2 hq
  | ok fl =>
    cases fl with
    | ret u => exact I2.after hq
    | next => exact hq.elim
    | brk => exact hq.elim
    | cont => exact hq.elim
/-- G.__init__(self, ..), G an own class that takes ValueError's -/
theorem pe_ownInit {G : Addr} {mc : Value} {y : Str} {p1 p2 : Pos} {ta : TA} {pl : Sem Bool} (hg : Gl X y) (hm : X.mg y = some (.ref G)) (hdb : (y == ("__debug__" : Str)) = false)
    (hga : PySem.W.specialIn X.K (.ref G) "__getattribute__" = some (some (.builtin "type.__getattribute__"))) (hr : PySem.W.readsIn X.K G mc = true)
    (hv : PySem.W.findCls X.K (.ref G) mc "__init__" = some (.val (.builtin "ValueError.__init__"))) (ha : PA X (e :: es) ta)
    (hc : eval (.Call (.Attribute (.Name y p1) "__init__" p2) (e :: es) [] pos) X.env = (do
      let ov ← eval (.Name y p1) X.env
      standAt p2.atName
      let (f, first) ← holding [ov] (getMethod ov "__init__" pl)
      callWith pos f first (backTo pos (starEach (e :: es) X.env)) (backToKw pos (keywordEach [] X.env))))
    (he : starEach (e :: es) X.env = (false, eval e X.env) :: starEach es X.env) (hpl : (backTo pos (starEach es X.env)).any (·.1) = false) :
    PE X (.Call (.Attribute (.Name y p1) "__init__" p2) (e :: es) [] pos) (tVeI X.K ta) := by
  constructor
  intro pins s σ H Q I h
  refine PySem.W.methodCall_KW (ld_glob I hg hm ?_ hdb) hc
  refine PySem.W.method_cls I.kIn hga (PySem.W.cls_value I.kIn hr hv (by decide +kernel) ?_)
  show wpAny _ _ (callWith pos (Value.builtin "ValueError.__init__") [] (backTo pos (starEach (e :: es) X.env)) []) _ _ _
  refine PyProof.Rows.callWith_method1 (thn (ha.run pos pins _ σ H _ (I.tok _) h) ?_) he hpl
  intro us s1 ⟨vs, H1, I1, r1, a, C, ws, ev, hl, T, ea, q⟩
  subst ev
  cases r1 with
  | @cons _ u0 _ ur ra rw' =>
    obtain rfl : u0 = Value.ref a := ra
    refine oinit_ok T I1 ea ?_ fun s' J => ⟨.non, H1, J, rfl, q⟩
    rw [← Paired.length rw', sizeLine_eq]
    omega
/-- a field of a kept error -/
theorem pe_fldK {C : Addr} {n : Str} {te : TE} (T : XfC X.K C) (hno : PySem.W.findIn X.K (.ref C) n = some none) (he : PE X e te) (hb : attributeBase e n X.env (eval e X.env) = eval e X.env := by rfl) :
    PE X (.Attribute e n pos) (fun σ H Q => te σ H fun z H1 => ∃ (a d : Addr) (fs : List (Str × V)) (v : V), z = .ref a ∧ H1 a = some (ExK (.ref C) (some d) a) ∧ H1 d = some (.xd fs) ∧ fs.lookup n = some v ∧ Q v H1) := by
  constructor
  intro pins s σ H Q I h
  refine attr_of hb (thn (he.run pins s σ H _ I h) ?_)
  intro u s1 ⟨z, H1, I1, rz, a, d, fs, v, ez, ea, ed, l, q⟩
  subst ez
  obtain rfl : u = Value.ref a := rz
  obtain ⟨⟨o, vs, ho, zc, hd⟩, _, _⟩ := I1.hok a _ ea
  obtain ⟨mA, hns, hr⟩ := (show ObjOk X.prog X.w H1 s1.heap d (.xd fs) from I1.hok d _ ed)
  obtain ⟨od, hod, hl⟩ := lookIn_ns hns
  obtain ⟨w, hw, rw'⟩ := RelO.some_of (v := v) (o := mA n) (by rw [← l]; exact hr n)
  have J : PySem.W.InstAt s1.heap a o C (some od) := by
    refine ⟨ho, zc.1, ?_, ?_⟩
    · unfold PySem.W.notCls
      rw [hd] <;> rfl
    · rw [zc.2]
      exact hod
  exact HandSPX.exc_get I1.kIn J T.ga T.gg T.exC (PySem.W.findObj_own T.hdC hno rfl (by rw [hl, hw])) (handed_of rw') ⟨v, H1, I1.tok _, rw', q⟩
end
end Gs

namespace Gr
/-! ### what the law asks of pieces -/
section
variable {es : List Nat} {ts : List (Nat × Nat)} {a b ca cb : Nat} {p q : List Nat}
theorem two_pieces {i j : Nat} {x : Nat} (h1 : (pieces es ts)[i]? = some p) (h2 : (pieces es ts)[j]? = some q) (hx : x ∈ p) (hy : x ∈ q) : i = j := by
  obtain ⟨_, _, pw, _⟩ := pieces_ok es ts
  rw [List.pairwise_iff_getElem] at pw
  obtain ⟨l1, rfl⟩ := List.getElem?_eq_some_iff.mp h1
  obtain ⟨l2, rfl⟩ := List.getElem?_eq_some_iff.mp h2
  rcases Nat.lt_trichotomy i j with l | l | l
  · exact absurd .refl (pw i j l1 l2 l x hy x hx)
  · exact l
  · exact absurd .refl (pw j i l2 l1 l x hx x hy)
theorem same_piece (h1 : (pieces es ts)[ca]? = some p) (h2 : (pieces es ts)[cb]? = some q) (ha : a ∈ p) (hb : b ∈ q) : ca = cb ↔ Mut (adjOf (among es ts)) a b := by
  obtain ⟨_, cls, _, _⟩ := pieces_ok es ts
  have cp := cls p (List.mem_of_getElem? h1) a ha
  have cq := cls q (List.mem_of_getElem? h2) b hb
  constructor
  · intro e
    subst e
    rw [h1] at h2
    cases h2
    exact (cp.2 b cq.1).mp hb
  · intro m
    exact two_pieces h1 h2 ((cp.2 b cq.1).mpr m) hb
theorem ahead_piece (h1 : (pieces es ts)[ca]? = some p) (h2 : (pieces es ts)[cb]? = some q) (ha : a ∈ p) (hb : b ∈ q) (r : R (adjOf (among es ts)) a b) : ca ≤ cb := by
  obtain ⟨_, _, pw, _⟩ := pieces_ok es ts
  rw [List.pairwise_iff_getElem] at pw
  obtain ⟨l1, rfl⟩ := List.getElem?_eq_some_iff.mp h1
  obtain ⟨l2, rfl⟩ := List.getElem?_eq_some_iff.mp h2
  rcases Nat.lt_or_ge cb ca with l | l
  · exact absurd r (pw cb ca l2 l1 l a ha b hb)
  · exact l
theorem mut_leads {ps : List (Nat × Nat)} {n : Nat} {M : Nat → Nat → Bool} (hE : ∀ i j, (i, j) ∈ ps → i < n ∧ j < n) (iff : ∀ i j, M i j = true ↔ Pk (fun i j => (i, j) ∈ ps) n i j) :
    (∀ i j, M i j = true → R (adjOf ps) i j) ∧ ∀ i j, (decide (i = j) || (M i j && M j i)) = true ↔ Mut (adjOf ps) i j := by
  have e : (fun i j => (i, j) ∈ ps) = fun i j => j ∈ adjOf ps i := by
    funext i j
    exact propext adj_mem.symm
  rw [e] at iff
  have hE' : ∀ i j, j ∈ adjOf ps i → i < n ∧ j < n := fun i j h => hE i j (adj_mem.mp h)
  refine ⟨fun i j h => pk_R ((iff i j).mp h), fun i j => ?_⟩
  rw [Bool.or_eq_true, Bool.and_eq_true, decide_eq_true_iff, iff, iff]
  constructor
  · rintro (rfl | ⟨h1, h2⟩)
    · exact .refl
    · exact ⟨pk_R h1, pk_R h2⟩
  · intro m
    rcases R_pk hE' m.1 with e | h1
    · exact .inl e
    · rcases R_pk hE' m.2 with e | h2
      · exact .inl e.symm
      · exact .inr ⟨h1, h2⟩
end
end Gr
namespace W34
open PySem PySem.Spec PyProof.Rows L2 Gs Gp Gr
/-! ### data of entries -/
def dI (x : Nat) : PyData := .int x
def dL (p : List Nat) : PyData := .list (p.map dI)
theorem ints_dp {K : PySem.W.Frag} {H : Hp} : ∀ p : List Nat, DpAll K H (p.map vI) (p.map dI)
  | [] => .nil
  | x :: p => .cons (.int _) (ints_dp p)
theorem lst_dp {K : PySem.W.Frag} {H : Hp} {a : Addr} {p : List Nat} (h : H a = some (.lst (p.map vI))) : Dp K H (.ref a) (dL p) := .lst (SqL.of h) (ints_dp p)
theorem Lss.dp {K : PySem.W.Frag} {H : Hp} : ∀ {us : List V} {ps : List (List Nat)}, Lss H us ps → DpAll K H us (ps.map dL)
  | _, _, .nil => .nil
  | _, _, .cons h r => .cons (lst_dp h) r.dp
theorem dL_sh (p : List Nat) : SeqAt.shaped (dL p) = true := Sf.shaped_list (n := 0) (fun d hd => by
  obtain ⟨x, _, rfl⟩ := List.mem_map.mp hd
  exact Sf.pl_int) (by decide)
theorem dL_self (p : List Nat) : PyData.eqv (dL p) (dL p) = true := SeqAt.eqv_refl _ (by
  have := dL_sh p
  unfold SeqAt.shaped at this
  rw [Bool.and_eq_true] at this
  exact this.1)
theorem dL_nil {p : List Nat} (h : p ≠ []) : PyData.eqv (dL p) (dL []) = false := by
  cases p with
  | nil => exact absurd rfl h
  | cons x p => simp [dL, PyData.eqv, PyData.eqvAll]
theorem txt_le : ∀ (ts : List Str) (k : Nat) (acc : Str), (textFrom k acc ts).length ≤ acc.length + piled ts
  | [], k, acc => by
    show acc.length ≤ _
    omega
  | t :: ts, k, acc => by
    rw [textFrom, piled_cons]
    refine Nat.le_trans (txt_le ts _ _) ?_
    split
    · rw [strLen_append, strLen_append]
      have e2 : ((", " : String) : Str).length = 2 := rfl
      omega
    · rw [strLen_append, strLen_append]
      have e2 : (("" : String) : Str).length = 0 := rfl
      omega
theorem lst_txt (ts : List Str) : (listText ts).length ≤ piled ts + 2 := by
  rw [listText, strLen_append]
  have h := txt_le ts 0 "["
  have e1 : (("[" : String) : Str).length = 1 := rfl
  have e2 : (("]" : String) : Str).length = 1 := rfl
  omega
theorem dL_shw {p : List Nat} (h : ∀ x ∈ p, x < 1000) (l : p.length ≤ 100) : Sf.Shw 200000 (dL p) := by
  refine (Sf.shwL (L := 1921) (fun d hd => ?_) (lst_txt _)).mono ?_
  · obtain ⟨x, hx, rfl⟩ := List.mem_map.mp hd
    refine Sf.shw_int ?_
    have := h x hx
    have e : ((x : Int)).natAbs = x := by omega
    rw [e]
    exact Nat.lt_of_lt_of_le (PySem.Flt.log2_lt_of (show 0 < 10 by decide) (show x < 2 ^ 10 by omega)) (by decide)
  · rw [List.length_map]
    omega
theorem dLs_shw {ps : List (List Nat)} (h : ∀ p ∈ ps, (∀ x ∈ p, x < 1000) ∧ p.length ≤ 100) (l : ps.length ≤ 20) : Sf.Shw 5000000 (.list (ps.map dL)) := by
  refine (Sf.shwL (L := 200000) (fun d hd => ?_) (lst_txt _)).mono ?_
  · obtain ⟨p, hp, rfl⟩ := List.mem_map.mp hd
    exact dL_shw (h p hp).1 (h p hp).2
  · rw [List.length_map]
    omega
theorem dep_all {k : Nat} : ∀ {ds : List PyData}, (∀ d ∈ ds, d.depth ≤ k) → PyData.depthAll ds ≤ k
  | [], _ => Nat.zero_le _
  | d :: ds, h => by
    have h1 := h d List.mem_cons_self
    have h2 := dep_all (ds := ds) fun e he => h e (List.mem_cons_of_mem _ he)
    rw [PyData.depthAll]
    omega
theorem dLs_dep (ps : List (List Nat)) : PyData.depth (.list (ps.map dL)) ≤ 60 := by
  rw [PyData.depth]
  have h : PyData.depthAll (ps.map dL) ≤ 1 := dep_all fun d hd => by
    obtain ⟨p, _, rfl⟩ := List.mem_map.mp hd
    rw [dL, PyData.depth]
    have h0 : PyData.depthAll (p.map dI) ≤ 0 := dep_all fun d hd => by
      obtain ⟨b, _, rfl⟩ := List.mem_map.mp hd
      rw [dI, PyData.depth]
      exact Nat.le_refl _
    omega
  omega
theorem in_mem {es : List Nat} {a : Nat} : inV (.int (a : Nat)) (es.map vI) = decide (a ∈ es) := by
  unfold inV
  rw [Bool.eq_iff_iff, List.any_eq_true, decide_eq_true_iff]
  constructor
  · rintro ⟨v, hv, e⟩
    obtain ⟨x, hx, rfl⟩ := List.mem_map.mp hv
    have e' : ((x : Int) == (a : Int)) = true := e
    have : x = a := by
      have := eq_of_beq e'
      omega
    rw [← this]
    exact hx
  · exact fun h => ⟨vI a, List.mem_map.mpr ⟨a, h, rfl⟩, by show ((a : Int) == (a : Int)) = true; simp⟩
theorem all_flat (es : List Nat) : (es.map vI).all flatV = true := by
  rw [List.all_eq_true]
  intro x hx
  obtain ⟨z, _, rfl⟩ := List.mem_map.mp hx
  rfl
theorem op_in_seqK {X : Cx} {K : PySem.W.Frag} (hk : X.K = K) : OpR X (compareOp .In) (rIn K false) := by
  subst hk
  exact op_in_seq
/-! places of entries -/
def kvN (p : Nat × Nat) : Key × V := (.inl (p.1 : Int), .int (p.2 : Nat))
theorem val_pl : ∀ {pl : List (Nat × Nat)} {x c : Nat}, (pl.map (·.1)).Nodup → (x, c) ∈ pl → valV (pl.map kvN) (.inl (x : Int)) = some (.int (c : Nat))
  | [], x, c, _, h => absurd h List.not_mem_nil
  | (y, d) :: pl, x, c, nd, h => by
    rw [List.map_cons, List.nodup_cons] at nd
    unfold valV
    by_cases e : y = x
    · subst e
      have ec : d = c := by
        rcases List.mem_cons.mp h with e | h
        · cases e
          rfl
        · exact absurd (List.mem_map.mpr ⟨(y, c), h, rfl⟩) nd.1
      subst ec
      rw [List.map_cons, List.find?_cons_of_pos (by simp [kvN])]
      rfl
    · rw [List.map_cons, List.find?_cons_of_neg (by simp [kvN]; omega)]
      have h' : (x, c) ∈ pl := by
        rcases List.mem_cons.mp h with z | h
        · cases z
          exact absurd rfl e
        · exact h
      have ih := val_pl nd.2 h'
      unfold valV at ih
      exact ih
theorem val_no : ∀ {pl : List (Nat × Nat)} {x : Nat}, x ∉ pl.map (·.1) → valV (pl.map kvN) (.inl (x : Int)) = none
  | [], x, _ => rfl
  | (y, d) :: pl, x, h => by
    rw [List.map_cons, List.mem_cons, not_or] at h
    unfold valV
    rw [List.map_cons, List.find?_cons_of_neg (by simp [kvN]; have := h.1; dsimp only at this; omega)]
    have ih := val_no h.2
    unfold valV at ih
    exact ih
end W34

namespace W34
open PySem PySem.Spec PyProof.Rows L2 Gs Gp Gr
structure ClG (P : Program) (w : World) (K : PySem.W.Frag) (mg : Str → Option Value) (base : Heap) (CX : CXT) (k : Nat) (x : Str) (ps : List Str) (sp : Sp) (f : Addr) (fd : FuncData) : Prop where
  g : mg x = some (.ref f)
  ok : FnG P w K mg base CX k f fd ps sp
  kp : PySem.W.keepIn K (.ref f) = true
  bd : Binds K fd ps []
abbrev NRt : List Str := ["_law_entries", "_law_ties_here", "_law_count", "_law_inner", "_law_leads_here", "_law_found", "_law_places", "_law_at", "_law_lot", "_law_entry", "_law_one", "_law_other", "_law_both", "_law_kept", "_law_tie"]
theorem scRight : FnScope NRt ["_law_entries", "_law_ties_here", "_law_count"] (defScope sRight) := ⟨rfl, rfl, rfl, by decide +kernel, rfl, by decide +kernel, by decide +kernel⟩
def spRight : Sp := fun vs H Q _ => ∃ (E T : Addr) (n : Nat) (es : List Nat) (us : List V) (ts : List Tie), vs = [.ref E, .ref T, .int n] ∧ H E = some (.lst (es.map vI)) ∧ H T = some (.lst us) ∧ Ties H us ts ∧ es.Nodup ∧ es ≠ [] ∧ (∀ x ∈ es, x < n) ∧ (∀ t ∈ ts, t.1 < n ∧ t.2.1 < n) ∧ n ≤ 10 ∧ es.length ≤ 10 ∧ ts.length ≤ 100 ∧
  ∀ H', Same H H' → Q (.bl true) H'
section
variable {P : Program} {w : World} {K : PySem.W.Frag} {mg : Str → Option Value} {base : Heap} {f f1 f2 : Addr} {fd d1 d2 : FuncData}
theorem ok_right (F : Fun K "_law_right" "_law_right" sRight f fd) (LD : Cl P w K mg base CX0 1 "_law_leads" ["_law_ties_here", "_law_count"] spLeads f1 d1) (PI : Cl P w K mg base CX0 2 "pieces" ["entries", "ties"] spPieces f2 d2)
    (me : mg "enumerate" = none) (ms : mg "sorted" = none) (ml : mg "list" = none) (mp : mg "repr" = none) : FnG P w K mg base CX0 3 f fd ["_law_entries", "_law_ties_here", "_law_count"] spRight := by
  refine okG F scRight (fun vs H Q E h => ?_) (fun cdv A0 outer s0 H vs Q E gd hr h => ?_)
  · obtain ⟨E, T, n, es, us, ts, rfl, _⟩ := h
    rfl
  obtain ⟨E', T, n, es, us, ts, rfl, hE, hT, tu, nd, ne, lt, bd, n1, el, tl, q⟩ := h
  have r1 := hr.mono (j := 1) (by decide)
  refine ⟨_, pss_cons (ps_setLc (i := 3) (own := [("_law_tie", 14)]) (g := gName 14) rfl scRight.nd rfl rfl (sw_true rfl rfl rfl rfl) (pi_list (pv 1)) (blkOk_by (own := [("_law_tie", 14)]) (N := NRt) (sc := defScope sRight) (by decide +kernel))
      (fun _ _ _ _ _ => pg_name (i := 14) scRight.nd rfl (Or.inl rfl))
      (fun _ _ _ _ _ => pts_one (PW.pt (pw_and (pt_cmpR (op_in_seqK (K := K) rfl) (pe_ix (ix_tupK (K := K) rfl) (pv 14) pe_int (fun _ _ => rfl)) (pv 0) (by rfl)) (pw_and1 (pt_cmpR (op_in_seqK (K := K) rfl) (pe_ix (ix_tupK (K := K) rfl) (pv 14) pe_int (fun _ _ => rfl)) (pv 0) (by rfl))))))
      (fun _ _ _ _ _ => pv 14))
    (pss_cons (ps_set (i := 4) scRight.nd rfl (.inl rfl) (pe_call LD.ok r1 (by rfl) LD.g LD.kp LD.bd .nil pass0 (pa_cons (pv 3) (pa_cons (pv 2) pa_nil))))
    (pss_cons (ps_set (i := 5) scRight.nd rfl (.inl rfl) (pe_call PI.ok hr (by rfl) PI.g PI.kp PI.bd .nil pass0 (pa_cons (pv 0) (pa_cons (pv 1) pa_nil))))
    (pss_cons (ps_set (i := 6) scRight.nd rfl (.inl rfl) pe_dnewK)
    (pss_cons (ps_for PassesOwn.never rfl (pi_enum (by rfl) me (pa_cons (pv 5) pa_nil)) (pg_tup (by rfl) (pgs_cons (pg_name (i := 7) scRight.nd rfl (.inl rfl)) (pgs_cons (pg_name (i := 8) scRight.nd rfl (.inl rfl)) pgs_nil)))
      (pss_cons (ps_if (PW.pt (pw_or (pt_cmpR (op_eqD hr.units) (pv 8) (pe_lst pa_nil) (nomark _)) (pw_or1 (pt_cmpR (op_neD hr.units) (pv 8) (pe_callB cr_sortedI (by rfl) ms (by decide +kernel) (pa_cons (pv 8) pa_nil)) (nomark _))))) (pss_one (ps_ret pe_bl)) pss_nil)
      (pss_one (ps_for PassesOwn.never rfl (pi_list (pv 8)) (pg_name (i := 9) scRight.nd rfl (Or.inl rfl))
        (pss_cons (ps_if (pt_cmp (pc_din (u1 hr) (pv 9) (pv 6)) (by rfl)) (pss_one (ps_ret pe_bl)) pss_nil)
        (pss_one (ps_dput (u1 hr) (pv 6) (pv 9) (pv 7) (by rfl))))))))
    (pss_cons (ps_if (pt_cmpR (op_neD hr.units) (pe_callB cr_sortedI (by rfl) ms (by decide +kernel) (pa_cons (pe_callTy (call_listD rfl) (by rfl) ml (by decide +kernel) (pa_cons (pv 6) pa_nil)) pa_nil)) (pe_callB cr_sortedI (by rfl) ms (by decide +kernel) (pa_cons (pv 0) pa_nil)) (nomark _)) (pss_one (ps_ret pe_bl)) pss_nil)
    (pss_cons (ps_for PassesOwn.never rfl (pi_list (pv 0)) (pg_name (i := 10) scRight.nd rfl (Or.inl rfl))
      (pss_one (ps_for PassesOwn.never rfl (pi_list (pv 0)) (pg_name (i := 11) scRight.nd rfl (Or.inl rfl))
        (pss_join (ps_set (i := 12) scRight.nd rfl (.inl rfl) (pe_or (pe_cmpR op_eq (pv 10) (pv 11) (nomark _)) (pe_one (pe_and (pe_ix ix_list (pe_ix ix_list (pv 4) (pv 10) (fun _ _ => rfl)) (pv 11) (fun _ _ => rfl)) (pe_one (pe_ix ix_list (pe_ix ix_list (pv 4) (pv 11) (fun _ _ => rfl)) (pv 10) (fun _ _ => rfl)))))))
        (pss_one (ps_if (PW.pt (pw_or (pt_cmpR op_ne (pv 12) (pe_cmpR op_eq (pe_dget (u1 hr) (pv 6) (pv 10) (fun _ _ => rfl)) (pe_dget (u1 hr) (pv 6) (pv 11) (fun _ _ => rfl)) (nomark _)) (nomark _))
          (pw_or1 (PW.pt (pw_and (pt_val (pe_ix ix_list (pe_ix ix_list (pv 4) (pv 10) (fun _ _ => rfl)) (pv 11) (fun _ _ => rfl))) (pw_and1 (pt_cmpR op_gt (pe_dget (u1 hr) (pv 6) (pv 10) (fun _ _ => rfl)) (pe_dget (u1 hr) (pv 6) (pv 11) (fun _ _ => rfl)) (nomark _)))))))) (pss_one (ps_ret pe_bl)) pss_nil))))))
    (pss_cons (ps_set (i := 13) scRight.nd rfl (.inl rfl) (pe_callB (call_reprD gd hr.units) (by rfl) mp (by decide +kernel) (pa_cons (pv 5) pa_nil)))
    (pss_cons (ps_expr (pe_bm PySem.F.plainAttrs_list PySem.F.slot_list_append PySem.F.type_list_append mt_append (pe_ix ix_list (pv 5) pe_int (fun _ _ => rfl)) (pa_cons pe_non pa_nil)))
    (pss_cons (ps_expr (pe_bm PySem.F.plainAttrs_list PySem.F.slot_list_append PySem.F.type_list_append mt_append (pv 5) (pa_cons pe_non pa_nil)))
    (pss_one (ps_ret (pe_cmpR op_eq (pe_callB (call_reprD gd hr.units) (by rfl) mp (by decide +kernel) (pa_cons (pe_call PI.ok hr (by rfl) PI.g PI.kp PI.bd .nil pass0 (pa_cons (pv 0) (pa_cons (pv 1) pa_nil))) pa_nil)) (pv 13) (nomark _))))))))))))), ?_⟩
  -- the inner ties
  refine ⟨_, rfl, T, rfl, ⟨_, SqL.of hT⟩, fun D hD => ?_⟩
  have ul := tu.len
  refine lc_list (K := K) (xs := us) (fun i H' => ∃ us', H' D = some (.lst us') ∧ Ties H' us' ((ts.take i).filter (tIn es)) ∧ Same H H' ∧ us'.length ≤ i)
    ⟨[], upd_same, .nil, same_new hD, Nat.le_refl _⟩ (fun i H' _ hp => ?_) (fun i x H2 hx hp => ?_) (fun H1 hp => ?_)
  · obtain ⟨_, _, _, sm, _⟩ := hp
    exact SqL.of (sm _ _ hT)
  · obtain ⟨us', e2, t2, sm, lu⟩ := hp
    obtain ⟨t, l, a, b, ls, rfl, et, ht, hl⟩ := tu.at hx
    have il : i < us.length := (List.getElem?_eq_some_iff.mp hx).1
    have ht2 := sm _ _ ht
    have hE2 := sm _ _ hE
    have keep : tIn es (a, b, ls) = true → ∃ acc, H2 D = some (.lst acc) ∧ acc.length < sizeLine ∧ ∃ us', upd H2 D (.lst (acc ++ [.ref t])) D = some (.lst us') ∧ Ties (upd H2 D (.lst (acc ++ [.ref t]))) us' ((ts.take (i + 1)).filter (tIn es)) ∧ Same H (upd H2 D (.lst (acc ++ [.ref t]))) ∧ us'.length ≤ i + 1 := fun z => by
      refine ⟨us', e2, small1000 (by omega), us' ++ [.ref t], upd_same, ?_, keep_new hD sm, by rw [List.length_append]; exact Nat.succ_le_succ lu⟩
      rw [take_filter et, if_pos z]
      exact ((t2.app (.cons ht2 (sm _ _ hl) .nil)).tk (tk_lst e2))
    have drop : tIn es (a, b, ls) = false → ∃ us', H2 D = some (.lst us') ∧ Ties H2 us' ((ts.take (i + 1)).filter (tIn es)) ∧ Same H H2 ∧ us'.length ≤ i + 1 := fun z => by
      refine ⟨us', e2, ?_, sm, by omega⟩
      rw [take_filter et, if_neg (by rw [z]; decide), List.append_nil]
      exact t2
    refine ⟨rfl, ?_⟩
    refine ⟨_, rfl, t, _, 0, _, rfl, rfl, SqT.of ht2, atI_nat (j := 0) rfl, _, rfl, E', _, rfl, .inl (SqL.of hE2), rfl, all_flat _, _, rfl, ?_⟩
    by_cases c1 : a ∈ es
    · refine iteP (by show inV _ _ = true; rw [in_mem]; exact decide_eq_true c1) ?_
      refine ⟨_, rfl, t, _, 1, _, rfl, rfl, SqT.of ht2, atI_nat (j := 1) rfl, _, rfl, E', _, rfl, .inl (SqL.of hE2), rfl, all_flat _, _, rfl, ?_⟩
      by_cases c2 : b ∈ es
      · exact iteP (by show inV _ _ = true; rw [in_mem]; exact decide_eq_true c2) ⟨_, rfl, keep (by unfold tIn; simp [c1, c2])⟩
      · exact iteN (by show inV _ _ = false; rw [in_mem]; exact decide_eq_false c2) (drop (by unfold tIn; simp [c2]))
    · exact iteN (by show inV _ _ = false; rw [in_mem]; exact decide_eq_false c1) (iteF (drop (by unfold tIn; simp [c1])))
  obtain ⟨us1, e1, tu1, s1, _⟩ := hp
  rw [ul, List.take_length] at tu1
  have fl : (ts.filter (tIn es)).length ≤ ts.length := List.length_filter_le _ _
  -- leads
  refine ⟨_, rfl, _, rfl, D, n, us1, ts.filter (tIn es), rfl, e1, tu1, fun t ht => bd t (List.mem_filter.mp ht).1, by omega, by omega, fun H2 L M s2 mat iff => ?_⟩
  have s02 := s1.trans s2
  rw [← among_of] at iff
  have hEa : ∀ i j, (i, j) ∈ among es (ts.map pr2) → i < n ∧ j < n := fun i j h => by
    obtain ⟨_, h1, h2⟩ := among_mem.mp h
    exact ⟨lt i h1, lt j h2⟩
  obtain ⟨leadsR, mutM⟩ := mut_leads hEa iff
  -- pieces
  refine ⟨_, rfl, _, rfl, E', T, es, us, ts, rfl, s02 _ _ hE, s02 _ _ hT, tu.tk (tk_same s02), nd, by omega, by omega, fun H3 Fd us3 s3 hFd eFd fr ls => ?_⟩
  have s03 := s02.trans s3
  have mat3 := mat.same s3
  obtain ⟨cov, cls, pw, shp⟩ := pieces_ok es (ts.map pr2)
  have two : ∀ {i j : Nat} {x : Nat} {p q : List Nat}, (Gr.pieces es (ts.map pr2))[i]? = some p → (Gr.pieces es (ts.map pr2))[j]? = some q → x ∈ p → x ∈ q → i = j := fun h1 h2 hx hy => two_pieces h1 h2 hx hy
  have sme : ∀ {a b ca cb : Nat} {p q : List Nat}, (Gr.pieces es (ts.map pr2))[ca]? = some p → (Gr.pieces es (ts.map pr2))[cb]? = some q → a ∈ p → b ∈ q → (ca = cb ↔ Mut (adjOf (among es (ts.map pr2))) a b) := fun h1 h2 ha hb => same_piece h1 h2 ha hb
  have ahd : ∀ {a b ca cb : Nat} {p q : List Nat}, (Gr.pieces es (ts.map pr2))[ca]? = some p → (Gr.pieces es (ts.map pr2))[cb]? = some q → a ∈ p → b ∈ q → R (adjOf (among es (ts.map pr2))) a b → ca ≤ cb := fun h1 h2 ha hb r => ahead_piece h1 h2 ha hb r
  generalize hP : Gr.pieces es (ts.map pr2) = PS at *
  have ll := ls.len
  have subP : ∀ p ∈ PS, ∀ x ∈ p, x ∈ es := fun p hp x hx => (cls p hp x hx).1
  have lenP : ∀ p ∈ PS, p.length ≤ 10 := fun p hp => Nat.le_trans (pig (shp p hp).1 (subP p hp)) el
  -- places
  intro S hS
  have s4 := same_new (o := .dK []) hS
  have eS4 : upd H3 S (.dK []) S = some (.dK []) := upd_same
  generalize upd H3 S (.dK []) = H4 at *
  refine ⟨_, rfl, Fd, us3, rfl, SqL.of (s4 _ _ eFd), ?_⟩
  refine walkF (J := Ite K Fd) (n := us3.length) (fun i σ H' => ∃ (pl : List (Nat × Nat)) (x7 x8 x9 : Option V), σ = [some (.ref E'), some (.ref T), some (.int n), some (.ref D), some (.ref L), some (.ref Fd), some (.ref S), x7, x8, x9, none, none, none, none, none] ∧ Same H3 H' ∧ H' S = some (.dK (pl.map kvN)) ∧ (pl.map (·.1)).Nodup ∧ ∀ x c, (x, c) ∈ pl ↔ c < i ∧ ∃ p, PS[c]? = some p ∧ x ∈ p)
    ⟨[], _, _, _, rfl, s4, eS4, List.nodup_nil, fun x c => ⟨fun h => absurd h List.not_mem_nil, fun h => absurd h.1 (Nat.not_lt_zero c)⟩⟩ (fun i σ H' hi hp => ?_) (fun σ H' hp => ?_) (fun i v σ H5 H6 hi hp hy => ?_) (fun σ H5 hp => ?_)
  · obtain ⟨_, _, _, _, _, sm, _⟩ := hp
    exact ⟨_, _, SqL.of (sm _ _ eFd), List.getElem?_eq_getElem hi⟩
  · obtain ⟨_, _, _, _, _, sm, _⟩ := hp
    exact ⟨_, SqL.of (sm _ _ eFd), Nat.le_refl _⟩
  · obtain ⟨pl, x7, x8, x9, rfl, s5, eS, pn, pm⟩ := hp
    obtain ⟨Tt, xv, rfl, hTt, rfl, hy⟩ := hy
    have hx := hy _ (SqL.of (s5 _ _ eFd))
    obtain ⟨a, p, rfl, ep, ha⟩ := ls.at hx
    have pmem : p ∈ PS := List.mem_of_getElem? ep
    obtain ⟨pnd, pne, psr⟩ := shp p pmem
    have s6 := same_new (o := .tup [.int (i : Nat), .ref a]) hTt
    have s36 := s5.trans s6
    have eS6 := s6 _ _ eS
    refine ⟨Tt, _, rfl, SqT.of upd_same, rfl, _, _, rfl, _, _, rfl, rfl, ?_⟩
    generalize upd H5 Tt (.tup [.int (i : Nat), .ref a]) = H6 at *
    refine ⟨_, rfl, by show 0 ≤ sizeLine; decide, fun B hB => ?_⟩
    have s7 := same_new (o := .lst []) hB
    have s37 := s36.trans s7
    refine ⟨dL p, dL [], lst_dp (s37 _ _ ha), .lst (SqL.of upd_same) .nil, dL_sh _, dL_sh _, _, rfl, iteN (dL_nil pne) ?_⟩
    generalize upd H6 B (.lst []) = H7 at *
    refine ⟨_, rfl, _, rfl, a, p.map ci, rfl, by rw [← vI_map]; exact SqL.of (s37 _ _ ha), fun ns' q' perm ris hq' => ?_⟩
    rw [sorted_int perm ris, ← srt_eq (List.Perm.refl p) psr]
    have s8 := same_new (o := .lst (p.map vI)) hq'
    have s38 := s37.trans s8
    have eS8 := s8 _ _ (s7 _ _ eS6)
    refine ⟨dL p, dL p, lst_dp (s38 _ _ ha), lst_dp upd_same, dL_sh _, dL_sh _, _, rfl, iteN (by rw [dL_self]; rfl) ?_⟩
    generalize upd H7 q' (.lst (p.map vI)) = H8 at *
    have mlp : (p.map vI).length = p.length := List.length_map ..
    refine ⟨_, rfl, a, rfl, ⟨_, SqL.of (s38 _ _ ha)⟩, for_list (K := K) (xs := p.map vI) (fun j σ H' => ∃ (pl : List (Nat × Nat)) (x9 : Option V), σ = [some (.ref E'), some (.ref T), some (.int n), some (.ref D), some (.ref L), some (.ref Fd), some (.ref S), some (.int (i : Nat)), some (.ref a), x9, none, none, none, none, none] ∧ Same H3 H' ∧ H' S = some (.dK (pl.map kvN)) ∧ (pl.map (·.1)).Nodup ∧ ∀ x c, (x, c) ∈ pl ↔ (c < i ∧ ∃ p, PS[c]? = some p ∧ x ∈ p) ∨ (c = i ∧ x ∈ p.take j))
      ⟨pl, _, rfl, s38, eS8, pn, fun x c => by rw [pm]; simp⟩ (fun j σ H' _ hp => ?_) (fun j y σ H9 hy hp => ?_) (fun σ H9 hp => ?_)⟩
    · obtain ⟨_, _, _, sm, _⟩ := hp
      exact SqL.of (sm _ _ ha)
    · obtain ⟨pl, x9, rfl, s9, eS9, pn, pm⟩ := hp
      have jl : j < p.length := by
        have := (List.getElem?_eq_some_iff.mp hy).1
        rw [mlp] at this
        exact this
      rw [List.getElem?_map, List.getElem?_eq_getElem jl] at hy
      cases hy
      have tk : p.take (j + 1) = p.take j ++ [p[j]] := by
        rw [List.take_add_one, List.getElem?_eq_getElem jl]
        rfl
      have yp : p[j] ∈ p := List.getElem_mem jl
      have ynt : p[j] ∉ p.take j := fun z => by
        have nd' : (p.take (j + 1)).Nodup := pnd.sublist (List.take_sublist _ _)
        rw [tk, List.nodup_append] at nd'
        exact nd'.2.2 _ z _ (List.mem_singleton.mpr rfl) rfl
      generalize p[j] = y at *
      have nk : y ∉ pl.map (·.1) := fun z => by
        obtain ⟨⟨x, c⟩, hm, e⟩ := List.mem_map.mp z
        cases e
        rcases (pm _ _).mp hm with ⟨hc, p', ep', hx'⟩ | ⟨_, hx'⟩
        · have := two ep' ep hx' yp
          omega
        · exact ynt hx'
      have lpl : pl.length ≤ 10 := by
        have z := pig (es := es) pn fun x hx => by
          obtain ⟨⟨x', c⟩, hm, e⟩ := List.mem_map.mp hx
          cases e
          rcases (pm _ _).mp hm with ⟨_, p', ep', hx'⟩ | ⟨_, hx'⟩
          · exact subP p' (List.mem_of_getElem? ep') _ hx'
          · exact subP p pmem _ (List.mem_of_mem_take hx')
        rw [List.length_map] at z
        omega
      refine ⟨_, rfl, _, rfl, S, _, rfl, (show DGet H9 S (kV (Sum.inl (y : Int))) _ from DGet.k eS9), _, rfl, ?_⟩
      rw [val_no nk]
      refine iteF ?_
      refine ⟨_, rfl, _, rfl, _, rfl, S, _, rfl, DPut.k (k := .inl (y : Int)) eS9 (by rw [List.length_map]; exact small1000 (by omega)), ?_⟩
      rw [put_new (fun kv hkv e => by
        obtain ⟨⟨x, c⟩, hm, rfl⟩ := List.mem_map.mp hkv
        have : (x : Int) = (y : Int) := Sum.inl.inj e
        have : x = y := by omega
        subst this
        exact nk (List.mem_map.mpr ⟨_, hm, rfl⟩))]
      refine ⟨pl ++ [(y, i)], _, rfl, keep_new hS s9, by rw [upd_same, List.map_append]; rfl, ?_, fun x c => ?_⟩
      · rw [List.map_append, List.nodup_append]
        refine ⟨pn, List.nodup_cons.mpr ⟨List.not_mem_nil, List.nodup_nil⟩, fun a ha b hb e => ?_⟩
        have eb : b = y := List.mem_singleton.mp hb
        rw [e, eb] at ha
        exact nk ha
      · rw [List.mem_append, pm, tk, List.mem_append, List.mem_singleton, List.mem_singleton, Prod.mk.injEq]
        constructor
        · rintro ((h | ⟨h1, h2⟩) | ⟨h1, h2⟩)
          · exact .inl h
          · exact .inr ⟨h1, .inl h2⟩
          · exact .inr ⟨h2, .inr h1⟩
        · rintro (h | ⟨h1, h2 | h2⟩)
          · exact .inl (.inl h)
          · exact .inl (.inr ⟨h1, h2⟩)
          · exact .inr ⟨h2, h1⟩
    · obtain ⟨pl, x9, rfl, s9, eS9, pn, pm⟩ := hp
      rw [mlp, List.take_length] at pm
      refine ⟨pl, _, _, _, rfl, s9, eS9, pn, fun x c => ?_⟩
      rw [pm]
      constructor
      · rintro (⟨h1, h2⟩ | ⟨rfl, h⟩)
        · exact ⟨by omega, h2⟩
        · exact ⟨Nat.lt_succ_self _, p, ep, h⟩
      · rintro ⟨h1, p', ep', hx'⟩
        by_cases c' : c = i
        · subst c'
          rw [ep] at ep'
          cases ep'
          exact .inr ⟨rfl, hx'⟩
        · exact .inl ⟨by omega, p', ep', hx'⟩
  obtain ⟨pl, x7, x8, x9, rfl, s5, eS, pn, pm⟩ := hp
  have pm' : ∀ x c, (x, c) ∈ pl ↔ ∃ p, PS[c]? = some p ∧ x ∈ p := fun x c => by
    rw [pm]
    refine ⟨fun h => h.2, fun h => ⟨?_, h⟩⟩
    obtain ⟨p, ep, _⟩ := h
    rw [ll]
    exact (List.getElem?_eq_some_iff.mp ep).1
  have keys : ∀ x, x ∈ pl.map (·.1) ↔ x ∈ es := fun x => by
    constructor
    · intro h
      obtain ⟨⟨x', c⟩, hm, e⟩ := List.mem_map.mp h
      cases e
      obtain ⟨p, ep, hx⟩ := (pm' _ _).mp hm
      exact subP p (List.mem_of_getElem? ep) _ hx
    · intro h
      obtain ⟨p, hp, hx⟩ := cov x h
      obtain ⟨c, ec⟩ := List.mem_iff_getElem?.mp hp
      exact List.mem_map.mpr ⟨(x, c), (pm' _ _).mpr ⟨p, ec, hx⟩, rfl⟩
  have perm : (pl.map (·.1)).Perm es := (List.perm_ext_iff_of_nodup pn nd).mpr keys
  have s05 := s03.trans s5
  have hE5 := s05 _ _ hE
  -- sorted(list(places)) != sorted(entries)
  refine ⟨_, rfl, S, _, rfl, .inl eS, fun l1 hl1 => ?_⟩
  have ek : ((pl.map kvN).map fun kv => kV kv.1) = (pl.map (·.1)).map vI := by
    rw [List.map_map, List.map_map]
    rfl
  rw [ek]
  have s6 := same_new (o := .lst ((pl.map (·.1)).map vI)) hl1
  refine ⟨l1, (pl.map (·.1)).map ci, rfl, by rw [← vI_map]; exact SqL.of upd_same, fun ns1 q1 pm1 rs1 hq1 => ?_⟩
  rw [sorted_int pm1 rs1]
  have s7 := same_new (o := .lst ((srt (pl.map (·.1))).map vI)) hq1
  refine ⟨_, rfl, E', es.map ci, rfl, by rw [← vI_map]; exact SqL.of (s7 _ _ (s6 _ _ hE5)), fun ns2 q2 pm2 rs2 hq2 => ?_⟩
  rw [sorted_int pm2 rs2]
  have s8 := same_new (o := .lst ((srt es).map vI)) hq2
  have se : srt (pl.map (·.1)) = srt es := srt_eq ((srt_perm _).trans perm) (srt_pw _)
  refine ⟨dL (srt (pl.map (·.1))), dL (srt es), lst_dp (s8 _ _ upd_same), lst_dp upd_same, dL_sh _, dL_sh _, _, rfl, iteN (by rw [se, dL_self]; rfl) ?_⟩
  have s58 := s6.trans (s7.trans s8)
  have eS8 := s58 _ _ eS
  have s38 := s5.trans s58
  generalize upd (upd (upd H5 l1 (.lst ((pl.map (·.1)).map vI))) q1 (.lst ((srt (pl.map (·.1))).map vI))) q2 (.lst ((srt es).map vI)) = H8 at *
  have s08 := s03.trans s38
  have hE8 := s08 _ _ hE
  have mat8 := mat3.same s38
  have mle : (es.map vI).length = es.length := List.length_map ..
  -- each two
  refine ⟨_, rfl, E', rfl, ⟨_, SqL.of hE8⟩, for_list (K := K) (xs := es.map vI) (fun i σ H' => Same H8 H' ∧ ∃ x10 x11 x12 : Option V, σ = [some (.ref E'), some (.ref T), some (.int n), some (.ref D), some (.ref L), some (.ref Fd), some (.ref S), x7, x8, x9, x10, x11, x12, none, none])
    ⟨Same.refl _, _, _, _, rfl⟩ (fun i σ H' _ hp => SqL.of (hp.1 _ _ hE8)) (fun i x σ H9 hx hp => ?_) (fun σ H9 hp => ?_)⟩
  · obtain ⟨s9, x10, x11, x12, rfl⟩ := hp
    rw [List.getElem?_map] at hx
    cases ha : es[i]? with
    | none => rw [ha] at hx; cases hx
    | some a =>
      rw [ha] at hx
      cases hx
      have ha' : a ∈ es := List.mem_of_getElem? ha
      refine ⟨_, rfl, E', rfl, ⟨_, SqL.of (s9 _ _ hE8)⟩, for_list (K := K) (xs := es.map vI) (fun i σ H' => Same H8 H' ∧ ∃ x11 x12 : Option V, σ = [some (.ref E'), some (.ref T), some (.int n), some (.ref D), some (.ref L), some (.ref Fd), some (.ref S), x7, x8, x9, some (vI a), x11, x12, none, none])
        ⟨s9, _, _, rfl⟩ (fun i σ H' _ hp => SqL.of (hp.1 _ _ hE8)) (fun j x σ H10 hx hp => ?_) (fun σ H10 hp => ?_)⟩
      · obtain ⟨s10, x11, x12, rfl⟩ := hp
        rw [List.getElem?_map] at hx
        cases hb : es[j]? with
        | none => rw [hb] at hx; cases hx
        | some b =>
          rw [hb] at hx
          cases hx
          have hb' : b ∈ es := List.mem_of_getElem? hb
          obtain ⟨⟨a1, ca⟩, ma, e⟩ := List.mem_map.mp ((keys a).mpr ha')
          rw [show a1 = a from e] at ma
          obtain ⟨⟨b1, cb⟩, mb, e⟩ := List.mem_map.mp ((keys b).mpr hb')
          rw [show b1 = b from e] at mb
          obtain ⟨pa, epa, hpa⟩ := (pm' _ _).mp ma
          obtain ⟨pb, epb, hpb⟩ := (pm' _ _).mp mb
          have va := val_pl pn ma
          have vb := val_pl pn mb
          have eS10 := s10 _ _ eS8
          have dga : DGet H10 S (vI a) (some (.int (ca : Nat))) := (show DGet H10 S (kV (Sum.inl (a : Int))) _ from va ▸ DGet.k eS10)
          have dgb : DGet H10 S (vI b) (some (.int (cb : Nat))) := (show DGet H10 S (kV (Sum.inl (b : Int))) _ from vb ▸ DGet.k eS10)
          obtain ⟨rs1, ra, hL1, at1, hra, _, _⟩ := (mat8.same s10).at (lt a ha')
          obtain ⟨rs2, rb, hL2, at2, hrb, _, _⟩ := (mat8.same s10).at (lt b hb')
          have both : (decide (a = b) || (M a b && M b a)) = decide (ca = cb) := by
            rw [Bool.eq_iff_iff, mutM, decide_eq_true_iff]
            exact (sme epa epb hpa hpb).symm
          refine ⟨fun σ' H' => H' = H10 ∧ σ' = [some (.ref E'), some (.ref T), some (.int n), some (.ref D), some (.ref L), some (.ref Fd), some (.ref S), x7, x8, x9, some (vI a), some (vI b), some (.bl (decide (a = b) || (M a b && M b a))), none, none], ?_, fun σ' H11 hp => ?_⟩
          · refine ⟨_, rfl, _, rfl, rfl, _, rfl, ?_⟩
            by_cases c : a = b
            · refine iteP (decide_eq_true (by rw [c])) ⟨rfl, ?_⟩
              rw [decide_eq_true c, Bool.true_or]
              rfl
            · refine iteN (decide_eq_false (fun z => c (by
                have : (a : Int) = (b : Int) := V.int.inj z
                omega))) ⟨_, rfl, _, rfl, L, _, _, _, rfl, rfl, SqL.of hL1, at1, _, rfl, ra, _, _, _, rfl, rfl, SqL.of hra, row_at (lt b hb'), _, rfl, ?_⟩
              rw [decide_eq_false c, Bool.false_or]
              cases cm : M a b with
              | true =>
                refine iteT ⟨_, rfl, _, rfl, L, _, _, _, rfl, rfl, SqL.of hL2, at2, _, rfl, rb, _, _, _, rfl, rfl, SqL.of hrb, row_at (lt a ha'), rfl, ?_⟩
                rw [Bool.true_and]
                rfl
              | false => exact iteF ⟨rfl, rfl⟩
          obtain ⟨rfl, rfl⟩ := hp
          rw [both]
          refine ⟨_, rfl, _, rfl, _, rfl, S, _, rfl, dga, _, rfl, _, rfl, S, _, rfl, dgb, rfl, rfl, _, rfl, iteN ?_ ?_⟩
          · have e : decide (V.int (ca : Nat) = V.int (cb : Nat)) = decide (ca = cb) := decide_eq_decide.mpr ⟨fun z => by
              have := V.int.inj z
              omega, fun z => by rw [z]⟩
            show (!decide (V.bl (decide (ca = cb)) = V.bl (decide (V.int (ca : Nat) = V.int (cb : Nat))))) = false
            rw [e, decide_eq_true rfl]
            rfl
          refine ⟨_, rfl, _, rfl, L, _, _, _, rfl, rfl, SqL.of hL1, at1, _, rfl, ra, _, _, _, rfl, rfl, SqL.of hra, row_at (lt b hb'), _, rfl, ?_⟩
          cases cm : M a b with
          | false => exact iteF (iteF ⟨s10, _, _, rfl⟩)
          | true =>
            have le := ahd epa epb hpa hpb (leadsR a b cm)
            refine iteT ⟨_, rfl, _, rfl, S, _, rfl, dga, _, rfl, _, rfl, S, _, rfl, dgb, _, _, rfl, rfl, _, rfl, iteN (decide_eq_false (by omega)) ⟨s10, _, _, rfl⟩⟩
      · obtain ⟨s10, x11, x12, rfl⟩ := hp
        exact ⟨s10, _, _, _, rfl⟩
  obtain ⟨s9, x10, x11, x12, rfl⟩ := hp
  -- kept
  have s39 := s38.trans s9
  have ls9 := ls.same s39
  have eFd9 := s39 _ _ eFd
  have lPS : PS.length ≤ 10 := by
    have hne : ∀ c, c < PS.length → ∃ x, (x, c) ∈ pl := fun c hc => by
      have hm : PS[c] ∈ PS := List.getElem_mem hc
      obtain ⟨_, pne, _⟩ := shp _ hm
      obtain ⟨x, hx⟩ := List.exists_mem_of_ne_nil _ pne
      exact ⟨x, (pm' x c).mpr ⟨_, List.getElem?_eq_getElem hc, hx⟩⟩
    have l1 : pl.length ≤ 10 := by
      have := perm.length_eq
      rw [List.length_map] at this
      omega
    have z := pig (l := List.range PS.length) (es := pl.map (·.2)) List.nodup_range fun c hc => by
      obtain ⟨x, hx⟩ := hne c (List.mem_range.mp hc)
      exact List.mem_map.mpr ⟨(x, c), hx, rfl⟩
    rw [List.length_range, List.length_map] at z
    omega
  have shw : Sf.Shw 5000000 (.list (PS.map dL)) := dLs_shw (fun p hp => ⟨fun x hx => by
    have := lt x (subP p hp x hx)
    omega, by
    have := lenP p hp
    omega⟩) (by omega)
  refine ⟨_, rfl, Fd, .list (PS.map dL), rfl, .lst (SqL.of eFd9) ls9.dp, shw.s, shw.n, dLs_dep _, Nat.le_trans shw.l (by show 5000000 ≤ sizeLine; decide), ?_⟩
  -- what is told is spoilt
  match PS, us3, ls9, fr, lPS, ll, shw, lenP, hP, eFd9, cov with
  | [], _, _, _, _, _, _, _, _, _, cov =>
    obtain ⟨x, hx⟩ := List.exists_mem_of_ne_nil _ ne
    obtain ⟨p, hp, _⟩ := cov x hx
    exact absurd hp List.not_mem_nil
  | p0 :: PS, _, .cons (a := a0) (us := us') h0 r, fr, lPS, ll, shw, lenP, hP, eFd9, _ =>
    have f0 := fr a0 List.mem_cons_self
    refine ⟨_, rfl, Fd, _, 0, .ref a0, rfl, rfl, SqL.of eFd9, atI_nat (j := 0) rfl, .inl ⟨rfl, _, SqL.of h0⟩, a0, _, _, rfl, rfl, h0, by rw [List.length_map]; exact small1000 (by have := lenP p0 List.mem_cons_self; omega), ?_⟩
    have eF10 : upd H9 a0 (.lst (p0.map vI ++ [.non])) Fd = some (.lst (.ref a0 :: us')) := by
      rw [upd_ne f0.2.symm]
      exact eFd9
    refine ⟨_, rfl, .inl ⟨rfl, _, SqL.of eF10⟩, Fd, _, _, rfl, rfl, eF10, small1000 (by rw [ll]; omega), ?_⟩
    have s2b : Same H2 (upd (upd H9 a0 (.lst (p0.map vI ++ [.non]))) Fd (.lst (.ref a0 :: us' ++ [.non]))) := keep_new hFd (keep_new f0.1 (s3.trans s39))
    have s0b := s02.trans s2b
    generalize upd (upd H9 a0 (.lst (p0.map vI ++ [.non]))) Fd (.lst (.ref a0 :: us' ++ [.non])) = H10 at *
    refine ⟨_, rfl, _, rfl, E', T, es, us, ts, rfl, s0b _ _ hE, s0b _ _ hT, tu.tk (tk_same s0b), nd, by omega, by omega, fun H11 F2 us11 s11 _ eF2 _ ls11 => ?_⟩
    rw [hP] at ls11
    refine ⟨F2, .list ((p0 :: PS).map dL), rfl, .lst (SqL.of eF2) ls11.dp, shw.s, shw.n, dLs_dep _, Nat.le_trans shw.l (by show 5000000 ≤ sizeLine; decide), _, rfl, rfl, ?_⟩
    have fin := q H11 (s0b.trans s11)
    rw [← decide_eq_true (p := V.str (PyData.shown (.list ((p0 :: PS).map dL))) = V.str (PyData.shown (.list ((p0 :: PS).map dL)))) rfl] at fin
    exact fin
end
end W34

namespace W34
open PySem PySem.Spec PyProof.Rows L2 Gs Gp Gr
abbrev NLw : List Str := ["_law_script", "_law_k", "_law_pool_here", "_law_count", "_law_ties_here", "_law_some", "_law_one"]
theorem scLaw : FnScope NLw ["_law_script"] (defScope sLaw) := ⟨rfl, rfl, rfl, by decide +kernel, rfl, by decide +kernel, by decide +kernel⟩
theorem rg_vI (n : Nat) : rgV 0 (n : Int) = (List.range n).map vI := by
  unfold rgV
  rw [Int.sub_zero, Int.toNat_natCast]
  apply List.map_congr_left
  intro i _
  rw [Int.zero_add]
  rfl
section
variable {P : Program} {w : World} {K : PySem.W.Frag} {mg : Str → Option Value} {base : Heap} {f1 f2 f3 f4 : Addr} {d1 d2 d3 d4 : FuncData}
theorem law_body (PO : Cl P w K mg base CX0 1 "_law_pool" ["_law_script", "_law_k"] (spPool K) f1 d1) (TA : Cl P w K mg base CX0 1 "_law_take" ["_law_pool_here", "_law_many"] spTake f2 d2) (TI : Cl P w K mg base CX0 2 "_law_ties" ["_law_pool_here", "_law_count", "_law_many"] spTies f3 d3)
    (RI : ClG P w K mg base CX0 3 "_law_right" ["_law_entries", "_law_ties_here", "_law_count"] spRight f4 d4) (mr : mg "range" = none) (ml : mg "list" = none) (mx : mg "max" = none) (mn : mg "min" = none) (mln : mg "len" = none)
    {cdv : Value} {s : Shared} {H : Hp} {E : XK} {f : Addr} {a : Addr} {ns : List Int}
    (hr : Room 3 (callerA.deeper (envOfC "law" (defScope sLaw) s.heap.objs.size f cdv))) (hS : SqL K H a (ns.map V.int)) (hn : ns.length ≤ 63) :
    ∃ t, PSs (cxOf CX0 P w K mg base NLw "law" (defScope sLaw) f cdv callerA [] s H E).nox (defBody sLaw) t ∧ t { nx := fun _ _ => V.non = .bl true, rt := fun v _ => v = .bl true } (L2.start NLw [.ref a]) H := by
  have r1 := hr.mono (j := 1) (by decide)
  have r2 := hr.mono (j := 2) (by decide)
  refine ⟨_, pss_cons (ps_for PassesOwn.never rfl (pi_range1 (by rfl) mr (pa_cons (pe_callB (call_max2 rfl) (by rfl) mx (by decide +kernel) (pa_cons pe_int (pa_cons (pe_callB (call_min2 rfl) (by rfl) mn (by decide +kernel) (pa_cons pe_int (pa_cons (pe_callB call_len_seq (by rfl) mln PySem.boot_len (pa_cons (pv 0) pa_nil)) pa_nil))) pa_nil))) pa_nil)) (pg_name (i := 1) scLaw.nd rfl (Or.inl rfl))
      (pss_cons (ps_set (i := 2) scLaw.nd rfl (.inr rfl) (pe_call PO.ok r1 (by rfl) PO.g PO.kp PO.bd .nil pass0 (pa_cons (pv 0) (pa_cons (pv 1) pa_nil))))
      (pss_cons (ps_set (i := 3) scLaw.nd rfl (.inl rfl) (pe_op op_add pe_int (pe_call TA.ok r1 (by rfl) TA.g TA.kp TA.bd .nil pass0 (pa_cons (pv 2) (pa_cons pe_int pa_nil)))))
      (pss_cons (ps_set (i := 4) scLaw.nd rfl (.inl rfl) (pe_call TI.ok r2 (by rfl) TI.g TI.kp TI.bd .nil pass0 (pa_cons (pv 2) (pa_cons (pv 3) (pa_cons pe_int pa_nil)))))
      (pss_join (ps_set (i := 5) scLaw.nd rfl (.inl rfl) (pe_orT (pe_lc (own := [("_law_one", 6)]) (g := gName 6) rfl scLaw.nd (pi_range1 (by rfl) mr (pa_cons (pv 3) pa_nil)) (blkOk_by (own := [("_law_one", 6)]) (N := NLw) (sc := defScope sLaw) (by decide +kernel)) (fun _ _ _ _ _ => pg_name (i := 6) scLaw.nd rfl (Or.inl rfl))
          (fun _ _ _ _ _ => pts_one (pt_cmpR op_gt (pe_call TA.ok r1 (by rfl) TA.g TA.kp TA.bd .nil pass0 (pa_cons (pv 2) (pa_cons pe_int pa_nil))) pe_int (nomark _))) (fun _ _ _ _ _ => pv 6)) (pe_one (pe_lst (pa_cons pe_int pa_nil)))))
      (pss_one (ps_if (PW.pt (pw_or (pt_not (pt_val (pe_callG RI.ok rfl hr (by rfl) RI.g RI.kp RI.bd pass0 (pa_cons (pe_listRg rfl (by rfl) ml (prg_1 (by rfl) mr (pv 3))) (pa_cons (pv 4) (pa_cons (pv 3) pa_nil)))))) (pw_or1 (pt_not (pt_val (pe_callG RI.ok rfl hr (by rfl) RI.g RI.kp RI.bd pass0 (pa_cons (pv 5) (pa_cons (pv 4) (pa_cons (pv 3) pa_nil))))))))) (pss_one (ps_ret pe_bl)) pss_nil)))))))
    (pss_one (ps_ret pe_bl)), ?_⟩
  obtain ⟨m, em, m1, m2⟩ : ∃ m : Nat, (if (if ((ns.map V.int).length : Int) < 16 then ((ns.map V.int).length : Int) else 16) > 1 then (if ((ns.map V.int).length : Int) < 16 then ((ns.map V.int).length : Int) else 16) else 1) = (m : Int) ∧ 1 ≤ m ∧ m ≤ 16 := by
    rw [List.length_map]
    by_cases c : (ns.length : Int) < 16
    · rw [if_pos c]
      by_cases d : (ns.length : Int) > 1
      · rw [if_pos d]
        exact ⟨ns.length, rfl, by omega, by omega⟩
      · rw [if_neg d]
        exact ⟨1, rfl, by omega, by omega⟩
    · rw [if_neg c, if_pos (by decide)]
      exact ⟨16, rfl, by omega, by omega⟩
  refine ⟨_, rfl, a, _, rfl, .inl hS, 16, _, rfl, 1, _, rfl, _, rfl, by rw [em]; omega, by rw [em]; omega, ?_⟩
  rw [em, Int.toNat_natCast]
  refine for_range (n := m) (fun i σ H' => Same H H' ∧ ∃ x1 x2 x3 x4 x5 : Option V, σ = [some (.ref a), x1, x2, x3, x4, x5, none]) ⟨Same.refl _, _, _, _, _, _, rfl⟩ (fun i σ H1 hi hp => ?_) (fun σ H1 hp => rfl)
  obtain ⟨s1, x1, x2, x3, x4, x5, rfl⟩ := hp
  refine ⟨_, rfl, _, rfl, a, ns, i, (by rw [Int.zero_add]; rfl), s1.seq hS, hn, by omega, fun H2 p s2 hp lf => ?_⟩
  have hpH : H p = none := free_same s1 hp
  have k2 : Keep p H H2 := keep_same (s1.trans s2)
  refine ⟨_, rfl, p, 7, rfl, lf, by decide, by decide, fun H3 d k3 lf3 dl => ⟨_, _, rfl, rfl, ?_⟩⟩
  have en : (1 : Int) + (d : Nat) = ((1 + d : Nat) : Int) := by omega
  show tSeq _ _ _ (((([some (V.ref a), some (V.int (0 + (i : Int))), some (V.ref p), some (V.int (1 + (d : Nat))), x4, x5, none])))) H3
  rw [en]
  generalize hnn : 1 + d = n at *
  have n1 : 0 < n := by omega
  have n8 : n ≤ 7 := by omega
  refine ⟨_, rfl, _, rfl, p, n, 0, rfl, lf3, n1, by omega, by omega, fun H4 T us ts k4 lf4 hT eT tu bd tl => ?_⟩
  have k04 := (k2.trans k3).trans k4
  have pT : T ≠ p := fun e => by
    obtain ⟨x, y, h, _⟩ := lf3
    rw [← e, hT] at h
    cases h
  refine ⟨fun σ' H' => ∃ (So : Addr) (so : List Nat), σ' = [some (.ref a), some (.int (0 + (i : Int))), some (.ref p), some (.int (n : Nat)), some (.ref T), some (.ref So), none] ∧ Keep p H4 H' ∧ Lf H' p ∧ So ≠ p ∧ H' So = some (.lst (so.map vI)) ∧ so.Nodup ∧ so ≠ [] ∧ (∀ x ∈ so, x < n) ∧ so.length ≤ 10, ?_, fun σ' H5 hp => ?_⟩
  · refine ⟨_, rfl, (n : Int), rfl, by omega, by omega, fun D hD => ?_⟩
    rw [Int.toNat_natCast]
    have pD : p ≠ D := lf_ne lf4 hD
    refine lc_range (n := n) (fun j H' => ∃ so : List Nat, H' D = some (.lst (so.map vI)) ∧ Keep p H4 H' ∧ Lf H' p ∧ so.Nodup ∧ (∀ x ∈ so, x < j) ∧ so.length ≤ j)
      ⟨[], upd_same, keep_same (same_new hD), lf_upd lf4 pD, List.nodup_nil, fun x hx => absurd hx List.not_mem_nil, Nat.le_refl _⟩ (fun j H5 hj hp => ?_) (fun H5 hp => ?_)
    · obtain ⟨so, e5, k5, lf5, nd, lt, ll⟩ := hp
      refine ⟨rfl, ?_⟩
      refine ⟨_, rfl, p, 3, rfl, lf5, by decide, by decide, fun H6 d6 k6 lf6 _ => ⟨_, _, rfl, rfl, _, rfl, ?_⟩⟩
      have e6 := k6 _ _ pD.symm e5
      refine ite2 (fun _ => ?_) (fun _ => ⟨so, e6, k5.trans k6, lf6, nd, fun x hx => Nat.lt_succ_of_lt (lt x hx), by omega⟩)
      refine ⟨_, rfl, _, e6, by rw [List.length_map]; exact small1000 (by omega), so ++ [j], ?_, keep_at (k5.trans k6) hD, lf_upd lf6 pD, ?_, fun x hx => ?_, by rw [List.length_append]; exact Nat.succ_le_succ ll⟩
      · rw [upd_same, List.map_append]
        show some (HO.lst (so.map vI ++ [V.int (0 + (j : Int))])) = _
        rw [Int.zero_add]
        rfl
      · rw [List.nodup_append]
        refine ⟨nd, List.nodup_cons.mpr ⟨List.not_mem_nil, List.nodup_nil⟩, fun x hx y hy e => ?_⟩
        rw [List.mem_singleton.mp hy] at e
        have := lt x hx
        omega
      · rcases List.mem_append.mp hx with hx | hx
        · exact Nat.lt_succ_of_lt (lt x hx)
        · rw [List.mem_singleton.mp hx]
          exact Nat.lt_succ_self j
    · obtain ⟨so, e5, k5, lf5, nd, lt, ll⟩ := hp
      refine ⟨_, .inl ⟨_, SqL.of e5, rfl⟩, ?_⟩
      cases so with
      | nil =>
        refine iteN rfl ⟨by show 1 ≤ sizeLine; decide, fun B hB => ?_⟩
        refine ⟨B, [0], rfl, k5.trans (keep_same (same_new hB)), lf_upd lf5 (lf_ne lf5 hB), (lf_ne lf5 hB).symm, upd_same, by decide, by simp, fun x hx => ?_, by decide⟩
        rw [List.mem_singleton.mp hx]
        exact n1
      | cons x so => exact iteP rfl ⟨D, x :: so, rfl, k5, lf5, pD.symm, e5, nd, by simp, lt, by omega⟩
  obtain ⟨So, so, rfl, k5, lf5, Sp, eSo, nd, ne, lt, sl⟩ := hp
  have eT5 := k5 _ _ pT eT
  have tu5 := tu.tk (tk_keep k5 lf4)
  refine ⟨_, rfl, (n : Int), rfl, ⟨by omega, by omega, by omega, by omega, by omega⟩, fun R0 hR0 => ?_⟩
  rw [rg_vI]
  have s6 := same_new (o := .lst ((List.range n).map vI)) hR0
  refine ⟨_, rfl, _, rfl, R0, T, n, List.range n, us, ts, rfl, upd_same, s6 _ _ eT5, tu5.tk (tk_same s6), List.nodup_range, (by
    intro z
    have := congrArg List.length z
    rw [List.length_range] at this
    simp at this
    omega), fun x hx => List.mem_range.mp hx, bd, by omega, by rw [List.length_range]; omega, by omega, fun H7 s7 => ⟨_, rfl, iteF ?_⟩⟩
  have s57 := s6.trans s7
  refine ⟨_, rfl, _, rfl, _, rfl, So, T, n, so, us, ts, rfl, s57 _ _ eSo, s57 _ _ eT5, tu5.tk (tk_same s57), nd, ne, lt, bd, by omega, sl, by omega, fun H8 s8 => ⟨_, rfl, iteF ?_⟩⟩
  exact ⟨same_of_keep hpH (k04.trans (k5.trans (keep_same (s57.trans s8)))), _, _, _, _, _, rfl⟩
end
end W34

namespace W34
open PySem PySem.Spec PyProof.Rows L2 Gs Gp Gr
/-! ### what the top has written -/
abbrev FnL (K : PySem.W.Frag) (x : Str) (st : Stmt) (kV : Value) (f : Addr) (oc dc pm cd ct : Value) (od an : Option Addr) (sl : Array (Option Value)) : Prop :=
  K.lookup f = some ⟨oc, od, .func (PySem.W.fnOf x x (defArgs st) (defBody st) (defScope st) .none kV dc pm an cd ct), sl⟩
theorem all_mk {P : Program} {w : World} {K : PySem.W.Frag} {h : Heap} {mg : Str → Option Value} {fa  : Addr}  (X : K.In h) (G : h.Ns mainGlobals mg) (hfa : mg "law" = some (.ref fa))
    {f1 f2 f3 f4 f6 f7 f8 f9 f13 f14 : Addr} {od1 an1 od2 an2 od3 an3 od4 an4 od6 an6 od7 an7 od8 an8 od9 an9 od13 an13 od14 an14 : Option Addr} {sl1 sl2 sl3 sl4 sl6 sl7 sl8 sl9 sl13 sl14 : Array (Option Value)}
    {oc1 kV1 dc1 pm1 cd1 ct1 oc2 kV2 dc2 pm2 cd2 ct2 oc3 kV3 dc3 pm3 cd3 ct3 oc4 kV4 dc4 pm4 cd4 ct4 oc6 kV6 dc6 pm6 cd6 ct6 oc7 kV7 dc7 pm7 cd7 ct7 oc8 kV8 dc8 pm8 cd8 ct8 oc9 kV9 dc9 pm9 cd9 ct9 oc13 kV13 dc13 pm13 cd13 ct13 oc14 kV14 dc14 pm14 cd14 ct14 : Value}
    (a1 : PySem.W.nsIn K mainGlobals "ties_among" = some (some (.ref f1))) (l1 : FnL K "ties_among" sAmong kV1 f1 oc1 dc1 pm1 cd1 ct1 od1 an1 sl1)
    (c1 : PySem.W.codeIn K cd1 "ties_among" = true) (k1 : PySem.W.keepIn K (.ref f1) = true)
    (a2 : PySem.W.nsIn K mainGlobals "ends_by_starts" = some (some (.ref f2))) (l2 : FnL K "ends_by_starts" sEnds kV2 f2 oc2 dc2 pm2 cd2 ct2 od2 an2 sl2)
    (c2 : PySem.W.codeIn K cd2 "ends_by_starts" = true) (k2 : PySem.W.keepIn K (.ref f2) = true)
    (a3 : PySem.W.nsIn K mainGlobals "all_from" = some (some (.ref f3))) (l3 : FnL K "all_from" sAllFrom kV3 f3 oc3 dc3 pm3 cd3 ct3 od3 an3 sl3)
    (c3 : PySem.W.codeIn K cd3 "all_from" = true) (k3 : PySem.W.keepIn K (.ref f3) = true)
    (a4 : PySem.W.nsIn K mainGlobals "pieces" = some (some (.ref f4))) (l4 : FnL K "pieces" sPieces kV4 f4 oc4 dc4 pm4 cd4 ct4 od4 an4 sl4)
    (c4 : PySem.W.codeIn K cd4 "pieces" = true) (k4 : PySem.W.keepIn K (.ref f4) = true)
    (a6 : PySem.W.nsIn K mainGlobals "_law_pool" = some (some (.ref f6))) (l6 : FnL K "_law_pool" sPool kV6 f6 oc6 dc6 pm6 cd6 ct6 od6 an6 sl6)
    (c6 : PySem.W.codeIn K cd6 "_law_pool" = true) (k6 : PySem.W.keepIn K (.ref f6) = true)
    (a7 : PySem.W.nsIn K mainGlobals "_law_take" = some (some (.ref f7))) (l7 : FnL K "_law_take" sTake kV7 f7 oc7 dc7 pm7 cd7 ct7 od7 an7 sl7)
    (c7 : PySem.W.codeIn K cd7 "_law_take" = true) (k7 : PySem.W.keepIn K (.ref f7) = true)
    (a8 : PySem.W.nsIn K mainGlobals "_law_ties" = some (some (.ref f8))) (l8 : FnL K "_law_ties" sTies kV8 f8 oc8 dc8 pm8 cd8 ct8 od8 an8 sl8)
    (c8 : PySem.W.codeIn K cd8 "_law_ties" = true) (k8 : PySem.W.keepIn K (.ref f8) = true)
    (a9 : PySem.W.nsIn K mainGlobals "_law_leads" = some (some (.ref f9))) (l9 : FnL K "_law_leads" sLeads kV9 f9 oc9 dc9 pm9 cd9 ct9 od9 an9 sl9)
    (c9 : PySem.W.codeIn K cd9 "_law_leads" = true) (k9 : PySem.W.keepIn K (.ref f9) = true)
    (a13 : PySem.W.nsIn K mainGlobals "_law_right" = some (some (.ref f13))) (l13 : FnL K "_law_right" sRight kV13 f13 oc13 dc13 pm13 cd13 ct13 od13 an13 sl13)
    (c13 : PySem.W.codeIn K cd13 "_law_right" = true) (k13 : PySem.W.keepIn K (.ref f13) = true)
    (a14 : PySem.W.nsIn K mainGlobals "law" = some (some (.ref f14))) (l14 : FnL K "law" sLaw kV14 f14 oc14 dc14 pm14 cd14 ct14 od14 an14 sl14)
    (c14 : PySem.W.codeIn K cd14 "law" = true) (k14 : PySem.W.keepIn K (.ref f14) = true)
    (zR : PySem.W.nsIn K mainGlobals "range" = some none) (zL : PySem.W.nsIn K mainGlobals "len" = some none) (zT : PySem.W.nsIn K mainGlobals "tuple" = some none) (zS : PySem.W.nsIn K mainGlobals "sorted" = some none) (zl : PySem.W.nsIn K mainGlobals "list" = some none) (zi : PySem.W.nsIn K mainGlobals "int" = some none) (zP : PySem.W.nsIn K mainGlobals "repr" = some none) (zV : PySem.W.nsIn K mainGlobals "reversed" = some none) (zE : PySem.W.nsIn K mainGlobals "enumerate" = some none) (zs : PySem.W.nsIn K mainGlobals "set" = some none) (zX : PySem.W.nsIn K mainGlobals "max" = some none) (zN : PySem.W.nsIn K mainGlobals "min" = some none)
    (base : Heap) (H : Hp) (s : Shared) (a : Addr) (ns : List Int) (hn : ns.length ≤ 63) (hS : SqL K H a (ns.map V.int))
    (e0 : Env0 P w K mg base callerA [] s H) :
    codeAny (model P w) callerA (.call (.ref fa) ⟨[.ref a], []⟩) (CR CX0 [] P w H s (fun v _ => v = .bl true) fun _ _ _ => False) s := by
  have e := hfa.symm.trans (PySem.W.mg_of X G a14)
  cases e
  have F1 := fun_mk (st := sAmong) l1 c1 k1
  have b1 := F1.binds (ps := ["entries", "ties"]) fun _ _ _ _ _ _ us hl => match us, hl with | [_, _], _ => rfl
  have g1 := PySem.W.mg_of X G a1
  have F2 := fun_mk (st := sEnds) l2 c2 k2
  have b2 := F2.binds (ps := ["entries", "pairs"]) fun _ _ _ _ _ _ us hl => match us, hl with | [_, _], _ => rfl
  have g2 := PySem.W.mg_of X G a2
  have F3 := fun_mk (st := sAllFrom) l3 c3 k3
  have b3 := F3.binds (ps := ["entry", "ends", "seen"]) fun _ _ _ _ _ _ us hl => match us, hl with | [_, _, _], _ => rfl
  have g3 := PySem.W.mg_of X G a3
  have F4 := fun_mk (st := sPieces) l4 c4 k4
  have b4 := F4.binds (ps := ["entries", "ties"]) fun _ _ _ _ _ _ us hl => match us, hl with | [_, _], _ => rfl
  have g4 := PySem.W.mg_of X G a4
  have F6 := fun_mk (st := sPool) l6 c6 k6
  have b6 := F6.binds (ps := ["_law_script", "_law_k"]) fun _ _ _ _ _ _ us hl => match us, hl with | [_, _], _ => rfl
  have g6 := PySem.W.mg_of X G a6
  have F7 := fun_mk (st := sTake) l7 c7 k7
  have b7 := F7.binds (ps := ["_law_pool_here", "_law_many"]) fun _ _ _ _ _ _ us hl => match us, hl with | [_, _], _ => rfl
  have g7 := PySem.W.mg_of X G a7
  have F8 := fun_mk (st := sTies) l8 c8 k8
  have b8 := F8.binds (ps := ["_law_pool_here", "_law_count", "_law_many"]) fun _ _ _ _ _ _ us hl => match us, hl with | [_, _, _], _ => rfl
  have g8 := PySem.W.mg_of X G a8
  have F9 := fun_mk (st := sLeads) l9 c9 k9
  have b9 := F9.binds (ps := ["_law_ties_here", "_law_count"]) fun _ _ _ _ _ _ us hl => match us, hl with | [_, _], _ => rfl
  have g9 := PySem.W.mg_of X G a9
  have F13 := fun_mk (st := sRight) l13 c13 k13
  have b13 := F13.binds (ps := ["_law_entries", "_law_ties_here", "_law_count"]) fun _ _ _ _ _ _ us hl => match us, hl with | [_, _, _], _ => rfl
  have g13 := PySem.W.mg_of X G a13
  have mzR := PySem.W.mg_none_of X G zR
  have mzL := PySem.W.mg_none_of X G zL
  have mzT := PySem.W.mg_none_of X G zT
  have mzS := PySem.W.mg_none_of X G zS
  have mzl := PySem.W.mg_none_of X G zl
  have mzi := PySem.W.mg_none_of X G zi
  have mzP := PySem.W.mg_none_of X G zP
  have mzV := PySem.W.mg_none_of X G zV
  have mzE := PySem.W.mg_none_of X G zE
  have mzs := PySem.W.mg_none_of X G zs
  have mzX := PySem.W.mg_none_of X G zX
  have mzN := PySem.W.mg_none_of X G zN
  have AM : Cl P w K mg base CX0 1 "ties_among" ["entries", "ties"] (spAmong) f1 _ := ⟨g1, ok_among F1 mzs, k1, b1⟩
  have EN : Cl P w K mg base CX0 1 "ends_by_starts" ["entries", "pairs"] (spEnds) f2 _ := ⟨g2, ok_ends F2, k2, b2⟩
  have AF : Cl P w K mg base CX0 1 "all_from" ["entry", "ends", "seen"] (spAllFrom) f3 _ := ⟨g3, ok_allFrom F3 mzL, k3, b3⟩
  have PC : Cl P w K mg base CX0 2 "pieces" ["entries", "ties"] (spPieces) f4 _ := ⟨g4, ok_pieces F4 AM EN AF mzV mzS, k4, b4⟩
  have PO : Cl P w K mg base CX0 1 "_law_pool" ["_law_script", "_law_k"] (spPool K) f6 _ := ⟨g6, ok_pool F6 mzL mzi, k6, b6⟩
  have TA : Cl P w K mg base CX0 1 "_law_take" ["_law_pool_here", "_law_many"] (spTake) f7 _ := ⟨g7, ok_take F7, k7, b7⟩
  have TI : Cl P w K mg base CX0 2 "_law_ties" ["_law_pool_here", "_law_count", "_law_many"] (spTies) f8 _ := ⟨g8, ok_ties F8 TA mzR mzT, k8, b8⟩
  have LD : Cl P w K mg base CX0 1 "_law_leads" ["_law_ties_here", "_law_count"] (spLeads) f9 _ := ⟨g9, ok_leads F9 mzR, k9, b9⟩
  have RI : ClG P w K mg base CX0 3 "_law_right" ["_law_entries", "_law_ties_here", "_law_count"] (spRight) f13 _ := ⟨g13, ok_right F13 LD PC mzE mzS mzl mzP, k13, b13⟩
  refine Gs.body_at (k := 3) (N := NLw) (ps := ["_law_script"]) (vs := [.ref a]) (us := [.ref a]) l14 c14 scLaw rfl ⟨rfl, by decide, by decide⟩ e0 (.of_eq rfl) (.cons rfl .nil) fun hr => ?_
  exact law_body PO TA TI RI mzR mzl mzX mzN mzL hr hS hn
end W34

open PySem PySem.W PyProof.Rows
set_option maxHeartbeats 0 in
theorem PySem.Challenge.cw_glassladder_k34_pieces_told_holds : PySem.Challenge.rw_glassladder_k34_pieces_told.Holds := by
  w_on; o_law; k_head; (case hw => w_witness2)
  k_fill
  refine Gs.walk_at1 (l := PySem.Challenge.rw_glassladder_k34_pieces_told) (n := 63) rfl (by decide) rfl (fun w h Y => PySem.W.kIn_of Y) ?F
  case F =>
    intro w mg fa h KX G hmg base H s a ns hn _ _ hS e0
    refine' W34.all_mk KX G hmg ?a1 ?l1 ?c1 ?k1 ?a2 ?l2 ?c2 ?k2 ?a3 ?l3 ?c3 ?k3 ?a4 ?l4 ?c4 ?k4 ?a6 ?l6 ?c6 ?k6 ?a7 ?l7 ?c7 ?k7 ?a8 ?l8 ?c8 ?k8 ?a9 ?l9 ?c9 ?k9 ?a13 ?l13 ?c13 ?k13 ?a14 ?l14 ?c14 ?k14 ?zR ?zL ?zT ?zS ?zl ?zi ?zP ?zV ?zE ?zs ?zX ?zN base H s a ns hn hS e0
    (case a1 => first | rfl | k_is)
    (case l1 => first | rfl | k_is)
    (case c1 => first | rfl | k_is)
    (case k1 => first | rfl | k_is)
    (case a2 => first | rfl | k_is)
    (case l2 => first | rfl | k_is)
    (case c2 => first | rfl | k_is)
    (case k2 => first | rfl | k_is)
    (case a3 => first | rfl | k_is)
    (case l3 => first | rfl | k_is)
    (case c3 => first | rfl | k_is)
    (case k3 => first | rfl | k_is)
    (case a4 => first | rfl | k_is)
    (case l4 => first | rfl | k_is)
    (case c4 => first | rfl | k_is)
    (case k4 => first | rfl | k_is)
    (case a6 => first | rfl | k_is)
    (case l6 => first | rfl | k_is)
    (case c6 => first | rfl | k_is)
    (case k6 => first | rfl | k_is)
    (case a7 => first | rfl | k_is)
    (case l7 => first | rfl | k_is)
    (case c7 => first | rfl | k_is)
    (case k7 => first | rfl | k_is)
    (case a8 => first | rfl | k_is)
    (case l8 => first | rfl | k_is)
    (case c8 => first | rfl | k_is)
    (case k8 => first | rfl | k_is)
    (case a9 => first | rfl | k_is)
    (case l9 => first | rfl | k_is)
    (case c9 => first | rfl | k_is)
    (case k9 => first | rfl | k_is)
    (case a13 => first | rfl | k_is)
    (case l13 => first | rfl | k_is)
    (case c13 => first | rfl | k_is)
    (case k13 => first | rfl | k_is)
    (case a14 => first | rfl | k_is)
    (case l14 => first | rfl | k_is)
    (case c14 => first | rfl | k_is)
    (case k14 => first | rfl | k_is)
    (case zR => first | rfl | k_is)
    (case zL => first | rfl | k_is)
    (case zT => first | rfl | k_is)
    (case zS => first | rfl | k_is)
    (case zl => first | rfl | k_is)
    (case zi => first | rfl | k_is)
    (case zP => first | rfl | k_is)
    (case zV => first | rfl | k_is)
    (case zE => first | rfl | k_is)
    (case zs => first | rfl | k_is)
    (case zX => first | rfl | k_is)
    (case zN => first | rfl | k_is)
