import PyProof.Rows.All
import Wide.All
import OpenK.AllK
import Wide.FinOn
import HandS.ForMost
import HandS.ForExc
import HandS.Wide
import HandS.Defaults
import HandS.ExcIs
import HandS.ExcValue
import PyProof.Rows.ReprR
import HandS.ExcOwn
import HandS.ExcInit
import HandS.ExcField
import HandS.IsInst
import HandS.RaiseMore
import HandS.Walk
import HandS.Deep
import HandS.Sort
import PyProof.Rows.SortKeyStr
import HandS.More
import HandS.TupMul
import HandS.Dict
import HandS.DictTup
import KE.KDictWalk
import HandS.Small
import HandS.Style
import HandS.List
import HandS.Comp
import HandS.FStrTup
import HandS.RevRange
import HandS.TupLe
import HandS.NoneIn
import PyProof.NeKinds
import PySem.Challenge.RW_glassladder_k25_whole_said_otherwise
set_option Elab.async false
set_option linter.all false
set_option maxRecDepth 100000
set_option maxHeartbeats 8000000
namespace Gs
/-! the mathematics of shares -/
def gI (a b : Int) : Int := ((Int.gcd a b : Nat) : Int)
def lw (t b : Int) : Int × Int :=
  if b < 0 then (t.fdiv (-(gI t b)), b.fdiv (-(gI t b))) else (t.fdiv (gI t b), b.fdiv (gI t b))
def Sh (x : Int × Int) : Prop := 0 < x.2 ∧ Int.gcd x.1 x.2 = 1
theorem lw_ex (t b : Int) (h : b ≠ 0) : ∃ (g : Int), 0 < g ∧ g = gI t b ∧ ∃ p q : Int, lw t b = (p, q) ∧ Sh (p, q) ∧
    ((b < 0 ∧ t = -g * p ∧ b = -g * q) ∨ (0 < b ∧ t = g * p ∧ b = g * q)) := by
  have g0 : 0 < Int.gcd t b := by
    rcases Nat.eq_zero_or_pos (Int.gcd t b) with e | e
    · exact absurd (Int.gcd_eq_zero_iff.mp e).2 h
    · exact e
  have gp : 0 < gI t b := by unfold gI; omega
  obtain ⟨t', ht⟩ : gI t b ∣ t := Int.gcd_dvd_left t b
  obtain ⟨b', hb⟩ : gI t b ∣ b := Int.gcd_dvd_right t b
  have cop : Int.gcd t' b' = 1 := by
    have e1 := Int.gcd_mul_left (gI t b) t' b'
    rw [← ht, ← hb] at e1
    have e2 : (gI t b).natAbs = Int.gcd t b := by unfold gI; omega
    rw [e2] at e1
    have e3 : Int.gcd t b * 1 = Int.gcd t b * Int.gcd t' b' := by rw [Nat.mul_one]; exact e1
    exact (Nat.eq_of_mul_eq_mul_left g0 e3).symm
  generalize eg : gI t b = g at *
  have gne : g ≠ 0 := by omega
  refine ⟨g, gp, rfl, ?_⟩
  by_cases hn : b < 0
  · refine ⟨-t', -b', ?_, ⟨?_, ?_⟩, .inl ⟨hn, ?_, ?_⟩⟩
    · unfold lw
      rw [if_pos hn, eg]
      have e1 : t = (-g) * (-t') := by rw [ht]; grind
      have e2 : b = (-g) * (-b') := by rw [hb]; grind
      have z1 : t.fdiv (-g) = -t' := by rw [e1]; exact Int.mul_fdiv_cancel_left _ (by omega)
      have z2 : b.fdiv (-g) = -b' := by rw [e2]; exact Int.mul_fdiv_cancel_left _ (by omega)
      rw [z1, z2]
    · show 0 < -b'
      by_cases e : b' < 0
      · omega
      · have := Int.mul_nonneg (Int.le_of_lt gp) (show 0 ≤ b' by omega)
        omega
    · show Int.gcd (-t') (-b') = 1
      rw [Int.neg_gcd, Int.gcd_neg]
      exact cop
    · rw [ht]; grind
    · rw [hb]; grind
  · have bp : 0 < b := by omega
    refine ⟨t', b', ?_, ⟨?_, cop⟩, .inr ⟨bp, ht, hb⟩⟩
    · unfold lw
      rw [if_neg hn, eg]
      have z1 : t.fdiv g = t' := by rw [ht]; exact Int.mul_fdiv_cancel_left _ gne
      have z2 : b.fdiv g = b' := by rw [hb]; exact Int.mul_fdiv_cancel_left _ gne
      rw [z1, z2]
    · show 0 < b'
      by_cases e : 0 < b'
      · exact e
      · have := Int.mul_nonneg (Int.le_of_lt gp) (show 0 ≤ -b' by omega)
        rw [Int.mul_neg] at this
        omega
theorem lw_sh {t b : Int} (h : b ≠ 0) : Sh (lw t b) := by
  obtain ⟨g, _, _, p, q, e, s, _⟩ := lw_ex t b h
  rw [e]; exact s
theorem lw_cross {t b : Int} (h : b ≠ 0) : (lw t b).1 * b = t * (lw t b).2 := by
  obtain ⟨g, _, _, p, q, e, s, ⟨_, e1, e2⟩ | ⟨_, e1, e2⟩⟩ := lw_ex t b h
  · rw [e]; show p * b = t * q; rw [e1, e2]; grind
  · rw [e]; show p * b = t * q; rw [e1, e2]; grind
theorem abs_le_mul {g p : Int} (h : 0 < g) : p.natAbs ≤ (g * p).natAbs := by
  rw [Int.natAbs_mul]
  exact Nat.le_mul_of_pos_left _ (by omega)
theorem lw_le {t b : Int} (h : b ≠ 0) : (lw t b).1.natAbs ≤ t.natAbs ∧ (lw t b).2.natAbs ≤ b.natAbs := by
  obtain ⟨g, gp, _, p, q, e, s, ⟨_, e1, e2⟩ | ⟨_, e1, e2⟩⟩ := lw_ex t b h
  · rw [e]
    have x1 : t = -(g * p) := by rw [e1]; grind
    have x2 : b = -(g * q) := by rw [e2]; grind
    show p.natAbs ≤ _ ∧ q.natAbs ≤ _
    rw [x1, x2, Int.natAbs_neg, Int.natAbs_neg]
    exact ⟨abs_le_mul gp, abs_le_mul gp⟩
  · rw [e, e1, e2]
    exact ⟨abs_le_mul gp, abs_le_mul gp⟩
theorem cop_dvd {p q r : Int} (c : Int.gcd p q = 1) (d : q ∣ p * r) : q ∣ r := by
  have d' : q.natAbs ∣ p.natAbs * r.natAbs := by
    rw [← Int.natAbs_mul]
    exact Int.natAbs_dvd_natAbs.mpr d
  have c' : Nat.Coprime q.natAbs p.natAbs := by
    have e : Nat.gcd p.natAbs q.natAbs = 1 := c
    rw [Nat.gcd_comm] at e
    exact e
  exact Int.natAbs_dvd_natAbs.mp (c'.dvd_of_dvd_mul_left d')
theorem sh_eq {x y : Int × Int} (hx : Sh x) (hy : Sh y) (h : x.1 * y.2 = y.1 * x.2) : x = y := by
  obtain ⟨p, q⟩ := x
  obtain ⟨r, s⟩ := y
  obtain ⟨q0, c1⟩ := hx
  obtain ⟨s0, c2⟩ := hy
  have h : p * s = r * q := h
  have q0 : 0 < q := q0
  have s0 : 0 < s := s0
  have c1 : Int.gcd p q = 1 := c1
  have c2 : Int.gcd r s = 1 := c2
  have d1 : q ∣ s := cop_dvd c1 ⟨r, by rw [h]; grind⟩
  have d2 : s ∣ q := cop_dvd c2 ⟨p, by rw [← h]; grind⟩
  have e : q = s := Int.le_antisymm (Int.le_of_dvd s0 d1) (Int.le_of_dvd q0 d2)
  subst e
  have e2 : p = r := Int.eq_of_mul_eq_mul_right (by omega) h
  rw [e2]
theorem lw_eq {t b t' b' : Int} (h : b ≠ 0) (h' : b' ≠ 0) (e : t * b' = t' * b) : lw t b = lw t' b' := by
  have c := lw_cross (t := t) h
  have c' := lw_cross (t := t') h'
  have s := lw_sh (t := t) h
  have s' := lw_sh (t := t') h'
  generalize lw t b = x at *
  generalize lw t' b' = y at *
  refine sh_eq s s' ?_
  have n : b * b' ≠ 0 := Int.mul_ne_zero h h'
  refine Int.eq_of_mul_eq_mul_right n ?_
  have a1 : x.1 * y.2 * (b * b') = t * x.2 * (y.2 * b') := by rw [← c]; grind
  have a2 : y.1 * x.2 * (b * b') = t' * y.2 * (x.2 * b) := by rw [← c']; grind
  rw [a1, a2]
  have a3 : t * x.2 * (y.2 * b') = t * b' * (x.2 * y.2) := by grind
  have a4 : t' * y.2 * (x.2 * b) = t' * b * (x.2 * y.2) := by grind
  rw [a3, a4, e]
theorem lw_id {x : Int × Int} (h : Sh x) : lw x.1 x.2 = x := by
  have n : x.2 ≠ 0 := by have := h.1; omega
  exact sh_eq (lw_sh n) h (lw_cross n)
def pl (x y : Int × Int) : Int × Int := lw (x.1 * y.2 + y.1 * x.2) (x.2 * y.2)
def tm (x y : Int × Int) : Int × Int := lw (x.1 * y.1) (x.2 * y.2)
def ng (x : Int × Int) : Int × Int := (-x.1, x.2)
theorem Sh.ne {x : Int × Int} (h : Sh x) : x.2 ≠ 0 := by have := h.1; omega
theorem Sh.ng {x : Int × Int} (h : Sh x) : Sh (ng x) := ⟨h.1, by show Int.gcd (-x.1) x.2 = 1; rw [Int.neg_gcd]; exact h.2⟩
theorem mul_ne {a b : Int} (h : a ≠ 0) (h' : b ≠ 0) : a * b ≠ 0 := Int.mul_ne_zero h h'
theorem pl_sh {x y : Int × Int} (hx : Sh x) (hy : Sh y) : Sh (pl x y) := lw_sh (mul_ne hx.ne hy.ne)
theorem pl_same {x y : Int × Int} (hx : Sh x) (hy : Sh y) (e : x.2 = y.2) : lw (x.1 + y.1) x.2 = pl x y :=
  lw_eq hx.ne (mul_ne hx.ne hy.ne) (by rw [← e]; grind)
theorem pl3 {x y z : Int × Int} (hx : Sh x) (hy : Sh y) (hz : Sh z) :
    pl (pl x y) z = lw (x.1 * y.2 * z.2 + y.1 * x.2 * z.2 + z.1 * x.2 * y.2) (x.2 * y.2 * z.2) := by
  have n := mul_ne hx.ne hy.ne
  have c := lw_cross (t := x.1 * y.2 + y.1 * x.2) n
  have s := pl_sh hx hy
  refine lw_eq (mul_ne s.ne hz.ne) (mul_ne n hz.ne) ?_
  have e : pl x y = lw (x.1 * y.2 + y.1 * x.2) (x.2 * y.2) := rfl
  rw [← e] at c
  generalize pl x y = u at *
  have a1 : (u.1 * z.2 + z.1 * u.2) * (x.2 * y.2 * z.2) = u.1 * (x.2 * y.2) * (z.2 * z.2) + z.1 * u.2 * (x.2 * y.2 * z.2) := by grind
  rw [a1, c]
  grind
theorem pl_rc {x y z : Int × Int} (hx : Sh x) (hy : Sh y) (hz : Sh z) : pl (pl x y) z = pl (pl x z) y := by
  rw [pl3 hx hy hz, pl3 hx hz hy]
  congr 1 <;> grind
theorem sh0 : Sh (0, 1) := by constructor <;> decide
theorem pl_0 {s : Int × Int} (h : Sh s) : pl (0, 1) s = s := by
  have e : pl (0, 1) s = lw s.1 s.2 := by
    unfold pl
    congr 1
    · show 0 * s.2 + s.1 * 1 = s.1; grind
    · show 1 * s.2 = s.2; grind
  rw [e]
  exact lw_id h
def sumS (a : Int × Int) (l : List (Int × Int)) : Int × Int := l.foldl pl a
theorem sum_sh : ∀ (l : List (Int × Int)) (a : Int × Int), Sh a → (∀ x ∈ l, Sh x) → Sh (sumS a l)
  | [], _, h, _ => h
  | x :: l, a, h, hl => sum_sh l (pl a x) (pl_sh h (hl x List.mem_cons_self)) fun y hy => hl y (List.mem_cons_of_mem _ hy)
theorem sum_rc : ∀ (l : List (Int × Int)) (a s : Int × Int), Sh a → Sh s → (∀ x ∈ l, Sh x) → sumS (pl a s) l = pl (sumS a l) s
  | [], _, _, _, _, _ => rfl
  | x :: l, a, s, ha, hs, hl => by
    have hx := hl x List.mem_cons_self
    show sumS (pl (pl a s) x) l = pl (sumS (pl a x) l) s
    rw [pl_rc ha hs hx]
    exact sum_rc l (pl a x) s (pl_sh ha hx) hs fun y hy => hl y (List.mem_cons_of_mem _ hy)
theorem sum_start {l : List (Int × Int)} {s : Int × Int} (hs : Sh s) (hl : ∀ x ∈ l, Sh x) : sumS s l = pl (sumS (0, 1) l) s := by
  have e := sum_rc l (0, 1) s sh0 hs hl
  rw [pl_0 hs] at e
  exact e
/-! how great they may be -/
def Bd (n : Nat) (x : Int × Int) : Prop := x.1.natAbs < 2 ^ n ∧ x.2.natAbs < 2 ^ n
theorem mul_bd {a b : Int} {n m : Nat} (ha : a.natAbs < 2 ^ n) (hb : b.natAbs < 2 ^ m) : (a * b).natAbs < 2 ^ (n + m) := by
  rw [Int.natAbs_mul, Nat.pow_add]
  exact Nat.mul_lt_mul'' ha hb
theorem add_bd {a b : Int} {n : Nat} (ha : a.natAbs < 2 ^ n) (hb : b.natAbs < 2 ^ n) : (a + b).natAbs < 2 ^ (n + 1) := by
  rw [Nat.pow_succ]
  have := Int.natAbs_add_le a b
  omega
theorem bd_mono {a : Int} {n m : Nat} (ha : a.natAbs < 2 ^ n) (h : n ≤ m) : a.natAbs < 2 ^ m := Nat.lt_of_lt_of_le ha (Nat.pow_le_pow_right (by decide) h)
theorem Bd.mono {x : Int × Int} {n m : Nat} (h : Bd n x) (hm : n ≤ m) : Bd m x := ⟨bd_mono h.1 hm, bd_mono h.2 hm⟩
theorem lw_bd {t b : Int} {n : Nat} (h : b ≠ 0) (h1 : t.natAbs < 2 ^ n) (h2 : b.natAbs < 2 ^ n) : Bd n (lw t b) :=
  ⟨Nat.lt_of_le_of_lt (lw_le h).1 h1, Nat.lt_of_le_of_lt (lw_le h).2 h2⟩
theorem pl_bd {x y : Int × Int} {n m : Nat} (hx : Sh x) (hy : Sh y) (b1 : Bd n x) (b2 : Bd m y) : Bd (n + m + 1) (pl x y) := by
  refine lw_bd (mul_ne hx.ne hy.ne) (add_bd (mul_bd b1.1 b2.2) ?_) (bd_mono (mul_bd b1.2 b2.2) (by omega))
  have := mul_bd b2.1 b1.2
  rw [Nat.add_comm m n] at this
  exact this
theorem sum_bd : ∀ (l : List (Int × Int)) (a : Int × Int) (n : Nat), Sh a → Bd n a → (∀ x ∈ l, Sh x ∧ Bd 70 x) → Bd (n + 71 * l.length) (sumS a l)
  | [], _, _, _, b, _ => b
  | x :: l, a, n, h, b, hl => by
    have hx := hl x List.mem_cons_self
    have z := sum_bd l (pl a x) (n + 70 + 1) (pl_sh h hx.1) (pl_bd h hx.1 b hx.2) fun y hy => hl y (List.mem_cons_of_mem _ hy)
    have e : n + 70 + 1 + 71 * l.length = n + 71 * (x :: l).length := by rw [List.length_cons]; omega
    rw [e] at z
    exact z
/-! the greatest number that divides both, by turns -/
theorem gcd_turn {a b : Int} (ha : 0 ≤ a) (hb : 0 < b) : Int.gcd b (a.fmod b) = Int.gcd a b := by
  rw [Int.fmod_eq_emod_of_nonneg _ (by omega)]
  show Nat.gcd b.natAbs (a % b).natAbs = Nat.gcd a.natAbs b.natAbs
  have e : (a % b).natAbs = a.natAbs % b.natAbs := by
    rw [Int.natAbs_emod_of_nonneg ha]
  rw [e, Nat.gcd_comm a.natAbs b.natAbs, Nat.gcd_rec b.natAbs a.natAbs, Nat.gcd_comm]
theorem gI_abs {a b : Int} : gI (if a < 0 then -a else a) (if b < 0 then -b else b) = gI a b := by
  unfold gI
  congr 1
  show Nat.gcd _ _ = Nat.gcd _ _
  have e : ∀ x : Int, (if x < 0 then -x else x).natAbs = x.natAbs := fun x => by split <;> omega
  rw [e a, e b]
theorem gI_bd {a b : Int} {n : Nat} (h : b ≠ 0) (hb : b.natAbs < 2 ^ n) : 0 < gI a b ∧ (gI a b).natAbs < 2 ^ n := by
  have g0 : 0 < Int.gcd a b := by
    rcases Nat.eq_zero_or_pos (Int.gcd a b) with e | e
    · exact absurd (Int.gcd_eq_zero_iff.mp e).2 h
    · exact e
  have d : Int.gcd a b ∣ b.natAbs := Nat.gcd_dvd_right _ _
  have l := Nat.le_of_dvd (by omega) d
  unfold gI
  constructor
  · omega
  · have e : ((Int.gcd a b : Nat) : Int).natAbs = Int.gcd a b := Int.natAbs_natCast _
    rw [e]
    omega
theorem lw_1 (t : Int) : lw t 1 = (t, 1) := by
  unfold lw gI
  rw [if_neg (by decide), Int.gcd_one]
  simp
end Gs

namespace Gs
open PySem PySem.Spec PyProof.Rows L2
/-! ### a caught error, kept behind its suite -/
/-- the error object of the class cls at a, its own dict d -/
def ExK (cls : Value) (d : Option Addr) (a : Addr) : HO :=
  .ext fun h => ∃ (o : Obj) (fs : Array Value), h.get? a = some o ∧ Zc cls d o ∧ o.data = .fields fs
section
variable {X : Cx} {pins : List (Addr × Obj)} {σ : L2.St} {H : Hp} {s : Shared}
theorem track {a : Addr} {o : Obj} {cls : Value} {d : Option Addr} {fs : Array Value}
    (I : Inv X ((a, o) :: pins) σ H s) (n0 : X.s_0.heap.get? a = none)
    (np : ∀ p ∈ X.pn ++ pins, p.1 ≠ a) (z : Zc cls d o) (hd : o.data = .fields fs) :
    Inv X pins σ (upd H a (ExK cls d a)) s := by
  have P := I.pin (a, o) (List.mem_append.mpr (.inr List.mem_cons_self))
  have g : s.heap.get? a = some o := P.1
  have hn : H a = none := P.2.1
  have b := I.base
  have nt : ∀ {c u}, H c = some u → c ≠ a := fun e => ne_of_none e hn
  have n1 : ∀ {c u}, X.s_0.heap.get? c = some u → c ≠ a := fun e q => by
    rw [q, n0] at e
    cases e
  refine ⟨I.ok, I.os, I.bare, ⟨b.keep, b.slot, ?_, b.there, ?_, ?_, ?_⟩, I.loc, I.cell, ?_, ?_, ?_, ?_, I.len⟩
  · intro c u e n x
    rw [upd_ne (n1 e)]
    exact b.free c u e n x
  · intro c xs e
    have q := b.tups c xs e
    rw [upd_ne (nt q)]
    exact q
  · intro c u v e
    have q := b.frzs c u v e
    rw [upd_ne (nt q)]
    exact q
  · intro c ps e
    obtain ⟨m, q⟩ := b.tbls c ps e
    refine ⟨m, ?_⟩
    rw [upd_ne (nt q)]
    exact q
  · rw [upd_ne (fun e => P.2.2.1 e.symm)]
    exact I.free
  · intro x c e
    have ne : c ≠ a := fun q => by
      obtain ⟨v, u, e1, e2⟩ := I.cell x c e
      rw [q, g] at e1
      cases e1
      exact P.2.2.2.2 _ e2
    rw [upd_ne ne]
    exact I.freeC x c e
  · intro p hp
    have hm : p ∈ X.pn ++ (a, o) :: pins := by
      rcases List.mem_append.mp hp with h | h
      · exact List.mem_append.mpr (.inl h)
      · exact List.mem_append.mpr (.inr (List.mem_cons_of_mem _ h))
    obtain ⟨e1, e2, e3⟩ := I.pin p hm
    refine ⟨e1, ?_, e3⟩
    rw [upd_ne (np p hp)]
    exact e2
  · refine HOk.laidN I.hok (fun _ _ e => e) hn ?_
    exact ⟨⟨o, fs, g, z, hd⟩, ⟨o, g⟩, fun h1 h2 ⟨o1, f1, e1, r⟩ k => ⟨o1, f1, k o1 e1, r⟩⟩
end
/-- what 'except x as n: y = n' wishes of an error of the body; slots i of n, j of y -/
def wKeep (K : PySem.W.Frag) (c : Value) (i j : Nat) (W0 : WX) (D : Ends) : WX := fun cls d σ H =>
  ∃ b, PySem.W.exmOne K cls c = some b ∧
    (b = true → ∀ a, H a = none → D.nx (((σ.set i (some (.ref a))).set j (some (.ref a))).set i none) (upd H a (ExK cls d a))) ∧
    (b = false → W0 cls d σ H)
section
variable {X : Cx} {x n y : Str} {c : Value} {i j : Nat} {body : List Stmt} {p1 p2 p3 np pos pos' : Pos} {tb : WX → TS} {W0 : WX}
theorem ps_try_kept (hs : X.stack = X.env :: X.outer) (hf : X.env.frame = some X.env.locals) (hex : X.ex = [])
    (hN : X.N.Nodup) (hi : X.N[i]? = some n) (hj : X.N[j]? = some y)
    (hln : X.env.kindOf n = some .local) (hly : X.env.kindOf y = some .local)
    (hdn : (n == ("__debug__" : Str)) = false) (hcn : (n == ("__classdict__" : Str)) = false)
    (hlt : i < X.N.length) (hij : i ≠ j)
    (hc : Names X x c) (tk : Takes X W0)
    (hsw : swapsWith (.Name n p2) (some (.Name y p1)) p3.line X.env = pure false)
    (hb : ∀ (W : WX) (pn : List (Addr × Obj)) (xe : Value → Shared → Prop), Takes (X.tr pn xe) W →
      PassesOwn (model X.prog X.w) X.A X.env xe → PSs (X.tr pn xe) body (tb W)) :
    PS X (.Try body [.ExceptHandler (some (.Name x np)) (some n) [.Assign [.Name y p1] (.Name n p2) p3] pos'] [] [] pos)
      (fun D σ H => tb (wKeep X.K c i j W0 D) D σ H) := by
  constructor
  intro pins s σ H D I h
  have ok := I.ok
  have hfr : X.A.frames = some (X.env :: X.outer) := by
    rw [ok.frames, hs]
  refine wpAny_Try_except ?_
  let hh : List ExceptHandler := [.ExceptHandler (some (.Name x np)) (some n) [.Assign [.Name y p1] (.Name n p2) p3] pos']
  let xe' : Value → Shared → Prop := fun e s₁ =>
    wpAny (model X.prog X.w) X.A (noteFrame e X.env) (fun _ s₂ =>
      wpAny (model X.prog X.w) X.A (setFlight e none) (fun _ s₃ =>
        wpAny (model X.prog X.w) X.A (handleBy e X.env hh) (SP X pins D) X.xe s₃) X.xe s₂) X.xe s₁
  have tk' : Takes (X.tr (X.pn ++ pins) xe') (wKeep X.K c i j W0 D) := by
    intro u s' xx
    obtain ⟨a, B, sI, pins', σ', H', cls, d, eu, J', nb, up, sky, na, os, ag, b, hb1, hyes, hno⟩ := xx
    subst eu
    have J : Inv X pins σ' H' sI := J'.ofTry ok
    have sky' : Sky B (X.env :: X.outer) a (Zc cls d) X.env.locals s'.heap := by
      rw [← hs]
      exact sky
    show wpAny (model X.prog X.w) X.A (noteFrame (.ref a) X.env) _ _ _
    refine Sky.land Zc.steady hfr hf sky' fun h3 fl3 up3 => ?_
    have J3 : Inv X pins σ' H' { s' with heap := h3 } := Inv.landed J nb fl3.1 (up.trans up3) os ag
    obtain ⟨o3, v3, e3, z3, d3⟩ := fl3.there
    have nfr : a ∉ frs (X.env :: X.outer) := by
      intro hm
      obtain ⟨_, o', e', q⟩ := fl3.2.2.1.mem hm
      rw [e3] at e'
      cases e'
      exact q _ d3
    have nL : a ≠ X.env.locals := fun z => nfr (by
      refine List.mem_filterMap.mpr ⟨X.env, List.mem_cons_self, ?_⟩
      rw [hf, z])
    have nF : a ∉ X.fs := fun hm => by
      obtain ⟨e, he, q⟩ := List.mem_filterMap.mp hm
      exact nfr (List.mem_filterMap.mpr ⟨e, List.mem_cons_of_mem _ he, q⟩)
    have new : sI.heap.get? a = none := by
      cases q : sI.heap.get? a with
      | none => rfl
      | some o =>
        have q2 := nb a o q (by rw [hs]; exact nfr)
        rw [fl3.2.1] at q2
        cases q2
    have n0 : X.s_0.heap.get? a = none := by
      cases q : X.s_0.heap.get? a with
      | none => rfl
      | some o =>
        obtain ⟨o', q2⟩ := J.base.there a o q (by rw [hex]; exact List.not_mem_nil)
        rw [new] at q2
        cases q2
    have npn : ∀ p ∈ X.pn ++ pins, p.1 ≠ a := fun p hp q => by
      have q2 := (J.pin p hp).1
      rw [q, new] at q2
      cases q2
    have S3 := J3.suite e3 d3 na nL nF
    refine wpAny_handleBy_cons (codeAny_handlers_test ?_) (by intro q; cases q)
    have LT : PySem.W.Looks (model X.prog X.w) h3 (typeOf (.ref a)) cls := by
      intro A Q E s k q
      refine wpAny_typeOf_ref (k _ _ e3) ?_
      rw [z3.1]
      exact q
    have LM := PySem.W.exm_one (M := model X.prog X.w) J3.kIn LT hb1
    have look : ∀ {Q : Value → Shared → Prop} {E : Value → Shared → Prop}, Q c { s' with heap := h3 } →
        wpAny (model X.prog X.w) (X.A.mark (some (.ref a))) (eval (.Name x np) X.env) Q E { s' with heap := h3 } := by
      intro Q E q
      obtain ⟨hg, hdbg, hm | ⟨hm, hv, hnn⟩⟩ := hc
      · exact ld_glob (X := X.suite a ((a, o3) :: (X.pn ++ pins))) S3 hg hm q hdbg
      · exact ld_blt (X := X.suite a ((a, o3) :: (X.pn ++ pins))) S3 hg hm hv q hnn hdbg
    refine look (LM.here ?_)
    cases b with
    | true =>
      refine codeAny_handlers_suite_as ?_
      refine HandSPX.lands_againZ fl3 fun h4 fl4 up4 => ?_
      have J4 : Inv X pins σ' H' { s' with heap := h4 } := Inv.landed J nb fl4.1 ((up.trans up3).trans up4) os ag
      obtain ⟨o4, v4, e4, z4, d4⟩ := fl4.there
      have S4 := J4.suite e4 d4 na nL nF
      refine store_ok (X := X.suite a ((a, o4) :: (X.pn ++ pins))) (v := .ref a) S4 hN hi (.inl hln) rfl (fun s5 S5 => ?_) (.inr hln)
      have st : PSs (X.suite a ((a, o4) :: (X.pn ++ pins))) [.Assign [.Name y p1] (.Name n p2) p3] _ :=
        pss_one (ps_set (i := j) hN hj (.inl hly) (pe_var hi (.inl hln) hdn hcn) hsw (.inr hly))
      have len : i < σ'.length := by
        rw [J.len]
        exact hlt
      have sl : (σ'.set i (some (V.ref a)))[i]? = some (some (V.ref a)) := by
        rw [List.getElem?_set_self len]
      refine wpAny_mono (st.run [] s5 _ H' { nx := fun σ6 H6 => σ6 = (σ'.set i (some (.ref a))).set j (some (.ref a)) ∧ H6 = H', rt := fun _ _ => False } S5 ⟨.ref a, sl, rfl, rfl⟩) (fun f s6 hsp => ?_) (fun _ _ z => False.elim z)
      cases f with
      | next =>
        obtain ⟨σ6, H6, S6, e6, e7⟩ := hsp
        subst e6
        subst e7
        have T6 : Inv X ((a, o4) :: pins) _ H6 s6 := ⟨ok, S6.os, S6.bare, S6.base, S6.loc, S6.cell, S6.free, S6.freeC, (fun p hp => S6.pin p (by
          show p ∈ ((a, o4) :: (X.pn ++ pins)) ++ []
          rw [List.append_nil]
          rcases List.mem_append.mp hp with h | h
          · exact List.mem_cons_of_mem _ (List.mem_append.mpr (.inl h))
          · rcases List.mem_cons.mp h with h | h
            · rw [h]
              exact List.mem_cons_self
            · exact List.mem_cons_of_mem _ (List.mem_append.mpr (.inr h)))), S6.hok, S6.len⟩
        refine gone_ok T6 hN hi hln fun s7 J7 => ?_
        exact ⟨_, _, track J7 n0 npn z4 d4, hyes rfl a na⟩
      | brk =>
        obtain ⟨_, _, _, q⟩ := hsp
        exact False.elim q
      | cont =>
        obtain ⟨_, _, _, q⟩ := hsp
        exact False.elim q
      | ret u =>
        obtain ⟨_, _, _, _, _, q⟩ := hsp
        exact False.elim q
    | false =>
      show wpAny _ X.A (handleBy (.ref a) X.env []) _ _ _
      refine wpAny_handleBy_nil ?_
      have T3 := fl3.2.2.2
      obtain ⟨oe, fv, T, oT, ts', he, hz, hd, h1, hr⟩ := T3
      unfold PySem.passOn
      refine wpAny_bind (wpAny_field he hd h1 ?_)
      rw [if_neg (by simp)]
      have fin : wpAny (model X.prog X.w) X.A (setFlight (.ref a) X.env.frame)
          (fun _ s4 => wpAny (model X.prog X.w) X.A (throw (.ref a) : Sem Flow) (SP X pins D) X.xe s4) X.xe { s' with heap := h3 } := by
        rw [hf]
        refine HandSPX.setFlight_upZ fl3 fun h4 hh4 up4 => wpAny_throw (tk _ _ ?_)
        refine ⟨a, B, sI, pins, σ', H', cls, d, rfl, J, nb, (up.trans up3).trans up4, .inr (.inr ?_), na, os, ag, hno rfl⟩
        rw [hs]
        exact hh4
      first
        | exact wpAny_bind (wpAny_pure (wpAny_bind fin))
        | exact wpAny_bind fin
  refine wpAny_mono ((hb _ (X.pn ++ pins) xe' tk' PassesOwn.looking).run [] s σ H D (I.toTry _) h) (fun f s1 hsp => ?_) (fun _ _ he => he)
  cases f with
  | next =>
    obtain ⟨σ', H', J', q⟩ := hsp
    exact wpAny_execs_nil ⟨σ', H', J'.ofTry ok, q⟩
  | brk =>
    obtain ⟨σ', H', J', q⟩ := hsp
    exact ⟨_, _, J'.ofTry ok, q⟩
  | cont =>
    obtain ⟨σ', H', J', q⟩ := hsp
    exact ⟨_, _, J'.ofTry ok, q⟩
  | ret u =>
    obtain ⟨v, σ', H', J', r, q⟩ := hsp
    exact ⟨_, _, _, J'.ofTry ok, r, q⟩
/-- isinstance(e, c) of a kept error -/
theorem call_isK {D : Addr} (C : ExcC X.K D) : CallR X (.builtin "isinstance") (fun xs H Q => ∃ (a : Addr) (t : V) (tv : Value) (b : Bool),
    xs = [.ref a, t] ∧ H a = some (ExK (.ref D) none a) ∧ (∀ u, RelV t u → u = tv) ∧ PySem.W.kitOne X.K (.ref D) tv = some b ∧ Q (.bl b) H) := by
  intro pins s σ H xs us Q I r h
  obtain ⟨a, t, tv, b, rfl, ha, ht, e, q⟩ := h
  cases r with
  | cons rx rr =>
    cases rr with
    | cons rt rr =>
      cases rr
      cases rx
      have ec := ht _ rt
      subst ec
      obtain ⟨⟨o, fs, g, z, hv⟩, _, _⟩ := I.hok a _ ha
      have W : PySem.W.InstAt s.heap a o D none := by
        obtain ⟨oc, od, oda, osl⟩ := o
        obtain ⟨h1, h2⟩ := z
        dsimp only at h1 h2 hv
        subst h1 h2 hv
        exact ⟨g, rfl, rfl, trivial⟩
      have kit := PySem.W.handS_kitx_exc (x := a) (ox := o) C.hg C.hk C.hs C.hd C.ha C.hn C.ht C.hm
      exact PySem.W.kia_one kit I.kIn W e (fun z => nomatch z) fun tk => ⟨.bl b, H, I.kept (t' := tk) fun _ _ z => z, rfl, q⟩
/-- repr of data, where no other repr is under way -/
theorem call_reprD (hg : X.A.guards = some []) (hu : X.A.units + 64 < cLine) : CallR X (.builtin "repr") (fun xs H Q => ∃ (a : Addr) (d : PyData),
    xs = [.ref a] ∧ Dp X.K H (.ref a) d ∧ d.showable = true ∧ d.hasDict = false ∧ d.depth ≤ 60 ∧ d.shown.length ≤ sizeLine ∧ Q (.str d.shown) H) := by
  intro pins s σ H xs us Q I r h
  obtain ⟨a, d, rfl, hd, h1, h2, h3, h4, q⟩ := h
  obtain ⟨u, rfl, ru⟩ := vals1 r
  cases ru
  obtain ⟨as, rd⟩ := Dp.reads I d _ _ hd rfl
  exact repr_of_reads' rd h1 (PyData.noDict_hsm h2) hg (by omega) (fun _ _ e => e) (fun h' u tk k => ⟨.str d.shown, H, I.kept k, ⟨u, rfl⟩, q⟩) h4
/-- // by any number but nought, below 2 ^ 9000 in size -/
theorem op_fdivZ : OpR X (binaryOp .FloorDiv) (rI (fun _ k => k ≠ 0 ∧ k.natAbs.log2 < 9000) fun m k => .int (m.fdiv k)) :=
  opI fun _ _ _ _ _ _ _ hc q => floordiv_int hc.1 q (.inl (PyProof.noPylong_of_log2 hc.2))
end
end Gs

namespace Gs
open PySem PySem.Spec PyProof.Rows L2
section
variable {P : Program} {w : World} {K : PySem.W.Frag} {mg : Str → Option Value} {f : Addr}
/-- a def's body, run at one place alone -/
theorem body_at {A : Around} {base : Heap} {name qual : Str} {params : Arguments} {body : List Stmt} {scope : Scope} {dV kV doc pm cdv ct oc : Value} {an od : Option Addr} {osl : Array (Option Value)}
    {N ps : List Str} {k : Nat} {s : Shared} {H : Hp} {vs : List V} {us : List Value} {args : Args} {Q : VK} {E : XK}
    (lk : K.lookup f = some ⟨oc, od, .func (PySem.W.fnOf name qual params body scope dV kV doc pm an cdv ct), osl⟩)
    (hcd : PySem.W.codeIn K cdv qual = true) (S : FnScope N ps scope) (hl : vs.length = ps.length) (hr : Room (k + 1) A)
    (e0 : Env0 P w K mg base A [] s H) (hb : BindsTo s (PySem.W.fnOf name qual params body scope dV kV doc pm an cdv ct) args (ps.zip us)) (r : Vals vs us)
    (hbody : Room k (A.deeper (envOfC qual scope s.heap.objs.size f cdv)) →
      ∃ t, PSs (cxOf CX0 P w K mg base N qual scope f cdv A [] s H E).nox body t ∧
        t { nx := fun _ H' => Q .non H', rt := Q } (start N vs) H) :
    codeAny (model P w) A (.call (.ref f) args) (CR CX0 [] P w H s Q E) s := by
  have kk : ∀ b o, base.get? b = some o → s.heap.get? b = some o := fun b o e => (e0.bs b o e).1
  have KX : K.In s.heap := e0.mod.kin.keeps kk
  have lim : s.heap.NoLimit := e0.mod.nolimit.keeps kk
  have kinds : ∀ q ∈ ps.zip us, scope.names.lookup q.1 = some .local ∨
      (scope.names.lookup q.1 = some .cell ∧ ((cellsFrom (s.heap.objs.size + 1) scope.names []).lookup q.1).isSome = true) := by
    intro q hq
    rcases S.par q.1 (List.of_mem_zip (a := q.1) (b := q.2) hq).1 with z | z
    · exact .inl z
    · exact .inr ⟨z, PySem.W.cellsFrom_some _ _ _ (.inl z)⟩
  refine codeAny_call_function hr.depth (KX _ _ lk) rfl S.co S.gen rfl (PySem.W.codeRec_of KX hcd) (hb _ _ _ _ ?_)
  refine wpAny_newFunctionEnv_cells S.kind kinds fun env he s1 x => ?_
  subst he
  refine ⟨lim.keeps x.toInCall.keep, codeAny_func ?_⟩
  obtain ⟨t, ht, hq⟩ := hbody (hr.deeper _)
  have I : Inv (cxOf CX0 P w K mg base N qual scope f cdv A [] s H E) [] (start N vs) H s1 := inv_start S hr.hd e0 hl r x
  refine wpAny_mono (ht.nox.run [] s1 (start N vs) H _ I hq) (fun fl s' hs => ?_) fun e s' hs => hs
  cases fl with
  | ret u =>
    obtain ⟨v, σ', H', J, rv, q⟩ := hs
    exact ⟨v, H', J.os, J.bare, J.base, J.hok, rv, q⟩
  | next =>
    obtain ⟨σ', H', J, q⟩ := hs
    exact ⟨.non, H', J.os, J.bare, J.base, J.hok, rfl, q⟩
  | brk =>
    obtain ⟨_, _, _, q⟩ := hs
    exact q.elim
  | cont =>
    obtain ⟨_, _, _, q⟩ := hs
    exact q.elim
/-- the law's call, from the promise at the caller's own place -/
theorem law_at {mb : Str → Option Value} {a : Addr} {s₁ : Shared} {vs : List Value} {ns : List Int}
    (KX : K.In s₁.heap) (hns : s₁.heap.Ns mainGlobals mg) (hbt : s₁.heap.Ns builtinsNs mb) (hbb : ∀ x : Str, x ≠ "__name__" → mb x = bootBuiltins x)
    (hlim : s₁.heap.NoLimit) (hg : s₁.gens = #[])
    (ha : s₁.heap.get? a = some { cls := .type "list", data := .seq vs.toArray }) (hi : IntsAre vs ns) (hl : ns.length ≤ sizeLine)
    (F : ∀ (base : Heap) (H : Hp), K.In base → base.Ns mainGlobals mg → SqL K H a (ns.map V.int) → Env0 P w K mg base callerA [] s₁ H →
      codeAny (model P w) callerA (.call (.ref f) ⟨[.ref a], []⟩) (CR CX0 [] P w H s₁ (fun v _ => v = .bl true) fun _ _ _ => False) s₁) :
    codeAny (model P w) callerA (.call (.ref f) ⟨[.ref a], []⟩)
      (fun r s' => r = .ok (.ret (.bool true)) ∧ OldK s₁.heap s'.heap ∧ s'.os = s₁.os ∧ AllBare s'.gens) s₁ := by
  have rv := vals_ints hi
  let so : Obj := { cls := .type "list", data := .seq vs.toArray }
  have go : ∀ H : Hp, (∀ b u, H b = some u → b = a ∧ u = .frz so (.lst (ns.map V.int)) ∧ K.lookup a = none) → SqL K H a (ns.map V.int) → HOk P w H s₁.heap →
      codeAny (model P w) callerA (.call (.ref f) ⟨[.ref a], []⟩)
        (fun r s' => r = .ok (.ret (.bool true)) ∧ OldK s₁.heap s'.heap ∧ s'.os = s₁.os ∧ AllBare s'.gens) s₁ := by
    intro H hH hS hok
    have stays : ∀ {b : Addr} {o : Obj}, s₁.heap.get? b = some o → b ≠ a → (hidT s₁.heap H).get? b = some o := by
      intro b o e nb
      refine hidT_get e ?_
      cases q : H b with
      | none => rfl
      | some u => exact absurd (hH b u q).1 nb
    have nsd : ∀ {b : Addr} {m : Str → Option Value}, s₁.heap.Ns b m → (hidT s₁.heap H).Ns b m := by
      intro b m ⟨o, es, ep, e, d, z⟩
      refine ⟨o, es, ep, stays e ?_, d, z⟩
      intro eb
      subst eb
      rw [ha] at e
      cases e
      have d' : Data.seq vs.toArray _ = Data.dict es ep := d
      cases d'
    have kin : K.In (hidT s₁.heap H) := by
      intro b o e
      refine hidT_get (KX b o e) ?_
      cases q : H b with
      | none => rfl
      | some u =>
        obtain ⟨e1, _, e2⟩ := hH b u q
        rw [e1, e2] at e
        cases e
    have md : Mod K mg (hidT s₁.heap H) := by
      obtain ⟨mc, h1, h2⟩ := hlim
      exact ⟨kin, nsd hns, ⟨mb, nsd hbt, hbb⟩, ⟨mc, nsd h1, h2⟩⟩
    have e0 : Env0 P w K mg (hidT s₁.heap H) callerA [] s₁ H := by
      refine ⟨rfl, md, fun b o e => of_hidT e, Nat.le_of_eq (hidT_size _ _), trivial, ?_, hok, .of_eq hg⟩
      intro b z
      exact absurd (show b ∈ ([] : List Addr) from z) List.not_mem_nil
    refine codeAny_mono (F _ H kin (nsd hns) hS e0) fun r s' h => ?_
    cases r with
    | error e => exact False.elim h
    | ok fl =>
      cases fl with
      | next => exact False.elim h
      | brk => exact False.elim h
      | cont => exact False.elim h
      | ret u =>
        obtain ⟨v, H', os, bare, un, hok', r', q⟩ := h
        have q' : v = .bl true := q
        subst q'
        obtain rfl : u = Value.bool true := r'
        refine ⟨rfl, OldK.of_keep fun b o e => ?_, os, bare⟩
        cases q : H b with
        | none =>
          exact un.keep b o e q (fun z => absurd (show b ∈ ([] : List Addr) from z) List.not_mem_nil) List.not_mem_nil
        | some u =>
          obtain ⟨e1, e2, _⟩ := hH b u q
          rw [e2] at q
          have z2 := un.frzs b so _ q
          obtain ⟨e3, _⟩ := hok' b _ z2
          rw [e1, ha] at e
          cases e
          exact e3
  cases hk : K.lookup a with
  | some o =>
    have e := KX a o hk
    rw [ha] at e
    cases e
    refine go (fun _ => none) (fun b u z => by cases z) (.inr ⟨_, vs.toArray, _, hk, rfl, rfl, rfl, ?_, by simpa using rv⟩) (fun b u z => by cases z)
    rw [List.size_toArray, hi.length]
    exact hl
  | none =>
    refine go (fun b => if b = a then some (.frz so (.lst (ns.map V.int))) else none) (fun b u z => ?_) (.inl (.inr ⟨so, if_pos rfl⟩)) (fun b u z => ?_)
    · by_cases eb : b = a
      · have z' := (if_pos eb).symm.trans z
        cases z'
        exact ⟨eb, rfl, hk⟩
      · have z' := (if_neg eb).symm.trans z
        cases z'
    · by_cases eb : b = a
      · have z' := (if_pos eb).symm.trans z
        cases z'
        subst eb
        exact ⟨ha, by rw [List.length_map]; exact hl, vs, _, rv, ha⟩
      · have z' := (if_neg eb).symm.trans z
        cases z'
end
/-- the goal that the head leaves -/
theorem walk_at1 {l : PySem.W.OpenLaw} {n : Nat} {q : Program} {loose : List Str} {XP : (Str → Option Value) → Heap → Prop} {YP : World → Heap → Prop} {d : DefRec} {K : Params → PySem.W.Frag}
    (hn : l.most = some n) (hn2 : n ≤ sizeLine) (hdf : d.params.defaults = [])
    (hY : ∀ (w : World) (h : Heap), YP w h → (K w.params).In h)
    (F : ∀ (w : World) (mg : Str → Option Value) (fa : Addr) (h : Heap), (K w.params).In h → h.Ns mainGlobals mg → mg d.name = some (.ref fa) →
      ∀ (base : Heap) (H : Hp) (s : Shared) (a : Addr) (ns : List Int), ns.length ≤ n → (K w.params).In base → base.Ns mainGlobals mg →
        SqL (K w.params) H a (ns.map V.int) → Env0 l.prog w (K w.params) mg base callerA [] s H →
        codeAny (model l.prog w) callerA (.call (.ref fa) ⟨[.ref a], []⟩) (CR CX0 [] l.prog w H s (fun v _ => v = .bl true) fun _ _ _ => False) s) :
    PySem.W.WalkO q loose XP YP l.row.toRowW d [] (fun f vs => PySem.call f vs) := by
  refine Att.attach_call hn hdf fun w s₀ s₁ mg mb fa o pm cd doc a vs ns G Y ho hd hcd hmg hobj hints hlen hg => ?_
  have KX := hY w _ Y
  refine law_at KX G.T.g G.T.b G.T.builtins G.T.nolimit hg hobj hints (Nat.le_trans hlen hn2) fun base H h1 h2 h3 h4 => ?_
  exact F w mg fa _ KX G.T.g hmg base H s₁ a ns hlen h1 h2 h3 h4
end Gs

namespace Gs
open PySem PySem.Spec PyProof.Rows L2
/-! ### defs that show data as text: promised where no repr is under way -/
structure FnG (P : Program) (w : World) (K : PySem.W.Frag) (mg : Str → Option Value) (base : Heap) (CX : CXT) (k : Nat) (f : Addr) (fd : FuncData) (ps : List Str) (sp : Sp) : Prop where
  len : ∀ vs H Q E, sp vs H Q E → vs.length = ps.length
  run : ∀ (A : Around) (outer : List Env) (s : Shared) (H : Hp) (args : Args) (us : List Value) (vs : List V) (Q : VK) (E : XK), A.guards = some [] → Room k A →
    Env0 P w K mg base A outer s H → BindsTo s fd args (ps.zip us) → Vals vs us → sp vs H Q E →
    codeAny (model P w) A (.call (.ref f) args) (CR CX outer P w H s Q E) s
section
variable {P : Program} {w : World} {K : PySem.W.Frag} {mg : Str → Option Value} {base : Heap}
theorem body_any {CX : CXT} {A : Around} {outer : List Env} {f : Addr} {name qual : Str} {params : Arguments} {body : List Stmt} {scope : Scope} {dV kV doc pm cdv ct oc : Value} {an od : Option Addr} {osl : Array (Option Value)}
    {N ps : List Str} {k : Nat} {s : Shared} {H : Hp} {vs : List V} {us : List Value} {args : Args} {Q : VK} {E : XK}
    (lk : K.lookup f = some ⟨oc, od, .func (PySem.W.fnOf name qual params body scope dV kV doc pm an cdv ct), osl⟩)
    (hcd : PySem.W.codeIn K cdv qual = true) (S : FnScope N ps scope) (hl : vs.length = ps.length) (hr : Room (k + 1) A)
    (e0 : Env0 P w K mg base A outer s H) (hb : BindsTo s (PySem.W.fnOf name qual params body scope dV kV doc pm an cdv ct) args (ps.zip us)) (r : Vals vs us)
    (hbody : Room k (A.deeper (envOfC qual scope s.heap.objs.size f cdv)) →
      ∃ t, PSs (cxOf CX P w K mg base N qual scope f cdv A outer s H E) body t ∧
        t { nx := fun _ H' => Q .non H', rt := Q } (start N vs) H) :
    codeAny (model P w) A (.call (.ref f) args) (CR CX outer P w H s Q E) s := by
  have kk : ∀ b o, base.get? b = some o → s.heap.get? b = some o := fun b o e => (e0.bs b o e).1
  have KX : K.In s.heap := e0.mod.kin.keeps kk
  have lim : s.heap.NoLimit := e0.mod.nolimit.keeps kk
  have kinds : ∀ q ∈ ps.zip us, scope.names.lookup q.1 = some .local ∨
      (scope.names.lookup q.1 = some .cell ∧ ((cellsFrom (s.heap.objs.size + 1) scope.names []).lookup q.1).isSome = true) := by
    intro q hq
    rcases S.par q.1 (List.of_mem_zip (a := q.1) (b := q.2) hq).1 with z | z
    · exact .inl z
    · exact .inr ⟨z, PySem.W.cellsFrom_some _ _ _ (.inl z)⟩
  refine codeAny_call_function hr.depth (KX _ _ lk) rfl S.co S.gen rfl (PySem.W.codeRec_of KX hcd) (hb _ _ _ _ ?_)
  refine wpAny_newFunctionEnv_cells S.kind kinds fun env he s1 x => ?_
  subst he
  refine ⟨lim.keeps x.toInCall.keep, codeAny_func ?_⟩
  obtain ⟨t, ht, hq⟩ := hbody (hr.deeper _)
  have I : Inv (cxOf CX P w K mg base N qual scope f cdv A outer s H E) [] (start N vs) H s1 := inv_start S hr.hd e0 hl r x
  refine wpAny_mono (ht.run [] s1 (start N vs) H _ I hq) (fun fl s' hs => ?_) fun e s' hs => hs
  cases fl with
  | ret u =>
    obtain ⟨v, σ', H', J, rv, q⟩ := hs
    exact ⟨v, H', J.os, J.bare, J.base, J.hok, rv, q⟩
  | next =>
    obtain ⟨σ', H', J, q⟩ := hs
    exact ⟨.non, H', J.os, J.bare, J.base, J.hok, rfl, q⟩
  | brk =>
    obtain ⟨_, _, _, q⟩ := hs
    exact q.elim
  | cont =>
    obtain ⟨_, _, _, q⟩ := hs
    exact q.elim
theorem okG {x qual : Str} {st : Stmt} {f : Addr} {fd : FuncData} {N ps : List Str} {k : Nat} {sp : Sp} (F : Fun K x qual st f fd) (S : FnScope N ps (defScope st)) (len : ∀ vs H Q E, sp vs H Q E → vs.length = ps.length)
    (hbody : ∀ (cdv : Value) (A : Around) (outer : List Env) (s : Shared) (H : Hp) (vs : List V) (Q : VK) (E : XK), A.guards = some [] →
      Room k (A.deeper (envOfC qual (defScope st) s.heap.objs.size f cdv)) → sp vs H Q E →
      ∃ t, PSs (cxOf CX0 P w K mg base N qual (defScope st) f cdv A outer s H E).nox (defBody st) t ∧
        t { nx := fun _ H' => Q .non H', rt := Q } (start N vs) H) : FnG P w K mg base CX0 (k + 1) f fd ps sp := by
  obtain ⟨oc, od, kV, doc, pm, an, cdv, ct, osl, rfl, lk, hcd⟩ := F.ex
  refine ⟨len, fun A outer s H args us vs Q E hg hr e0 hb r hsp => ?_⟩
  refine body_any lk hcd S (len _ _ _ _ hsp) hr e0 hb r fun hr' => ?_
  obtain ⟨t, h1, h2⟩ := hbody cdv A outer s H vs Q E hg hr' hsp
  exact ⟨t, h1.nox, h2⟩
end
section
variable {X : Cx} {CX : CXT} {k : Nat} {f : Addr} {fd : FuncData} {ps : List Str} {sp : Sp} {E : XK} {x : Str} {p pos : Pos} {e : Expr} {es : List Expr} {t : TA}
theorem pe_callG (F : FnG X.prog X.w X.K X.mg X.base CX k f fd ps sp) (gd : X.A.guards = some []) (hr : Room k X.A) (hg : Gl X x) (hm : X.mg x = some (.ref f)) (hk : PySem.W.keepIn X.K (.ref f) = true)
    (hb : Binds X.K fd ps []) (hx : Passes CX X E) (ha : PA X (e :: es) t) (hdb : (x == ("__debug__" : Str)) = false := by decide)
    (he : starEach (e :: es) X.env = (false, eval e X.env) :: starEach es X.env := by rfl) (hpl : (backTo pos (starEach es X.env)).any (·.1) = false := by rfl) :
    PE X (.Call (.Name x p) (e :: es) [] pos) (tCall sp [] E t) := by
  constructor
  intro pins s σ H Q I h
  refine wpAny_Call_Name_kw (ld_glob I hg hm ?_ hdb)
  refine PySem.W.callWith_K (h₀ := X.base) I.ok.mod.kin hk (thn (ha.run pos pins s σ H _ I h) ?_) he hpl
  intro us s1 ⟨vs, H1, I1, r, q⟩
  refine ⟨I1.kIn, ?_⟩
  have q' : sp vs H1 Q E := by
    have z : sp (vs ++ []) H1 Q E := q
    rw [List.append_nil] at z
    exact z
  have hl : (us ++ []).length = ps.length := by
    rw [List.append_nil, ← r.length]
    exact F.len _ _ _ _ q'
  have bt := hb s1 us I1.kIn hl
  rw [List.append_nil] at bt
  refine wpAny_call (codeAny_mono (F.run X.A X.stack s1 H1 ⟨us, []⟩ us vs Q E gd hr I1.env0 bt r q') ?_)
  intro res s' hq
  cases res with
  | error e => exact hx pins σ H1 s1 e s' I1 hq
  | ok fl =>
    cases fl with
    | ret u => exact I1.after hq
    | next => exact hq.elim
    | brk => exact hq.elim
    | cont => exact hq.elim
/-- f(k = v, ..): keywords alone -/
theorem pe_callS0 {ks : List Str} {kws : List Keyword} {tk : TA} {W : L2.St → XK} {g : List Value → List Value → List Value} {gV : List V → List V → List V}
    (F : FnOk X.prog X.w X.K X.mg X.base CX k f fd ps sp) (hr : Room k X.A) (hg : Gl X x) (hm : X.mg x = some (.ref f)) (hk : PySem.W.keepIn X.K (.ref f) = true)
    (hb : KBn X.K fd ps 0 ks g gV) (hx : ∀ σ, PassesAt CX X σ (W σ)) (hkw : PK X kws tk)
    (hall : (backToKw pos (keywordEach kws X.env)).all (·.1.isSome) = true := by rfl) (hks : (backToKw pos (keywordEach kws X.env)).filterMap (·.1) = ks := by rfl)
    (hdb : (x == ("__debug__" : Str)) = false := by decide)
    (hpl : ((backTo pos (starEach [] X.env)).any (·.1) || (backToKw pos (keywordEach kws X.env)).any (·.1.isNone)) = false := by rfl) :
    PE X (.Call (.Name x p) [] kws pos) (fun σ H Q => tk σ H fun zs H1 => zs.length = ks.length ∧ sp (gV [] zs) H1 Q (W σ)) := by
  constructor
  intro pins s σ H Q I h
  refine wpAny_Call_Name_kw (ld_glob I hg hm ?_ hdb)
  refine PySem.W.callWith_KW0 (h₀ := X.base) I.ok.mod.kin hk hall ?_ hpl
  refine thn (hkw.run pos pins s σ H _ I h) ?_
  intro ws s2 ⟨zs, H2, I2, rz, l2, q2⟩
  refine ⟨I2.kIn, ?_⟩
  rw [hks]
  have r2 := hb.rel (vs := []) (us := []) .nil rz
  refine wpAny_call (codeAny_mono (F.run X.A X.stack s2 H2 ⟨[], ks.zip ws⟩ (g [] ws) (gV [] zs) Q (W σ) hr I2.env0 (hb.to s2 [] ws I2.kIn rfl (rz.length.symm.trans l2)) r2 q2) ?_)
  intro res s' hq
  cases res with
  | error e => exact hx σ pins H2 s2 e s' I2 hq
  | ok fl =>
    cases fl with
    | ret u => exact I2.after hq
    | next => exact hq.elim
    | brk => exact hq.elim
    | cont => exact hq.elim
/-- G.__init__(self, ..), G an own class that takes ValueError's -/
theorem pe_ownInit {G : Addr} {mc : Value} {y : Str} {p1 p2 : Pos} {ta : TA} {pl : Sem Bool} (hg : Gl X y) (hm : X.mg y = some (.ref G)) (hdb : (y == ("__debug__" : Str)) = false)
    (hga : PySem.W.specialIn X.K (.ref G) "__getattribute__" = some (some (.builtin "type.__getattribute__"))) (hr : PySem.W.readsIn X.K G mc = true)
    (hv : PySem.W.findCls X.K (.ref G) mc "__init__" = some (.val (.builtin "ValueError.__init__"))) (ha : PA X (e :: es) ta)
    (hc : eval (.Call (.Attribute (.Name y p1) "__init__" p2) (e :: es) [] pos) X.env = (do
      let ov ← eval (.Name y p1) X.env
      standAt p2.atName
      let (f, first) ← holding [ov] (getMethod ov "__init__" pl)
      callWith pos f first (backTo pos (starEach (e :: es) X.env)) (backToKw pos (keywordEach [] X.env))))
    (he : starEach (e :: es) X.env = (false, eval e X.env) :: starEach es X.env) (hpl : (backTo pos (starEach es X.env)).any (·.1) = false) :
    PE X (.Call (.Attribute (.Name y p1) "__init__" p2) (e :: es) [] pos) (tVeI X.K ta) := by
  constructor
  intro pins s σ H Q I h
  refine PySem.W.methodCall_KW (ld_glob I hg hm ?_ hdb) hc
  refine PySem.W.method_cls I.kIn hga (PySem.W.cls_value I.kIn hr hv (by decide +kernel) ?_)
  show wpAny _ _ (callWith pos (Value.builtin "ValueError.__init__") [] (backTo pos (starEach (e :: es) X.env)) []) _ _ _
  refine PyProof.Rows.callWith_method1 (thn (ha.run pos pins _ σ H _ (I.tok _) h) ?_) he hpl
  intro us s1 ⟨vs, H1, I1, r1, a, C, ws, ev, hl, T, ea, q⟩
  subst ev
  cases r1 with
  | @cons _ u0 _ ur ra rw' =>
    obtain rfl : u0 = Value.ref a := ra
    refine oinit_ok T I1 ea ?_ fun s' J => ⟨.non, H1, J, rfl, q⟩
    rw [← Paired.length rw', sizeLine_eq]
    omega
/-- a field of a kept error -/
theorem pe_fldK {C : Addr} {n : Str} {te : TE} (T : XfC X.K C) (hno : PySem.W.findIn X.K (.ref C) n = some none) (he : PE X e te) (hb : attributeBase e n X.env (eval e X.env) = eval e X.env := by rfl) :
    PE X (.Attribute e n pos) (fun σ H Q => te σ H fun z H1 => ∃ (a d : Addr) (fs : List (Str × V)) (v : V), z = .ref a ∧ H1 a = some (ExK (.ref C) (some d) a) ∧ H1 d = some (.xd fs) ∧ fs.lookup n = some v ∧ Q v H1) := by
  constructor
  intro pins s σ H Q I h
  refine attr_of hb (thn (he.run pins s σ H _ I h) ?_)
  intro u s1 ⟨z, H1, I1, rz, a, d, fs, v, ez, ea, ed, l, q⟩
  subst ez
  obtain rfl : u = Value.ref a := rz
  obtain ⟨⟨o, vs, ho, zc, hd⟩, _, _⟩ := I1.hok a _ ea
  obtain ⟨mA, hns, hr⟩ := (show ObjOk X.prog X.w H1 s1.heap d (.xd fs) from I1.hok d _ ed)
  obtain ⟨od, hod, hl⟩ := lookIn_ns hns
  obtain ⟨w, hw, rw'⟩ := RelO.some_of (v := v) (o := mA n) (by rw [← l]; exact hr n)
  have J : PySem.W.InstAt s1.heap a o C (some od) := by
    refine ⟨ho, zc.1, ?_, ?_⟩
    · unfold PySem.W.notCls
      rw [hd] <;> rfl
    · rw [zc.2]
      exact hod
  exact HandSPX.exc_get I1.kIn J T.ga T.gg T.exC (PySem.W.findObj_own T.hdC hno rfl (by rw [hl, hw])) (handed_of rw') ⟨v, H1, I1.tok _, rw', q⟩
end
end Gs

/-! the class of a caught error that has fields -/
namespace PySem.W
open PySem PySem.Spec PySem.Calls PyProof.Rows
section
variable {prog : Program} {w : World} {A : Around} {E : Value → Shared → Prop} {s : Shared} {K : Frag} {x D : Addr} {ox : Obj} {od : Option Obj}
theorem gs_findData {C : Addr} {nm : Str} {a g : Value} (hc : (clsIn K C).isSome = true) (ha : findIn K (.ref C) nm = some (some a))
    (hg : specialIn K a "__get__" = some (some g)) (ht : takesIn K a = some true) : findObj K C od nm = some (.bind g a) := by
  obtain ⟨cd, hcd⟩ := Option.isSome_iff_exists.mp hc
  unfold findObj
  rw [hcd, Option.bind_some, ha, Option.bind_some]
  simp [hg, ht]
theorem gs_class {Q : Option Value → Shared → Prop} (C : L2.ExcC K D) (X : K.In s.heap) (I : InstAt s.heap x ox D od)
    (h : Q (some (.ref D)) { s with toks := s.toks + 1 }) : wpAny (model prog w) A (getAttr? (.ref x) "__class__") Q E s := by
  obtain ⟨hga, hgt, hsub, hdct, ha, hn, htk, hm⟩ := C
  have hcl : (clsIn K D).isSome = true := by
    obtain ⟨cd, hc, _⟩ := any_some hdct
    rw [hc]
    rfl
  have hf : findObj K D od "__class__" = some (.bind (.builtin "getset_descriptor.__get__") (.builtin "object.__class__")) :=
    gs_findData hcl ha hn htk
  obtain ⟨hp, g, d, t, os⟩ := s
  have T0 := I.type (M := model prog w)
  have T1 := looks_findIn (M := model prog w) X hga
  have T2 := looks_findIn (M := model prog w) X hgt
  have T3 := looks_find (M := model prog w) X I hf
  have isE : Looks (model prog w) hp (isInstance (.ref x) (.type "BaseException")) true :=
    T0.andThen (looks_subIn X hsub)
  have c0 : (false && onTheHeap (Value.builtin "BaseException.__getattribute__")) = false := rfl
  have c1 : (onTheHeap (Value.ref D) && Value.builtin "BaseException.__getattribute__" == Value.builtin "object.__getattribute__") = false := by
    have c2 : (Value.builtin "BaseException.__getattribute__" == Value.builtin "object.__getattribute__") = false := by decide +kernel
    rw [c2]
    rfl
  unfold getAttr? getAttrBy? getAttrBy
  refine wpAny_bind (wpAny_mkText ?_)
  refine wpAny_bind (wpAny_attempt (wpAny_holding ?_))
  refine wpAny_bind (T0.at (wpAny_bind (T1.at ?_)))
  show wpAny _ _ (if (onTheHeap (Value.ref D) && _) = true then _ else _) _ _ _
  rw [c1, if_neg Bool.false_ne_true]
  unfold getAttrByItsOwn hookBefore
  refine wpAny_bind ?_
  rw [if_pos (show onTheHeap (Value.ref D) = true from rfl)]
  refine T2.at ?_
  refine wpAny_bind (wpAny_attempt (wpAny_holding ?_))
  unfold callGetattribute
  rw [c0, if_neg Bool.false_ne_true]
  unfold boundAndCalled
  rw [PySem.F.excAttr_ValueError.ga.bind (.ref x)]
  refine wpAny_bind (wpAny_pure ?_)
  show wpAny _ _ (call (.builtin "BaseException.__getattribute__") [.ref x, .str "__class__" t]) _ _ _
  refine wpAny_call (codeAny_call_builtin PySem.F.excAttr_ValueError.ga.plain PySem.F.entry_bexc_ga ?_)
  refine @check_slot (model prog w) _ _ ⟨hp, g, d, t + 1, os⟩ "BaseException.__getattribute__" "BaseException" "__getattribute__"
    (.ref x) [.str "__class__" t] [] _ (by decide +kernel) (by decide +kernel) isE (PySem.F.args_bexc_ga (.ref x) (.str "__class__" t)) ?_
  unfold Builtin.«object.__getattribute__»
  refine wpAny_bind ?_
  refine wpAny_of_eq (a := ((Value.ref x : Value), [Value.str "__class__" t])) (by first | rfl | (simp only [slotArgs]; rfl)) ?_
  refine wpAny_bind (wpAny_pure ?_)
  refine wpAny_bind (T0.at (wpAny_bind (T3.at ?_)))
  show wpAny _ _ (holding [Value.builtin "object.__class__"] (call (.builtin "getset_descriptor.__get__")
    [.builtin "object.__class__", .ref x, .ref D]) >>= ret) _ _ _
  refine wpAny_bind (wpAny_holding (wpAny_call ?_))
  refine class_get (s := ⟨hp, g, d, t + 1, os⟩) (ox := ox) (od := od) X I hm ?_
  refine wpAny_pure ?_
  show wpAny _ _ (handedOut (.ref D)) _ _ _
  rw [handedOut_of (v := .ref D) rfl]
  first
    | exact wpAny_pure (wpAny_pure h)
    | exact wpAny_pure h
    | exact wpAny_pure (wpAny_bind (wpAny_pure (wpAny_pure h)))
theorem gs_kit (C : L2.ExcC K D) : KitX K (.ref x) (.ref D) (fun h => InstAt h x ox D od) := by
  obtain ⟨cdD, hcD, _⟩ := any_some C.hd
  refine ⟨fun _ _ _ I => I.type, fun M h X _ => ?_, fun h tp dd its n sl X htp => ?_, fun X I k => gs_class C X I k⟩
  · unfold clsIn at hcD
    split at hcD
    · rename_i ho
      intro A' Q' E' s' k q
      unfold isType loadHead
      exact wpAny_bind (wpAny_loadPart (k _ _ (X _ _ ho)) (wpAny_pure q))
    · cases hcD
  · refine Bool.eq_false_iff.mpr fun q => ?_
    have e : D = tp := Value.ref.inj (beq_iff_eq.mp q)
    subst e
    unfold clsIn at hcD
    split at hcD
    · rename_i ho
      have z := (X _ _ ho).symm.trans htp
      cases z
    · cases hcD
end
end PySem.W
namespace Gs
open PySem PySem.Spec PyProof.Rows L2
section
variable {X : Cx}
/-- isinstance(e, c) of a kept error with fields -/
theorem call_isF {D : Addr} (C : ExcC X.K D) : CallR X (.builtin "isinstance") (fun xs H Q => ∃ (a d : Addr) (fs : List (Str × V)) (t : V) (tv : Value) (b : Bool),
    xs = [.ref a, t] ∧ H a = some (ExK (.ref D) (some d) a) ∧ H d = some (.xd fs) ∧ (∀ u, RelV t u → u = tv) ∧ PySem.W.kitOne X.K (.ref D) tv = some b ∧ Q (.bl b) H) := by
  intro pins s σ H xs us Q I r h
  obtain ⟨a, d, fs, t, tv, b, rfl, ha, hd, ht, e, q⟩ := h
  cases r with
  | cons rx rr =>
    cases rr with
    | cons rt rr =>
      cases rr
      cases rx
      have ec := ht _ rt
      subst ec
      obtain ⟨⟨o, vs, g, z, hv⟩, _, _⟩ := I.hok a _ ha
      obtain ⟨mA, hns, _⟩ := (show ObjOk X.prog X.w H s.heap d (.xd fs) from I.hok d _ hd)
      obtain ⟨od, hod, _⟩ := lookIn_ns hns
      have W : PySem.W.InstAt s.heap a o D (some od) := by
        refine ⟨g, z.1, ?_, ?_⟩
        · unfold PySem.W.notCls
          rw [hv] <;> rfl
        · rw [z.2]
          exact hod
      exact PySem.W.kia_one (PySem.W.gs_kit C) I.kIn W e (fun z => nomatch z) fun tk => ⟨.bl b, H, I.kept (t' := tk) fun _ _ z => z, rfl, q⟩
/-- [..], away from the table of modules -/
theorem pe_lstM {es : List Expr} {t : TA} {pos : Pos} (h : PA X es t) : PE X (.List es pos) (fun σ H Q => t σ H fun xs H1 => xs.length ≤ sizeLine ∧ ∀ p, H1 p = none → p ≠ sysModules → Q (.ref p) (upd H1 p (.lst xs))) := by
  constructor
  intro pins s σ H Q I hq
  refine wpAny_List_spliced (thn (h.run pos pins s σ H _ I hq) ?_)
  intro us s1 ⟨xs, H1, I1, r, z, q⟩
  refine ⟨by rw [← r.length]; exact z, ?_⟩
  have hf : H1 s1.heap.objs.size = none := I1.hok.fresh (Nat.le_refl _)
  have big := I1.big
  refine ⟨.ref s1.heap.objs.size, upd H1 s1.heap.objs.size (.lst xs), ?_, rfl, q _ hf (Nat.ne_of_gt big)⟩
  refine I1.laid (t' := s1.toks) (fun b u e => Heap.get?_push_of_some _ e) (Nat.le_refl _) ?_
  exact ⟨z, us, 0, r, Heap.get?_push_size _ rfl⟩
end
/-! ### data with empty dicts in it -/
mutual
inductive Dq (K : PySem.W.Frag) (H : Hp) : V → PyData → Prop
  | non : Dq K H .non .none
  | bl (b : Bool) : Dq K H (.bl b) (.bool b)
  | int (i : Int) : Dq K H (.int i) (.int i)
  | str (x : Str) : Dq K H (.str x) (.str x)
  | lst {a : Addr} {xs : List V} {ds : List PyData} : a ≠ sysModules → SqL K H a xs → DqAll K H xs ds → Dq K H (.ref a) (.list ds)
  | tup {a : Addr} {xs : List V} {ds : List PyData} : SqT K H a xs → DqAll K H xs ds → Dq K H (.ref a) (.tuple ds)
  | dic {a : Addr} : H a = some (.dK []) → Dq K H (.ref a) (.dict [])
inductive DqAll (K : PySem.W.Frag) (H : Hp) : List V → List PyData → Prop
  | nil : DqAll K H [] []
  | cons {v : V} {vs : List V} {d : PyData} {ds : List PyData} : Dq K H v d → DqAll K H vs ds → DqAll K H (v :: vs) (d :: ds)
end
section
variable {X : Cx} {pins : List (Addr × Obj)} {σ : L2.St} {H : Hp} {s : Shared}
mutual
theorem Dq.reads (I : Inv X pins σ H s) : ∀ {v : V} {d : PyData}, Dq X.K H v d → ∀ u, RelV v u → ∃ as, Reads s.heap u d as ∧ sysModules ∉ as
  | _, _, .non, _, r => by
    cases r
    exact ⟨_, .none, List.not_mem_nil⟩
  | _, _, .bl b, _, r => by
    cases r
    exact ⟨_, .bool b, List.not_mem_nil⟩
  | _, _, .int i, _, r => by
    obtain ⟨t, rfl⟩ := r
    exact ⟨_, .int i t, List.not_mem_nil⟩
  | _, _, .str x, _, r => by
    obtain ⟨t, rfl⟩ := r
    exact ⟨_, .str x t, List.not_mem_nil⟩
  | _, _, .lst n h hs, _, r => by
    cases r
    obtain ⟨its, rv, ⟨o, m, h1, h2, _, h3⟩, _⟩ := I.list h
    obtain ⟨as, rd, na⟩ := DqAll.reads I hs _ rv
    refine ⟨_, .list h1 h2 h3 (by simpa using rd), fun q => ?_⟩
    rcases List.mem_cons.mp q with q | q
    · exact n q.symm
    · exact na q
  | _, _, .tup h hs, _, r => by
    cases r
    obtain ⟨its, rv, ⟨o, h1, h2, m, h3⟩, _⟩ := I.tuple h
    obtain ⟨as, rd, na⟩ := DqAll.reads I hs _ rv
    exact ⟨_, .tuple h1 h2 h3 (by simpa using rd), na⟩
  | _, _, .dic h, _, r => by
    cases r
    obtain ⟨_, hs, vs, kv, o, es, ep, h1, h2, h3, _, h5, _⟩ := dk_of I.hok h
    cases kv
    have e0 : es.toList = [] := by
      generalize es.toList = l at h5
      cases h5
      rfl
    refine ⟨_, .dict (kvs := []) h1 h2.1 h3 (by rw [e0]; exact .nil) (by rw [e0]; exact .nil), fun q => ?_⟩
    rcases List.mem_cons.mp q with q | q
    · rw [← q] at hs
      simp at hs
    · cases q
theorem DqAll.reads (I : Inv X pins σ H s) : ∀ {vs : List V} {ds : List PyData}, DqAll X.K H vs ds → ∀ us, Vals vs us → ∃ as, ReadsAll s.heap us ds as ∧ sysModules ∉ as
  | _, _, .nil, _, r => by
    cases r
    exact ⟨_, .nil, List.not_mem_nil⟩
  | _, _, .cons h hs, _, r => by
    cases r with
    | cons r1 r2 =>
      obtain ⟨as, q1, n1⟩ := Dq.reads I h _ r1
      obtain ⟨bs, q2, n2⟩ := DqAll.reads I hs _ r2
      refine ⟨_, .cons q1 q2, fun m => ?_⟩
      rcases List.mem_append.mp m with m | m
      · exact n1 m
      · exact n2 m
end
/-- repr of such data -/
theorem call_reprQ (hg : X.A.guards = some []) (hu : X.A.units + 64 < cLine) : CallR X (.builtin "repr") (fun xs H Q => ∃ (v : V) (d : PyData),
    xs = [v] ∧ Dq X.K H v d ∧ d.showable = true ∧ d.depth ≤ 60 ∧ d.shown.length ≤ sizeLine ∧ Q (.str d.shown) H) := by
  intro pins s σ H xs us Q I r h
  obtain ⟨v, d, rfl, hd, h1, h3, h4, q⟩ := h
  obtain ⟨u, rfl, ru⟩ := vals1 r
  obtain ⟨as, rd, na⟩ := Dq.reads I hd u ru
  have big : ∀ a, u = .ref a → wpAny (model X.prog X.w) X.A (call (.builtin "repr") [u]) (EP X pins σ Q) X.xe s := fun a e => by
    subst e
    exact repr_of_reads' rd h1 (fun _ => na) hg (by omega) (fun _ _ e => e) (fun h' u tk k => ⟨.str d.shown, H, I.kept k, ⟨u, rfl⟩, q⟩) h4
  cases rd with
  | none => exact PySem.P.repr_of_none ⟨.str _, H, I.tok _, ⟨_, rfl⟩, by simpa only [PyData.shown] using q⟩
  | bool b => exact PySem.P.repr_of_bool ⟨.str _, H, I.tok _, ⟨_, rfl⟩, by simpa only [PyData.shown] using q⟩
  | int i t =>
    have hz : i.natAbs.log2 < 1920 := by simpa only [PyData.showable, decide_eq_true_eq] using h1
    exact PySem.P.repr_of_int hz ⟨.str _, H, I.tok _, ⟨_, rfl⟩, by simpa only [PyData.shown] using q⟩
  | str x t =>
    have hz : (reprText x).length ≤ sizeLine := by simpa only [PyData.shown] using h4
    exact PySem.P.repr_of_str ⟨.str _, H, I.tok _, ⟨_, rfl⟩, by simpa only [PyData.shown] using q⟩ hz
  | list => exact big _ rfl
  | tuple => exact big _ rfl
  | dict => exact big _ rfl
end
end Gs

namespace W25
open PySem
def topS (i : Nat) : Stmt := PySem.Challenge.pw_glassladder_k25_whole_said_otherwise.main.body.getD i (.Pass ⟨0, 0, 0, 0⟩)
abbrev sAtomsOf : Stmt := topS 5
abbrev sIsLetter : Stmt := topS 7
abbrev sIsRound : Stmt := topS 8
abbrev sUntilT : Stmt := topS 9
abbrev sEverT : Stmt := topS 10
abbrev sTurnedT : Stmt := topS 11
abbrev sJoinedT : Stmt := topS 12
abbrev sTruths : Stmt := topS 13
abbrev sHolds : Stmt := topS 14
abbrev sLeft : Stmt := topS 16
abbrev sDigit : Stmt := topS 17
abbrev sLow : Stmt := topS 18
abbrev sLPlus : Stmt := topS 19
abbrev sLTimes : Stmt := topS 20
abbrev sShare : Stmt := topS 21
abbrev sLine : Stmt := topS 22
abbrev sWorth : Stmt := topS 23
abbrev sScaled : Stmt := topS 26
abbrev sMoved : Stmt := topS 27
abbrev sSetOf : Stmt := topS 28
abbrev sGone : Stmt := topS 29
abbrev sAlong : Stmt := topS 30
abbrev sWishesFor : Stmt := topS 31
abbrev sRests : Stmt := topS 32
abbrev sParts : Stmt := topS 33
abbrev sRows : Stmt := topS 34
abbrev sMoment : Stmt := topS 35
abbrev sRun : Stmt := topS 36
abbrev sAtom : Stmt := topS 37
abbrev sSaying : Stmt := topS 38
abbrev sAtomsIn : Stmt := topS 39
abbrev sRound : Stmt := topS 40
abbrev sHeld : Stmt := topS 41
abbrev sRight : Stmt := topS 42
abbrev sLaw : Stmt := topS 43
end W25

namespace W25
open PySem PySem.Spec PyProof.Rows L2 Gs
/-! ### shares in the heap -/
abbrev vp (x : Int × Int) : List V := [.int x.1, .int x.2]
def TP (K : PySem.W.Frag) (H : Hp) (p : Addr) (x : Int × Int) : Prop := SqT K H p (vp x)
theorem same_tup {K : PySem.W.Frag} {H H' : Hp} {a : Addr} {xs : List V} (e : Same H H') (h : SqT K H a xs) : SqT K H' a xs := by
  rcases h with (h | ⟨o, h⟩) | h
  · exact .inl (.inl (e _ _ h))
  · exact .inl (.inr ⟨o, e _ _ h⟩)
  · exact .inr h
theorem same_new {H : Hp} {p : Addr} {o : HO} (h : H p = none) : Same H (upd H p o) := by
  intro b x e
  rw [upd_ne (ne_of_none e h)]
  exact e
theorem log_of {k : Int} {n : Nat} (h0 : 0 < n) (hn : n ≤ 9000) (h : k.natAbs < 2 ^ n) : k.natAbs.log2 < 9000 :=
  Nat.lt_of_lt_of_le (PySem.Flt.log2_lt_of h0 h) hn
theorem at0 {x : Int × Int} : atI (vp x) 0 = some (.int x.1) := atI_nat (j := 0) rfl
theorem at1 {x : Int × Int} : atI (vp x) 1 = some (.int x.2) := atI_nat (j := 1) rfl
/-! ### promises -/
def spDiv : Sp := fun vs H Q _ => ∃ a b : Int, vs = [.int a, .int b] ∧ Q (.int (gI a b)) H
def spRed : Sp := fun vs H Q _ => ∃ t b : Int, vs = [.int t, .int b] ∧ b ≠ 0 ∧ b.natAbs < 2 ^ 8000 ∧
  ∀ p, H p = none → Q (.ref p) (upd H p (.tup (vp (lw t b))))
/-- two shares in, a share out -/
def spTwo (K : PySem.W.Frag) (g : Int × Int → Int × Int → Int × Int) : Sp := fun vs H Q _ => ∃ (p q : Addr) (x y : Int × Int), vs = [.ref p, .ref q] ∧
  TP K H p x ∧ TP K H q y ∧ Sh x ∧ Sh y ∧ Bd 1000 x ∧ Bd 1000 y ∧ ∀ H' r, Same H H' → H r = none → H' r = some (.tup (vp (g x y))) → Q (.ref r) H'
theorem mulOk {a b : Int} (h1 : a.natAbs < 2 ^ 1000) (h2 : b.natAbs < 2 ^ 1000) : CMulW a b := wide_mul h1 h2 (by decide) (by decide) (by decide)
theorem bd2 {a b : Int} (h1 : a.natAbs < 2 ^ 1000) (h2 : b.natAbs < 2 ^ 1000) : (a * b).natAbs < 2 ^ 8000 := bd_mono (mul_bd h1 h2) (by decide)
theorem scLeft : FnScope ["_law_cell", "_law_left_here", "_law_drawn", "_law_turn"] ["_law_cell"] (defScope sLeft) := ⟨rfl, rfl, rfl, by decide +kernel, rfl, by decide +kernel, by decide +kernel⟩
theorem scDigit : FnScope ["_law_left_here", "_law_upto", "_law_found"] ["_law_left_here", "_law_upto"] (defScope sDigit) := ⟨rfl, rfl, rfl, by decide +kernel, rfl, by decide +kernel, by decide +kernel⟩
theorem scLow : FnScope ["_law_top", "_law_bottom", "_law_one", "_law_other"] ["_law_top", "_law_bottom"] (defScope sLow) := ⟨rfl, rfl, rfl, by decide +kernel, rfl, by decide +kernel, by decide +kernel⟩
theorem scLPlus : FnScope ["_law_one", "_law_other"] ["_law_one", "_law_other"] (defScope sLPlus) := ⟨rfl, rfl, rfl, by decide +kernel, rfl, by decide +kernel, by decide +kernel⟩
theorem scLTimes : FnScope ["_law_one", "_law_other"] ["_law_one", "_law_other"] (defScope sLTimes) := ⟨rfl, rfl, rfl, by decide +kernel, rfl, by decide +kernel, by decide +kernel⟩
theorem scShare : FnScope ["_law_left_here"] ["_law_left_here"] (defScope sShare) := ⟨rfl, rfl, rfl, by decide +kernel, rfl, by decide +kernel, by decide +kernel⟩
def spLeft : Sp := fun vs H Q _ => ∃ c : Int, vs = [.int c] ∧ ∀ p n, H p = none → Q (.ref p) (upd H p (.lst [.int n]))
def spDigit : Sp := fun vs H Q _ => ∃ (p : Addr) (n u : Int), vs = [.ref p, .int u] ∧ H p = some (.lst [.int n]) ∧ 0 < u ∧ u.natAbs.log2 < 9000 ∧
  Q (.int (n % u)) (upd H p (.lst [.int (n / u)]))
def Keep (p : Addr) (H H' : Hp) : Prop := ∀ b o, b ≠ p → H b = some o → H' b = some o
theorem Keep.trans {p : Addr} {H H1 H2 : Hp} (a : Keep p H H1) (b : Keep p H1 H2) : Keep p H H2 := fun c o n h => b c o n (a c o n h)
theorem keep_upd {p : Addr} {H : Hp} {o : HO} : Keep p H (upd H p o) := fun b u n e => by
  rw [upd_ne n]
  exact e
theorem keep_same {p : Addr} {H H' : Hp} (s : Same H H') : Keep p H H' := fun b u _ e => s b u e
def spDraw : Sp := fun vs H Q _ => ∃ (p : Addr) (n : Int), vs = [.ref p] ∧ H p = some (.lst [.int n]) ∧
  ∀ H' r x n', Keep p H H' → H' p = some (.lst [.int n']) → H r = none → H' r = some (.tup (vp x)) → Sh x → Bd 4 x → Q (.ref r) H'
section
variable {P : Program} {w : World} {K : PySem.W.Frag} {mg : Str → Option Value} {base : Heap} {f fD fL fS : Addr} {fd fdD fdL fdS : FuncData} {k : Nat}
theorem ok_left (F : Fun K "_law_left" "_law_left" sLeft f fd) (ma : mg "abs" = none) (mr : mg "range" = none) : FnOk P w K mg base CX0 (k + 1) f fd ["_law_cell"] spLeft := by
  refine F.ok scLeft (fun vs H Q E h => ?_) (fun cdv A outer s H vs Q E hr h => ?_)
  · obtain ⟨a, rfl, _⟩ := h
    rfl
  · obtain ⟨c, rfl, q⟩ := h
    refine ⟨_, pss_cons (ps_set (i := 1) scLeft.nd rfl (.inl rfl) (pe_callB call_abs (by rfl) ma (by decide +kernel) (pa_cons (pv 0) pa_nil)))
      (pss_cons (ps_if (pt_cmpR op_lt (pv 1) (pe_op op_pow pe_int pe_int) (nomark _))
        (pss_cons (ps_set (i := 2) scLeft.nd rfl (.inl rfl) (pv 0))
        (pss_one (ps_for PassesOwn.never rfl (pi_range1 (by rfl) mr (pa_cons pe_int pa_nil)) (pg_name (i := 3) scLeft.nd rfl (Or.inl rfl))
          (pss_cons (ps_set (i := 2) scLeft.nd rfl (.inl rfl) (pe_op op_mod (pe_op op_mul (pe_op op_add (pe_op op_mod (pv 2) pe_int) pe_int) pe_int) pe_int))
          (pss_cons (ps_set (i := 2) scLeft.nd rfl (.inl rfl) (pe_op op_add (pe_op op_mod (pe_op op_mul (pv 2) pe_int) pe_int) (pv 3)))
          (pss_one (ps_set (i := 1) scLeft.nd rfl (.inl rfl) (pe_op op_add (pe_op op_mul (pv 1) pe_int) (pv 2)))))))))
        pss_nil)
      (pss_one (ps_ret (pe_lst (pa_cons (pv 1) pa_nil))))), ?_⟩
    refine ⟨_, rfl, c, rfl, _, rfl, 10, 18, rfl, rfl, ⟨by decide, by decide, by decide⟩, _, _, rfl, rfl, _, rfl, ite2 (fun _ => ?_) (fun _ => ?_)⟩
    · refine ⟨_, rfl, 60, rfl, by decide, by decide, for_range (n := 60) (fun i σ H' => ∃ (l d : Int) (y : Option V), σ = [some (.int c), some (.int l), some (.int d), y] ∧ H' = H) ⟨_, _, none, rfl, rfl⟩ (fun i σ H' _ hp => ?_) (fun σ H' hp => ?_)⟩
      · obtain ⟨l, d, y, rfl, rfl⟩ := hp
        refine ⟨_, rfl, _, _, rfl, rfl, by show (0 : Int) < 2147483629; decide, _, _, rfl, rfl, _, _, rfl, rfl, .inr ⟨by decide, by decide⟩, _, _, rfl, rfl, by show (0 : Int) < 2147483629; decide, ?_⟩
        refine ⟨_, rfl, _, _, rfl, rfl, .inr ⟨by decide, by decide⟩, _, _, rfl, rfl, by show (0 : Int) < 2147483647; decide, _, rfl, _, _, rfl, rfl, ?_⟩
        refine ⟨_, rfl, _, _, rfl, rfl, .inr ⟨by decide, by decide⟩, _, rfl, _, _, rfl, rfl, ?_⟩
        exact ⟨_, _, _, rfl, rfl⟩
      · obtain ⟨l, d, y, rfl, rfl⟩ := hp
        exact ⟨_, rfl, by show 1 ≤ sizeLine; decide, fun p hp => q p _ hp⟩
    · exact ⟨_, rfl, by show 1 ≤ sizeLine; decide, fun p hp => q p _ hp⟩
theorem ok_digit (F : Fun K "_law_digit" "_law_digit" sDigit f fd) : FnOk P w K mg base CX0 (k + 1) f fd ["_law_left_here", "_law_upto"] spDigit := by
  refine F.ok scDigit (fun vs H Q E h => ?_) (fun cdv A outer s H vs Q E hr h => ?_)
  · obtain ⟨p, n, u, rfl, _⟩ := h
    rfl
  · obtain ⟨p, n, u, rfl, hp, hu, hz, q⟩ := h
    refine ⟨_, pss_cons (ps_set (i := 2) scDigit.nd rfl (.inl rfl) (pe_op op_mod (pe_ix ix_list (pv 0) pe_int (fun _ _ => rfl)) (pv 1)))
      (pss_cons (ps_asg (pe_op op_fdivW (pe_ix ix_list (pv 0) pe_int (fun _ _ => rfl)) (pv 1)) (pg_sub (pv 0) pe_int set_list))
      (pss_one (ps_ret (pv 2)))), ?_⟩
    refine ⟨_, rfl, p, _, 0, _, rfl, rfl, SqL.of hp, atI_nat (j := 0) rfl, _, rfl, n, u, rfl, rfl, hu, ?_⟩
    refine ⟨_, rfl, p, _, 0, _, rfl, rfl, SqL.of hp, atI_nat (j := 0) rfl, _, rfl, n, u, rfl, rfl, ⟨hu, hz⟩, ?_⟩
    refine ⟨_, rfl, p, _, 0, 0, rfl, rfl, hp, rfl, ?_⟩
    exact ⟨_, rfl, q⟩
theorem ok_low (F : Fun K "_law_low" "_law_low" sLow f fd) (ma : mg "abs" = none) : FnOk P w K mg base CX0 (k + 1) f fd ["_law_top", "_law_bottom"] spRed := by
  refine F.ok scLow (fun vs H Q E h => ?_) (fun cdv A outer s H vs Q E hr h => ?_)
  · obtain ⟨a, b, rfl, _⟩ := h
    rfl
  · obtain ⟨t, b, rfl, hb, hz, q⟩ := h
    refine ⟨_, pss_cons (ps_par (i := 2) (j := 3) (by rfl) scLow.nd rfl rfl (by decide) rfl rfl (pa_cons (pe_callB call_abs (by rfl) ma (by decide +kernel) (pa_cons (pv 0) pa_nil)) (pa_cons (pe_callB call_abs (by rfl) ma (by decide +kernel) (pa_cons (pv 1) pa_nil)) pa_nil)) (by rfl))
      (pss_cons (ps_while PassesOwn.never (pt_cmpR op_gt (pv 3) pe_int (nomark _))
        (pss_one (ps_par (i := 2) (j := 3) (by rfl) scLow.nd rfl rfl (by decide) rfl rfl (pa_cons (pv 3) (pa_cons (pe_op op_modN (pv 2) (pv 3)) pa_nil)) (by rfl))))
      (pss_cons (ps_if (pt_cmpR op_lt (pv 1) pe_int (nomark _)) (pss_one (ps_set (i := 2) scLow.nd rfl (.inl rfl) (pe_op op_sub pe_int (pv 2)))) pss_nil)
      (pss_one (ps_ret (pe_tup (pa_cons (pe_op op_fdivZ (pv 0) (pv 2)) (pa_cons (pe_op op_fdivZ (pv 1) (pv 2)) pa_nil))))))), ?_⟩
    refine ⟨_, rfl, t, rfl, _, rfl, b, rfl, _, _, rfl, ?_⟩
    refine ⟨fun c σ H' => ∃ m n : Int, σ = [some (.int t), some (.int b), some (.int m), some (.int n)] ∧ H' = H ∧ 0 ≤ m ∧ 0 ≤ n ∧ gI m n = gI t b ∧ c = n.toNat,
      ⟨_, _, _, rfl, rfl, by split <;> omega, by split <;> omega, gI_abs, rfl⟩, fun c σ H' hp => ?_⟩
    obtain ⟨m, n, rfl, rfl, hm, hn, hg, rfl⟩ := hp
    refine ⟨_, rfl, n, 0, rfl, rfl, _, rfl, ite2 (fun e => ?_) (fun e => ?_)⟩
    · have hn0 : 0 < n := of_decide_eq_true e
      have e3 : m.fmod n = m % n := Int.fmod_eq_emod_of_nonneg _ hn
      have h1 := Int.emod_nonneg m (show n ≠ 0 by omega)
      have h2 := Int.emod_lt_of_pos m hn0
      refine ⟨fun σ' H'' => ∃ m n' : Int, σ' = [some (.int t), some (.int b), some (.int m), some (.int n')] ∧ H'' = H' ∧ 0 ≤ m ∧ 0 ≤ n' ∧ gI m n' = gI t b ∧ n'.toNat < n.toNat, fun σ' H'' hN => ?_, ?_⟩
      · obtain ⟨m', n', e1, e2, p1, p2, p3, p4⟩ := hN
        exact ⟨_, p4, m', n', e1, e2, p1, p2, p3, rfl⟩
      · refine ⟨_, rfl, _, rfl, _, rfl, m, n, rfl, rfl, by omega, _, _, rfl, n, m.fmod n, rfl, rfl, hn, ?_, ?_, ?_⟩
        · rw [e3]
          exact h1
        · rw [← hg]
          unfold gI
          rw [gcd_turn hm hn0]
        · rw [e3]
          omega
    · have hn0 : ¬ 0 < n := fun z => e (decide_eq_true z)
      have hn1 : n = 0 := by omega
      subst hn1
      have e2 : gI m 0 = m := by
        unfold gI
        rw [Int.gcd_zero]
        omega
      rw [e2] at hg
      subst hg
      obtain ⟨g0, gz⟩ := gI_bd (a := t) hb hz
      have lg := log_of (by decide) (by decide) gz
      refine ⟨_, rfl, b, 0, rfl, rfl, _, rfl, ite2 (fun e2 => ?_) (fun e2 => ?_)⟩
      · have hn : b < 0 := of_decide_eq_true e2
        refine ⟨_, rfl, 0, gI t b, rfl, rfl, ?_⟩
        refine ⟨_, rfl, _, rfl, t, 0 - gI t b, rfl, rfl, ⟨by omega, by rw [Int.zero_sub, Int.natAbs_neg]; exact lg⟩, _, rfl, _, rfl, b, 0 - gI t b, rfl, rfl, ⟨by omega, by rw [Int.zero_sub, Int.natAbs_neg]; exact lg⟩, by show 2 ≤ sizeLine; decide, fun p hp => ?_⟩
        have z := q p hp
        unfold lw at z
        rw [if_pos hn, ← Int.zero_sub] at z
        exact z
      · have hn : ¬ b < 0 := fun z => e2 (decide_eq_true z)
        refine ⟨_, rfl, _, rfl, t, gI t b, rfl, rfl, ⟨by omega, lg⟩, _, rfl, _, rfl, b, gI t b, rfl, rfl, ⟨by omega, lg⟩, by show 2 ≤ sizeLine; decide, fun p hp => ?_⟩
        have z := q p hp
        unfold lw at z
        rw [if_neg hn] at z
        exact z
theorem ok_lplus (F : Fun K "_law_plus" "_law_plus" sLPlus f fd) (GR : FnOk P w K mg base CX0 1 fL fdL ["_law_top", "_law_bottom"] spRed) (kR : PySem.W.keepIn K (.ref fL) = true) (bR : Binds K fdL ["_law_top", "_law_bottom"] []) (gR : mg "_law_low" = some (.ref fL)) :
    FnOk P w K mg base CX0 2 f fd ["_law_one", "_law_other"] (spTwo K pl) := by
  refine F.ok scLPlus (fun vs H Q E h => ?_) (fun cdv A outer s H vs Q E hr h => ?_)
  · obtain ⟨p, q, x, y, rfl, _⟩ := h
    rfl
  · obtain ⟨p, q, x, y, rfl, hp, hq, sx, sy, bx, by_, qq⟩ := h
    refine ⟨_, pss_one (ps_ret (pe_call GR hr (by rfl) gR kR bR .nil pass0
        (pa_cons (pe_op op_add (pe_op op_mulW (pe_ix ix_tup (pv 0) pe_int (fun _ _ => rfl)) (pe_ix ix_tup (pv 1) pe_int (fun _ _ => rfl))) (pe_op op_mulW (pe_ix ix_tup (pv 1) pe_int (fun _ _ => rfl)) (pe_ix ix_tup (pv 0) pe_int (fun _ _ => rfl))))
        (pa_cons (pe_op op_mulW (pe_ix ix_tup (pv 0) pe_int (fun _ _ => rfl)) (pe_ix ix_tup (pv 1) pe_int (fun _ _ => rfl))) pa_nil)))), ?_⟩
    refine ⟨_, rfl, p, _, 0, _, rfl, rfl, hp, at0, _, rfl, q, _, 1, _, rfl, rfl, hq, at1, _, _, rfl, rfl, mulOk bx.1 by_.2,
        _, rfl, q, _, 0, _, rfl, rfl, hq, at0, _, rfl, p, _, 1, _, rfl, rfl, hp, at1, _, _, rfl, rfl, mulOk by_.1 bx.2, _, _, rfl, rfl,
        _, rfl, p, _, 1, _, rfl, rfl, hp, at1, _, rfl, q, _, 1, _, rfl, rfl, hq, at1, _, _, rfl, rfl, mulOk bx.2 by_.2,
        _, _, rfl, mul_ne sx.ne sy.ne, bd2 bx.2 by_.2, fun r hn => ?_⟩
    exact qq _ r (same_new hn) hn upd_same
theorem ok_ltimes (F : Fun K "_law_times" "_law_times" sLTimes f fd) (GR : FnOk P w K mg base CX0 1 fL fdL ["_law_top", "_law_bottom"] spRed) (kR : PySem.W.keepIn K (.ref fL) = true) (bR : Binds K fdL ["_law_top", "_law_bottom"] []) (gR : mg "_law_low" = some (.ref fL)) :
    FnOk P w K mg base CX0 2 f fd ["_law_one", "_law_other"] (spTwo K tm) := by
  refine F.ok scLTimes (fun vs H Q E h => ?_) (fun cdv A outer s H vs Q E hr h => ?_)
  · obtain ⟨p, q, x, y, rfl, _⟩ := h
    rfl
  · obtain ⟨p, q, x, y, rfl, hp, hq, sx, sy, bx, by_, qq⟩ := h
    refine ⟨_, pss_one (ps_ret (pe_call GR hr (by rfl) gR kR bR .nil pass0
        (pa_cons (pe_op op_mulW (pe_ix ix_tup (pv 0) pe_int (fun _ _ => rfl)) (pe_ix ix_tup (pv 1) pe_int (fun _ _ => rfl)))
        (pa_cons (pe_op op_mulW (pe_ix ix_tup (pv 0) pe_int (fun _ _ => rfl)) (pe_ix ix_tup (pv 1) pe_int (fun _ _ => rfl))) pa_nil)))), ?_⟩
    refine ⟨_, rfl, p, _, 0, _, rfl, rfl, hp, at0, _, rfl, q, _, 0, _, rfl, rfl, hq, at0, _, _, rfl, rfl, mulOk bx.1 by_.1,
        _, rfl, p, _, 1, _, rfl, rfl, hp, at1, _, rfl, q, _, 1, _, rfl, rfl, hq, at1, _, _, rfl, rfl, mulOk bx.2 by_.2,
        _, _, rfl, mul_ne sx.ne sy.ne, bd2 bx.2 by_.2, fun r hn => ?_⟩
    exact qq _ r (same_new hn) hn upd_same
end
theorem ne_new {H : Hp} {p l : Addr} {o : HO} (e : H p = some o) (h : H l = none) : p ≠ l := ne_of_none e h
theorem free_of {p : Addr} {H H' : Hp} (k : Keep p H H') {r : Addr} (hr : r ≠ p) (h : H' r = none) : H r = none := by
  cases e : H r with
  | none => rfl
  | some o =>
    have z := k r o hr e
    rw [h] at z
    cases z
theorem pick5 (i : Int) (h0 : 0 ≤ i) (h5 : i < 5) : ∃ b : Int, atI [V.int 1, V.int 1, V.int 1, V.int 2, V.int 3] i = some (.int b) ∧ 0 < b ∧ b < 4 := by
  have h : i = 0 ∨ i = 1 ∨ i = 2 ∨ i = 3 ∨ i = 4 := by omega
  rcases h with rfl | rfl | rfl | rfl | rfl
  · exact ⟨1, rfl, by decide, by decide⟩
  · exact ⟨1, rfl, by decide, by decide⟩
  · exact ⟨1, rfl, by decide, by decide⟩
  · exact ⟨2, rfl, by decide, by decide⟩
  · exact ⟨3, rfl, by decide, by decide⟩
theorem log_lit {u : Int} {n : Nat} (h0 : 0 < n) (hn : n ≤ 9000) (h : u.natAbs < 2 ^ n) : u.natAbs.log2 < 9000 := log_of h0 hn h
section
variable {P : Program} {w : World} {K : PySem.W.Frag} {mg : Str → Option Value} {base : Heap} {f fD fL fS : Addr} {fd fdD fdL fdS : FuncData} {k : Nat}
theorem ok_share (F : Fun K "_law_share" "_law_share" sShare f fd)
    (GL : FnOk P w K mg base CX0 1 fL fdL ["_law_top", "_law_bottom"] spRed) (kL : PySem.W.keepIn K (.ref fL) = true) (bL : Binds K fdL ["_law_top", "_law_bottom"] []) (gL : mg "_law_low" = some (.ref fL))
    (GD : FnOk P w K mg base CX0 1 fD fdD ["_law_left_here", "_law_upto"] spDigit) (kD : PySem.W.keepIn K (.ref fD) = true) (bD : Binds K fdD ["_law_left_here", "_law_upto"] []) (gD : mg "_law_digit" = some (.ref fD)) :
    FnOk P w K mg base CX0 2 f fd ["_law_left_here"] spDraw := by
  refine F.ok scShare (fun vs H Q E h => ?_) (fun cdv A outer s H vs Q E hr h => ?_)
  · obtain ⟨p, n, rfl, _⟩ := h
    rfl
  · obtain ⟨p, n, rfl, hp, q⟩ := h
    refine ⟨_, pss_one (ps_ret (pe_call GL hr (by rfl) gL kL bL .nil pass0
      (pa_cons (pe_op op_sub (pe_call GD hr (by rfl) gD kD bD .nil pass0 (pa_cons (pv 0) (pa_cons pe_int pa_nil))) pe_int)
      (pa_cons (pe_ix ix_list (pe_lst (pa_cons pe_int (pa_cons pe_int (pa_cons pe_int (pa_cons pe_int (pa_cons pe_int pa_nil)))))) (pe_call GD hr (by rfl) gD kD bD .nil pass0 (pa_cons (pv 0) (pa_cons pe_int pa_nil))) (fun _ _ => rfl)) pa_nil)))), ?_⟩
    refine ⟨_, rfl, p, n, 13, rfl, hp, by decide, log_lit (n := 10) (by decide) (by decide) (by decide), _, _, rfl, rfl, by show 5 ≤ sizeLine; decide, fun l hl => ?_⟩
    have npl : p ≠ l := ne_new upd_same hl
    refine ⟨_, rfl, p, n / 13, 5, rfl, by rw [upd_ne npl]; exact upd_same, by decide, log_lit (n := 10) (by decide) (by decide) (by decide), ?_⟩
    have m0 := Int.emod_nonneg (n / 13) (show (5 : Int) ≠ 0 by decide)
    have m5 := Int.emod_lt_of_pos (n / 13) (show (0 : Int) < 5 by decide)
    obtain ⟨b, eb, b0, b4⟩ := pick5 _ m0 m5
    have t0 := Int.emod_nonneg n (show (13 : Int) ≠ 0 by decide)
    have t13 := Int.emod_lt_of_pos n (show (0 : Int) < 13 by decide)
    refine ⟨l, _, _, .int b, rfl, rfl, SqL.of (by rw [upd_ne (fun z => npl z.symm)]; exact upd_same), eb, n % 13 - 6, b, rfl, by omega, bd_mono (n := 10) (by omega) (by decide), fun r hr0 => ?_⟩
    have nrl : r ≠ l := fun z => by
      rw [z, upd_ne (fun z => npl z.symm), upd_same] at hr0
      cases hr0
    have nrp : r ≠ p := fun z => by
      rw [z, upd_same] at hr0
      cases hr0
    refine q _ r (lw (n % 13 - 6) b) ((n / 13) / 5) ?_ ?_ ?_ upd_same (lw_sh (by omega)) (lw_bd (by omega) (bd_mono (n := 3) (by omega) (by decide)) (bd_mono (n := 3) (by omega) (by decide)))
    · exact keep_upd.trans ((keep_same (same_new hl)).trans (keep_upd.trans (keep_same (same_new hr0))))
    · rw [upd_ne (fun z => nrp z.symm)]
      exact upd_same
    · rw [upd_ne nrp, upd_ne nrl, upd_ne nrp] at hr0
      exact hr0
end
end W25

namespace Gs
open PySem PySem.Spec PyProof.Rows L2
/-! sorted(l), l a list of tuples (text, thing), no text twice -/
/-- a tuple of a text and a thing -/
def IsNm (h : Heap) (v : Value) (z : Str) (u : Value) : Prop := ∃ a o t n, v = .ref a ∧ h.get? a = some o ∧ o.cls = .type "tuple" ∧ o.data = .seq #[.str z t, u] n
theorem IsNm.keeps {h h' : Heap} {v u : Value} {z : Str} (p : IsNm h v z u) (k : ∀ b o, h.get? b = some o → o.cls = .type "tuple" → h'.get? b = some o) : IsNm h' v z u := by
  obtain ⟨a, o, t, n, e, ho, hc, hd⟩ := p
  exact ⟨a, o, t, n, e, k _ _ ho hc, hc, hd⟩
section
variable {prog : Program} {w : World} {A : Around} {E : Value → Shared → Prop} {s : Shared}
/-- the texts are unlike -/
def Unl (h : Heap) (vs : List Value) : Prop := ∀ v ∈ vs, ∀ v' ∈ vs, ∀ z u u', IsNm h v z u → IsNm h v' z u' → v = v'
theorem nm_tot {vs : List Value} (hp : ∀ v ∈ vs, ∃ z u, IsNm s.heap v z u) (hu : Unl s.heap vs) : Srt.Tot prog w A s (tuples' true) (fun p => p.1 ∈ vs) := by
  intro p q hm hm'
  obtain ⟨z, u, hz⟩ := hp _ hm
  obtain ⟨z', u', hz'⟩ := hp _ hm'
  have same : z = z' → p.1 = q.1 := fun e => hu _ hm _ hm' z u u' hz (e ▸ hz')
  obtain ⟨a, o, t, n, e, ho, hc, hd⟩ := hz
  obtain ⟨a', o', t', n', e', ho', hc', hd'⟩ := hz'
  rw [e, e'] at same
  rw [e, e']
  refine ⟨if z = z' then false else decide (z.cps.toList < z'.cps.toList), ?_⟩
  refine PySem.W.kat_lt ho hd ho' hd' ?_
  show PySem.W.KatLex prog w A true (decide (2 < 2)) _ [(.str z t, .str z' t'), (u, u')] 0 s
  refine PySem.W.kat_cons (SeqAt.EqAt.str_str z t z' t' prog w _ _ ?_)
  refine PySem.W.kat_go (fun e1 => ?_) (fun e1 => ?_)
  · have ez : z = z' := by simpa using e1
    have ea := Value.ref.inj (same ez)
    subst ea
    rw [ho] at ho'
    cases ho'
    rw [hd] at hd'
    have eu : u = u' := by
      injection hd' with h1 h2
      have h3 := congrArg (fun x : Array Value => x[1]?) h1
      simpa using h3
    subst eu
    have e3 : (if z = z' then false else decide (z.cps.toList < z'.cps.toList)) = false := by rw [if_pos ez]
    refine PySem.W.kat_yes (PySem.W.kat_cons (SeqAt.EqAt.same u prog w _ _ ?_))
    exact PySem.W.kat_yes (PySem.W.kat_nil ⟨rfl, e3.symm⟩)
  · have ez : ¬ z = z' := by simpa using e1
    have e3 : (if z = z' then false else decide (z.cps.toList < z'.cps.toList)) = decide (z.cps.toList < z'.cps.toList) := by rw [if_neg ez]
    exact PySem.W.kat_no (oneLt_str ⟨rfl, e3.symm⟩)
theorem nm_firsts {h : Heap} : ∀ {vs : List Value}, (∀ v ∈ vs, ∃ z u, IsNm h v z u) → ∃ fs : List Value, PySem.W.KatTups h vs fs ∧ fs.length = vs.length ∧ ∀ f ∈ fs, ∃ x t, f = Value.str x t
  | [], _ => ⟨[], PySem.W.KatTups.nil, rfl, fun _ hm => by simp at hm⟩
  | v :: vs, hp => by
    obtain ⟨fs, h1, h2, h3⟩ := nm_firsts (vs := vs) fun v' hm => hp v' (List.mem_cons_of_mem _ hm)
    obtain ⟨z, u, a, o, t, n, e, ho, hc, hd⟩ := hp v (List.mem_cons_self ..)
    subst e
    refine ⟨.str z t :: fs, PySem.W.KatTups.cons ho hc hd rfl h1, by rw [List.length_cons, List.length_cons, h2], fun f hm => ?_⟩
    rcases List.mem_cons.mp hm with rfl | hm
    · exact ⟨z, t, rfl⟩
    · exact h3 f hm
theorem nm_sortable {a : Addr} {vs : List Value} (h0 : 0 < vs.length) (hp : ∀ v ∈ vs, ∃ z u, IsNm s.heap v z u) (hu : ∀ h', (∀ b o, b ≠ a → s.heap.get? b = some o → h'.get? b = some o) → Unl h' vs) (ha : ∀ o, s.heap.get? a = some o → o.cls ≠ .type "tuple") : Srt.Sortable prog w A s a vs := by
  intro h' keep
  have hp' : ∀ v ∈ vs, ∃ z u, IsNm h' v z u := fun v hm => by
    obtain ⟨x, y, p⟩ := hp v hm
    exact ⟨x, y, p.keeps fun b o e c => keep b o (fun z => by subst z; exact ha o e c) e⟩
  obtain ⟨fs, h1, h2, h3⟩ := nm_firsts hp'
  refine ⟨tuples' true, fun Q E hq => ?_, nm_tot (s := { s with heap := h' }) hp' (hu h' keep)⟩
  refine PySem.W.kat_kind (T := .type "str") h1 (by omega) (fun f hm => ?_) (by rfl) ?_
  · obtain ⟨x, t, rfl⟩ := h3 f hm
    exact PySem.W.Looks.now
  · have e : (Value.type "str" != Value.type "tuple") = true := by first | decide +kernel | rfl | decide
    rw [e]
    exact hq

theorem sorted_nm {l : Addr} {vs : List Value} {Q : Value → Shared → Prop} (hl : s.heap.IsList l vs.toArray) (hz : vs.length ≤ sizeLine) (hp : ∀ v ∈ vs, ∃ z u, IsNm s.heap v z u)
    (hu : ∀ h', (∀ b o, s.heap.get? b = some o → h'.get? b = some o) → Unl h' vs)
    (h : ∀ (h' : Heap) (d : Addr) (out : List Value), out.Perm vs → (∀ b o, s.heap.get? b = some o → h'.get? b = some o) → s.heap.objs.size ≤ d → (∃ n, h'.get? d = some (seqObj "list" out.toArray n)) → Q (.ref d) { s with heap := h' }) :
    wpAny (model prog w) A (call (.builtin "sorted") [.ref l]) Q E s := by
  refine Srt.sorted_any hl hz (fun h2 h₁ a ha k => ?_) fun out ho => ?_
  · refine nm_sortable (s := { s with heap := h₁ }) (by omega) (fun v hm => ?_) (fun h' k' => hu h' fun b o e => k' b o (k b o e).1 (k b o e).2) fun o e => ?_
    · obtain ⟨z, u, p⟩ := hp v hm
      exact ⟨z, u, p.keeps fun b o e _ => (k b o e).2⟩
    · have e' : some o = some (seqObj "list" vs.toArray 0) := e.symm.trans ha
      cases e'
      intro c
      exact absurd (Value.type.inj c) (by decide)
  · exact h _ _ out ho (fun b o e => sortedAll_old e) (Nat.le_succ _) (sortedAll_at s.heap vs out.toArray)
end
section
variable {X : Cx}
/-- sorted(xs), xs a list of tuples (text, thing), no text twice: a new list of the same, in some order -/
def rSortedN (K : PySem.W.Frag) : List V → Hp → VK → Prop := fun vs H Q => ∃ a xs, vs = [V.ref a] ∧ SqL K H a xs ∧ (∀ x ∈ xs, ∃ t z v, x = V.ref t ∧ H t = some (.tup [.str z, v])) ∧
  (∀ t ∈ xs, ∀ t' ∈ xs, ∀ a a' z v v', t = V.ref a → t' = V.ref a' → H a = some (.tup [.str z, v]) → H a' = some (.tup [.str z, v']) → t = t') ∧
  ∀ ys p, ys.Perm xs → H p = none → Q (.ref p) (upd H p (.lst ys))
theorem cr_sortedN : CallR X (.builtin "sorted") (rSortedN X.K) := by
  intro pins s σ H vs us Q I r h
  obtain ⟨a, xs, rfl, hs, hx, hq, q⟩ := h
  obtain ⟨its, rv, hl, hz⟩ := I.list hs
  obtain ⟨u, rfl, ru⟩ := vals1 r
  obtain rfl : u = Value.ref a := ru
  obtain ⟨e1, e2⟩ := refs_back rv fun x m => by
    obtain ⟨t, _, _, e, _⟩ := hx x m
    exact ⟨t, e⟩
  have look : ∀ v ∈ its, ∃ (t : Addr) (z : Str) (y : V) (u : Value), v = .ref t ∧ V.ref t ∈ xs ∧ H t = some (.tup [.str z, y]) ∧ IsNm s.heap v z u := fun v hv => by
    obtain ⟨t, rfl⟩ := e2 v hv
    have hm : V.ref t ∈ xs := by rw [e1]; exact List.mem_map.mpr ⟨_, hv, rfl⟩
    obtain ⟨t', z, y, e, ht⟩ := hx _ hm
    cases e
    obtain ⟨_, its2, r2, o, ho, hc, n, hd⟩ := I.hok _ _ ht
    obtain ⟨u1, u2, rfl, ri, rj⟩ := vals2 r2
    obtain ⟨t1, rfl⟩ := ri
    exact ⟨t, z, y, u2, rfl, hm, ht, t, o, t1, n, rfl, ho, hc, hd⟩
  have one : ∀ {h' : Heap}, (∀ b o, s.heap.get? b = some o → h'.get? b = some o) → ∀ {v : Value} {z z' : Str} {u u' : Value}, IsNm s.heap v z u → IsNm h' v z' u' → z = z' := fun {h'} k {v z z' u u'} p p' => by
    obtain ⟨a1, o1, t1, n1, ea, ho1, _, hd1⟩ := p
    obtain ⟨a2, o2, t2, n2, eb, ho2, _, hd2⟩ := p'
    rw [ea] at eb
    cases eb
    rw [k _ _ ho1] at ho2
    cases ho2
    rw [hd1] at hd2
    injection hd2 with h1 h2
    have h3 := congrArg (fun x : Array Value => x[0]?) h1
    simp at h3
    exact h3.1
  refine sorted_nm hl.isList (by rw [← rv.length]; exact hz) (fun v hv => ?_) (fun h' k v hv v' hv' z u u' p p' => ?_) fun h' d out hp k hd hn => ?_
  · obtain ⟨t, z, y, u, rfl, _, _, p⟩ := look v hv
    exact ⟨z, u, p⟩
  · obtain ⟨t, z1, y1, u1, rfl, m1, ht1, p1⟩ := look v hv
    obtain ⟨t', z2, y2, u2, rfl, m2, ht2, p2⟩ := look v' hv'
    have g1 := one k p1 p
    have g2 := one k p2 p'
    subst g1
    subst g2
    have e := V.ref.inj (hq _ m1 _ m2 _ _ _ _ _ rfl rfl ht1 ht2)
    rw [e]
  · have h3 : ∀ u ∈ out, ∃ a, u = Value.ref a := fun u hu => e2 u (hp.mem_iff.mp hu)
    obtain ⟨n, hn⟩ := hn
    refine ⟨.ref d, upd H d (.lst (out.map backV)), I.laid (t' := s.toks) k hd ⟨?_, out, n, vals_back h3, hn⟩, rfl, q _ d ?_ (I.hok.fresh hd)⟩
    · rw [List.length_map, hp.length_eq, ← rv.length]; exact hz
    · rw [e1]; exact hp.map backV
end
end Gs

namespace W25
open PySem PySem.Spec PyProof.Rows L2 Gs
/-! ### data of tuples alone: it stays while the list of what is left to draw changes -/
mutual
inductive Tp (K : PySem.W.Frag) (H : Hp) : V → PyData → Prop
  | non : Tp K H .non .none
  | bl (b : Bool) : Tp K H (.bl b) (.bool b)
  | int (i : Int) : Tp K H (.int i) (.int i)
  | str (x : Str) : Tp K H (.str x) (.str x)
  | tup {a : Addr} {xs : List V} {ds : List PyData} : SqT K H a xs → TpAll K H xs ds → Tp K H (.ref a) (.tuple ds)
inductive TpAll (K : PySem.W.Frag) (H : Hp) : List V → List PyData → Prop
  | nil : TpAll K H [] []
  | cons {v : V} {vs : List V} {d : PyData} {ds : List PyData} : Tp K H v d → TpAll K H vs ds → TpAll K H (v :: vs) (d :: ds)
end
/-- p is the list of what is left to draw -/
def Lf (H : Hp) (p : Addr) : Prop := ∃ n : Int, H p = some (.lst [.int n])
theorem keepT {K : PySem.W.Frag} {H H' : Hp} {p a : Addr} {xs : List V} (k : Keep p H H') (hp : Lf H p) (h : SqT K H a xs) : SqT K H' a xs := by
  obtain ⟨n, hp⟩ := hp
  rcases h with (h | ⟨o, h⟩) | h
  · exact .inl (.inl (k _ _ (fun e => by rw [e, hp] at h; cases h) h))
  · exact .inl (.inr ⟨o, k _ _ (fun e => by rw [e, hp] at h; cases h) h⟩)
  · exact .inr h
section
variable {K : PySem.W.Frag} {H H' : Hp} {p : Addr}
mutual
theorem Tp.keep (k : Keep p H H') (hp : Lf H p) : ∀ {v : V} {d : PyData}, Tp K H v d → Tp K H' v d
  | _, _, .non => .non
  | _, _, .bl b => .bl b
  | _, _, .int i => .int i
  | _, _, .str x => .str x
  | _, _, .tup h r => .tup (keepT k hp h) (TpAll.keep k hp r)
theorem TpAll.keep (k : Keep p H H') (hp : Lf H p) : ∀ {vs : List V} {ds : List PyData}, TpAll K H vs ds → TpAll K H' vs ds
  | _, _, .nil => .nil
  | _, _, .cons h r => .cons (Tp.keep k hp h) (TpAll.keep k hp r)
end
mutual
theorem Tp.mono (s : Same H H') : ∀ {v : V} {d : PyData}, Tp K H v d → Tp K H' v d
  | _, _, .non => .non
  | _, _, .bl b => .bl b
  | _, _, .int i => .int i
  | _, _, .str x => .str x
  | _, _, .tup h r => .tup (same_tup s h) (TpAll.mono s r)
theorem TpAll.mono (s : Same H H') : ∀ {vs : List V} {ds : List PyData}, TpAll K H vs ds → TpAll K H' vs ds
  | _, _, .nil => .nil
  | _, _, .cons h r => .cons (Tp.mono s h) (TpAll.mono s r)
end
mutual
theorem Tp.dp : ∀ {v : V} {d : PyData}, Tp K H v d → Dp K H v d
  | _, _, .non => .non
  | _, _, .bl b => .bl b
  | _, _, .int i => .int i
  | _, _, .str x => .str x
  | _, _, .tup h r => .tup h (TpAll.dp r)
theorem TpAll.dp : ∀ {vs : List V} {ds : List PyData}, TpAll K H vs ds → DpAll K H vs ds
  | _, _, .nil => .nil
  | _, _, .cons h r => .cons (Tp.dp h) (TpAll.dp r)
end
end
/-! ### lines -/
abbrev Ln := (Int × Int) × List (Str × (Int × Int))
def dS (x : Int × Int) : PyData := .tuple [.int x.1, .int x.2]
def dPt (z : Str × (Int × Int)) : PyData := .tuple [.str z.1, dS z.2]
def dLn (l : Ln) : PyData := .tuple [dS l.1, .tuple (l.2.map dPt)]
/-- shares in least numbers of at most n bits, names of zs, each at most once -/
structure LnOk (zs : List Str) (n : Nat) (l : Ln) : Prop where
  s0 : Sh l.1
  b0 : Bd n l.1
  ps : ∀ z ∈ l.2, z.1 ∈ zs ∧ Sh z.2 ∧ Bd n z.2
  ln : l.2.length ≤ zs.length
def spLine (K : PySem.W.Frag) : Sp := fun vs H Q _ => ∃ (p L : Addr) (zs : List Str), vs = [.ref p, .ref L] ∧ Lf H p ∧ H L = some (.lst (zs.map V.str)) ∧ zs.Nodup ∧ zs.length ≤ 100 ∧
  ∀ H' v l, Keep p H H' → Lf H' p → Tp K H' v (dLn l) → LnOk zs 4 l → Q v H'
theorem scLine : FnScope ["_law_left_here", "_law_names", "_law_parts_here", "_law_name", "_law_part"] ["_law_left_here", "_law_names"] (defScope sLine) := ⟨rfl, rfl, rfl, by decide +kernel, rfl, by decide +kernel, by decide +kernel⟩
structure Cl (P : Program) (w : World) (K : PySem.W.Frag) (mg : Str → Option Value) (base : Heap) (CX : CXT) (k : Nat) (x : Str) (ps : List Str) (sp : Sp) (f : Addr) (fd : FuncData) : Prop where
  g : mg x = some (.ref f)
  ok : FnOk P w K mg base CX k f fd ps sp
  kp : PySem.W.keepIn K (.ref f) = true
  bd : Binds K fd ps []
theorem ix_tupK {X : Cx} {K : PySem.W.Frag} (hk : X.K = K) : IxR X (rIxT K) := by
  subst hk
  exact ix_tup
/-- a part's cells: the tuple's place, the share's, the name, the share -/
abbrev Pc := Addr × Addr × Str × (Int × Int)
def nmC (c : Pc) : Str := c.2.2.1
def PcAt (H : Hp) (c : Pc) : Prop := H c.1 = some (.tup [.str c.2.2.1, .ref c.2.1]) ∧ H c.2.1 = some (.tup (vp c.2.2.2)) ∧ Sh c.2.2.2 ∧ Bd 4 c.2.2.2
/-- tuples stay -/
def TK (H H' : Hp) : Prop := ∀ b xs, H b = some (.tup xs) → H' b = some (.tup xs)
theorem TK.trans {H H1 H2 : Hp} (a : TK H H1) (b : TK H1 H2) : TK H H2 := fun c xs h => b c xs (a c xs h)
theorem tk_same {H H' : Hp} (s : Same H H') : TK H H' := fun b xs h => s b _ h
theorem tk_keep {H H' : Hp} {p : Addr} (k : Keep p H H') (hp : Lf H p) : TK H H' := fun b xs h => by
  obtain ⟨n, hp⟩ := hp
  exact k b _ (fun e => by rw [e, hp] at h; cases h) h
theorem tk_lst {H : Hp} {D : Addr} {acc : List V} {o : HO} (h : H D = some (.lst acc)) : TK H (upd H D o) := fun b xs e => by
  rw [upd_ne (fun z => by rw [z, h] at e; cases e)]
  exact e
theorem PcAt.tk {H H' : Hp} {c : Pc} (k : TK H H') (h : PcAt H c) : PcAt H' c := ⟨k _ _ h.1, k _ _ h.2.1, h.2.2⟩
theorem inj_nd {α β : Type} {f : α → β} : ∀ {l : List α}, (l.map f).Nodup → ∀ {a b : α}, a ∈ l → b ∈ l → f a = f b → a = b
  | [], _, _, _, h, _, _ => absurd h List.not_mem_nil
  | c :: l, nd, a, b, ha, hb, e => by
    rw [List.map_cons, List.nodup_cons] at nd
    rcases List.mem_cons.mp ha with e1 | h1
    · rcases List.mem_cons.mp hb with e2 | h2
      · rw [e1, e2]
      · exact absurd (List.mem_map.mpr ⟨b, h2, by rw [← e, e1]⟩) nd.1
    · rcases List.mem_cons.mp hb with e2 | h2
      · exact absurd (List.mem_map.mpr ⟨a, h1, by rw [e, e2]⟩) nd.1
      · exact inj_nd nd.2 h1 h2 e
theorem keep_at {p D : Addr} {H H' : Hp} {o : HO} (k : Keep p H H') (h : H D = none) : Keep p H (upd H' D o) := fun b u n e => by
  rw [upd_ne (ne_of_none e h)]
  exact k b u n e
theorem lf_ne {p b : Addr} {H : Hp} (hp : Lf H p) (h : H b = none) : p ≠ b := fun e => by
  obtain ⟨n, hp⟩ := hp
  rw [e, h] at hp
  cases hp
theorem lf_upd {p b : Addr} {H : Hp} {o : HO} (hp : Lf H p) (h : p ≠ b) : Lf (upd H b o) p := by
  obtain ⟨n, hp⟩ := hp
  exact ⟨n, by rw [upd_ne h]; exact hp⟩
theorem lf_draw {p : Addr} {H : Hp} {n : Int} : Lf (upd H p (.lst [.int n])) p := ⟨n, upd_same⟩
section
variable {P : Program} {w : World} {K : PySem.W.Frag} {mg : Str → Option Value} {base : Heap} {f f1 f2 : Addr} {fd d1 d2 : FuncData} {k : Nat}
theorem ok_line (F : Fun K "_law_line" "_law_line" sLine f fd) (D : Cl P w K mg base CX0 1 "_law_digit" ["_law_left_here", "_law_upto"] spDigit f1 d1) (S : Cl P w K mg base CX0 2 "_law_share" ["_law_left_here"] spDraw f2 d2)
    (mt : mg "tuple" = none) (ms : mg "sorted" = none) : FnOk P w K mg base CX0 3 f fd ["_law_left_here", "_law_names"] (spLine K) := by
  refine F.ok scLine (fun vs H Q E h => ?_) (fun cdv A outer s H vs Q E hr h => ?_)
  · obtain ⟨p, L, zs, rfl, _⟩ := h
    rfl
  · obtain ⟨p, L, zs, rfl, hp, hL, nd, zl, q⟩ := h
    have r1 := hr.mono (j := 1) (by decide)
    refine ⟨_, pss_cons (ps_setLc (i := 2) (own := [("_law_name", 3)]) (g := gName 3) rfl scLine.nd rfl rfl (sw_true rfl rfl rfl rfl) (pi_list (pv 1)) (blkOk_by (own := [("_law_name", 3)]) (N := ["_law_left_here", "_law_names", "_law_parts_here", "_law_name", "_law_part"]) (sc := defScope sLine) (by decide +kernel))
          (fun _ _ _ _ _ => pg_name (i := 3) scLine.nd rfl (Or.inl rfl))
          (fun _ _ _ _ _ => pts_one (pt_cmpR op_gt (pe_call D.ok r1 (by rfl) D.g D.kp D.bd .nil pass0 (pa_cons (pv 0) (pa_cons pe_int pa_nil))) pe_int (nomark _)))
          (fun _ _ _ _ _ => pe_tup (pa_cons (pv 3) (pa_cons (pe_call S.ok hr (by rfl) S.g S.kp S.bd .nil pass0 (pa_cons (pv 0) pa_nil)) pa_nil))))
      (pss_one (ps_ret (pe_tup (pa_cons (pe_call S.ok hr (by rfl) S.g S.kp S.bd .nil pass0 (pa_cons (pv 0) pa_nil))
        (pa_cons (pe_callTy call_tuple_of (by rfl) mt (by decide +kernel) (pa_cons
          (pe_lc (own := [("_law_part", 4)]) (g := gName 4) rfl scLine.nd (pi_list (pe_callB cr_sortedN (by rfl) ms (by decide +kernel) (pa_cons (pv 2) pa_nil))) (blkOk_by (own := [("_law_part", 4)]) (N := ["_law_left_here", "_law_names", "_law_parts_here", "_law_name", "_law_part"]) (sc := defScope sLine) (by decide +kernel))
            (fun _ _ _ _ _ => pg_name (i := 4) scLine.nd rfl (Or.inl rfl))
            (fun _ _ _ _ _ => pts_one (pt_cmpR op_ne (pe_ix (ix_tupK (K := K) rfl) (pe_ix (ix_tupK (K := K) rfl) (pv 4) pe_int (fun _ _ => rfl)) pe_int (fun _ _ => rfl)) pe_int (nomark _)))
            (fun _ _ _ _ _ => pv 4)) pa_nil)) pa_nil))))), ?_⟩
    refine ⟨_, rfl, L, rfl, ⟨_, SqL.of hL⟩, fun D0 hD0 => ?_⟩
    have nL : L ≠ p := fun e => by
      obtain ⟨n, hp⟩ := hp
      rw [e, hp] at hL
      cases zs with
      | nil => cases hL
      | cons z r => cases hL
    have pD0 : p ≠ D0 := lf_ne hp hD0
    refine lc_list (K := K) (xs := zs.map V.str) (fun i H' => ∃ cs : List Pc, H' D0 = some (.lst (cs.map fun c => V.ref c.1)) ∧ (∀ c ∈ cs, PcAt H' c ∧ nmC c ∈ zs.take i) ∧ (cs.map nmC).Nodup ∧ cs.length ≤ i ∧ Keep p H H' ∧ Lf H' p)
      ⟨[], upd_same, fun _ h => absurd h List.not_mem_nil, List.nodup_nil, Nat.le_refl _, keep_at (fun _ _ _ e => e) hD0, lf_upd hp pD0⟩ (fun i H' _ hp => ?_) (fun i x H1 hx hp => ?_) (fun H1 hp => ?_)
    · obtain ⟨cs, _, _, _, _, kp, _⟩ := hp
      exact SqL.of (kp _ _ nL hL)
    · obtain ⟨cs, e, al, nd1, le, kp, lf⟩ := hp
      rw [List.getElem?_map] at hx
      cases hz : zs[i]? with
      | none => rw [hz] at hx; cases hx
      | some z =>
        rw [hz] at hx
        cases hx
        obtain ⟨n, hn⟩ := lf
        have il : i < zs.length := (List.getElem?_eq_some_iff.mp hz).1
        have tk : zs.take (i + 1) = zs.take i ++ [z] := by rw [List.take_add_one, hz]; rfl
        refine ⟨rfl, ?_⟩
        refine ⟨_, rfl, p, n, 3, rfl, hn, by decide, log_lit (n := 10) (by decide) (by decide) (by decide), _, _, rfl, rfl, _, rfl, ?_⟩
        have e3 : upd H1 p (.lst [.int (n / 3)]) D0 = some (.lst (cs.map fun c => V.ref c.1)) := by
          rw [upd_ne (fun z => pD0 z.symm)]
          exact e
        have k3 : Keep p H (upd H1 p (.lst [.int (n / 3)])) := kp.trans keep_upd
        have t3 : TK H1 (upd H1 p (.lst [.int (n / 3)])) := tk_lst hn
        refine ite2 (fun _ => ?_) (fun _ => ?_)
        · refine ⟨_, rfl, _, rfl, p, _, rfl, upd_same, fun H4 r x n4 k4 hp4 hr0 hr4 sx bx => ⟨by show 2 ≤ sizeLine; decide, fun t ht => ?_⟩⟩
          have e4 := k4 _ _ (fun z => pD0 z.symm) e3
          have nt : D0 ≠ t := ne_of_none e4 ht
          have t4 : TK H1 H4 := t3.trans (tk_keep k4 lf_draw)
          have lf4 : Lf H4 p := ⟨n4, hp4⟩
          have pt : p ≠ t := lf_ne lf4 ht
          have e5 : upd H4 t (.tup [.str z, .ref r]) D0 = some (.lst (cs.map fun c => V.ref c.1)) := by
            rw [upd_ne nt]
            exact e4
          have t5 : TK H4 (upd H4 t (.tup [.str z, .ref r])) := tk_same (same_new ht)
          have t6 : TK (upd H4 t (.tup [.str z, .ref r])) (upd (upd H4 t (.tup [.str z, .ref r])) D0 (.lst ((cs.map fun c => V.ref c.1) ++ [.ref t]))) := tk_lst e5
          refine ⟨_, e5, ?_, cs ++ [(t, r, z, x)], ?_, fun c hc => ?_, ?_, ?_, ?_, ?_⟩
          · rw [List.length_map]
            exact small1000 (by omega)
          · rw [upd_same, List.map_append]
            rfl
          · rw [tk]
            rcases List.mem_append.mp hc with hc | hc
            · exact ⟨(al c hc).1.tk (t4.trans (t5.trans t6)), List.mem_append.mpr (.inl (al c hc).2)⟩
            · cases List.mem_singleton.mp hc
              exact ⟨⟨t6 _ _ upd_same, (t5.trans t6) _ _ hr4, sx, bx⟩, List.mem_append.mpr (.inr (List.mem_singleton.mpr rfl))⟩
          · rw [List.map_append, List.nodup_append]
            refine ⟨nd1, List.nodup_cons.mpr ⟨List.not_mem_nil, List.nodup_nil⟩, fun a ha b hb => ?_⟩
            obtain ⟨c, hc, rfl⟩ := List.mem_map.mp ha
            have eb : b = z := List.mem_singleton.mp hb
            rw [eb]
            intro ez
            have h1 := (al c hc).2
            rw [ez] at h1
            have h2 : (zs.take (i + 1)).Nodup := nd.sublist (List.take_sublist _ _)
            rw [tk, List.nodup_append] at h2
            exact h2.2.2 z h1 z (List.mem_singleton.mpr rfl) rfl
          · rw [List.length_append]
            exact Nat.succ_le_succ le
          · exact keep_at ((k3.trans k4).trans (keep_same (same_new ht))) hD0
          · exact lf_upd (lf_upd lf4 pt) pD0
        · exact ⟨cs, e3, fun c hc => ⟨(al c hc).1.tk t3, by rw [tk]; exact List.mem_append.mpr (.inl (al c hc).2)⟩, nd1, by omega, k3, lf_draw⟩
    · obtain ⟨cs, e1, al, nd1, le, k1, n1, hn1⟩ := hp
      have le1 : cs.length ≤ zs.length := by rw [List.length_map] at le; exact le
      refine ⟨_, rfl, p, n1, rfl, hn1, fun H2 r x0 n2 k2 hn2 hr0 hr2 sx0 bx0 => ?_⟩
      have t2 : TK H1 H2 := tk_keep k2 ⟨n1, hn1⟩
      have e2 := k2 _ _ (fun z => pD0 z.symm) e1
      have al2 : ∀ c ∈ cs, PcAt H2 c ∧ nmC c ∈ zs := fun c hc => ⟨(al c hc).1.tk t2, List.mem_of_mem_take (al c hc).2⟩
      have kk2 : Keep p H H2 := k1.trans k2
      refine ⟨_, rfl, D0, _, rfl, SqL.of e2, fun x hx => ?_, fun t ht t' ht' a a' z v v' ea ea' ha ha' => ?_, fun ys d perm hd => ⟨d, rfl, ⟨_, SqL.of upd_same⟩, fun D2 hD2 => ?_⟩⟩
      · obtain ⟨c, hc, rfl⟩ := List.mem_map.mp hx
        exact ⟨c.1, _, _, rfl, (al2 c hc).1.1⟩
      · obtain ⟨c, hc, rfl⟩ := List.mem_map.mp ht
        obtain ⟨c', hc', rfl⟩ := List.mem_map.mp ht'
        cases ea
        cases ea'
        rw [(al2 c hc).1.1] at ha
        rw [(al2 c' hc').1.1] at ha'
        have g1 : nmC c = z := by
          cases ha
          rfl
        have g2 : nmC c' = z := by
          cases ha'
          rfl
        have g : c = c' := inj_nd nd1 hc hc' (g1.trans g2.symm)
        rw [g]
      · have pd : p ≠ d := lf_ne ⟨n2, hn2⟩ hd
        have lf3 : Lf (upd H2 d (.lst ys)) p := lf_upd ⟨n2, hn2⟩ pd
        have pD2 : p ≠ D2 := lf_ne lf3 hD2
        have s3 : Same H2 (upd H2 d (.lst ys)) := same_new hd
        have dD2 : d ≠ D2 := ne_of_none upd_same hD2
        have k3 : Keep p H (upd H2 d (.lst ys)) := kk2.trans (keep_same s3)
        have hD2H : H D2 = none := free_of k3 (fun z => pD2 z.symm) hD2
        have hr3 : upd H2 d (.lst ys) r = some (.tup (vp x0)) := s3 _ _ hr2
        have ylen : ys.length ≤ zs.length := by rw [perm.length_eq, List.length_map]; exact le1
        have hd3 : upd H2 d (.lst ys) d = some (.lst ys) := upd_same
        generalize upd H2 d (.lst ys) = H3 at *
        refine lc_list (K := K) (xs := ys) (fun i H' => ∃ es : List Pc, H' D2 = some (.lst (es.map fun c => V.ref c.1)) ∧ (∀ c ∈ es, PcAt H' c ∧ nmC c ∈ zs) ∧ (∀ c ∈ cs, PcAt H' c) ∧ es.length ≤ i ∧ Keep p H H' ∧ Lf H' p ∧ H' d = some (.lst ys) ∧ H' r = some (.tup (vp x0)))
          ⟨[], upd_same, fun _ h => absurd h List.not_mem_nil, fun c hc => (al2 c hc).1.tk ((tk_same s3).trans (tk_same (same_new hD2))), Nat.le_refl _, keep_at k3 hD2H, lf_upd lf3 pD2, same_new hD2 _ _ hd3, same_new hD2 _ _ hr3⟩ (fun i H' _ hp => ?_) (fun i x H4 hx hp => ?_) (fun H4 hp => ?_)
        · obtain ⟨es, _, _, _, _, _, _, h, _⟩ := hp
          exact SqL.of h
        · obtain ⟨es, e4, al4, all4, le4, k4, lf4, hd4, hr4⟩ := hp
          have hm : x ∈ cs.map fun c => V.ref c.1 := perm.mem_iff.mp (List.mem_of_getElem? hx)
          obtain ⟨c, hc, rfl⟩ := List.mem_map.mp hm
          have pc := all4 c hc
          refine ⟨rfl, ?_⟩
          refine ⟨_, rfl, c.1, _, 1, _, rfl, rfl, SqT.of pc.1, atI_nat (j := 1) rfl, c.2.1, _, 0, _, rfl, rfl, SqT.of pc.2.1, at0, rfl, _, rfl, ?_⟩
          refine ite2 (fun _ => ?_) (fun _ => ?_)
          · have t5 : TK H4 (upd H4 D2 (.lst ((es.map fun c => V.ref c.1) ++ [.ref c.1]))) := tk_lst e4
            refine ⟨_, rfl, _, e4, ?_, es ++ [c], ?_, fun c' hc' => ?_, fun c' hc' => (all4 c' hc').tk t5, ?_, keep_at k4 hD2H, lf_upd lf4 pD2, ?_, t5 _ _ hr4⟩
            · have il := (List.getElem?_eq_some_iff.mp hx).1
              rw [List.length_map]
              exact small1000 (by omega)
            · rw [upd_same, List.map_append]
              rfl
            · rcases List.mem_append.mp hc' with h | h
              · exact ⟨(al4 c' h).1.tk t5, (al4 c' h).2⟩
              · cases List.mem_singleton.mp h
                exact ⟨pc.tk t5, (al2 c hc).2⟩
            · rw [List.length_append]
              exact Nat.succ_le_succ le4
            · rw [upd_ne dD2]
              exact hd4
          · exact ⟨es, e4, al4, all4, by omega, k4, lf4, hd4, hr4⟩
        · obtain ⟨es, e4, al4, _, le4, k4, lf4, _, hr4⟩ := hp
          refine ⟨D2, _, rfl, .inl ⟨SqL.of e4, fun l hl => ⟨by show 2 ≤ sizeLine; decide, fun v hv => ?_⟩⟩⟩
          have s5 : Same H4 (upd H4 l (.tup (es.map fun c => V.ref c.1))) := same_new hl
          have s6 := same_new (o := .tup [.ref r, .ref l]) hv
          have s7 := s5.trans s6
          have pl5 : p ≠ l := lf_ne lf4 hl
          have lf5 : Lf (upd H4 l (.tup (es.map fun c => V.ref c.1))) p := lf_upd lf4 pl5
          refine q _ _ (x0, es.map fun c => (nmC c, c.2.2.2)) (k4.trans (keep_same s7)) (lf_upd lf5 (lf_ne lf5 hv)) ?_ ⟨sx0, bx0, fun z hz => ?_, ?_⟩
          · refine .tup (SqT.of upd_same) (.cons (.tup (SqT.of (s7 _ _ hr4)) (.cons (.int _) (.cons (.int _) .nil))) (.cons (.tup (SqT.of (s6 _ _ upd_same)) ?_) .nil))
            have go : ∀ fs : List Pc, (∀ c ∈ fs, PcAt H4 c ∧ nmC c ∈ zs) → TpAll K _ (fs.map fun c => V.ref c.1) ((fs.map fun c => (nmC c, c.2.2.2)).map dPt) := fun fs => by
              induction fs with
              | nil => exact fun _ => .nil
              | cons c fs ih =>
                intro h
                obtain ⟨h1, h2, _⟩ := (h c List.mem_cons_self).1
                exact .cons (.tup (SqT.of (s7 _ _ h1)) (.cons (.str _) (.cons (.tup (SqT.of (s7 _ _ h2)) (.cons (.int _) (.cons (.int _) .nil))) .nil))) (ih fun c' hc' => h c' (List.mem_cons_of_mem _ hc'))
            exact go es al4
          · obtain ⟨c, hc, rfl⟩ := List.mem_map.mp hz
            exact ⟨(al4 c hc).2, (al4 c hc).1.2.2.1, (al4 c hc).1.2.2.2⟩
          · show (es.map fun c => (nmC c, c.2.2.2)).length ≤ zs.length
            rw [List.length_map]
            omega
end
end W25

namespace W25
open PySem PySem.Spec PyProof.Rows L2 Gs
def xy : List Str := ["x", "y"]
/-- the numbers at d: shares of at most m bits for x and y -/
def NuAt (K : PySem.W.Frag) (H : Hp) (d : Addr) (m : Nat) : Prop := ∃ kvs : List (Key × V), H d = some (.dK kvs) ∧ kvs.map (·.1) = [(Sum.inr ("x" : Str) : Key), Sum.inr ("y" : Str)] ∧ ∀ z ∈ xy, ∃ a x, valV kvs (.inr z) = some (.ref a) ∧ TP K H a x ∧ Sh x ∧ Bd m x
theorem u1 {k : Nat} {A : Around} (r : Room k A) : A.units + 1 < cLine := by have := r.units; omega
theorem tm_sh {x y : Int × Int} (hx : Sh x) (hy : Sh y) : Sh (tm x y) := lw_sh (mul_ne hx.ne hy.ne)
theorem tm_bd {x y : Int × Int} {n m : Nat} (hx : Sh x) (hy : Sh y) (b1 : Bd n x) (b2 : Bd m y) : Bd (n + m) (tm x y) := lw_bd (mul_ne hx.ne hy.ne) (mul_bd b1.1 b2.1) (mul_bd b1.2 b2.2)
section
variable {K : PySem.W.Frag} {H H' : Hp}
theorem tp_share {v : V} {x : Int × Int} (h : Tp K H v (dS x)) : ∃ a, v = .ref a ∧ TP K H a x := by
  cases h with
  | tup h r =>
    cases r with
    | cons h1 r =>
      cases r with
      | cons h2 r =>
        cases r
        cases h1
        cases h2
        exact ⟨_, rfl, h⟩
theorem tp_two {v : V} {d1 d2 : PyData} (h : Tp K H v (.tuple [d1, d2])) : ∃ a v1 v2, v = .ref a ∧ SqT K H a [v1, v2] ∧ Tp K H v1 d1 ∧ Tp K H v2 d2 := by
  cases h with
  | tup h r =>
    cases r with
    | cons h1 r =>
      cases r with
      | cons h2 r =>
        cases r
        exact ⟨_, _, _, rfl, h, h1, h2⟩
theorem tp_str {v : V} {z : Str} (h : Tp K H v (.str z)) : v = .str z := by
  cases h
  rfl
theorem TpAll.len : ∀ {vs : List V} {ds : List PyData}, TpAll K H vs ds → vs.length = ds.length
  | _, _, .nil => rfl
  | _, _, .cons _ r => congrArg (· + 1) (TpAll.len r)
theorem TpAll.get : ∀ {vs : List V} {ds : List PyData}, TpAll K H vs ds → ∀ {i : Nat} {v : V}, vs[i]? = some v → ∃ d, ds[i]? = some d ∧ Tp K H v d
  | _, _, .nil, i, v, e => by simp at e
  | _, _, .cons h r, 0, v, e => by
    cases e
    exact ⟨_, rfl, h⟩
  | _, _, .cons h r, i + 1, v, e => TpAll.get r (i := i) e
theorem tp_line {v : V} {l : Ln} (h : Tp K H v (dLn l)) : ∃ a s0 t xs, v = .ref a ∧ SqT K H a [.ref s0, .ref t] ∧ TP K H s0 l.1 ∧ SqT K H t xs ∧ TpAll K H xs (l.2.map dPt) := by
  obtain ⟨a, v1, v2, rfl, ha, h1, h2⟩ := tp_two h
  obtain ⟨s0, rfl, hs⟩ := tp_share h1
  cases h2 with
  | tup h r => exact ⟨a, s0, _, _, rfl, ha, hs, h, r⟩
theorem NuAt.mono {d : Addr} {m : Nat} (s : Same H H') (h : NuAt K H d m) : NuAt K H' d m := by
  obtain ⟨kvs, e, ks, h⟩ := h
  refine ⟨kvs, s _ _ e, ks, fun z hz => ?_⟩
  obtain ⟨a, x, h1, h2, h3⟩ := h z hz
  exact ⟨a, x, h1, same_tup s h2, h3⟩
end
def spWorth (K : PySem.W.Frag) : Sp := fun vs H Q _ => ∃ (v : V) (d : Addr) (l : Ln) (n m : Nat), vs = [v, .ref d] ∧ Tp K H v (dLn l) ∧ LnOk xy n l ∧ NuAt K H d m ∧ n + m ≤ 300 ∧
  ∀ H' r x, Same H H' → TP K H' r x → Sh x → Bd (n + l.2.length * (n + m + 1)) x → Q (.ref r) H'
theorem scWorth : FnScope ["_law_line_here", "_law_numbers", "_law_found", "_law_name", "_law_part"] ["_law_line_here", "_law_numbers"] (defScope sWorth) := ⟨rfl, rfl, rfl, by decide +kernel, rfl, by decide +kernel, by decide +kernel⟩
section
variable {P : Program} {w : World} {K : PySem.W.Frag} {mg : Str → Option Value} {base : Heap} {f f1 f2 : Addr} {fd d1 d2 : FuncData} {k : Nat}
theorem ok_worth (F : Fun K "_law_worth" "_law_worth" sWorth f fd) (Pl : Cl P w K mg base CX0 2 "_law_plus" ["_law_one", "_law_other"] (spTwo K pl) f1 d1) (Tm : Cl P w K mg base CX0 2 "_law_times" ["_law_one", "_law_other"] (spTwo K tm) f2 d2) :
    FnOk P w K mg base CX0 3 f fd ["_law_line_here", "_law_numbers"] (spWorth K) := by
  refine F.ok scWorth (fun vs H Q E h => ?_) (fun cdv A outer s H vs Q E hr h => ?_)
  · obtain ⟨v, d, l, n, m, rfl, _⟩ := h
    rfl
  · obtain ⟨v, d, l, n, m, rfl, hv, ok, nu, nm, q⟩ := h
    refine ⟨_, pss_cons (ps_set (i := 2) scWorth.nd rfl (.inl rfl) (pe_ix ix_tup (pv 0) pe_int (fun _ _ => rfl)))
      (pss_cons (ps_for PassesOwn.never rfl (pi_tup (pe_ix ix_tup (pv 0) pe_int (fun _ _ => rfl))) (pg_tup (by rfl) (pgs_cons (pg_name (i := 3) scWorth.nd rfl (.inl rfl)) (pgs_cons (pg_name (i := 4) scWorth.nd rfl (.inl rfl)) pgs_nil)))
        (pss_one (ps_set (i := 2) scWorth.nd rfl (.inl rfl) (pe_call Pl.ok hr (by rfl) Pl.g Pl.kp Pl.bd .nil pass0 (pa_cons (pv 2) (pa_cons
          (pe_call Tm.ok hr (by rfl) Tm.g Tm.kp Tm.bd .nil pass0 (pa_cons (pv 4) (pa_cons (pe_dget (u1 hr) (pv 1) (pv 3) (fun _ _ => rfl)) pa_nil))) pa_nil))))))
      (pss_one (ps_ret (pv 2)))), ?_⟩
    obtain ⟨a, s0, t, xs, rfl, ha, hs0, ht, al⟩ := tp_line hv
    refine ⟨_, rfl, a, _, 0, _, rfl, rfl, ha, atI_nat (j := 0) rfl, ?_⟩
    refine ⟨_, rfl, a, _, 1, _, rfl, rfl, ha, atI_nat (j := 1) rfl, t, rfl, ⟨_, ht⟩, ?_⟩
    have ln2 : l.2.length ≤ 2 := ok.ln
    have xl : xs.length = l.2.length := by rw [al.len, List.length_map]
    refine for_tup (K := K) (xs := xs) (fun i σ H' => Same H H' ∧ ∃ r x y3 y4, σ = [some (.ref a), some (.ref d), some (.ref r), y3, y4] ∧ TP K H' r x ∧ Sh x ∧ Bd (n + i * (n + m + 1)) x)
      ⟨Same.refl _, s0, l.1, none, none, rfl, hs0, ok.s0, ok.b0.mono (by omega)⟩ (fun i σ H' _ hp => same_tup hp.1 ht) (fun i x σ H1 hx hp => ?_) (fun σ H1 hp => ?_)
    · obtain ⟨sm, r, y, y3, y4, rfl, hr1, sy, by1⟩ := hp
      have il : i < xs.length := (List.getElem?_eq_some_iff.mp hx).1
      obtain ⟨dd, hd, hh⟩ := al.get hx
      rw [List.getElem?_map] at hd
      cases hz : l.2[i]? with
      | none => rw [hz] at hd; cases hd
      | some zx =>
        rw [hz] at hd
        cases hd
        obtain ⟨c, v1, v2, rfl, hc, h1, h2⟩ := tp_two hh
        obtain rfl := tp_str h1
        obtain ⟨q2, rfl, hq2⟩ := tp_share h2
        obtain ⟨hin, sz, bz⟩ := ok.ps zx (List.mem_of_getElem? hz)
        obtain ⟨kvs, ed, _, nus⟩ := nu.mono sm
        obtain ⟨a3, x3, ev, h3, s3, b3⟩ := nus _ hin
        refine ⟨c, _, rfl, same_tup sm hc, rfl, _, _, rfl, _, _, rfl, rfl, ?_⟩
        refine ⟨_, rfl, _, rfl, _, rfl, _, rfl, d, _, rfl, (show DGet H1 d (kV (Sum.inr zx.1)) (some (.ref a3)) from ev ▸ DGet.k ed), q2, a3, zx.2, x3, rfl, same_tup sm hq2, h3, sz, s3, bz.mono (by omega), b3.mono (by omega), fun H2 r2 m2 n2 e2 => ?_⟩
        have bt : Bd (n + m) (tm zx.2 x3) := tm_bd sz s3 bz b3
        have hle : i * (n + m + 1) ≤ 1 * (n + m + 1) := Nat.mul_le_mul_right _ (by omega)
        refine ⟨r, r2, y, tm zx.2 x3, rfl, same_tup m2 hr1, SqT.of e2, sy, tm_sh sz s3, by1.mono (by omega), bt.mono (by omega), fun H3 r3 m3 n3 e3 => ?_⟩
        refine ⟨sm.trans (m2.trans m3), r3, _, _, _, rfl, SqT.of e3, pl_sh sy (tm_sh sz s3), (pl_bd sy (tm_sh sz s3) by1 bt).mono ?_⟩
        rw [Nat.succ_mul]
        omega
    · obtain ⟨sm, r, x, y3, y4, rfl, hr1, sx, bx⟩ := hp
      exact ⟨_, rfl, q _ r x sm hr1 sx (by rw [← xl]; exact bx)⟩
end
end W25

namespace W25
open PySem PySem.Spec PyProof.Rows L2 Gs
theorem scMoved : FnScope ["_law_line_here", "_law_much"] ["_law_line_here", "_law_much"] (defScope sMoved) := ⟨rfl, rfl, rfl, by decide +kernel, rfl, by decide +kernel, by decide +kernel⟩
theorem scScaled : FnScope ["_law_line_here", "_law_by", "_law_name", "_law_part"] ["_law_line_here", "_law_by"] (defScope sScaled) := ⟨rfl, rfl, rfl, by decide +kernel, rfl, by decide +kernel, by decide +kernel⟩
/-- a line and a share in, a line out -/
def spLnS (K : PySem.W.Frag) : Sp := fun vs H Q _ => ∃ (v : V) (b : Addr) (l : Ln) (y : Int × Int) (n m : Nat), vs = [v, .ref b] ∧ Tp K H v (dLn l) ∧ LnOk xy n l ∧ TP K H b y ∧ Sh y ∧ Bd m y ∧ n ≤ 1000 ∧ m ≤ 1000 ∧
  ∀ H' v' l', Same H H' → Tp K H' v' (dLn l') → LnOk xy (n + m + 1) l' → l'.2.length = l.2.length → Q v' H'
/-- a part's cells, its share of at most n bits -/
def PcB (n : Nat) (H : Hp) (c : Pc) : Prop := H c.1 = some (.tup [.str c.2.2.1, .ref c.2.1]) ∧ H c.2.1 = some (.tup (vp c.2.2.2)) ∧ Sh c.2.2.2 ∧ Bd n c.2.2.2
theorem PcB.tk {n : Nat} {H H' : Hp} {c : Pc} (k : TK H H') (h : PcB n H c) : PcB n H' c := ⟨k _ _ h.1, k _ _ h.2.1, h.2.2⟩
theorem pcs_tp {K : PySem.W.Frag} {n : Nat} {H : Hp} : ∀ fs : List Pc, (∀ c ∈ fs, PcB n H c ∧ nmC c ∈ xy) → TpAll K H (fs.map fun c => V.ref c.1) ((fs.map fun c => (nmC c, c.2.2.2)).map dPt)
  | [], _ => .nil
  | c :: fs, h => by
    obtain ⟨h1, h2, _⟩ := (h c List.mem_cons_self).1
    exact .cons (.tup (SqT.of h1) (.cons (.str _) (.cons (.tup (SqT.of h2) (.cons (.int _) (.cons (.int _) .nil))) .nil))) (pcs_tp fs fun c' hc' => h c' (List.mem_cons_of_mem _ hc'))
section
variable {P : Program} {w : World} {K : PySem.W.Frag} {mg : Str → Option Value} {base : Heap} {f f1 f2 : Addr} {fd d1 d2 : FuncData} {k : Nat}
theorem ok_moved (F : Fun K "_law_moved" "_law_moved" sMoved f fd) (Pl : Cl P w K mg base CX0 2 "_law_plus" ["_law_one", "_law_other"] (spTwo K pl) f1 d1) :
    FnOk P w K mg base CX0 3 f fd ["_law_line_here", "_law_much"] (spLnS K) := by
  refine F.ok scMoved (fun vs H Q E h => ?_) (fun cdv A outer s H vs Q E hr h => ?_)
  · obtain ⟨v, b, l, y, n, m, rfl, _⟩ := h
    rfl
  · obtain ⟨v, b, l, y, n, m, rfl, hv, ok, hb, sy, by_, hn, hm, q⟩ := h
    refine ⟨_, pss_one (ps_ret (pe_tup (pa_cons (pe_call Pl.ok hr (by rfl) Pl.g Pl.kp Pl.bd .nil pass0 (pa_cons (pe_ix ix_tup (pv 0) pe_int (fun _ _ => rfl)) (pa_cons (pv 1) pa_nil)))
      (pa_cons (pe_ix ix_tup (pv 0) pe_int (fun _ _ => rfl)) pa_nil)))), ?_⟩
    obtain ⟨a, s0, t, xs, rfl, ha, hs0, ht, al⟩ := tp_line hv
    refine ⟨_, rfl, a, _, 0, _, rfl, rfl, ha, atI_nat (j := 0) rfl, _, rfl, s0, b, l.1, y, rfl, hs0, hb, ok.s0, sy, ok.b0.mono hn, by_.mono hm, fun H1 r m1 n1 e1 => ?_⟩
    refine ⟨_, rfl, a, _, 1, _, rfl, rfl, same_tup m1 ha, atI_nat (j := 1) rfl, by show 2 ≤ sizeLine; decide, fun p hp => ?_⟩
    have s2 := same_new (o := .tup [.ref r, .ref t]) hp
    have s3 := m1.trans s2
    refine q _ _ (pl l.1 y, l.2) s3 (.tup (SqT.of upd_same) (.cons (.tup (SqT.of (s2 _ _ e1)) (.cons (.int _) (.cons (.int _) .nil))) (.cons (.tup (same_tup s3 ht) (al.mono s3)) .nil))) ⟨pl_sh ok.s0 sy, pl_bd ok.s0 sy ok.b0 by_, fun z hz => ?_, ok.ln⟩ rfl
    obtain ⟨h1, h2, h3⟩ := ok.ps z hz
    exact ⟨h1, h2, h3.mono (by omega)⟩
theorem ok_scaled (F : Fun K "_law_scaled_line" "_law_scaled_line" sScaled f fd) (Tm : Cl P w K mg base CX0 2 "_law_times" ["_law_one", "_law_other"] (spTwo K tm) f1 d1) (mt : mg "tuple" = none) :
    FnOk P w K mg base CX0 3 f fd ["_law_line_here", "_law_by"] (spLnS K) := by
  refine F.ok scScaled (fun vs H Q E h => ?_) (fun cdv A outer s H vs Q E hr h => ?_)
  · obtain ⟨v, b, l, y, n, m, rfl, _⟩ := h
    rfl
  · obtain ⟨v, b, l, y, n, m, rfl, hv, ok, hb, sy, by_, hn, hm, q⟩ := h
    refine ⟨_, pss_one (ps_ret (pe_tup (pa_cons (pe_call Tm.ok hr (by rfl) Tm.g Tm.kp Tm.bd .nil pass0 (pa_cons (pe_ix ix_tup (pv 0) pe_int (fun _ _ => rfl)) (pa_cons (pv 1) pa_nil)))
      (pa_cons (pe_callTy call_tuple_of (by rfl) mt (by decide +kernel) (pa_cons
        (pe_lc (own := [("_law_name", 2), ("_law_part", 3)]) (g := gTup K 2 (gCons (gName 2) (gCons (gName 3) gNil))) (tt := tYes) rfl scScaled.nd (pi_tup (pe_ix ix_tup (pv 0) pe_int (fun _ _ => rfl)))
          (blkOk_by (own := [("_law_name", 2), ("_law_part", 3)]) (N := ["_law_line_here", "_law_by", "_law_name", "_law_part"]) (sc := defScope sScaled) (by decide +kernel))
          (fun _ _ _ _ _ => pg_tup rfl (pgs_cons (pg_name (i := 2) scScaled.nd rfl (Or.inl rfl)) (pgs_cons (pg_name (i := 3) scScaled.nd rfl (Or.inl rfl)) pgs_nil))) (fun _ _ _ _ _ => pts_nil)
          (fun _ _ _ _ _ => pe_tup (pa_cons (pv 2) (pa_cons (pe_call Tm.ok hr (by rfl) Tm.g Tm.kp Tm.bd .nil pass0 (pa_cons (pv 3) (pa_cons (pv 1) pa_nil))) pa_nil)))) pa_nil)) pa_nil)))), ?_⟩
    obtain ⟨a, s0, t, xs, rfl, ha, hs0, ht, al⟩ := tp_line hv
    refine ⟨_, rfl, a, _, 0, _, rfl, rfl, ha, atI_nat (j := 0) rfl, _, rfl, s0, b, l.1, y, rfl, hs0, hb, ok.s0, sy, ok.b0.mono hn, by_.mono hm, fun H1 r m1 n1 e1 => ?_⟩
    refine ⟨_, rfl, a, _, 1, _, rfl, rfl, same_tup m1 ha, atI_nat (j := 1) rfl, t, rfl, ⟨_, same_tup m1 ht⟩, fun D hD => ?_⟩
    have ln2 : l.2.length ≤ 2 := ok.ln
    have xl : xs.length = l.2.length := by rw [al.len, List.length_map]
    refine lc_tup (K := K) (xs := xs) (fun i H' => Same H1 H' ∧ ∃ cs : List Pc, H' D = some (.lst (cs.map fun c => V.ref c.1)) ∧ (∀ c ∈ cs, PcB (n + m) H' c ∧ nmC c ∈ xy) ∧ cs.length = i)
      ⟨same_new hD, [], upd_same, fun _ h => absurd h List.not_mem_nil, rfl⟩ (fun i H' _ hp => same_tup (m1.trans hp.1) ht) (fun i x H2 hx hp => ?_) (fun H2 hp => ?_)
    · obtain ⟨sm, cs, e2, al2, le⟩ := hp
      have il : i < xs.length := (List.getElem?_eq_some_iff.mp hx).1
      have sH := m1.trans sm
      obtain ⟨dd, hd, hh⟩ := al.get hx
      rw [List.getElem?_map] at hd
      cases hz : l.2[i]? with
      | none => rw [hz] at hd; cases hd
      | some zx =>
        rw [hz] at hd
        cases hd
        obtain ⟨c, v1, v2, rfl, hc, h1, h2⟩ := tp_two (hh.mono sH)
        obtain rfl := tp_str h1
        obtain ⟨q2, rfl, hq2⟩ := tp_share h2
        obtain ⟨hin, sz, bz⟩ := ok.ps zx (List.mem_of_getElem? hz)
        refine ⟨c, _, rfl, hc, rfl, _, _, rfl, _, _, rfl, rfl, ?_⟩
        refine ⟨rfl, ?_⟩
        dsimp only [tYes]
        rw [if_pos rfl]
        refine ⟨_, rfl, _, rfl, _, rfl, q2, b, zx.2, y, rfl, hq2, same_tup sH hb, sz, sy, bz.mono hn, by_.mono hm, fun H3 r3 m3 n3 e3 => ⟨by show 2 ≤ sizeLine; decide, fun t4 ht4 => ?_⟩⟩
        have s4 := same_new (o := .tup [.str zx.1, .ref r3]) ht4
        have e5 := s4 _ _ (m3 _ _ e2)
        have t5 : TK _ (upd (upd H3 t4 (.tup [.str zx.1, .ref r3])) D (.lst ((cs.map fun c => V.ref c.1) ++ [.ref t4]))) := tk_lst e5
        refine ⟨_, e5, ?_, ?_, cs ++ [(t4, r3, zx.1, tm zx.2 y)], ?_, fun c' hc' => ?_, ?_⟩
        · rw [List.length_map]
          exact small1000 (by omega)
        · intro b' o eb
          rw [upd_ne (ne_of_none eb hD)]
          exact s4 _ _ (m3 _ _ (sm b' o eb))
        · rw [upd_same, List.map_append]
          rfl
        · rcases List.mem_append.mp hc' with h | h
          · exact ⟨(al2 c' h).1.tk ((tk_same (m3.trans s4)).trans t5), (al2 c' h).2⟩
          · cases List.mem_singleton.mp h
            exact ⟨⟨t5 _ _ upd_same, t5 _ _ (s4 _ _ e3), tm_sh sz sy, tm_bd sz sy bz by_⟩, hin⟩
        · rw [List.length_append, le]
          rfl
    · obtain ⟨sm, cs, e2, al2, le⟩ := hp
      refine ⟨D, _, rfl, .inl ⟨SqL.of e2, fun l2 hl2 => ⟨by show 2 ≤ sizeLine; decide, fun v hv => ?_⟩⟩⟩
      have s5 := same_new (o := .tup (cs.map fun c => V.ref c.1)) hl2
      have s6 := same_new (o := .tup [.ref r, .ref l2]) hv
      have s7 := s5.trans s6
      refine q _ _ (tm l.1 y, cs.map fun c => (nmC c, c.2.2.2)) (m1.trans (sm.trans s7)) (.tup (SqT.of upd_same) (.cons (.tup (SqT.of ((sm.trans s7) _ _ e1)) (.cons (.int _) (.cons (.int _) .nil))) (.cons (.tup (SqT.of (s6 _ _ upd_same)) (pcs_tp (n := n + m) cs fun c hc => ⟨(al2 c hc).1.tk (tk_same s7), (al2 c hc).2⟩)) .nil)))
        ⟨tm_sh ok.s0 sy, (tm_bd ok.s0 sy ok.b0 by_).mono (by omega), fun z hz => ?_, ?_⟩ ?_
      · obtain ⟨c, hc, rfl⟩ := List.mem_map.mp hz
        exact ⟨(al2 c hc).2, (al2 c hc).1.2.2.1, (al2 c hc).1.2.2.2.mono (by omega)⟩
      · show (cs.map fun c => (nmC c, c.2.2.2)).length ≤ 2
        rw [List.length_map]
        omega
      · show (cs.map fun c => (nmC c, c.2.2.2)).length = _
        rw [List.length_map]
        omega
end
end W25

namespace W25
open PySem PySem.Spec PyProof.Rows L2 Gs
/-! ### what a display makes -/
def Mk (K : PySem.W.Frag) (σ : L2.St) (H0 : Hp) (t : TE) (d : PyData) : Prop := ∀ (H : Hp) (Q : VK), Same H0 H → (∀ H' v, Same H H' → Tp K H' v d → Q v H') → t σ H Q
def MkA (K : PySem.W.Frag) (σ : L2.St) (H0 : Hp) (t : TA) (ds : List PyData) : Prop := ∀ (H : Hp) (Q : List V → Hp → Prop), Same H0 H → (∀ H' vs, Same H H' → TpAll K H' vs ds → Q vs H') → t σ H Q
section
variable {K : PySem.W.Frag} {σ : L2.St} {H0 : Hp}
theorem mk_str {z : Str} : Mk K σ H0 (tC (.str z)) (.str z) := fun H Q _ q => q H _ (Same.refl _) (.str z)
theorem mk_int {i : Int} : Mk K σ H0 (tC (.int i)) (.int i) := fun H Q _ q => q H _ (Same.refl _) (.int i)
theorem mk_non : Mk K σ H0 (tC .non) .none := fun H Q _ q => q H _ (Same.refl _) .non
theorem mk_var {i : Nat} {v : V} {d : PyData} (e : σ[i]? = some (some v)) (h : Tp K H0 v d) : Mk K σ H0 (tVar i) d := fun H Q s q => ⟨v, e, q H v (Same.refl _) (h.mono s)⟩
theorem mk_nil : MkA K σ H0 tNil [] := fun H Q _ q => q H [] (Same.refl _) .nil
theorem mk_cons {t : TE} {ta : TA} {d : PyData} {ds : List PyData} (h : Mk K σ H0 t d) (ha : MkA K σ H0 ta ds) : MkA K σ H0 (tCons t ta) (d :: ds) := fun H Q s q =>
  h H _ s fun H1 v s1 hv => ha H1 _ (s.trans s1) fun H2 vs s2 hs => q H2 (v :: vs) (s1.trans s2) (.cons (hv.mono s2) hs)
theorem mk_tup {ta : TA} {ds : List PyData} (hl : ds.length ≤ 1000) (ha : MkA K σ H0 ta ds) : Mk K σ H0 (tTup ta) (.tuple ds) := fun H Q s q =>
  ha H _ s fun H1 vs s1 hs => ⟨by rw [hs.len]; exact Nat.le_of_lt (small1000 hl), fun p hp => q _ _ (s1.trans (same_new hp)) (.tup (SqT.of upd_same) (hs.mono (same_new hp)))⟩
end
/-! ### what rows set -/
abbrev Set1 := Str × Option Ln
def dSt : Set1 → PyData
  | (b, none) => .tuple [.str b, .none]
  | (b, some l) => .tuple [.str b, dLn l]
structure SetsOk (ss : List Set1) : Prop where
  ok : ∀ s ∈ ss, s.1 ∈ xy ∧ ∀ l, s.2 = some l → LnOk xy 4 l ∧ l.2.length ≤ 1
  ln : ss.length ≤ 2
def dSts (ss : List Set1) : PyData := .tuple (ss.map dSt)
def spSetOf (K : PySem.W.Frag) : Sp := fun vs H Q _ => ∃ (p : Addr) (c : Bool), vs = [.ref p, .bl c] ∧ Lf H p ∧ ∀ H' v ss, Keep p H H' → Lf H' p → Tp K H' v (dSts ss) → SetsOk ss → Q v H'
theorem scSetOf : FnScope ["_law_left_here", "_law_can_read", "_law_way", "_law_step"] ["_law_left_here", "_law_can_read"] (defScope sSetOf) := ⟨rfl, rfl, rfl, by decide +kernel, rfl, by decide +kernel, by decide +kernel⟩
theorem sh11 : Sh (1, 1) := by constructor <;> decide
theorem bd11 : Bd 4 (1, 1) := by constructor <;> decide
theorem ln1 {x : Int × Int} {b : Str} (hb : b ∈ xy) (s : Sh x) (h : Bd 4 x) : LnOk xy 4 (x, [(b, (1, 1))]) ∧ ([(b, (1, 1))] : List (Str × (Int × Int))).length ≤ 1 :=
  ⟨⟨s, h, fun z hz => by rw [List.mem_singleton.mp hz]; exact ⟨hb, sh11, bd11⟩, by show 1 ≤ 2; decide⟩, Nat.le_refl _⟩
section
variable {P : Program} {w : World} {K : PySem.W.Frag} {mg : Str → Option Value} {base : Heap} {f f1 f2 : Addr} {fd d1 d2 : FuncData} {k : Nat}
theorem ok_setOf (F : Fun K "_law_set_of" "_law_set_of" sSetOf f fd) (D : Cl P w K mg base CX0 1 "_law_digit" ["_law_left_here", "_law_upto"] spDigit f1 d1) (Lw : Cl P w K mg base CX0 1 "_law_low" ["_law_top", "_law_bottom"] spRed f2 d2) :
    FnOk P w K mg base CX0 2 f fd ["_law_left_here", "_law_can_read"] (spSetOf K) := by
  refine F.ok scSetOf (fun vs H Q E h => ?_) (fun cdv A outer s H vs Q E hr h => ?_)
  · obtain ⟨p, c, rfl, _⟩ := h
    rfl
  · obtain ⟨p, c, rfl, lf, q⟩ := h
    refine ⟨_, pss_cons (ps_set (i := 2) scSetOf.nd rfl (.inl rfl) (pe_call D.ok hr (by rfl) D.g D.kp D.bd .nil pass0 (pa_cons (pv 0) (pa_cons pe_int pa_nil))))
      (pss_cons (ps_set (i := 3) scSetOf.nd rfl (.inl rfl) (pe_call Lw.ok hr (by rfl) Lw.g Lw.kp Lw.bd .nil pass0 (pa_cons (pe_op op_sub (pe_call D.ok hr (by rfl) D.g D.kp D.bd .nil pass0 (pa_cons (pv 0) (pa_cons pe_int pa_nil))) pe_int)
        (pa_cons (pe_op op_add pe_int (pe_call D.ok hr (by rfl) D.g D.kp D.bd .nil pass0 (pa_cons (pv 0) (pa_cons pe_int pa_nil)))) pa_nil))))
      (pss_cons (ps_if (pt_cmpR op_lt (pv 2) pe_int (nomark _)) (pss_one (ps_ret (pe_tup (pa_cons (pe_tup (pa_cons pe_str (pa_cons (pe_tup (pa_cons (pv 3) (pa_cons (pe_tup (pa_cons (pe_tup (pa_cons pe_str (pa_cons (pe_tup (pa_cons pe_int (pa_cons pe_int pa_nil))) pa_nil))) pa_nil)) pa_nil))) pa_nil))) pa_nil)))) pss_nil)
      (pss_cons (ps_if (pt_cmpR op_eq (pv 2) pe_int (nomark _)) (pss_one (ps_ret (pe_tup (pa_cons (pe_tup (pa_cons pe_str (pa_cons (pe_tup (pa_cons (pv 3) (pa_cons (pe_tup (pa_cons (pe_tup (pa_cons pe_str (pa_cons (pe_tup (pa_cons pe_int (pa_cons pe_int pa_nil))) pa_nil))) pa_nil)) pa_nil))) pa_nil))) pa_nil)))) pss_nil)
      (pss_cons (ps_if (pt_cmpR op_eq (pv 2) pe_int (nomark _)) (pss_one (ps_ret (pe_tup (pa_cons (pe_tup (pa_cons pe_str (pa_cons (pe_tup (pa_cons (pv 3) (pa_cons (pe_tup (pa_cons (pe_tup (pa_cons pe_str (pa_cons (pe_tup (pa_cons pe_int (pa_cons pe_int pa_nil))) pa_nil))) pa_nil)) pa_nil))) pa_nil)))
          (pa_cons (pe_tup (pa_cons pe_str (pa_cons (pe_tup (pa_cons (pe_tup (pa_cons pe_int (pa_cons pe_int pa_nil))) (pa_cons (pe_tup (pa_cons (pe_tup (pa_cons pe_str (pa_cons (pe_tup (pa_cons pe_int (pa_cons pe_int pa_nil))) pa_nil))) pa_nil)) pa_nil))) pa_nil))) pa_nil))))) pss_nil)
      (pss_cons (ps_if (PW.pt (pw_and (pt_cmpR op_eq (pv 2) pe_int (nomark _)) (pw_and1 (pt_val (pv 1))))) (pss_one (ps_ret (pe_tup (pa_cons (pe_tup (pa_cons pe_str (pa_cons pe_non pa_nil))) pa_nil)))) pss_nil)
      (pss_one (ps_ret (pe_tup pa_nil)))))))), ?_⟩
    obtain ⟨n, hn⟩ := lf
    refine ⟨_, rfl, p, n, 8, rfl, hn, by decide, log_lit (n := 10) (by decide) (by decide) (by decide), ?_⟩
    refine ⟨_, rfl, p, n / 8, 7, rfl, upd_same, by decide, log_lit (n := 10) (by decide) (by decide) (by decide), _, _, rfl, rfl, _, rfl, p, n / 8 / 7, 2, rfl, upd_same, by decide, log_lit (n := 10) (by decide) (by decide) (by decide), _, _, rfl, rfl, ?_⟩
    have a0 := Int.emod_nonneg (n / 8) (show (7 : Int) ≠ 0 by decide)
    have a7 := Int.emod_lt_of_pos (n / 8) (show (0 : Int) < 7 by decide)
    have b0 := Int.emod_nonneg (n / 8 / 7) (show (2 : Int) ≠ 0 by decide)
    have b2 := Int.emod_lt_of_pos (n / 8 / 7) (show (0 : Int) < 2 by decide)
    refine ⟨n / 8 % 7 - 3, 1 + n / 8 / 7 % 2, rfl, by omega, bd_mono (n := 3) (by omega) (by decide), fun r hr0 => ?_⟩
    have sx : Sh (lw (n / 8 % 7 - 3) (1 + n / 8 / 7 % 2)) := lw_sh (by omega)
    have bx : Bd 4 (lw (n / 8 % 7 - 3) (1 + n / 8 / 7 % 2)) := lw_bd (by omega) (bd_mono (n := 3) (by omega) (by decide)) (bd_mono (n := 3) (by omega) (by decide))
    generalize lw (n / 8 % 7 - 3) (1 + n / 8 / 7 % 2) = x at *
    have k3 : Keep p H (upd (upd (upd (upd H p (.lst [.int (n / 8)])) p (.lst [.int (n / 8 / 7)])) p (.lst [.int (n / 8 / 7 / 2)])) r (.tup (vp x))) := (keep_upd.trans (keep_upd.trans keep_upd)).trans (keep_same (same_new hr0))
    have lf3 : Lf (upd (upd (upd (upd H p (.lst [.int (n / 8)])) p (.lst [.int (n / 8 / 7)])) p (.lst [.int (n / 8 / 7 / 2)])) r (.tup (vp x))) p := lf_upd lf_draw (lf_ne lf_draw hr0)
    have hx : Tp K (upd (upd (upd (upd H p (.lst [.int (n / 8)])) p (.lst [.int (n / 8 / 7)])) p (.lst [.int (n / 8 / 7 / 2)])) r (.tup (vp x))) (.ref r) (dS x) := .tup (SqT.of upd_same) (.cons (.int _) (.cons (.int _) .nil))
    generalize upd (upd (upd (upd H p (.lst [.int (n / 8)])) p (.lst [.int (n / 8 / 7)])) p (.lst [.int (n / 8 / 7 / 2)])) r (.tup (vp x)) = H3 at *
    have xm : ("x" : Str) ∈ xy := by decide
    have ym : ("y" : Str) ∈ xy := by decide
    have fin : ∀ {σ : L2.St} {t : TE} (ss : List Set1), SetsOk ss → Mk K σ H3 t (dSts ss) → t σ H3 Q := fun ss ok mk => mk H3 Q (Same.refl _) fun H' v s hv => q H' v ss (k3.trans (keep_same s)) (by
      obtain ⟨n, h⟩ := lf3
      exact ⟨n, s _ _ h⟩) hv ok
    have one : ∀ {b : Str} {l : Ln}, b ∈ xy → LnOk xy 4 l ∧ l.2.length ≤ 1 → ∀ s : Set1, s = (b, some l) → s.1 ∈ xy ∧ ∀ l, s.2 = some l → LnOk xy 4 l ∧ l.2.length ≤ 1 := fun hb hl s e => by
      subst e
      exact ⟨hb, fun l' e => by cases e; exact hl⟩
    have m11 : ∀ {σ : L2.St}, Mk K σ H3 (tTup (tCons (tC (.int 1)) (tCons (tC (.int 1)) tNil))) (dS (1, 1)) := mk_tup (by decide) (mk_cons mk_int (mk_cons mk_int mk_nil))
    have mpt : ∀ {σ : L2.St} {b : Str}, Mk K σ H3 (tTup (tCons (tTup (tCons (tC (.str b)) (tCons (tTup (tCons (tC (.int 1)) (tCons (tC (.int 1)) tNil))) tNil))) tNil)) (.tuple [dPt (b, (1, 1))]) := mk_tup (by show 1 ≤ 1000; decide) (mk_cons (mk_tup (by show 2 ≤ 1000; decide) (mk_cons mk_str (mk_cons m11 mk_nil))) mk_nil)
    refine ⟨_, rfl, _, _, rfl, rfl, _, rfl, ite2 (fun _ => ?_) (fun _ => ?_)⟩
    · refine fin [("x", some (x, [("x", (1, 1))]))] ⟨fun s hs => one xm (ln1 xm sx bx) s (List.mem_singleton.mp hs), by show 1 ≤ 2; decide⟩ ?_
      exact mk_tup (by show 1 ≤ 1000; decide) (mk_cons (mk_tup (by show 2 ≤ 1000; decide) (mk_cons mk_str (mk_cons (mk_tup (by show 2 ≤ 1000; decide) (mk_cons (mk_var rfl hx) (mk_cons mpt mk_nil))) mk_nil))) mk_nil)
    refine ⟨_, rfl, rfl, _, rfl, ite2 (fun _ => ?_) (fun _ => ?_)⟩
    · refine fin [("y", some (x, [("y", (1, 1))]))] ⟨fun s hs => one ym (ln1 ym sx bx) s (List.mem_singleton.mp hs), by show 1 ≤ 2; decide⟩ ?_
      exact mk_tup (by show 1 ≤ 1000; decide) (mk_cons (mk_tup (by show 2 ≤ 1000; decide) (mk_cons mk_str (mk_cons (mk_tup (by show 2 ≤ 1000; decide) (mk_cons (mk_var rfl hx) (mk_cons mpt mk_nil))) mk_nil))) mk_nil)
    refine ⟨_, rfl, rfl, _, rfl, ite2 (fun _ => ?_) (fun _ => ?_)⟩
    · refine fin [("x", some (x, [("x", (1, 1))])), ("y", some ((1, 1), [("y", (1, 1))]))] ⟨fun s hs => ?_, by show 2 ≤ 2; decide⟩ ?_
      · rcases List.mem_cons.mp hs with e | hs
        · exact one xm (ln1 xm sx bx) s e
        · exact one ym (ln1 ym sh11 bd11) s (List.mem_singleton.mp hs)
      · exact mk_tup (by show 2 ≤ 1000; decide) (mk_cons (mk_tup (by show 2 ≤ 1000; decide) (mk_cons mk_str (mk_cons (mk_tup (by show 2 ≤ 1000; decide) (mk_cons (mk_var rfl hx) (mk_cons mpt mk_nil))) mk_nil)))
          (mk_cons (mk_tup (by show 2 ≤ 1000; decide) (mk_cons mk_str (mk_cons (mk_tup (by show 2 ≤ 1000; decide) (mk_cons m11 (mk_cons mpt mk_nil))) mk_nil))) mk_nil))
    have non : SetsOk [("y", none)] := ⟨fun s hs => by rw [List.mem_singleton.mp hs]; exact ⟨ym, fun l e => by cases e⟩, by show 1 ≤ 2; decide⟩
    have emp : SetsOk [] := ⟨fun s hs => absurd hs List.not_mem_nil, by show 0 ≤ 2; decide⟩
    have e0 : tTup tNil [] H3 Q := fin [] emp (mk_tup (by show 0 ≤ 1000; decide) mk_nil)
    refine ⟨_, rfl, rfl, _, rfl, ite2 (fun _ => ?_) (fun _ => e0)⟩
    refine ⟨_, rfl, _, rfl, ite2 (fun _ => ?_) (fun _ => e0)⟩
    exact fin [("y", none)] non (mk_tup (by show 1 ≤ 1000; decide) (mk_cons (mk_tup (by show 2 ≤ 1000; decide) (mk_cons mk_str (mk_cons mk_non mk_nil))) mk_nil))
end
end W25

namespace W25
open PySem PySem.Spec PyProof.Rows L2 Gs
theorem sqt_upd {K : PySem.W.Frag} {H : Hp} {a e : Addr} {xs : List V} {kvs : List (Key × V)} {o : HO} (h : H e = some (.dK kvs)) (t : SqT K H a xs) : SqT K (upd H e o) a xs := by
  rcases t with (t | ⟨u, t⟩) | t
  · exact .inl (.inl (by rw [upd_ne (fun z => by rw [z, h] at t; cases t)]; exact t))
  · exact .inl (.inr ⟨u, by rw [upd_ne (fun z => by rw [z, h] at t; cases t)]; exact t⟩)
  · exact .inr t
theorem keys_put {kvs : List (Key × V)} {k : Key} {v : V} (h : k ∈ kvs.map (·.1)) : (putK kvs k v).map (·.1) = kvs.map (·.1) := by
  have ha : (kvs.any fun kv => decide (kv.1 = k)) = true := by
    obtain ⟨kv, hm, e⟩ := List.mem_map.mp h
    exact List.any_eq_true.mpr ⟨kv, hm, decide_eq_true e⟩
  unfold putK
  rw [if_pos ha, List.map_map]
  refine List.map_congr_left fun kv _ => ?_
  show (if kv.1 = k then (kv.1, v) else kv).1 = kv.1
  split <;> rfl
section
variable {K : PySem.W.Frag} {H H' : Hp}
theorem NuAt.bits {d : Addr} {m n : Nat} (h : NuAt K H d m) (l : m ≤ n) : NuAt K H d n := by
  obtain ⟨kvs, e, ks, h⟩ := h
  refine ⟨kvs, e, ks, fun z hz => ?_⟩
  obtain ⟨a, x, h1, h2, h3, h4⟩ := h z hz
  exact ⟨a, x, h1, h2, h3, h4.mono l⟩
theorem xy_key {z : Str} (hz : z ∈ xy) : (Sum.inr z : Key) ∈ [(Sum.inr ("x" : Str) : Key), Sum.inr ("y" : Str)] := by
  rcases List.mem_cons.mp hz with e | hz
  · rw [e]; exact List.mem_cons_self
  · rw [List.mem_singleton.mp hz]; exact List.mem_cons_of_mem _ List.mem_cons_self
theorem NuAt.put {d a : Addr} {m : Nat} {z : Str} {x : Int × Int} {kvs : List (Key × V)} (e : H d = some (.dK kvs)) (h : NuAt K H d m) (hz : z ∈ xy) (ha : TP K H a x) (sx : Sh x) (bx : Bd m x) : NuAt K (upd H d (.dK (putK kvs (.inr z) (.ref a)))) d m := by
  obtain ⟨kvs', e', ks, h⟩ := h
  rw [e] at e'
  cases e'
  have hk : (Sum.inr z : Key) ∈ kvs.map (·.1) := by rw [ks]; exact xy_key hz
  refine ⟨_, upd_same, by rw [keys_put hk]; exact ks, fun y hy => ?_⟩
  rw [valV_put]
  by_cases ey : (Sum.inr y : Key) = Sum.inr z
  · rw [if_pos ey]
    exact ⟨a, x, rfl, sqt_upd e ha, sx, bx⟩
  · rw [if_neg ey]
    obtain ⟨b, x', h1, h2, h3, h4⟩ := h y hy
    exact ⟨b, x', h1, sqt_upd e h2, h3, h4⟩
end
def spGone (K : PySem.W.Frag) : Sp := fun vs H Q _ => ∃ (d g : Addr) (v : V) (ss : List Set1) (y : Int × Int) (m : Nat), vs = [.ref d, v, .ref g] ∧ NuAt K H d m ∧ Tp K H v (dSts ss) ∧ SetsOk ss ∧ TP K H g y ∧ Sh y ∧ Bd (m + 9) y ∧ m ≤ 290 ∧
  ∀ H' e, Same H H' → H e = none → NuAt K H' e (m + 9) → Q (.ref e) H'
theorem scGone : FnScope ["_law_numbers", "_law_sets", "_law_given", "_law_found", "_law_box", "_law_line_here"] ["_law_numbers", "_law_sets", "_law_given"] (defScope sGone) := ⟨rfl, rfl, rfl, by decide +kernel, rfl, by decide +kernel, by decide +kernel⟩
section
variable {P : Program} {w : World} {K : PySem.W.Frag} {mg : Str → Option Value} {base : Heap} {f f1 f2 : Addr} {fd d1 d2 : FuncData} {k : Nat}
theorem ok_gone (F : Fun K "_law_gone" "_law_gone" sGone f fd) (Wo : Cl P w K mg base CX0 3 "_law_worth" ["_law_line_here", "_law_numbers"] (spWorth K) f1 d1) (md : mg "dict" = none) :
    FnOk P w K mg base CX0 4 f fd ["_law_numbers", "_law_sets", "_law_given"] (spGone K) := by
  refine F.ok scGone (fun vs H Q E h => ?_) (fun cdv A outer s H vs Q E hr h => ?_)
  · obtain ⟨d, g, v, ss, y, m, rfl, _⟩ := h
    rfl
  · obtain ⟨d, g, v, ss, y, m, rfl, nu, hv, ok, hg, sy, by_, hm, q⟩ := h
    refine ⟨_, pss_cons (ps_set (i := 3) scGone.nd rfl (.inl rfl) (pe_callTy call_dictD (by rfl) md (by decide +kernel) (pa_cons (pv 0) pa_nil)))
      (pss_cons (ps_for PassesOwn.never rfl (pi_tup (pv 1)) (pg_tup (by rfl) (pgs_cons (pg_name (i := 4) scGone.nd rfl (.inl rfl)) (pgs_cons (pg_name (i := 5) scGone.nd rfl (.inl rfl)) pgs_nil)))
        (pss_one (ps_dput (u1 hr) (pv 3) (pv 4) (pe_ifExp (pt_cmpR op_isN (pv 5) pe_non (by rfl)) (pv 2) (pe_call Wo.ok hr (by rfl) Wo.g Wo.kp Wo.bd .nil pass0 (pa_cons (pv 5) (pa_cons (pv 0) pa_nil)))) (by rfl))))
      (pss_one (ps_ret (pv 3)))), ?_⟩
    have nu0 := nu
    obtain ⟨kvs0, e0, ks0, _⟩ := nu0
    refine ⟨_, rfl, d, kvs0, rfl, .inl e0, fun e he => ?_⟩
    have s1 : Same H (upd H e (.dK kvs0)) := same_new he
    have nu1 : NuAt K (upd H e (.dK kvs0)) e (m + 9) := by
      obtain ⟨kvs, e', ks, h⟩ := nu.bits (n := m + 9) (by omega)
      rw [e0] at e'
      cases e'
      refine ⟨_, upd_same, ks, fun z hz => ?_⟩
      obtain ⟨a, x, h1, h2, h3⟩ := h z hz
      exact ⟨a, x, h1, same_tup s1 h2, h3⟩
    generalize upd H e (.dK kvs0) = H1 at *
    cases hv with
    | @tup a xs _ ha al =>
      refine ⟨_, rfl, a, rfl, ⟨_, same_tup s1 ha⟩, ?_⟩
      have xl : xs.length = ss.length := by rw [al.len, List.length_map]
      refine for_tup (K := K) (xs := xs) (fun i σ H' => Same H H' ∧ NuAt K H' e (m + 9) ∧ ∃ y4 y5, σ = [some (.ref d), some (.ref a), some (.ref g), some (.ref e), y4, y5])
        ⟨s1, nu1, none, none, rfl⟩ (fun i σ H' _ hp => same_tup hp.1 ha) (fun i x σ H2 hx hp => ?_) (fun σ H2 hp => ?_)
      · obtain ⟨sm, nu2, y4, y5, rfl⟩ := hp
        obtain ⟨dd, hd, hh⟩ := al.get hx
        rw [List.getElem?_map] at hd
        cases hz : ss[i]? with
        | none => rw [hz] at hd; cases hd
        | some st =>
          rw [hz] at hd
          cases hd
          obtain ⟨hin, hl⟩ := ok.ok st (List.mem_of_getElem? hz)
          have put : ∀ (H3 : Hp) (r : Addr) (x : Int × Int), Same H2 H3 → TP K H3 r x → Sh x → Bd (m + 9) x → ∃ a' H4, V.ref e = V.ref a' ∧ DPut H3 a' (.str st.1) (.ref r) H4 ∧ Same H H4 ∧ NuAt K H4 e (m + 9) := fun H3 r x m3 hr3 sx bx => by
            have nu3 := nu2.mono m3
            have nu4 := nu3
            obtain ⟨kvs, e3, ks, _⟩ := nu4
            refine ⟨e, _, rfl, DPut.k (k := .inr st.1) e3 ?_, fun b o eb => ?_, nu3.put e3 hin hr3 sx bx⟩
            · have : kvs.length = 2 := by
                have := congrArg List.length ks
                rw [List.length_map] at this
                exact this
              rw [this]
              decide
            · rw [upd_ne (ne_of_none eb he)]
              exact m3 _ _ (sm b o eb)
          obtain ⟨b, ol⟩ := st
          cases ol with
          | none =>
            obtain ⟨c, v1, v2, rfl, hc, h1, h2⟩ := tp_two hh
            obtain rfl := tp_str h1
            cases h2
            refine ⟨c, _, rfl, same_tup sm hc, rfl, _, _, rfl, _, _, rfl, rfl, ?_⟩
            refine ⟨_, rfl, rfl, _, rfl, ?_⟩
            refine iteT ⟨_, rfl, _, rfl, _, rfl, ?_⟩
            obtain ⟨a', H4, e1, dp, s4, nu4⟩ := put H2 g y (Same.refl _) (same_tup sm hg) sy by_
            exact ⟨a', H4, e1, dp, s4, nu4, _, _, rfl⟩
          | some l =>
            obtain ⟨c, v1, v2, rfl, hc, h1, h2⟩ := tp_two hh
            obtain rfl := tp_str h1
            obtain ⟨lok, l1⟩ := hl l rfl
            obtain ⟨la, _, _, _, rfl, _⟩ := tp_line h2
            refine ⟨c, _, rfl, same_tup sm hc, rfl, _, _, rfl, _, _, rfl, rfl, ?_⟩
            refine ⟨_, rfl, rfl, _, rfl, ?_⟩
            refine iteF ⟨_, rfl, _, rfl, _, d, l, 4, m, rfl, h2.mono sm, lok, nu.mono sm, by omega, fun H3 r x m3 hr3 sx bx => ⟨_, rfl, _, rfl, ?_⟩⟩
            have hle : l.2.length * (4 + m + 1) ≤ 1 * (4 + m + 1) := Nat.mul_le_mul_right _ l1
            obtain ⟨a', H4, e1, dp, s4, nu4⟩ := put H3 r x m3 hr3 sx (bx.mono (by omega))
            exact ⟨a', H4, e1, dp, s4, nu4, _, _, rfl⟩
      · obtain ⟨sm, nu2, y4, y5, rfl⟩ := hp
        exact ⟨_, rfl, q _ e sm he nu2⟩
end
end W25

namespace W25
open PySem PySem.Spec PyProof.Rows L2 Gs
/-- each is what a row sets -/
def SetsAll (K : PySem.W.Frag) (H : Hp) (xs : List V) : Prop := ∀ x ∈ xs, ∃ ss, Tp K H x (dSts ss) ∧ SetsOk ss
theorem SetsAll.mono {K : PySem.W.Frag} {H H' : Hp} {xs : List V} (s : Same H H') (h : SetsAll K H xs) : SetsAll K H' xs := fun x hx => by
  obtain ⟨ss, h1, h2⟩ := h x hx
  exact ⟨ss, h1.mono s, h2⟩
def spAlong (K : PySem.W.Frag) : Sp := fun vs H Q _ => ∃ (d R g : Addr) (xs : List V) (y : Int × Int) (m : Nat), vs = [.ref d, .ref R, .ref g] ∧ NuAt K H d m ∧ H R = some (.lst xs) ∧ SetsAll K H xs ∧ xs.length ≤ 6 ∧ TP K H g y ∧ Sh y ∧ Bd (m + 9) y ∧ m ≤ 200 ∧
  ∀ H' L (ds : List Addr), Same H H' → H' L = some (.lst (ds.map V.ref)) → (∀ e ∈ ds, NuAt K H' e (m + 54)) → ds.length = xs.length + 1 → Q (.ref L) H'
theorem scAlong : FnScope ["_law_numbers", "_law_rows", "_law_given", "_law_found", "_law_sets"] ["_law_numbers", "_law_rows", "_law_given"] (defScope sAlong) := ⟨rfl, rfl, rfl, by decide +kernel, rfl, by decide +kernel, by decide +kernel⟩
section
variable {P : Program} {w : World} {K : PySem.W.Frag} {mg : Str → Option Value} {base : Heap} {f f1 f2 : Addr} {fd d1 d2 : FuncData} {k : Nat}
theorem nu_upd {H : Hp} {d L : Addr} {m : Nat} {acc : List V} {o : HO} (e : H L = some (.lst acc)) (h : NuAt K H d m) : NuAt K (upd H L o) d m := by
  obtain ⟨kvs, e1, ks, h⟩ := h
  refine ⟨kvs, by rw [upd_ne (fun z => by rw [z, e] at e1; cases e1)]; exact e1, ks, fun z hz => ?_⟩
  obtain ⟨a, x, h1, h2, h3⟩ := h z hz
  refine ⟨a, x, h1, ?_, h3⟩
  rcases h2 with (t | ⟨u, t⟩) | t
  · exact .inl (.inl (by rw [upd_ne (fun z => by rw [z, e] at t; cases t)]; exact t))
  · exact .inl (.inr ⟨u, by rw [upd_ne (fun z => by rw [z, e] at t; cases t)]; exact t⟩)
  · exact .inr t
theorem ok_along (F : Fun K "_law_along" "_law_along" sAlong f fd) (G : Cl P w K mg base CX0 4 "_law_gone" ["_law_numbers", "_law_sets", "_law_given"] (spGone K) f1 d1) :
    FnOk P w K mg base CX0 5 f fd ["_law_numbers", "_law_rows", "_law_given"] (spAlong K) := by
  refine F.ok scAlong (fun vs H Q E h => ?_) (fun cdv A outer s H vs Q E hr h => ?_)
  · obtain ⟨d, R, g, xs, y, m, rfl, _⟩ := h
    rfl
  · obtain ⟨d, R, g, xs, y, m, rfl, nu, hR, sa, xl, hg, sy, by_, hm, q⟩ := h
    refine ⟨_, pss_cons (ps_set (i := 3) scAlong.nd rfl (.inl rfl) (pe_lst pa_nil))
      (pss_cons (ps_for PassesOwn.never rfl (pi_list (pv 1)) (pg_name (i := 4) scAlong.nd rfl (Or.inl rfl))
        (pss_cons (ps_expr (pe_bm PySem.F.plainAttrs_list PySem.F.slot_list_append PySem.F.type_list_append mt_append (pv 3) (pa_cons (pv 0) pa_nil)))
        (pss_one (ps_set (i := 0) scAlong.nd rfl (.inl rfl) (pe_call G.ok hr (by rfl) G.g G.kp G.bd .nil pass0 (pa_cons (pv 0) (pa_cons (pv 4) (pa_cons (pv 2) pa_nil))))))))
      (pss_one (ps_ret (pe_op op_cat (pv 3) (pe_lst (pa_cons (pv 0) pa_nil)))))), ?_⟩
    refine ⟨by show 0 ≤ sizeLine; decide, fun L hL => ?_⟩
    refine ⟨_, rfl, R, rfl, ⟨_, SqL.of (same_new hL _ _ hR)⟩, ?_⟩
    refine for_list (K := K) (xs := xs) (fun i σ H' => Same H H' ∧ ∃ (ds : List Addr) (e : Addr) (y4 : Option V), σ = [some (.ref e), some (.ref R), some (.ref g), some (.ref L), y4] ∧ H' L = some (.lst (ds.map V.ref)) ∧ (∀ c ∈ ds, NuAt K H' c (m + 54)) ∧ ds.length = i ∧ NuAt K H' e (m + 9 * i))
      ⟨same_new hL, [], d, none, rfl, upd_same, fun _ h => absurd h List.not_mem_nil, rfl, nu.mono (same_new hL)⟩ (fun i σ H' _ hp => SqL.of (hp.1 _ _ hR)) (fun i x σ H1 hx hp => ?_) (fun σ H1 hp => ?_)
    · obtain ⟨sm, ds, e, y4, rfl, e1, al, dl, nue⟩ := hp
      have il : i < xs.length := (List.getElem?_eq_some_iff.mp hx).1
      obtain ⟨ss, hs, ok⟩ := sa x (List.mem_of_getElem? hx)
      refine ⟨_, rfl, .inl ⟨rfl, _, SqL.of e1⟩, _, rfl, L, _, _, rfl, rfl, e1, ?_, ?_⟩
      · rw [List.length_map]
        exact small1000 (by omega)
      have s2 : Same H (upd H1 L (.lst (ds.map V.ref ++ [.ref e]))) := fun b o eb => by
        rw [upd_ne (ne_of_none eb hL)]
        exact sm b o eb
      have e2 : upd H1 L (.lst (ds.map V.ref ++ [.ref e])) L = some (.lst ((ds ++ [e]).map V.ref)) := by
        rw [upd_same, List.map_append]
        rfl
      have al2 : ∀ c ∈ ds ++ [e], NuAt K (upd H1 L (.lst (ds.map V.ref ++ [.ref e]))) c (m + 54) := fun c hc => by
        rcases List.mem_append.mp hc with h | h
        · exact nu_upd e1 (al c h)
        · rw [List.mem_singleton.mp h]
          exact nu_upd e1 (nue.bits (by omega))
      have nu2 : NuAt K (upd H1 L (.lst (ds.map V.ref ++ [.ref e]))) e (m + 9 * i) := nu_upd e1 nue
      generalize upd H1 L (.lst (ds.map V.ref ++ [.ref e])) = H2 at *
      refine ⟨_, rfl, _, rfl, _, rfl, e, g, x, ss, y, m + 9 * i, rfl, nu2, hs.mono s2, ok, same_tup s2 hg, sy, by_.mono (by omega), by omega, fun H3 e' m3 _ nu3 => ?_⟩
      refine ⟨s2.trans m3, ds ++ [e], e', _, rfl, m3 _ _ e2, fun c hc => (al2 c hc).mono m3, ?_, nu3.bits (by omega)⟩
      rw [List.length_append, dl]
      rfl
    · obtain ⟨sm, ds, e, y4, rfl, e1, al, dl, nue⟩ := hp
      refine ⟨_, rfl, _, rfl, by show 1 ≤ sizeLine; decide, fun l1 h1 => ?_⟩
      have s1 := same_new (o := .lst [V.ref e]) h1
      refine ⟨L, l1, _, _, rfl, rfl, s1 _ _ e1, upd_same, ?_, fun l2 h2 => ?_⟩
      · rw [List.length_map, dl]
        show xs.length + 1 ≤ sizeLine
        rw [sizeLine_eq]
        omega
      · have s2 := s1.trans (same_new (o := .lst (ds.map V.ref ++ [V.ref e])) h2)
        refine q _ l2 (ds ++ [e]) (sm.trans s2) (by rw [upd_same, List.map_append]; rfl) (fun c hc => ?_) (by rw [List.length_append, dl]; rfl)
        rcases List.mem_append.mp hc with h | h
        · exact (al c h).mono s2
        · rw [List.mem_singleton.mp h]
          exact (nue.bits (by omega)).mono s2
end
end W25

namespace Gs
open PySem PySem.Spec PyProof.Rows L2
/-! a statement whose ways join: what holds behind it is told once, and the rest is read once -/
def tJoin (t u : TS) : TS := fun D σ H => ∃ I : L2.St → Hp → Prop, t { D with nx := I } σ H ∧ ∀ σ' H', I σ' H' → u D σ' H'
theorem pss_join {X : Cx} {st : Stmt} {rest : List Stmt} {t u : TS} (h1 : PS X st t) (h2 : PSs X rest u) : PSs X (st :: rest) (tJoin t u) := by
  refine ⟨fun pins s σ H D Iv h => ?_⟩
  obtain ⟨I, ht, hu⟩ := h
  refine wpAny_execs_cons (thn (h1.run pins s σ H { D with nx := I } Iv ht) fun f s1 q => ?_)
  cases f with
  | next =>
    obtain ⟨σ', H', I', q⟩ := q
    exact h2.run pins s1 σ' H' D I' (hu σ' H' q)
  | ret v => exact q
  | brk => exact q
  | cont => exact q
end Gs

namespace W25
open PySem PySem.Spec PyProof.Rows L2 Gs
def spWishes (K : PySem.W.Frag) : Sp := fun vs H Q _ => ∃ (p d e : Addr) (m : Nat), vs = [.ref p, .ref d, .ref e] ∧ Lf H p ∧ NuAt K H d m ∧ NuAt K H e m ∧ m ≤ 200 ∧
  ∀ H' v ws, Keep p H H' → Lf H' p → Tp K H' v (.tuple ws) → Q v H'
abbrev NW : List Str := ["_law_left_here", "_law_here", "_law_later", "_law_found", "_law_turn", "_law_line_here", "_law_more", "_law_extra", "_law_word", "_law_by"]
theorem scWishes : FnScope NW ["_law_left_here", "_law_here", "_law_later"] (defScope sWishesFor) := ⟨rfl, rfl, rfl, by decide +kernel, rfl, by decide +kernel, by decide +kernel⟩
theorem NuAt.keep {K : PySem.W.Frag} {H H' : Hp} {p d : Addr} {m : Nat} (k : Keep p H H') (hp : Lf H p) (h : NuAt K H d m) : NuAt K H' d m := by
  have hp' := hp
  obtain ⟨n, hp'⟩ := hp'
  obtain ⟨kvs, e, ks, h⟩ := h
  refine ⟨kvs, k _ _ (fun z => by rw [z, hp'] at e; cases e) e, ks, fun z hz => ?_⟩
  obtain ⟨a, x, h1, h2, h3⟩ := h z hz
  exact ⟨a, x, h1, keepT k hp h2, h3⟩
/-- p is a list -/
def Ls (H : Hp) (p : Addr) : Prop := ∃ xs : List V, H p = some (.lst xs)
theorem keepTL {K : PySem.W.Frag} {H H' : Hp} {p a : Addr} {xs : List V} (k : Keep p H H') (hp : Ls H p) (h : SqT K H a xs) : SqT K H' a xs := by
  obtain ⟨n, hp⟩ := hp
  rcases h with (h | ⟨o, h⟩) | h
  · exact .inl (.inl (k _ _ (fun e => by rw [e, hp] at h; cases h) h))
  · exact .inl (.inr ⟨o, k _ _ (fun e => by rw [e, hp] at h; cases h) h⟩)
  · exact .inr h
mutual
theorem Tp.keepL {K : PySem.W.Frag} {H H' : Hp} {p : Addr} (k : Keep p H H') (hp : Ls H p) : ∀ {v : V} {d : PyData}, Tp K H v d → Tp K H' v d
  | _, _, .non => .non
  | _, _, .bl b => .bl b
  | _, _, .int i => .int i
  | _, _, .str x => .str x
  | _, _, .tup h r => .tup (keepTL k hp h) (TpAll.keepL k hp r)
theorem TpAll.keepL {K : PySem.W.Frag} {H H' : Hp} {p : Addr} (k : Keep p H H') (hp : Ls H p) : ∀ {vs : List V} {ds : List PyData}, TpAll K H vs ds → TpAll K H' vs ds
  | _, _, .nil => .nil
  | _, _, .cons h r => .cons (Tp.keepL k hp h) (TpAll.keepL k hp r)
end
theorem TpAll.app {K : PySem.W.Frag} {H : Hp} : ∀ {vs ws : List V} {ds es : List PyData}, TpAll K H vs ds → TpAll K H ws es → TpAll K H (vs ++ ws) (ds ++ es)
  | _, _, _, _, .nil, h => h
  | _, _, _, _, .cons h r, h2 => .cons h (r.app h2)
theorem LnOk.mono {zs : List Str} {n m : Nat} {l : Ln} (h : LnOk zs n l) (e : n ≤ m) : LnOk zs m l := ⟨h.s0, h.b0.mono e, fun z hz => ⟨(h.ps z hz).1, (h.ps z hz).2.1, (h.ps z hz).2.2.mono e⟩, h.ln⟩
section
variable {P : Program} {w : World} {K : PySem.W.Frag} {mg : Str → Option Value} {base : Heap} {f f1 f2 f3 f4 f5 f6 f7 f8 : Addr} {fd d1 d2 d3 d4 d5 d6 d7 d8 : FuncData} {k : Nat}
theorem ok_wishesFor (F : Fun K "_law_wishes_for" "_law_wishes_for" sWishesFor f fd) (D : Cl P w K mg base CX0 1 "_law_digit" ["_law_left_here", "_law_upto"] spDigit f1 d1) (Lw : Cl P w K mg base CX0 1 "_law_low" ["_law_top", "_law_bottom"] spRed f2 d2)
    (Pl : Cl P w K mg base CX0 2 "_law_plus" ["_law_one", "_law_other"] (spTwo K pl) f3 d3) (Tm : Cl P w K mg base CX0 2 "_law_times" ["_law_one", "_law_other"] (spTwo K tm) f4 d4)
    (Li : Cl P w K mg base CX0 3 "_law_line" ["_law_left_here", "_law_names"] (spLine K) f5 d5) (Wo : Cl P w K mg base CX0 3 "_law_worth" ["_law_line_here", "_law_numbers"] (spWorth K) f6 d6)
    (Sc : Cl P w K mg base CX0 3 "_law_scaled_line" ["_law_line_here", "_law_by"] (spLnS K) f7 d7) (Mo : Cl P w K mg base CX0 3 "_law_moved" ["_law_line_here", "_law_much"] (spLnS K) f8 d8)
    (mt : mg "tuple" = none) (mr : mg "range" = none) : FnOk P w K mg base CX0 4 f fd ["_law_left_here", "_law_here", "_law_later"] (spWishes K) := by
  refine F.ok scWishes (fun vs H Q E h => ?_) (fun cdv A outer s H vs Q E hr h => ?_)
  · obtain ⟨p, d, e, m, rfl, _⟩ := h
    rfl
  · obtain ⟨p, d, e, m, rfl, lf, nud, nue, hm, q⟩ := h
    have r1 := hr.mono (j := 1) (by decide)
    have r2 := hr.mono (j := 2) (by decide)
    refine ⟨_, pss_cons (ps_set (i := 3) scWishes.nd rfl (.inl rfl) (pe_lst pa_nil))
      (pss_cons (ps_for PassesOwn.never rfl (pi_range1 (by rfl) mr (pa_cons (pe_call D.ok r1 (by rfl) D.g D.kp D.bd .nil pass0 (pa_cons (pv 0) (pa_cons pe_int pa_nil))) pa_nil)) (pg_name (i := 4) scWishes.nd rfl (Or.inl rfl))
        (pss_cons (ps_set (i := 5) scWishes.nd rfl (.inl rfl) (pe_call Li.ok hr (by rfl) Li.g Li.kp Li.bd .nil pass0 (pa_cons (pv 0) (pa_cons (pe_lst (pa_cons pe_str (pa_cons pe_str pa_nil))) pa_nil))))
        (pss_cons (ps_set (i := 6) scWishes.nd rfl (.inl rfl) (pe_call Pl.ok r2 (by rfl) Pl.g Pl.kp Pl.bd .nil pass0 (pa_cons (pe_call Wo.ok hr (by rfl) Wo.g Wo.kp Wo.bd .nil pass0 (pa_cons (pv 5) (pa_cons (pv 2) pa_nil)))
          (pa_cons (pe_call Tm.ok r2 (by rfl) Tm.g Tm.kp Tm.bd .nil pass0 (pa_cons (pe_tup (pa_cons (pe_un un_neg pe_int) (pa_cons pe_int pa_nil))) (pa_cons (pe_call Wo.ok hr (by rfl) Wo.g Wo.kp Wo.bd .nil pass0 (pa_cons (pv 5) (pa_cons (pv 1) pa_nil))) pa_nil))) pa_nil))))
        (pss_join (ps_if (pt_cmpR op_lt (pe_ix ix_tup (pv 6) pe_int (fun _ _ => rfl)) pe_int (nomark _)) (pss_one (ps_set (i := 5) scWishes.nd rfl (.inl rfl) (pe_call Sc.ok hr (by rfl) Sc.g Sc.kp Sc.bd .nil pass0 (pa_cons (pv 5) (pa_cons (pe_tup (pa_cons (pe_un un_neg pe_int) (pa_cons pe_int pa_nil))) pa_nil))))) pss_nil)
        (pss_cons (ps_set (i := 7) scWishes.nd rfl (.inl rfl) (pe_call Lw.ok r1 (by rfl) Lw.g Lw.kp Lw.bd .nil pass0 (pa_cons (pe_call D.ok r1 (by rfl) D.g D.kp D.bd .nil pass0 (pa_cons (pv 0) (pa_cons pe_int pa_nil))) (pa_cons pe_int pa_nil))))
        (pss_cons (ps_set (i := 8) scWishes.nd rfl (.inl rfl) (pe_ix ix_list (pe_lst (pa_cons pe_str (pa_cons pe_str (pa_cons pe_str pa_nil)))) (pe_call D.ok r1 (by rfl) D.g D.kp D.bd .nil pass0 (pa_cons (pv 0) (pa_cons pe_int pa_nil))) (fun _ _ => rfl)))
        (pss_join (ps_if (PW.pt (pw_and (pt_cmpR op_eq (pv 8) pe_str (nomark _)) (pw_and1 (pt_cmpR op_eq (pe_ix ix_tup (pv 7) pe_int (fun _ _ => rfl)) pe_int (nomark _))))) (pss_one (ps_set (i := 7) scWishes.nd rfl (.inl rfl) (pe_tup (pa_cons pe_int (pa_cons pe_int pa_nil))))) pss_nil)
        (pss_join (ps_if (PW.pt (pw_and (pt_cmpR op_eq (pe_ix ix_tup (pv 6) pe_int (fun _ _ => rfl)) pe_int (nomark _)) (pw_and1 (pt_cmpR op_eq (pe_call D.ok r1 (by rfl) D.g D.kp D.bd .nil pass0 (pa_cons (pv 0) (pa_cons pe_int pa_nil))) pe_int (nomark _)))))
          (pss_one (ps_asg (pe_tup (pa_cons pe_str (pa_cons (pe_tup (pa_cons pe_int (pa_cons pe_int pa_nil))) pa_nil))) (pg_tup (by rfl) (pgs_cons (pg_name (i := 8) scWishes.nd rfl (.inl rfl)) (pgs_cons (pg_name (i := 7) scWishes.nd rfl (.inl rfl)) pgs_nil))))) pss_nil)
        (pss_cons (ps_set (i := 9) scWishes.nd rfl (.inl rfl) (pe_call Wo.ok hr (by rfl) Wo.g Wo.kp Wo.bd .nil pass0 (pa_cons (pv 5) (pa_cons (pv 1) pa_nil))))
        (pss_one (ps_expr (pe_bm PySem.F.plainAttrs_list PySem.F.slot_list_append PySem.F.type_list_append mt_append (pv 3) (pa_cons (pe_tup (pa_cons (pv 8) (pa_cons (pe_call Mo.ok hr (by rfl) Mo.g Mo.kp Mo.bd .nil pass0 (pa_cons (pv 5)
          (pa_cons (pe_call Pl.ok r2 (by rfl) Pl.g Pl.kp Pl.bd .nil pass0 (pa_cons (pv 7) (pa_cons (pe_tup (pa_cons (pe_op op_sub pe_int (pe_ix ix_tup (pv 9) pe_int (fun _ _ => rfl))) (pa_cons (pe_ix ix_tup (pv 9) pe_int (fun _ _ => rfl)) pa_nil))) pa_nil))) pa_nil))) pa_nil))) pa_nil)))))))))))))
      (pss_one (ps_ret (pe_callTy call_tuple_of (by rfl) mt (by decide +kernel) (pa_cons (pv 3) pa_nil))))), ?_⟩
    refine ⟨by show 0 ≤ sizeLine; decide, fun L hL => ?_⟩
    have pL : p ≠ L := lf_ne lf hL
    obtain ⟨n0, hn0⟩ := lf
    refine ⟨_, rfl, p, n0, 3, rfl, by rw [upd_ne pL]; exact hn0, by decide, log_lit (n := 10) (by decide) (by decide) (by decide), ?_⟩
    have m0 := Int.emod_nonneg n0 (show (3 : Int) ≠ 0 by decide)
    have m3 := Int.emod_lt_of_pos n0 (show (0 : Int) < 3 by decide)
    refine ⟨n0 % 3, rfl, by omega, by omega, ?_⟩
    have kL : Keep p H (upd (upd H L (.lst [])) p (.lst [.int (n0 / 3)])) := (keep_same (same_new hL)).trans keep_upd
    refine for_range (n := (n0 % 3).toNat) (fun i σ H' => ∃ us ds x4 x5 x6 x7 x8 x9, σ = [some (.ref p), some (.ref d), some (.ref e), some (.ref L), x4, x5, x6, x7, x8, x9] ∧ Keep p H H' ∧ Lf H' p ∧ H' L = some (.lst us) ∧ TpAll K H' us ds ∧ us.length ≤ i ∧ i ≤ 2)
      ⟨[], [], _, _, _, _, _, _, rfl, kL, lf_draw, by rw [upd_ne (fun z => pL z.symm)]; exact upd_same, .nil, Nat.le_refl _, by decide⟩ (fun i σ H1 hi hp => ?_) (fun σ H1 hp => ?_)
    · obtain ⟨us, ds, x4, x5, x6, x7, x8, x9, rfl, k1, lf1, e1, tu, ul, il⟩ := hp
      have nud1 := nud.keep k1 ⟨n0, hn0⟩
      have nue1 := nue.keep k1 ⟨n0, hn0⟩
      -- the line
      refine ⟨_, rfl, by show 2 ≤ sizeLine; decide, fun L1 hL1 => ?_⟩
      have lfL := lf_upd (o := .lst [.str "x", .str "y"]) lf1 (lf_ne lf1 hL1)
      refine ⟨p, L1, xy, rfl, lfL, upd_same, by decide, by decide, fun H2 v l k2 lf2 tv lo => ?_⟩
      have k12 : Keep p H1 H2 := (keep_same (same_new hL1)).trans k2
      have nud2 := nud1.keep k12 lf1
      have nue2 := nue1.keep k12 lf1
      have ll : l.2.length ≤ 2 := lo.ln
      have bb : ∀ {n : Nat}, n ≤ 6 → n + l.2.length * (n + m + 1) ≤ 450 := fun {n} hn => by
        have : l.2.length * (n + m + 1) ≤ 2 * (n + m + 1) := Nat.mul_le_mul_right _ ll
        omega
      -- more
      refine ⟨_, rfl, _, rfl, v, e, l, 4, m, rfl, tv, lo, nue2, by omega, fun H3 r1' x1 s3 t1 sh1 b1 => ?_⟩
      refine ⟨_, rfl, by show 2 ≤ sizeLine; decide, fun tn htn => ?_⟩
      have s4 := same_new (o := .tup [.int (-1), .int 1]) htn
      refine ⟨_, rfl, _, rfl, v, d, l, 4, m, rfl, tv.mono (s3.trans s4), lo, nud2.mono (s3.trans s4), by omega, fun H5 r2' x2 s5 t2 sh2 b2 => ?_⟩
      have tneg : TP K H5 tn (-1, 1) := SqT.of (s5 _ _ upd_same)
      have shn : Sh (-1, 1) := by constructor <;> decide
      have bdn : Bd 1 (-1, 1) := by constructor <;> decide
      refine ⟨tn, r2', (-1, 1), x2, rfl, tneg, t2, shn, sh2, bdn.mono (by decide), b2.mono (Nat.le_trans (bb (by decide)) (by decide)), fun H6 r3' s6 _ e3 => ?_⟩
      have sh3 := tm_sh shn sh2
      have b3 := tm_bd shn sh2 bdn b2
      refine ⟨r1', r3', x1, tm (-1, 1) x2, rfl, same_tup (s4.trans (s5.trans s6)) t1, SqT.of e3, sh1, sh3, b1.mono (Nat.le_trans (bb (by decide)) (by decide)), b3.mono (by have := bb (n := 4) (by decide); omega), fun H7 r6 s7 _ e6 => ?_⟩
      have s27 := s3.trans (s4.trans (s5.trans (s6.trans s7)))
      generalize pl x1 (tm (-1, 1) x2) = xm at *
      have k17 : Keep p H1 H7 := k12.trans (keep_same s27)
      have lf7 : Lf H7 p := by
        obtain ⟨n, h⟩ := lf2
        exact ⟨n, s27 _ _ h⟩
      have tv7 := tv.mono s27
      -- turned
      refine ⟨fun σ H' => ∃ v5 l5, σ = [some (.ref p), some (.ref d), some (.ref e), some (.ref L), some (.int (0 + i)), some v5, some (.ref r6), x7, x8, x9] ∧ Keep p H1 H' ∧ Lf H' p ∧ Tp K H' v5 (dLn l5) ∧ LnOk xy 6 l5 ∧ TP K H' r6 xm, ?_, fun σ H8 hI => ?_⟩
      · refine ⟨_, rfl, r6, _, 0, _, rfl, rfl, SqT.of e6, at0, _, _, rfl, rfl, _, rfl, ite2 (fun _ => ?_) (fun _ => ?_)⟩
        · refine ⟨_, rfl, _, rfl, by show 2 ≤ sizeLine; decide, fun tn2 htn2 => ?_⟩
          have s8 := same_new (o := .tup [.int (-1), .int 1]) htn2
          refine ⟨v, tn2, l, (-1, 1), 4, 1, rfl, tv7.mono s8, lo, SqT.of upd_same, shn, bdn, by decide, by decide, fun H9 v' l' s9 tv' lo' _ => ?_⟩
          have s79 := s8.trans s9
          refine ⟨v', l', rfl, k17.trans (keep_same s79), ?_, tv', lo', SqT.of (s79 _ _ e6)⟩
          obtain ⟨n, h⟩ := lf7
          exact ⟨n, s79 _ _ h⟩
        · exact ⟨v, l, rfl, k17, lf7, tv7, lo.mono (by decide), SqT.of e6⟩
      · obtain ⟨v5, l5, rfl, k8, lf8, tv8, lo8, t68⟩ := hI
        obtain ⟨n8, hn8⟩ := lf8
        -- extra
        refine ⟨_, rfl, p, n8, 3, rfl, hn8, by decide, log_lit (n := 10) (by decide) (by decide) (by decide), ?_⟩
        have q0 := Int.emod_nonneg n8 (show (3 : Int) ≠ 0 by decide)
        have q3 := Int.emod_lt_of_pos n8 (show (0 : Int) < 3 by decide)
        refine ⟨n8 % 3, 1, rfl, by decide, bd_mono (n := 3) (by decide) (by decide), fun r7 hr7 => ?_⟩
        have shx : Sh (lw (n8 % 3) 1) := lw_sh (by decide)
        have bdx : Bd 4 (lw (n8 % 3) 1) := lw_bd (by decide) (bd_mono (n := 3) (by omega) (by decide)) (bd_mono (n := 3) (by decide) (by decide))
        generalize lw (n8 % 3) 1 = xe at *
        have k9 : Keep p H1 (upd (upd H8 p (.lst [.int (n8 / 3)])) r7 (.tup (vp xe))) := k8.trans (keep_upd.trans (keep_same (same_new hr7)))
        have kk9 : Keep p H8 (upd (upd H8 p (.lst [.int (n8 / 3)])) r7 (.tup (vp xe))) := keep_upd.trans (keep_same (same_new hr7))
        have lf9 : Lf (upd (upd H8 p (.lst [.int (n8 / 3)])) r7 (.tup (vp xe))) p := lf_upd lf_draw (lf_ne lf_draw hr7)
        have t79 : TP K (upd (upd H8 p (.lst [.int (n8 / 3)])) r7 (.tup (vp xe))) r7 xe := SqT.of upd_same
        have tv9 := tv8.keep kk9 ⟨n8, hn8⟩
        have t69 : TP K _ r6 xm := keepT kk9 ⟨n8, hn8⟩ t68
        generalize upd (upd H8 p (.lst [.int (n8 / 3)])) r7 (.tup (vp xe)) = H9 at *
        -- word
        refine ⟨by show 3 ≤ sizeLine; decide, fun L2 hL2 => ?_⟩
        obtain ⟨n9, hn9⟩ := lf9
        have pL2 : p ≠ L2 := ne_of_none hn9 hL2
        have w0 := Int.emod_nonneg n9 (show (3 : Int) ≠ 0 by decide)
        have w3 := Int.emod_lt_of_pos n9 (show (0 : Int) < 3 by decide)
        obtain ⟨z8, ez⟩ : ∃ z8 : Str, atI [V.str "least", V.str "least", V.str "above"] (n9 % 3) = some (.str z8) := by
          have h : n9 % 3 = 0 ∨ n9 % 3 = 1 ∨ n9 % 3 = 2 := by omega
          rcases h with h | h | h <;> rw [h] <;> exact ⟨_, rfl⟩
        refine ⟨_, rfl, p, n9, 3, rfl, by rw [upd_ne pL2]; exact hn9, by decide, log_lit (n := 10) (by decide) (by decide) (by decide), L2, _, _, _, rfl, rfl, SqL.of (by rw [upd_ne (fun z => pL2 z.symm)]; exact upd_same), ez, ?_⟩
        have kk10 : Keep p H9 (upd (upd H9 L2 (.lst [.str "least", .str "least", .str "above"])) p (.lst [.int (n9 / 3)])) := (keep_same (same_new hL2)).trans keep_upd
        have lf10 : Lf (upd (upd H9 L2 (.lst [.str "least", .str "least", .str "above"])) p (.lst [.int (n9 / 3)])) p := lf_draw
        generalize upd (upd H9 L2 (.lst [.str "least", .str "least", .str "above"])) p (.lst [.int (n9 / 3)]) = H10 at *
        have tv10 := tv9.keep kk10 ⟨n9, hn9⟩
        have t610 : TP K H10 r6 xm := keepT kk10 ⟨n9, hn9⟩ t69
        have t710 : TP K H10 r7 xe := keepT kk10 ⟨n9, hn9⟩ t79
        have k10 := k9.trans kk10
        -- above
        refine ⟨fun σ H' => ∃ r7 x7' z8, σ = [some (.ref p), some (.ref d), some (.ref e), some (.ref L), some (.int (0 + i)), some v5, some (.ref r6), some (.ref r7), some (.str z8), x9] ∧ Keep p H1 H' ∧ Lf H' p ∧ Tp K H' v5 (dLn l5) ∧ TP K H' r6 xm ∧ TP K H' r7 x7' ∧ Sh x7' ∧ Bd 4 x7', ?_, fun σ H11 hI => ?_⟩
        · have stay : ∃ ra x7' z8', [some (V.ref p), some (.ref d), some (.ref e), some (.ref L), some (.int (0 + i)), some v5, some (.ref r6), some (.ref r7), some (.str z8), x9] = [some (.ref p), some (.ref d), some (.ref e), some (.ref L), some (.int (0 + i)), some v5, some (.ref r6), some (.ref ra), some (.str z8'), x9] ∧ Keep p H1 H10 ∧ Lf H10 p ∧ Tp K H10 v5 (dLn l5) ∧ TP K H10 r6 xm ∧ TP K H10 ra x7' ∧ Sh x7' ∧ Bd 4 x7' := ⟨r7, xe, z8, rfl, k10, lf10, tv10, t610, t710, shx, bdx⟩
          refine ⟨_, rfl, rfl, _, rfl, ite2 (fun _ => ?_) (fun _ => iteF stay)⟩
          refine ⟨_, rfl, r7, _, 0, _, rfl, rfl, t710, at0, rfl, _, rfl, ite2 (fun _ => ?_) (fun _ => stay)⟩
          refine ⟨by show 2 ≤ sizeLine; decide, fun t5 ht5 => ?_⟩
          have s11 := same_new (o := .tup [.int 1, .int 3]) ht5
          exact ⟨t5, (1, 3), z8, rfl, k10.trans (keep_same s11), lf_upd lf10 (lf_ne lf10 ht5), tv10.mono s11, same_tup s11 t610, SqT.of upd_same, by constructor <;> decide, by constructor <;> decide⟩
        · obtain ⟨r7, x7', z8, rfl, k11, lf11, tv11, t611, t711, sh7, b7⟩ := hI
          -- just
          refine ⟨fun σ H' => ∃ r7 x7' z8, σ = [some (.ref p), some (.ref d), some (.ref e), some (.ref L), some (.int (0 + i)), some v5, some (.ref r6), some (.ref r7), some (.str z8), x9] ∧ Keep p H1 H' ∧ Lf H' p ∧ Tp K H' v5 (dLn l5) ∧ TP K H' r7 x7' ∧ Sh x7' ∧ Bd 4 x7', ?_, fun σ H12 hI => ?_⟩
          · refine ⟨_, rfl, r6, _, 0, _, rfl, rfl, t611, at0, rfl, _, rfl, ite2 (fun _ => ?_) (fun _ => iteF ⟨r7, x7', z8, rfl, k11, lf11, tv11, t711, sh7, b7⟩)⟩
            obtain ⟨n11, hn11⟩ := lf11
            refine ⟨_, rfl, p, n11, 3, rfl, hn11, by decide, log_lit (n := 10) (by decide) (by decide) (by decide), rfl, _, rfl, ite2 (fun _ => ?_) (fun _ => ?_)⟩
            · refine ⟨by show 2 ≤ sizeLine; decide, fun t5 ht5 => ⟨by show 2 ≤ sizeLine; decide, fun t6 ht6 => ?_⟩⟩
              refine ⟨t6, _, rfl, SqT.of upd_same, rfl, _, _, rfl, _, _, rfl, rfl, ?_⟩
              have s13 := (same_new (o := .tup [.int 0, .int 1]) ht5).trans (same_new (o := .tup [.str "just", .ref t5]) ht6)
              have kk : Keep p H11 _ := (keep_upd (o := .lst [.int (n11 / 3)])).trans (keep_same s13)
              refine ⟨t5, (0, 1), "just", rfl, k11.trans kk, ?_, tv11.keep kk ⟨n11, hn11⟩, SqT.of (same_new ht6 _ _ upd_same), by constructor <;> decide, by constructor <;> decide⟩
              exact ⟨_, s13 _ _ upd_same⟩
            · exact ⟨r7, x7', z8, rfl, k11.trans keep_upd, lf_draw, tv11.keep keep_upd ⟨n11, hn11⟩, keepT keep_upd ⟨n11, hn11⟩ t711, sh7, b7⟩
          · obtain ⟨r7, x7', z8, rfl, k12', lf12, tv12, t712, sh7, b7⟩ := hI
            have ll8 : l5.2.length ≤ 2 := lo8.ln
            have b6 : 6 + l5.2.length * (6 + m + 1) ≤ 450 := by
              have : l5.2.length * (6 + m + 1) ≤ 2 * (6 + m + 1) := Nat.mul_le_mul_right _ ll8
              omega
            -- by
            refine ⟨_, rfl, _, rfl, v5, d, l5, 6, m, rfl, tv12, lo8, nud1.keep k12' lf1, by omega, fun H13 r9 x9' s13 t9 sh9 b9 => ?_⟩
            have e13 := s13 _ _ (k12' _ _ (fun z => pL z.symm) e1)
            refine ⟨_, rfl, .inl ⟨rfl, _, SqL.of e13⟩, ?_⟩
            refine ⟨_, rfl, _, rfl, _, rfl, _, rfl, r9, _, 0, _, rfl, rfl, t9, at0, _, _, rfl, rfl, _, rfl, r9, _, 1, _, rfl, rfl, t9, at1, by show 2 ≤ sizeLine; decide, fun t7 ht7 => ?_⟩
            have s14 := same_new (o := .tup [.int (0 - x9'.1), .int x9'.2]) ht7
            have shng : Sh (0 - x9'.1, x9'.2) := by
              have z := sh9.ng
              rw [show (0 - x9'.1, x9'.2) = ng x9' by unfold ng; rw [Int.zero_sub]]
              exact z
            have bng : Bd 450 (0 - x9'.1, x9'.2) := ⟨by rw [Int.zero_sub, Int.natAbs_neg]; exact (b9.mono b6).1, (b9.mono b6).2⟩
            refine ⟨r7, t7, x7', (0 - x9'.1, x9'.2), rfl, same_tup (s13.trans s14) t712, SqT.of upd_same, sh7, shng, b7.mono (by decide), bng.mono (by decide), fun H15 r10 s15 _ e10 => ?_⟩
            have shp : Sh (pl x7' (0 - x9'.1, x9'.2)) := pl_sh sh7 shng
            have bdp : Bd 455 (pl x7' (0 - x9'.1, x9'.2)) := (pl_bd sh7 shng b7 bng).mono (by decide)
            refine ⟨v5, r10, l5, _, 6, 455, rfl, tv12.mono (s13.trans (s14.trans s15)), lo8, SqT.of e10, shp, bdp, by decide, by decide, fun H16 v16 l16 s16 tv16 lo16 _ => ⟨by show 2 ≤ sizeLine; decide, fun t8 ht8 => ?_⟩⟩
            have s17 := same_new (o := .tup [.str z8, v16]) ht8
            have s1217 := s13.trans (s14.trans (s15.trans (s16.trans s17)))
            have e17 := s1217 _ _ (k12' _ _ (fun z => pL z.symm) e1)
            have k117 : Keep p H1 _ := k12'.trans (keep_same s1217)
            have lf17 : Lf (upd H16 t8 (.tup [.str z8, v16])) p := by
              obtain ⟨n, h⟩ := lf12
              exact ⟨n, s1217 _ _ h⟩
            have tw17 : Tp K (upd H16 t8 (.tup [.str z8, v16])) (.ref t8) (.tuple [.str z8, dLn l16]) := .tup (SqT.of upd_same) (.cons (.str _) (.cons (tv16.mono s17) .nil))
            generalize upd H16 t8 (.tup [.str z8, v16]) = H17 at *
            refine ⟨L, us, .ref t8, rfl, rfl, e17, small1000 (by omega), us ++ [.ref t8], ds ++ [.tuple [.str z8, dLn l16]], _, _, _, _, _, _, rfl, ?_, lf_upd lf17 pL, upd_same, ?_, ?_, by omega⟩
            · intro b o nb eb
              rw [upd_ne (ne_of_none eb hL)]
              exact (k1.trans k117) b o nb eb
            · exact ((tu.keep k117 lf1).app (.cons tw17 .nil)).keepL keep_upd ⟨_, e17⟩
            · rw [List.length_append]
              exact Nat.succ_le_succ ul
    · obtain ⟨us, ds, x4, x5, x6, x7, x8, x9, rfl, k1, lf1, e1, tu, ul, il⟩ := hp
      refine ⟨_, rfl, L, us, rfl, .inl ⟨SqL.of e1, fun t ht => ?_⟩⟩
      exact q _ _ ds (k1.trans (keep_same (same_new ht))) (lf_upd lf1 (lf_ne lf1 ht)) (.tup (SqT.of upd_same) (tu.mono (same_new ht)))
end
end W25

namespace Gs
open PySem PySem.Spec PyProof.Rows L2
/-! t * 1, t a tuple: it is itself -/
theorem tuple_mul1 (l : Addr) (items : Array Value) (n : Nat) (dd : Option Addr) (sl : Array (Option Value)) (x : Int) (u : Tok) (c0 : (decide (x < -(2 ^ 63)) || decide (x ≥ 2 ^ 63)) = false) (c1 : (items.isEmpty || x == 1) = true) :
    Meets (Builtin.«tuple.__mul__» ⟨[.ref l, .int x u], []⟩) (fun _ R s => s.heap.get? l = some { cls := .type "tuple", dict := dd, data := .seq items n, slots := sl } ∧
      R (.ok (.ret (Value.ref l))) s) :=
  .of_wp fun prog w A R s h => by
    obtain ⟨hp, g, d, tk, os⟩ := s
    obtain ⟨hl, h⟩ := h
    have f1 := AutoSeq1.idx_int
    wp_walk using wpAny_loadPart' hl
    repeat (first
      | (refine wpAny_ite_false (decide_eq_false (by rw [c0]; exact Bool.false_ne_true)) ?_; wp_walk using wpAny_loadPart' hl)
      | (refine wpAny_ite_true (decide_eq_true (by rw [c1])) ?_; wp_walk using wpAny_loadPart' hl))
    exact ⟨_, rfl, h⟩
section
variable {X : Cx}
def rRepW (K : PySem.W.Frag) : R2 := fun x y H Q => rRepT K x y H Q ∨ ∃ l xs, x = .ref l ∧ y = .int 1 ∧ SqT K H l xs ∧ Q (.ref l) H
theorem op_repW : OpR X (binaryOp .Mult) (rRepW X.K) := by
  intro pins s σ H x y v u Q I rx ry h
  rcases h with h | ⟨l, xs, rfl, rfl, hT, q⟩
  · exact op_repT pins s σ H x y v u Q I rx ry h
  cases rx
  obtain ⟨t, rfl⟩ := ry
  obtain ⟨its, r, ⟨⟨cls, dd, data, sl⟩, ho, hc, n, hd⟩, hs⟩ := I.tuple hT
  simp only at hc hd
  subst hc hd
  refine wpAny_binaryOp_repeat_ref (T := "tuple") (U := "int") (by decide) ⟨_, ho, rfl⟩ (fun s' => typeIs_int s' 1 t) noFill_tuple_mul F.fills_int_mul F.slot_int_rmul repeat_tuple F.slot_int_index.lookup
    (call_meets F.slot_int_rmul (typeIs_int s 1 t) F.entry_int_rmul (F.args_int_rmul_2 _ _) (int_rmul_tuple 1 t l its.toArray n dd sl)
      ⟨ho, rfl, ⟨_, ho, rfl⟩, call_meets F.slot_tuple_mul ⟨_, ho, rfl⟩ F.entry_tuple_mul (F.args_tuple_mul_2 _ _) (tuple_mul1 l its.toArray n dd sl 1 t (by decide) (by simp)) ⟨ho, ?_⟩⟩)
  exact ⟨.ref l, H, I, rfl, q⟩
end
end Gs

namespace W25
open PySem PySem.Spec PyProof.Rows L2 Gs
/-! ### the own dict of a drawing -/
structure Own where
  ah : Nat
  mn : Nat
  dl : Addr
  sl : Addr
  nd : Addr
  rd : Addr
  dr : Addr
  dd : List Str
  ss : List V
  x : Int × Int
  y : Int × Int
def deedW : List Str := ["go", "on", "up", "ad", "be", "it"]
structure OwnAt (K : PySem.W.Frag) (H : Hp) (o : Addr) (w : Own) : Prop where
  at_ : ∃ kvs : List (Key × V), H o = some (.dK kvs) ∧ valV kvs (.inr "ahead") = some (.int w.ah) ∧ valV kvs (.inr "many") = some (.int w.mn) ∧ valV kvs (.inr "deeds") = some (.ref w.dl) ∧
    valV kvs (.inr "sets") = some (.ref w.sl) ∧ valV kvs (.inr "read") = some (.ref w.rd) ∧ valV kvs (.inr "drift") = some (.ref w.dr) ∧ valV kvs (.inr "numbers") = some (.ref w.nd)
  dl : H w.dl = some (.lst (w.dd.map V.str))
  sl : H w.sl = some (.lst w.ss)
  st : SetsAll K H w.ss
  rd : TP K H w.rd w.x
  rs : Sh w.x
  rb : Bd 4 w.x
  dr : TP K H w.dr w.y
  ds : Sh w.y
  db : Bd 4 w.y
  nu : NuAt K H w.nd 10
  ln : w.ss.length = w.ah + w.mn
  a2 : w.ah ≤ 2
  m1 : 1 ≤ w.mn
  m3 : w.mn ≤ 3
  d5 : 5 ≤ w.dd.length
  d6 : w.dd.length ≤ 6
  dk : ∀ z ∈ w.dd, z ∈ deedW
section
variable {K : PySem.W.Frag} {H H' : Hp} {o p : Addr} {w : Own}
theorem OwnAt.mono (s : Same H H') (h : OwnAt K H o w) : OwnAt K H' o w := by
  obtain ⟨⟨kvs, e, r⟩, h1, h2, h3, h4, h5, h6, h7, h8, h9, h10, i1, i2, i3, i4, i5, i6, i7⟩ := h
  exact ⟨⟨kvs, s _ _ e, r⟩, s _ _ h1, s _ _ h2, h3.mono s, same_tup s h4, h5, h6, same_tup s h7, h8, h9, h10.mono s, i1, i2, i3, i4, i5, i6, i7⟩
theorem SetsAll.keep {xs : List V} (k : Keep p H H') (hp : Lf H p) (h : SetsAll K H xs) : SetsAll K H' xs := fun x hx => by
  obtain ⟨ss, h1, h2⟩ := h x hx
  exact ⟨ss, h1.keep k hp, h2⟩
theorem OwnAt.dl_ne (lf : Lf H p) (h : OwnAt K H o w) : w.dl ≠ p := fun e => by
  obtain ⟨n, hn⟩ := lf
  have h1 := h.dl
  have h2 := h.d5
  rw [e, hn] at h1
  injection h1 with h1
  injection h1 with h1
  have h3 := congrArg List.length h1
  rw [List.length_map] at h3
  simp at h3
  omega
theorem OwnAt.sl_ne (lf : Lf H p) (h : OwnAt K H o w) : w.sl ≠ p := fun e => by
  obtain ⟨n, hn⟩ := lf
  have h1 := h.sl
  rw [e, hn] at h1
  injection h1 with h1
  injection h1 with h1
  obtain ⟨ss, h2, _⟩ := h.st (.int n) (by rw [← h1]; exact List.mem_singleton.mpr rfl)
  cases h2
theorem OwnAt.keep (k : Keep p H H') (lf : Lf H p) (h : OwnAt K H o w) : OwnAt K H' o w := by
  have n1 := h.dl_ne lf
  have n2 := h.sl_ne lf
  obtain ⟨⟨kvs, e, r⟩, h1, h2, h3, h4, h5, h6, h7, h8, h9, h10, i1, i2, i3, i4, i5, i6, i7⟩ := h
  have lf' := lf
  obtain ⟨n, hn⟩ := lf'
  exact ⟨⟨kvs, k _ _ (fun z => by rw [z, hn] at e; cases e) e, r⟩, k _ _ n1 h1, k _ _ n2 h2, h3.keep k lf, keepT k lf h4, h5, h6, keepT k lf h7, h8, h9, h10.keep k lf, i1, i2, i3, i4, i5, i6, i7⟩
theorem OwnAt.ahead (h : OwnAt K H o w) : DGet H o (.str "ahead") (some (.int w.ah)) := by
  obtain ⟨⟨kvs, e, r⟩, _⟩ := h
  rw [← r.1]
  exact DGet.k (k := .inr "ahead") e
theorem OwnAt.many (h : OwnAt K H o w) : DGet H o (.str "many") (some (.int w.mn)) := by
  obtain ⟨⟨kvs, e, r⟩, _⟩ := h
  rw [← r.2.1]
  exact DGet.k (k := .inr "many") e
theorem OwnAt.deeds (h : OwnAt K H o w) : DGet H o (.str "deeds") (some (.ref w.dl)) := by
  obtain ⟨⟨kvs, e, r⟩, _⟩ := h
  rw [← r.2.2.1]
  exact DGet.k (k := .inr "deeds") e
theorem OwnAt.sets (h : OwnAt K H o w) : DGet H o (.str "sets") (some (.ref w.sl)) := by
  obtain ⟨⟨kvs, e, r⟩, _⟩ := h
  rw [← r.2.2.2.1]
  exact DGet.k (k := .inr "sets") e
theorem OwnAt.read (h : OwnAt K H o w) : DGet H o (.str "read") (some (.ref w.rd)) := by
  obtain ⟨⟨kvs, e, r⟩, _⟩ := h
  rw [← r.2.2.2.2.1]
  exact DGet.k (k := .inr "read") e
theorem OwnAt.drift (h : OwnAt K H o w) : DGet H o (.str "drift") (some (.ref w.dr)) := by
  obtain ⟨⟨kvs, e, r⟩, _⟩ := h
  rw [← r.2.2.2.2.2.1]
  exact DGet.k (k := .inr "drift") e
theorem OwnAt.numbers (h : OwnAt K H o w) : DGet H o (.str "numbers") (some (.ref w.nd)) := by
  obtain ⟨⟨kvs, e, r⟩, _⟩ := h
  rw [← r.2.2.2.2.2.2]
  exact DGet.k (k := .inr "numbers") e
end
/-! ### rests -/
theorem scRests : FnScope ["_law_left_here", "_law_moments", "_law_machines", "_law_found", "_law_moment_here"] ["_law_left_here", "_law_moments", "_law_machines"] (defScope sRests) := ⟨rfl, rfl, rfl, by decide +kernel, rfl, by decide +kernel, by decide +kernel⟩
def spRests : Sp := fun vs H Q _ => ∃ (p M : Addr) (k : Int) (xs : List V), vs = [.ref p, .ref M, .int k] ∧ Lf H p ∧ H M = some (.lst xs) ∧ M ≠ p ∧ xs.length ≤ 6 ∧ 1 ≤ k ∧ k ≤ 2 ∧
  ∀ H' r ys, Keep p H H' → Lf H' p → H' r = some (.lst ys) → Q (.ref r) H'
section
variable {P : Program} {w : World} {K : PySem.W.Frag} {mg : Str → Option Value} {base : Heap} {f f1 : Addr} {fd d1 : FuncData}
theorem ok_rests (F : Fun K "_law_rests" "_law_rests" sRests f fd) (D : Cl P w K mg base CX0 1 "_law_digit" ["_law_left_here", "_law_upto"] spDigit f1 d1) :
    FnOk P w K mg base CX0 2 f fd ["_law_left_here", "_law_moments", "_law_machines"] spRests := by
  refine F.ok scRests (fun vs H Q E h => ?_) (fun cdv A outer s H vs Q E hr h => ?_)
  · obtain ⟨p, M, k, xs, rfl, _⟩ := h
    rfl
  · obtain ⟨p, M, k, xs, rfl, lf, hM, nM, xl, k1, k2, q⟩ := h
    refine ⟨_, pss_cons (ps_set (i := 3) scRests.nd rfl (.inl rfl) (pe_lst pa_nil))
      (pss_cons (ps_for PassesOwn.never rfl (pi_list (pv 1)) (pg_name (i := 4) scRests.nd rfl (Or.inl rfl))
        (pss_join (ps_if (pt_cmpR op_eq (pe_call D.ok hr (by rfl) D.g D.kp D.bd .nil pass0 (pa_cons (pv 0) (pa_cons pe_int pa_nil))) pe_int (nomark _))
          (pss_one (ps_expr (pe_bm PySem.F.plainAttrs_list PySem.F.slot_list_append PySem.F.type_list_append mt_append (pv 3) (pa_cons
            (pe_tup (pa_cons (pe_tup (pa_cons pe_str (pa_cons (pe_op op_repW (pe_tup (pa_cons pe_non pa_nil)) (pv 2)) pa_nil))) (pa_cons (pe_tup pa_nil) (pa_cons (pe_tup pa_nil) pa_nil)))) pa_nil)))) pss_nil)
        (pss_one (ps_expr (pe_bm PySem.F.plainAttrs_list PySem.F.slot_list_append PySem.F.type_list_append mt_append (pv 3) (pa_cons (pv 4) pa_nil))))))
      (pss_one (ps_ret (pv 3)))), ?_⟩
    refine ⟨by show 0 ≤ sizeLine; decide, fun L hL => ?_⟩
    have pL : p ≠ L := lf_ne lf hL
    have ML : M ≠ L := ne_of_none hM hL
    have hM0 : upd H L (.lst []) M = some (.lst xs) := by rw [upd_ne ML]; exact hM
    refine ⟨_, rfl, M, rfl, ⟨_, SqL.of hM0⟩, for_list (K := K) (xs := xs) (fun i σ H' => ∃ us x4, σ = [some (.ref p), some (.ref M), some (.int k), some (.ref L), x4] ∧ Keep p H H' ∧ Lf H' p ∧ H' L = some (.lst us) ∧ us.length ≤ 2 * i ∧ H' M = some (.lst xs) ∧ i ≤ 6)
      ⟨[], _, rfl, keep_same (same_new hL), lf_upd lf pL, upd_same, Nat.zero_le _, hM0, by decide⟩ (fun i σ H' _ hp => ?_) (fun i x σ H1 hx hp => ?_) (fun σ H1 hp => ?_)⟩
    · obtain ⟨us, x4, _, _, _, _, _, h, _⟩ := hp
      exact SqL.of h
    · obtain ⟨us, x4, rfl, kk, ⟨n, hn⟩, e1, ul, eM, i6⟩ := hp
      have il : i < xs.length := (List.getElem?_eq_some_iff.mp hx).1
      have kh : ∀ {H' : Hp} {ws : List V}, Keep p H H' → Keep p H (upd H' L (.lst ws)) := fun {H' ws} kq b o nb e => by
        rw [upd_ne (ne_of_none e hL)]
        exact kq b o nb e
      refine ⟨fun σ H' => ∃ us, σ = [some (.ref p), some (.ref M), some (.int k), some (.ref L), some x] ∧ Keep p H H' ∧ Lf H' p ∧ H' L = some (.lst us) ∧ us.length ≤ 2 * i + 1 ∧ H' M = some (.lst xs), ?_, fun σ H2 hI => ?_⟩
      · refine ⟨_, rfl, p, n, 4, rfl, hn, by decide, log_lit (n := 10) (by decide) (by decide) (by decide), rfl, _, rfl, ?_⟩
        have k2' : Keep p H (upd H1 p (.lst [.int (n / 4)])) := kk.trans keep_upd
        have e2 : upd H1 p (.lst [.int (n / 4)]) L = some (.lst us) := by rw [upd_ne (fun z => pL z.symm)]; exact e1
        have eM2 : upd H1 p (.lst [.int (n / 4)]) M = some (.lst xs) := by rw [upd_ne nM]; exact eM
        have lf2 : Lf (upd H1 p (.lst [.int (n / 4)])) p := lf_draw
        generalize upd H1 p (.lst [.int (n / 4)]) = H2 at *
        refine ite2 (fun _ => ?_) (fun _ => ⟨us, rfl, k2', lf2, e2, by omega, eM2⟩)
        refine ⟨_, rfl, .inl ⟨rfl, _, SqL.of e2⟩, ?_⟩
        refine ⟨by show 1 ≤ sizeLine; decide, fun t1 ht1 => ⟨_, rfl, ?_⟩⟩
        have s1 := same_new (o := .tup [.non]) ht1
        -- what follows, whatever the tuple is
        have fol2 : ∀ (t2 : V) (H3 : Hp), Same H2 H3 → 2 ≤ sizeLine ∧ ∀ t3, H3 t3 = none → (0 ≤ sizeLine ∧ ∀ t4, upd H3 t3 (.tup [.str "rest", t2]) t4 = none → (0 ≤ sizeLine ∧ ∀ t5, upd (upd H3 t3 (.tup [.str "rest", t2])) t4 (.tup []) t5 = none → (3 ≤ sizeLine ∧ ∀ t6, upd (upd (upd H3 t3 (.tup [.str "rest", t2])) t4 (.tup [])) t5 (.tup []) t6 = none →
            ∃ l xs' y, V.ref L = .ref l ∧ [V.ref t6] = [y] ∧ upd (upd (upd (upd H3 t3 (.tup [.str "rest", t2])) t4 (.tup [])) t5 (.tup [])) t6 (.tup [.ref t3, .ref t4, .ref t5]) l = some (.lst xs') ∧ xs'.length < sizeLine ∧
              ∃ us, [some (V.ref p), some (.ref M), some (.int k), some (.ref L), some x] = [some (.ref p), some (.ref M), some (.int k), some (.ref L), some x] ∧ Keep p H (upd (upd (upd (upd (upd H3 t3 (.tup [.str "rest", t2])) t4 (.tup [])) t5 (.tup [])) t6 (.tup [.ref t3, .ref t4, .ref t5])) l (.lst (xs' ++ [y]))) ∧ Lf (upd (upd (upd (upd (upd H3 t3 (.tup [.str "rest", t2])) t4 (.tup [])) t5 (.tup [])) t6 (.tup [.ref t3, .ref t4, .ref t5])) l (.lst (xs' ++ [y]))) p ∧ upd (upd (upd (upd (upd H3 t3 (.tup [.str "rest", t2])) t4 (.tup [])) t5 (.tup [])) t6 (.tup [.ref t3, .ref t4, .ref t5])) l (.lst (xs' ++ [y])) L = some (.lst us) ∧ us.length ≤ 2 * i + 1 ∧ upd (upd (upd (upd (upd H3 t3 (.tup [.str "rest", t2])) t4 (.tup [])) t5 (.tup [])) t6 (.tup [.ref t3, .ref t4, .ref t5])) l (.lst (xs' ++ [y])) M = some (.lst xs)))) := fun t2 H3 s3 => by
          refine ⟨by decide, fun t3 h3 => ⟨Nat.zero_le _, fun t4 h4 => ⟨Nat.zero_le _, fun t5 h5 => ⟨by decide, fun t6 h6 => ?_⟩⟩⟩⟩
          have s6 := s3.trans ((same_new (o := .tup [.str "rest", t2]) h3).trans ((same_new (o := .tup []) h4).trans ((same_new (o := .tup []) h5).trans (same_new (o := .tup [.ref t3, .ref t4, .ref t5]) h6))))
          generalize upd (upd (upd (upd H3 t3 (.tup [.str "rest", t2])) t4 (.tup [])) t5 (.tup [])) t6 (.tup [.ref t3, .ref t4, .ref t5]) = H6 at *
          have e6 := s6 _ _ e2
          have lf6 : Lf H6 p := by
            obtain ⟨n2, h2⟩ := lf2
            exact ⟨n2, s6 _ _ h2⟩
          refine ⟨L, us, .ref t6, rfl, rfl, e6, small1000 (by omega), us ++ [.ref t6], rfl, kh (k2'.trans (keep_same s6)), lf_upd lf6 pL, upd_same, ?_, by rw [upd_ne ML]; exact s6 _ _ eM2⟩
          rw [List.length_append]
          show us.length + 1 ≤ _
          omega
        have hk : k = 1 ∨ k = 2 := by omega
        rcases hk with rfl | rfl
        · exact .inr ⟨t1, _, rfl, rfl, SqT.of upd_same, fol2 (.ref t1) _ s1⟩
        · exact .inl ⟨t1, 2, _, rfl, rfl, SqT.of upd_same, (fun z => by cases z), by decide, by decide, by decide, fun t2 ht2 => fol2 (.ref t2) _ (s1.trans (same_new ht2))⟩
      · obtain ⟨us, rfl, k2', lf2, e2, ul2, eM2⟩ := hI
        refine ⟨_, rfl, .inl ⟨rfl, _, SqL.of e2⟩, _, rfl, L, us, x, rfl, rfl, e2, small1000 (by omega), us ++ [x], _, rfl, kh k2', lf_upd lf2 pL, upd_same, ?_, by rw [upd_ne ML]; exact eM2, by omega⟩
        rw [List.length_append]
        show us.length + 1 ≤ _
        omega
    · obtain ⟨us, x4, rfl, kk, lf1, e1, _⟩ := hp
      exact ⟨_, rfl, q H1 L us kk lf1 e1⟩
end
end W25

namespace Gs
open PySem PySem.Spec PyProof.Rows L2 L2.DX
/-! d.items(), sorted(d.items()), d a dict whose keys are texts: some list of as many -/
section
variable {X : Cx}
def rItemsK : V → List V → Hp → VK → Prop := fun x xs H Q => ∃ (a : Addr) (kvs : List (Key × V)), x = .ref a ∧ xs = [] ∧ H a = some (.dK kvs) ∧ ∀ p, H p = none → Q (.ref p) (upd H p (itemsO p a))
theorem mt_itemsK : MtR X "dict.items" rItemsK := by
  intro pins s σ H x xs v us Q I rx rxs h
  obtain ⟨a, kvs, rfl, rfl, ha, q⟩ := h
  cases rx
  cases rxs
  obtain ⟨z, hd, xs', rel, o, es, ep, ho, hx, hdat, _⟩ := dk_of I.hok ha
  refine DT.callItems (es := es) (ep := ep) hd ⟨o, ho, hx, hdat⟩ ?_
  have hf : H s.heap.objs.size = none := I.hok.fresh (Nat.le_refl _)
  exact ⟨.ref s.heap.objs.size, upd H s.heap.objs.size (itemsO s.heap.objs.size a), I.laid (t' := s.toks) (fun b u e => Heap.get?_push_of_some _ e) (Nat.le_refl _) (itemsO_ok (Heap.get?_push_size _ rfl)), rfl, q _ hf⟩
theorem kv_key {kvs : List (Key × V)} {vs : List (Key × Value)} (h : KV kvs vs) : vs.map (·.1) = kvs.map (·.1) := by
  unfold KV at h
  induction h with
  | nil => rfl
  | cons h _ ih => rw [List.map_cons, List.map_cons, ih, h.1]
theorem pairs_at {P : Program} {w : World} {es : List DictEntry} {vs : List (Key × Value)} (h : Pairs (mixKind P w) es vs) : ∀ {j : Nat} {e : DictEntry}, es[j]? = some e → ∃ kv, vs[j]? = some kv ∧ keyIs kv.1 e.key = true := by
  induction h with
  | nil => intro j e h; simp at h
  | @cons e0 kv es vs h1 h2 _ ih =>
    intro j e hj
    cases j with
    | zero =>
      cases hj
      exact ⟨kv, rfl, h1⟩
    | succ j => exact ih (j := j) hj
def rSortIK : List V → Hp → VK → Prop := fun vs H Q => ∃ (p a : Addr) (kvs : List (Key × V)), vs = [.ref p] ∧ H p = some (itemsO p a) ∧ H a = some (.dK kvs) ∧ (∀ k ∈ kvs.map (·.1), ∃ z : Str, k = Sum.inr z) ∧
  ∀ l ys, H l = none → Q (.ref l) (upd H l (.lst ys))
theorem cr_sortedIK (hc : X.calm = true) : CallR X (.builtin "sorted") rSortIK := by
  intro pins s σ H xs us Q I r h
  obtain ⟨p, a, kvs, rfl, hp, ha, hz, q⟩ := h
  obtain rfl := Vals.ref1 r
  have view : s.heap.IsItemsView p a := (show ObjOk X.prog X.w H s.heap p (itemsO p a) from I.hok p _ hp).1
  obtain ⟨zl, hd, vs, rel, o, es, ep, ho, hx, hdat, _, prs, nd⟩ := dk_of I.hok ha
  have hh : X.A.handled = none := I.ok.hd hc
  have kk := kv_key rel
  have l2 : es.size = vs.length := by rw [← prs.length]; simp
  have l3 : vs.length = kvs.length := by rw [← List.length_map (f := (·.1)) (as := vs), kk, List.length_map]
  refine DT.sortedI (es := es) (ep := ep) hh view ⟨o, ho, hx, hdat⟩ (by rw [l2, l3]; exact zl) fun h' tk as hk hlt hl hG => ?_
  have pr : ∀ (j : Nat) (b : Addr), as[j]? = some b → ∃ (z : Str) (t : Tok) (u : Value), (vs.map (·.1))[j]? = some (Sum.inr z) ∧ h'.get? b = some { cls := .type "tuple", data := .seq #[.str z t, u] } := by
    intro j b hj
    obtain ⟨e, he, hg⟩ := hG.pairs j b hj
    obtain ⟨kv, hv, ki⟩ := pairs_at prs (by simpa using he)
    have hm : kv.1 ∈ vs.map (·.1) := List.mem_map.mpr ⟨kv, List.mem_of_getElem? hv, rfl⟩
    rw [kk] at hm
    obtain ⟨z, ez⟩ := hz _ hm
    rw [ez] at ki
    rcases keyIs_shape ki with ⟨i, t, e1, e2⟩ | ⟨y, t, e1, e2⟩
    · cases e1
    · cases e1
      refine ⟨z, t, e.val, ?_, ?_⟩
      · rw [List.getElem?_map, hv, Option.map_some, ez]
      · rw [hg, e2]
  have hob : (h'.push { cls := .type "list", data := .seq (as.map Value.ref).toArray }).get? h'.objs.size = some (seqObj "list" (as.map Value.ref).toArray 0) := Heap.get?_push_size _ rfl
  have ne0 : ∀ b o, h'.get? b = some o → b ≠ h'.objs.size := fun b o e => Nat.ne_of_lt (Heap.lt_size e)
  generalize hh2 : h'.push { cls := .type "list", data := .seq (as.map Value.ref).toArray } = h2 at hob ⊢
  have ka : ∀ b o, h'.get? b = some o → h2.get? b = some o := fun b o e => by rw [← hh2]; exact Heap.get?_push_of_some _ e
  have at_ : ∀ v ∈ as.map Value.ref, ∃ (j : Nat) (b : Addr) (z : Str) (t : Tok) (u : Value), v = .ref b ∧ as[j]? = some b ∧ (vs.map (·.1))[j]? = some (Sum.inr z) ∧ h'.get? b = some { cls := .type "tuple", data := .seq #[.str z t, u] } := by
    intro v hv
    obtain ⟨b, hb, rfl⟩ := List.mem_map.mp hv
    obtain ⟨j, hj⟩ := List.mem_iff_getElem?.mp hb
    obtain ⟨z, t, u, h1, h2⟩ := pr j b hj
    exact ⟨j, b, z, t, u, rfl, hj, h1, h2⟩
  have one : ∀ {h3 : Heap} {b : Addr} {z z' : Str} {t : Tok} {u u' : Value}, h3.get? b = some { cls := .type "tuple", data := .seq #[.str z t, u] } → IsNm h3 (.ref b) z' u' → z' = z := fun {h3 b z z' t u u'} e p => by
    obtain ⟨a1, o1, t1, n1, ea, ho1, _, hd1⟩ := p
    cases ea
    rw [e] at ho1
    cases ho1
    injection hd1 with h1 h2
    have h3 := congrArg (fun x : Array Value => x[0]?) h1
    simp at h3
    exact h3.1.symm
  have hz0 : (as.map Value.ref).length ≤ sizeLine := by rw [List.length_map, hl, l2, l3]; exact zl
  refine wpAny_call_entry PyProof.Rows.slot_list_sort ⟨_, hob, rfl⟩ PyProof.Rows.entry_list_sort
    (Srt.list_sort_any (s := { s with heap := h2, toks := tk }) hob hz0 (fun h2' => nm_sortable (s := { s with heap := h2, toks := tk }) (by omega) (fun v hv => ?_) (fun h3 k3 v hv v' hv' z u u' p1 p2 => ?_) (fun o1 e1 => ?_)) fun out op => ⟨.none, rfl, ?_⟩) (PyProof.Rows.args_list_sort _)
  · obtain ⟨j, b, z, t, u, rfl, _, _, hg⟩ := at_ v hv
    exact ⟨z, u, b, _, t, 0, rfl, ka _ _ hg, rfl, rfl⟩
  · obtain ⟨j, b, z1, t1, u1, rfl, hj, hk1, hg⟩ := at_ v hv
    obtain ⟨j', b', z2, t2, u2, rfl, hj', hk2, hg'⟩ := at_ v' hv'
    have g1 := one (k3 _ _ (ne0 _ _ hg) (ka _ _ hg)) p1
    have g2 := one (k3 _ _ (ne0 _ _ hg') (ka _ _ hg')) p2
    rw [← g1] at hk1
    rw [← g2] at hk2
    have ej : j = j' := by
      obtain ⟨x1, y1⟩ := List.getElem?_eq_some_iff.mp hk1
      obtain ⟨x2, y2⟩ := List.getElem?_eq_some_iff.mp hk2
      exact List.getElem_inj nd |>.mp (y1.trans y2.symm)
    rw [ej, hj'] at hj
    cases hj
    rfl
  · have e' : some o1 = some (seqObj "list" (as.map Value.ref).toArray 0) := e1.symm.trans hob
    cases e'
    intro c
    exact absurd (Value.type.inj c) (by decide)
  · show EP X pins σ Q (.ref h'.objs.size) { s with heap := sortedHeap h2 h'.objs.size (as.map Value.ref) out.toArray, toks := tk }
    have kF : ∀ b o, s.heap.get? b = some o → (sortedHeap h2 h'.objs.size (as.map Value.ref) out.toArray).get? b = some o := fun b o e =>
      (PyProof.Rows.sortedHeap_old (ne0 _ _ (hk b o e)) (Heap.lt_size (ka _ _ (hk b o e)))).trans (ka _ _ (hk b o e))
    obtain ⟨eF, heF⟩ := PyProof.Rows.sortedHeap_at (vs := as.map Value.ref) (out := out.toArray) hob
    have h3 : ∀ u ∈ out, ∃ a, u = Value.ref a := fun u hu => by
      obtain ⟨b, _, e⟩ := List.mem_map.mp (op.mem_iff.mp hu)
      exact ⟨b, e.symm⟩
    have hn0 : H h'.objs.size = none := I.hok.fresh (Nat.le_of_lt hlt)
    refine ⟨.ref h'.objs.size, upd H h'.objs.size (.lst (out.map backV)), I.laid (t' := tk) kF (Nat.le_of_lt hlt) ⟨?_, out, eF, vals_back h3, heF⟩, rfl, q _ _ hn0⟩
    rw [List.length_map, op.length_eq]
    exact hz0
end
end Gs

namespace W25
open PySem PySem.Spec PyProof.Rows L2 Gs
/-! ### machines, moments -/
structure Mc where
  nm : Str
  sp : List Str
  rw_ : List (Str × Str × PyData × PyData × Str)
def dRw (r : Str × Str × PyData × PyData × Str) : PyData := .tuple [.str r.1, .str r.2.1, r.2.2.1, r.2.2.2.1, .str r.2.2.2.2]
def dMc (m : Mc) : PyData := .tuple [.str m.nm, .tuple (m.sp.map PyData.str), .tuple (m.rw_.map dRw)]
theorem tp_tup {K : PySem.W.Frag} {H : Hp} {v : V} {ds : List PyData} (h : Tp K H v (.tuple ds)) : ∃ a xs, v = .ref a ∧ SqT K H a xs ∧ TpAll K H xs ds := by
  cases h with
  | tup h r => exact ⟨_, _, rfl, h, r⟩
theorem tp_cons {K : PySem.W.Frag} {H : Hp} {xs : List V} {d : PyData} {ds : List PyData} (h : TpAll K H xs (d :: ds)) : ∃ v vs, xs = v :: vs ∧ Tp K H v d ∧ TpAll K H vs ds := by
  cases h with
  | cons h r => exact ⟨_, _, rfl, h, r⟩
theorem tp_nil {K : PySem.W.Frag} {H : Hp} {xs : List V} (h : TpAll K H xs []) : xs = [] := by
  cases h
  rfl
theorem iteP {b : Bool} {A B : Prop} (e : b = true) (h : A) : if b = true then A else B := by
  rw [if_pos e]
  exact h
theorem iteN {b : Bool} {A B : Prop} (e : b = false) (h : B) : if b = true then A else B := by
  rw [if_neg (by rw [e]; decide)]
  exact h
theorem free_same {H H' : Hp} (s : Same H H') {r : Addr} (h : H' r = none) : H r = none := by
  cases e : H r with
  | none => rfl
  | some o =>
    rw [s _ _ e] at h
    cases h
theorem keep_sameL {H0 H H' : Hp} {L : Addr} {ws : List V} (hL : H0 L = none) (s : Same H0 H) : Same H0 (upd H L (.lst ws)) := fun b o e => by
  rw [upd_ne (ne_of_none e hL)]
  exact s b o e
theorem xy_ok {z : Str} (h : z ∈ xy) : PyData.strOk z = true := by
  rcases List.mem_cons.mp h with e | e
  · rw [e]; decide +kernel
  · rw [List.mem_singleton.mp e]; decide +kernel
theorem lay_dS (x : Int × Int) : (dS x).canLay0 = true := by simp [dS, PyData.canLay0, PyData.canLayAll0]
theorem dep_dS (x : Int × Int) : (dS x).depth = 1 := by simp [dS, PyData.depth, PyData.depthAll]
theorem lay_parts {n : Nat} : ∀ ps : List (Str × (Int × Int)), (∀ z ∈ ps, z.1 ∈ xy) → PyData.canLayAll0 (ps.map dPt) = true ∧ PyData.depthAll (ps.map dPt) ≤ 2
  | [], _ => ⟨rfl, Nat.zero_le _⟩
  | z :: ps, h => by
    obtain ⟨h1, h2⟩ := lay_parts (n := n) ps fun y hy => h y (List.mem_cons_of_mem _ hy)
    have e1 : (dPt z).canLay0 = true := by
      rw [dPt, PyData.canLay0, PyData.canLayAll0, PyData.canLayAll0, PyData.canLayAll0, PyData.canLay0, xy_ok (h z List.mem_cons_self), lay_dS]
      rfl
    have e2 : (dPt z).depth ≤ 2 := by
      rw [dPt, PyData.depth, PyData.depthAll, PyData.depthAll, PyData.depthAll, dep_dS]
      simp [PyData.depth]
    refine ⟨?_, ?_⟩
    · rw [List.map_cons, PyData.canLayAll0, e1, h1]
      rfl
    · rw [List.map_cons, PyData.depthAll]
      omega
theorem lay_line {n : Nat} {l : Ln} (h : LnOk xy n l) : (dLn l).canLay0 = true ∧ (dLn l).depth ≤ 4 := by
  obtain ⟨h1, h2⟩ := lay_parts (n := n) l.2 fun z hz => (h.ps z hz).1
  constructor
  · rw [dLn, PyData.canLay0, PyData.canLayAll0, PyData.canLayAll0, PyData.canLayAll0, lay_dS, PyData.canLay0, h1]
    rfl
  · rw [dLn, PyData.depth, PyData.depthAll, PyData.depthAll, PyData.depthAll, dep_dS, PyData.depth]
    omega
theorem lay_sets : ∀ ss : List Set1, (∀ s ∈ ss, s.1 ∈ xy ∧ ∀ l, s.2 = some l → LnOk xy 4 l ∧ l.2.length ≤ 1) → PyData.canLayAll0 (ss.map dSt) = true ∧ PyData.depthAll (ss.map dSt) ≤ 5
  | [], _ => ⟨rfl, Nat.zero_le _⟩
  | z :: ps, h => by
    obtain ⟨h1, h2⟩ := lay_sets ps fun y hy => h y (List.mem_cons_of_mem _ hy)
    obtain ⟨hz, hl⟩ := h z List.mem_cons_self
    have e : (dSt z).canLay0 = true ∧ (dSt z).depth ≤ 5 := by
      obtain ⟨b, l⟩ := z
      cases l with
      | none =>
        constructor
        · simp [dSt, PyData.canLay0, PyData.canLayAll0, xy_ok (show b ∈ xy from hz)]
        · simp [dSt, PyData.depth, PyData.depthAll]
      | some l =>
        obtain ⟨q1, q2⟩ := lay_line (hl l rfl).1
        constructor
        · rw [dSt, PyData.canLay0, PyData.canLayAll0, PyData.canLayAll0, PyData.canLayAll0, PyData.canLay0, xy_ok hz, q1]
          rfl
        · rw [dSt, PyData.depth, PyData.depthAll, PyData.depthAll, PyData.depthAll, PyData.depth]
          omega
    refine ⟨?_, ?_⟩
    · rw [List.map_cons, PyData.canLayAll0, e.1, h1]
      rfl
    · rw [List.map_cons, PyData.depthAll]
      omega
theorem sets_shaped {ss : List Set1} (h : SetsOk ss) : SeqAt.shaped (dSts ss) = true := by
  obtain ⟨h1, h2⟩ := lay_sets ss h.ok
  show ((dSts ss).canLay0 && decide ((dSts ss).depth ≤ 64)) = true
  rw [Bool.and_eq_true]
  refine ⟨?_, decide_eq_true ?_⟩
  · rw [dSts, PyData.canLay0]
    exact h1
  · rw [dSts, PyData.depth]
    omega
theorem yn_ok : SetsOk [("y", none)] := ⟨fun s hs => by rw [List.mem_singleton.mp hs]; exact ⟨by decide, fun l e => by cases e⟩, by decide⟩
theorem scMoment : FnScope ["_law_own", "_law_at", "_law_machines", "_law_helped", "_law_numbers", "_law_machine"] ["_law_own", "_law_at", "_law_machines", "_law_helped"] (defScope sMoment) := ⟨rfl, rfl, rfl, by decide +kernel, rfl, by decide +kernel, by decide +kernel⟩
def spMoment (K : PySem.W.Frag) : Sp := fun vs H Q _ => ∃ (o M : Addr) (j : Nat) (hz : Str) (w : Own) (ms : List V) (mcs : List Mc), vs = [.ref o, .int j, .ref M, .str hz] ∧ OwnAt K H o w ∧ j < w.ah + w.mn ∧ H M = some (.lst ms) ∧ TpAll K H ms (mcs.map dMc) ∧ mcs.length ≤ 2 ∧
  ∀ H' r, Same H H' → Q (.ref r) H'
section
variable {P : Program} {w : World} {K : PySem.W.Frag} {mg : Str → Option Value} {base : Heap} {f f1 : Addr} {fd d1 : FuncData} {k : Nat}
theorem ok_moment (F : Fun K "_law_moment" "_law_moment" sMoment f fd) (mi : mg "int" = none) (mt : mg "tuple" = none) : FnOk P w K mg base CX0 (k + 1) f fd ["_law_own", "_law_at", "_law_machines", "_law_helped"] (spMoment K) := by
  refine F.ok scMoment (fun vs H Q E h => ?_) (fun cdv A outer s H vs Q E hr h => ?_)
  · obtain ⟨o, M, j, hz, w, ms, mcs, rfl, _⟩ := h
    rfl
  · obtain ⟨o, M, j, hz, w, ms, mcs, rfl, ow, hj, hM, tm, ml, q⟩ := h
    refine ⟨_, pss_cons (ps_set (i := 4) scMoment.nd rfl (.inl rfl) (pe_lst pa_nil))
      (pss_cons (ps_for PassesOwn.never rfl (pi_list (pv 2)) (pg_name (i := 5) scMoment.nd rfl (Or.inl rfl))
        (pss_one (ps_expr (pe_bm PySem.F.plainAttrs_list PySem.F.slot_list_append PySem.F.type_list_append mt_append (pv 4) (pa_cons
          (pe_ifExp (pt_cmpR op_eq (pe_ix ix_tup (pv 5) pe_int (fun _ _ => rfl)) pe_str (nomark _)) (pv 1)
            (pe_ix ix_list (pe_lst (pa_cons pe_non (pa_cons pe_int pa_nil))) (pe_callTy call_int1 (by rfl) mi (by decide +kernel) (pa_cons (pe_cmpR op_eq (pe_ix ix_list (pe_dget (hu_of hr) (pv 0) pe_str (fun _ _ => rfl)) (pv 1) (fun _ _ => rfl)) (pv 3) (nomark _)) pa_nil)) (fun _ _ => rfl))) pa_nil)))))
      (pss_cons (ps_if (pt_cmpR (op_eqD hr.units) (pe_ix ix_list (pe_dget (hu_of hr) (pv 0) pe_str (fun _ _ => rfl)) (pv 1) (fun _ _ => rfl)) (pe_tup (pa_cons (pe_tup (pa_cons pe_str (pa_cons pe_non pa_nil))) pa_nil)) (nomark _))
        (pss_one (ps_ret (pe_tup (pa_cons (pe_tup (pa_cons (pe_ix ix_list (pe_dget (hu_of hr) (pv 0) pe_str (fun _ _ => rfl)) (pv 1) (fun _ _ => rfl)) (pa_cons (pe_callTy call_tuple_of (by rfl) mt (by decide +kernel) (pa_cons (pv 4) pa_nil)) pa_nil)))
          (pa_cons (pe_tup (pa_cons (pe_tup (pa_cons pe_str (pa_cons (pe_dget (hu_of hr) (pv 0) pe_str (fun _ _ => rfl)) pa_nil))) pa_nil)) (pa_cons (pe_tup (pa_cons (pe_tup (pa_cons pe_str (pa_cons (pe_dget (hu_of hr) (pv 0) pe_str (fun _ _ => rfl)) pa_nil))) pa_nil)) pa_nil)))))) pss_nil)
      (pss_one (ps_ret (pe_tup (pa_cons (pe_tup (pa_cons (pe_ix ix_list (pe_dget (hu_of hr) (pv 0) pe_str (fun _ _ => rfl)) (pv 1) (fun _ _ => rfl)) (pa_cons (pe_callTy call_tuple_of (by rfl) mt (by decide +kernel) (pa_cons (pv 4) pa_nil)) pa_nil)))
          (pa_cons (pe_tup pa_nil) (pa_cons (pe_tup pa_nil) pa_nil)))))))), ?_⟩
    have jd : j < w.dd.length := by
      have := ow.d5
      have := ow.a2
      have := ow.m3
      omega
    have ed : (w.dd.map V.str)[j]? = some (.str w.dd[j]) := by rw [List.getElem?_map, List.getElem?_eq_getElem jd]; rfl
    have js : j < w.ss.length := by rw [ow.ln]; exact hj
    refine ⟨by show 0 ≤ sizeLine; decide, fun L hL => ?_⟩
    have s0 := same_new (o := .lst []) hL
    refine ⟨_, rfl, M, rfl, ⟨_, SqL.of (s0 _ _ hM)⟩, for_list (K := K) (xs := ms) (fun i σ H' => ∃ us x5, σ = [some (.ref o), some (.int j), some (.ref M), some (.str hz), some (.ref L), x5] ∧ Same H H' ∧ H' L = some (.lst us) ∧ us.length ≤ i ∧ i ≤ ms.length)
      ⟨[], _, rfl, s0, upd_same, Nat.le_refl _, Nat.zero_le _⟩ (fun i σ H' _ hp => ?_) (fun i x σ H1 hx hp => ?_) (fun σ H1 hp => ?_)⟩
    · obtain ⟨us, x5, _, sm, _⟩ := hp
      exact SqL.of (sm _ _ hM)
    · obtain ⟨us, x5, rfl, sm, e1, ul, il⟩ := hp
      have il2 : i < ms.length := (List.getElem?_eq_some_iff.mp hx).1
      have ml2 : ms.length ≤ 2 := by rw [tm.len, List.length_map]; exact ml
      obtain ⟨d, edd, tx⟩ := tm.get hx
      rw [List.getElem?_map] at edd
      cases em : mcs[i]? with
      | none => rw [em] at edd; cases edd
      | some mc =>
        rw [em] at edd
        cases edd
        obtain ⟨a, ys, rfl, sq, ta⟩ := tp_tup tx
        obtain ⟨v0, vs, rfl, t0, _⟩ := tp_cons ta
        cases tp_str t0
        have ow1 := ow.mono sm
        refine ⟨_, rfl, .inl ⟨rfl, _, SqL.of e1⟩, ?_⟩
        have fin : ∀ (y : V) (H2 : Hp), Same H1 H2 → ∃ l xs' y', V.ref L = .ref l ∧ [y] = [y'] ∧ H2 l = some (.lst xs') ∧ xs'.length < sizeLine ∧
            ∃ us x5, [some (V.ref o), some (.int j), some (.ref M), some (.str hz), some (.ref L), some (.ref a)] = [some (.ref o), some (.int j), some (.ref M), some (.str hz), some (.ref L), x5] ∧ Same H (upd H2 l (.lst (xs' ++ [y']))) ∧ upd H2 l (.lst (xs' ++ [y'])) L = some (.lst us) ∧ us.length ≤ i + 1 ∧ i + 1 ≤ ms.length := fun y H2 s2 => by
          refine ⟨L, us, y, rfl, rfl, s2 _ _ e1, small1000 (by omega), us ++ [y], _, rfl, keep_sameL (H' := H) hL (sm.trans s2), upd_same, ?_, il2⟩
          rw [List.length_append]
          exact Nat.succ_le_succ ul
        refine ⟨_, rfl, a, _, 0, _, rfl, rfl, same_tup sm sq, atI_nat (j := 0) rfl, rfl, _, rfl, ite2 (fun _ => ?_) (fun _ => ?_)⟩
        · exact ⟨_, rfl, fin _ _ (Same.refl _)⟩
        · refine ⟨by show 2 ≤ sizeLine; decide, fun B hB => ?_⟩
          have sB := same_new (o := .lst [.non, .int 0]) hB
          refine ⟨_, rfl, o, _, rfl, (ow1.mono sB).deeds, _, rfl, w.dl, _, j, _, rfl, rfl, SqL.of (ow1.mono sB).dl, atI_nat ed, _, rfl, rfl, .inr ⟨_, rfl, ?_⟩⟩
          cases decide (V.str w.dd[j] = V.str hz) with
          | true => exact ⟨B, _, _, _, rfl, rfl, SqL.of upd_same, atI_nat (j := 1) rfl, fin _ _ sB⟩
          | false => exact ⟨B, _, _, _, rfl, rfl, SqL.of upd_same, atI_nat (j := 0) rfl, fin _ _ sB⟩
    · obtain ⟨us, x5, rfl, sm, e1, ul, _⟩ := hp
      have ow1 := ow.mono sm
      have es : w.ss[j]? = some w.ss[j] := List.getElem?_eq_getElem js
      obtain ⟨sj, tj, oj⟩ := ow1.st _ (List.getElem_mem js)
      refine ⟨_, rfl, o, _, rfl, ow1.sets, _, rfl, w.sl, _, j, _, rfl, rfl, SqL.of ow1.sl, atI_nat es, ?_⟩
      refine ⟨by show 2 ≤ sizeLine; decide, fun t1 ht1 => ⟨by show 1 ≤ sizeLine; decide, fun t2 ht2 => ?_⟩⟩
      have s2 := (same_new (o := .tup [.str "y", .non]) ht1).trans (same_new (o := .tup [.ref t1]) ht2)
      refine ⟨_, dSts [("y", none)], (tj.mono s2).dp, .tup (SqT.of upd_same) (.cons (.tup (SqT.of (same_new ht2 _ _ upd_same)) (.cons (.str _) (.cons .non .nil))) .nil), sets_shaped oj, sets_shaped yn_ok, _, rfl, ?_⟩
      have sm2 := sm.trans s2
      have ow2 := ow.mono sm2
      have e2 := s2 _ _ e1
      generalize upd (upd H1 t1 (.tup [.str "y", .non])) t2 (.tup [.ref t1]) = H2 at *
      refine ite2 (fun _ => ?_) (fun _ => ?_)
      · refine ⟨_, rfl, o, _, rfl, ow2.deeds, _, rfl, w.dl, _, j, _, rfl, rfl, SqL.of ow2.dl, atI_nat ed, _, rfl, L, us, rfl, .inl ⟨SqL.of e2, fun t3 ht3 => ⟨by show 2 ≤ sizeLine; decide, fun t4 ht4 => ?_⟩⟩⟩
        have s4 := (same_new (o := .tup us) ht3).trans (same_new (o := .tup [.str w.dd[j], .ref t3]) ht4)
        refine ⟨_, rfl, o, _, rfl, (ow2.mono s4).read, by show 2 ≤ sizeLine; decide, fun t5 ht5 => ⟨by show 1 ≤ sizeLine; decide, fun t6 ht6 => ?_⟩⟩
        have s6 := s4.trans ((same_new (o := .tup [.str "y", .ref w.rd]) ht5).trans (same_new (o := .tup [.ref t5]) ht6))
        refine ⟨_, rfl, o, _, rfl, (ow2.mono s6).drift, by show 2 ≤ sizeLine; decide, fun t7 ht7 => ⟨by show 1 ≤ sizeLine; decide, fun t8 ht8 => ⟨by show 3 ≤ sizeLine; decide, fun t9 ht9 => ?_⟩⟩⟩
        exact q _ _ (sm2.trans (s6.trans ((same_new ht7).trans ((same_new ht8).trans (same_new ht9)))))
      · refine ⟨_, rfl, o, _, rfl, ow2.deeds, _, rfl, w.dl, _, j, _, rfl, rfl, SqL.of ow2.dl, atI_nat ed, _, rfl, L, us, rfl, .inl ⟨SqL.of e2, fun t3 ht3 => ⟨by show 2 ≤ sizeLine; decide, fun t4 ht4 => ?_⟩⟩⟩
        refine ⟨by show 0 ≤ sizeLine; decide, fun t5 ht5 => ⟨by show 0 ≤ sizeLine; decide, fun t6 ht6 => ⟨by show 3 ≤ sizeLine; decide, fun t7 ht7 => ?_⟩⟩⟩
        exact q _ _ (sm2.trans ((same_new ht3).trans ((same_new ht4).trans ((same_new ht5).trans ((same_new ht6).trans (same_new ht7))))))
end
end W25

namespace W25
open PySem PySem.Spec PyProof.Rows L2 Gs
/-! ### the parts of a drawing -/
abbrev NP : List Str := ["_law_left_here", "_law_ahead", "_law_many", "_law_deeds", "_law_sets", "_law_read", "_law_drift", "_law_numbers", "_law_reading", "_law_found", "_law_turn", "_law_at", "_law_one", "_law_pair"]
theorem scParts : FnScope NP ["_law_left_here"] (defScope sParts) := ⟨rfl, rfl, rfl, by decide +kernel, rfl, by decide +kernel, by decide +kernel⟩
def lcSc : Expr → Scope
  | .ListComp _ _ s _ => s
  | _ => defScope sParts
def ifB : Stmt → List Stmt
  | .If _ b _ _ => b
  | _ => []
def asgE : Stmt → List Expr
  | .Assign _ e _ => [e]
  | _ => []
abbrev scOne : Scope := match (ifB ((defBody sParts).getD 6 sParts)) with
  | st :: _ => (match asgE st with | e :: _ => lcSc e | [] => defScope sParts)
  | [] => defScope sParts
def spParts (K : PySem.W.Frag) : Sp := fun vs H Q _ => ∃ p : Addr, vs = [.ref p] ∧ Lf H p ∧ ∀ H' o w, Keep p H H' → Lf H' p → OwnAt K H' o w → Q (.ref o) H'
theorem ix_listK {X : Cx} {K : PySem.W.Frag} (hk : X.K = K) : IxR X (rIxL K) := by
  subst hk
  exact ix_list
theorem op_eqDK {X : Cx} {K : PySem.W.Frag} (hk : X.K = K) (hu : X.A.units + 64 < cLine) : OpR X (compareOp .Eq) (rEqD K) := by
  subst hk
  exact op_eqD hu
theorem call_tuple_ofK {X : Cx} {K : PySem.W.Frag} (hk : X.K = K) : CallR X (.type "tuple") (fun xs H Q => ∃ p ys, xs = [.ref p] ∧ ((SqL K H p ys ∧ ∀ l, H l = none → Q (.ref l) (upd H l (.tup ys))) ∨ (SqT K H p ys ∧ Q (.ref p) H))) := by
  subst hk
  exact call_tuple_of
theorem pi_tupK {X : Cx} {K : PySem.W.Frag} {tg e : Expr} {t : TE} (hk : X.K = K) (h : PE X e t) : PI X tg e (iTup K t) := by
  subst hk
  exact pi_tup h
mutual
theorem Tp.keepD {K : PySem.W.Frag} {H : Hp} {e : Addr} {kvs : List (Key × V)} {o : HO} (h : H e = some (.dK kvs)) : ∀ {v : V} {d : PyData}, Tp K H v d → Tp K (upd H e o) v d
  | _, _, .non => .non
  | _, _, .bl b => .bl b
  | _, _, .int i => .int i
  | _, _, .str x => .str x
  | _, _, .tup t r => .tup (sqt_upd h t) (TpAll.keepD h r)
theorem TpAll.keepD {K : PySem.W.Frag} {H : Hp} {e : Addr} {kvs : List (Key × V)} {o : HO} (h : H e = some (.dK kvs)) : ∀ {vs : List V} {ds : List PyData}, TpAll K H vs ds → TpAll K (upd H e o) vs ds
  | _, _, .nil => .nil
  | _, _, .cons t r => .cons (Tp.keepD h t) (TpAll.keepD h r)
end
section
variable {P : Program} {w : World} {K : PySem.W.Frag} {mg : Str → Option Value} {base : Heap} {f f1 f2 f3 f4 : Addr} {fd d1 d2 d3 d4 : FuncData}
theorem ok_parts (F : Fun K "_law_parts" "_law_parts" sParts f fd) (D : Cl P w K mg base CX0 1 "_law_digit" ["_law_left_here", "_law_upto"] spDigit f1 d1) (S : Cl P w K mg base CX0 2 "_law_share" ["_law_left_here"] spDraw f2 d2)
    (So : Cl P w K mg base CX0 2 "_law_set_of" ["_law_left_here", "_law_can_read"] (spSetOf K) f3 d3) (Pl : Cl P w K mg base CX0 2 "_law_plus" ["_law_one", "_law_other"] (spTwo K pl) f4 d4)
    (mr : mg "range" = none) (md : mg "dict" = none) (mt : mg "tuple" = none) : FnOk P w K mg base CX0 3 f fd ["_law_left_here"] (spParts K) := by
  refine F.ok scParts (fun vs H Q E h => ?_) (fun cdv A outer s H vs Q E hr h => ?_)
  · obtain ⟨p, rfl, _⟩ := h
    rfl
  · obtain ⟨p, rfl, lf, q⟩ := h
    have r1 := hr.mono (j := 1) (by decide)
    refine ⟨_, pss_cons (ps_par (i := 1) (j := 2) (by rfl) scParts.nd rfl rfl (by decide) rfl rfl (pa_cons (pe_call D.ok r1 (by rfl) D.g D.kp D.bd .nil pass0 (pa_cons (pv 0) (pa_cons pe_int pa_nil))) (pa_cons (pe_op op_add pe_int (pe_call D.ok r1 (by rfl) D.g D.kp D.bd .nil pass0 (pa_cons (pv 0) (pa_cons pe_int pa_nil)))) pa_nil)) (by rfl))
      (pss_cons (ps_set (i := 3) scParts.nd rfl (.inl rfl) (pe_slice sl_list (pe_lst (pa_cons pe_str (pa_cons pe_str (pa_cons pe_str (pa_cons pe_str (pa_cons pe_str (pa_cons pe_str pa_nil))))))) (po_some (pe_call D.ok r1 (by rfl) D.g D.kp D.bd .nil pass0 (pa_cons (pv 0) (pa_cons pe_int pa_nil)))) po_none))
      (pss_cons (ps_set (i := 4) scParts.nd rfl (.inr rfl) (pe_op op_cat
        (pe_lc (own := [("_law_turn", 10)]) (g := gName 10) (tt := tYes) rfl scParts.nd (pi_range1 (by rfl) mr (pa_cons (pv 1) pa_nil)) (blkOk_by (own := [("_law_turn", 10)]) (N := NP) (sc := defScope sParts) (by decide +kernel)) (fun _ _ _ _ _ => pg_name (i := 10) scParts.nd rfl (Or.inl rfl)) (fun _ _ _ _ _ => pts_nil)
          (fun _ _ _ _ _ => pe_call So.ok hr (by rfl) So.g So.kp So.bd .nil pass0 (pa_cons (pv 0) (pa_cons pe_bl pa_nil))))
        (pe_lc (own := [("_law_turn", 10)]) (g := gName 10) (tt := tYes) rfl scParts.nd (pi_range1 (by rfl) mr (pa_cons (pv 2) pa_nil)) (blkOk_by (own := [("_law_turn", 10)]) (N := NP) (sc := defScope sParts) (by decide +kernel)) (fun _ _ _ _ _ => pg_name (i := 10) scParts.nd rfl (Or.inl rfl)) (fun _ _ _ _ _ => pts_nil)
          (fun _ _ _ _ _ => pe_call So.ok hr (by rfl) So.g So.kp So.bd .nil pass0 (pa_cons (pv 0) (pa_cons pe_bl pa_nil))))))
      (pss_cons (ps_par (i := 5) (j := 6) (by rfl) scParts.nd rfl rfl (by decide) rfl rfl (pa_cons (pe_call S.ok hr (by rfl) S.g S.kp S.bd .nil pass0 (pa_cons (pv 0) pa_nil)) (pa_cons (pe_call S.ok hr (by rfl) S.g S.kp S.bd .nil pass0 (pa_cons (pv 0) pa_nil)) pa_nil)) (by rfl))
      (pss_cons (ps_set (i := 7) scParts.nd rfl (.inl rfl) (pe_callTy (call_dictP rfl) (by rfl) md (by decide +kernel) (pa_cons (pe_lst (pa_cons (pe_tup (pa_cons pe_str (pa_cons (pe_call S.ok hr (by rfl) S.g S.kp S.bd .nil pass0 (pa_cons (pv 0) pa_nil)) pa_nil))) (pa_cons (pe_tup (pa_cons pe_str (pa_cons (pe_call S.ok hr (by rfl) S.g S.kp S.bd .nil pass0 (pa_cons (pv 0) pa_nil)) pa_nil))) pa_nil))) pa_nil)))
      (pss_cons (ps_setLc (i := 8) (own := [("_law_at", 11)]) (g := gName 11) rfl scParts.nd rfl rfl (sw_true rfl rfl rfl rfl) (pi_range2 (by rfl) mr (pa_cons (pv 1) (pa_cons (pe_op op_add (pv 1) (pv 2)) pa_nil))) (blkOk_by (own := [("_law_at", 11)]) (N := NP) (sc := defScope sParts) (by decide +kernel)) (fun _ _ _ _ _ => pg_name (i := 11) scParts.nd rfl (Or.inl rfl))
          (fun _ _ _ _ _ => pts_one (pt_cmpR (op_eqDK (K := K) rfl hr.units) (pe_ix (ix_listK (K := K) rfl) (pv 4) (pv 11) (fun _ _ => rfl)) (pe_tup (pa_cons (pe_tup (pa_cons pe_str (pa_cons pe_non pa_nil))) pa_nil)) (nomark _)))
          (fun _ _ _ _ _ => pv 11))
      (pss_join (ps_if (pt_cmpR (op_neD hr.units) (pv 8) (pe_lst pa_nil) (nomark _))
        (pss_cons (ps_set (i := 4) scParts.nd rfl (.inr rfl) (pe_lc (own := [("_law_one", 12)]) (g := gName 12) (tt := tYes) rfl scParts.nd (pi_list (pv 4)) (blkOk_by (own := [("_law_one", 12)]) (N := NP) (sc := defScope sParts) (by decide +kernel)) (fun _ _ _ _ _ => pg_name (i := 12) scParts.nd rfl (Or.inl rfl)) (fun _ _ _ _ _ => pts_nil)
          (fun _ _ _ _ _ => pe_callTy (call_tuple_ofK (K := K) rfl) (by rfl) mt (by decide +kernel) (pa_cons (pe_lc (own := [("_law_pair", 13)]) (g := gName 13) rfl scParts.nd (pi_tupK (K := K) rfl (pv 12)) (blkOk_by (own := [("_law_pair", 13)]) (N := NP) (sc := scOne) (by decide +kernel)) (fun _ _ _ _ _ => pg_name (i := 13) scParts.nd rfl (Or.inl rfl))
            (fun _ _ _ _ _ => pts_one (pt_cmpR op_ne (pe_ix (ix_tupK (K := K) rfl) (pv 13) pe_int (fun _ _ => rfl)) pe_str (nomark _))) (fun _ _ _ _ _ => pv 13)) pa_nil))))
        (pss_cons (ps_asg (pe_tup (pa_cons (pe_tup (pa_cons pe_str (pa_cons pe_non pa_nil))) pa_nil)) (pg_sub (pv 4) (pe_ix ix_list (pv 8) pe_int (fun _ _ => rfl)) set_list))
        (pss_one (ps_dput (hu_of hr) (pv 7) pe_str (pe_call Pl.ok hr (by rfl) Pl.g Pl.kp Pl.bd .nil pass0 (pa_cons (pv 5) (pa_cons (pe_tup (pa_cons (pe_op op_sub pe_int (pe_ix ix_tup (pv 6) pe_int (fun _ _ => rfl))) (pa_cons (pe_ix ix_tup (pv 6) pe_int (fun _ _ => rfl)) pa_nil))) pa_nil))) rfl)))) pss_nil)
      (pss_cons (ps_set (i := 9) scParts.nd rfl (.inl rfl) (pe_disp (pps_cons pe_str (pv 1) (pps_cons pe_str (pv 2) (pps_cons pe_str (pv 3) (pps_cons pe_str (pv 4) (pps_cons pe_str (pv 5) pps_nil))))) (by rfl) (by rfl) (fun z => by cases z) (by decide)))
      (pss_cons (ps_asg (pe_tup (pa_cons (pv 6) (pa_cons (pv 7) pa_nil))) (pg_tup (by rfl) (pgs_cons (pg_sub (pv 9) pe_str (set_dict (hu_of hr))) (pgs_cons (pg_sub (pv 9) pe_str (set_dict (hu_of hr))) pgs_nil))))
      (pss_one (ps_ret (pv 9))))))))))), ?_⟩
    obtain ⟨n0, hn0⟩ := lf
    have a0 := Int.emod_nonneg n0 (show (3 : Int) ≠ 0 by decide)
    have a3 := Int.emod_lt_of_pos n0 (show (0 : Int) < 3 by decide)
    have b0 := Int.emod_nonneg (n0 / 3) (show (3 : Int) ≠ 0 by decide)
    have b3 := Int.emod_lt_of_pos (n0 / 3) (show (0 : Int) < 3 by decide)
    obtain ⟨ah, eah⟩ : ∃ ah : Nat, n0 % 3 = (ah : Int) := ⟨(n0 % 3).toNat, by omega⟩
    obtain ⟨mn, emn⟩ : ∃ mn : Nat, 1 + n0 / 3 % 3 = (mn : Int) := ⟨(1 + n0 / 3 % 3).toNat, by omega⟩
    refine ⟨_, rfl, p, n0, 3, rfl, hn0, by decide, log_lit (n := 10) (by decide) (by decide) (by decide), _, rfl, p, n0 / 3, 3, rfl, upd_same, by decide, log_lit (n := 10) (by decide) (by decide) (by decide), _, _, rfl, rfl, .int ah, .int mn, (by show [V.int (n0 % 3), V.int (1 + n0 / 3 % 3)] = [V.int ah, V.int mn]; rw [eah, emn]), ?_⟩
    have ha2 : ah ≤ 2 := by omega
    have hm1 : 1 ≤ mn := by omega
    have hm3 : mn ≤ 3 := by omega
    have k1 : Keep p H (upd (upd H p (.lst [.int (n0 / 3)])) p (.lst [.int (n0 / 3 / 3)])) := keep_upd.trans keep_upd
    have lf1 : Lf (upd (upd H p (.lst [.int (n0 / 3)])) p (.lst [.int (n0 / 3 / 3)])) p := lf_draw
    generalize upd (upd H p (.lst [.int (n0 / 3)])) p (.lst [.int (n0 / 3 / 3)]) = H1 at *
    -- deeds
    refine ⟨by show 6 ≤ sizeLine; decide, fun B hB => ?_⟩
    obtain ⟨n1, hn1⟩ := lf1
    have pB : p ≠ B := ne_of_none hn1 hB
    refine ⟨_, rfl, p, n1, 2, rfl, by rw [upd_ne pB]; exact hn1, by decide, log_lit (n := 10) (by decide) (by decide) (by decide), _, rfl, B, _, rfl, SqL.of (by rw [upd_ne (fun z => pB z.symm)]; exact upd_same), fun dl hdl => ?_⟩
    obtain ⟨dd, edd, d5, d6, dk⟩ : ∃ dd : List Str, cutV [V.str "go", V.str "on", V.str "up", V.str "ad", V.str "be", V.str "it"] (some (n1 % 2)) none = dd.map V.str ∧ 5 ≤ dd.length ∧ dd.length ≤ 6 ∧ ∀ z ∈ dd, z ∈ deedW := by
      have c0 := Int.emod_nonneg n1 (show (2 : Int) ≠ 0 by decide)
      have c2 := Int.emod_lt_of_pos n1 (show (0 : Int) < 2 by decide)
      have h : n1 % 2 = 0 ∨ n1 % 2 = 1 := by omega
      rcases h with h | h <;> rw [h]
      · exact ⟨deedW, rfl, by decide, by decide, fun z hz => hz⟩
      · exact ⟨["on", "up", "ad", "be", "it"], rfl, by decide, by decide, fun z hz => List.mem_cons_of_mem _ hz⟩
    rw [edd]
    have kk2 : Keep p H1 (upd (upd (upd H1 B (.lst [.str "go", .str "on", .str "up", .str "ad", .str "be", .str "it"])) p (.lst [.int (n1 / 2)])) dl (.lst (dd.map V.str))) := ((keep_same (same_new hB)).trans keep_upd).trans (keep_same (same_new hdl))
    have pdl : dl ≠ p := fun e => lf_ne lf_draw hdl e.symm
    have lf2 : Lf (upd (upd (upd H1 B (.lst [.str "go", .str "on", .str "up", .str "ad", .str "be", .str "it"])) p (.lst [.int (n1 / 2)])) dl (.lst (dd.map V.str))) p := lf_upd lf_draw (fun e => pdl e.symm)
    have edl : upd (upd (upd H1 B (.lst [.str "go", .str "on", .str "up", .str "ad", .str "be", .str "it"])) p (.lst [.int (n1 / 2)])) dl (.lst (dd.map V.str)) dl = some (.lst (dd.map V.str)) := upd_same
    generalize upd (upd (upd H1 B (.lst [.str "go", .str "on", .str "up", .str "ad", .str "be", .str "it"])) p (.lst [.int (n1 / 2)])) dl (.lst (dd.map V.str)) = H2 at *
    have k2 := k1.trans kk2
    -- sets
    refine ⟨_, rfl, _, rfl, by omega, by omega, fun D1 hD1 => ?_⟩
    have pD1 : p ≠ D1 := lf_ne lf2 hD1
    have e1n : (((ah : Nat) : Int)).toNat = ah := Int.toNat_natCast ah
    refine lc_range (fun i H' => ∃ us, H' D1 = some (.lst us) ∧ Keep p H2 H' ∧ Lf H' p ∧ SetsAll K H' us ∧ us.length = i)
      ⟨[], upd_same, keep_same (same_new hD1), lf_upd lf2 pD1, fun x hx => absurd hx List.not_mem_nil, rfl⟩ (fun i H' hi hp => ?_) (fun H3 hp => ?_)
    · obtain ⟨us, e1, kq, lfq, sq, ul⟩ := hp
      refine ⟨rfl, ?_⟩
      refine ⟨_, rfl, p, false, rfl, lfq, fun H4 v ss k4 lf4 tv so => ?_⟩
      have e4 := k4 _ _ (fun z => pD1 z.symm) e1
      refine ⟨us, e4, small1000 (by omega), us ++ [v], upd_same, ?_, lf_upd lf4 pD1, ?_, ?_⟩
      · intro b o nb e
        rw [upd_ne (ne_of_none e hD1)]
        exact k4 _ _ nb (kq _ _ nb e)
      · intro x hx
        rcases List.mem_append.mp hx with h | h
        · obtain ⟨s0, t0, o0⟩ := sq x h
          exact ⟨s0, (t0.keep k4 lfq).keepL keep_upd ⟨_, e4⟩, o0⟩
        · rw [List.mem_singleton.mp h]
          exact ⟨ss, tv.keepL keep_upd ⟨_, e4⟩, so⟩
      · rw [List.length_append, ul]
        rfl
    obtain ⟨u1, e1, kk3, lf3, sq1, ul1⟩ := hp
    refine ⟨_, rfl, _, rfl, by omega, by omega, fun D2 hD2 => ?_⟩
    have pD2 : p ≠ D2 := lf_ne lf3 hD2
    refine lc_range (fun i H' => ∃ us, H' D2 = some (.lst us) ∧ Keep p H3 H' ∧ Lf H' p ∧ SetsAll K H' us ∧ us.length = i)
      ⟨[], upd_same, keep_same (same_new hD2), lf_upd lf3 pD2, fun x hx => absurd hx List.not_mem_nil, rfl⟩ (fun i H' hi hp => ?_) (fun H4 hp => ?_)
    · obtain ⟨us, e2, kq, lfq, sq, ul⟩ := hp
      refine ⟨rfl, ?_⟩
      refine ⟨_, rfl, p, true, rfl, lfq, fun H4 v ss k4 lf4 tv so => ?_⟩
      have e4 := k4 _ _ (fun z => pD2 z.symm) e2
      refine ⟨us, e4, small1000 (by omega), us ++ [v], upd_same, ?_, lf_upd lf4 pD2, ?_, ?_⟩
      · intro b o nb e
        rw [upd_ne (ne_of_none e hD2)]
        exact k4 _ _ nb (kq _ _ nb e)
      · intro x hx
        rcases List.mem_append.mp hx with h | h
        · obtain ⟨s0, t0, o0⟩ := sq x h
          exact ⟨s0, (t0.keep k4 lfq).keepL keep_upd ⟨_, e4⟩, o0⟩
        · rw [List.mem_singleton.mp h]
          exact ⟨ss, tv.keepL keep_upd ⟨_, e4⟩, so⟩
      · rw [List.length_append, ul]
        rfl
    obtain ⟨u2, e2, kk4, lf4, sq2, ul2⟩ := hp
    have e14 := kk4 _ _ (fun z => pD1 z.symm) e1
    have sq14 := sq1.keep kk4 lf3
    refine ⟨D1, D2, u1, u2, rfl, rfl, e14, e2, Nat.le_of_lt (small1000 (by omega)), fun sl hsl => ?_⟩
    have s5 := same_new (o := .lst (u1 ++ u2)) hsl
    have k5 : Keep p H (upd H4 sl (.lst (u1 ++ u2))) := k2.trans (kk3.trans (kk4.trans (keep_same s5)))
    have psl : sl ≠ p := fun e => lf_ne lf4 hsl e.symm
    have lf5 := lf_upd (o := .lst (u1 ++ u2)) lf4 (fun e => psl e.symm)
    have esl : upd H4 sl (.lst (u1 ++ u2)) sl = some (.lst (u1 ++ u2)) := upd_same
    have sq5 : SetsAll K (upd H4 sl (.lst (u1 ++ u2))) (u1 ++ u2) := fun x hx => by
      rcases List.mem_append.mp hx with h | h
      · exact sq14.mono s5 x h
      · exact sq2.mono s5 x h
    have len5 : (u1 ++ u2).length = ah + mn := by rw [List.length_append, ul1, ul2]; omega
    have edl5 := (kk3.trans (kk4.trans (keep_same s5))) _ _ pdl edl
    have hslH : H sl = none := free_of (k2.trans (kk3.trans kk4)) psl hsl
    have hdlH : H dl = none := free_of (k1.trans ((keep_same (same_new hB)).trans keep_upd)) pdl hdl
    generalize upd H4 sl (.lst (u1 ++ u2)) = H5 at *
    generalize u1 ++ u2 = ss at *
    -- read, drift
    obtain ⟨n5, hn5⟩ := lf5
    refine ⟨_, rfl, p, n5, rfl, hn5, fun H6 rd x n6 k6 hn6 hr6 e6 sx bx => ?_⟩
    refine ⟨_, rfl, p, n6, rfl, hn6, fun H7 dr y n7 k7 hn7 hr7 e7 sy by_ => ⟨_, _, rfl, ?_⟩⟩
    have prd : rd ≠ p := fun e => by
      rw [e, hn6] at e6
      cases e6
    have pdr : dr ≠ p := fun e => by
      rw [e, hn7] at e7
      cases e7
    have kk7 := k6.trans k7
    -- numbers
    refine ⟨_, rfl, p, n7, rfl, hn7, fun H8 nx x8 n8 k8 hn8 hr8 e8 sx8 bx8 => ⟨by show 2 ≤ sizeLine; decide, fun t8 ht8 => ?_⟩⟩
    have s8 := same_new (o := .tup [.str "x", .ref nx]) ht8
    refine ⟨_, rfl, p, n8, rfl, s8 _ _ hn8, fun H9 ny x9 n9 k9 hn9 hr9 e9 sx9 bx9 => ⟨by show 2 ≤ sizeLine; decide, fun t9 ht9 => ⟨by show 2 ≤ sizeLine; decide, fun L9 hL9 => ?_⟩⟩⟩
    have pnx : nx ≠ p := fun e => by
      rw [e, hn8] at e8
      cases e8
    have pt8 : t8 ≠ p := fun e => by
      rw [e, hn8] at ht8
      cases ht8
    have s9 := (same_new (o := .tup [.str "y", .ref ny]) ht9).trans (same_new (o := .lst [.ref t8, .ref t9]) hL9)
    have et8 := s9 _ _ (k9 _ _ pt8 (upd_same (H := H8) (a := t8) (o := .tup [.str "x", .ref nx])))
    have et9 := same_new (o := .lst [.ref t8, .ref t9]) hL9 _ _ (upd_same (H := H9) (a := t9) (o := .tup [.str "y", .ref ny]))
    refine ⟨L9, [t8, t9], [(.inr "x", .ref nx), (.inr "y", .ref ny)], rfl, SqL.of upd_same, .cons (SqT.of et8) (.cons (SqT.of et9) .nil), fun nd hnd => ?_⟩
    have s10 := s9.trans (same_new (o := .dK (mergeK [] [(.inr "x", .ref nx), (.inr "y", .ref ny)])) hnd)
    have kk10 : Keep p H5 (upd (upd (upd H9 t9 (.tup [.str "y", .ref ny])) L9 (.lst [.ref t8, .ref t9])) nd (.dK (mergeK [] [(.inr "x", .ref nx), (.inr "y", .ref ny)]))) := kk7.trans (k8.trans ((keep_same s8).trans (k9.trans (keep_same s10))))
    have enx := s10 _ _ (k9 _ _ pnx (s8 _ _ e8))
    have eny := s10 _ _ e9
    have hn10 := s10 _ _ hn9
    have erd := (k7.trans (k8.trans ((keep_same s8).trans (k9.trans (keep_same s10))))) _ _ prd e6
    have edr := (k8.trans ((keep_same s8).trans (k9.trans (keep_same s10)))) _ _ pdr e7
    have pnd : nd ≠ p := fun e => by
      rw [e, (s9 _ _ hn9)] at hnd
      cases hnd
    have hndH : H nd = none := free_of (k5.trans (kk7.trans (k8.trans ((keep_same s8).trans (k9.trans (keep_same s9)))))) pnd hnd
    have end_ : upd (upd (upd H9 t9 (.tup [.str "y", .ref ny])) L9 (.lst [.ref t8, .ref t9])) nd (.dK (mergeK [] [(.inr "x", .ref nx), (.inr "y", .ref ny)])) nd = some (.dK (mergeK [] [(.inr "x", .ref nx), (.inr "y", .ref ny)])) := upd_same
    generalize upd (upd (upd H9 t9 (.tup [.str "y", .ref ny])) L9 (.lst [.ref t8, .ref t9])) nd (.dK (mergeK [] [(.inr "x", .ref nx), (.inr "y", .ref ny)])) = H10 at *
    have nu10 : NuAt K H10 nd 10 := by
      refine ⟨_, end_, rfl, fun z hz => ?_⟩
      rcases List.mem_cons.mp hz with rfl | hz
      · exact ⟨nx, x8, rfl, SqT.of enx, sx8, bx8.mono (by decide)⟩
      · rw [List.mem_singleton.mp hz]
        exact ⟨ny, x9, rfl, SqT.of eny, sx9, bx9.mono (by decide)⟩
    have lf10 : Lf H10 p := ⟨n9, hn10⟩
    have lf5' : Lf H5 p := ⟨n5, hn5⟩
    have esl10 := kk10 _ _ psl esl
    have edl10 := kk10 _ _ pdl edl5
    have sq10 := sq5.keep kk10 lf5'
    have k10 := k5.trans kk10
    clear hn9 hn10 et8 et9 e8 e9 s10 s9 s8 k9 k8
    -- reading
    refine ⟨_, rfl, _, rfl, _, rfl, _, _, rfl, rfl, _, _, rfl, ⟨by omega, by omega, by omega, by omega⟩, fun D3 hD3 => ?_⟩
    have pD3 : p ≠ D3 := lf_ne lf10 hD3
    refine lc_range (fun i H' => ∃ is : List Int, H' D3 = some (.lst (is.map V.int)) ∧ Same H10 H' ∧ (∀ j ∈ is, (ah : Int) ≤ j ∧ j < (ah : Int) + mn) ∧ is.length ≤ i)
      ⟨[], upd_same, same_new hD3, fun j hj => absurd hj List.not_mem_nil, Nat.le_refl _⟩ (fun i H' hi hp => ?_) (fun H11 hp => ?_)
    · obtain ⟨is, e3, sm, hj, il⟩ := hp
      have hi' : i < mn := by omega
      have hjl : ah + i < ss.length := by omega
      have ej : ss[ah + i]? = some ss[ah + i] := List.getElem?_eq_getElem hjl
      obtain ⟨sj, tj, oj⟩ := sq10.mono sm _ (List.getElem_mem hjl)
      refine ⟨rfl, ?_⟩
      refine ⟨_, rfl, _, rfl, sl, _, _, _, rfl, rfl, SqL.of (sm _ _ esl10), atI_nat (j := ah + i) ej, ?_⟩
      refine ⟨by show 2 ≤ sizeLine; decide, fun t1 ht1 => ⟨by show 1 ≤ sizeLine; decide, fun t2 ht2 => ?_⟩⟩
      have s2 := (same_new (o := .tup [.str "y", .non]) ht1).trans (same_new (o := .tup [.ref t1]) ht2)
      refine ⟨_, dSts [("y", none)], (tj.mono s2).dp, .tup (SqT.of upd_same) (.cons (.tup (SqT.of (same_new ht2 _ _ upd_same)) (.cons (.str _) (.cons .non .nil))) .nil), sets_shaped oj, sets_shaped yn_ok, _, rfl, ?_⟩
      have e32 := s2 _ _ e3
      have sm2 := sm.trans s2
      generalize upd (upd H' t1 (.tup [.str "y", .non])) t2 (.tup [.ref t1]) = H12 at *
      refine ite2 (fun _ => ?_) (fun _ => ⟨is, e32, sm2, hj, by omega⟩)
      refine ⟨_, rfl, _, e32, by rw [List.length_map]; exact small1000 (by omega), is ++ [(ah : Int) + i], by rw [upd_same, List.map_append]; rfl, keep_sameL (H' := H) hD3 sm2, ?_, ?_⟩
      · intro j' hj'
        rcases List.mem_append.mp hj' with h | h
        · exact hj j' h
        · rw [List.mem_singleton.mp h]
          omega
      · rw [List.length_append]
        exact Nat.succ_le_succ il
    obtain ⟨is, e3, s11, hj, il⟩ := hp
    have k11 := k10.trans (keep_same (p := p) s11)
    have lf11 : Lf H11 p := by
      obtain ⟨n, h⟩ := lf10
      exact ⟨n, s11 _ _ h⟩
    -- what reads alone
    refine ⟨fun σ H' => ∃ sl ss nd x8, σ = [some (.ref p), some (.int ah), some (.int mn), some (.ref dl), some (.ref sl), some (.ref rd), some (.ref dr), some (.ref nd), x8, none, none, none, none, none] ∧ Keep p H H' ∧ Lf H' p ∧ H' sl = some (.lst ss) ∧ SetsAll K H' ss ∧ ss.length = ah + mn ∧ NuAt K H' nd 10 ∧ TP K H' rd x ∧ TP K H' dr y ∧ H' dl = some (.lst (dd.map V.str)), ?_, fun σ H12 hI => ?_⟩
    · refine ⟨_, rfl, by show 0 ≤ sizeLine; decide, fun B2 hB2 => ?_⟩
      have sB := same_new (o := .lst []) hB2
      have dpi : ∀ js : List Int, DpAll K (upd H11 B2 (.lst [])) (js.map V.int) (js.map PyData.int) := fun js => by
        induction js with
        | nil => exact .nil
        | cons j js ih => exact .cons (.int j) ih
      have shi : ∀ js : List Int, PyData.canLayAll0 (js.map PyData.int) = true ∧ PyData.depthAll (js.map PyData.int) ≤ 0 := fun js => by
        induction js with
        | nil => exact ⟨rfl, Nat.le_refl _⟩
        | cons j js ih =>
          refine ⟨?_, ?_⟩
          · rw [List.map_cons, PyData.canLayAll0, ih.1, PyData.canLay0]
            rfl
          · rw [List.map_cons, PyData.depthAll, PyData.depth]
            omega
      have shl : ∀ js : List Int, SeqAt.shaped (.list (js.map PyData.int)) = true := fun js => by
        show (PyData.canLay0 (.list (js.map PyData.int)) && decide (PyData.depth (.list (js.map PyData.int)) ≤ 64)) = true
        have := (shi js).2
        rw [PyData.canLay0, (shi js).1, PyData.depth, decide_eq_true (by omega)]
        rfl
      refine ⟨_, _, .lst (SqL.of (sB _ _ e3)) (dpi is), .lst (SqL.of upd_same) .nil, shl is, shl [], _, rfl, ?_⟩
      have s12 := s11.trans sB
      have e312 := sB _ _ e3
      have k12 := k11.trans (keep_same (p := p) sB)
      have lf12 := lf_upd (o := .lst []) lf11 (lf_ne lf11 hB2)
      generalize upd H11 B2 (.lst []) = H12 at *
      have esl12 := s12 _ _ esl10
      have sq12 := sq10.mono s12
      have nu12 := nu10.mono s12
      have trd12 : TP K H12 rd x := SqT.of (s12 _ _ erd)
      have tdr12 : TP K H12 dr y := SqT.of (s12 _ _ edr)
      have edl12 := s12 _ _ edl10
      refine ite2 (fun hne => ?_) (fun _ => ⟨sl, ss, nd, _, rfl, k12, lf12, esl12, sq12, len5, nu12, trd12, tdr12, edl12⟩)
      have hne' : is ≠ [] := fun z => by
        rw [z] at hne
        exact absurd hne (by decide)
      refine ⟨_, rfl, sl, rfl, ⟨_, SqL.of esl12⟩, fun D4 hD4 => ?_⟩
      refine lc_list (K := K) (xs := ss) (fun i H' => ∃ us, H' D4 = some (.lst us) ∧ Same H12 H' ∧ SetsAll K H' us ∧ us.length = i)
        ⟨[], upd_same, same_new hD4, fun z hz => absurd hz List.not_mem_nil, rfl⟩ (fun i H' _ hp => ?_) (fun i v H' hv hp => ?_) (fun H13 hp => ?_)
      · obtain ⟨us, _, sm, _⟩ := hp
        exact SqL.of (sm _ _ esl12)
      · obtain ⟨us, e4, sm, su, ul⟩ := hp
        have il : i < ss.length := (List.getElem?_eq_some_iff.mp hv).1
        obtain ⟨sj, tj, oj⟩ := sq12.mono sm v (List.mem_of_getElem? hv)
        obtain ⟨ta, tx, rfl, tsq, tall⟩ := tp_tup tj
        have tl : tx.length ≤ 2 := by rw [tall.len, List.length_map]; exact oj.ln
        refine ⟨rfl, ?_⟩
        refine ⟨_, rfl, ta, rfl, ⟨_, tsq⟩, fun D5 hD5 => ?_⟩
        refine lc_tup (K := K) (xs := tx) (fun i2 H'' => ∃ ws ts, H'' = upd H' D5 (.lst ws) ∧ TpAll K H' ws (ts.map dSt) ∧ (∀ t ∈ ts, t ∈ sj) ∧ ws.length ≤ i2)
          ⟨[], [], rfl, .nil, fun t ht => absurd ht List.not_mem_nil, Nat.le_refl _⟩ (fun i2 H'' _ hp => ?_) (fun i2 v2 H'' hv2 hp => ?_) (fun H'' hp => ?_)
        · obtain ⟨ws, ts, rfl, _⟩ := hp
          exact same_tup (same_new hD5) tsq
        · obtain ⟨ws, ts, rfl, tw, tin, wl⟩ := hp
          have i2l : i2 < tx.length := (List.getElem?_eq_some_iff.mp hv2).1
          obtain ⟨d2, ed2, td2⟩ := tall.get hv2
          rw [List.getElem?_map] at ed2
          cases es2 : sj[i2]? with
          | none => rw [es2] at ed2; cases ed2
          | some s2 =>
            rw [es2] at ed2
            have ed2' : dSt s2 = d2 := Option.some.inj ed2
            have sh2 : ∃ rest, dSt s2 = .tuple [.str s2.1, rest] := by
              obtain ⟨b, l⟩ := s2
              cases l <;> exact ⟨_, rfl⟩
            obtain ⟨rest, er⟩ := sh2
            rw [← ed2'] at td2
            have td3 := td2
            rw [er] at td3
            obtain ⟨a2, v20, v21, rfl, sq2', t20, _⟩ := tp_two td3
            cases tp_str t20
            refine ⟨rfl, ?_⟩
            refine ⟨_, rfl, a2, _, 0, _, rfl, rfl, same_tup (same_new hD5) sq2', atI_nat (j := 0) rfl, rfl, _, rfl, ite2 (fun _ => ?_) (fun _ => ⟨ws, ts, rfl, tw, tin, by omega⟩)⟩
            refine ⟨_, rfl, ws, upd_same, small1000 (by omega), ws ++ [.ref a2], ts ++ [s2], ?_, ?_, ?_, ?_⟩
            · funext b
              by_cases e : b = D5
              · rw [e, upd_same, upd_same]
              · rw [upd_ne e, upd_ne e, upd_ne e]
            · rw [List.map_append]
              exact tw.app (.cons td2 .nil)
            · intro t ht
              rcases List.mem_append.mp ht with h | h
              · exact tin t h
              · rw [List.mem_singleton.mp h]
                exact List.mem_of_getElem? es2
            · rw [List.length_append]
              exact Nat.succ_le_succ wl
        · obtain ⟨ws, ts, rfl, tw, tin, wl⟩ := hp
          refine ⟨D5, ws, rfl, .inl ⟨SqL.of upd_same, fun tt htt => ?_⟩⟩
          have s5' := (same_new (o := .lst ws) hD5).trans (same_new (o := .tup ws) htt)
          have e45 := s5' _ _ e4
          have tsl : ts.length ≤ 2 := by
            have := tw.len
            rw [List.length_map] at this
            omega
          refine ⟨us, e45, small1000 (by omega), us ++ [.ref tt], upd_same, keep_sameL (H' := H) hD4 (sm.trans s5'), ?_, ?_⟩
          · intro v' hv'
            rcases List.mem_append.mp hv' with h | h
            · obtain ⟨s0, t0, o0⟩ := su v' h
              exact ⟨s0, (t0.mono s5').keepL keep_upd ⟨_, e45⟩, o0⟩
            · rw [List.mem_singleton.mp h]
              refine ⟨ts, Tp.keepL keep_upd ⟨_, e45⟩ (.tup (SqT.of upd_same) (tw.mono s5')), ⟨fun t ht => oj.ok t (tin t ht), tsl⟩⟩
          · rw [List.length_append, ul]
            rfl
      · obtain ⟨us, e4, s13, su, ul⟩ := hp
        refine ⟨by show 2 ≤ sizeLine; decide, fun t1 ht1 => ⟨by show 1 ≤ sizeLine; decide, fun t2 ht2 => ?_⟩⟩
        have s14 := (same_new (o := .tup [.str "y", .non]) ht1).trans (same_new (o := .tup [.ref t1]) ht2)
        have tyn : Tp K (upd (upd H13 t1 (.tup [.str "y", .non])) t2 (.tup [.ref t1])) (.ref t2) (dSts [("y", none)]) := .tup (SqT.of upd_same) (.cons (.tup (SqT.of (same_new ht2 _ _ upd_same)) (.cons (.str _) (.cons .non .nil))) .nil)
        generalize upd (upd H13 t1 (.tup [.str "y", .non])) t2 (.tup [.ref t1]) = H14 at *
        have s1214 := s13.trans s14
        have e414 := s14 _ _ e4
        have su14 := su.mono s14
        obtain ⟨j0, is', rfl⟩ : ∃ j0 is', is = j0 :: is' := by
          cases is with
          | nil => exact absurd rfl hne'
          | cons j0 is' => exact ⟨_, _, rfl⟩
        obtain ⟨hj0, hj1⟩ := hj j0 List.mem_cons_self
        have ul' : us.length = ah + mn := by rw [ul]; exact len5
        refine ⟨_, rfl, _, rfl, D3, _, 0, _, rfl, rfl, SqL.of (s1214 _ _ e312), atI_nat (j := 0) rfl, D4, us, j0, j0.toNat, rfl, rfl, e414, ?_, ?_⟩
        · unfold ixN
          rw [if_pos (by omega), if_pos (by omega)]
        have kk15 : Keep D4 H14 (upd H14 D4 (.lst (us.set j0.toNat (.ref t2)))) := keep_upd
        have e15 : upd H14 D4 (.lst (us.set j0.toNat (.ref t2))) D4 = some (.lst (us.set j0.toNat (.ref t2))) := upd_same
        have hD4H : H12 D4 = none := hD4
        have s15 : Same H12 (upd H14 D4 (.lst (us.set j0.toNat (.ref t2)))) := keep_sameL (H' := H) hD4H s1214
        have su15 : SetsAll K (upd H14 D4 (.lst (us.set j0.toNat (.ref t2)))) (us.set j0.toNat (.ref t2)) := fun v' hv' => by
          rcases List.mem_or_eq_of_mem_set hv' with h | h
          · obtain ⟨s0, t0, o0⟩ := su14 v' h
            exact ⟨s0, t0.keepL kk15 ⟨_, e414⟩, o0⟩
          · rw [h]
            exact ⟨_, tyn.keepL kk15 ⟨_, e414⟩, yn_ok⟩
        generalize upd H14 D4 (.lst (us.set j0.toNat (.ref t2))) = H15 at *
        have nu15 := nu12.mono s15
        have trd15 := same_tup s15 trd12
        have tdr15 := same_tup s15 tdr12
        -- numbers["y"]
        refine ⟨_, rfl, _, rfl, dr, _, 0, _, rfl, rfl, tdr15, at0, _, _, rfl, rfl, _, rfl, dr, _, 1, _, rfl, rfl, tdr15, at1, by show 2 ≤ sizeLine; decide, fun t7 ht7 => ?_⟩
        have s16 := same_new (o := .tup [.int (0 - y.1), .int y.2]) ht7
        have shng : Sh (0 - y.1, y.2) := by
          have z := sy.ng
          rw [show (0 - y.1, y.2) = ng y by unfold ng; rw [Int.zero_sub]]
          exact z
        have bng : Bd 4 (0 - y.1, y.2) := ⟨by rw [Int.zero_sub, Int.natAbs_neg]; exact by_.1, by_.2⟩
        refine ⟨rd, t7, x, (0 - y.1, y.2), rfl, same_tup s16 trd15, SqT.of upd_same, sx, shng, bx.mono (by decide), bng.mono (by decide), fun H17 r10 s17 _ e10 => ?_⟩
        have s1217 := s15.trans (s16.trans s17)
        have nu17 := nu12.mono s1217
        obtain ⟨kvs, ekv, _, _⟩ := nu17
        have nu17 := nu12.mono s1217
        refine ⟨_, rfl, nd, _, rfl, DPut.k (k := .inr "y") ekv ?_, ?_⟩
        · obtain ⟨kvs', ekv', hks, _⟩ := nu17
          rw [ekv] at ekv'
          cases ekv'
          have := congrArg List.length hks
          rw [List.length_map] at this
          exact small1000 (by rw [this]; decide)
        · have nu18 := NuAt.put ekv nu17 (show ("y" : Str) ∈ xy by decide) (SqT.of e10) (pl_sh sx shng) ((pl_bd sx shng bx bng).mono (by decide))
          have nD4 : D4 ≠ nd := fun z => by
            have hq := s17 _ _ (s16 _ _ e15)
            rw [z, ekv] at hq
            cases hq
          have ndl : dl ≠ nd := fun z => by
            have := s1217 _ _ edl12
            rw [z, ekv] at this
            cases this
          have npd : p ≠ nd := fun z => pnd z.symm
          have lf17 : Lf H17 p := by
            obtain ⟨n, h⟩ := lf12
            exact ⟨n, s1217 _ _ h⟩
          refine ⟨D4, _, nd, _, rfl, ?_, lf_upd lf17 npd, by rw [upd_ne nD4]; exact s17 _ _ (s16 _ _ e15), ?_, by rw [List.length_set]; exact ul', nu18, sqt_upd ekv (same_tup s1217 trd12), sqt_upd ekv (same_tup s1217 tdr12), by rw [upd_ne ndl]; exact s1217 _ _ edl12⟩
          · intro b o nb e
            rw [upd_ne (ne_of_none e hndH)]
            exact (k12.trans (keep_same s1217)) b o nb e
          · intro v' hv'
            obtain ⟨s0, t0, o0⟩ := (su15.mono (s16.trans s17)) v' hv'
            exact ⟨s0, Tp.keepD ekv t0, o0⟩
    · obtain ⟨sl, ss, nd, x8', rfl, k12, lf12, esl12, sq12, len12, nu12, trd12, tdr12, edl12⟩ := hI
      refine fun fo hfo => ?_
      have sf : Same H12 (upd H12 fo (.dK [])) := same_new hfo
      refine ⟨_, rfl, _, rfl, _, rfl, _, rfl, _, rfl, upd_same, [(.inr "ahead", .int ah), (.inr "many", .int mn), (.inr "deeds", .ref dl), (.inr "sets", .ref sl), (.inr "read", .ref rd)], rfl, by show 5 ≤ 15; decide, ?_⟩
      have ekv0 : mergeK [] [((.inr "ahead" : Key), V.int ah), (.inr "many", .int mn), (.inr "deeds", .ref dl), (.inr "sets", .ref sl), (.inr "read", .ref rd)] = [((.inr "ahead" : Key), V.int ah), (.inr "many", .int mn), (.inr "deeds", .ref dl), (.inr "sets", .ref sl), (.inr "read", .ref rd)] := rfl
      rw [ekv0]
      have s13 : Same H12 (upd (upd H12 fo (.dK [])) fo (.dK [((.inr "ahead" : Key), V.int ah), (.inr "many", .int mn), (.inr "deeds", .ref dl), (.inr "sets", .ref sl), (.inr "read", .ref rd)])) := fun b o e => by
        rw [upd_ne (ne_of_none e hfo)]
        exact sf _ _ e
      have efo : upd (upd H12 fo (.dK [])) fo (.dK [((.inr "ahead" : Key), V.int ah), (.inr "many", .int mn), (.inr "deeds", .ref dl), (.inr "sets", .ref sl), (.inr "read", .ref rd)]) fo = some (.dK [((.inr "ahead" : Key), V.int ah), (.inr "many", .int mn), (.inr "deeds", .ref dl), (.inr "sets", .ref sl), (.inr "read", .ref rd)]) := upd_same
      generalize upd (upd H12 fo (.dK [])) fo (.dK [((.inr "ahead" : Key), V.int ah), (.inr "many", .int mn), (.inr "deeds", .ref dl), (.inr "sets", .ref sl), (.inr "read", .ref rd)]) = H13 at *
      refine ⟨_, rfl, _, rfl, by show 2 ≤ sizeLine; decide, fun t1 ht1 => ?_⟩
      have s14 := s13.trans (same_new (o := .tup [.ref dr, .ref nd]) ht1)
      have efo14 := same_new (o := .tup [.ref dr, .ref nd]) ht1 _ _ efo
      have et14 : upd H13 t1 (.tup [.ref dr, .ref nd]) t1 = some (.tup [.ref dr, .ref nd]) := upd_same
      generalize upd H13 t1 (.tup [.ref dr, .ref nd]) = H14 at *
      refine ⟨t1, _, rfl, SqT.of et14, rfl, _, _, rfl, _, rfl, fo, _, rfl, DPut.k (k := .inr "drift") efo14 (small1000 (by show 5 ≤ 1000; decide)), _, _, rfl, _, rfl, fo, _, rfl, DPut.k (k := .inr "numbers") upd_same (small1000 (by show 6 ≤ 1000; decide)), rfl, ?_⟩
      have ekv2 : putK (putK [((.inr "ahead" : Key), V.int ah), (.inr "many", .int mn), (.inr "deeds", .ref dl), (.inr "sets", .ref sl), (.inr "read", .ref rd)] (.inr "drift") (.ref dr)) (.inr "numbers") (.ref nd) = [((.inr "ahead" : Key), V.int ah), (.inr "many", .int mn), (.inr "deeds", .ref dl), (.inr "sets", .ref sl), (.inr "read", .ref rd), (.inr "drift", .ref dr), (.inr "numbers", .ref nd)] := rfl
      rw [ekv2]
      have s15 : Same H12 (upd (upd H14 fo (.dK (putK [((.inr "ahead" : Key), V.int ah), (.inr "many", .int mn), (.inr "deeds", .ref dl), (.inr "sets", .ref sl), (.inr "read", .ref rd)] (.inr "drift") (.ref dr)))) fo (.dK [((.inr "ahead" : Key), V.int ah), (.inr "many", .int mn), (.inr "deeds", .ref dl), (.inr "sets", .ref sl), (.inr "read", .ref rd), (.inr "drift", .ref dr), (.inr "numbers", .ref nd)])) := fun b o e => by
        rw [upd_ne (ne_of_none e hfo), upd_ne (ne_of_none e hfo)]
        exact s14 _ _ e
      have efo15 : upd (upd H14 fo (.dK (putK [((.inr "ahead" : Key), V.int ah), (.inr "many", .int mn), (.inr "deeds", .ref dl), (.inr "sets", .ref sl), (.inr "read", .ref rd)] (.inr "drift") (.ref dr)))) fo (.dK [((.inr "ahead" : Key), V.int ah), (.inr "many", .int mn), (.inr "deeds", .ref dl), (.inr "sets", .ref sl), (.inr "read", .ref rd), (.inr "drift", .ref dr), (.inr "numbers", .ref nd)]) fo = _ := upd_same
      generalize upd (upd H14 fo (.dK (putK [((.inr "ahead" : Key), V.int ah), (.inr "many", .int mn), (.inr "deeds", .ref dl), (.inr "sets", .ref sl), (.inr "read", .ref rd)] (.inr "drift") (.ref dr)))) fo (.dK [((.inr "ahead" : Key), V.int ah), (.inr "many", .int mn), (.inr "deeds", .ref dl), (.inr "sets", .ref sl), (.inr "read", .ref rd), (.inr "drift", .ref dr), (.inr "numbers", .ref nd)]) = H15 at *
      have lf15 : Lf H15 p := by
        obtain ⟨n, h⟩ := lf12
        exact ⟨n, s15 _ _ h⟩
      refine ⟨_, rfl, q H15 fo ⟨ah, mn, dl, sl, nd, rd, dr, dd, ss, x, y⟩ (k12.trans (keep_same s15)) lf15 ?_⟩
      exact ⟨⟨_, efo15, rfl, rfl, rfl, rfl, rfl, rfl, rfl⟩, s15 _ _ edl12, s15 _ _ esl12, sq12.mono s15, same_tup s15 trd12, sx, bx, same_tup s15 tdr12, sy, by_, nu12.mono s15, len12, ha2, hm1, hm3, d5, d6, dk⟩
end
end W25

namespace W25
open PySem PySem.Spec PyProof.Rows L2 Gs
/-! ### the rows of a machine -/
/-- a text of a drawing: it may be laid, and is short when shown -/
def Tx (z : Str) : Prop := PyData.strOk z = true ∧ (reprText z).length ≤ 30
instance : DecidablePred Tx := fun z => inferInstanceAs (Decidable (PyData.strOk z = true ∧ (reprText z).length ≤ 30))
structure McOk (m : Mc) : Prop where
  nm : Tx m.nm
  s1 : 1 ≤ m.sp.length
  s6 : m.sp.length ≤ 6
  so : ∀ z ∈ m.sp, Tx z
  r6 : m.rw_.length ≤ 6
  ro : ∀ r ∈ m.rw_, Tx r.2.1
def spRows (K : PySem.W.Frag) : Sp := fun vs H Q _ => ∃ (p o : Addr) (w : Own), vs = [.ref p, .ref o] ∧ Lf H p ∧ OwnAt K H o w ∧ ∀ H' v mc, Keep p H H' → Lf H' p → Tp K H' v (dMc mc) → McOk mc → Q v H'
abbrev NR : List Str := ["_law_left_here", "_law_own", "_law_ahead", "_law_sets", "_law_read", "_law_total_many", "_law_stem", "_law_one", "_law_two", "_law_spots", "_law_rows", "_law_at", "_law_here", "_law_later", "_law_to"]
theorem scRows : FnScope NR ["_law_left_here", "_law_own"] (defScope sRows) := ⟨rfl, rfl, rfl, by decide +kernel, rfl, by decide +kernel, by decide +kernel⟩
theorem cut_to (xs : List V) (k : Nat) : cutV xs none (some (k : Int)) = xs.take k := by
  unfold cutV
  rw [HT.sIx_none, HT.sIx_nat, List.drop_zero, Nat.sub_zero]
  by_cases h : k ≤ xs.length
  · rw [Nat.min_eq_left h]
  · rw [Nat.min_eq_right (by omega), List.take_of_length_le (Nat.le_refl _), List.take_of_length_le (by omega)]
theorem cut_from (xs : List V) (k : Nat) : cutV xs (some (k : Int)) none = xs.drop k := by
  unfold cutV
  rw [HT.sIx_none, HT.sIx_nat]
  by_cases h : k ≤ xs.length
  · rw [Nat.min_eq_left h, List.take_of_length_le (by rw [List.length_drop]; exact Nat.le_refl _)]
  · rw [Nat.min_eq_right (by omega), List.drop_of_length_le (Nat.le_refl _), List.drop_of_length_le (by omega), List.take_nil]
theorem refs_ne {H : Hp} {p L : Addr} {ds : List Addr} (lf : Lf H p) (h : H L = some (.lst (ds.map V.ref))) : L ≠ p := fun e => by
  obtain ⟨n, hn⟩ := lf
  rw [e, hn] at h
  injection h with h
  injection h with h
  cases ds with
  | nil => cases h
  | cons d ds =>
    rw [List.map_cons] at h
    injection h with h1
    cases h1
theorem texts_ne {H : Hp} {p L : Addr} {zs : List Str} (lf : Lf H p) (h : H L = some (.lst (zs.map V.str))) : L ≠ p := fun e => by
  obtain ⟨n, hn⟩ := lf
  rw [e, hn] at h
  injection h with h
  injection h with h
  cases zs with
  | nil => cases h
  | cons d ds =>
    rw [List.map_cons] at h
    injection h with h1
    cases h1
theorem refs_at {ds : List Addr} {j : Nat} (h : j < ds.length) : (ds.map V.ref)[j]? = some (.ref ds[j]) := by rw [List.getElem?_map, List.getElem?_eq_getElem h]; rfl
theorem texts_at {ds : List Str} {j : Nat} (h : j < ds.length) : (ds.map V.str)[j]? = some (.str ds[j]) := by rw [List.getElem?_map, List.getElem?_eq_getElem h]; rfl
theorem atI_neg1 {α : Type} {xs : List α} {j : Nat} {v : α} (hl : xs.length = j + 1) (h : xs[j]? = some v) : atI xs (-1) = some v := by
  have e : ixN xs.length (-1) = some j := by
    unfold ixN
    rw [if_neg (by decide), if_pos (by omega)]
    congr 1
    omega
  unfold atI
  rw [e]
  exact h
def spotW : List Str := ["a", "b", "c", "d", "e", "f"]
section
variable {P : Program} {w : World} {K : PySem.W.Frag} {mg : Str → Option Value} {base : Heap} {f f1 f2 f3 : Addr} {fd d1 d2 d3 : FuncData}
theorem ok_rows (F : Fun K "_law_machine_rows" "_law_machine_rows" sRows f fd) (Al : Cl P w K mg base CX0 5 "_law_along" ["_law_numbers", "_law_rows", "_law_given"] (spAlong K) f1 d1)
    (Pl : Cl P w K mg base CX0 2 "_law_plus" ["_law_one", "_law_other"] (spTwo K pl) f2 d2) (Wi : Cl P w K mg base CX0 4 "_law_wishes_for" ["_law_left_here", "_law_here", "_law_later"] (spWishes K) f3 d3)
    (mr : mg "range" = none) (mt : mg "tuple" = none) : FnOk P w K mg base CX0 6 f fd ["_law_left_here", "_law_own"] (spRows K) := by
  refine F.ok scRows (fun vs H Q E h => ?_) (fun cdv A outer s H vs Q E hr h => ?_)
  · obtain ⟨p, o, w, rfl, _⟩ := h
    rfl
  · obtain ⟨p, o, w, rfl, lf, ow, q⟩ := h
    have r2 := hr.mono (j := 2) (by decide)
    have r4 := hr.mono (j := 4) (by decide)
    refine ⟨_, pss_cons (ps_par3 (i := 2) (j := 3) (l := 4) (by rfl) scRows.nd rfl rfl rfl (by decide) (by decide) (by decide) rfl rfl rfl (pa_cons (pe_dget (hu_of hr) (pv 1) pe_str (fun _ _ => rfl)) (pa_cons (pe_dget (hu_of hr) (pv 1) pe_str (fun _ _ => rfl)) (pa_cons (pe_dget (hu_of hr) (pv 1) pe_str (fun _ _ => rfl)) pa_nil))) (by rfl))
      (pss_cons (ps_set (i := 5) scRows.nd rfl (.inl rfl) (pe_op op_add (pv 2) (pe_dget (hu_of hr) (pv 1) pe_str (fun _ _ => rfl))))
      (pss_cons (ps_set (i := 6) scRows.nd rfl (.inl rfl) (pe_call Al.ok hr (by rfl) Al.g Al.kp Al.bd .nil pass0 (pa_cons (pe_dget (hu_of hr) (pv 1) pe_str (fun _ _ => rfl)) (pa_cons (pe_slice sl_list (pv 3) po_none (po_some (pv 2))) (pa_cons (pv 4) pa_nil)))))
      (pss_cons (ps_set (i := 7) scRows.nd rfl (.inl rfl) (pe_call Al.ok hr (by rfl) Al.g Al.kp Al.bd .nil pass0 (pa_cons (pe_ix ix_list (pv 6) (pe_un un_neg pe_int) (fun _ _ => rfl)) (pa_cons (pe_slice sl_list (pv 3) (po_some (pv 2)) po_none) (pa_cons (pv 4) pa_nil)))))
      (pss_cons (ps_set (i := 8) scRows.nd rfl (.inl rfl) (pe_call Al.ok hr (by rfl) Al.g Al.kp Al.bd .nil pass0 (pa_cons (pe_ix ix_list (pv 7) (pe_un un_neg pe_int) (fun _ _ => rfl)) (pa_cons (pe_slice sl_list (pv 3) (po_some (pv 2)) po_none) (pa_cons (pe_call Pl.ok r2 (by rfl) Pl.g Pl.kp Pl.bd .nil pass0 (pa_cons (pv 4) (pa_cons (pe_dget (hu_of hr) (pv 1) pe_str (fun _ _ => rfl)) pa_nil))) pa_nil)))))
      (pss_cons (ps_set (i := 9) scRows.nd rfl (.inl rfl) (pe_slice sl_list (pe_lst (pa_cons pe_str (pa_cons pe_str (pa_cons pe_str (pa_cons pe_str (pa_cons pe_str (pa_cons pe_str pa_nil))))))) po_none (po_some (pv 5))))
      (pss_cons (ps_set (i := 10) scRows.nd rfl (.inl rfl) (pe_lst pa_nil))
      (pss_cons (ps_for PassesOwn.never rfl (pi_range1 (by rfl) mr (pa_cons (pv 5) pa_nil)) (pg_name (i := 11) scRows.nd rfl (Or.inl rfl))
        (pss_join (ps_set (i := 12) scRows.nd rfl (.inl rfl) (pe_ifExp (pt_cmpR op_lt (pv 11) (pv 2) (nomark _)) (pe_ix ix_list (pv 6) (pv 11) (fun _ _ => rfl)) (pe_ix ix_list (pv 7) (pe_op op_sub (pv 11) (pv 2)) (fun _ _ => rfl))))
        (pss_join (ps_set (i := 13) scRows.nd rfl (.inl rfl) (pe_ifExp (pt_cmpR op_lt (pv 11) (pv 2) (nomark _)) (pv 12) (pe_ix ix_list (pv 8) (pe_op op_sub (pv 11) (pv 2)) (fun _ _ => rfl))))
        (pss_join (ps_set (i := 14) scRows.nd rfl (.inl rfl) (pe_ifExp (pt_cmpR op_lt (pe_op op_add (pv 11) pe_int) (pv 5) (nomark _)) (pe_ix ix_list (pv 9) (pe_op op_add (pv 11) pe_int) (fun _ _ => rfl)) (pe_ix ix_list (pv 9) (pv 2) (fun _ _ => rfl))))
        (pss_one (ps_expr (pe_bm PySem.F.plainAttrs_list PySem.F.slot_list_append PySem.F.type_list_append mt_append (pv 10) (pa_cons (pe_tup (pa_cons (pe_ix ix_list (pv 9) (pv 11) (fun _ _ => rfl)) (pa_cons (pe_ix ix_list (pe_dget (hu_of hr) (pv 1) pe_str (fun _ _ => rfl)) (pv 11) (fun _ _ => rfl))
          (pa_cons (pe_call Wi.ok r4 (by rfl) Wi.g Wi.kp Wi.bd .nil pass0 (pa_cons (pv 0) (pa_cons (pv 12) (pa_cons (pv 13) pa_nil)))) (pa_cons (pe_ix ix_list (pv 3) (pv 11) (fun _ _ => rfl)) (pa_cons (pv 14) pa_nil)))))) pa_nil))))))))
      (pss_one (ps_ret (pe_tup (pa_cons pe_str (pa_cons (pe_callTy call_tuple_of (by rfl) mt (by decide +kernel) (pa_cons (pv 9) pa_nil)) (pa_cons (pe_callTy call_tuple_of (by rfl) mt (by decide +kernel) (pa_cons (pv 10) pa_nil)) pa_nil))))))))))))), ?_⟩
    obtain ⟨tot, etot⟩ : ∃ tot : Nat, tot = w.ah + w.mn := ⟨_, rfl⟩
    have a2 := ow.a2
    have m1 := ow.m1
    have m3 := ow.m3
    have t5 : tot ≤ 5 := by omega
    have d5 := ow.d5
    refine ⟨_, rfl, o, _, rfl, ow.ahead, _, rfl, o, _, rfl, ow.sets, _, rfl, o, _, rfl, ow.read, _, _, _, rfl, ?_⟩
    refine ⟨_, rfl, _, rfl, o, _, rfl, ow.many, _, _, rfl, rfl, ?_⟩
    have etI : ((w.ah : Int) + (w.mn : Int)) = (tot : Int) := by omega
    -- stem
    refine ⟨_, rfl, o, _, rfl, ow.numbers, _, rfl, _, rfl, _, rfl, w.sl, _, rfl, SqL.of ow.sl, fun c1 hc1 => ?_⟩
    rw [cut_to]
    have s1 := same_new (o := .lst (w.ss.take w.ah)) hc1
    have ow1 := ow.mono s1
    refine ⟨_, rfl, w.nd, c1, w.rd, w.ss.take w.ah, w.x, 10, rfl, ow1.nu, upd_same, fun z hz => ow1.st z (List.mem_of_mem_take hz), by rw [List.length_take]; omega, ow1.rd, ow.rs, ow.rb.mono (by decide), by decide, fun H2 L0 ds0 s2 e0 nu0 l0 => ?_⟩
    have l0' : ds0.length = w.ah + 1 := by
      rw [l0, List.length_take, ow.ln]
      omega
    have s12 := s1.trans s2
    have ow2 := ow.mono s12
    -- one
    refine ⟨_, rfl, _, rfl, L0, _, -1, .ref (ds0[w.ah]'(by omega)), rfl, rfl, SqL.of e0, ?_, ?_⟩
    · exact atI_neg1 (by rw [List.length_map, l0']) (refs_at (by omega))
    refine ⟨_, rfl, _, rfl, _, rfl, w.sl, _, rfl, SqL.of ow2.sl, fun c2 hc2 => ?_⟩
    rw [cut_from]
    have s3 := same_new (o := .lst (w.ss.drop w.ah)) hc2
    have ow3 := ow2.mono s3
    refine ⟨_, rfl, ds0[w.ah]'(by omega), c2, w.rd, w.ss.drop w.ah, w.x, 64, rfl, (nu0 _ (List.getElem_mem (by omega))).mono s3, upd_same, fun z hz => ow3.st z (List.mem_of_mem_drop hz), by rw [List.length_drop, ow.ln]; omega, ow3.rd, ow.rs, ow.rb.mono (by decide), by decide, fun H4 L1 ds1 s4 e1 nu1 l1 => ?_⟩
    have l1' : ds1.length = w.mn + 1 := by
      rw [l1, List.length_drop, ow.ln]
      omega
    have s34 := s3.trans s4
    have ow4 := ow2.mono s34
    -- two
    refine ⟨_, rfl, _, rfl, L1, _, -1, .ref (ds1[w.mn]'(by omega)), rfl, rfl, SqL.of e1, ?_, ?_⟩
    · exact atI_neg1 (by rw [List.length_map, l1']) (refs_at (by omega))
    refine ⟨_, rfl, _, rfl, _, rfl, w.sl, _, rfl, SqL.of ow4.sl, fun c3 hc3 => ?_⟩
    rw [cut_from]
    have s5 := same_new (o := .lst (w.ss.drop w.ah)) hc3
    have ow5 := ow4.mono s5
    refine ⟨_, rfl, _, rfl, o, _, rfl, ow5.drift, w.rd, w.dr, w.x, w.y, rfl, ow5.rd, ow5.dr, ow.rs, ow.ds, ow.rb.mono (by decide), ow.db.mono (by decide), fun H6 g6 s6 _ e6 => ?_⟩
    have s56 := s5.trans s6
    have ow6 := ow4.mono s56
    refine ⟨ds1[w.mn]'(by omega), c3, g6, w.ss.drop w.ah, pl w.x w.y, 118, rfl, (nu1 _ (List.getElem_mem (by omega))).mono s56, s6 _ _ upd_same, fun z hz => ow6.st z (List.mem_of_mem_drop hz), by rw [List.length_drop, ow.ln]; omega, SqT.of e6, pl_sh ow.rs ow.ds, (pl_bd ow.rs ow.ds ow.rb ow.db).mono (by decide), by decide, fun H7 L2 ds2 s7 e2 nu2 l2 => ?_⟩
    have l2' : ds2.length = w.mn + 1 := by
      rw [l2, List.length_drop, ow.ln]
      omega
    -- spots
    refine ⟨by show 6 ≤ sizeLine; decide, fun B hB => ⟨_, rfl, _, rfl, B, _, rfl, SqL.of upd_same, fun Sp hSp => ?_⟩⟩
    have ecut : cutV [V.str "a", V.str "b", V.str "c", V.str "d", V.str "e", V.str "f"] none (some ((w.ah : Int) + (w.mn : Int))) = (spotW.take tot).map V.str := by
      rw [etI, cut_to, List.map_take]
      rfl
    rw [ecut]
    have s8 := (same_new (o := .lst [.str "a", .str "b", .str "c", .str "d", .str "e", .str "f"]) hB).trans (same_new (o := .lst ((spotW.take tot).map V.str)) hSp)
    have eSp : upd (upd H7 B (.lst [.str "a", .str "b", .str "c", .str "d", .str "e", .str "f"])) Sp (.lst ((spotW.take tot).map V.str)) Sp = some (.lst ((spotW.take tot).map V.str)) := upd_same
    have spl : (spotW.take tot).length = tot := by
      rw [List.length_take]
      show min tot 6 = tot
      omega
    generalize upd (upd H7 B (.lst [.str "a", .str "b", .str "c", .str "d", .str "e", .str "f"])) Sp (.lst ((spotW.take tot).map V.str)) = H8 at *
    have s08 : Same H H8 := s12.trans (s34.trans (s56.trans (s7.trans s8)))
    have ow8 := ow.mono s08
    have e08 := (s34.trans (s56.trans (s7.trans s8))) _ _ e0
    have e18 := (s56.trans (s7.trans s8)) _ _ e1
    have e28 := s8 _ _ e2
    have nu08 : ∀ e ∈ ds0, NuAt K H8 e 172 := fun e he => ((nu0 e he).mono (s34.trans (s56.trans (s7.trans s8)))).bits (by decide)
    have nu18 : ∀ e ∈ ds1, NuAt K H8 e 172 := fun e he => ((nu1 e he).mono (s56.trans (s7.trans s8))).bits (by decide)
    have nu28 : ∀ e ∈ ds2, NuAt K H8 e 172 := fun e he => (nu2 e he).mono s8
    have lf8 : Lf H8 p := by
      obtain ⟨n, h⟩ := lf
      exact ⟨n, s08 _ _ h⟩
    -- the rows
    refine ⟨by show 0 ≤ sizeLine; decide, fun R hR => ?_⟩
    have pR : p ≠ R := lf_ne lf8 hR
    refine ⟨_, rfl, _, rfl, by omega, by omega, ?_⟩
    have etn : ((w.ah : Int) + (w.mn : Int)).toNat = tot := by omega
    refine for_range (fun i σ H' => ∃ us rs x11 x12 x13 x14, σ = [some (.ref p), some (.ref o), some (.int w.ah), some (.ref w.sl), some (.ref w.rd), some (.int ((w.ah : Int) + (w.mn : Int))), some (.ref L0), some (.ref L1), some (.ref L2), some (.ref Sp), some (.ref R), x11, x12, x13, x14] ∧ Keep p H8 H' ∧ Lf H' p ∧ H' R = some (.lst us) ∧ TpAll K H' us (rs.map dRw) ∧ us.length = i ∧ rs.length = i ∧ ∀ r ∈ rs, Tx r.2.1)
      ⟨[], [], _, _, _, _, rfl, keep_same (same_new hR), lf_upd lf8 pR, upd_same, .nil, rfl, rfl, fun r hr => absurd hr List.not_mem_nil⟩ (fun i σ H9 hi hp => ?_) (fun σ H9 hp => ?_)
    · obtain ⟨us, rs, x11, x12, x13, x14, rfl, k9, lf9, eR, tr, ul, rl, ro⟩ := hp
      have it : i < tot := by omega
      have e09 := k9 _ _ (refs_ne lf8 e08) e08
      have e19 := k9 _ _ (refs_ne lf8 e18) e18
      have e29 := k9 _ _ (refs_ne lf8 e28) e28
      have eSp9 := k9 _ _ (texts_ne lf8 eSp) eSp
      have ow9 := ow8.keep k9 lf8
      -- here
      refine ⟨fun σ H' => H9 = H' ∧ ∃ d, σ = [some (.ref p), some (.ref o), some (.int w.ah), some (.ref w.sl), some (.ref w.rd), some (.int ((w.ah : Int) + (w.mn : Int))), some (.ref L0), some (.ref L1), some (.ref L2), some (.ref Sp), some (.ref R), some (.int (0 + i)), some (.ref d), x13, x14] ∧ NuAt K H9 d 172, ?_, fun σ H' hI => ?_⟩
      · refine ⟨_, rfl, _, rfl, _, _, rfl, rfl, _, rfl, ?_⟩
        by_cases hia : i < w.ah
        · refine iteP (decide_eq_true (by omega)) ⟨_, rfl, _, rfl, L0, _, _, _, rfl, rfl, SqL.of e09, ?_, rfl, ds0[i]'(by omega), rfl, (nu08 _ (List.getElem_mem (by omega))).keep k9 lf8⟩
          rw [Int.zero_add]
          exact atI_nat (refs_at (by omega))
        · refine iteN (decide_eq_false (by omega)) ⟨_, rfl, _, rfl, _, rfl, _, _, rfl, rfl, L1, _, _, _, rfl, rfl, SqL.of e19, ?_, rfl, ds1[i - w.ah]'(by omega), rfl, (nu18 _ (List.getElem_mem (by omega))).keep k9 lf8⟩
          have e : (0 + (i : Int) - (w.ah : Int)) = ((i - w.ah : Nat) : Int) := by omega
          rw [e]
          exact atI_nat (refs_at (by omega))
      obtain ⟨rfl, d, rfl, nud⟩ := hI
      -- later
      refine ⟨fun σ H' => H9 = H' ∧ ∃ e, σ = [some (.ref p), some (.ref o), some (.int w.ah), some (.ref w.sl), some (.ref w.rd), some (.int ((w.ah : Int) + (w.mn : Int))), some (.ref L0), some (.ref L1), some (.ref L2), some (.ref Sp), some (.ref R), some (.int (0 + i)), some (.ref d), some (.ref e), x14] ∧ NuAt K H9 e 172, ?_, fun σ H' hI => ?_⟩
      · refine ⟨_, rfl, _, rfl, _, _, rfl, rfl, _, rfl, ?_⟩
        by_cases hia : i < w.ah
        · exact iteP (decide_eq_true (by omega)) ⟨_, rfl, rfl, d, rfl, nud⟩
        · refine iteN (decide_eq_false (by omega)) ⟨_, rfl, _, rfl, _, rfl, _, _, rfl, rfl, L2, _, _, _, rfl, rfl, SqL.of e29, ?_, rfl, ds2[i - w.ah]'(by omega), rfl, (nu28 _ (List.getElem_mem (by omega))).keep k9 lf8⟩
          have e : (0 + (i : Int) - (w.ah : Int)) = ((i - w.ah : Nat) : Int) := by omega
          rw [e]
          exact atI_nat (refs_at (by omega))
      obtain ⟨rfl, e, rfl, nue⟩ := hI
      -- to
      refine ⟨fun σ H' => H9 = H' ∧ ∃ z : Str, σ = [some (.ref p), some (.ref o), some (.int w.ah), some (.ref w.sl), some (.ref w.rd), some (.int ((w.ah : Int) + (w.mn : Int))), some (.ref L0), some (.ref L1), some (.ref L2), some (.ref Sp), some (.ref R), some (.int (0 + i)), some (.ref d), some (.ref e), some (.str z)], ?_, fun σ H' hI => ?_⟩
      · refine ⟨_, rfl, _, _, rfl, rfl, _, rfl, _, _, rfl, rfl, _, rfl, ?_⟩
        by_cases hia : i + 1 < tot
        · refine iteP (decide_eq_true (by omega)) ⟨_, rfl, _, rfl, _, _, rfl, rfl, Sp, _, _, _, rfl, rfl, SqL.of eSp9, ?_, rfl, (spotW.take tot)[i + 1]'(by omega), rfl⟩
          have e : (0 + (i : Int) + 1) = ((i + 1 : Nat) : Int) := by omega
          rw [e]
          exact atI_nat (texts_at (by omega))
        · refine iteN (decide_eq_false (by omega)) ⟨_, rfl, _, rfl, Sp, _, _, _, rfl, rfl, SqL.of eSp9, atI_nat (texts_at (by omega)), rfl, (spotW.take tot)[w.ah]'(by omega), rfl⟩
      obtain ⟨rfl, z, rfl⟩ := hI
      -- the row
      have idd : i < w.dd.length := by omega
      have iss : i < w.ss.length := by rw [ow.ln]; omega
      refine ⟨_, rfl, .inl ⟨rfl, _, SqL.of eR⟩, ?_⟩
      refine ⟨_, rfl, _, rfl, Sp, _, _, .str ((spotW.take tot)[i]'(by omega)), rfl, rfl, SqL.of eSp9, (by rw [Int.zero_add]; exact atI_nat (texts_at (by omega))), ?_⟩
      refine ⟨_, rfl, o, _, rfl, ow9.deeds, _, rfl, w.dl, _, _, .str (w.dd[i]'idd), rfl, rfl, SqL.of ow9.dl, (by rw [Int.zero_add]; exact atI_nat (texts_at idd)), ?_⟩
      refine ⟨_, rfl, _, rfl, _, rfl, p, d, e, 172, rfl, lf9, nud, nue, by decide, fun H10 vw ws k10 lf10 tw => ?_⟩
      have ow10 := ow9.keep k10 lf9
      have eR10 := k10 _ _ (fun z => pR z.symm) eR
      obtain ⟨sj, tj, oj⟩ := ow10.st _ (List.getElem_mem iss)
      refine ⟨_, rfl, _, rfl, w.sl, _, _, w.ss[i]'iss, rfl, rfl, SqL.of ow10.sl, (by rw [Int.zero_add]; exact atI_nat (List.getElem?_eq_getElem iss)), _, rfl, by show 5 ≤ sizeLine; decide, fun t ht => ?_⟩
      have s11 := same_new (o := .tup [.str ((spotW.take tot)[i]'(by omega)), .str (w.dd[i]'idd), vw, w.ss[i]'iss, .str z]) ht
      have eR11 := s11 _ _ eR10
      have trow : Tp K (upd H10 t (.tup [.str ((spotW.take tot)[i]'(by omega)), .str (w.dd[i]'idd), vw, w.ss[i]'iss, .str z])) (.ref t) (dRw ((spotW.take tot)[i]'(by omega), w.dd[i]'idd, .tuple ws, dSts sj, z)) :=
        .tup (SqT.of upd_same) (.cons (.str _) (.cons (.str _) (.cons (tw.mono s11) (.cons (tj.mono s11) (.cons (.str _) .nil)))))
      have lf11 := lf_upd (o := .tup [.str ((spotW.take tot)[i]'(by omega)), .str (w.dd[i]'idd), vw, w.ss[i]'iss, .str z]) lf10 (lf_ne lf10 ht)
      have k911 := k10.trans (keep_same (p := p) s11)
      generalize upd H10 t (.tup [.str ((spotW.take tot)[i]'(by omega)), .str (w.dd[i]'idd), vw, w.ss[i]'iss, .str z]) = H11 at *
      refine ⟨R, us, .ref t, rfl, rfl, eR11, small1000 (by omega), us ++ [.ref t], rs ++ [((spotW.take tot)[i]'(by omega), w.dd[i]'idd, .tuple ws, dSts sj, z)], _, _, _, _, rfl, ?_, lf_upd lf11 pR, upd_same, ?_, by rw [List.length_append, ul]; rfl, by rw [List.length_append, rl]; rfl, ?_⟩
      · intro b ob nb eb
        rw [upd_ne (ne_of_none eb hR)]
        exact (k9.trans k911) b ob nb eb
      · rw [List.map_append]
        exact ((tr.keep k911 lf9).app (.cons trow .nil)).keepL keep_upd ⟨_, eR11⟩
      · intro r hr'
        rcases List.mem_append.mp hr' with h | h
        · exact ro r h
        · rw [List.mem_singleton.mp h]
          have hd := ow.dk _ (List.getElem_mem idd)
          show Tx w.dd[i]
          have : ∀ z ∈ deedW, Tx z := by decide +kernel
          exact this _ hd
    · obtain ⟨us, rs, x11, x12, x13, x14, rfl, k9, lf9, eR, tr, ul, rl, ro⟩ := hp
      rw [etn] at ul rl
      have eSp9 := k9 _ _ (texts_ne lf8 eSp) eSp
      refine ⟨_, rfl, Sp, _, rfl, .inl ⟨SqL.of eSp9, fun t1 ht1 => ?_⟩⟩
      have s1' := same_new (o := .tup ((spotW.take tot).map V.str)) ht1
      refine ⟨_, rfl, R, us, rfl, .inl ⟨SqL.of (s1' _ _ eR), fun t2 ht2 => ⟨by show 3 ≤ sizeLine; decide, fun t3 ht3 => ?_⟩⟩⟩
      have s3' := (same_new (o := .tup us) ht2).trans (same_new (o := .tup [.str "m", .ref t1, .ref t2]) ht3)
      have s13 := s1'.trans s3'
      have ttx : ∀ zs : List Str, TpAll K (upd (upd (upd H9 t1 (.tup ((spotW.take tot).map V.str))) t2 (.tup us)) t3 (.tup [.str "m", .ref t1, .ref t2])) (zs.map V.str) (zs.map PyData.str) := fun zs => by
        induction zs with
        | nil => exact .nil
        | cons z zs ih => exact .cons (.str z) ih
      have lf13 : Lf (upd (upd (upd H9 t1 (.tup ((spotW.take tot).map V.str))) t2 (.tup us)) t3 (.tup [.str "m", .ref t1, .ref t2])) p := by
        obtain ⟨n, h⟩ := lf9
        exact ⟨n, s13 _ _ h⟩
      refine q _ _ ⟨"m", spotW.take tot, rs⟩ ((keep_same s08).trans (k9.trans (keep_same s13))) lf13 ?_ ⟨(show Tx ("m" : Str) by decide +kernel), by rw [spl]; omega, by rw [spl]; omega, fun z hz => ?_, by rw [rl]; omega, ro⟩
      · exact .tup (SqT.of upd_same) (.cons (.str _) (.cons (.tup (SqT.of (s3' _ _ upd_same)) (ttx _)) (.cons (.tup (SqT.of (same_new ht3 _ _ upd_same)) (tr.mono s13)) .nil)))
      · have : ∀ z ∈ spotW, Tx z := by decide +kernel
        exact this z (List.mem_of_mem_take hz)
end
end W25

namespace W25
open PySem PySem.Spec PyProof.Rows L2 Gs
/-! ### a system drawn -/
def dSys (b : PyData) (mcs : List Mc) (f : PyData) : PyData := .tuple [.tuple [.str "x", .str "y"], b, .tuple (mcs.map dMc), f]
structure SysOk (mcs : List Mc) : Prop where
  l1 : 1 ≤ mcs.length
  l2 : mcs.length ≤ 2
  ok : ∀ m ∈ mcs, McOk m
def spRun (K : PySem.W.Frag) : Sp := fun vs H Q _ => ∃ p : Addr, vs = [.ref p] ∧ Lf H p ∧
  ∀ H' r v1 v2 b mcs f, Keep p H H' → Lf H' p → H r = none → r ≠ p → H' r = some (.lst [v1, v2]) → Tp K H' v1 (dSys b mcs f) → SysOk mcs → Q (.ref r) H'
abbrev NRun : List Str := ["_law_left_here", "_law_own", "_law_ahead", "_law_total_many", "_law_machines", "_law_begins", "_law_helped", "_law_fair", "_law_moments", "_law_stem", "_law_run", "_law_deed", "_law_at"]
theorem scRun : FnScope NRun ["_law_left_here"] (defScope sRun) := ⟨rfl, rfl, rfl, by decide +kernel, rfl, by decide +kernel, by decide +kernel⟩
section
variable {P : Program} {w : World} {K : PySem.W.Frag} {mg : Str → Option Value} {base : Heap} {f f1 f2 f3 f4 f5 f6 : Addr} {fd d1 d2 d3 d4 d5 d6 : FuncData}
theorem ok_run (F : Fun K "_law_run_drawn" "_law_run_drawn" sRun f fd) (D : Cl P w K mg base CX0 1 "_law_digit" ["_law_left_here", "_law_upto"] spDigit f1 d1) (Pa : Cl P w K mg base CX0 3 "_law_parts" ["_law_left_here"] (spParts K) f2 d2)
    (Ro : Cl P w K mg base CX0 6 "_law_machine_rows" ["_law_left_here", "_law_own"] (spRows K) f3 d3) (Wi : Cl P w K mg base CX0 4 "_law_wishes_for" ["_law_left_here", "_law_here", "_law_later"] (spWishes K) f4 d4)
    (Mo : Cl P w K mg base CX0 1 "_law_moment" ["_law_own", "_law_at", "_law_machines", "_law_helped"] (spMoment K) f5 d5) (Re : Cl P w K mg base CX0 2 "_law_rests" ["_law_left_here", "_law_moments", "_law_machines"] spRests f6 d6)
    (mr : mg "range" = none) (mt : mg "tuple" = none) (ms : mg "sorted" = none) (ml : mg "len" = none) : FnOk P w K mg base CX0 7 f fd ["_law_left_here"] (spRun K) := by
  refine F.ok scRun (fun vs H Q E h => ?_) (fun cdv A outer s H vs Q E hr h => ?_)
  · obtain ⟨p, rfl, _⟩ := h
    rfl
  · obtain ⟨p, rfl, lf, q⟩ := h
    have r1 := hr.mono (j := 1) (by decide)
    have r2 := hr.mono (j := 2) (by decide)
    have r3 := hr.mono (j := 3) (by decide)
    have r4 := hr.mono (j := 4) (by decide)
    refine ⟨_, pss_cons (ps_set (i := 1) scRun.nd rfl (.inr rfl) (pe_call Pa.ok r3 (by rfl) Pa.g Pa.kp Pa.bd .nil pass0 (pa_cons (pv 0) pa_nil)))
      (pss_cons (ps_par (i := 2) (j := 3) (by rfl) scRun.nd rfl rfl (by decide) rfl rfl (pa_cons (pe_dget (hu_of hr) (pv 1) pe_str (fun _ _ => rfl)) (pa_cons (pe_op op_add (pe_dget (hu_of hr) (pv 1) pe_str (fun _ _ => rfl)) (pe_dget (hu_of hr) (pv 1) pe_str (fun _ _ => rfl))) pa_nil)) (by rfl))
      (pss_cons (ps_set (i := 4) scRun.nd rfl (.inr rfl) (pe_lst (pa_cons (pe_call Ro.ok hr (by rfl) Ro.g Ro.kp Ro.bd .nil pass0 (pa_cons (pv 0) (pa_cons (pv 1) pa_nil))) pa_nil)))
      (pss_cons (ps_set (i := 5) scRun.nd rfl (.inl rfl) (pe_call Wi.ok r4 (by rfl) Wi.g Wi.kp Wi.bd .nil pass0 (pa_cons (pv 0) (pa_cons (pe_dget (hu_of hr) (pv 1) pe_str (fun _ _ => rfl)) (pa_cons (pe_dget (hu_of hr) (pv 1) pe_str (fun _ _ => rfl)) pa_nil)))))
      (pss_cons (ps_set (i := 6) scRun.nd rfl (.inr rfl) (pe_ix ix_list (pe_dget (hu_of hr) (pv 1) pe_str (fun _ _ => rfl)) (pe_call D.ok r1 (by rfl) D.g D.kp D.bd .nil pass0 (pa_cons (pv 0) (pa_cons (pv 3) pa_nil))) (fun _ _ => rfl)))
      (pss_join (ps_if (pt_cmpR op_eq (pe_call D.ok r1 (by rfl) D.g D.kp D.bd .nil pass0 (pa_cons (pv 0) (pa_cons pe_int pa_nil))) pe_int (nomark _))
        (pss_one (ps_expr (pe_bm PySem.F.plainAttrs_list PySem.F.slot_list_insert PySem.F.type_list_insert mt_insert (pv 4) (pa_cons (pe_call D.ok r1 (by rfl) D.g D.kp D.bd .nil pass0 (pa_cons (pv 0) (pa_cons pe_int pa_nil)))
          (pa_cons (pe_tup (pa_cons pe_str (pa_cons (pe_tup (pa_cons pe_str pa_nil)) (pa_cons (pe_tup (pa_cons (pe_tup (pa_cons pe_str (pa_cons (pv 6) (pa_cons (pe_tup pa_nil) (pa_cons (pe_tup pa_nil) (pa_cons pe_str pa_nil)))))) pa_nil)) pa_nil)))) pa_nil))))) pss_nil)
      (pss_cons (ps_set (i := 7) scRun.nd rfl (.inl rfl) (pe_callTy call_tuple_of (by rfl) mt (by decide +kernel) (pa_cons (pe_callB cr_sortedS (by rfl) ms (by decide +kernel) (pa_cons
          (pe_lc (own := [("_law_deed", 11)]) (g := gName 11) rfl scRun.nd (pi_list (pe_slice sl_list (pe_dget (hu_of hr) (pv 1) pe_str (fun _ _ => rfl)) (po_some (pv 2)) (po_some (pv 3)))) (blkOk_by (own := [("_law_deed", 11)]) (N := NRun) (sc := defScope sRun) (by decide +kernel)) (fun _ _ _ _ _ => pg_name (i := 11) scRun.nd rfl (Or.inl rfl))
            (fun _ _ _ _ _ => pts_one (pt_cmpR op_eq (pe_call D.ok r1 (by rfl) D.g D.kp D.bd .nil pass0 (pa_cons (pv 0) (pa_cons pe_int pa_nil))) pe_int (nomark _))) (fun _ _ _ _ _ => pv 11)) pa_nil)) pa_nil)))
      (pss_cons (ps_setLc (i := 8) (own := [("_law_at", 12)]) (g := gName 12) (tt := tYes) rfl scRun.nd rfl rfl (sw_true rfl rfl rfl rfl) (pi_range1 (by rfl) mr (pa_cons (pv 3) pa_nil)) (blkOk_by (own := [("_law_at", 12)]) (N := NRun) (sc := defScope sRun) (by decide +kernel)) (fun _ _ _ _ _ => pg_name (i := 12) scRun.nd rfl (Or.inl rfl)) (fun _ _ _ _ _ => pts_nil)
          (fun _ _ _ _ _ => pe_call Mo.ok r1 (by rfl) Mo.g Mo.kp Mo.bd .nil pass0 (pa_cons (pv 1) (pa_cons (pv 12) (pa_cons (pv 4) (pa_cons (pv 6) pa_nil))))))
      (pss_cons (ps_set (i := 9) scRun.nd rfl (.inl rfl) (pe_call Re.ok r2 (by rfl) Re.g Re.kp Re.bd .nil pass0 (pa_cons (pv 0) (pa_cons (pe_slice sl_list (pv 8) po_none (po_some (pv 2))) (pa_cons (pe_callB call_len_seq (by rfl) ml PySem.boot_len (pa_cons (pv 4) pa_nil)) pa_nil)))))
      (pss_cons (ps_set (i := 10) scRun.nd rfl (.inl rfl) (pe_tup (pa_cons (pe_callTy call_tuple_of (by rfl) mt (by decide +kernel) (pa_cons (pe_callB (cr_sortedIK rfl) (by rfl) ms (by decide +kernel) (pa_cons (pe_bm0 PySem.F.plainAttrs_dict PySem.F.slot_dict_items PySem.F.type_dict_items mt_itemsK (pe_dget (hu_of hr) (pv 1) pe_str (fun _ _ => rfl))) pa_nil)) pa_nil))
          (pa_cons (pv 9) (pa_cons (pe_call Re.ok r2 (by rfl) Re.g Re.kp Re.bd .nil pass0 (pa_cons (pv 0) (pa_cons (pe_slice sl_list (pv 8) (po_some (pv 2)) po_none) (pa_cons (pe_callB call_len_seq (by rfl) ml PySem.boot_len (pa_cons (pv 4) pa_nil)) pa_nil)))) pa_nil)))))
      (pss_one (ps_ret (pe_lst (pa_cons (pe_tup (pa_cons (pe_tup (pa_cons pe_str (pa_cons pe_str pa_nil))) (pa_cons (pv 5) (pa_cons (pe_callTy call_tuple_of (by rfl) mt (by decide +kernel) (pa_cons (pv 4) pa_nil)) (pa_cons (pv 7) pa_nil))))) (pa_cons (pv 10) pa_nil)))))))))))))), ?_⟩
    refine ⟨_, rfl, p, rfl, lf, fun H1 o w k1 lf1 ow => ?_⟩
    have a2 := ow.a2
    have m1 := ow.m1
    have m3 := ow.m3
    obtain ⟨tot, etot⟩ : ∃ tot : Nat, tot = w.ah + w.mn := ⟨_, rfl⟩
    have etI : ((w.ah : Int) + (w.mn : Int)) = (tot : Int) := by omega
    refine ⟨_, rfl, o, _, rfl, ow.ahead, _, rfl, o, _, rfl, ow.ahead, _, rfl, o, _, rfl, ow.many, _, _, rfl, rfl, .int w.ah, .int tot, (by show [V.int w.ah, V.int ((w.ah : Int) + (w.mn : Int))] = [V.int w.ah, V.int tot]; rw [etI]), ?_⟩
    -- machines
    refine ⟨_, rfl, _, rfl, p, o, w, rfl, lf1, ow, fun H2 vm mc k2 lf2 tm mok => ⟨by show 1 ≤ sizeLine; decide, fun M hM => ?_⟩⟩
    have pM : p ≠ M := lf_ne lf2 hM
    have s2 := same_new (o := .lst [vm]) hM
    have kk3 : Keep p H1 (upd H2 M (.lst [vm])) := k2.trans (keep_same s2)
    have hMH : H M = none := free_of (k1.trans k2) (fun e => pM e.symm) hM
    have eM : upd H2 M (.lst [vm]) M = some (.lst [vm]) := upd_same
    have lf3 := lf_upd (o := .lst [vm]) lf2 pM
    have tm3 := tm.mono s2
    have ow3 := ow.keep kk3 lf1
    have k3 := k1.trans kk3
    generalize upd H2 M (.lst [vm]) = H3 at *
    -- begins
    refine ⟨_, rfl, _, rfl, o, _, rfl, ow3.numbers, _, rfl, o, _, rfl, ow3.numbers, p, w.nd, w.nd, 10, rfl, lf3, ow3.nu, ow3.nu, by decide, fun H4 vb ws k4 lf4 tb => ?_⟩
    have ow4 := ow3.keep k4 lf3
    have eM4 := k4 _ _ (fun e => pM e.symm) eM
    have tm4 := tm3.keep k4 lf3
    -- helped
    obtain ⟨n4, hn4⟩ := lf4
    have d5 := ow.d5
    have h0 := Int.emod_nonneg n4 (show (tot : Int) ≠ 0 by omega)
    have h1 := Int.emod_lt_of_pos n4 (show (0 : Int) < (tot : Int) by omega)
    obtain ⟨j, ej⟩ : ∃ j : Nat, n4 % (tot : Int) = (j : Int) := ⟨(n4 % (tot : Int)).toNat, by omega⟩
    have jd : j < w.dd.length := by omega
    have kk5 : Keep p H4 (upd H4 p (.lst [.int (n4 / (tot : Int))])) := keep_upd
    have ow5 := ow4.keep kk5 ⟨n4, hn4⟩
    refine ⟨_, rfl, o, _, rfl, ow4.deeds, _, rfl, _, rfl, p, n4, tot, rfl, hn4, by omega, log_lit (n := 10) (by decide) (by decide) (by omega), w.dl, _, _, .str (w.dd[j]'jd), rfl, rfl, SqL.of ow5.dl, (by rw [ej]; exact atI_nat (texts_at jd)), ?_⟩
    have lf5 : Lf (upd H4 p (.lst [.int (n4 / (tot : Int))])) p := lf_draw
    have eM5 := kk5 _ _ (fun e => pM e.symm) eM4
    have tm5 := tm4.keep kk5 ⟨n4, hn4⟩
    have tb5 := tb.keep kk5 ⟨n4, hn4⟩
    have k5 := (k3.trans k4).trans kk5
    have hsok : Tx (w.dd[j]'jd) := by
      have : ∀ z ∈ deedW, Tx z := by decide +kernel
      exact this _ (ow.dk _ (List.getElem_mem jd))
    generalize w.dd[j]'jd = hz at *
    generalize upd H4 p (.lst [.int (n4 / (tot : Int))]) = H5 at *
    -- another machine
    refine ⟨fun σ H' => ∃ ms mcs, σ = [some (.ref p), some (.ref o), some (.int w.ah), some (.int tot), some (.ref M), some vb, some (.str hz), none, none, none, none, none, none] ∧ Keep p H H' ∧ Lf H' p ∧ H' M = some (.lst ms) ∧ TpAll K H' ms (mcs.map dMc) ∧ SysOk mcs ∧ OwnAt K H' o w ∧ Tp K H' vb (.tuple ws), ?_, fun σ H6 hI => ?_⟩
    · obtain ⟨n5, hn5⟩ := lf5
      refine ⟨_, rfl, p, n5, 2, rfl, hn5, by decide, log_lit (n := 10) (by decide) (by decide) (by decide), rfl, _, rfl, ?_⟩
      have kk6 : Keep p H5 (upd H5 p (.lst [.int (n5 / 2)])) := keep_upd
      have lf6 : Lf (upd H5 p (.lst [.int (n5 / 2)])) p := lf_draw
      have ow6 := ow5.keep kk6 ⟨n5, hn5⟩
      have eM6 := kk6 _ _ (fun e => pM e.symm) eM5
      have tm6 := tm5.keep kk6 ⟨n5, hn5⟩
      have tb6 := tb5.keep kk6 ⟨n5, hn5⟩
      have k6 := k5.trans kk6
      generalize upd H5 p (.lst [.int (n5 / 2)]) = H6 at *
      refine ite2 (fun _ => ?_) (fun _ => ⟨[vm], [mc], rfl, k6, lf6, eM6, .cons tm6 .nil, ⟨Nat.le_refl _, Nat.le_succ _, fun m hm => by rw [List.mem_singleton.mp hm]; exact mok⟩, ow6, tb6⟩)
      refine ⟨_, rfl, .inl ⟨rfl, _, SqL.of eM6⟩, ?_⟩
      obtain ⟨n6, hn6⟩ := lf6
      refine ⟨_, rfl, p, n6, 2, rfl, hn6, by decide, log_lit (n := 10) (by decide) (by decide) (by decide), ?_⟩
      have kk7 : Keep p H6 (upd H6 p (.lst [.int (n6 / 2)])) := keep_upd
      have lf7 : Lf (upd H6 p (.lst [.int (n6 / 2)])) p := lf_draw
      have ow7 := ow6.keep kk7 ⟨n6, hn6⟩
      have eM7 := kk7 _ _ (fun e => pM e.symm) eM6
      have tm7 := tm6.keep kk7 ⟨n6, hn6⟩
      have tb7 := tb6.keep kk7 ⟨n6, hn6⟩
      have k7 := k6.trans kk7
      generalize upd H6 p (.lst [.int (n6 / 2)]) = H7 at *
      refine ⟨by show 1 ≤ sizeLine; decide, fun q1 hq1 => ?_⟩
      refine ⟨_, rfl, by show 0 ≤ sizeLine; decide, fun q2 hq2 => ⟨by show 0 ≤ sizeLine; decide, fun q3 hq3 => ⟨by show 5 ≤ sizeLine; decide, fun q4 hq4 => ⟨by show 1 ≤ sizeLine; decide, fun q5 hq5 => ⟨by show 3 ≤ sizeLine; decide, fun q6 hq6 => ?_⟩⟩⟩⟩⟩
      have z1 := same_new (o := .tup [.str "q"]) hq1
      have z2 := same_new (o := .tup []) hq2
      have z3 := same_new (o := .tup []) hq3
      have z4 := same_new (o := .tup [.str "q", .str hz, .ref q2, .ref q3, .str "q"]) hq4
      have z5 := same_new (o := .tup [.ref q4]) hq5
      have z6 := same_new (o := .tup [.str "n", .ref q1, .ref q5]) hq6
      have z16 := z1.trans (z2.trans (z3.trans (z4.trans (z5.trans z6))))
      have tn : Tp K (upd (upd (upd (upd (upd (upd H7 q1 (.tup [.str "q"])) q2 (.tup [])) q3 (.tup [])) q4 (.tup [.str "q", .str hz, .ref q2, .ref q3, .str "q"])) q5 (.tup [.ref q4])) q6 (.tup [.str "n", .ref q1, .ref q5])) (.ref q6) (dMc ⟨"n", ["q"], [("q", hz, .tuple [], .tuple [], "q")]⟩) := by
        refine .tup (SqT.of upd_same) (.cons (.str _) (.cons (.tup (SqT.of ((z2.trans (z3.trans (z4.trans (z5.trans z6)))) _ _ upd_same)) (.cons (.str _) .nil)) (.cons (.tup (SqT.of (z6 _ _ upd_same)) (.cons ?_ .nil)) .nil)))
        exact .tup (SqT.of ((z5.trans z6) _ _ upd_same)) (.cons (.str _) (.cons (.str _) (.cons (.tup (SqT.of ((z3.trans (z4.trans (z5.trans z6))) _ _ upd_same)) .nil) (.cons (.tup (SqT.of ((z4.trans (z5.trans z6)) _ _ upd_same)) .nil) (.cons (.str _) .nil)))))
      generalize upd (upd (upd (upd (upd (upd H7 q1 (.tup [.str "q"])) q2 (.tup [])) q3 (.tup [])) q4 (.tup [.str "q", .str hz, .ref q2, .ref q3, .str "q"])) q5 (.tup [.ref q4])) q6 (.tup [.str "n", .ref q1, .ref q5]) = H8 at *
      have nok : McOk ⟨"n", ["q"], [("q", hz, .tuple [], .tuple [], "q")]⟩ := ⟨(show Tx ("n" : Str) by decide +kernel), Nat.le_refl _, (by show 1 ≤ 6; decide), fun z hz' => by rw [List.mem_singleton.mp hz']; decide +kernel, by show 1 ≤ 6; decide, fun r hr' => by rw [List.mem_singleton.mp hr']; exact hsok⟩
      have eM8 := z16 _ _ eM7
      have i0 := Int.emod_nonneg n6 (show (2 : Int) ≠ 0 by decide)
      have i2 := Int.emod_lt_of_pos n6 (show (0 : Int) < 2 by decide)
      refine ⟨M, [vm], n6 % 2, .ref q6, rfl, rfl, eM8, by show 1 < sizeLine; decide, i0, by omega, ?_⟩
      generalize hls : (([vm] : List V).take (n6 % 2).toNat ++ [.ref q6] ++ ([vm] : List V).drop (n6 % 2).toNat) = ls
      have kM : Keep M H8 (upd H8 M (.lst ls)) := keep_upd
      have tm8 := (tm7.mono z16).keepL kM ⟨_, eM8⟩
      have tn8 := tn.keepL kM ⟨_, eM8⟩
      have kH : Keep p H (upd H8 M (.lst ls)) := fun b ob nb e => by
        rw [upd_ne (ne_of_none e hMH)]
        exact (k7.trans (keep_same z16)) b ob nb e
      have lf8 : Lf (upd H8 M (.lst ls)) p := by
        obtain ⟨n, h⟩ := lf7
        exact ⟨n, by rw [upd_ne pM]; exact z16 _ _ h⟩
      have hM1 : H1 M = none := by
        cases e : H1 M with
        | none => rfl
        | some ob =>
          have := k2 M ob (fun e => pM e.symm) e
          rw [hM] at this
          cases this
      have owM : OwnAt K (upd H8 M (.lst ls)) o w := by
        have kk : Keep p H1 (upd H8 M (.lst ls)) := fun b ob nb e => by
          rw [upd_ne (ne_of_none e hM1)]
          exact (kk3.trans (k4.trans (kk5.trans (kk6.trans (kk7.trans (keep_same z16)))))) b ob nb e
        exact ow.keep kk lf1
      have tbM := (tb7.mono z16).keepL kM ⟨_, eM8⟩
      have hi : n6 % 2 = 0 ∨ n6 % 2 = 1 := by omega
      rcases hi with hi | hi
      · have el : ls = [.ref q6, vm] := by rw [← hls, hi]; rfl
        subst el
        exact ⟨[.ref q6, vm], [⟨"n", ["q"], [("q", hz, .tuple [], .tuple [], "q")]⟩, mc], rfl, kH, lf8, upd_same, .cons tn8 (.cons tm8 .nil), ⟨Nat.le_succ _, Nat.le_refl _, fun m hm => by
          rcases List.mem_cons.mp hm with e | e
          · rw [e]; exact nok
          · rw [List.mem_singleton.mp e]; exact mok⟩, owM, tbM⟩
      · have el : ls = [vm, .ref q6] := by rw [← hls, hi]; rfl
        subst el
        exact ⟨[vm, .ref q6], [mc, ⟨"n", ["q"], [("q", hz, .tuple [], .tuple [], "q")]⟩], rfl, kH, lf8, upd_same, .cons tm8 (.cons tn8 .nil), ⟨Nat.le_succ _, Nat.le_refl _, fun m hm => by
          rcases List.mem_cons.mp hm with e | e
          · rw [e]; exact mok
          · rw [List.mem_singleton.mp e]; exact nok⟩, owM, tbM⟩
    obtain ⟨ms', mcs, rfl, k6, lf6, eM6, tm6, sok, ow6, tb6⟩ := hI
    have msl : ms'.length = mcs.length := by rw [tm6.len, List.length_map]
    -- fair
    refine ⟨_, rfl, o, _, rfl, ow6.deeds, _, rfl, _, rfl, _, rfl, _, rfl, w.dl, _, rfl, SqL.of ow6.dl, fun c1 hc1 => ?_⟩
    obtain ⟨zs, ezs, zl, zi⟩ : ∃ zs : List Str, cutV (w.dd.map V.str) (some (w.ah : Int)) (some (tot : Int)) = zs.map V.str ∧ zs.length ≤ 6 ∧ ∀ z ∈ zs, z ∈ w.dd := by
      refine ⟨(w.dd.drop (HT.sIx (w.dd.map V.str).length 0 (some (w.ah : Int)))).take (HT.sIx (w.dd.map V.str).length (w.dd.map V.str).length (some (tot : Int)) - HT.sIx (w.dd.map V.str).length 0 (some (w.ah : Int))), ?_, ?_, fun z hz => List.mem_of_mem_drop (List.mem_of_mem_take hz)⟩
      · unfold cutV
        rw [List.map_take, List.map_drop]
      · rw [List.length_take, List.length_drop]
        have := ow.d6
        omega
    rw [ezs]
    have s7 := same_new (o := .lst (zs.map V.str)) hc1
    refine ⟨c1, rfl, ⟨_, SqL.of upd_same⟩, fun D1 hD1 => ?_⟩
    have lf7 := lf_upd (o := .lst (zs.map V.str)) lf6 (lf_ne lf6 hc1)
    have ec1 : upd H6 c1 (.lst (zs.map V.str)) c1 = some (.lst (zs.map V.str)) := upd_same
    have kk7 : Keep p H6 (upd H6 c1 (.lst (zs.map V.str))) := keep_same s7
    generalize upd H6 c1 (.lst (zs.map V.str)) = H7 at *
    have pD1 : p ≠ D1 := lf_ne lf7 hD1
    have nc1 : c1 ≠ p := texts_ne lf7 ec1
    refine lc_list (K := K) (xs := zs.map V.str) (fun i H' => ∃ us : List Str, H' D1 = some (.lst (us.map V.str)) ∧ Keep p H7 H' ∧ Lf H' p ∧ us.length ≤ i)
      ⟨[], upd_same, keep_same (same_new hD1), lf_upd lf7 pD1, Nat.le_refl _⟩ (fun i H' _ hp => ?_) (fun i v H' hv hp => ?_) (fun H8 hp => ?_)
    · obtain ⟨us, _, kq, _⟩ := hp
      exact SqL.of (kq _ _ nc1 ec1)
    · obtain ⟨us, eD, kq, ⟨n, hn⟩, ul⟩ := hp
      have il : i < (zs.map V.str).length := (List.getElem?_eq_some_iff.mp hv).1
      rw [List.length_map] at il
      rw [List.getElem?_map] at hv
      cases ez : zs[i]? with
      | none => rw [ez] at hv; cases hv
      | some z =>
        rw [ez] at hv
        cases hv
        refine ⟨rfl, ?_⟩
        refine ⟨_, rfl, p, n, 3, rfl, hn, by decide, log_lit (n := 10) (by decide) (by decide) (by decide), rfl, _, rfl, ?_⟩
        have eD2 : upd H' p (.lst [.int (n / 3)]) D1 = some (.lst (us.map V.str)) := by rw [upd_ne (fun e => pD1 e.symm)]; exact eD
        refine ite2 (fun _ => ?_) (fun _ => ⟨us, eD2, kq.trans keep_upd, lf_draw, by omega⟩)
        refine ⟨_, rfl, _, eD2, by rw [List.length_map]; exact small1000 (by omega), us ++ [z], by rw [upd_same, List.map_append]; rfl, ?_, lf_upd lf_draw pD1, ?_⟩
        · intro b ob nb e
          rw [upd_ne (ne_of_none e hD1)]
          exact (kq.trans keep_upd) b ob nb e
        · rw [List.length_append]
          exact Nat.succ_le_succ ul
    obtain ⟨us, eD, kk8, lf8, ul⟩ := hp
    rw [List.length_map] at ul
    refine ⟨D1, us, rfl, SqL.of eD, by omega, fun ys c2 _ _ hc2 => ⟨c2, _, rfl, .inl ⟨SqL.of upd_same, fun vf hvf => ?_⟩⟩⟩
    have s9 := (same_new (o := .lst (ys.map V.str)) hc2).trans (same_new (o := .tup (ys.map V.str)) hvf)
    have tf : Tp K (upd (upd H8 c2 (.lst (ys.map V.str))) vf (.tup (ys.map V.str))) (.ref vf) (.tuple (ys.map PyData.str)) := by
      refine .tup (SqT.of upd_same) ?_
      clear s9
      induction ys with
      | nil => exact .nil
      | cons z ys ih =>
        have hh : ∀ (H : Hp) (zs : List Str), TpAll K H (zs.map V.str) (zs.map PyData.str) := fun H zs => by
          induction zs with
          | nil => exact .nil
          | cons z zs ih => exact .cons (.str z) ih
        exact hh _ _
    have kk9 : Keep p H6 (upd (upd H8 c2 (.lst (ys.map V.str))) vf (.tup (ys.map V.str))) := kk7.trans (kk8.trans (keep_same s9))
    have lf9 : Lf (upd (upd H8 c2 (.lst (ys.map V.str))) vf (.tup (ys.map V.str))) p := by
      obtain ⟨n, h⟩ := lf8
      exact ⟨n, s9 _ _ h⟩
    generalize upd (upd H8 c2 (.lst (ys.map V.str))) vf (.tup (ys.map V.str)) = H9 at *
    have ow9 := ow6.keep kk9 lf6
    have eM9 := kk9 _ _ (fun e => pM e.symm) eM6
    have tm9 := tm6.keep kk9 lf6
    have tb9 := tb6.keep kk9 lf6
    have k9 := k6.trans kk9
    -- moments
    refine ⟨_, rfl, _, rfl, by omega, by omega, fun D2 hD2 => ?_⟩
    have pD2 : p ≠ D2 := lf_ne lf9 hD2
    refine lc_range (fun i H' => ∃ us : List V, H' D2 = some (.lst us) ∧ Same H9 H' ∧ us.length = i) ⟨[], upd_same, same_new hD2, rfl⟩ (fun i H' hi hp => ?_) (fun H10 hp => ?_)
    · obtain ⟨us2, e2, sm, ul2⟩ := hp
      have hi' : i < tot := by omega
      refine ⟨rfl, ?_⟩
      refine ⟨_, rfl, _, rfl, _, rfl, _, rfl, o, M, i, hz, w, ms', mcs, (by show [V.ref o, V.int (0 + (i : Int)), V.ref M, V.str hz] = _; rw [Int.zero_add]), ow9.mono sm, by omega, sm _ _ eM9, tm9.mono sm, sok.l2, fun H'' r s'' => ?_⟩
      have e22 := s'' _ _ e2
      refine ⟨us2, e22, small1000 (by omega), us2 ++ [.ref r], upd_same, keep_sameL (H' := H) hD2 (sm.trans s''), ?_⟩
      rw [List.length_append, ul2]
      rfl
    obtain ⟨us2, e2, s10, ul2⟩ := hp
    have etn : ((tot : Nat) : Int).toNat = tot := Int.toNat_natCast tot
    rw [etn] at ul2
    have lf10 : Lf H10 p := by
      obtain ⟨n, h⟩ := lf9
      exact ⟨n, s10 _ _ h⟩
    have k10 := k9.trans (keep_same (p := p) s10)
    have ow10 := ow9.mono s10
    have eM10 := s10 _ _ eM9
    have tm10 := tm9.mono s10
    have tb10 := tb9.mono s10
    have tf10 := tf.mono s10
    have lm : 1 ≤ (ms'.length : Int) ∧ (ms'.length : Int) ≤ 2 := by
      have := sok.l1
      have := sok.l2
      omega
    -- stem
    refine ⟨_, rfl, _, rfl, _, rfl, _, rfl, D2, _, rfl, SqL.of e2, fun c3 hc3 => ?_⟩
    rw [cut_to]
    have s11 := same_new (o := .lst (us2.take w.ah)) hc3
    refine ⟨_, rfl, M, _, rfl, .inl (SqL.of (s11 _ _ eM10)), p, c3, _, us2.take w.ah, rfl, lf_upd lf10 (lf_ne lf10 hc3), upd_same, (fun e => lf_ne lf10 hc3 e.symm), by rw [List.length_take]; omega, lm.1, lm.2, fun H12 st ys2 k12 lf12 e12 => ?_⟩
    have kk12 : Keep p H10 H12 := (keep_same s11).trans k12
    have ow12 := ow10.keep kk12 lf10
    have eM12 := kk12 _ _ (fun e => pM e.symm) eM10
    have tm12 := tm10.keep kk12 lf10
    have tb12 := tb10.keep kk12 lf10
    have tf12 := tf10.keep kk12 lf10
    have e212 := kk12 _ _ (fun e => pD2 e.symm) e2
    have k12' := k10.trans kk12
    -- run
    have nu12 := ow12.nu
    obtain ⟨kvs, ekv, eks, _⟩ := nu12
    refine ⟨_, rfl, o, _, rfl, ow12.numbers, .inr (.inr (.inl ⟨rfl, .inl ⟨_, ekv⟩⟩)), w.nd, kvs, rfl, rfl, ekv, fun iv hiv => ?_⟩
    have s13 := same_new (o := DX.itemsO iv w.nd) hiv
    refine ⟨iv, w.nd, kvs, rfl, upd_same, s13 _ _ ekv, (fun k hk => by
      rw [eks] at hk
      rcases List.mem_cons.mp hk with e | e
      · exact ⟨_, e⟩
      · exact ⟨_, List.mem_singleton.mp e⟩), fun l1 ys3 hl1 => ⟨l1, ys3, rfl, .inl ⟨SqL.of upd_same, fun t1 ht1 => ?_⟩⟩⟩
    have s14 := s13.trans ((same_new (o := .lst ys3) hl1).trans (same_new (o := .tup ys3) ht1))
    have lf14 : Lf (upd (upd (upd H12 iv (DX.itemsO iv w.nd)) l1 (.lst ys3)) t1 (.tup ys3)) p := by
      obtain ⟨n, h⟩ := lf12
      exact ⟨n, s14 _ _ h⟩
    generalize upd (upd (upd H12 iv (DX.itemsO iv w.nd)) l1 (.lst ys3)) t1 (.tup ys3) = H14 at *
    refine ⟨_, rfl, _, rfl, _, rfl, _, rfl, _, rfl, D2, _, rfl, SqL.of (s14 _ _ e212), fun c4 hc4 => ?_⟩
    rw [cut_from]
    have s15 := same_new (o := .lst (us2.drop w.ah)) hc4
    refine ⟨_, rfl, M, _, rfl, .inl (SqL.of ((s14.trans s15) _ _ eM12)), p, c4, _, us2.drop w.ah, rfl, lf_upd lf14 (lf_ne lf14 hc4), upd_same, (fun e => lf_ne lf14 hc4 e.symm), by rw [List.length_drop]; omega, lm.1, lm.2, fun H16 lp ys4 k16 lf16 e16 => ⟨by show 3 ≤ sizeLine; decide, fun tr htr => ?_⟩⟩
    have s17 := same_new (o := .tup [.ref t1, .ref st, .ref lp]) htr
    have kk17 : Keep p H12 (upd H16 tr (.tup [.ref t1, .ref st, .ref lp])) := (keep_same (s14.trans s15)).trans (k16.trans (keep_same s17))
    have lf17 := lf_upd (o := .tup [.ref t1, .ref st, .ref lp]) lf16 (lf_ne lf16 htr)
    generalize upd H16 tr (.tup [.ref t1, .ref st, .ref lp]) = H17 at *
    have eM17 := kk17 _ _ (fun e => pM e.symm) eM12
    have tm17 := tm12.keep kk17 lf12
    have tb17 := tb12.keep kk17 lf12
    have tf17 := tf12.keep kk17 lf12
    have k17 := k12'.trans kk17
    -- both
    refine ⟨by show 2 ≤ sizeLine; decide, fun g1 hg1 => ?_⟩
    have y1 := same_new (o := .tup [.str "x", .str "y"]) hg1
    refine ⟨_, rfl, _, rfl, M, ms', rfl, .inl ⟨SqL.of (y1 _ _ eM17), fun g2 hg2 => ?_⟩⟩
    have y2 := same_new (o := .tup ms') hg2
    refine ⟨_, rfl, by show 4 ≤ sizeLine; decide, fun g3 hg3 => ?_⟩
    have y3 := same_new (o := .tup [.ref g1, vb, .ref g2, .ref vf]) hg3
    refine ⟨_, rfl, by show 2 ≤ sizeLine; decide, fun g4 hg4 => ?_⟩
    have y4 := same_new (o := .lst [.ref g3, .ref tr]) hg4
    have y14 := y1.trans (y2.trans (y3.trans y4))
    have hg4H : (upd (upd (upd H17 g1 (.tup [.str "x", .str "y"])) g2 (.tup ms')) g3 (.tup [.ref g1, vb, .ref g2, .ref vf])) p ≠ none := by
      obtain ⟨n, h⟩ := lf17
      rw [(y1.trans (y2.trans y3)) _ _ h]
      exact fun z => by cases z
    have ng4 : g4 ≠ p := fun e => hg4H (by rw [← e]; exact hg4)
    have lf18 : Lf (upd (upd (upd (upd H17 g1 (.tup [.str "x", .str "y"])) g2 (.tup ms')) g3 (.tup [.ref g1, vb, .ref g2, .ref vf])) g4 (.lst [.ref g3, .ref tr])) p := by
      obtain ⟨n, h⟩ := lf17
      exact ⟨n, y14 _ _ h⟩
    refine q _ g4 (.ref g3) (.ref tr) (.tuple ws) mcs (.tuple (ys.map PyData.str)) (k17.trans (keep_same y14)) lf18 (free_of (k17.trans (keep_same (y1.trans (y2.trans y3)))) ng4 hg4) ng4 upd_same ?_ sok
    refine .tup (SqT.of (y4 _ _ upd_same)) (.cons (.tup (SqT.of ((y2.trans (y3.trans y4)) _ _ upd_same)) (.cons (.str _) (.cons (.str _) .nil))) (.cons (tb17.mono y14) (.cons (.tup (SqT.of ((y3.trans y4) _ _ upd_same)) (tm17.mono y14)) (.cons (tf17.mono y14) .nil))))
end
end W25

namespace Sf
open PySem PySem.Spec PyProof.Rows L2
/-! ### data of ints, texts and tuples: == is being the same -/
mutual
def plainD : PyData → Bool
  | .int _ => true
  | .str x => PyData.strOk x
  | .tuple xs => plainAll xs
  | _ => false
def plainAll : List PyData → Bool
  | [] => true
  | x :: xs => plainD x && plainAll xs
end
mutual
theorem plain_lay : ∀ d : PyData, plainD d = true → d.canLay0 = true
  | .int _, _ => by simp [PyData.canLay0]
  | .str x, h => by simpa [PyData.canLay0, plainD] using h
  | .tuple xs, h => by
    rw [plainD] at h
    rw [PyData.canLay0]
    exact plainAll_lay xs h
  | .none, h => by simp [plainD] at h
  | .bool _, h => by simp [plainD] at h
  | .list _, h => by simp [plainD] at h
  | .dict _, h => by simp [plainD] at h
theorem plainAll_lay : ∀ ds : List PyData, plainAll ds = true → PyData.canLayAll0 ds = true
  | [], _ => by simp [PyData.canLayAll0]
  | x :: xs, h => by
    rw [plainAll, Bool.and_eq_true] at h
    rw [PyData.canLayAll0, plain_lay x h.1, plainAll_lay xs h.2]
    rfl
end
mutual
theorem eqv_eq : ∀ d e : PyData, plainD d = true → plainD e = true → PyData.eqv d e = true → d = e
  | .int i, e, _, h2, h => by
    cases e <;> simp_all [PyData.eqv, plainD]
  | .str i, e, _, h2, h => by
    cases e <;> simp_all [PyData.eqv, plainD]
  | .tuple xs, e, h1, h2, h => by
    cases e with
    | tuple ys =>
      rw [plainD] at h1 h2
      rw [PyData.eqv] at h
      rw [eqvAll_eq xs ys h1 h2 h]
    | _ => simp_all [PyData.eqv, plainD]
  | .none, _, h, _, _ => by simp [plainD] at h
  | .bool _, _, h, _, _ => by simp [plainD] at h
  | .list _, _, h, _, _ => by simp [plainD] at h
  | .dict _, _, h, _, _ => by simp [plainD] at h
theorem eqvAll_eq : ∀ ds es : List PyData, plainAll ds = true → plainAll es = true → PyData.eqvAll ds es = true → ds = es
  | [], [], _, _, _ => rfl
  | [], _ :: _, _, _, h => by simp [PyData.eqvAll] at h
  | _ :: _, [], _, _, h => by simp [PyData.eqvAll] at h
  | x :: xs, y :: ys, h1, h2, h => by
    rw [plainAll, Bool.and_eq_true] at h1 h2
    rw [PyData.eqvAll, Bool.and_eq_true] at h
    rw [eqv_eq x y h1.1 h2.1 h.1, eqvAll_eq xs ys h1.2 h2.2 h.2]
end
theorem eqv_self {d : PyData} (h : plainD d = true) : PyData.eqv d d = true := SeqAt.eqv_refl d (plain_lay d h)
theorem plainAll_iff : ∀ {ds : List PyData}, plainAll ds = true ↔ ∀ d ∈ ds, plainD d = true
  | [] => by simp [plainAll]
  | x :: xs => by
    rw [plainAll, Bool.and_eq_true, plainAll_iff (ds := xs)]
    simp
theorem depthAll_le {n : Nat} : ∀ {ds : List PyData}, (∀ d ∈ ds, d.depth ≤ n) → PyData.depthAll ds ≤ n
  | [], _ => by simp [PyData.depthAll]
  | x :: xs, h => by
    rw [PyData.depthAll]
    exact Nat.max_le.mpr ⟨h x List.mem_cons_self, depthAll_le fun d hd => h d (List.mem_cons_of_mem _ hd)⟩
/-- plain, and at most n within one another -/
def Pl (n : Nat) (d : PyData) : Prop := plainD d = true ∧ d.depth ≤ n
theorem Pl.mono {n m : Nat} {d : PyData} (h : Pl n d) (e : n ≤ m) : Pl m d := ⟨h.1, Nat.le_trans h.2 e⟩
theorem Pl.shaped {n : Nat} {d : PyData} (h : Pl n d) (hn : n ≤ 64) : SeqAt.shaped d = true := by
  show (d.canLay0 && decide (d.depth ≤ 64)) = true
  rw [Bool.and_eq_true]
  exact ⟨plain_lay d h.1, decide_eq_true (Nat.le_trans h.2 hn)⟩
theorem Pl.tup {n : Nat} {ds : List PyData} (h : ∀ d ∈ ds, Pl n d) : Pl (n + 1) (.tuple ds) := by
  refine ⟨?_, ?_⟩
  · rw [plainD]
    exact plainAll_iff.mpr fun d hd => (h d hd).1
  · rw [PyData.depth]
    exact Nat.succ_le_succ (depthAll_le fun d hd => (h d hd).2)
theorem shaped_list {n : Nat} {ds : List PyData} (h : ∀ d ∈ ds, Pl n d) (hn : n ≤ 63) : SeqAt.shaped (.list ds) = true := by
  show (PyData.canLay0 (.list ds) && decide (PyData.depth (.list ds) ≤ 64)) = true
  rw [Bool.and_eq_true]
  refine ⟨?_, decide_eq_true ?_⟩
  · rw [PyData.canLay0]
    exact plainAll_lay ds (plainAll_iff.mpr fun d hd => (h d hd).1)
  · rw [PyData.depth]
    exact Nat.le_trans (Nat.succ_le_succ (depthAll_le fun d hd => (h d hd).2)) (Nat.succ_le_succ hn)
theorem pl_int {i : Int} : Pl 0 (.int i) := ⟨rfl, by simp [PyData.depth]⟩
theorem pl_str {x : Str} (h : PyData.strOk x = true) : Pl 0 (.str x) := ⟨by rw [plainD]; exact h, by simp [PyData.depth]⟩
/-! ### lists without one twice -/
def notIn (acc : List PyData) (x : PyData) : Bool := !acc.any fun z => PyData.eqv z x
def merge (acc xs : List PyData) : List PyData := acc ++ xs.filter (notIn acc)
theorem merge_nil {xs : List PyData} : merge [] xs = xs := by
  show [] ++ xs.filter (notIn []) = xs
  rw [List.nil_append, List.filter_eq_self]
  intro a _
  rfl
theorem merge_sub {acc xs : List PyData} {p : PyData → Prop} (h1 : ∀ d ∈ acc, p d) (h2 : ∀ d ∈ xs, p d) : ∀ d ∈ merge acc xs, p d := fun d hd => by
  rcases List.mem_append.mp hd with h | h
  · exact h1 d h
  · exact h2 d (List.mem_filter.mp h).1
theorem mem_merge {acc xs : List PyData} (h1 : ∀ d ∈ acc, plainD d = true) (h2 : ∀ d ∈ xs, plainD d = true) {x : PyData} (h : x ∈ acc ∨ x ∈ xs) : x ∈ merge acc xs := by
  rcases h with h | h
  · exact List.mem_append.mpr (.inl h)
  · cases e : notIn acc x with
    | true => exact List.mem_append.mpr (.inr (List.mem_filter.mpr ⟨h, e⟩))
    | false =>
      have e' : (acc.any fun z => PyData.eqv z x) = true := by
        unfold notIn at e
        simpa using e
      obtain ⟨z, hz, ez⟩ := List.any_eq_true.mp e'
      rw [← eqv_eq z x (h1 z hz) (h2 x h) ez]
      exact List.mem_append.mpr (.inl hz)
theorem merge_len {acc xs : List PyData} : (merge acc xs).length ≤ acc.length + xs.length := by
  unfold merge
  rw [List.length_append]
  exact Nat.add_le_add_left (List.length_filter_le _ _) _
/-- the place of the first like one -/
def idx (ds : List PyData) (d : PyData) : Nat := ds.findIdx fun z => PyData.eqv z d
theorem idx_at {ds : List PyData} {d : PyData} (h1 : ∀ z ∈ ds, plainD z = true) (h : d ∈ ds) : ds[idx ds d]? = some d ∧ ∀ (m : Nat) (z : PyData), m < idx ds d → ds[m]? = some z → PyData.eqv z d = false := by
  have hd := h1 d h
  have hl : idx ds d < ds.length := List.findIdx_lt_length_of_exists ⟨d, h, eqv_self hd⟩
  refine ⟨?_, fun m z hm hz => ?_⟩
  · have hp : PyData.eqv (ds[idx ds d]'hl) d = true := List.findIdx_getElem (p := fun z => PyData.eqv z d) (w := hl)
    have e := eqv_eq _ _ (h1 _ (List.getElem_mem hl)) hd hp
    rw [List.getElem?_eq_getElem hl, e]
  · obtain ⟨hm', rfl⟩ := List.getElem?_eq_some_iff.mp hz
    have := List.not_of_lt_findIdx (p := fun z => PyData.eqv z d) hm
    simpa using this
/-! ### sayings and forms -/
inductive Un | no | al | ev
inductive Bi | an | or | un
inductive Fw | an | or | un | re
def Un.s : Un → Str | .no => "not" | .al => "always" | .ev => "ever"
def Bi.s : Bi → Str | .an => "and" | .or => "or" | .un => "until"
def Fw.s : Fw → Str | .an => "and" | .or => "or" | .un => "until" | .re => "release"
def Bi.f : Bi → Fw | .an => .an | .or => .or | .un => .un
def Bi.t : Bi → Fw | .an => .or | .or => .an | .un => .re
inductive Sy
  | yes
  | at (w : Str) (r : List PyData)
  | un (w : Un) (s : Sy)
  | bi (w : Bi) (s t : Sy)
inductive Fm
  | yes | no
  | is (b : Bool) (n : Nat)
  | bi (w : Fw) (s t : Fm)
def dAt (w : Str) (r : List PyData) : PyData := .tuple (.str w :: r)
def dSy : Sy → PyData
  | .yes => .tuple [.str "yes"]
  | .at w r => dAt w r
  | .un w s => .tuple [.str w.s, dSy s]
  | .bi w s t => .tuple [.str w.s, dSy s, dSy t]
def isW (b : Bool) : Str := if b then "is" else "isnt"
def dFm : Fm → PyData
  | .yes => .tuple [.str "yes"]
  | .no => .tuple [.str "no"]
  | .is b n => .tuple [.str (isW b), .int n]
  | .bi w s t => .tuple [.str w.s, dFm s, dFm t]
def atomW : List Str := ["place", "deed", "wish"]
def AtOk (w : Str) (r : List PyData) : Prop := w ∈ atomW ∧ Pl 8 (dAt w r)
/-- a saying at most n within one another, its atoms in order -/
inductive SyOk : Nat → Sy → Prop
  | yes {n : Nat} : SyOk (n + 1) .yes
  | at {n : Nat} {w : Str} {r : List PyData} : AtOk w r → SyOk (n + 1) (.at w r)
  | un {n : Nat} {w : Un} {s : Sy} : SyOk n s → SyOk (n + 1) (.un w s)
  | bi {n : Nat} {w : Bi} {s t : Sy} : SyOk n s → SyOk n t → SyOk (n + 1) (.bi w s t)
inductive FmOk : Nat → Fm → Prop
  | yes {n : Nat} : FmOk (n + 1) .yes
  | no {n : Nat} : FmOk (n + 1) .no
  | is {n : Nat} {b : Bool} {k : Nat} : FmOk (n + 1) (.is b k)
  | bi {n : Nat} {w : Fw} {s t : Fm} : FmOk n s → FmOk n t → FmOk (n + 1) (.bi w s t)
theorem SyOk.mono : ∀ {n m : Nat} {s : Sy}, SyOk n s → n ≤ m → SyOk m s
  | _, 0, _, .yes, h => absurd h (by omega)
  | _, 0, _, .at _, h => absurd h (by omega)
  | _, 0, _, .un _, h => absurd h (by omega)
  | _, 0, _, .bi _ _, h => absurd h (by omega)
  | _, _ + 1, _, .yes, _ => .yes
  | _, _ + 1, _, .at a, _ => .at a
  | _, _ + 1, _, .un a, h => .un (a.mono (by omega))
  | _, _ + 1, _, .bi a b, h => .bi (a.mono (by omega)) (b.mono (by omega))
theorem FmOk.mono : ∀ {n m : Nat} {s : Fm}, FmOk n s → n ≤ m → FmOk m s
  | _, 0, _, .yes, h => absurd h (by omega)
  | _, 0, _, .no, h => absurd h (by omega)
  | _, 0, _, .is, h => absurd h (by omega)
  | _, 0, _, .bi _ _, h => absurd h (by omega)
  | _, _ + 1, _, .yes, _ => .yes
  | _, _ + 1, _, .no, _ => .no
  | _, _ + 1, _, .is, _ => .is
  | _, _ + 1, _, .bi a b, h => .bi (a.mono (by omega)) (b.mono (by omega))
def wd : Sy → Str | .yes => "yes" | .at w _ => w | .un w _ => w.s | .bi w _ _ => w.s
def hv : Sy → List Sy | .yes => [] | .at _ _ => [] | .un _ s => [s] | .bi _ s t => [s, t]
def isAt : Sy → Bool | .at _ _ => true | _ => false
theorem hv_len {s : Sy} : (hv s).length ≤ 2 := by
  cases s <;> simp [hv]
theorem dSy_hv {s : Sy} (h : isAt s = false) : dSy s = .tuple (.str (wd s) :: (hv s).map dSy) := by
  cases s <;> first | rfl | cases h
theorem hv_ok {n : Nat} {s : Sy} (h : SyOk (n + 1) s) : ∀ t ∈ hv s, SyOk n t := by
  cases h with
  | yes => exact fun t ht => absurd ht List.not_mem_nil
  | «at» _ => exact fun t ht => absurd ht List.not_mem_nil
  | un a => exact fun t ht => by rw [List.mem_singleton.mp ht]; exact a
  | bi a b =>
    intro t ht
    rcases List.mem_cons.mp ht with e | ht
    · rw [e]; exact a
    · rw [List.mem_singleton.mp ht]; exact b
def atomsOf : Sy → List PyData
  | .yes => []
  | .at w r => [dAt w r]
  | .un _ s => merge [] (atomsOf s)
  | .bi _ s t => merge (merge [] (atomsOf s)) (atomsOf t)
def gather (f : Sy → List PyData) (acc : List PyData) (hs : List Sy) : List PyData := hs.foldl (fun a h => merge a (f h)) acc
theorem atomsOf_hv {s : Sy} (h : isAt s = false) : atomsOf s = gather atomsOf [] (hv s) := by
  cases s <;> first | rfl | cases h
theorem atoms_pl {n : Nat} {s : Sy} (h : SyOk n s) : ∀ d ∈ atomsOf s, Pl 8 d := by
  induction h with
  | yes => exact fun d hd => absurd hd List.not_mem_nil
  | «at» a => exact fun d hd => by rw [List.mem_singleton.mp hd]; exact a.2
  | un a ih => exact merge_sub (fun d hd => absurd hd List.not_mem_nil) ih
  | bi a b i1 i2 => exact merge_sub (merge_sub (fun d hd => absurd hd List.not_mem_nil) i1) i2
theorem atoms_len {n : Nat} {s : Sy} (h : SyOk n s) : (atomsOf s).length ≤ 2 ^ n := by
  induction h with
  | yes => exact Nat.zero_le _
  | @«at» n w r a => exact Nat.one_le_two_pow
  | un a ih =>
    rw [atomsOf, merge_nil]
    exact Nat.le_trans ih (Nat.pow_le_pow_right (by decide) (by omega))
  | bi a b i1 i2 =>
    rw [atomsOf, merge_nil, Nat.pow_succ]
    exact Nat.le_trans merge_len (by omega)
/-- all atoms of a saying are among these -/
inductive Has (ds : List PyData) : Sy → Prop
  | yes : Has ds .yes
  | at {w : Str} {r : List PyData} : dAt w r ∈ ds → Has ds (.at w r)
  | un {w : Un} {s : Sy} : Has ds s → Has ds (.un w s)
  | bi {w : Bi} {s t : Sy} : Has ds s → Has ds t → Has ds (.bi w s t)
theorem Has.mono {ds es : List PyData} (h : ∀ d ∈ ds, d ∈ es) : ∀ {s : Sy}, Has ds s → Has es s
  | _, .yes => .yes
  | _, .at a => .at (h _ a)
  | _, .un a => .un (a.mono h)
  | _, .bi a b => .bi (a.mono h) (b.mono h)
theorem has_own {n : Nat} {s : Sy} (h : SyOk n s) : Has (atomsOf s) s := by
  induction h with
  | yes => exact .yes
  | «at» a => exact .at (List.mem_singleton.mpr rfl)
  | un a ih =>
    rw [atomsOf, merge_nil]
    exact .un ih
  | bi a b i1 i2 =>
    rw [atomsOf, merge_nil]
    have p1 := fun d hd => (atoms_pl a d hd).1
    have p2 := fun d hd => (atoms_pl b d hd).1
    exact .bi (i1.mono fun d hd => mem_merge p1 p2 (.inl hd)) (i2.mono fun d hd => mem_merge p1 p2 (.inr hd))
theorem hv_has {ds : List PyData} {s : Sy} (h : Has ds s) : ∀ t ∈ hv s, Has ds t := by
  cases h with
  | yes => exact fun t ht => absurd ht List.not_mem_nil
  | «at» _ => exact fun t ht => absurd ht List.not_mem_nil
  | un a => exact fun t ht => by rw [List.mem_singleton.mp ht]; exact a
  | bi a b =>
    intro t ht
    rcases List.mem_cons.mp ht with e | ht
    · rw [e]; exact a
    · rw [List.mem_singleton.mp ht]; exact b
def fm (ds : List PyData) : Sy → Bool → Fm
  | .yes, b => if b then .yes else .no
  | .at w r, b => .is b (idx ds (dAt w r))
  | .un .no s, b => fm ds s (!b)
  | .un .ev s, b => if b then .bi .un .yes (fm ds s b) else .bi .re .no (fm ds s b)
  | .un .al s, b => if b then .bi .re .no (fm ds s b) else .bi .un .yes (fm ds s b)
  | .bi w s t, b => .bi (if b then w.f else w.t) (fm ds s b) (fm ds t b)
theorem fm_ok {ds : List PyData} {n : Nat} {s : Sy} (h : SyOk n s) : ∀ b, FmOk (n + 1) (fm ds s b) := by
  induction h with
  | yes => intro b; cases b <;> constructor
  | «at» a => intro b; exact .is
  | @un n w s a ih =>
    intro b
    cases w with
    | no => exact (ih (!b)).mono (by omega)
    | ev => cases b
            · exact .bi .no (ih _)
            · exact .bi .yes (ih _)
    | al => cases b
            · exact .bi .yes (ih _)
            · exact .bi .no (ih _)
  | bi a b i1 i2 => intro c; exact .bi (i1 c) (i2 c)
theorem fm_not {ds : List PyData} {s : Sy} {b : Bool} : fm ds (.un .no s) b = fm ds s (!b) := rfl
theorem str_ok_un (w : Un) : PyData.strOk w.s = true := by cases w <;> decide +kernel
theorem str_ok_fw (w : Fw) : PyData.strOk w.s = true := by cases w <;> decide +kernel
theorem str_ok_bi (w : Bi) : PyData.strOk w.s = true := by cases w <;> decide +kernel
theorem pl2 {n : Nat} {a b : PyData} (h1 : Pl n a) (h2 : Pl n b) : Pl (n + 1) (.tuple [a, b]) := Pl.tup fun d hd => by
  rcases List.mem_cons.mp hd with e | hd
  · rw [e]; exact h1
  · rw [List.mem_singleton.mp hd]; exact h2
theorem pl3 {n : Nat} {a b c : PyData} (h1 : Pl n a) (h2 : Pl n b) (h3 : Pl n c) : Pl (n + 1) (.tuple [a, b, c]) := Pl.tup fun d hd => by
  rcases List.mem_cons.mp hd with e | hd
  · rw [e]; exact h1
  · rcases List.mem_cons.mp hd with e | hd
    · rw [e]; exact h2
    · rw [List.mem_singleton.mp hd]; exact h3
theorem pl1 {n : Nat} {a : PyData} (h1 : Pl n a) : Pl (n + 1) (.tuple [a]) := Pl.tup fun d hd => by
  rw [List.mem_singleton.mp hd]; exact h1
theorem fm_pl {n : Nat} {f : Fm} (h : FmOk n f) : Pl n (dFm f) := by
  induction h with
  | @yes n => exact (pl1 (pl_str (by decide +kernel))).mono (by omega)
  | @no n => exact (pl1 (pl_str (by decide +kernel))).mono (by omega)
  | @is n b k => exact (pl2 (pl_str (by cases b <;> decide +kernel)) pl_int).mono (by omega)
  | @bi n w s t a b i1 i2 => exact pl3 ((pl_str (str_ok_fw w)).mono (by omega)) i1 i2
theorem sy_pl {n : Nat} {s : Sy} (h : SyOk n s) : Pl (n + 8) (dSy s) := by
  induction h with
  | @yes n => exact (pl1 (pl_str (by decide +kernel))).mono (by omega)
  | @«at» n w r a => exact a.2.mono (by omega)
  | @un n w s a ih => exact (pl2 ((pl_str (str_ok_un w)).mono (by omega)) ih).mono (by omega)
  | @bi n w s t a b i1 i2 => exact (pl3 ((pl_str (str_ok_bi w)).mono (by omega)) i1 i2).mono (by omega)
/-! ### untils in a form -/
def hf : Fm → List Fm | .bi _ s t => [s, t] | _ => []
def wf : Fm → Str | .yes => "yes" | .no => "no" | .is b _ => isW b | .bi w _ _ => w.s
def isBi : Fm → Bool | .bi _ _ _ => true | _ => false
def ownU (f : Fm) : List PyData := match f with | .bi .un _ _ => [dFm f] | _ => []
def untilsOf : Fm → List PyData
  | .bi w s t => merge (merge (ownU (.bi w s t)) (untilsOf s)) (untilsOf t)
  | _ => []
def gatherF (f : Fm → List PyData) (acc : List PyData) (hs : List Fm) : List PyData := hs.foldl (fun a h => merge a (f h)) acc
theorem hf_len {s : Fm} : (hf s).length ≤ 2 := by
  cases s <;> simp [hf]
theorem untils_hf {f : Fm} : untilsOf f = gatherF untilsOf (ownU f) (hf f) := by
  cases f <;> rfl
theorem dFm_hf {f : Fm} (h : isBi f = true) : dFm f = .tuple (.str (wf f) :: (hf f).map dFm) := by
  cases f <;> first | rfl | cases h
theorem hf_ok {n : Nat} {f : Fm} (h : FmOk (n + 1) f) : ∀ t ∈ hf f, FmOk n t := by
  cases h with
  | bi a b =>
    intro t ht
    rcases List.mem_cons.mp ht with e | ht
    · rw [e]; exact a
    · rw [List.mem_singleton.mp ht]; exact b
  | _ => exact fun t ht => absurd ht List.not_mem_nil
theorem own_pl {n : Nat} {f : Fm} (h : FmOk n f) : ∀ d ∈ ownU f, Pl n d := by
  cases f with
  | bi w s t =>
    cases w with
    | un => exact fun d hd => by rw [List.mem_singleton.mp hd]; exact fm_pl h
    | _ => exact fun d hd => absurd hd List.not_mem_nil
  | _ => exact fun d hd => absurd hd List.not_mem_nil
theorem own_len {f : Fm} : (ownU f).length ≤ 1 := by
  cases f with
  | bi w s t => cases w <;> first | exact Nat.zero_le _ | exact Nat.le_refl _
  | _ => exact Nat.zero_le _
theorem untils_pl {n : Nat} {f : Fm} (h : FmOk n f) : ∀ d ∈ untilsOf f, Pl n d := by
  induction h with
  | bi a b i1 i2 => exact merge_sub (merge_sub (own_pl (.bi a b)) fun d hd => (i1 d hd).mono (by omega)) fun d hd => (i2 d hd).mono (by omega)
  | _ => exact fun d hd => absurd hd List.not_mem_nil
theorem untils_len {n : Nat} {f : Fm} (h : FmOk n f) : (untilsOf f).length + 1 ≤ 2 ^ n := by
  induction h with
  | @bi n w s t a b i1 i2 =>
    have h1 := @own_len (.bi w s t)
    rw [untilsOf, Nat.pow_succ]
    have h2 := @merge_len (ownU (.bi w s t)) (untilsOf s)
    have h3 := @merge_len (merge (ownU (.bi w s t)) (untilsOf s)) (untilsOf t)
    omega
  | _ => exact Nat.one_le_two_pow
theorem gather_take {α : Type} {f : α → List PyData} {acc : List PyData} {hs : List α} {i : Nat} {h : α} (e : hs[i]? = some h) :
    (hs.take (i + 1)).foldl (fun a h => merge a (f h)) acc = merge ((hs.take i).foldl (fun a h => merge a (f h)) acc) (f h) := by
  rw [List.take_add_one, e, Option.toList_some, List.foldl_append]
  rfl
theorem gather_sub {α : Type} {f : α → List PyData} {p : PyData → Prop} : ∀ {hs : List α} {acc : List PyData}, (∀ d ∈ acc, p d) → (∀ h ∈ hs, ∀ d ∈ f h, p d) → ∀ d ∈ hs.foldl (fun a h => merge a (f h)) acc, p d
  | [], _, h, _ => h
  | x :: xs, _, h, g => gather_sub (hs := xs) (merge_sub h (g x List.mem_cons_self)) fun y hy => g y (List.mem_cons_of_mem _ hy)
theorem gather_len {α : Type} {f : α → List PyData} {m : Nat} : ∀ {hs : List α} {acc : List PyData}, (∀ h ∈ hs, (f h).length ≤ m) → (hs.foldl (fun a h => merge a (f h)) acc).length ≤ acc.length + hs.length * m
  | [], _, _ => by simp
  | x :: xs, acc, h => by
    have h1 := gather_len (hs := xs) (acc := merge acc (f x)) (f := f) (m := m) fun y hy => h y (List.mem_cons_of_mem _ hy)
    have h2 := @merge_len acc (f x)
    have h3 := h x List.mem_cons_self
    rw [List.foldl_cons, List.length_cons, Nat.succ_mul]
    omega
end Sf

namespace W25
open PySem PySem.Spec PyProof.Rows L2 Gs Sf
/-! ### data of tuples in the heap, taken apart -/
section
variable {K : PySem.W.Frag} {H H' : Hp}
theorem TpAll.at : ∀ {vs : List V} {ds : List PyData}, TpAll K H vs ds → ∀ {i : Nat} {v : V}, vs[i]? = some v → ∃ d, ds[i]? = some d ∧ Tp K H v d
  | _, _, .nil, i, v, e => by simp at e
  | _, _, .cons h r, 0, v, e => by
    cases e
    exact ⟨_, rfl, h⟩
  | _, _, .cons h r, i + 1, v, e => r.at (i := i) e
theorem cut1 {v : V} {vs : List V} : cutV (v :: vs) (some 1) none = vs := by
  have e : HT.sIx (vs.length + 1) 0 (some 1) = 1 := by
    show (if (1 : Int) < 0 then ((1 : Int) + ((vs.length + 1 : Nat) : Int)).toNat else min (1 : Int).toNat (vs.length + 1)) = 1
    rw [if_neg (by decide)]
    show min 1 (vs.length + 1) = 1
    omega
  show ((v :: vs).drop (HT.sIx (vs.length + 1) 0 (some 1))).take (vs.length + 1 - HT.sIx (vs.length + 1) 0 (some 1)) = vs
  rw [e]
  show vs.take (vs.length + 1 - 1) = vs
  rw [Nat.add_sub_cancel, List.take_length]
theorem cut1_ne {v : V} {vs : List V} {n : Nat} : ¬ (HT.sIx (v :: vs).length 0 (some 1) = 0 ∧ n = (v :: vs).length) := by
  have e : HT.sIx (vs.length + 1) 0 (some 1) = 1 := by
    show (if (1 : Int) < 0 then ((1 : Int) + ((vs.length + 1 : Nat) : Int)).toNat else min (1 : Int).toNat (vs.length + 1)) = 1
    rw [if_neg (by decide)]
    show min 1 (vs.length + 1) = 1
    omega
  intro h
  rw [show HT.sIx (v :: vs).length 0 (some 1) = 1 from e] at h
  exact absurd h.1 (by decide)
end
theorem u65 {k : Nat} {A : Around} (r : Room k A) : A.units + 65 < cLine := by
  have := r.un
  omega
theorem op_notInK {X : Cx} {K : PySem.W.Frag} (hk : X.K = K) (hu : X.A.units + 65 < cLine) : OpR X (compareOp .NotIn) (rNotInD K) := by
  subst hk
  exact op_notInD hu
/-! ### [x for x in a list if x not in another] -/
theorem lc_filter {K : PySem.W.Frag} {a D : Addr} {us : List V} {ds acc : List PyData} {g : TG} {tt : TT} {te : TE} {vs : List Nat} {σ : L2.St} {H2 : Hp} {Qd : Hp → Prop} (hD : H2 D = none) (ha : H2 a = some (.lst us)) (hu : TpAll K H2 us ds) (hz : us.length ≤ 1000)
    (hs : ∀ (x : V) (d : PyData) (H : Hp) (R : Hp → Prop) (T : V → Hp → Prop), d ∈ ds → Tp K H x d → Same H2 H → (if notIn acc d = true then T x H else R H) →
      g x (wipe σ vs) H fun σ2 H2 => wipe σ2 vs = wipe σ vs ∧ tt σ2 H2 fun b H3 => if b = true then te σ2 H3 T else R H3)
    (hd : ∀ ws, TpAll K (upd H2 D (.lst ws)) ws (ds.filter (notIn acc)) → Qd (upd H2 D (.lst ws))) :
    ∃ W : Nat → Nat → Hp → Prop, (∃ m, W 0 m (upd H2 D (.lst []))) ∧ ∀ i m H, W i m H →
      ((Itl K a).stop i H ∧ Qd H) ∨ ((Itl K a).go i H ∧ ∃ Nx : Hp → Prop, (∀ H', Nx H' → ∃ m', m' < m ∧ W (i + 1) m' H') ∧ ∀ x H', (Itl K a).yld i H x H' → g x (wipe σ vs) H' fun σ2 H2 => wipe σ2 vs = wipe σ vs ∧ tt σ2 H2 fun b H3 =>
        if b = true then te σ2 H3 fun y H4 => ∃ acc, H4 D = some (.lst acc) ∧ acc.length < sizeLine ∧ Nx (upd H4 D (.lst (acc ++ [y]))) else Nx H3) := by
  refine lc_list (K := K) (xs := us) (fun i H' => ∃ ws, H' = upd H2 D (.lst ws) ∧ TpAll K H2 ws ((ds.take i).filter (notIn acc)) ∧ ws.length ≤ i) ⟨[], rfl, .nil, Nat.le_refl _⟩ (fun i H' _ hp => ?_) (fun i x H1 hx hp => ?_) (fun H1 hp => ?_)
  · obtain ⟨ws, rfl, _⟩ := hp
    exact SqL.of (same_new hD _ _ ha)
  · obtain ⟨ws, rfl, tw, lw⟩ := hp
    obtain ⟨d, ed, td⟩ := hu.at hx
    have il : i < us.length := (List.getElem?_eq_some_iff.mp hx).1
    have tk : (ds.take (i + 1)).filter (notIn acc) = (ds.take i).filter (notIn acc) ++ [d].filter (notIn acc) := by
      rw [List.take_add_one, ed, Option.toList_some, List.filter_append]
    refine hs x d _ _ _ (List.mem_of_getElem? ed) (td.mono (same_new hD)) (same_new hD) ?_
    by_cases hn : notIn acc d = true
    · rw [if_pos hn]
      refine ⟨ws, upd_same, small1000 (by omega), ws ++ [x], ?_, ?_, ?_⟩
      · funext b
        by_cases e : b = D
        · rw [e, upd_same, upd_same]
        · rw [upd_ne e, upd_ne e, upd_ne e]
      · rw [tk, List.filter_cons_of_pos hn]
        exact tw.app (.cons td .nil)
      · rw [List.length_append]
        exact Nat.succ_le_succ lw
    · rw [if_neg hn]
      refine ⟨ws, rfl, ?_, by omega⟩
      rw [tk, List.filter_cons_of_neg hn]
      simpa using tw
  · obtain ⟨ws, rfl, tw, lw⟩ := hp
    rw [hu.len, List.take_length] at tw
    exact hd ws (tw.mono (same_new hD))
theorem tpAll_map {K : PySem.W.Frag} {H : Hp} {vs : List V} {α : Type} {g : α → PyData} {hs : List α} (h : TpAll K H vs (hs.map g)) {i : Nat} {x : V} (hx : vs[i]? = some x) : ∃ a, hs[i]? = some a ∧ a ∈ hs ∧ Tp K H x (g a) := by
  obtain ⟨d, ed, tx⟩ := h.at hx
  rw [List.getElem?_map] at ed
  cases eh : hs[i]? with
  | none => rw [eh] at ed; cases ed
  | some a =>
    rw [eh] at ed
    cases ed
    exact ⟨a, rfl, List.mem_of_getElem? eh, tx⟩
theorem map_take {α β : Type} {g : α → β} {hs : List α} {i : Nat} {a : α} (e : hs[i]? = some a) : (hs.take (i + 1)).map g = (hs.take i).map g ++ [g a] := by
  rw [List.take_add_one, e, Option.toList_some, List.map_append]
  rfl
/-! ### atoms_of -/
theorem scAtoms : FnScope ["saying", "atoms", "half", "atom"] ["saying"] (defScope sAtomsOf) := ⟨rfl, rfl, rfl, by decide +kernel, rfl, by decide +kernel, by decide +kernel⟩
def spAtoms (K : PySem.W.Frag) (n : Nat) : Sp := fun vs H Q _ => ∃ (v : V) (s : Sy), vs = [v] ∧ Tp K H v (dSy s) ∧ SyOk n s ∧
  ∀ H' r us, Same H H' → H r = none → H' r = some (.lst us) → TpAll K H' us (atomsOf s) → Q (.ref r) H'
/-- a tuple of texts of the top -/
def TxtsAt (K : PySem.W.Frag) (a : Addr) (zs : List Str) : Prop := ∀ H : Hp, SqT K H a (zs.map V.str)
theorem in_atoms {w : Str} (h : w ∈ atomW) : inV (.str w) (atomW.map V.str) = true := by
  rcases List.mem_cons.mp h with rfl | h
  · rfl
  rcases List.mem_cons.mp h with rfl | h
  · rfl
  rcases List.mem_cons.mp h with rfl | h
  · rfl
  · exact absurd h List.not_mem_nil
theorem no_atom {s : Sy} (h : isAt s = false) : inV (.str (wd s)) (atomW.map V.str) = false := by
  cases s with
  | yes => rfl
  | «at» w r => cases h
  | un w s => cases w <;> rfl
  | bi w s t => cases w <;> rfl
theorem flat_strs (zs : List Str) : (zs.map V.str).all flatV = true := by
  rw [List.all_eq_true]
  intro x hx
  obtain ⟨z, _, rfl⟩ := List.mem_map.mp hx
  rfl
section
variable {P : Program} {w : World} {K : PySem.W.Frag} {mg : Str → Option Value} {base : Heap} {f aT : Addr} {fd : FuncData}
theorem ok_atoms (F : Fun K "atoms_of" "atoms_of" sAtomsOf f fd) (g : mg "atoms_of" = some (.ref f)) (kp : PySem.W.keepIn K (.ref f) = true) (bd : Binds K fd ["saying"] [])
    (gT : mg "ATOMS" = some (.ref aT)) (hT : TxtsAt K aT atomW) : ∀ n, n ≤ 8 → FnOk P w K mg base CX0 (n + 1) f fd ["saying"] (spAtoms K n) := by
  intro n
  induction n with
  | zero =>
    intro _
    refine F.ok scAtoms (fun vs H Q E h => ?_) (fun cdv A outer s H vs Q E hr h => ?_)
    · obtain ⟨v, s, rfl, _, ok, _⟩ := h
      cases ok
    · obtain ⟨v, s, rfl, _, ok, _⟩ := h
      cases ok
  | succ n ih =>
    intro hn
    have IH := ih (by omega)
    refine F.ok scAtoms (fun vs H Q E h => ?_) (fun cdv A outer s H vs Q E hr h => ?_)
    · obtain ⟨v, s, rfl, _⟩ := h
      rfl
    · obtain ⟨v, s, rfl, tv, ok, q⟩ := h
      refine ⟨_, pss_cons (ps_if (pt_cmpR op_in_seq (pe_ix ix_tup (pv 0) pe_int (fun _ _ => rfl)) (pe_glob (v := .ref aT) (by rfl) gT rfl) (by rfl)) (pss_one (ps_ret (pe_lst (pa_cons (pv 0) pa_nil)))) pss_nil)
        (pss_cons (ps_set (i := 1) scAtoms.nd rfl (.inr rfl) (pe_lst pa_nil))
        (pss_cons (ps_for PassesOwn.never rfl (pi_tup (pe_slice sl_tup (pv 0) (po_some pe_int) po_none)) (pg_name (i := 2) scAtoms.nd rfl (Or.inl rfl))
          (pss_one (ps_expr (pe_bm PySem.F.plainAttrs_list PySem.F.slot_list_extend PySem.F.type_list_extend mt_extend (pv 1) (pa_cons
            (pe_lc (own := [("atom", 3)]) (g := gName 3) rfl scAtoms.nd (pi_list (pe_call IH hr (by rfl) g kp bd .nil pass0 (pa_cons (pv 2) pa_nil))) (blkOk_by (own := [("atom", 3)]) (N := ["saying", "atoms", "half", "atom"]) (sc := defScope sAtomsOf) (by decide +kernel))
              (fun _ _ _ _ _ => pg_name (i := 3) scAtoms.nd rfl (Or.inl rfl))
              (fun _ _ _ _ _ => pts_one (pt_cmpR (op_notInK (K := K) rfl (u65 hr)) (pv 3) (pv 1) (by rfl)))
              (fun _ _ _ _ _ => pv 3)) pa_nil)))))
        (pss_one (ps_ret (pv 1))))), ?_⟩
      cases hat : isAt s with
      | true =>
        cases s with
        | yes => cases hat
        | un w s => cases hat
        | bi w s t => cases hat
        | «at» wz r =>
          obtain ⟨a, xs, rfl, sq, ta⟩ := tp_tup tv
          obtain ⟨v0, vs, rfl, t0, _⟩ := tp_cons ta
          cases tp_str t0
          cases ok with
          | «at» ao =>
            refine ⟨_, rfl, a, _, 0, _, rfl, rfl, sq, atI_nat (j := 0) rfl, aT, _, rfl, .inr (hT H), rfl, flat_strs _, _, rfl, iteP (in_atoms ao.1) ?_⟩
            refine ⟨_, rfl, by show 1 ≤ sizeLine; decide, fun l hl => ?_⟩
            exact q _ l _ (same_new hl) hl upd_same (.cons (tv.mono (same_new hl)) .nil)
      | false =>
        have tv0 := tv
        rw [dSy_hv hat] at tv
        obtain ⟨a, xs, rfl, sq, ta⟩ := tp_tup tv
        obtain ⟨v0, vs, rfl, t0, th⟩ := tp_cons ta
        cases tp_str t0
        refine ⟨_, rfl, a, _, 0, _, rfl, rfl, sq, atI_nat (j := 0) rfl, aT, _, rfl, .inr (hT H), rfl, flat_strs _, _, rfl, iteN (no_atom hat) ?_⟩
        refine ⟨by show 0 ≤ sizeLine; decide, fun r0 hr0 => ?_⟩
        refine ⟨_, rfl, 1, rfl, a, _, rfl, same_tup (same_new hr0) sq, cut1_ne, fun T hT0 => ?_⟩
        rw [cut1]
        have s1 : Same H (upd (upd H r0 (.lst [])) T (.tup vs)) := (same_new hr0).trans (same_new hT0)
        have nT : r0 ≠ T := ne_of_none upd_same hT0
        have lv : vs.length = (hv s).length := by rw [th.len, List.length_map]
        refine ⟨T, rfl, ⟨_, SqT.of upd_same⟩, for_tup (K := K) (xs := vs) (fun i σ H' => ∃ us y z, σ = [some (.ref a), some (.ref r0), y, z] ∧ Same H H' ∧ H' r0 = some (.lst us) ∧ TpAll K H' us (gather atomsOf [] ((hv s).take i)) ∧ SqT K H' T vs)
          ⟨[], _, _, rfl, s1, by rw [upd_ne nT]; exact upd_same, .nil, SqT.of upd_same⟩ (fun i σ H' _ hp => ?_) (fun i x σ H' hx hp => ?_) (fun σ H' hp => ?_)⟩
        · obtain ⟨us, y, z, _, _, _, _, h⟩ := hp
          exact h
        · obtain ⟨us, y, z, rfl, sm, hr1, tu, sT⟩ := hp
          obtain ⟨d, ed, tx⟩ := th.at hx
          rw [List.getElem?_map] at ed
          cases eh : (hv s)[i]? with
          | none => rw [eh] at ed; cases ed
          | some h =>
            rw [eh] at ed
            cases ed
            have hm : h ∈ hv s := List.mem_of_getElem? eh
            have okh := hv_ok ok h hm
            have il : i < (hv s).length := (List.getElem?_eq_some_iff.mp eh).1
            have accp : ∀ d ∈ gather atomsOf [] ((hv s).take i), Pl 8 d := gather_sub (fun d hd => absurd hd List.not_mem_nil) fun h' hh => atoms_pl (hv_ok ok h' (List.mem_of_mem_take hh))
            have accl : (gather atomsOf [] ((hv s).take i)).length ≤ 0 + ((hv s).take i).length * 2 ^ n := gather_len fun h' hh => atoms_len (hv_ok ok h' (List.mem_of_mem_take hh))
            have hl2 : (hv s).length ≤ 2 := hv_len
            have tl : ((hv s).take i).length ≤ 2 := by rw [List.length_take]; omega
            have p2 : 2 ^ n ≤ 2 ^ 8 := Nat.pow_le_pow_right (by decide) (by omega)
            have accl2 : (gather atomsOf [] ((hv s).take i)).length ≤ 512 := Nat.le_trans accl (by
              rw [Nat.zero_add]
              exact Nat.le_trans (Nat.mul_le_mul tl p2) (by decide))
            refine ⟨_, rfl, .inl ⟨rfl, _, SqL.of hr1⟩, ?_⟩
            refine ⟨_, rfl, x, h, rfl, tx.mono sm, okh, fun H2 r1 us1 sm2 hr2 e2 t2 => ?_⟩
            have hlen1 : us1.length ≤ 256 := by rw [t2.len]; exact Nat.le_trans (atoms_len okh) (Nat.le_trans p2 (by decide))
            refine ⟨r1, rfl, ⟨_, SqL.of e2⟩, fun D hD => ?_⟩
            refine lc_filter (acc := gather atomsOf [] ((hv s).take i)) hD e2 t2 (by omega) (fun x d Hx R T0 hd tx sx hh => ?_) (fun ws tw => ?_)
            · refine ⟨rfl, _, rfl, _, rfl, d, _, tx.dp, .lst (SqL.of (sx _ _ (sm2 _ _ hr1))) ((tu.mono (sm2.trans sx)).dp), (atoms_pl okh d hd).shaped (by decide), shaped_list accp (by decide), _, rfl, ?_⟩
              by_cases c : notIn (gather atomsOf [] ((hv s).take i)) d = true
              · rw [if_pos c] at hh
                rw [show (!(gather atomsOf [] ((hv s).take i)).any fun z => PyData.eqv z d) = true from c]
                exact ⟨_, rfl, hh⟩
              · rw [if_neg c] at hh
                rw [show (!(gather atomsOf [] ((hv s).take i)).any fun z => PyData.eqv z d) = false from Bool.eq_false_iff.mpr c]
                exact hh
            · have s3 : Same H2 (upd H2 D (.lst ws)) := same_new hD
              have hr3 : upd H2 D (.lst ws) r0 = some (.lst us) := s3 _ _ (sm2 _ _ hr1)
              have nD : r0 ≠ D := ne_of_none (sm2 _ _ hr1) hD
              have lw : ws.length ≤ 256 := by
                rw [tw.len]
                exact Nat.le_trans (List.length_filter_le _ _) (by rw [← t2.len]; exact hlen1)
              have kk : Keep r0 (upd H2 D (.lst ws)) (upd (upd H2 D (.lst ws)) r0 (.lst (us ++ ws))) := keep_upd
              have hsame : Same H (upd (upd H2 D (.lst ws)) r0 (.lst (us ++ ws))) := fun b o e => by
                rw [upd_ne (ne_of_none e hr0)]
                exact s3 _ _ (sm2 _ _ (sm _ _ e))
              refine ⟨r0, D, us, ws, rfl, rfl, hr3, upd_same, ?_, us ++ ws, _, _, rfl, hsame, upd_same, ?_, ?_⟩
              · have := tu.len
                exact Nat.le_of_lt (small1000 (by omega))
              · have e : gather atomsOf [] ((hv s).take (i + 1)) = merge (gather atomsOf [] ((hv s).take i)) (atomsOf h) := gather_take eh
                rw [e]
                exact ((tu.mono (sm2.trans s3)).app tw).keepL kk ⟨_, hr3⟩
              · exact keepTL kk ⟨_, hr3⟩ (same_tup (sm2.trans s3) sT)
        · obtain ⟨us, y, z, rfl, sm, hr1, tu, sT⟩ := hp
          refine ⟨_, rfl, q H' r0 us sm hr0 hr1 ?_⟩
          rw [lv, List.take_length, ← atomsOf_hv hat] at tu
          exact tu
end
theorem pick2 {α : Type} {a b : α} (n : Int) : ∃ c, atI [a, b] (n % 2) = some c ∧ (c = a ∨ c = b) := by
  have h0 := Int.emod_nonneg n (show (2 : Int) ≠ 0 by decide)
  have h1 := Int.emod_lt_of_pos n (show (0 : Int) < 2 by decide)
  have h : n % 2 = 0 ∨ n % 2 = 1 := by omega
  rcases h with e | e
  · exact ⟨a, by rw [e]; rfl, .inl rfl⟩
  · exact ⟨b, by rw [e]; rfl, .inr rfl⟩
theorem pick_at {α : Type} {xs : List α} {k : Int} (h0 : 0 ≤ k) (h1 : k < xs.length) : ∃ c, atI xs k = some c ∧ ∃ j : Nat, xs[j]? = some c := by
  obtain ⟨j, rfl⟩ : ∃ j : Nat, k = (j : Int) := ⟨k.toNat, by omega⟩
  have hj : j < xs.length := by omega
  exact ⟨xs[j], atI_nat (List.getElem?_eq_getElem hj), j, List.getElem?_eq_getElem hj⟩
theorem ln_pl {l : Ln} (h : LnOk ["x", "y"] 4 l) : Pl 4 (dLn l) := by
  have sh : ∀ x : Int × Int, Pl 1 (dS x) := fun x => pl2 pl_int pl_int
  refine (pl2 (n := 3) ((sh l.1).mono (by decide)) (Pl.tup (n := 2) fun d hd => ?_))
  obtain ⟨z, hz, rfl⟩ := List.mem_map.mp hd
  refine (pl2 (n := 1) ((pl_str ?_).mono (by decide)) (sh z.2))
  rcases List.mem_cons.mp (h.ps z hz).1 with e | e
  · rw [e]; decide +kernel
  · rw [List.mem_singleton.mp e]; decide +kernel
theorem wish_ok {z : Str} {l : Ln} (hz : z = "least" ∨ z = "above") (h : LnOk ["x", "y"] 4 l) : SyOk 1 (.at "wish" [.tuple [.str z, dLn l]]) := by
  refine .at ⟨by decide, ?_⟩
  have h1 : Pl 5 (.tuple [.str z, dLn l]) := pl2 ((pl_str (by rcases hz with e | e <;> rw [e] <;> decide +kernel)).mono (by decide)) (ln_pl h)
  exact (pl2 ((pl_str (by decide +kernel)).mono (by decide)) h1).mono (by decide)
theorem kp_new {p b : Addr} {H H' : Hp} {o : HO} (k : Keep p H H') (h : H' b = none) : Keep p H (upd H' b o) := k.trans (keep_same (same_new h))
theorem kp_dr {p : Addr} {H H' : Hp} {o : HO} (k : Keep p H H') : Keep p H (upd H' p o) := k.trans keep_upd
theorem scSaying : FnScope ["_law_left_here", "_law_atoms", "_law_deep", "_law_way", "_law_word"] ["_law_left_here", "_law_atoms", "_law_deep"] (defScope sSaying) := ⟨rfl, rfl, rfl, by decide +kernel, rfl, by decide +kernel, by decide +kernel⟩
/-! ### the drawing: a saying -/
def spSaying (K : PySem.W.Frag) (Pr : Sy → Prop) (m : Nat) : Sp := fun vs H Q _ => ∃ (p aA : Addr) (k : Int) (us : List V) (ss : List Sy), vs = [.ref p, .ref aA, .int k] ∧ k = (m : Int) ∧ 1 ≤ m ∧ Lf H p ∧ aA ≠ p ∧ H aA = some (.lst us) ∧ TpAll K H us (ss.map dSy) ∧ ss.length ≤ 10 ∧ (∀ s ∈ ss, SyOk 1 s ∧ Pr s) ∧
  ∀ H' v s, Keep p H H' → Lf H' p → Tp K H' v (dSy s) → SyOk m s → Pr s → Q v H'
theorem pick3 (i : Int) (h0 : 2 ≤ i) (h1 : i < 5) : ∃ u : Un, atI [V.str "not", V.str "always", V.str "ever"] (i - 2) = some (.str u.s) := by
  have h : i = 2 ∨ i = 3 ∨ i = 4 := by omega
  rcases h with rfl | rfl | rfl
  · exact ⟨.no, rfl⟩
  · exact ⟨.al, rfl⟩
  · exact ⟨.ev, rfl⟩
theorem pick4 (i : Int) (h0 : 5 ≤ i) (h1 : i < 9) : ∃ u : Bi, atI [V.str "and", V.str "or", V.str "until", V.str "until"] (i - 5) = some (.str u.s) := by
  have h : i = 5 ∨ i = 6 ∨ i = 7 ∨ i = 8 := by omega
  rcases h with rfl | rfl | rfl | rfl
  · exact ⟨.an, rfl⟩
  · exact ⟨.or, rfl⟩
  · exact ⟨.un, rfl⟩
  · exact ⟨.un, rfl⟩
section
variable {P : Program} {w : World} {K : PySem.W.Frag} {mg : Str → Option Value} {base : Heap} {f f1 : Addr} {fd d1 : FuncData}
theorem ok_saying (F : Fun K "_law_saying" "_law_saying" sSaying f fd) (g : mg "_law_saying" = some (.ref f)) (kp : PySem.W.keepIn K (.ref f) = true) (bd : Binds K fd ["_law_left_here", "_law_atoms", "_law_deep"] [])
    (D : Cl P w K mg base CX0 1 "_law_digit" ["_law_left_here", "_law_upto"] spDigit f1 d1) (ml : mg "len" = none) {Pr : Sy → Prop} (c0 : Pr .yes) (c1 : ∀ u s, Pr s → Pr (.un u s)) (c2 : ∀ u s t, Pr s → Pr t → Pr (.bi u s t)) : ∀ m, FnOk P w K mg base CX0 (m + 1) f fd ["_law_left_here", "_law_atoms", "_law_deep"] (spSaying K Pr m) := by
  intro m
  induction m with
  | zero =>
    refine F.ok scSaying (fun vs H Q E h => ?_) (fun cdv A outer s H vs Q E hr h => ?_)
    · obtain ⟨p, aA, k, us, ss, rfl, _⟩ := h
      rfl
    · obtain ⟨p, aA, k, us, ss, rfl, _, h0, _⟩ := h
      exact absurd h0 (by decide)
  | succ m IH =>
    refine F.ok scSaying (fun vs H Q E h => ?_) (fun cdv A outer s H vs Q E hr h => ?_)
    · obtain ⟨p, aA, k, us, ss, rfl, _⟩ := h
      rfl
    · obtain ⟨p, aA, k, us, ss, rfl, ek, h0, ⟨n, hn⟩, npa, hA, tu, sl, so, q⟩ := h
      have r1 := hr.mono (j := 1) (by omega)
      have lu : us.length ≤ 10 := by rw [tu.len, List.length_map]; exact sl
      refine ⟨_, pss_cons (ps_set (i := 3) scSaying.nd rfl (.inl rfl) (pe_call D.ok r1 (by rfl) D.g D.kp D.bd .nil pass0 (pa_cons (pv 0) (pa_cons pe_int pa_nil))))
        (pss_cons (ps_if (PW.pt (pw_or (pt_cmpR op_eq (pv 2) pe_int (nomark _)) (pw_or1 (pt_cmpR op_lt (pv 3) pe_int (nomark _)))))
          (pss_one (ps_ret (pe_ix ix_list (pe_op op_cat (pv 1) (pe_lst (pa_cons (pe_tup (pa_cons pe_str pa_nil)) pa_nil))) (pe_call D.ok r1 (by rfl) D.g D.kp D.bd .nil pass0 (pa_cons (pv 0) (pa_cons (pe_op op_add (pe_callB call_len_seq (by rfl) ml PySem.boot_len (pa_cons (pv 1) pa_nil)) pe_int) pa_nil))) (fun _ _ => rfl)))) pss_nil)
        (pss_cons (ps_if (pt_cmpR op_lt (pv 3) pe_int (nomark _))
          (pss_one (ps_ret (pe_tup (pa_cons (pe_ix ix_list (pe_lst (pa_cons pe_str (pa_cons pe_str (pa_cons pe_str pa_nil)))) (pe_op op_sub (pv 3) pe_int) (fun _ _ => rfl)) (pa_cons (pe_call IH hr (by rfl) g kp bd .nil pass0 (pa_cons (pv 0) (pa_cons (pv 1) (pa_cons (pe_op op_sub (pv 2) pe_int) pa_nil)))) pa_nil))))) pss_nil)
        (pss_cons (ps_set (i := 4) scSaying.nd rfl (.inl rfl) (pe_ix ix_list (pe_lst (pa_cons pe_str (pa_cons pe_str (pa_cons pe_str (pa_cons pe_str pa_nil))))) (pe_op op_sub (pv 3) pe_int) (fun _ _ => rfl)))
        (pss_one (ps_ret (pe_tup (pa_cons (pv 4) (pa_cons (pe_call IH hr (by rfl) g kp bd .nil pass0 (pa_cons (pv 0) (pa_cons (pv 1) (pa_cons (pe_op op_sub (pv 2) pe_int) pa_nil)))) (pa_cons (pe_call IH hr (by rfl) g kp bd .nil pass0 (pa_cons (pv 0) (pa_cons (pv 1) (pa_cons (pe_op op_sub (pv 2) pe_int) pa_nil)))) pa_nil))))))))), ?_⟩
      refine ⟨_, rfl, p, n, 9, rfl, hn, by decide, log_lit (n := 10) (by decide) (by decide) (by decide), ?_⟩
      have k2 : Keep p H (upd H p (.lst [.int (n / 9)])) := keep_upd
      have hp2 : upd H p (.lst [.int (n / 9)]) p = some (.lst [.int (n / 9)]) := upd_same
      have hA2 := k2 _ _ npa hA
      have tu2 := tu.keep k2 ⟨n, hn⟩
      generalize upd H p (.lst [.int (n / 9)]) = H2 at *
      have w0 := Int.emod_nonneg n (show (9 : Int) ≠ 0 by decide)
      have w9 := Int.emod_lt_of_pos n (show (0 : Int) < 9 by decide)
      refine ⟨_, rfl, rfl, _, rfl, ite2 (fun _ => ?_) (fun hne => ?_)⟩
      · refine ⟨_, rfl, by show 1 ≤ sizeLine; decide, fun ty hty => ⟨by show 1 ≤ sizeLine; decide, fun B hB => ⟨aA, B, _, _, rfl, rfl, same_new hB _ _ (same_new hty _ _ hA2), upd_same, by show us.length + 1 ≤ sizeLine; exact small1000 (by omega), fun C hC => ?_⟩⟩⟩
        have s3 := (same_new (o := .tup [.str "yes"]) hty).trans ((same_new (o := .lst [.ref ty]) hB).trans (same_new (o := .lst (us ++ [.ref ty])) hC))
        have hty3 := ((same_new (o := .lst [.ref ty]) hB).trans (same_new (o := .lst (us ++ [.ref ty])) hC)) _ _ (upd_same (H := H2) (a := ty) (o := .tup [.str "yes"]))
        have eC : upd (upd (upd H2 ty (.tup [.str "yes"])) B (.lst [.ref ty])) C (.lst (us ++ [.ref ty])) C = some (.lst (us ++ [.ref ty])) := upd_same
        generalize upd (upd (upd H2 ty (.tup [.str "yes"])) B (.lst [.ref ty])) C (.lst (us ++ [.ref ty])) = H3 at *
        have hp3 := s3 _ _ hp2
        have hA3 := s3 _ _ hA2
        have tu3 := tu2.mono s3
        have pC : p ≠ C := fun e => by
          rw [e, eC] at hp3
          cases us with
          | nil => cases hp3
          | cons u r => cases r <;> cases hp3
        refine ⟨_, rfl, _, rfl, aA, _, rfl, .inl (SqL.of hA3), _, _, rfl, rfl, p, _, _, rfl, hp3, by omega, log_lit (n := 10) (by decide) (by decide) (by omega), ?_⟩
        have m0 := Int.emod_nonneg (n / 9) (show ((us.length : Int) + 1) ≠ 0 by omega)
        have m3 := Int.emod_lt_of_pos (n / 9) (show (0 : Int) < (us.length : Int) + 1 by omega)
        obtain ⟨cv, ecv, j, ej⟩ := pick_at (xs := us ++ [V.ref ty]) m0 (by rw [List.length_append]; exact m3)
        refine ⟨C, _, _, cv, rfl, rfl, SqL.of (by rw [upd_ne (fun z => pC z.symm)]; exact eC), ecv, ?_⟩
        have kk : Keep p H3 (upd H3 p (.lst [.int (n / 9 / ((us.length : Int) + 1))])) := keep_upd
        have fin : ∃ s, SyOk 1 s ∧ Pr s ∧ Tp K H3 cv (dSy s) := by
          by_cases hj : j < us.length
          · rw [List.getElem?_append_left hj] at ej
            obtain ⟨s, _, hm, ts⟩ := tpAll_map tu3 ej
            exact ⟨s, (so s hm).1, (so s hm).2, ts⟩
          · rw [List.getElem?_append_right (by omega)] at ej
            have hm : cv ∈ [V.ref ty] := List.mem_of_getElem? ej
            rw [List.mem_singleton.mp hm]
            exact ⟨.yes, .yes, c0, .tup (SqT.of hty3) (.cons (.str _) .nil)⟩
        obtain ⟨s, sok, spr, ts⟩ := fin
        exact q _ _ s ((k2.trans (keep_same s3)).trans kk) lf_draw (ts.keep kk ⟨_, hp3⟩) (sok.mono (by omega)) spr
      · have hm1 : 1 ≤ m := by
          cases m with
          | zero => exact absurd (show decide (V.int k = V.int 1) = true by rw [ek]; rfl) hne
          | succ m => omega
        refine ⟨_, rfl, _, _, rfl, rfl, _, rfl, ite2 (fun _ => ?_) (fun hlt => ?_)⟩
        · refine ⟨_, rfl, by show 1 ≤ sizeLine; decide, fun ty hty => ⟨by show 1 ≤ sizeLine; decide, fun B hB => ⟨aA, B, _, _, rfl, rfl, same_new hB _ _ (same_new hty _ _ hA2), upd_same, by show us.length + 1 ≤ sizeLine; exact small1000 (by omega), fun C hC => ?_⟩⟩⟩
          have s3 := (same_new (o := .tup [.str "yes"]) hty).trans ((same_new (o := .lst [.ref ty]) hB).trans (same_new (o := .lst (us ++ [.ref ty])) hC))
          have hty3 := ((same_new (o := .lst [.ref ty]) hB).trans (same_new (o := .lst (us ++ [.ref ty])) hC)) _ _ (upd_same (H := H2) (a := ty) (o := .tup [.str "yes"]))
          have eC : upd (upd (upd H2 ty (.tup [.str "yes"])) B (.lst [.ref ty])) C (.lst (us ++ [.ref ty])) C = some (.lst (us ++ [.ref ty])) := upd_same
          generalize upd (upd (upd H2 ty (.tup [.str "yes"])) B (.lst [.ref ty])) C (.lst (us ++ [.ref ty])) = H3 at *
          have hp3 := s3 _ _ hp2
          have hA3 := s3 _ _ hA2
          have tu3 := tu2.mono s3
          have pC : p ≠ C := fun e => by
            rw [e, eC] at hp3
            cases us with
            | nil => cases hp3
            | cons u r => cases r <;> cases hp3
          refine ⟨_, rfl, _, rfl, aA, _, rfl, .inl (SqL.of hA3), _, _, rfl, rfl, p, _, _, rfl, hp3, by omega, log_lit (n := 10) (by decide) (by decide) (by omega), ?_⟩
          have m0 := Int.emod_nonneg (n / 9) (show ((us.length : Int) + 1) ≠ 0 by omega)
          have m3 := Int.emod_lt_of_pos (n / 9) (show (0 : Int) < (us.length : Int) + 1 by omega)
          obtain ⟨cv, ecv, j, ej⟩ := pick_at (xs := us ++ [V.ref ty]) m0 (by rw [List.length_append]; exact m3)
          refine ⟨C, _, _, cv, rfl, rfl, SqL.of (by rw [upd_ne (fun z => pC z.symm)]; exact eC), ecv, ?_⟩
          have kk : Keep p H3 (upd H3 p (.lst [.int (n / 9 / ((us.length : Int) + 1))])) := keep_upd
          have fin : ∃ s, SyOk 1 s ∧ Pr s ∧ Tp K H3 cv (dSy s) := by
            by_cases hj : j < us.length
            · rw [List.getElem?_append_left hj] at ej
              obtain ⟨s, _, hm, ts⟩ := tpAll_map tu3 ej
              exact ⟨s, (so s hm).1, (so s hm).2, ts⟩
            · rw [List.getElem?_append_right (by omega)] at ej
              have hm : cv ∈ [V.ref ty] := List.mem_of_getElem? ej
              rw [List.mem_singleton.mp hm]
              exact ⟨.yes, .yes, c0, .tup (SqT.of hty3) (.cons (.str _) .nil)⟩
          obtain ⟨s, sok, spr, ts⟩ := fin
          exact q _ _ s ((k2.trans (keep_same s3)).trans kk) lf_draw (ts.keep kk ⟨_, hp3⟩) (sok.mono (by omega)) spr
        · have h2 : 2 ≤ n % 9 := by
            have : ¬ n % 9 < 2 := fun z => hlt (decide_eq_true z)
            omega
          refine ⟨_, rfl, _, _, rfl, rfl, _, rfl, ite2 (fun hl5 => ?_) (fun hl5 => ?_)⟩
          · have h5 : n % 9 < 5 := of_decide_eq_true hl5
            obtain ⟨u, eu⟩ := pick3 _ h2 h5
            refine ⟨by show 3 ≤ sizeLine; decide, fun B hB => ⟨_, rfl, _, _, rfl, rfl, B, _, _, _, rfl, rfl, SqL.of upd_same, eu, ?_⟩⟩
            have s3 := same_new (o := .lst [.str "not", .str "always", .str "ever"]) hB
            refine ⟨_, rfl, _, rfl, _, rfl, _, _, rfl, rfl, p, aA, _, us, ss, rfl, by omega, hm1, ⟨_, s3 _ _ hp2⟩, npa, s3 _ _ hA2, tu2.mono s3, sl, so, fun H' v s k3 lf3 tv ok pr => ⟨by show 2 ≤ sizeLine; decide, fun t ht => ?_⟩⟩
            exact q _ _ (.un u s) ((k2.trans (keep_same s3)).trans (k3.trans (keep_same (same_new ht)))) (lf_upd lf3 (lf_ne lf3 ht)) (.tup (SqT.of upd_same) (.cons (.str _) (.cons (tv.mono (same_new ht)) .nil))) (.un ok) (c1 u s pr)
          · have h5 : 5 ≤ n % 9 := by
              have : ¬ n % 9 < 5 := fun z => hl5 (decide_eq_true z)
              omega
            obtain ⟨u, eu⟩ := pick4 _ h5 w9
            refine ⟨by show 4 ≤ sizeLine; decide, fun B hB => ⟨_, rfl, _, _, rfl, rfl, B, _, _, _, rfl, rfl, SqL.of upd_same, eu, ?_⟩⟩
            have s3 := same_new (o := .lst [.str "and", .str "or", .str "until", .str "until"]) hB
            refine ⟨_, rfl, _, rfl, _, rfl, _, rfl, _, _, rfl, rfl, p, aA, _, us, ss, rfl, by omega, hm1, ⟨_, s3 _ _ hp2⟩, npa, s3 _ _ hA2, tu2.mono s3, sl, so, fun H3 v s k3 lf3 tv ok pr => ?_⟩
            have hA3 := k3 _ _ npa (s3 _ _ hA2)
            have tu3 := (tu2.mono s3).keep k3 ⟨_, s3 _ _ hp2⟩
            refine ⟨_, rfl, _, rfl, _, rfl, _, _, rfl, rfl, p, aA, _, us, ss, rfl, by omega, hm1, lf3, npa, hA3, tu3, sl, so, fun H4 v2 s2 k4 lf4 tv2 ok2 pr2 => ⟨by show 3 ≤ sizeLine; decide, fun t ht => ?_⟩⟩
            exact q _ _ (.bi u s s2) ((k2.trans (keep_same s3)).trans (k3.trans (k4.trans (keep_same (same_new ht))))) (lf_upd lf4 (lf_ne lf4 ht)) (.tup (SqT.of upd_same) (.cons (.str _) (.cons ((tv.keep k4 lf3).mono (same_new ht)) (.cons (tv2.mono (same_new ht)) .nil)))) (.bi ok ok2) (c2 u s s2 pr pr2)
end
end W25

namespace Sf
open PySem PySem.Spec PyProof.Rows L2
/-! ### data that may be shown: its text is at most L long -/
structure Shw (L : Nat) (d : PyData) : Prop where
  s : d.showable = true
  n : d.hasDict = false
  l : d.shown.length ≤ L
theorem Shw.mono {L M : Nat} {d : PyData} (h : Shw L d) (e : L ≤ M) : Shw M d := ⟨h.s, h.n, Nat.le_trans h.l e⟩
theorem shw_int {i : Int} (h : i.natAbs.log2 < 1920) : Shw 1921 (.int i) := by
  refine ⟨by rw [PyData.showable]; exact decide_eq_true h, by simp [PyData.hasDict], ?_⟩
  rw [PyData.shown]
  exact int_text_len_1921 h
theorem shw_str {z : Str} {L : Nat} (h : (reprText z).length ≤ L) : Shw L (.str z) := ⟨by simp [PyData.showable], by simp [PyData.hasDict], by rw [PyData.shown]; exact h⟩
theorem shw1 {a : Nat} {d : PyData} (h : Shw a d) : Shw (a + 4) (.tuple [d]) := by
  refine ⟨by simp [PyData.showable, PyData.showableAll, h.s], by simp [PyData.hasDict, PyData.hasDictAll, h.n], ?_⟩
  have z := fmt_text [d.shown]
  rw [piled_cons, piled_nil] at z
  have e : PyData.shown (.tuple [d]) = tupleText [d.shown] := by simp only [PyData.shown, PyData.shownAll]
  have := h.l
  rw [e]
  omega
theorem shw2 {a b : Nat} {d e : PyData} (h : Shw a d) (g : Shw b e) : Shw (a + b + 6) (.tuple [d, e]) := by
  refine ⟨by simp [PyData.showable, PyData.showableAll, h.s, g.s], by simp [PyData.hasDict, PyData.hasDictAll, h.n, g.n], ?_⟩
  have z := fmt_text [d.shown, e.shown]
  rw [piled_cons, piled_cons, piled_nil] at z
  have q : PyData.shown (.tuple [d, e]) = tupleText [d.shown, e.shown] := by simp only [PyData.shown, PyData.shownAll]
  have := h.l
  have := g.l
  rw [q]
  omega
theorem shw3 {a b c : Nat} {d e f : PyData} (h : Shw a d) (g : Shw b e) (k : Shw c f) : Shw (a + b + c + 8) (.tuple [d, e, f]) := by
  refine ⟨by simp [PyData.showable, PyData.showableAll, h.s, g.s, k.s], by simp [PyData.hasDict, PyData.hasDictAll, h.n, g.n, k.n], ?_⟩
  have z := fmt_text [d.shown, e.shown, f.shown]
  rw [piled_cons, piled_cons, piled_cons, piled_nil] at z
  have q : PyData.shown (.tuple [d, e, f]) = tupleText [d.shown, e.shown, f.shown] := by simp only [PyData.shown, PyData.shownAll]
  have := h.l
  have := g.l
  have := k.l
  rw [q]
  omega
theorem shwAll {L : Nat} : ∀ {ds : List PyData}, (∀ d ∈ ds, Shw L d) → PyData.showableAll ds = true ∧ PyData.hasDictAll ds = false ∧ piled (PyData.shownAll ds) ≤ ds.length * (L + 2)
  | [], _ => ⟨rfl, rfl, Nat.zero_le _⟩
  | d :: ds, h => by
    obtain ⟨h1, h2, h3⟩ := shwAll (ds := ds) fun e he => h e (List.mem_cons_of_mem _ he)
    have g := h d List.mem_cons_self
    have := g.l
    refine ⟨by rw [PyData.showableAll, g.s, h1]; rfl, by rw [PyData.hasDictAll, g.n, h2]; rfl, ?_⟩
    rw [PyData.shownAll, piled_cons, List.length_cons, Nat.succ_mul]
    omega
theorem shwN {L : Nat} {ds : List PyData} (h : ∀ d ∈ ds, Shw L d) : Shw (ds.length * (L + 2) + 2) (.tuple ds) := by
  obtain ⟨h1, h2, h3⟩ := shwAll h
  refine ⟨by rw [PyData.showable]; exact h1, by rw [PyData.hasDict]; exact h2, ?_⟩
  have z := fmt_text (PyData.shownAll ds)
  rw [PyData.shown]
  omega
theorem shwL {L : Nat} {ds : List PyData} (h : ∀ d ∈ ds, Shw L d) (z : (listText (PyData.shownAll ds)).length ≤ piled (PyData.shownAll ds) + 2) : Shw (ds.length * (L + 2) + 2) (.list ds) := by
  obtain ⟨h1, h2, h3⟩ := shwAll h
  refine ⟨by rw [PyData.showable]; exact h1, by rw [PyData.hasDict]; exact h2, ?_⟩
  rw [PyData.shown]
  omega
/-- a saying whose atoms may be shown -/
def ShOk : Sy → Prop
  | .yes => True
  | .at w r => Shw 12200 (dAt w r)
  | .un _ s => ShOk s
  | .bi _ s t => ShOk s ∧ ShOk t
theorem shw_sy {n : Nat} {s : Sy} (h : SyOk n s) : ShOk s → Shw (12300 * 2 ^ n - 60) (dSy s) := by
  induction h with
  | @yes n =>
    intro _
    have p : 1 ≤ 2 ^ n := Nat.one_le_two_pow
    exact (shw1 (shw_str (L := 30) (by decide +kernel))).mono (by rw [Nat.pow_succ]; omega)
  | @«at» n w r a =>
    intro g
    have p : 1 ≤ 2 ^ n := Nat.one_le_two_pow
    exact Shw.mono g (by rw [Nat.pow_succ]; omega)
  | @un n w s a ih =>
    intro g
    have p : 1 ≤ 2 ^ n := Nat.one_le_two_pow
    have z : Shw 30 (.str w.s) := shw_str (by cases w <;> decide +kernel)
    exact (shw2 z (ih g)).mono (by rw [Nat.pow_succ]; omega)
  | @bi n w s t a b i1 i2 =>
    intro g
    have p : 1 ≤ 2 ^ n := Nat.one_le_two_pow
    have z : Shw 30 (.str w.s) := shw_str (by cases w <;> decide +kernel)
    exact (shw3 z (i1 g.1) (i2 g.2)).mono (by rw [Nat.pow_succ]; omega)
end Sf

namespace W25
open PySem PySem.Spec PyProof.Rows L2 Gs Sf
/-! ### an atom -/
abbrev NA : List Str := ["_law_left_here", "_law_system", "_law_way", "_law_name", "_law_spots", "_law_rows", "_law_names", "_law_machine", "_law_row"]
theorem scAtom : FnScope NA ["_law_left_here", "_law_system"] (defScope sAtom) := ⟨rfl, rfl, rfl, by decide +kernel, rfl, by decide +kernel, by decide +kernel⟩
def spAtom (K : PySem.W.Frag) : Sp := fun vs H Q _ => ∃ (p : Addr) (v : V) (b : PyData) (mcs : List Mc) (f : PyData), vs = [.ref p, v] ∧ Lf H p ∧ Tp K H v (dSys b mcs f) ∧ SysOk mcs ∧
  ∀ H' v' s, Keep p H H' → Lf H' p → Tp K H' v' (dSy s) → SyOk 1 s → ShOk s → Q v' H'
theorem tx_pl {z : Str} (h : Tx z) : Pl 0 (.str z) := pl_str h.1
theorem tx_sh {z : Str} (h : Tx z) : Shw 30 (.str z) := shw_str h.2
theorem place_tx {a z : Str} (ha : Tx a) (hz : Tx z) : SyOk 1 (.at "place" [.str a, .str z]) ∧ ShOk (.at "place" [.str a, .str z]) :=
  ⟨.at ⟨by decide, (pl3 (pl_str (by decide +kernel)) (tx_pl ha) (tx_pl hz)).mono (by decide)⟩, (shw3 (shw_str (L := 30) (by decide +kernel)) (tx_sh ha) (tx_sh hz)).mono (by decide)⟩
theorem deed_tx {z : Str} (hz : Tx z) : SyOk 1 (.at "deed" [.str z]) ∧ ShOk (.at "deed" [.str z]) :=
  ⟨.at ⟨by decide, (pl2 (pl_str (by decide +kernel)) (tx_pl hz)).mono (by decide)⟩, (shw2 (shw_str (L := 30) (by decide +kernel)) (tx_sh hz)).mono (by decide)⟩
theorem sh_sh {x : Int × Int} (h : Bd 4 x) : Shw 3848 (dS x) :=
  shw2 (shw_int (Nat.lt_of_lt_of_le (PySem.Flt.log2_lt_of (by decide) h.1) (by decide))) (shw_int (Nat.lt_of_lt_of_le (PySem.Flt.log2_lt_of (by decide) h.2) (by decide)))
theorem xy_tx {z : Str} (h : z ∈ xy) : Tx z := by
  have : ∀ z ∈ xy, Tx z := by decide +kernel
  exact this z h
theorem ln_sh {l : Ln} (h : LnOk xy 4 l) : Shw 11700 (dLn l) := by
  have hl : l.2.length ≤ 2 := h.ln
  have hp : Shw ((l.2.map dPt).length * (3884 + 2) + 2) (.tuple (l.2.map dPt)) := shwN fun d hd => by
    obtain ⟨z, hz, rfl⟩ := List.mem_map.mp hd
    exact (shw2 (tx_sh (xy_tx (h.ps z hz).1)) (sh_sh (h.ps z hz).2.2)).mono (by decide)
  refine (shw2 (sh_sh h.b0) hp).mono ?_
  rw [List.length_map]
  omega
theorem wish_tx {z : Str} {l : Ln} (hz : z = "least" ∨ z = "above") (h : LnOk xy 4 l) : SyOk 1 (.at "wish" [.tuple [.str z, dLn l]]) ∧ ShOk (.at "wish" [.tuple [.str z, dLn l]]) := by
  refine ⟨wish_ok hz h, ?_⟩
  have hz' : Shw 30 (.str z) := shw_str (by rcases hz with e | e <;> rw [e] <;> decide +kernel)
  exact (shw2 (shw_str (L := 30) (by decide +kernel)) (shw2 hz' (ln_sh h))).mono (by decide)
section
variable {P : Program} {w : World} {K : PySem.W.Frag} {mg : Str → Option Value} {base : Heap} {f f1 f2 : Addr} {fd d1 d2 : FuncData}
theorem ok_atom (F : Fun K "_law_atom" "_law_atom" sAtom f fd) (D : Cl P w K mg base CX0 1 "_law_digit" ["_law_left_here", "_law_upto"] spDigit f1 d1) (L : Cl P w K mg base CX0 3 "_law_line" ["_law_left_here", "_law_names"] (spLine K) f2 d2)
    (ml : mg "len" = none) (mlist : mg "list" = none) : FnOk P w K mg base CX0 4 f fd ["_law_left_here", "_law_system"] (spAtom K) := by
  refine F.ok scAtom (fun vs H Q E h => ?_) (fun cdv A outer s0 H vs Q E hr h => ?_)
  · obtain ⟨p, v, b, mcs, f, rfl, _⟩ := h
    rfl
  · obtain ⟨p, v, b, mcs, f, rfl, lf, tv, sok, q⟩ := h
    have r1 := hr.mono (j := 1) (by decide)
    refine ⟨_, pss_cons (ps_set (i := 2) scAtom.nd rfl (.inl rfl) (pe_call D.ok r1 (by rfl) D.g D.kp D.bd .nil pass0 (pa_cons (pv 0) (pa_cons pe_int pa_nil))))
      (pss_cons (ps_if (pt_cmpR op_eq (pv 2) pe_int (nomark _))
        (pss_cons (ps_asg (pe_ix ix_tup (pe_ix ix_tup (pv 1) pe_int (fun _ _ => rfl)) (pe_call D.ok r1 (by rfl) D.g D.kp D.bd .nil pass0 (pa_cons (pv 0) (pa_cons (pe_callB call_len_seq (by rfl) ml PySem.boot_len (pa_cons (pe_ix ix_tup (pv 1) pe_int (fun _ _ => rfl)) pa_nil)) pa_nil))) (fun _ _ => rfl))
          (pg_tup (by rfl) (pgs_cons (pg_name (i := 3) scAtom.nd rfl (.inl rfl)) (pgs_cons (pg_name (i := 4) scAtom.nd rfl (.inl rfl)) (pgs_cons (pg_name (i := 5) scAtom.nd rfl (.inl rfl)) pgs_nil)))))
        (pss_one (ps_ret (pe_tup (pa_cons pe_str (pa_cons (pv 3) (pa_cons (pe_ix ix_tup (pv 4) (pe_call D.ok r1 (by rfl) D.g D.kp D.bd .nil pass0 (pa_cons (pv 0) (pa_cons (pe_callB call_len_seq (by rfl) ml PySem.boot_len (pa_cons (pv 4) pa_nil)) pa_nil))) (fun _ _ => rfl)) pa_nil))))))) pss_nil)
      (pss_cons (ps_if (pt_cmpR op_eq (pv 2) pe_int (nomark _))
        (pss_cons (ps_set (i := 6) scAtom.nd rfl (.inl rfl) (pe_lst (pa_cons pe_str pa_nil)))
        (pss_cons (ps_for PassesOwn.never rfl (pi_tup (pe_ix ix_tup (pv 1) pe_int (fun _ _ => rfl))) (pg_name (i := 7) scAtom.nd rfl (Or.inl rfl))
          (pss_one (ps_set (i := 6) scAtom.nd rfl (.inl rfl) (pe_op op_cat (pv 6)
            (pe_lc (own := [("_law_row", 8)]) (g := gName 8) (tt := tYes) rfl scAtom.nd (pi_tup (pe_ix ix_tup (pv 7) pe_int (fun _ _ => rfl))) (blkOk_by (own := [("_law_row", 8)]) (N := NA) (sc := defScope sAtom) (by decide +kernel)) (fun _ _ _ _ _ => pg_name (i := 8) scAtom.nd rfl (Or.inl rfl)) (fun _ _ _ _ _ => pts_nil)
              (fun _ _ _ _ _ => pe_ix (ix_tupK (K := K) rfl) (pv 8) pe_int (fun _ _ => rfl)))))))
        (pss_one (ps_ret (pe_tup (pa_cons pe_str (pa_cons (pe_ix ix_list (pv 6) (pe_call D.ok r1 (by rfl) D.g D.kp D.bd .nil pass0 (pa_cons (pv 0) (pa_cons (pe_callB call_len_seq (by rfl) ml PySem.boot_len (pa_cons (pv 6) pa_nil)) pa_nil))) (fun _ _ => rfl)) pa_nil))))))) pss_nil)
      (pss_one (ps_ret (pe_tup (pa_cons pe_str (pa_cons (pe_tup (pa_cons (pe_ix ix_list (pe_lst (pa_cons pe_str (pa_cons pe_str pa_nil))) (pe_call D.ok r1 (by rfl) D.g D.kp D.bd .nil pass0 (pa_cons (pv 0) (pa_cons pe_int pa_nil))) (fun _ _ => rfl))
        (pa_cons (pe_call L.ok hr (by rfl) L.g L.kp L.bd .nil pass0 (pa_cons (pv 0) (pa_cons (pe_callTy call_list_of (by rfl) mlist (by decide +kernel) (pa_cons (pe_ix ix_tup (pv 1) pe_int (fun _ _ => rfl)) pa_nil)) pa_nil))) pa_nil))) pa_nil))))))), ?_⟩
    obtain ⟨n, hn⟩ := lf
    refine ⟨_, rfl, p, n, 3, rfl, hn, by decide, log_lit (n := 10) (by decide) (by decide) (by decide), ?_⟩
    have k1 : Keep p H (upd H p (.lst [.int (n / 3)])) := keep_upd
    have lf1 : Lf (upd H p (.lst [.int (n / 3)])) p := lf_draw
    have tv1 := tv.keep k1 ⟨n, hn⟩
    generalize upd H p (.lst [.int (n / 3)]) = H1 at *
    obtain ⟨a, xs, rfl, sq, ta⟩ := tp_tup tv1
    obtain ⟨vx, _, rfl, tx0, ta⟩ := tp_cons ta
    obtain ⟨vb, _, rfl, _, ta⟩ := tp_cons ta
    obtain ⟨vm, _, rfl, tm, ta⟩ := tp_cons ta
    obtain ⟨vf, _, rfl, _, ta⟩ := tp_cons ta
    cases tp_nil ta
    obtain ⟨am, ms, rfl, sqm, tms⟩ := tp_tup tm
    have msl : ms.length = mcs.length := by rw [tms.len, List.length_map]
    have ml1 := sok.l1
    have ml2 := sok.l2
    refine ⟨_, rfl, rfl, _, rfl, ite2 (fun _ => ?_) (fun _ => ?_)⟩
    · -- a place
      obtain ⟨n1, hn1⟩ := lf1
      refine ⟨_, rfl, a, _, 2, _, rfl, rfl, sq, atI_nat (j := 2) rfl, ?_⟩
      refine ⟨_, rfl, _, rfl, a, _, 2, _, rfl, rfl, sq, atI_nat (j := 2) rfl, am, ms, rfl, .inr sqm, p, n1, ms.length, rfl, hn1, by omega, log_lit (n := 10) (by decide) (by decide) (by omega), ?_⟩
      have m0 := Int.emod_nonneg n1 (show (ms.length : Int) ≠ 0 by omega)
      have m1 := Int.emod_lt_of_pos n1 (show (0 : Int) < (ms.length : Int) by omega)
      obtain ⟨cm, ecm, j, ej⟩ := pick_at (xs := ms) m0 m1
      have k2 : Keep p H1 (upd H1 p (.lst [.int (n1 / (ms.length : Int))])) := keep_upd
      have lf2 : Lf (upd H1 p (.lst [.int (n1 / (ms.length : Int))])) p := lf_draw
      refine ⟨am, ms, _, cm, rfl, rfl, keepT k2 ⟨n1, hn1⟩ sqm, ecm, ?_⟩
      obtain ⟨mc, emc, hmc, tc⟩ := tpAll_map tms ej
      have tc2 := tc.keep k2 ⟨n1, hn1⟩
      have mok := sok.ok mc hmc
      generalize upd H1 p (.lst [.int (n1 / (ms.length : Int))]) = H2 at *
      obtain ⟨ac, cs, rfl, sqc, tcs⟩ := tp_tup tc2
      obtain ⟨vn, _, rfl, tn, tcs⟩ := tp_cons tcs
      obtain ⟨vs, _, rfl, ts, tcs⟩ := tp_cons tcs
      obtain ⟨vr, _, rfl, tr, tcs⟩ := tp_cons tcs
      cases tp_nil tcs
      cases tp_str tn
      obtain ⟨as, ss, rfl, sqs, tss⟩ := tp_tup ts
      refine ⟨ac, _, rfl, sqc, rfl, _, _, rfl, _, _, rfl, _, _, rfl, rfl, ?_⟩
      have ssl : ss.length = mc.sp.length := by rw [tss.len, List.length_map]
      have s1 := mok.s1
      have s6 := mok.s6
      obtain ⟨n2, hn2⟩ := lf2
      refine ⟨_, rfl, _, rfl, _, rfl, _, rfl, as, ss, rfl, .inr sqs, p, n2, ss.length, rfl, hn2, by omega, log_lit (n := 10) (by decide) (by decide) (by omega), ?_⟩
      have z0 := Int.emod_nonneg n2 (show (ss.length : Int) ≠ 0 by omega)
      have z1 := Int.emod_lt_of_pos n2 (show (0 : Int) < (ss.length : Int) by omega)
      obtain ⟨cz, ecz, j2, ej2⟩ := pick_at (xs := ss) z0 z1
      have k3 : Keep p H2 (upd H2 p (.lst [.int (n2 / (ss.length : Int))])) := keep_upd
      refine ⟨as, ss, _, cz, rfl, rfl, keepT k3 ⟨n2, hn2⟩ sqs, ecz, by show 3 ≤ sizeLine; decide, fun t ht => ?_⟩
      obtain ⟨z, _, hz, tz⟩ := tpAll_map (g := PyData.str) tss ej2
      cases tp_str tz
      obtain ⟨o1, o2⟩ := place_tx mok.nm (mok.so z hz)
      refine q _ _ _ ((k1.trans (k2.trans k3)).trans (keep_same (same_new ht))) (lf_upd lf_draw (lf_ne lf_draw ht)) ?_ o1 o2
      exact .tup (SqT.of upd_same) (.cons (.str _) (.cons (.str _) (.cons (.str _) .nil)))
    refine ⟨_, rfl, rfl, _, rfl, ite2 (fun _ => ?_) (fun _ => ?_)⟩
    · -- a deed
      refine ⟨by show 1 ≤ sizeLine; decide, fun L0 hL0 => ?_⟩
      have s1 := same_new (o := .lst [.str "rest"]) hL0
      refine ⟨_, rfl, a, _, 2, _, rfl, rfl, same_tup s1 sq, atI_nat (j := 2) rfl, am, rfl, ⟨_, same_tup s1 sqm⟩, for_tup (K := K) (xs := ms) (fun i σ H' => ∃ L1 zs x7, σ = [some (.ref p), some (.ref a), some (.int (n % 3)), none, none, none, some (.ref L1), x7, none] ∧ Same H1 H' ∧ H' L1 = some (.lst (List.map V.str zs)) ∧ 1 ≤ zs.length ∧ zs.length ≤ 1 + 6 * i ∧ i ≤ 2 ∧ ∀ z ∈ zs, Tx z)
        ⟨L0, ["rest"], _, rfl, s1, upd_same, Nat.le_refl _, Nat.le_refl _, by decide, (by decide +kernel)⟩ (fun i σ H' _ hp => ?_) (fun i x σ H' hx hp => ?_) (fun σ H' hp => ?_)⟩
      · obtain ⟨L1, zs, x7, _, sm, _⟩ := hp
        exact same_tup sm sqm
      · obtain ⟨L1, zs, x7, rfl, sm, eL, z1, zl, i2, zt⟩ := hp
        obtain ⟨mc, emc, hmc, tc⟩ := tpAll_map tms hx
        have il : i < ms.length := (List.getElem?_eq_some_iff.mp hx).1
        have mok := sok.ok mc hmc
        have tc2 := tc.mono sm
        obtain ⟨ac, cs, rfl, sqc, tcs⟩ := tp_tup tc2
        obtain ⟨vn, _, rfl, tn, tcs⟩ := tp_cons tcs
        obtain ⟨vs, _, rfl, ts, tcs⟩ := tp_cons tcs
        obtain ⟨vr, _, rfl, tr, tcs⟩ := tp_cons tcs
        cases tp_nil tcs
        obtain ⟨ar, rs, rfl, sqr, trs⟩ := tp_tup tr
        refine ⟨_, rfl, ?_⟩
        refine ⟨_, rfl, ac, _, 2, _, rfl, rfl, sqc, atI_nat (j := 2) rfl, ar, rfl, ⟨_, sqr⟩, fun D0 hD0 => ?_⟩
        refine lc_tup (K := K) (xs := rs) (fun i2 H'' => ∃ ys : List Str, H'' = upd H' D0 (.lst (List.map V.str ys)) ∧ ys.length ≤ i2 ∧ ∀ z ∈ ys, Tx z)
          ⟨[], rfl, Nat.le_refl _, fun z hz => absurd hz List.not_mem_nil⟩ (fun i2 H'' _ hp => ?_) (fun i2 v2 H'' hv2 hp => ?_) (fun H'' hp => ?_)
        · obtain ⟨ys, rfl, _⟩ := hp
          exact same_tup (same_new hD0) sqr
        · obtain ⟨ys, rfl, yl, yt⟩ := hp
          have i2l : i2 < rs.length := (List.getElem?_eq_some_iff.mp hv2).1
          obtain ⟨r, _, hr', td⟩ := tpAll_map (g := dRw) trs hv2
          obtain ⟨ad, rr, rfl, sqd, tds⟩ := tp_tup td
          obtain ⟨v0, _, rfl, t0, tds⟩ := tp_cons tds
          obtain ⟨v1, rr2, rfl, t1, tds⟩ := tp_cons tds
          cases tp_str t1
          have rl : rs.length ≤ 6 := by
            have := mok.r6
            rw [trs.len, List.length_map]
            exact this
          refine ⟨rfl, ?_⟩
          refine ⟨_, rfl, ad, _, 1, _, rfl, rfl, same_tup (same_new hD0) sqd, atI_nat (j := 1) rfl, _, upd_same, by rw [List.length_map]; exact small1000 (by omega), ys ++ [r.2.1], ?_, ?_, ?_⟩
          · rw [List.map_append]
            funext b
            by_cases e : b = D0
            · rw [e, upd_same, upd_same]
              rfl
            · rw [upd_ne e, upd_ne e, upd_ne e]
          · rw [List.length_append]
            exact Nat.succ_le_succ yl
          · intro z hz
            rcases List.mem_append.mp hz with h | h
            · exact yt z h
            · rw [List.mem_singleton.mp h]
              exact mok.ro r hr'
        · obtain ⟨ys, rfl, yl, yt⟩ := hp
          have rl : rs.length ≤ 6 := by
            have := mok.r6
            rw [trs.len, List.length_map]
            exact this
          have sD := same_new (o := .lst (List.map V.str ys)) hD0
          refine ⟨L1, D0, _, _, rfl, rfl, sD _ _ eL, upd_same, by rw [List.length_map, List.length_map]; exact Nat.le_of_lt (small1000 (by omega)), fun L2 hL2 => ?_⟩
          refine ⟨L2, zs ++ ys, _, rfl, sm.trans (sD.trans (same_new hL2)), by rw [upd_same, List.map_append], by rw [List.length_append]; omega, by rw [List.length_append]; omega, by omega, fun z hz => ?_⟩
          rcases List.mem_append.mp hz with h | h
          · exact zt z h
          · exact yt z h
      · obtain ⟨L1, zs, x7, rfl, sm, eL, z1, zl, i2, zt⟩ := hp
        have lf2 : Lf H' p := by
          obtain ⟨n1, h⟩ := lf1
          exact ⟨n1, sm _ _ h⟩
        obtain ⟨n2, hn2⟩ := lf2
        have nL : L1 ≠ p := texts_ne ⟨n2, hn2⟩ eL
        refine ⟨_, rfl, _, rfl, _, rfl, L1, _, rfl, .inl (SqL.of eL), p, n2, _, rfl, hn2, by rw [List.length_map]; omega, log_lit (n := 10) (by decide) (by decide) (by rw [List.length_map]; omega), ?_⟩
        have z0 := Int.emod_nonneg n2 (show (((zs.map V.str).length : Nat) : Int) ≠ 0 by rw [List.length_map]; omega)
        have z2 := Int.emod_lt_of_pos n2 (show (0 : Int) < (((zs.map V.str).length : Nat) : Int) by rw [List.length_map]; omega)
        obtain ⟨cz, ecz, j2, ej2⟩ := pick_at (xs := zs.map V.str) z0 z2
        have k3 : Keep p H' (upd H' p (.lst [.int (n2 / (((zs.map V.str).length : Nat) : Int))])) := keep_upd
        refine ⟨L1, _, _, cz, rfl, rfl, SqL.of (k3 _ _ nL eL), ecz, by show 2 ≤ sizeLine; decide, fun t ht => ?_⟩
        rw [List.getElem?_map] at ej2
        cases ez : zs[j2]? with
        | none => rw [ez] at ej2; cases ej2
        | some z =>
          rw [ez] at ej2
          cases ej2
          obtain ⟨o1, o2⟩ := deed_tx (zt z (List.mem_of_getElem? ez))
          refine q _ _ _ ((k1.trans ((keep_same sm).trans k3)).trans (keep_same (same_new ht))) (lf_upd lf_draw (lf_ne lf_draw ht)) ?_ o1 o2
          exact .tup (SqT.of upd_same) (.cons (.str _) (.cons (.str _) .nil))
    · -- a wish
      refine ⟨by show 2 ≤ sizeLine; decide, fun B hB => ?_⟩
      obtain ⟨n1, hn1⟩ := lf1
      have pB : p ≠ B := ne_of_none hn1 hB
      obtain ⟨c3, ec3, cc3⟩ := pick2 (a := V.str "least") (b := V.str "above") n1
      obtain ⟨z3, rfl, hz3⟩ : ∃ z3, c3 = V.str z3 ∧ (z3 = "least" ∨ z3 = "above") := by
        rcases cc3 with rfl | rfl
        · exact ⟨_, rfl, .inl rfl⟩
        · exact ⟨_, rfl, .inr rfl⟩
      refine ⟨_, rfl, p, n1, 2, rfl, by rw [upd_ne pB]; exact hn1, by decide, log_lit (n := 10) (by decide) (by decide) (by decide), B, _, _, _, rfl, rfl, SqL.of (by rw [upd_ne (fun z => pB z.symm)]; exact upd_same), ec3, ?_⟩
      have k2 : Keep p H1 (upd (upd H1 B (.lst [.str "least", .str "above"])) p (.lst [.int (n1 / 2)])) := (keep_same (same_new hB)).trans keep_upd
      have lf2 : Lf (upd (upd H1 B (.lst [.str "least", .str "above"])) p (.lst [.int (n1 / 2)])) p := lf_draw
      generalize upd (upd H1 B (.lst [.str "least", .str "above"])) p (.lst [.int (n1 / 2)]) = H2 at *
      obtain ⟨ax, xs0, rfl, sqx, txs⟩ := tp_tup tx0
      obtain ⟨v0, _, rfl, t0, txs⟩ := tp_cons txs
      obtain ⟨v1, _, rfl, t1, txs⟩ := tp_cons txs
      cases tp_nil txs
      cases tp_str t0
      cases tp_str t1
      refine ⟨_, rfl, _, rfl, a, _, 0, _, rfl, rfl, keepT k2 ⟨n1, hn1⟩ sq, atI_nat (j := 0) rfl, ax, _, rfl, .inr (keepT k2 ⟨n1, hn1⟩ sqx), fun L3 hL3 => ?_⟩
      refine ⟨p, L3, xy, rfl, lf_upd lf2 (lf_ne lf2 hL3), upd_same, by decide, by decide, fun H4 vl l k4 lf4 tl lo => ⟨by show 2 ≤ sizeLine; decide, fun t3 ht3 => ⟨by show 2 ≤ sizeLine; decide, fun t4 ht4 => ?_⟩⟩⟩
      have s5 := (same_new (o := .tup [.str z3, vl]) ht3).trans (same_new (o := .tup [.str "wish", .ref t3]) ht4)
      obtain ⟨o1, o2⟩ := wish_tx hz3 lo
      have lf5 : Lf (upd (upd H4 t3 (.tup [.str z3, vl])) t4 (.tup [.str "wish", .ref t3])) p := by
        obtain ⟨n5, h⟩ := lf4
        exact ⟨n5, s5 _ _ h⟩
      refine q _ _ _ (k1.trans (k2.trans ((keep_same (same_new hL3)).trans (k4.trans (keep_same s5))))) lf5 ?_ o1 o2
      exact .tup (SqT.of upd_same) (.cons (.str _) (.cons (.tup (SqT.of (same_new ht4 _ _ upd_same)) (.cons (.str _) (.cons (tl.mono s5) .nil))) .nil))
end
end W25

namespace Sf
open PySem
/-! ### sayings on a row of letters that ends in a round -/
/-- n letters, from the last one back to a -/
def nxt (n a x : Nat) : Nat := if x + 1 < n then x + 1 else a
def it (f : Nat → Nat) : Nat → Nat → Nat
  | 0, x => x
  | j + 1, x => it f j (f x)
theorem it_add (f : Nat → Nat) : ∀ i j x, it f (i + j) x = it f j (it f i x)
  | 0, j, x => by rw [Nat.zero_add]; rfl
  | i + 1, j, x => by
    rw [Nat.add_right_comm]
    exact it_add f i j (f x)
/-- at some moment from x on t, and s at all those ahead of it -/
def Unt (f : Nat → Nat) (S T : Nat → Prop) (x : Nat) : Prop := ∃ j, T (it f j x) ∧ ∀ k, k < j → S (it f k x)
theorem unt_step {f : Nat → Nat} {S T : Nat → Prop} {x : Nat} : Unt f S T x ↔ T x ∨ (S x ∧ Unt f S T (f x)) := by
  constructor
  · intro ⟨j, h1, h2⟩
    cases j with
    | zero => exact .inl h1
    | succ j => exact .inr ⟨h2 0 (Nat.succ_pos _), j, h1, fun k hk => h2 (k + 1) (Nat.succ_lt_succ hk)⟩
  · intro h
    rcases h with h | ⟨h1, j, h2, h3⟩
    · exact ⟨0, h, fun k hk => absurd hk (Nat.not_lt_zero k)⟩
    · refine ⟨j + 1, h2, fun k hk => ?_⟩
      cases k with
      | zero => exact h1
      | succ k => exact h3 k (Nat.lt_of_succ_lt_succ hk)
def sat (f : Nat → Nat) (v : Nat → PyData → Bool) : Sy → Nat → Prop
  | .yes, _ => True
  | .at w r, x => v x (dAt w r) = true
  | .un .no s, x => ¬ sat f v s x
  | .un .ev s, x => Unt f (fun _ => True) (sat f v s) x
  | .un .al s, x => ¬ Unt f (fun _ => True) (fun y => ¬ sat f v s y) x
  | .bi .an s t, x => sat f v s x ∧ sat f v t x
  | .bi .or s t, x => sat f v s x ∨ sat f v t x
  | .bi .un s t, x => Unt f (sat f v s) (sat f v t) x
/-! the backward going through -/
def back (n : Nat) (F S : Nat → Bool) (l : Bool) : Nat → Bool
  | 0 => l
  | m + 1 => S (n - 1 - m) || (F (n - 1 - m) && back n F S l m)
theorem it_in {n a : Nat} : ∀ {j x : Nat}, x + j < n → it (nxt n a) j x = x + j
  | 0, x, _ => rfl
  | j + 1, x, h => by
    have e : nxt n a x = x + 1 := if_pos (by omega)
    show it (nxt n a) j (nxt n a x) = _
    rw [e, it_in (by omega)]
    omega
theorem it_wrap {n a x : Nat} (h : x < n) : it (nxt n a) (n - x) x = a := by
  obtain ⟨j, e⟩ : ∃ j, n - x = j + 1 := ⟨n - x - 1, by omega⟩
  rw [e, it_add, it_in (n := n) (a := a) (j := j) (x := x) (by omega)]
  show nxt n a (x + j) = a
  exact if_neg (by omega)
section
variable {n a : Nat} {F S : Nat → Bool} {SP TP : Nat → Prop}
theorem back_sound (ha : a < n) (hF : ∀ x, x < n → (F x = true ↔ SP x)) (hS : ∀ x, x < n → (S x = true ↔ TP x)) {l : Bool} (hl : l = true → Unt (nxt n a) SP TP a) :
    ∀ m, m ≤ n → 0 < m → back n F S l m = true → Unt (nxt n a) SP TP (n - m) := by
  intro m
  induction m with
  | zero => intro _ h; exact absurd h (by decide)
  | succ m ih =>
    intro hm _ h
    have e : n - 1 - m = n - (m + 1) := by omega
    rw [back, e] at h
    have hx : n - (m + 1) < n := by omega
    rw [Bool.or_eq_true, Bool.and_eq_true] at h
    rw [unt_step]
    rcases h with h | ⟨h1, h2⟩
    · exact .inl ((hS _ hx).mp h)
    · refine .inr ⟨(hF _ hx).mp h1, ?_⟩
      cases m with
      | zero =>
        have e2 : nxt n a (n - (0 + 1)) = a := if_neg (by omega)
        rw [e2]
        exact hl h2
      | succ m =>
        have e2 : nxt n a (n - (m + 1 + 1)) = n - (m + 1) := by
          rw [nxt, if_pos (by omega)]
          omega
        rw [e2]
        exact ih (by omega) (Nat.succ_pos _) h2
/-- a witness within this going through -/
theorem back_in (hF : ∀ x, x < n → (F x = true ↔ SP x)) (hS : ∀ x, x < n → (S x = true ↔ TP x)) {l : Bool} : ∀ {j x : Nat}, x + j < n → TP (x + j) → (∀ k, k < j → SP (x + k)) → back n F S l (n - x) = true
  | 0, x, h, t, _ => by
    obtain ⟨m, e⟩ : ∃ m, n - x = m + 1 := ⟨n - x - 1, by omega⟩
    have e2 : n - 1 - m = x := by omega
    rw [e, back, e2, (hS x (by omega)).mpr t, Bool.true_or]
  | j + 1, x, h, t, s => by
    obtain ⟨m, e⟩ : ∃ m, n - x = m + 1 := ⟨n - x - 1, by omega⟩
    have e2 : n - 1 - m = x := by omega
    have ih := back_in hF hS (l := l) (j := j) (x := x + 1) (by omega) (by rw [show x + 1 + j = x + (j + 1) by omega]; exact t) (fun k hk => by rw [show x + 1 + k = x + (k + 1) by omega]; exact s (k + 1) (by omega))
    have e3 : n - (x + 1) = m := by omega
    rw [e3] at ih
    rw [e, back, e2, (hF x (by omega)).mpr (s 0 (Nat.succ_pos _)), ih, Bool.and_self, Bool.or_true]
theorem back_first (ha : a < n) (hF : ∀ x, x < n → (F x = true ↔ SP x)) (hS : ∀ x, x < n → (S x = true ↔ TP x)) {l : Bool} : ∀ j, TP (it (nxt n a) j a) → (∀ k, k < j → SP (it (nxt n a) k a)) → back n F S l (n - a) = true := by
  intro j
  induction j using Nat.strongRecOn with
  | _ j ih =>
    intro t s
    by_cases hj : a + j < n
    · refine back_in hF hS (j := j) hj ?_ (fun k hk => ?_)
      · rw [← it_in (a := a) hj]; exact t
      · rw [← it_in (n := n) (a := a) (j := k) (x := a) (by omega)]; exact s k hk
    · have e : ∀ i, n - a ≤ i → it (nxt n a) i a = it (nxt n a) (i - (n - a)) a := fun i hi => by
        obtain ⟨d, rfl⟩ : ∃ d, i = (n - a) + d := ⟨i - (n - a), by omega⟩
        rw [it_add, it_wrap ha, Nat.add_sub_cancel_left]
      refine ih (j - (n - a)) (by omega) ?_ (fun k hk => s k (by omega))
      rw [← e j (by omega)]
      exact t
theorem back_all (hF : ∀ x, x < n → (F x = true ↔ SP x)) {l : Bool} (hl : l = true) : ∀ m, m ≤ n → (∀ x, n - m ≤ x → x < n → SP x) → back n F S l m = true
  | 0, _, _ => hl
  | m + 1, hm, s => by
    have e : n - 1 - m = n - (m + 1) := by omega
    rw [back, e, (hF _ (by omega)).mpr (s _ (Nat.le_refl _) (by omega)), back_all hF hl m (by omega) (fun x h1 h2 => s x (by omega) h2), Bool.and_self, Bool.or_true]
/-- gone through twice, the second time from what was there at a -/
def twice (n a : Nat) (F S : Nat → Bool) (x : Nat) : Bool := back n F S (back n F S false (n - a)) (n - x)
theorem twice_iff (ha : a < n) (hF : ∀ x, x < n → (F x = true ↔ SP x)) (hS : ∀ x, x < n → (S x = true ↔ TP x)) {x : Nat} (hx : x < n) : twice n a F S x = true ↔ Unt (nxt n a) SP TP x := by
  constructor
  · intro h
    have e : x = n - (n - x) := by omega
    rw [e]
    refine back_sound ha hF hS (fun h1 => ?_) (n - x) (by omega) (by omega) h
    have e2 : a = n - (n - a) := by omega
    have := back_sound ha hF hS (l := false) (fun z => by cases z) (n - a) (by omega) (by omega) h1
    rwa [← e2] at this
  · intro ⟨j, t, s⟩
    by_cases hj : x + j < n
    · refine back_in hF hS (j := j) hj ?_ (fun k hk => ?_)
      · rw [← it_in (a := a) hj]; exact t
      · rw [← it_in (n := n) (a := a) (j := k) (x := x) (by omega)]; exact s k hk
    · have e : it (nxt n a) j x = it (nxt n a) (j - (n - x)) a := by
        have h1 : j = (n - x) + (j - (n - x)) := by omega
        rw [h1, it_add, it_wrap hx, Nat.add_sub_cancel_left]
      refine back_all hF ?_ (n - x) (by omega) (fun y h1 h2 => ?_)
      · refine back_first ha hF hS (j - (n - x)) (by rw [← e]; exact t) (fun k hk => ?_)
        have := s ((n - x) + k) (by omega)
        rw [it_add, it_wrap hx] at this
        exact this
      · have := s (y - x) (by omega)
        rw [it_in (by omega)] at this
        rw [show x + (y - x) = y by omega] at this
        exact this
/-! as the law goes along: so many steps -/
def along (f : Nat → Nat) (F S : Nat → Bool) : Nat → Nat → Bool
  | 0, _ => false
  | k + 1, x => S x || (F x && along f F S k (f x))
theorem nxt_lt (ha : a < n) (x : Nat) : nxt n a x < n := by
  unfold nxt
  split <;> omega
theorem along_iff (ha : a < n) (hF : ∀ x, x < n → (F x = true ↔ SP x)) (hS : ∀ x, x < n → (S x = true ↔ TP x)) {x : Nat} (hx : x < n) : along (nxt n a) F S (n + (n - a)) x = true ↔ Unt (nxt n a) SP TP x := by
  have so : ∀ k x, x < n → along (nxt n a) F S k x = true → Unt (nxt n a) SP TP x := by
    intro k
    induction k with
    | zero => intro x _ h; cases h
    | succ k ih =>
      intro x hx h
      rw [along, Bool.or_eq_true, Bool.and_eq_true] at h
      rw [unt_step]
      rcases h with h | ⟨h1, h2⟩
      · exact .inl ((hS x hx).mp h)
      · exact .inr ⟨(hF x hx).mp h1, ih _ (nxt_lt ha x) h2⟩
  have co : ∀ k j x, x < n → j < k → TP (it (nxt n a) j x) → (∀ i, i < j → SP (it (nxt n a) i x)) → along (nxt n a) F S k x = true := by
    intro k
    induction k with
    | zero => intro j x _ h; exact absurd h (Nat.not_lt_zero j)
    | succ k ih =>
      intro j x hx h t s
      rw [along]
      cases j with
      | zero => rw [(hS x hx).mpr t, Bool.true_or]
      | succ j => rw [(hF x hx).mpr (s 0 (Nat.succ_pos _)), ih j (nxt n a x) (nxt_lt ha x) (by omega) t (fun i hi => s (i + 1) (by omega)), Bool.and_self, Bool.or_true]
  constructor
  · exact so _ x hx
  · intro ⟨j, t, s⟩
    induction j using Nat.strongRecOn with
    | _ j ih =>
      by_cases hj : j < n + (n - a)
      · exact co _ j x hx hj t s
      · have e : ∀ i, n + (n - a) ≤ i → it (nxt n a) i x = it (nxt n a) (i - (n - a)) x := fun i hi => by
          have q : ∀ d, it (nxt n a) ((n - x) + d) x = it (nxt n a) d a := fun d => by rw [it_add, it_wrap hx]
          obtain ⟨d, rfl⟩ : ∃ d, i = (n - x) + ((n - a) + d) := ⟨i - (n - x) - (n - a), by omega⟩
          have h1 : (n - x) + ((n - a) + d) - (n - a) = (n - x) + d := by omega
          rw [h1, q, q, it_add, it_wrap ha]
        refine ih (j - (n - a)) (by omega) ?_ (fun i hi => s i (by omega))
        rw [← e j (by omega)]
        exact t
end
end Sf

namespace W25
open PySem PySem.Spec PyProof.Rows L2 Gs Sf
/-! ### lists of truths -/
def LB (n : Nat) (F : Nat → Bool) : List V := (List.range n).map fun x => V.bl (F x)
theorem LB_len {n : Nat} {F : Nat → Bool} : (LB n F).length = n := by rw [LB, List.length_map, List.length_range]
theorem LB_at {n j : Nat} {F : Nat → Bool} (h : j < n) : (LB n F)[j]? = some (.bl (F j)) := by
  rw [LB, List.getElem?_map, List.getElem?_range h]
  rfl
theorem LB_snoc {i : Nat} {F : Nat → Bool} : LB (i + 1) F = LB i F ++ [.bl (F i)] := by
  rw [LB, List.range_succ, List.map_append]
  rfl
theorem LB_inv {n j : Nat} {F : Nat → Bool} {x : V} (h : (LB n F)[j]? = some x) : j < n ∧ x = .bl (F j) := by
  have hj : j < n := by
    have := (List.getElem?_eq_some_iff.mp h).1
    rwa [LB_len] at this
  rw [LB_at hj] at h
  exact ⟨hj, (Option.some.inj h).symm⟩
theorem LB_congr {n : Nat} {F G : Nat → Bool} (h : ∀ x, x < n → F x = G x) : LB n F = LB n G := by
  rw [LB, LB]
  exact List.map_congr_left fun x hx => by rw [h x (List.mem_range.mp hx)]
theorem LB_set {n j : Nat} {F : Nat → Bool} {b : Bool} (h : j < n) : (LB n F).set j (.bl b) = LB n (fun x => if x = j then b else F x) := by
  apply List.ext_getElem?
  intro i
  rw [List.getElem?_set]
  by_cases hi : i < n
  · rw [LB_at hi, LB_at hi, LB_len]
    by_cases e : j = i
    · subst e
      rw [if_pos rfl, if_pos h, if_pos rfl]
    · rw [if_neg e, if_neg (fun z => e z.symm)]
  · have h1 : (LB n F)[i]? = none := List.getElem?_eq_none (by rw [LB_len]; omega)
    have h2 : (LB n (fun x => if x = j then b else F x))[i]? = none := List.getElem?_eq_none (by rw [LB_len]; omega)
    rw [h1, h2, if_neg (by omega)]
/-- the reading of a comprehension over a list of truths that makes one -/
theorem lc_truths {K : PySem.W.Frag} {a D : Addr} {n : Nat} {F G : Nat → Bool} {g : TG} {te : TE} {vs : List Nat} {σ : L2.St} {H2 : Hp} {Qd : Hp → Prop} (hD : H2 D = none) (ha : H2 a = some (.lst (LB n F))) (hn : n ≤ 1000)
    (hs : ∀ (i : Nat) (H : Hp) (T : V → Hp → Prop), i < n → Same H2 H → T (.bl (G i)) H → g (.bl (F i)) (wipe σ vs) H fun σ2 H3 => wipe σ2 vs = wipe σ vs ∧ te σ2 H3 T)
    (hd : Qd (upd H2 D (.lst (LB n G)))) :
    ∃ W : Nat → Nat → Hp → Prop, (∃ m, W 0 m (upd H2 D (.lst []))) ∧ ∀ i m H, W i m H →
      ((Itl K a).stop i H ∧ Qd H) ∨ ((Itl K a).go i H ∧ ∃ Nx : Hp → Prop, (∀ H', Nx H' → ∃ m', m' < m ∧ W (i + 1) m' H') ∧ ∀ x H', (Itl K a).yld i H x H' → g x (wipe σ vs) H' fun σ2 H2 => wipe σ2 vs = wipe σ vs ∧ tYes σ2 H2 fun b H3 =>
        if b = true then te σ2 H3 fun y H4 => ∃ acc, H4 D = some (.lst acc) ∧ acc.length < sizeLine ∧ Nx (upd H4 D (.lst (acc ++ [y]))) else Nx H3) := by
  refine lc_list (K := K) (xs := LB n F) (fun i H' => H' = upd H2 D (.lst (LB i G)) ∧ i ≤ n) ⟨rfl, Nat.zero_le _⟩ (fun i H' _ hp => ?_) (fun i x H1 hx hp => ?_) (fun H1 hp => ?_)
  · rw [hp.1]
    exact SqL.of (same_new hD _ _ ha)
  · obtain ⟨rfl, hi⟩ := hp
    obtain ⟨il, rfl⟩ := LB_inv hx
    have z := hs i (upd H2 D (.lst (LB i G))) (fun y H4 => ∃ acc, H4 D = some (.lst acc) ∧ acc.length < sizeLine ∧ (upd H4 D (.lst (acc ++ [y])) = upd H2 D (.lst (LB (i + 1) G)) ∧ i + 1 ≤ n)) il (same_new hD) ⟨_, upd_same, by rw [LB_len]; exact small1000 (by omega), ?_, il⟩
    · exact z
    · rw [LB_snoc]
      funext b
      by_cases e : b = D
      · rw [e, upd_same, upd_same]
      · rw [upd_ne e, upd_ne e, upd_ne e]
  · rw [hp.1, LB_len]
    exact hd
theorem scTurnedT : FnScope ["some", "truth"] ["some"] (defScope sTurnedT) := ⟨rfl, rfl, rfl, by decide +kernel, rfl, by decide +kernel, by decide +kernel⟩
def spTurnedT : Sp := fun vs H Q _ => ∃ (s : Addr) (n : Nat) (F : Nat → Bool), vs = [.ref s] ∧ H s = some (.lst (LB n F)) ∧ n ≤ 100 ∧ ∀ r, H r = none → Q (.ref r) (upd H r (.lst (LB n fun x => !F x)))
section
variable {P : Program} {w : World} {K : PySem.W.Frag} {mg : Str → Option Value} {base : Heap} {f f1 f2 f3 : Addr} {fd d1 d2 d3 : FuncData} {k : Nat}
theorem ok_turnedT (F : Fun K "turned_truths" "turned_truths" sTurnedT f fd) : FnOk P w K mg base CX0 (k + 1) f fd ["some"] spTurnedT := by
  refine F.ok scTurnedT (fun vs H Q E h => ?_) (fun cdv A outer s0 H vs Q E hr h => ?_)
  · obtain ⟨s, n, G, rfl, _⟩ := h
    rfl
  · obtain ⟨s, n, G, rfl, hs, hn, q⟩ := h
    refine ⟨_, pss_one (ps_ret (pe_lc (own := [("truth", 1)]) (g := gName 1) (tt := tYes) rfl scTurnedT.nd (pi_list (pv 0)) (blkOk_by (own := [("truth", 1)]) (N := ["some", "truth"]) (sc := defScope sTurnedT) (by decide +kernel)) (fun _ _ _ _ _ => pg_name (i := 1) scTurnedT.nd rfl (Or.inl rfl)) (fun _ _ _ _ _ => pts_nil) (fun _ _ _ _ _ => pe_not (pv 1)))), ?_⟩
    refine ⟨_, rfl, s, rfl, ⟨_, SqL.of hs⟩, fun D hD => ?_⟩
    exact lc_truths hD hs (by omega) (fun i H' T hi _ t => ⟨rfl, _, rfl, _, rfl, t⟩) (q D hD)
end
theorem scUntilT : FnScope ["first", "second", "again", "come_to", "lap", "later", "at", "truth"] ["first", "second", "again"] (defScope sUntilT) := ⟨rfl, rfl, rfl, by decide +kernel, rfl, by decide +kernel, by decide +kernel⟩
def spUntilT : Sp := fun vs H Q _ => ∃ (f s : Addr) (n a : Nat) (F S : Nat → Bool), vs = [.ref f, .ref s, .int a] ∧ H f = some (.lst (LB n F)) ∧ H s = some (.lst (LB n S)) ∧ a < n ∧ n ≤ 100 ∧
  ∀ H' r, Same H H' → H r = none → H' r = some (.lst (LB n (twice n a F S))) → Q (.ref r) H'
/-- what is there behind k goings through -/
def cont (n a : Nat) (F S : Nat → Bool) : Nat → Nat → Bool
  | 0, _ => false
  | k + 1, x => back n F S (cont n a F S k a) (n - x)
section
variable {P : Program} {w : World} {K : PySem.W.Frag} {mg : Str → Option Value} {base : Heap} {f f1 f2 f3 : Addr} {fd d1 d2 d3 : FuncData} {k : Nat}
theorem ok_untilT (F : Fun K "until_truths" "until_truths" sUntilT f fd) (mr : mg "range" = none) (mv : mg "reversed" = none) (ml : mg "len" = none) : FnOk P w K mg base CX0 (k + 1) f fd ["first", "second", "again"] spUntilT := by
  refine F.ok scUntilT (fun vs H Q E h => ?_) (fun cdv A outer s0 H vs Q E hr h => ?_)
  · obtain ⟨g, s, n, a, G, S, rfl, _⟩ := h
    rfl
  · obtain ⟨g, s, n, a, G, S, rfl, hg, hs, ha, hn, q⟩ := h
    refine ⟨_, pss_cons (ps_setLc (i := 3) (own := [("truth", 7)]) (g := gName 7) (tt := tYes) rfl scUntilT.nd rfl rfl (sw_true rfl rfl rfl rfl) (pi_list (pv 0)) (blkOk_by (own := [("truth", 7)]) (N := ["first", "second", "again", "come_to", "lap", "later", "at", "truth"]) (sc := defScope sUntilT) (by decide +kernel)) (fun _ _ _ _ _ => pg_name (i := 7) scUntilT.nd rfl (Or.inl rfl)) (fun _ _ _ _ _ => pts_nil) (fun _ _ _ _ _ => pe_bl))
      (pss_cons (ps_for PassesOwn.never rfl (pi_range1 (by rfl) mr (pa_cons pe_int pa_nil)) (pg_name (i := 4) scUntilT.nd rfl (Or.inl rfl))
        (pss_cons (ps_set (i := 5) scUntilT.nd rfl (.inl rfl) (pe_ix ix_list (pv 3) (pv 2) (fun _ _ => rfl)))
        (pss_one (ps_for PassesOwn.never rfl (pi_revR (by rfl) mv (prg_1 (by rfl) mr (pe_callB call_len_seq (by rfl) ml PySem.boot_len (pa_cons (pv 0) pa_nil)))) (pg_name (i := 6) scUntilT.nd rfl (Or.inl rfl))
          (pss_join (ps_set (i := 5) scUntilT.nd rfl (.inl rfl) (pe_or (pe_ix ix_list (pv 1) (pv 6) (fun _ _ => rfl)) (pe_one (pe_and (pe_ix ix_list (pv 0) (pv 6) (fun _ _ => rfl)) (pe_one (pv 5))))))
          (pss_one (ps_asg (pv 5) (pg_sub (pv 3) (pv 6) set_list))))))))
      (pss_one (ps_ret (pv 3)))), ?_⟩
    refine ⟨_, rfl, g, rfl, ⟨_, SqL.of hg⟩, fun C hC => ?_⟩
    refine lc_truths (G := fun _ => false) hC hg (by omega) (fun i H' T hi _ t => ⟨rfl, t⟩) ?_
    have gC : g ≠ C := ne_of_none hg hC
    have sC : s ≠ C := ne_of_none hs hC
    refine ⟨2, rfl, by decide, by decide, for_range (n := 2) (fun i σ H' => ∃ x4 x5 x6, σ = [some (.ref g), some (.ref s), some (.int a), some (.ref C), x4, x5, x6, none] ∧ H' = upd H C (.lst (LB n (cont n a G S i))))
      ⟨_, _, _, rfl, rfl⟩ (fun i σ H1 hi hp => ?_) (fun σ H1 hp => ?_)⟩
    · obtain ⟨x4, x5, x6, rfl, rfl⟩ := hp
      refine ⟨_, rfl, _, rfl, C, _, _, _, rfl, rfl, SqL.of upd_same, atI_nat (LB_at ha), ?_⟩
      have eg : ∀ {l : List V}, upd H C (.lst l) g = some (.lst (LB n G)) := fun {l} => by rw [upd_ne gC]; exact hg
      have es : ∀ {l : List V}, upd H C (.lst l) s = some (.lst (LB n S)) := fun {l} => by rw [upd_ne sC]; exact hs
      refine ⟨_, rfl, g, _, rfl, .inl (SqL.of eg), _, rfl, by decide, by decide, (by rw [LB_len]; omega), (by rw [LB_len]; omega), ?_⟩
      rw [LB_len]
      have e1 : (((n : Nat) : Int) - 0).toNat = n := by omega
      rw [e1]
      refine for_rangeC (fun j σ H' => ∃ x6, σ = [some (.ref g), some (.ref s), some (.int a), some (.ref C), some (.int (0 + i)), some (.bl (back n G S (cont n a G S i a) j)), x6, none] ∧ H' = upd H C (.lst (LB n (fun x => if n - j ≤ x then back n G S (cont n a G S i a) (n - x) else cont n a G S i x))) ∧ j ≤ n)
        ⟨_, rfl, ?_, Nat.zero_le _⟩ (fun j σ H1 hj hp => ?_) (fun σ H1 hp => ?_)
      · exact congrArg (fun l => upd H C (.lst l)) (LB_congr fun x hx => (if_neg (by omega)).symm)
      · obtain ⟨x6, rfl, rfl, jn⟩ := hp
        have ej : ((0 : Int) + ((n : Nat) : Int) - 1 + ((j : Nat) : Int) * -1) = ((n - 1 - j : Nat) : Int) := by omega
        rw [ej]
        have hx : n - 1 - j < n := by omega
        refine ⟨fun σ H' => σ = [some (.ref g), some (.ref s), some (.int a), some (.ref C), some (.int (0 + i)), some (.bl (back n G S (cont n a G S i a) (j + 1))), some (.int ((n - 1 - j : Nat) : Int)), none] ∧ H' = upd H C (.lst (LB n (fun x => if n - j ≤ x then back n G S (cont n a G S i a) (n - x) else cont n a G S i x))), ?_, fun σ H' hI => ?_⟩
        · refine ⟨_, rfl, _, rfl, s, _, _, _, rfl, rfl, SqL.of es, atI_nat (LB_at hx), _, rfl, ?_⟩
          cases hS : S (n - 1 - j) with
          | true =>
            refine iteT ⟨?_, rfl⟩
            rw [back, hS, Bool.true_or]
            rfl
          | false =>
            refine iteF ?_
            refine ⟨_, rfl, _, rfl, g, _, _, _, rfl, rfl, SqL.of eg, atI_nat (LB_at hx), _, rfl, ?_⟩
            cases hG : G (n - 1 - j) with
            | true =>
              refine iteT ⟨_, rfl, ?_, rfl⟩
              rw [back, hS, hG, Bool.false_or, Bool.true_and]
              rfl
            | false =>
              refine iteF ⟨?_, rfl⟩
              rw [back, hS, hG, Bool.false_or, Bool.false_and]
              rfl
        · obtain ⟨rfl, rfl⟩ := hI
          refine ⟨_, rfl, _, rfl, _, rfl, C, _, _, n - 1 - j, rfl, rfl, upd_same, ?_, _, rfl, ?_, by omega⟩
          · unfold ixN
            rw [LB_len, if_pos (by omega), if_pos (by omega), Int.toNat_natCast]
          · rw [LB_set hx]
            have e2 : ∀ l1 l2 : List V, upd (upd H C (.lst l1)) C (.lst l2) = upd H C (.lst l2) := fun l1 l2 => by
              funext b
              by_cases e : b = C
              · rw [e, upd_same, upd_same]
              · rw [upd_ne e, upd_ne e, upd_ne e]
            rw [e2]
            refine congrArg (fun l => upd H C (.lst l)) (LB_congr fun x hx' => ?_)
            by_cases c1 : x = n - 1 - j
            · rw [if_pos c1, if_pos (by omega), c1, show n - (n - 1 - j) = j + 1 by omega]
            · rw [if_neg c1]
              by_cases c2 : n - j ≤ x
              · rw [if_pos c2, if_pos (by omega)]
              · rw [if_neg c2, if_neg (by omega)]
      · obtain ⟨x6, rfl, rfl, _⟩ := hp
        refine ⟨_, _, _, rfl, congrArg (fun l => upd H C (.lst l)) (LB_congr fun x hx => ?_)⟩
        rw [if_pos (by omega)]
        rfl
    · obtain ⟨x4, x5, x6, rfl, rfl⟩ := hp
      exact ⟨_, rfl, q _ C (same_new hC) hC upd_same⟩
end
end W25

namespace W25
open PySem PySem.Spec PyProof.Rows L2 Gs Sf
theorem scEverT : FnScope ["some", "again", "truth"] ["some", "again"] (defScope sEverT) := ⟨rfl, rfl, rfl, by decide +kernel, rfl, by decide +kernel, by decide +kernel⟩
def spEverT : Sp := fun vs H Q _ => ∃ (s : Addr) (n a : Nat) (S : Nat → Bool), vs = [.ref s, .int a] ∧ H s = some (.lst (LB n S)) ∧ a < n ∧ n ≤ 100 ∧
  ∀ H' r, Same H H' → H r = none → H' r = some (.lst (LB n (twice n a (fun _ => true) S))) → Q (.ref r) H'
section
variable {P : Program} {w : World} {K : PySem.W.Frag} {mg : Str → Option Value} {base : Heap} {f f1 f2 f3 : Addr} {fd d1 d2 d3 : FuncData} {k : Nat}
theorem ok_everT (F : Fun K "ever_truths" "ever_truths" sEverT f fd) (U : Cl P w K mg base CX0 1 "until_truths" ["first", "second", "again"] spUntilT f1 d1) : FnOk P w K mg base CX0 2 f fd ["some", "again"] spEverT := by
  refine F.ok scEverT (fun vs H Q E h => ?_) (fun cdv A outer s0 H vs Q E hr h => ?_)
  · obtain ⟨s, n, a, S, rfl, _⟩ := h
    rfl
  · obtain ⟨s, n, a, S, rfl, hs, ha, hn, q⟩ := h
    refine ⟨_, pss_one (ps_ret (pe_call U.ok hr (by rfl) U.g U.kp U.bd .nil pass0 (pa_cons
      (pe_lc (own := [("truth", 2)]) (g := gName 2) (tt := tYes) rfl scEverT.nd (pi_list (pv 0)) (blkOk_by (own := [("truth", 2)]) (N := ["some", "again", "truth"]) (sc := defScope sEverT) (by decide +kernel)) (fun _ _ _ _ _ => pg_name (i := 2) scEverT.nd rfl (Or.inl rfl)) (fun _ _ _ _ _ => pts_nil) (fun _ _ _ _ _ => pe_bl))
      (pa_cons (pv 0) (pa_cons (pv 1) pa_nil))))), ?_⟩
    refine ⟨_, rfl, s, rfl, ⟨_, SqL.of hs⟩, fun D hD => ?_⟩
    refine lc_truths (G := fun _ => true) hD hs (by omega) (fun i H' T hi _ t => ⟨rfl, t⟩) ?_
    have s1 := same_new (o := .lst (LB n fun _ => true)) hD
    exact ⟨_, rfl, _, rfl, D, s, n, a, _, S, rfl, upd_same, s1 _ _ hs, ha, hn, fun H' r s2 hr0 e => q H' r (s1.trans s2) (free_same s1 hr0) e⟩
end
def unT (n a : Nat) : Un → (Nat → Bool) → Nat → Bool
  | .no, F => fun x => !F x
  | .ev, F => twice n a (fun _ => true) F
  | .al, F => fun x => !twice n a (fun _ => true) (fun y => !F y) x
def biT (n a : Nat) : Bi → (Nat → Bool) → (Nat → Bool) → Nat → Bool
  | .an, F, G => fun x => F x && G x
  | .or, F, G => fun x => F x || G x
  | .un, F, G => twice n a F G
theorem scJoinedT : FnScope ["word", "halves", "again", "first", "second", "one", "other"] ["word", "halves", "again"] (defScope sJoinedT) := ⟨rfl, rfl, rfl, by decide +kernel, rfl, by decide +kernel, by decide +kernel⟩
def spJoinedT : Sp := fun vs H Q _ => ∃ (z : Str) (h : Addr) (n a : Nat), vs = [.str z, .ref h, .int a] ∧ a < n ∧ n ≤ 100 ∧
  ((∃ (u : Un) (h1 : Addr) (F : Nat → Bool), z = u.s ∧ H h = some (.lst [.ref h1]) ∧ H h1 = some (.lst (LB n F)) ∧ ∀ H' r, Same H H' → H r = none → H' r = some (.lst (LB n (unT n a u F))) → Q (.ref r) H') ∨
   (∃ (u : Bi) (h1 h2 : Addr) (F G : Nat → Bool), z = u.s ∧ H h = some (.lst [.ref h1, .ref h2]) ∧ H h1 = some (.lst (LB n F)) ∧ H h2 = some (.lst (LB n G)) ∧ ∀ H' r, Same H H' → H r = none → H' r = some (.lst (LB n (biT n a u F G))) → Q (.ref r) H'))
/-- [one op other for one, other in zip(first, second)] -/
theorem lc_both {K : PySem.W.Frag} {a1 a2 D : Addr} {n : Nat} {F G B : Nat → Bool} {g : TG} {te : TE} {vs : List Nat} {σ : L2.St} {H2 : Hp} {Qd : Hp → Prop} (hD : H2 D = none) (h1 : H2 a1 = some (.lst (LB n F))) (h2 : H2 a2 = some (.lst (LB n G))) (hn : n ≤ 1000)
    (hs : ∀ (i : Nat) (H : Hp) (T : Addr) (R : V → Hp → Prop), i < n → H T = none → R (.bl (B i)) (upd H T (.tup [.bl (F i), .bl (G i)])) → g (.ref T) (wipe σ vs) (upd H T (.tup [.bl (F i), .bl (G i)])) fun σ2 H3 => wipe σ2 vs = wipe σ vs ∧ te σ2 H3 R)
    (hd : ∀ H', Same H2 H' → H' D = some (.lst (LB n B)) → Qd H') :
    ∃ W : Nat → Nat → Hp → Prop, (∃ m, W 0 m (upd H2 D (.lst []))) ∧ ∀ i m H, W i m H →
      ((Itz K a1 a2).stop i H ∧ Qd H) ∨ ((Itz K a1 a2).go i H ∧ ∃ Nx : Hp → Prop, (∀ H', Nx H' → ∃ m', m' < m ∧ W (i + 1) m' H') ∧ ∀ x H', (Itz K a1 a2).yld i H x H' → g x (wipe σ vs) H' fun σ2 H2 => wipe σ2 vs = wipe σ vs ∧ tYes σ2 H2 fun b H3 =>
        if b = true then te σ2 H3 fun y H4 => ∃ acc, H4 D = some (.lst acc) ∧ acc.length < sizeLine ∧ Nx (upd H4 D (.lst (acc ++ [y]))) else Nx H3) := by
  refine lc_it (walk_zip (xs := LB n F) (ys := LB n G) (n := n) (by rw [LB_len, LB_len, Nat.min_self])) (fun i H' => Same H2 H' ∧ H' D = some (.lst (LB i B)) ∧ i ≤ n)
    ⟨same_new hD, upd_same, Nat.zero_le _⟩ (fun i H' _ hp => ⟨SqL.of (hp.1 _ _ h1), SqL.of (hp.1 _ _ h2)⟩) (fun i x H1 H' hi hp y => ?_) (fun H1 hp => hd H1 hp.1 hp.2.1)
  obtain ⟨sm, eD, _⟩ := hp
  obtain ⟨T, x1, x2, rfl, hT, rfl, e1, e2⟩ := y
  have e1' : (LB n F)[i]? = some x1 := e1
  have e2' : (LB n G)[i]? = some x2 := e2
  rw [LB_at hi] at e1' e2'
  cases e1'
  cases e2'
  have sT := same_new (o := .tup [.bl (F i), .bl (G i)]) hT
  refine hs i H1 T _ hi hT ?_
  refine ⟨_, sT _ _ eD, by rw [LB_len]; exact small1000 (by omega), keep_sameL (H' := H1) hD (sm.trans sT), ?_, hi⟩
  rw [upd_same, LB_snoc]
section
variable {P : Program} {w : World} {K : PySem.W.Frag} {mg : Str → Option Value} {base : Heap} {f f1 f2 f3 : Addr} {fd d1 d2 d3 : FuncData} {k : Nat}
theorem ok_joinedT (F : Fun K "joined_truths" "joined_truths" sJoinedT f fd) (U : Cl P w K mg base CX0 1 "until_truths" ["first", "second", "again"] spUntilT f1 d1) (Ev : Cl P w K mg base CX0 2 "ever_truths" ["some", "again"] spEverT f2 d2) (Tu : Cl P w K mg base CX0 1 "turned_truths" ["some"] spTurnedT f3 d3)
    (mz : mg "zip" = none) : FnOk P w K mg base CX0 3 f fd ["word", "halves", "again"] spJoinedT := by
  refine F.ok scJoinedT (fun vs H Q E h => ?_) (fun cdv A outer s0 H vs Q E hr h => ?_)
  · obtain ⟨z, h, n, a, rfl, _⟩ := h
    rfl
  · obtain ⟨z, h, n, a, rfl, ha, hn, cases_⟩ := h
    have r1 := hr.mono (j := 1) (by decide)
    refine ⟨_, pss_cons (ps_set (i := 3) scJoinedT.nd rfl (.inl rfl) (pe_ix ix_list (pv 1) pe_int (fun _ _ => rfl)))
      (pss_cons (ps_if (pt_cmpR op_eq (pv 0) pe_str (nomark _)) (pss_one (ps_ret (pe_call Tu.ok r1 (by rfl) Tu.g Tu.kp Tu.bd .nil pass0 (pa_cons (pv 3) pa_nil)))) pss_nil)
      (pss_cons (ps_if (pt_cmpR op_eq (pv 0) pe_str (nomark _)) (pss_one (ps_ret (pe_call Ev.ok hr (by rfl) Ev.g Ev.kp Ev.bd .nil pass0 (pa_cons (pv 3) (pa_cons (pv 2) pa_nil))))) pss_nil)
      (pss_cons (ps_if (pt_cmpR op_eq (pv 0) pe_str (nomark _)) (pss_one (ps_ret (pe_call Tu.ok r1 (by rfl) Tu.g Tu.kp Tu.bd .nil pass0 (pa_cons (pe_call Ev.ok hr (by rfl) Ev.g Ev.kp Ev.bd .nil pass0 (pa_cons (pe_call Tu.ok r1 (by rfl) Tu.g Tu.kp Tu.bd .nil pass0 (pa_cons (pv 3) pa_nil)) (pa_cons (pv 2) pa_nil))) pa_nil)))) pss_nil)
      (pss_cons (ps_set (i := 4) scJoinedT.nd rfl (.inl rfl) (pe_ix ix_list (pv 1) pe_int (fun _ _ => rfl)))
      (pss_cons (ps_if (pt_cmpR op_eq (pv 0) pe_str (nomark _)) (pss_one (ps_ret (pe_lc (own := [("one", 5), ("other", 6)]) (g := gTup K 2 (gCons (gName 5) (gCons (gName 6) gNil))) (tt := tYes) rfl scJoinedT.nd (pi_zip (by rfl) mz (pa_cons (pv 3) (pa_cons (pv 4) pa_nil))) (blkOk_by (own := [("one", 5), ("other", 6)]) (N := ["word", "halves", "again", "first", "second", "one", "other"]) (sc := defScope sJoinedT) (by decide +kernel))
          (fun _ _ _ _ _ => pg_tup rfl (pgs_cons (pg_name (i := 5) scJoinedT.nd rfl (Or.inl rfl)) (pgs_cons (pg_name (i := 6) scJoinedT.nd rfl (Or.inl rfl)) pgs_nil))) (fun _ _ _ _ _ => pts_nil) (fun _ _ _ _ _ => pe_and (pv 5) (pe_one (pv 6)))))) pss_nil)
      (pss_cons (ps_if (pt_cmpR op_eq (pv 0) pe_str (nomark _)) (pss_one (ps_ret (pe_lc (own := [("one", 5), ("other", 6)]) (g := gTup K 2 (gCons (gName 5) (gCons (gName 6) gNil))) (tt := tYes) rfl scJoinedT.nd (pi_zip (by rfl) mz (pa_cons (pv 3) (pa_cons (pv 4) pa_nil))) (blkOk_by (own := [("one", 5), ("other", 6)]) (N := ["word", "halves", "again", "first", "second", "one", "other"]) (sc := defScope sJoinedT) (by decide +kernel))
          (fun _ _ _ _ _ => pg_tup rfl (pgs_cons (pg_name (i := 5) scJoinedT.nd rfl (Or.inl rfl)) (pgs_cons (pg_name (i := 6) scJoinedT.nd rfl (Or.inl rfl)) pgs_nil))) (fun _ _ _ _ _ => pts_nil) (fun _ _ _ _ _ => pe_or (pv 5) (pe_one (pv 6)))))) pss_nil)
      (pss_one (ps_ret (pe_call U.ok r1 (by rfl) U.g U.kp U.bd .nil pass0 (pa_cons (pv 3) (pa_cons (pv 4) (pa_cons (pv 2) pa_nil)))))))))))), ?_⟩
    rcases cases_ with ⟨u, h1, F1, rfl, eh, e1, q⟩ | ⟨u, h1, h2, F1, G1, rfl, eh, e1, e2, q⟩
    · refine ⟨_, rfl, h, _, 0, _, rfl, rfl, SqL.of eh, atI_nat (j := 0) rfl, ?_⟩
      cases u with
      | no =>
        refine ⟨_, rfl, rfl, _, rfl, iteP rfl ?_⟩
        exact ⟨_, rfl, h1, n, F1, rfl, e1, hn, fun r hr0 => q _ r (same_new hr0) hr0 upd_same⟩
      | ev =>
        refine ⟨_, rfl, rfl, _, rfl, iteN rfl ?_⟩
        refine ⟨_, rfl, rfl, _, rfl, iteP rfl ?_⟩
        exact ⟨_, rfl, _, rfl, h1, n, a, F1, rfl, e1, ha, hn, q⟩
      | al =>
        refine ⟨_, rfl, rfl, _, rfl, iteN rfl ?_⟩
        refine ⟨_, rfl, rfl, _, rfl, iteN rfl ?_⟩
        refine ⟨_, rfl, rfl, _, rfl, iteP rfl ?_⟩
        refine ⟨_, rfl, h1, n, F1, rfl, e1, hn, fun t1 ht1 => ?_⟩
        refine ⟨_, rfl, t1, n, a, _, rfl, upd_same, ha, hn, fun H' r s1 hr0 er => ?_⟩
        have s0' := (same_new (o := .lst (LB n fun x => !F1 x)) ht1).trans s1
        exact ⟨r, n, _, rfl, er, hn, fun r2 hr2 => q _ r2 (s0'.trans (same_new hr2)) (free_same s0' hr2) upd_same⟩
    · refine ⟨_, rfl, h, _, 0, _, rfl, rfl, SqL.of eh, atI_nat (j := 0) rfl, ?_⟩
      refine ⟨_, rfl, rfl, _, rfl, iteN (by cases u <;> rfl) ?_⟩
      refine ⟨_, rfl, rfl, _, rfl, iteN (by cases u <;> rfl) ?_⟩
      refine ⟨_, rfl, rfl, _, rfl, iteN (by cases u <;> rfl) ?_⟩
      refine ⟨_, rfl, h, _, 1, _, rfl, rfl, SqL.of eh, atI_nat (j := 1) rfl, ?_⟩
      cases u with
      | an =>
        refine ⟨_, rfl, rfl, _, rfl, iteP rfl ?_⟩
        refine ⟨_, rfl, _, rfl, h1, h2, _, _, rfl, SqL.of e1, SqL.of e2, fun D hD => ?_⟩
        refine lc_both (F := F1) (G := G1) (B := fun x => F1 x && G1 x) hD e1 e2 (by omega) (fun i H' T R hi hT t => ?_) (fun H' sm eD => q H' D sm hD eD)
        refine ⟨T, _, rfl, SqT.of upd_same, rfl, _, _, rfl, _, _, rfl, rfl, rfl, ?_⟩
        refine ⟨_, rfl, _, rfl, ?_⟩
        cases hF : F1 i with
        | true =>
          rw [hF, Bool.true_and] at t
          exact iteT ⟨_, rfl, t⟩
        | false =>
          rw [hF, Bool.false_and] at t
          exact iteF t
      | or =>
        refine ⟨_, rfl, rfl, _, rfl, iteN rfl ?_⟩
        refine ⟨_, rfl, rfl, _, rfl, iteP rfl ?_⟩
        refine ⟨_, rfl, _, rfl, h1, h2, _, _, rfl, SqL.of e1, SqL.of e2, fun D hD => ?_⟩
        refine lc_both (F := F1) (G := G1) (B := fun x => F1 x || G1 x) hD e1 e2 (by omega) (fun i H' T R hi hT t => ?_) (fun H' sm eD => q H' D sm hD eD)
        refine ⟨T, _, rfl, SqT.of upd_same, rfl, _, _, rfl, _, _, rfl, rfl, rfl, ?_⟩
        refine ⟨_, rfl, _, rfl, ?_⟩
        cases hF : F1 i with
        | true =>
          rw [hF, Bool.true_or] at t
          exact iteT t
        | false =>
          rw [hF, Bool.false_or] at t
          exact iteF ⟨_, rfl, t⟩
      | un =>
        refine ⟨_, rfl, rfl, _, rfl, iteN rfl ?_⟩
        refine ⟨_, rfl, rfl, _, rfl, iteN rfl ?_⟩
        exact ⟨_, rfl, _, rfl, _, rfl, h1, h2, n, a, F1, G1, rfl, e1, e2, ha, hn, q⟩
end
/-! ### truths_of -/
def dLt (l : List Bool) : PyData := .tuple (l.map PyData.bool)
/-- the truth of a saying at a letter, as it is reckoned -/
def tb (ds : List PyData) (ls : List (List Bool)) (n a : Nat) : Sy → Nat → Bool
  | .yes => fun _ => true
  | .at w r => fun x => (ls.getD x []).getD (idx ds (dAt w r)) false
  | .un u s => unT n a u (tb ds ls n a s)
  | .bi u s t => biT n a u (tb ds ls n a s) (tb ds ls n a t)
theorem scTruths : FnScope ["saying", "atoms", "letters", "again", "at", "halves", "letter", "half"] ["saying", "atoms", "letters", "again"] (defScope sTruths) := ⟨rfl, rfl, rfl, by decide +kernel, rfl, by decide +kernel, by decide +kernel⟩
def spTruths (K : PySem.W.Frag) (m : Nat) : Sp := fun vs H Q _ => ∃ (v : V) (aA L : Addr) (a : Nat) (s : Sy) (us : List V) (ds : List PyData) (vl : List V) (ls : List (List Bool)), vs = [v, .ref aA, .ref L, .int a] ∧ Tp K H v (dSy s) ∧ SyOk m s ∧
  H aA = some (.lst us) ∧ TpAll K H us ds ∧ (∀ d ∈ ds, Pl 8 d) ∧ Has ds s ∧ H L = some (.lst vl) ∧ TpAll K H vl (ls.map dLt) ∧ (∀ l ∈ ls, l.length = ds.length) ∧ a < ls.length ∧ ls.length ≤ 100 ∧
  ∀ H' r, Same H H' → H r = none → H' r = some (.lst (LB ls.length (tb ds ls ls.length a s))) → Q (.ref r) H'
theorem tp_bools {K : PySem.W.Frag} {H : Hp} : ∀ {l : List Bool} {vs : List V}, TpAll K H vs (l.map PyData.bool) → vs = l.map V.bl
  | [], _, .nil => rfl
  | b :: l, _, .cons h r => by
    cases h
    rw [tp_bools r]
    rfl
theorem at_yes {w : Str} (h : w ∈ atomW) : decide (V.str w = V.str "yes") = false := by
  rcases List.mem_cons.mp h with rfl | h
  · decide +kernel
  rcases List.mem_cons.mp h with rfl | h
  · decide +kernel
  rcases List.mem_cons.mp h with rfl | h
  · decide +kernel
  · exact absurd h List.not_mem_nil
/-- a comprehension over any list that makes truths -/
theorem lc_any {K : PySem.W.Frag} {a D : Addr} {vl : List V} {G : Nat → Bool} {g : TG} {te : TE} {vs : List Nat} {σ : L2.St} {H2 : Hp} {Qd : Hp → Prop} (hD : H2 D = none) (ha : H2 a = some (.lst vl)) (hn : vl.length ≤ 1000)
    (hs : ∀ (i : Nat) (x : V) (H : Hp) (T : V → Hp → Prop), vl[i]? = some x → Same H2 H → T (.bl (G i)) H → g x (wipe σ vs) H fun σ2 H3 => wipe σ2 vs = wipe σ vs ∧ te σ2 H3 T)
    (hd : Qd (upd H2 D (.lst (LB vl.length G)))) :
    ∃ W : Nat → Nat → Hp → Prop, (∃ m, W 0 m (upd H2 D (.lst []))) ∧ ∀ i m H, W i m H →
      ((Itl K a).stop i H ∧ Qd H) ∨ ((Itl K a).go i H ∧ ∃ Nx : Hp → Prop, (∀ H', Nx H' → ∃ m', m' < m ∧ W (i + 1) m' H') ∧ ∀ x H', (Itl K a).yld i H x H' → g x (wipe σ vs) H' fun σ2 H2 => wipe σ2 vs = wipe σ vs ∧ tYes σ2 H2 fun b H3 =>
        if b = true then te σ2 H3 fun y H4 => ∃ acc, H4 D = some (.lst acc) ∧ acc.length < sizeLine ∧ Nx (upd H4 D (.lst (acc ++ [y]))) else Nx H3) := by
  refine lc_list (K := K) (xs := vl) (fun i H' => H' = upd H2 D (.lst (LB i G)) ∧ i ≤ vl.length) ⟨rfl, Nat.zero_le _⟩ (fun i H' _ hp => ?_) (fun i x H1 hx hp => ?_) (fun H1 hp => ?_)
  · rw [hp.1]
    exact SqL.of (same_new hD _ _ ha)
  · obtain ⟨rfl, hi⟩ := hp
    have il : i < vl.length := (List.getElem?_eq_some_iff.mp hx).1
    have z := hs i x (upd H2 D (.lst (LB i G))) (fun y H4 => ∃ acc, H4 D = some (.lst acc) ∧ acc.length < sizeLine ∧ (upd H4 D (.lst (acc ++ [y])) = upd H2 D (.lst (LB (i + 1) G)) ∧ i + 1 ≤ vl.length)) hx (same_new hD) ⟨_, upd_same, by rw [LB_len]; exact small1000 (by omega), ?_, il⟩
    · exact z
    · rw [LB_snoc]
      funext b
      by_cases e : b = D
      · rw [e, upd_same, upd_same]
      · rw [upd_ne e, upd_ne e, upd_ne e]
  · rw [hp.1]
    exact hd
section
variable {P : Program} {w : World} {K : PySem.W.Frag} {mg : Str → Option Value} {base : Heap} {f f1 aT : Addr} {fd d1 : FuncData}
theorem ok_truths (F : Fun K "truths_of" "truths_of" sTruths f fd) (g : mg "truths_of" = some (.ref f)) (kp : PySem.W.keepIn K (.ref f) = true) (bd : Binds K fd ["saying", "atoms", "letters", "again"] [])
    (gT : mg "ATOMS" = some (.ref aT)) (hT : TxtsAt K aT atomW) (J : Cl P w K mg base CX0 3 "joined_truths" ["word", "halves", "again"] spJoinedT f1 d1) :
    ∀ m, m ≤ 8 → FnOk P w K mg base CX0 (m + 4) f fd ["saying", "atoms", "letters", "again"] (spTruths K m) := by
  intro m
  induction m with
  | zero =>
    intro _
    refine F.ok scTruths (fun vs H Q E h => ?_) (fun cdv A outer s H vs Q E hr h => ?_)
    · obtain ⟨v, aA, L, a, s, us, ds, vl, ls, rfl, _, ok, _⟩ := h
      cases ok
    · obtain ⟨v, aA, L, a, s, us, ds, vl, ls, rfl, _, ok, _⟩ := h
      cases ok
  | succ m ih =>
    intro hm
    have IH := ih (by omega)
    refine F.ok scTruths (fun vs H Q E h => ?_) (fun cdv A outer s0 H vs Q E hr h => ?_)
    · obtain ⟨v, aA, L, a, s, us, ds, vl, ls, rfl, _⟩ := h
      rfl
    · obtain ⟨v, aA, L, a, s, us, ds, vl, ls, rfl, tv, ok, hA, tu, pd, hs, hL, tl, ll, ha, hn, q⟩ := h
      have r3 := hr.mono (j := 3) (by omega)
      refine ⟨_, pss_cons (ps_if (pt_cmpR op_eq (pe_ix ix_tup (pv 0) pe_int (fun _ _ => rfl)) pe_str (nomark _)) (pss_one (ps_ret (pe_lc (own := [("letter", 6)]) (g := gName 6) (tt := tYes) rfl scTruths.nd (pi_list (pv 2)) (blkOk_by (own := [("letter", 6)]) (N := ["saying", "atoms", "letters", "again", "at", "halves", "letter", "half"]) (sc := defScope sTruths) (by decide +kernel)) (fun _ _ _ _ _ => pg_name (i := 6) scTruths.nd rfl (Or.inl rfl)) (fun _ _ _ _ _ => pts_nil) (fun _ _ _ _ _ => pe_bl)))) pss_nil)
        (pss_cons (ps_if (pt_cmpR op_in_seq (pe_ix ix_tup (pv 0) pe_int (fun _ _ => rfl)) (pe_glob (v := .ref aT) (by rfl) gT rfl) (by rfl))
          (pss_cons (ps_set (i := 4) scTruths.nd rfl (.inr rfl) (pe_bm PySem.F.plainAttrs_list PySem.F.slot_list_index PySem.F.type_list_index (mt_indexD (u65 hr)) (pv 1) (pa_cons (pv 0) pa_nil)))
          (pss_one (ps_ret (pe_lc (own := [("letter", 6)]) (g := gName 6) (tt := tYes) rfl scTruths.nd (pi_list (pv 2)) (blkOk_by (own := [("letter", 6)]) (N := ["saying", "atoms", "letters", "again", "at", "halves", "letter", "half"]) (sc := defScope sTruths) (by decide +kernel)) (fun _ _ _ _ _ => pg_name (i := 6) scTruths.nd rfl (Or.inl rfl)) (fun _ _ _ _ _ => pts_nil) (fun _ _ _ _ _ => pe_ix (ix_tupK (K := K) rfl) (pv 6) (pv 4) (fun _ _ => rfl)))))) pss_nil)
        (pss_cons (ps_setLc (i := 5) (own := [("half", 7)]) (g := gName 7) (tt := tYes) rfl scTruths.nd rfl rfl (sw_true rfl rfl rfl rfl) (pi_tup (pe_slice sl_tup (pv 0) (po_some pe_int) po_none)) (blkOk_by (own := [("half", 7)]) (N := ["saying", "atoms", "letters", "again", "at", "halves", "letter", "half"]) (sc := defScope sTruths) (by decide +kernel)) (fun _ _ _ _ _ => pg_name (i := 7) scTruths.nd rfl (Or.inl rfl)) (fun _ _ _ _ _ => pts_nil)
          (fun _ _ _ _ _ => pe_call IH hr (by rfl) g kp bd .nil pass0 (pa_cons (pv 7) (pa_cons (pv 1) (pa_cons (pv 2) (pa_cons (pv 3) pa_nil))))))
        (pss_one (ps_ret (pe_call J.ok r3 (by rfl) J.g J.kp J.bd .nil pass0 (pa_cons (pe_ix ix_tup (pv 0) pe_int (fun _ _ => rfl)) (pa_cons (pv 5) (pa_cons (pv 3) pa_nil)))))))), ?_⟩
      have vll : vl.length = ls.length := by rw [tl.len, List.length_map]
      have ho : ∃ ds0, dSy s = .tuple (.str (wd s) :: ds0) := by cases s <;> exact ⟨_, rfl⟩
      obtain ⟨ds0, e0⟩ := ho
      have tv0 := tv
      rw [e0] at tv
      obtain ⟨av, xs, rfl, sq, ta⟩ := tp_tup tv
      obtain ⟨v0, vs, rfl, t0, th⟩ := tp_cons ta
      cases tp_str t0
      refine ⟨_, rfl, av, _, 0, _, rfl, rfl, sq, atI_nat (j := 0) rfl, rfl, _, rfl, ?_⟩
      cases s with
      | yes =>
        refine iteP rfl ?_
        refine ⟨_, rfl, L, rfl, ⟨_, SqL.of hL⟩, fun D hD => ?_⟩
        refine lc_any (G := fun _ => true) hD hL (by omega) (fun i x H' T hx _ t => ⟨rfl, t⟩) ?_
        rw [vll]
        exact q _ D (same_new hD) hD upd_same
      | «at» wz r =>
        cases ok with
        | «at» ao =>
          cases hs with
          | «at» hm' =>
            obtain ⟨i1, i2⟩ := idx_at (fun z hz => (pd z hz).1) hm'
            have il : idx ds (dAt wz r) < ds.length := (List.getElem?_eq_some_iff.mp i1).1
            refine iteN (at_yes ao.1) ?_
            refine ⟨_, rfl, av, _, 0, _, rfl, rfl, sq, atI_nat (j := 0) rfl, aT, _, rfl, .inr (hT H), rfl, flat_strs _, _, rfl, iteP (in_atoms ao.1) ?_⟩
            refine ⟨_, rfl, .inl ⟨rfl, _, SqL.of hA⟩, _, rfl, aA, _, _, ds, _, _, rfl, rfl, .lst (SqL.of hA) tu.dp, tv0.dp, shaped_list pd (by decide), ao.2.shaped (by decide), i1, eqv_self ao.2.1, i2, ?_⟩
            refine ⟨_, rfl, L, rfl, ⟨_, SqL.of hL⟩, fun D hD => ?_⟩
            refine lc_any (G := tb ds ls ls.length a (.at wz r)) hD hL (by omega) (fun i x H' T hx sm t => ?_) ?_
            · obtain ⟨l, el, hl, tx⟩ := tpAll_map tl hx
              obtain ⟨al, xl, rfl, sql, tbs⟩ := tp_tup (tx.mono sm)
              have ex := tp_bools tbs
              subst ex
              have ill : idx ds (dAt wz r) < l.length := by rw [ll l hl]; exact il
              have eg : (ls.getD i []).getD (idx ds (dAt wz r)) false = l[idx ds (dAt wz r)] := by
                have e1 : ls.getD i [] = l := by rw [List.getD_eq_getElem?_getD, el, Option.getD_some]
                rw [e1, List.getD_eq_getElem?_getD, List.getElem?_eq_getElem ill, Option.getD_some]
              refine ⟨rfl, _, rfl, _, rfl, al, _, _, .bl (l[idx ds (dAt wz r)]), rfl, rfl, sql, atI_nat (by rw [List.getElem?_map, List.getElem?_eq_getElem ill]; rfl), ?_⟩
              have t' : T (.bl ((ls.getD i []).getD (idx ds (dAt wz r)) false)) H' := t
              rw [eg] at t'
              exact t'
            · rw [vll]
              exact q _ D (same_new hD) hD upd_same
      | un u t =>
        cases e0
        obtain ⟨v1, _, rfl, t1, tn⟩ := tp_cons th
        cases tp_nil tn
        cases ok with
        | un okt =>
          cases hs with
          | un hst =>
            refine iteN (by cases u <;> rfl) ?_
            refine ⟨_, rfl, av, _, 0, _, rfl, rfl, sq, atI_nat (j := 0) rfl, aT, _, rfl, .inr (hT H), rfl, flat_strs _, _, rfl, iteN (no_atom (s := .un u t) rfl) ?_⟩
            refine ⟨_, rfl, 1, rfl, av, _, rfl, sq, cut1_ne, fun T hT0 => ?_⟩
            rw [cut1]
            have s1 := same_new (o := .tup [v1]) hT0
            refine ⟨T, rfl, ⟨_, SqT.of upd_same⟩, fun D hD => ?_⟩
            have hDH := free_same s1 hD
            have nT : T ≠ D := ne_of_none upd_same hD
            refine lc_tup (K := K) (xs := [v1]) (fun i H' => Same H H' ∧ SqT K H' T [v1] ∧ i ≤ 1 ∧ ((i = 0 ∧ H' D = some (.lst [])) ∨ (i = 1 ∧ ∃ h1, H' D = some (.lst [.ref h1]) ∧ H' h1 = some (.lst (LB ls.length (tb ds ls ls.length a t))))))
              ⟨s1.trans (same_new hD), SqT.of (by rw [upd_ne nT]; exact upd_same), Nat.zero_le _, .inl ⟨rfl, upd_same⟩⟩ (fun i H' _ hp => hp.2.1) (fun i x H' hx hp => ?_) (fun H' hp => ?_)
            · obtain ⟨sm, sT, _, hc⟩ := hp
              have i0 : i = 0 := by
                have := (List.getElem?_eq_some_iff.mp hx).1
                simp at this
                omega
              subst i0
              cases hx
              rcases hc with ⟨_, eD⟩ | ⟨h, _⟩
              · refine ⟨rfl, ?_⟩
                refine ⟨_, rfl, _, rfl, _, rfl, _, rfl, v1, aA, L, a, t, us, ds, vl, ls, rfl, t1.mono sm, okt, sm _ _ hA, tu.mono sm, pd, hst, sm _ _ hL, tl.mono sm, ll, ha, hn, fun H2 r s2 hr2 e2 => ?_⟩
                have nr : r ≠ D := fun z => by
                  rw [z, eD] at hr2
                  cases hr2
                refine ⟨[], s2 _ _ eD, by decide, keep_sameL (H' := H) hDH (sm.trans s2), keepTL keep_upd ⟨_, s2 _ _ eD⟩ (same_tup s2 sT), by decide, .inr ⟨rfl, r, upd_same, ?_⟩⟩
                rw [upd_ne nr]
                exact e2
              · exact absurd h (by decide)
            · obtain ⟨sm, sT, _, hc⟩ := hp
              rcases hc with ⟨h, _⟩ | ⟨_, h1, eD, e1⟩
              · exact absurd h (show ¬ (1 = 0) by decide)
              · refine ⟨_, rfl, av, _, 0, _, rfl, rfl, same_tup sm sq, atI_nat (j := 0) rfl, _, rfl, _, rfl, _, D, ls.length, a, rfl, ha, hn, .inl ⟨u, h1, _, rfl, eD, e1, fun H2 r s2 hr2 e2 => q H2 r (sm.trans s2) (free_same sm hr2) e2⟩⟩
      | bi u t t' =>
        cases e0
        obtain ⟨v1, _, rfl, t1, tn⟩ := tp_cons th
        obtain ⟨v2, _, rfl, t2, tn⟩ := tp_cons tn
        cases tp_nil tn
        cases ok with
        | bi okt okt' =>
          cases hs with
          | bi hst hst' =>
            refine iteN (by cases u <;> rfl) ?_
            refine ⟨_, rfl, av, _, 0, _, rfl, rfl, sq, atI_nat (j := 0) rfl, aT, _, rfl, .inr (hT H), rfl, flat_strs _, _, rfl, iteN (no_atom (s := .bi u t t') rfl) ?_⟩
            refine ⟨_, rfl, 1, rfl, av, _, rfl, sq, cut1_ne, fun T hT0 => ?_⟩
            rw [cut1]
            have s1 := same_new (o := .tup [v1, v2]) hT0
            refine ⟨T, rfl, ⟨_, SqT.of upd_same⟩, fun D hD => ?_⟩
            have hDH := free_same s1 hD
            have nT : T ≠ D := ne_of_none upd_same hD
            refine lc_tup (K := K) (xs := [v1, v2]) (fun i H' => Same H H' ∧ SqT K H' T [v1, v2] ∧ i ≤ 2 ∧ ((i = 0 ∧ H' D = some (.lst [])) ∨ (i = 1 ∧ ∃ h1, H' D = some (.lst [.ref h1]) ∧ h1 ≠ D ∧ H' h1 = some (.lst (LB ls.length (tb ds ls ls.length a t)))) ∨
                (i = 2 ∧ ∃ h1 h2, H' D = some (.lst [.ref h1, .ref h2]) ∧ H' h1 = some (.lst (LB ls.length (tb ds ls ls.length a t))) ∧ H' h2 = some (.lst (LB ls.length (tb ds ls ls.length a t'))))))
              ⟨s1.trans (same_new hD), SqT.of (by rw [upd_ne nT]; exact upd_same), Nat.zero_le _, .inl ⟨rfl, upd_same⟩⟩ (fun i H' _ hp => hp.2.1) (fun i x H' hx hp => ?_) (fun H' hp => ?_)
            · obtain ⟨sm, sT, _, hc⟩ := hp
              rcases hc with ⟨rfl, eD⟩ | ⟨rfl, h1, eD, n1, e1⟩ | ⟨rfl, _⟩
              · cases hx
                refine ⟨rfl, ?_⟩
                refine ⟨_, rfl, _, rfl, _, rfl, _, rfl, v1, aA, L, a, t, us, ds, vl, ls, rfl, t1.mono sm, okt, sm _ _ hA, tu.mono sm, pd, hst, sm _ _ hL, tl.mono sm, ll, ha, hn, fun H2 r s2 hr2 e2 => ?_⟩
                have nr : r ≠ D := fun z => by
                  rw [z, eD] at hr2
                  cases hr2
                refine ⟨[], s2 _ _ eD, by decide, keep_sameL (H' := H) hDH (sm.trans s2), keepTL keep_upd ⟨_, s2 _ _ eD⟩ (same_tup s2 sT), by decide, .inr (.inl ⟨rfl, r, upd_same, nr, ?_⟩)⟩
                rw [upd_ne nr]
                exact e2
              · cases hx
                refine ⟨rfl, ?_⟩
                refine ⟨_, rfl, _, rfl, _, rfl, _, rfl, v2, aA, L, a, t', us, ds, vl, ls, rfl, t2.mono sm, okt', sm _ _ hA, tu.mono sm, pd, hst', sm _ _ hL, tl.mono sm, ll, ha, hn, fun H2 r s2 hr2 e2 => ?_⟩
                have nr : r ≠ D := fun z => by
                  rw [z, eD] at hr2
                  cases hr2
                refine ⟨[.ref h1], s2 _ _ eD, by show 1 < sizeLine; decide, keep_sameL (H' := H) hDH (sm.trans s2), keepTL keep_upd ⟨_, s2 _ _ eD⟩ (same_tup s2 sT), by decide, .inr (.inr ⟨rfl, h1, r, upd_same, ?_, ?_⟩)⟩
                · rw [upd_ne n1]
                  exact s2 _ _ e1
                · rw [upd_ne nr]
                  exact e2
              · cases hx
            · obtain ⟨sm, sT, _, hc⟩ := hp
              rcases hc with ⟨h, _⟩ | ⟨h, _⟩ | ⟨_, h1, h2, eD, e1, e2⟩
              · exact absurd h (show ¬ (2 = 0) by decide)
              · exact absurd h (show ¬ (2 = 1) by decide)
              · refine ⟨_, rfl, av, _, 0, _, rfl, rfl, same_tup sm sq, atI_nat (j := 0) rfl, _, rfl, _, rfl, _, D, ls.length, a, rfl, ha, hn, .inr ⟨u, h1, h2, _, _, rfl, eD, e1, e2, fun H3 r s3 hr3 e3 => q H3 r (sm.trans s3) (free_same sm hr3) e3⟩⟩
end
end W25

namespace W25
open PySem PySem.Spec PyProof.Rows L2 Gs Sf
/-! ### what is reckoned is what is meant -/
def vL (ds : List PyData) (ls : List (List Bool)) (x : Nat) (d : PyData) : Bool := (ls.getD x []).getD (idx ds d) false
theorem tb_sat {ds : List PyData} {ls : List (List Bool)} {n a : Nat} (ha : a < n) : ∀ (s : Sy) (x : Nat), x < n → (tb ds ls n a s x = true ↔ sat (nxt n a) (vL ds ls) s x)
  | .yes, x, _ => ⟨fun _ => trivial, fun _ => rfl⟩
  | .at w r, x, _ => Iff.rfl
  | .un .no s, x, hx => by
    have ih := tb_sat (ds := ds) (ls := ls) ha s x hx
    show (!tb ds ls n a s x) = true ↔ ¬ sat (nxt n a) (vL ds ls) s x
    rw [← ih]
    cases tb ds ls n a s x <;> simp
  | .un .ev s, x, hx => twice_iff ha (fun _ _ => ⟨fun _ => trivial, fun _ => rfl⟩) (fun y hy => tb_sat ha s y hy) hx
  | .un .al s, x, hx => by
    have h : ∀ y, y < n → ((!tb ds ls n a s y) = true ↔ ¬ sat (nxt n a) (vL ds ls) s y) := fun y hy => by
      have ih := tb_sat (ds := ds) (ls := ls) ha s y hy
      rw [← ih]
      cases tb ds ls n a s y <;> simp
    have z := twice_iff (SP := fun _ => True) (F := fun _ => true) ha (fun _ _ => ⟨fun _ => trivial, fun _ => rfl⟩) h hx
    show (!twice n a (fun _ => true) (fun y => !tb ds ls n a s y) x) = true ↔ ¬ Unt (nxt n a) (fun _ => True) (fun y => ¬ sat (nxt n a) (vL ds ls) s y) x
    rw [← z]
    cases twice n a (fun _ => true) (fun y => !tb ds ls n a s y) x <;> simp
  | .bi .an s t, x, hx => by
    show (tb ds ls n a s x && tb ds ls n a t x) = true ↔ _ ∧ _
    rw [Bool.and_eq_true, tb_sat ha s x hx, tb_sat ha t x hx]
  | .bi .or s t, x, hx => by
    show (tb ds ls n a s x || tb ds ls n a t x) = true ↔ _ ∨ _
    rw [Bool.or_eq_true, tb_sat ha s x hx, tb_sat ha t x hx]
  | .bi .un s t, x, hx => twice_iff ha (fun y hy => tb_sat ha s y hy) (fun y hy => tb_sat ha t y hy) hx
/-- as the law reckons it, going along -/
def sob (ds : List PyData) (ls : List (List Bool)) (n a : Nat) : Sy → Nat → Bool
  | .yes => fun _ => true
  | .at w r => fun x => vL ds ls x (dAt w r)
  | .un .no s => fun x => !sob ds ls n a s x
  | .un .ev s => fun x => along (nxt n a) (fun _ => true) (sob ds ls n a s) (n + (n - a)) x
  | .un .al s => fun x => !along (nxt n a) (fun _ => true) (fun y => !sob ds ls n a s y) (n + (n - a)) x
  | .bi .an s t => fun x => sob ds ls n a s x && sob ds ls n a t x
  | .bi .or s t => fun x => sob ds ls n a s x || sob ds ls n a t x
  | .bi .un s t => fun x => along (nxt n a) (sob ds ls n a s) (sob ds ls n a t) (n + (n - a)) x
theorem sob_sat {ds : List PyData} {ls : List (List Bool)} {n a : Nat} (ha : a < n) : ∀ (s : Sy) (x : Nat), x < n → (sob ds ls n a s x = true ↔ sat (nxt n a) (vL ds ls) s x)
  | .yes, x, _ => ⟨fun _ => trivial, fun _ => rfl⟩
  | .at w r, x, _ => Iff.rfl
  | .un .no s, x, hx => by
    have ih := sob_sat (ds := ds) (ls := ls) ha s x hx
    show (!sob ds ls n a s x) = true ↔ ¬ sat (nxt n a) (vL ds ls) s x
    rw [← ih]
    cases sob ds ls n a s x <;> simp
  | .un .ev s, x, hx => along_iff ha (fun _ _ => ⟨fun _ => trivial, fun _ => rfl⟩) (fun y hy => sob_sat ha s y hy) hx
  | .un .al s, x, hx => by
    have h : ∀ y, y < n → ((!sob ds ls n a s y) = true ↔ ¬ sat (nxt n a) (vL ds ls) s y) := fun y hy => by
      have ih := sob_sat (ds := ds) (ls := ls) ha s y hy
      rw [← ih]
      cases sob ds ls n a s y <;> simp
    have z := along_iff (SP := fun _ => True) (F := fun _ => true) ha (fun _ _ => ⟨fun _ => trivial, fun _ => rfl⟩) h hx
    show (!along (nxt n a) (fun _ => true) (fun y => !sob ds ls n a s y) (n + (n - a)) x) = true ↔ ¬ Unt (nxt n a) (fun _ => True) (fun y => ¬ sat (nxt n a) (vL ds ls) s y) x
    rw [← z]
    cases along (nxt n a) (fun _ => true) (fun y => !sob ds ls n a s y) (n + (n - a)) x <;> simp
  | .bi .an s t, x, hx => by
    show (sob ds ls n a s x && sob ds ls n a t x) = true ↔ _ ∧ _
    rw [Bool.and_eq_true, sob_sat ha s x hx, sob_sat ha t x hx]
  | .bi .or s t, x, hx => by
    show (sob ds ls n a s x || sob ds ls n a t x) = true ↔ _ ∨ _
    rw [Bool.or_eq_true, sob_sat ha s x hx, sob_sat ha t x hx]
  | .bi .un s t, x, hx => along_iff ha (fun y hy => sob_sat ha s y hy) (fun y hy => sob_sat ha t y hy) hx
theorem tb_sob {ds : List PyData} {ls : List (List Bool)} {n a : Nat} (ha : a < n) {s : Sy} {x : Nat} (hx : x < n) : tb ds ls n a s x = sob ds ls n a s x := by
  have h1 := tb_sat (ds := ds) (ls := ls) ha s x hx
  have h2 := sob_sat (ds := ds) (ls := ls) ha s x hx
  have h := h1.trans h2.symm
  cases e1 : tb ds ls n a s x <;> cases e2 : sob ds ls n a s x <;> rw [e1, e2] at h <;> simp at h <;> rfl
/-! ### data of any kind, tracked -/
mutual
inductive Dz (H : Hp) : V → PyData → Prop
  | non : Dz H .non .none
  | bl (b : Bool) : Dz H (.bl b) (.bool b)
  | int (i : Int) : Dz H (.int i) (.int i)
  | str (x : Str) : Dz H (.str x) (.str x)
  | lst {a : Addr} {xs : List V} {ds : List PyData} : H a = some (.lst xs) → DzAll H xs ds → Dz H (.ref a) (.list ds)
  | tup {a : Addr} {xs : List V} {ds : List PyData} : H a = some (.tup xs) → DzAll H xs ds → Dz H (.ref a) (.tuple ds)
  | dic {a : Addr} : H a = some (.dK []) → Dz H (.ref a) (.dict [])
inductive DzAll (H : Hp) : List V → List PyData → Prop
  | nil : DzAll H [] []
  | cons {v : V} {vs : List V} {d : PyData} {ds : List PyData} : Dz H v d → DzAll H vs ds → DzAll H (v :: vs) (d :: ds)
end
mutual
theorem Dz.mono {H H' : Hp} (s : Same H H') : ∀ {v : V} {d : PyData}, Dz H v d → Dz H' v d
  | _, _, .non => .non
  | _, _, .bl b => .bl b
  | _, _, .int i => .int i
  | _, _, .str x => .str x
  | _, _, .lst h r => .lst (s _ _ h) (DzAll.mono s r)
  | _, _, .tup h r => .tup (s _ _ h) (DzAll.mono s r)
  | _, _, .dic h => .dic (s _ _ h)
theorem DzAll.mono {H H' : Hp} (s : Same H H') : ∀ {vs : List V} {ds : List PyData}, DzAll H vs ds → DzAll H' vs ds
  | _, _, .nil => .nil
  | _, _, .cons h r => .cons (Dz.mono s h) (DzAll.mono s r)
end
theorem DzAll.len {H : Hp} : ∀ {vs : List V} {ds : List PyData}, DzAll H vs ds → vs.length = ds.length
  | _, _, .nil => rfl
  | _, _, .cons _ r => congrArg (· + 1) r.len
theorem DzAll.at {H : Hp} : ∀ {vs : List V} {ds : List PyData}, DzAll H vs ds → ∀ {i : Nat} {v : V}, vs[i]? = some v → ∃ d, ds[i]? = some d ∧ Dz H v d
  | _, _, .nil, i, v, e => by simp at e
  | _, _, .cons h r, 0, v, e => by
    cases e
    exact ⟨_, rfl, h⟩
  | _, _, .cons h r, i + 1, v, e => r.at (i := i) e
theorem DzAll.app {H : Hp} : ∀ {vs ws : List V} {ds es : List PyData}, DzAll H vs ds → DzAll H ws es → DzAll H (vs ++ ws) (ds ++ es)
  | _, _, _, _, .nil, h => h
  | _, _, _, _, .cons h r, h2 => .cons h (r.app h2)
def isTupD : PyData → Bool | .tuple _ => true | _ => false
def isLstD : PyData → Bool | .list _ => true | _ => false
theorem Dz.ty {K : PySem.W.Frag} {H : Hp} {v : V} {d : PyData} (h : Dz H v d) : ∃ t : Value, TyX K H v t ∧ PySem.W.kitOne K t (.type "tuple") = some (isTupD d) ∧ PySem.W.kitOne K t (.type "list") = some (isLstD d) := by
  cases h with
  | non => exact ⟨_, .base .non, kit_ty (by decide +kernel), kit_ty (by decide +kernel)⟩
  | bl b => exact ⟨_, .base (.bl b), kit_ty (show kitB "bool" "tuple" = some false by decide +kernel), kit_ty (show kitB "bool" "list" = some false by decide +kernel)⟩
  | int i => exact ⟨_, .base (.int i), kit_ty (show kitB "int" "tuple" = some false by decide +kernel), kit_ty (show kitB "int" "list" = some false by decide +kernel)⟩
  | str x => exact ⟨_, .base (.str _), kit_ty (show kitB "str" "tuple" = some false by decide +kernel), kit_ty (show kitB "str" "list" = some false by decide +kernel)⟩
  | tup h r => exact ⟨_, .base (.tup h), kit_ty (show kitB "tuple" "tuple" = some true by decide +kernel), kit_ty (show kitB "tuple" "list" = some false by decide +kernel)⟩
  | lst h r => exact ⟨_, .base (.lst h), kit_ty (show kitB "list" "tuple" = some false by decide +kernel), kit_ty (show kitB "list" "list" = some true by decide +kernel)⟩
  | dic h => exact ⟨_, .base (.dK h), kit_ty (show kitB "dict" "tuple" = some false by decide +kernel), kit_ty (show kitB "dict" "list" = some false by decide +kernel)⟩
/-! ### x is True, x an int or a truth -/
theorem op_isT {X : Cx} : OpR X (compareOp .Is) (fun x y H Q => ∃ b, y = .bl b ∧ ((∃ a, x = .bl a ∧ Q (.bl (decide (a = b))) H) ∨ (∃ i, x = .int i ∧ Q (.bl false) H))) := by
  intro pins s σ H x y v u Q I rx ry h
  obtain ⟨b, rfl, h⟩ := h
  rcases h with ⟨a, rfl, q⟩ | ⟨i, rfl, q⟩
  · exact op_is_bl pins s σ H (.bl a) (.bl b) v u Q I rx ry ⟨a, b, rfl, rfl, q⟩
  · obtain ⟨t, rfl⟩ := rx
    cases (show u = Value.bool b from ry)
    exact wpAny_is_other rfl (fun z => by cases z) ⟨.bl false, H, I, rfl, q⟩
/-! ### is_letter -/
def isB : PyData → Bool | .bool _ => true | _ => false
def isLet (many : Nat) : PyData → Bool
  | .tuple ds => decide (ds.length = many) && ds.all isB
  | _ => false
/-- of a tuple's items: truths or ints, and few -/
def Few (d : PyData) : Prop := ∀ ds, d = .tuple ds → ds.length ≤ 200 ∧ ∀ e ∈ ds, (∃ b, e = .bool b) ∨ ∃ i, e = .int i
theorem scIsLetter : FnScope ["thing", "many", "one"] ["thing", "many"] (defScope sIsLetter) := ⟨rfl, rfl, rfl, by decide +kernel, rfl, by decide +kernel, by decide +kernel⟩
def spIsLetter : Sp := fun vs H Q _ => ∃ (v : V) (d : PyData) (many : Nat), vs = [v, .int many] ∧ Dz H v d ∧ Few d ∧ ∀ H', Same H H' → Q (.bl (isLet many d)) H'
section
variable {P : Program} {w : World} {K : PySem.W.Frag} {mg : Str → Option Value} {base : Heap} {f f1 : Addr} {fd d1 : FuncData} {k : Nat}
theorem ok_isLetter (F : Fun K "is_letter" "is_letter" sIsLetter f fd) (mi : mg "isinstance" = none) (mt : mg "tuple" = none) (ml : mg "len" = none) (ma : mg "all" = none) : FnOk P w K mg base CX0 (k + 1) f fd ["thing", "many"] spIsLetter := by
  refine F.ok scIsLetter (fun vs H Q E h => ?_) (fun cdv A outer s0 H vs Q E hr h => ?_)
  · obtain ⟨v, d, many, rfl, _⟩ := h
    rfl
  · obtain ⟨v, d, many, rfl, hv, few, q⟩ := h
    refine ⟨_, pss_one (ps_ret (pe_and (pe_callB call_isi (by rfl) mi (by decide +kernel) (pa_cons (pv 0) (pa_cons (pe_bltn (v := .ty "tuple") (by rfl) mt (by decide +kernel) rfl) pa_nil)))
      (pe_and (pe_cmpR op_eq (pe_callB call_len_seq (by rfl) ml PySem.boot_len (pa_cons (pv 0) pa_nil)) (pv 1) (nomark _))
      (pe_one (pe_callB (cr_all rfl) (by rfl) ma (by decide +kernel) (pa_cons (pe_lc (own := [("one", 2)]) (g := gName 2) (tt := tYes) rfl scIsLetter.nd (pi_tup (pv 0)) (blkOk_by (own := [("one", 2)]) (N := ["thing", "many", "one"]) (sc := defScope sIsLetter) (by decide +kernel)) (fun _ _ _ _ _ => pg_name (i := 2) scIsLetter.nd rfl (Or.inl rfl)) (fun _ _ _ _ _ => pts_nil)
        (fun _ _ _ _ _ => pe_or (pe_cmpR op_isT (pv 2) pe_bl (nomark _)) (pe_one (pe_cmpR op_isT (pv 2) pe_bl (nomark _))))) pa_nil)))))), ?_⟩
    obtain ⟨t, ty, kt, _⟩ := hv.ty (K := K)
    refine ⟨_, rfl, _, _, t, _, _, rfl, .ty _, ty, kt, _, rfl, ?_⟩
    cases hv with
    | @tup a xs ds h r =>
      obtain ⟨fl, fe⟩ := few ds rfl
      have xl := r.len
      refine iteT ?_
      refine ⟨_, rfl, a, xs, rfl, .inr (SqT.of h), _, rfl, rfl, _, rfl, ?_⟩
      have ed : decide (V.int (xs.length : Int) = V.int (many : Int)) = decide (ds.length = many) := by
        by_cases e : ds.length = many
        · rw [decide_eq_true e, decide_eq_true (by rw [xl, e])]
        · rw [decide_eq_false e, decide_eq_false (fun z => e (by
            have z' := V.int.inj z
            omega))]
      rw [ed]
      by_cases e : ds.length = many
      · rw [decide_eq_true e]
        refine iteT ?_
        refine ⟨_, rfl, a, rfl, ⟨_, SqT.of h⟩, fun D hD => ?_⟩
        have nD : a ≠ D := ne_of_none h hD
        refine lc_tup (K := K) (xs := xs) (fun i H' => H' = upd H D (.lst ((ds.take i).map fun z => V.bl (isB z)))) rfl (fun i H' _ hp => ?_) (fun i x H' hx hp => ?_) (fun H' hp => ?_)
        · rw [hp]
          exact SqT.of (by rw [upd_ne nD]; exact h)
        · subst hp
          obtain ⟨z, ez, tz⟩ := r.at hx
          have il : i < ds.length := (List.getElem?_eq_some_iff.mp ez).1
          have fin : ∀ b : Bool, b = isB z → ∃ acc, upd H D (.lst ((ds.take i).map fun z => V.bl (isB z))) D = some (.lst acc) ∧ acc.length < sizeLine ∧ upd (upd H D (.lst ((ds.take i).map fun z => V.bl (isB z)))) D (.lst (acc ++ [V.bl b])) = upd H D (.lst ((ds.take (i + 1)).map fun z => V.bl (isB z))) := fun b eb => by
            refine ⟨_, upd_same, by rw [List.length_map, List.length_take]; exact small1000 (by omega), ?_⟩
            rw [List.take_add_one, ez, Option.toList_some, List.map_append, eb]
            funext c
            by_cases e : c = D
            · rw [e, upd_same, upd_same]
              rfl
            · rw [upd_ne e, upd_ne e, upd_ne e]
          refine ⟨rfl, ?_⟩
          rcases fe z (List.mem_of_getElem? ez) with ⟨b, rfl⟩ | ⟨i', rfl⟩
          · cases tz
            refine ⟨_, rfl, true, rfl, .inl ⟨b, rfl, _, rfl, ?_⟩⟩
            cases b with
            | true => exact iteT (fin true rfl)
            | false => exact iteF ⟨_, rfl, false, rfl, .inl ⟨false, rfl, fin true rfl⟩⟩
          · cases tz
            refine ⟨_, rfl, true, rfl, .inr ⟨_, rfl, _, rfl, iteF ?_⟩⟩
            exact ⟨_, rfl, false, rfl, .inr ⟨_, rfl, fin false rfl⟩⟩
        · subst hp
          rw [xl, List.take_length]
          have em : (ds.map fun z => V.bl (isB z)) = (ds.map isB).map V.bl := by rw [List.map_map]; rfl
          refine ⟨D, ds.map isB, rfl, SqL.of (by rw [upd_same, em]), ?_⟩
          have z := q _ (same_new (o := .lst ((ds.map fun z => V.bl (isB z)))) hD)
          have ez : isLet many (.tuple ds) = (ds.map isB).all id := by
            show (decide (ds.length = many) && ds.all isB) = _
            rw [decide_eq_true e, Bool.true_and, List.all_map]
            rfl
          rw [ez] at z
          exact z
      · rw [decide_eq_false e]
        refine iteF ?_
        have z := q H (Same.refl _)
        have ez : isLet many (.tuple ds) = false := by
          show (decide (ds.length = many) && ds.all isB) = false
          rw [decide_eq_false e, Bool.false_and]
        rw [ez] at z
        exact z
    | non => exact iteF (q H (Same.refl _))
    | bl b => exact iteF (q H (Same.refl _))
    | int i => exact iteF (q H (Same.refl _))
    | str x => exact iteF (q H (Same.refl _))
    | lst h r => exact iteF (q H (Same.refl _))
    | dic h => exact iteF (q H (Same.refl _))
end
end W25

namespace W25
open PySem PySem.Spec PyProof.Rows L2 Gs Sf
/-! ### is_round -/
def isRnd (many : Nat) : PyData → Bool
  | .tuple [.list s, .list l] => !decide (l.length = 0) && (s ++ l).all (isLet many)
  | _ => false
/-- of what stem and lap hold: few letters, each with few items -/
def FewR (d : PyData) : Prop := ∀ s l, d = .tuple [.list s, .list l] → s.length ≤ 50 ∧ l.length ≤ 50 ∧ (∀ e ∈ s ++ l, Few e)
theorem scIsRound : FnScope ["thing", "many", "stem", "lap", "letter"] ["thing", "many"] (defScope sIsRound) := ⟨rfl, rfl, rfl, by decide +kernel, rfl, by decide +kernel, by decide +kernel⟩
def spIsRound : Sp := fun vs H Q _ => ∃ (v : V) (d : PyData) (many : Nat), vs = [v, .int many] ∧ Dz H v d ∧ FewR d ∧ ∀ H', Same H H' → Q (.bl (isRnd many d)) H'
theorem rnd_len {many : Nat} {ds : List PyData} (h : ds.length ≠ 2) : isRnd many (.tuple ds) = false := by
  match ds, h with
  | [], _ => rfl
  | [x], _ => cases x <;> rfl
  | [x, y], h => exact absurd rfl h
  | x :: y :: z :: r, _ => cases x <;> cases y <;> rfl
section
variable {P : Program} {w : World} {K : PySem.W.Frag} {mg : Str → Option Value} {base : Heap} {f f1 : Addr} {fd d1 : FuncData}
theorem ok_isRound (F : Fun K "is_round" "is_round" sIsRound f fd) (IL : Cl P w K mg base CX0 1 "is_letter" ["thing", "many"] spIsLetter f1 d1) (mi : mg "isinstance" = none) (mt : mg "tuple" = none) (mli : mg "list" = none) (ml : mg "len" = none) (ma : mg "all" = none) :
    FnOk P w K mg base CX0 2 f fd ["thing", "many"] spIsRound := by
  refine F.ok scIsRound (fun vs H Q E h => ?_) (fun cdv A outer s0 H vs Q E hr h => ?_)
  · obtain ⟨v, d, many, rfl, _⟩ := h
    rfl
  · obtain ⟨v, d, many, rfl, hv, few, q⟩ := h
    refine ⟨_, pss_cons (ps_if (PW.pt (pw_or (pt_not (pt_val (pe_callB call_isi (by rfl) mi (by decide +kernel) (pa_cons (pv 0) (pa_cons (pe_bltn (v := .ty "tuple") (by rfl) mt (by decide +kernel) rfl) pa_nil)))))
        (pw_or1 (pt_cmpR op_ne (pe_callB call_len_seq (by rfl) ml PySem.boot_len (pa_cons (pv 0) pa_nil)) pe_int (nomark _))))) (pss_one (ps_ret pe_bl)) pss_nil)
      (pss_cons (ps_asg (pv 0) (pg_tup (by rfl) (pgs_cons (pg_name (i := 2) scIsRound.nd rfl (.inl rfl)) (pgs_cons (pg_name (i := 3) scIsRound.nd rfl (.inl rfl)) pgs_nil))))
      (pss_cons (ps_if (PW.pt (pw_or (pt_not (pt_val (pe_callB call_isi (by rfl) mi (by decide +kernel) (pa_cons (pv 2) (pa_cons (pe_bltn (v := .ty "list") (by rfl) mli (by decide +kernel) rfl) pa_nil)))))
        (pw_or (pt_not (pt_val (pe_callB call_isi (by rfl) mi (by decide +kernel) (pa_cons (pv 3) (pa_cons (pe_bltn (v := .ty "list") (by rfl) mli (by decide +kernel) rfl) pa_nil)))))
        (pw_or1 (pt_cmpR op_eq (pe_callB call_len_seq (by rfl) ml PySem.boot_len (pa_cons (pv 3) pa_nil)) pe_int (nomark _)))))) (pss_one (ps_ret pe_bl)) pss_nil)
      (pss_one (ps_ret (pe_callB (cr_all rfl) (by rfl) ma (by decide +kernel) (pa_cons (pe_lc (own := [("letter", 4)]) (g := gName 4) (tt := tYes) rfl scIsRound.nd (pi_list (pe_op op_cat (pv 2) (pv 3))) (blkOk_by (own := [("letter", 4)]) (N := ["thing", "many", "stem", "lap", "letter"]) (sc := defScope sIsRound) (by decide +kernel)) (fun _ _ _ _ _ => pg_name (i := 4) scIsRound.nd rfl (Or.inl rfl)) (fun _ _ _ _ _ => pts_nil)
        (fun _ _ _ _ _ => pe_call IL.ok hr (by rfl) IL.g IL.kp IL.bd .nil pass0 (pa_cons (pv 4) (pa_cons (pv 1) pa_nil)))) pa_nil)))))), ?_⟩
    obtain ⟨t, ty, kt, _⟩ := hv.ty (K := K)
    refine ⟨_, rfl, _, _, t, _, _, rfl, .ty _, ty, kt, _, rfl, ?_⟩
    cases hv with
    | non => exact iteT (iteT (q H (Same.refl _)))
    | bl b => exact iteT (iteT (q H (Same.refl _)))
    | int i => exact iteT (iteT (q H (Same.refl _)))
    | str x => exact iteT (iteT (q H (Same.refl _)))
    | lst h r => exact iteT (iteT (q H (Same.refl _)))
    | dic h => exact iteT (iteT (q H (Same.refl _)))
    | @tup a xs ds h r =>
      have xl := r.len
      refine iteF ?_
      refine ⟨_, rfl, a, xs, rfl, .inr (SqT.of h), rfl, _, rfl, ?_⟩
      by_cases l2 : ds.length = 2
      · refine iteN ?_ ?_
        · rw [decide_eq_true (show V.int (xs.length : Int) = V.int 2 by rw [xl, l2]; rfl)]
          rfl
        obtain ⟨e1, e2, rfl⟩ : ∃ e1 e2, ds = [e1, e2] := by
          match ds, l2 with
          | [e1, e2], _ => exact ⟨e1, e2, rfl⟩
        cases r with
        | @cons v1 vs1 _ _ h1 r =>
          cases r with
          | @cons v2 vs2 _ _ h2 r =>
            cases r
            refine ⟨_, rfl, a, _, rfl, SqT.of h, rfl, _, _, rfl, _, _, rfl, rfl, ?_⟩
            obtain ⟨t1, ty1, _, kl1⟩ := h1.ty (K := K)
            obtain ⟨t2, ty2, _, kl2⟩ := h2.ty (K := K)
            refine ⟨_, rfl, _, _, t1, _, _, rfl, .ty _, ty1, kl1, _, rfl, ?_⟩
            have no1 : isLstD e1 = false → isRnd many (.tuple [e1, e2]) = false := fun e => by cases e1 <;> first | rfl | cases e
            have no2 : isLstD e2 = false → isRnd many (.tuple [e1, e2]) = false := fun e => by cases e1 <;> cases e2 <;> first | rfl | cases e
            cases i1 : isLstD e1 with
            | false =>
              have z := q H (Same.refl _)
              rw [no1 i1] at z
              exact iteT (iteT z)
            | true =>
              refine iteF ?_
              refine ⟨_, rfl, _, _, t2, _, _, rfl, .ty _, ty2, kl2, _, rfl, ?_⟩
              cases i2 : isLstD e2 with
              | false =>
                have z := q H (Same.refl _)
                rw [no2 i2] at z
                exact iteT (iteT z)
              | true =>
                refine iteF ?_
                cases h1 with
                | @lst a1 xs1 ds1 ha1 r1 =>
                  cases h2 with
                  | @lst a2 xs2 ds2 ha2 r2 =>
                    obtain ⟨f1, f2, fe⟩ := few ds1 ds2 rfl
                    have l1 := r1.len
                    have l2 := r2.len
                    refine ⟨_, rfl, a2, xs2, rfl, .inl (SqL.of ha2), rfl, _, rfl, ?_⟩
                    by_cases z0 : ds2.length = 0
                    · refine iteP (decide_eq_true (by rw [l2, z0]; rfl)) ?_
                      have z := q H (Same.refl _)
                      have ez : isRnd many (.tuple [.list ds1, .list ds2]) = false := by
                        show (!decide (ds2.length = 0) && _) = false
                        rw [decide_eq_true z0]
                        rfl
                      rw [ez] at z
                      exact z
                    · refine iteN (decide_eq_false (fun z => z0 (by
                        have z' := V.int.inj z
                        omega))) ?_
                      refine ⟨_, rfl, _, rfl, a1, a2, xs1, xs2, rfl, rfl, ha1, ha2, Nat.le_of_lt (small1000 (by omega)), fun S hS => ?_⟩
                      have sS := same_new (o := .lst (xs1 ++ xs2)) hS
                      refine ⟨S, rfl, ⟨_, SqL.of upd_same⟩, fun D hD => ?_⟩
                      have rr := r1.app r2
                      refine lc_list (K := K) (xs := xs1 ++ xs2) (fun i H' => Same (upd H S (.lst (xs1 ++ xs2))) H' ∧ H' D = some (.lst (((ds1 ++ ds2).take i).map fun z => V.bl (isLet many z))))
                        ⟨same_new hD, upd_same⟩ (fun i H' _ hp => SqL.of (hp.1 _ _ upd_same)) (fun i x H' hx hp => ?_) (fun H' hp => ?_)
                      · obtain ⟨sm, eD⟩ := hp
                        obtain ⟨z, ez, tz⟩ := rr.at hx
                        have il : i < (ds1 ++ ds2).length := (List.getElem?_eq_some_iff.mp ez).1
                        rw [List.length_append] at il
                        refine ⟨rfl, ?_⟩
                        refine ⟨_, rfl, _, rfl, x, z, many, rfl, (tz.mono sS).mono sm, fe z (List.mem_of_getElem? ez), fun H'' s'' => ?_⟩
                        refine ⟨_, s'' _ _ eD, by rw [List.length_map, List.length_take]; exact small1000 (by omega), keep_sameL (H' := H) hD (sm.trans s''), ?_⟩
                        rw [upd_same, List.take_add_one, ez, Option.toList_some, List.map_append]
                        rfl
                      · obtain ⟨sm, eD⟩ := hp
                        rw [rr.len, List.take_length] at eD
                        have em : ((ds1 ++ ds2).map fun z => V.bl (isLet many z)) = ((ds1 ++ ds2).map (isLet many)).map V.bl := by rw [List.map_map]; rfl
                        refine ⟨D, (ds1 ++ ds2).map (isLet many), rfl, SqL.of (by rw [eD, em]), ?_⟩
                        have z := q H' (sS.trans sm)
                        have ez : isRnd many (.tuple [.list ds1, .list ds2]) = ((ds1 ++ ds2).map (isLet many)).all id := by
                          show (!decide (ds2.length = 0) && (ds1 ++ ds2).all (isLet many)) = _
                          rw [decide_eq_false z0, List.all_map]
                          rfl
                        rw [ez] at z
                        exact z
                  | _ => cases i2
                | _ => cases i1
      · refine iteP ?_ ?_
        · rw [decide_eq_false (fun z => l2 (by
            have z' := V.int.inj z
            omega))]
          rfl
        have z := q H (Same.refl _)
        rw [rnd_len l2] at z
        exact z
end
/-! ### holds -/
theorem scHolds : FnScope ["saying", "thing", "atoms", "stem", "lap"] ["saying", "thing"] (defScope sHolds) := ⟨rfl, rfl, rfl, by decide +kernel, rfl, by decide +kernel, by decide +kernel⟩
/-- the letters of a list -/
def LtD (l : List Bool) : PyData := .tuple (l.map PyData.bool)
def spHolds (K : PySem.W.Frag) (m : Nat) (C : Addr) : Sp := fun vs H Q E => ∃ (v t : V) (s : Sy) (d : PyData), vs = [v, t] ∧ Tp K H v (dSy s) ∧ SyOk m s ∧ Dz H t d ∧ FewR d ∧
  (isRnd (atomsOf s).length d = false → ∀ H', Same H H' → E (.ref C) none H') ∧
  (∀ st lp : List (List Bool), d = .tuple [.list (st.map LtD), .list (lp.map LtD)] → isRnd (atomsOf s).length d = true → ∀ H', Same H H' → Q (.bl (tb (atomsOf s) (st ++ lp) (st ++ lp).length st.length s 0)) H') ∧
  (isRnd (atomsOf s).length d = true → ∃ st lp : List (List Bool), d = .tuple [.list (st.map LtD), .list (lp.map LtD)])
theorem dz_lts {K : PySem.W.Frag} {H : Hp} : ∀ {ls : List (List Bool)} {vs : List V}, DzAll H vs (ls.map LtD) → TpAll K H vs (ls.map dLt)
  | [], _, .nil => .nil
  | l :: ls, _, .cons h r => by
    cases h with
    | tup h1 r1 =>
      have go : ∀ {bs : List Bool} {us : List V}, DzAll H us (bs.map PyData.bool) → TpAll K H us (bs.map PyData.bool) := fun {bs} => by
        induction bs with
        | nil =>
          intro us h
          cases h
          exact .nil
        | cons b bs ih =>
          intro us h
          cases h with
          | cons h2 r2 =>
            cases h2
            exact .cons (.bl b) (ih r2)
      exact .cons (.tup (SqT.of h1) (go r1)) (dz_lts r)
theorem let_len {n : Nat} : ∀ {ls : List (List Bool)}, (ls.map LtD).all (isLet n) = true → ∀ l ∈ ls, l.length = n
  | [], _, l, hl => absurd hl List.not_mem_nil
  | x :: ls, h, l, hl => by
    rw [List.map_cons, List.all_cons, Bool.and_eq_true] at h
    rcases List.mem_cons.mp hl with e | hl
    · subst e
      have z : (decide ((l.map PyData.bool).length = n) && (l.map PyData.bool).all isB) = true := h.1
      rw [Bool.and_eq_true, List.length_map] at z
      exact of_decide_eq_true z.1
    · exact let_len h.2 l hl
section
variable {P : Program} {w : World} {K : PySem.W.Frag} {mg : Str → Option Value} {base : Heap} {f f1 f2 f3 C : Addr} {fd d1 d2 d3 : FuncData} {m : Nat}
theorem ok_holds (F : Fun K "holds" "holds" sHolds f fd) (AO : Cl P w K mg base CX0 (m + 1) "atoms_of" ["saying"] (spAtoms K m) f1 d1) (IR : Cl P w K mg base CX0 2 "is_round" ["thing", "many"] spIsRound f2 d2)
    (TR : Cl P w K mg base CX0 (m + 4) "truths_of" ["saying", "atoms", "letters", "again"] (spTruths K m) f3 d3) (ml : mg "len" = none)
    (gC : mg "NoRound" = some (.ref C)) (xC : PySem.W.excIn K C [.type "ValueError", .type "Exception", .type "BaseException", .type "object"] "ValueError.__new__" = true)
    (kC : PySem.W.keepIn K (.ref C) = true) (bC : PySem.W.subIn K (.ref C) (.type "BaseException") = some true) (tC : PySem.W.typeIn K (.ref C) = some (.type "type")) :
    FnOk P w K mg base (L2.CX P w) (m + 5) f fd ["saying", "thing"] (spHolds K m C) := by
  refine F.okX scHolds (fun vs H Q E h => ?_) (fun cdv A outer s0 H vs Q E hr h => ?_)
  · obtain ⟨v, t, s, d, rfl, _⟩ := h
    rfl
  · obtain ⟨v, t, s, d, rfl, tv, ok, ht, few, qe, qq, form⟩ := h
    have r2 := hr.mono (j := 2) (by omega)
    have rA := hr.mono (j := m + 1) (by omega)
    refine ⟨_, pss_cons (ps_set (i := 2) scHolds.nd rfl (.inl rfl) (pe_call AO.ok rA (by rfl) AO.g AO.kp AO.bd .nil pass0 (pa_cons (pv 0) pa_nil)))
      (pss_cons (ps_if (pt_not (pt_val (pe_call IR.ok r2 (by rfl) IR.g IR.kp IR.bd .nil pass0 (pa_cons (pv 1) (pa_cons (pe_callB call_len_seq (by rfl) ml PySem.boot_len (pa_cons (pv 2) pa_nil)) pa_nil)))))
        (pss_one (ps_raise rfl (takes_of rfl rfl rfl rfl) (pmk_own PySem.F.excBase_ValueError xC gC kC (raises_own bC tC) rfl))) pss_nil)
      (pss_cons (ps_asg (pv 1) (pg_tup (by rfl) (pgs_cons (pg_name (i := 3) scHolds.nd rfl (.inl rfl)) (pgs_cons (pg_name (i := 4) scHolds.nd rfl (.inl rfl)) pgs_nil))))
      (pss_one (ps_ret (pe_ix ix_list (pe_call TR.ok hr (by rfl) TR.g TR.kp TR.bd .nil pass0 (pa_cons (pv 0) (pa_cons (pv 2) (pa_cons (pe_op op_cat (pv 3) (pv 4)) (pa_cons (pe_callB call_len_seq (by rfl) ml PySem.boot_len (pa_cons (pv 3) pa_nil)) pa_nil))))) pe_int (fun _ _ => rfl)))))), ?_⟩
    refine ⟨_, rfl, v, s, rfl, tv, ok, fun H1 ra us s1 hra era tu => ?_⟩
    have ul := tu.len
    refine ⟨_, rfl, _, rfl, ra, us, rfl, .inl (SqL.of era), t, d, (atomsOf s).length, (by rw [ul]; rfl), ht.mono s1, few, fun H2 s2 => ⟨_, rfl, ?_⟩⟩
    have s12 := s1.trans s2
    cases hrn : isRnd (atomsOf s).length d with
    | false => exact iteT (qe hrn H2 s12)
    | true =>
      refine iteF ?_
      obtain ⟨st, lp, rfl⟩ := form hrn
      have qv := qq st lp rfl hrn
      have ht2 := ht.mono s12
      cases ht2 with
      | @tup at_ xs _ hat r =>
        cases r with
        | @cons v1 vs1 _ _ h1 r =>
          cases r with
          | @cons v2 vs2 _ _ h2 r =>
            cases r
            cases h1 with
            | @lst a1 xs1 _ ha1 q1 =>
              cases h2 with
              | @lst a2 xs2 _ ha2 q2 =>
                obtain ⟨f1', f2', fe⟩ := few _ _ rfl
                have l1 := q1.len
                have l2 := q2.len
                rw [List.length_map] at l1 l2 f1' f2'
                have hr0 : (!decide ((lp.map LtD).length = 0) && (st.map LtD ++ lp.map LtD).all (isLet (atomsOf s).length)) = true := hrn
                rw [Bool.and_eq_true, List.length_map] at hr0
                have lp0 : 0 < lp.length := by
                  have : ¬ lp.length = 0 := by simpa using hr0.1
                  omega
                have lens : ∀ l ∈ st ++ lp, l.length = (atomsOf s).length := let_len (by rw [List.map_append]; exact hr0.2)
                refine ⟨_, rfl, at_, _, rfl, SqT.of hat, rfl, _, _, rfl, _, _, rfl, rfl, ?_⟩
                refine ⟨_, rfl, _, rfl, _, rfl, _, rfl, a1, a2, xs1, xs2, rfl, rfl, ha1, ha2, Nat.le_of_lt (small1000 (by omega)), fun L hL => ?_⟩
                have sL := same_new (o := .lst (xs1 ++ xs2)) hL
                refine ⟨_, rfl, a1, xs1, rfl, .inl (SqL.of (sL _ _ ha1)), ?_⟩
                have tls : TpAll K (upd H2 L (.lst (xs1 ++ xs2))) (xs1 ++ xs2) ((st ++ lp).map dLt) := by
                  rw [List.map_append]
                  exact (dz_lts (q1.mono sL)).app (dz_lts (q2.mono sL))
                refine ⟨v, ra, L, st.length, s, us, atomsOf s, xs1 ++ xs2, st ++ lp, (by rw [l1]; rfl), (tv.mono s12).mono sL, ok, sL _ _ (s2 _ _ era), (tu.mono s2).mono sL, atoms_pl ok, has_own ok, upd_same, tls, lens, by rw [List.length_append]; omega, by rw [List.length_append]; omega, fun H3 r s3 _ e3 => ?_⟩
                refine ⟨r, _, 0, _, rfl, rfl, SqL.of e3, atI_nat (j := 0) (LB_at (by rw [List.length_append]; omega)), ?_⟩
                exact qv H3 (s12.trans (sL.trans s3))
end
end W25

namespace Sf
open PySem PySem.Spec PyProof.Rows
/-! ### sayings on rounds that are written otherwise -/
/-- a map of moments that keeps the steps, on moments below n -/
theorem it_map {f f' g : Nat → Nat} {n : Nat} (cl : ∀ x, x < n → f' x < n) (st : ∀ x, x < n → g (f' x) = f (g x)) : ∀ (j : Nat) {x : Nat}, x < n → it f' j x < n ∧ g (it f' j x) = it f j (g x)
  | 0, x, hx => ⟨hx, rfl⟩
  | j + 1, x, hx => by
    have h := it_map cl st j (cl x hx)
    rw [st x hx] at h
    exact h
theorem unt_map {f f' g : Nat → Nat} {n : Nat} {S T S' T' : Nat → Prop} (cl : ∀ x, x < n → f' x < n) (st : ∀ x, x < n → g (f' x) = f (g x))
    (hS : ∀ x, x < n → (S' x ↔ S (g x))) (hT : ∀ x, x < n → (T' x ↔ T (g x))) {x : Nat} (hx : x < n) : Unt f' S' T' x ↔ Unt f S T (g x) := by
  constructor
  · rintro ⟨j, h1, h2⟩
    refine ⟨j, ?_, fun k hk => ?_⟩
    · rw [← (it_map cl st j hx).2]
      exact (hT _ (it_map cl st j hx).1).mp h1
    · rw [← (it_map cl st k hx).2]
      exact (hS _ (it_map cl st k hx).1).mp (h2 k hk)
  · rintro ⟨j, h1, h2⟩
    refine ⟨j, ?_, fun k hk => ?_⟩
    · rw [← (it_map cl st j hx).2] at h1
      exact (hT _ (it_map cl st j hx).1).mpr h1
    · have z := h2 k hk
      rw [← (it_map cl st k hx).2] at z
      exact (hS _ (it_map cl st k hx).1).mpr z
/-- a saying holds alike where moments are led to moments with the same truths -/
theorem sat_map {f f' g : Nat → Nat} {n : Nat} {v v' : Nat → PyData → Bool} {ds : List PyData} (cl : ∀ x, x < n → f' x < n) (st : ∀ x, x < n → g (f' x) = f (g x))
    (hv : ∀ x, x < n → ∀ d ∈ ds, v' x d = v (g x) d) : ∀ {s : Sy}, Has ds s → ∀ {x : Nat}, x < n → (sat f' v' s x ↔ sat f v s (g x))
  | .yes, _, x, _ => Iff.rfl
  | .at w r, .at hm, x, hx => by
    show v' x _ = true ↔ v (g x) _ = true
    rw [hv x hx _ hm]
  | .un .no s, .un h, x, hx => not_congr (sat_map cl st hv h hx)
  | .un .ev s, .un h, x, hx => unt_map (S := fun _ => True) (S' := fun _ => True) cl st (fun _ _ => Iff.rfl) (fun y hy => sat_map cl st hv h hy) hx
  | .un .al s, .un h, x, hx => not_congr (unt_map (S := fun _ => True) (S' := fun _ => True) (T := fun y => ¬ sat f v s y) (T' := fun y => ¬ sat f' v' s y) cl st (fun _ _ => Iff.rfl) (fun y hy => not_congr (sat_map cl st hv h hy)) hx)
  | .bi .an s t, .bi h1 h2, x, hx => and_congr (sat_map cl st hv h1 hx) (sat_map cl st hv h2 hx)
  | .bi .or s t, .bi h1 h2, x, hx => or_congr (sat_map cl st hv h1 hx) (sat_map cl st hv h2 hx)
  | .bi .un s t, .bi h1 h2, x, hx => unt_map cl st (fun y hy => sat_map cl st hv h1 hy) (fun y hy => sat_map cl st hv h2 hy) hx
/-! the lap twice; the lap begun later; a moment later -/
def twiceG (n l x : Nat) : Nat := if x < n then x else x - l
theorem twice_st {n a : Nat} (ha : a < n) : ∀ x, x < n + (n - a) → twiceG n (n - a) (nxt (n + (n - a)) a x) = nxt n a (twiceG n (n - a) x) := fun x hx => by
  unfold twiceG nxt
  split <;> split <;> (try split) <;> (try split) <;> omega
def turnG (n a x : Nat) : Nat := if x < n then x else a
theorem turn_st {n a : Nat} (ha : a < n) : ∀ x, x < n + 1 → turnG n a (nxt (n + 1) (a + 1) x) = nxt n a (turnG n a x) := fun x hx => by
  unfold turnG nxt
  split <;> split <;> (try split) <;> (try split) <;> omega
theorem later_st {n a : Nat} (ha : a + 1 < n) : ∀ x, x < n - 1 → nxt (n - 1) a x + 1 = nxt n (a + 1) (x + 1) := fun x hx => by
  unfold nxt
  split <;> split <;> omega
/-! the sayings that say the same -/
section
variable {f : Nat → Nat} {S T : Nat → Prop} {x : Nat}
theorem unt_self : Unt f S S x ↔ S x := by
  rw [unt_step]
  exact ⟨fun h => h.elim id (·.1), .inl⟩
theorem unt_unt : Unt f T (Unt f T S) x ↔ Unt f T S x := by
  constructor
  · rintro ⟨j, ⟨k, h1, h2⟩, h3⟩
    refine ⟨j + k, by rw [it_add]; exact h1, fun i hi => ?_⟩
    by_cases c : i < j
    · exact h3 i c
    · have e : i = j + (i - j) := by omega
      rw [e, it_add]
      exact h2 (i - j) (by omega)
  · intro h
    rw [unt_step]
    exact .inl h
theorem ever_ever : Unt f (fun _ => True) (Unt f (fun _ => True) S) x ↔ Unt f (fun _ => True) S x := unt_unt
theorem al_ev {v : Nat → PyData → Bool} {s : Sy} : sat f v (.un .al s) x ↔ sat f v (.un .no (.un .ev (.un .no s))) x := Iff.rfl
theorem ev_un {v : Nat → PyData → Bool} {s : Sy} : sat f v (.un .ev s) x ↔ sat f v (.bi .un .yes s) x := Iff.rfl
end
end Sf

namespace Sf
open PySem PySem.Spec PyProof.Rows L2
/-! ### dict(pairs) with truths: each key that stands there has a truth -/
theorem val_put {kvs : List (Key × V)} {k k' : Key} {v : V} : valV (putK kvs k v) k' = if k' = k then some v else valV kvs k' := valV_put kvs k k' v
theorem val_merge : ∀ {more acc : List (Key × V)} {k : Key}, (∀ kv ∈ more, ∃ b, kv.2 = V.bl b) → (k ∈ more.map (·.1) ∨ ∃ b, valV acc k = some (.bl b)) → ∃ b, valV (mergeK acc more) k = some (.bl b)
  | [], acc, k, _, h => h.elim (fun h => absurd h List.not_mem_nil) id
  | kv :: more, acc, k, hb, h => by
    show ∃ b, valV (mergeK (putK acc kv.1 kv.2) more) k = some (.bl b)
    refine val_merge (fun x hx => hb x (List.mem_cons_of_mem _ hx)) ?_
    obtain ⟨b, eb⟩ := hb kv List.mem_cons_self
    by_cases c : k = kv.1
    · exact .inr ⟨b, by rw [val_put, if_pos c, eb]⟩
    · rcases h with h | ⟨b', e⟩
      · rcases List.mem_cons.mp h with e | h
        · exact absurd e c
        · exact .inl h
      · exact .inr ⟨b', by rw [val_put, if_neg c]; exact e⟩
end Sf

namespace W25
open PySem PySem.Spec PyProof.Rows L2 Gs Sf
/-! ### rounds drawn: rows as dicts of shown atoms -/
abbrev NRd : List Str := ["_law_left_here", "_law_atoms", "_law_rows", "_law_turn", "_law_at", "_law_atom_here"]
theorem scRound : FnScope NRd ["_law_left_here", "_law_atoms"] (defScope sRound) := ⟨rfl, rfl, rfl, by decide +kernel, rfl, by decide +kernel, by decide +kernel⟩
abbrev Kvs := List (Key × V)
/-- rows: of each of the texts a truth -/
inductive Rws (H : Hp) (zs : List Str) : List V → List Kvs → Prop
  | nil : Rws H zs [] []
  | cons {a : Addr} {vs : List V} {kvs : Kvs} {ks : List Kvs} : H a = some (.dK kvs) → (∀ z ∈ zs, ∃ b, valV kvs (.inr z) = some (.bl b)) → Rws H zs vs ks → Rws H zs (.ref a :: vs) (kvs :: ks)
/-- dicts stay -/
def DKp (H H' : Hp) : Prop := ∀ b kvs, H b = some (.dK kvs) → H' b = some (.dK kvs)
theorem DKp.trans {H H1 H2 : Hp} (a : DKp H H1) (b : DKp H1 H2) : DKp H H2 := fun c xs h => b c xs (a c xs h)
theorem dk_same {H H' : Hp} (s : Same H H') : DKp H H' := fun b xs h => s b _ h
theorem dk_keep {H H' : Hp} {p : Addr} (k : Keep p H H') (hp : Lf H p) : DKp H H' := fun b xs h => by
  obtain ⟨n, hp⟩ := hp
  exact k b _ (fun e => by rw [e, hp] at h; cases h) h
theorem dk_lst {H : Hp} {D : Addr} {acc : List V} {o : HO} (h : H D = some (.lst acc)) : DKp H (upd H D o) := fun b xs e => by
  rw [upd_ne (fun z => by rw [z, h] at e; cases e)]
  exact e
section
variable {H H' : Hp} {zs : List Str}
theorem Rws.dk (k : DKp H H') : ∀ {vs : List V} {ks : List Kvs}, Rws H zs vs ks → Rws H' zs vs ks
  | _, _, .nil => .nil
  | _, _, .cons h t r => .cons (k _ _ h) t (r.dk k)
theorem Rws.len : ∀ {vs : List V} {ks : List Kvs}, Rws H zs vs ks → vs.length = ks.length
  | _, _, .nil => rfl
  | _, _, .cons _ _ r => congrArg (· + 1) r.len
theorem Rws.app : ∀ {vs ws : List V} {ks ls : List Kvs}, Rws H zs vs ks → Rws H zs ws ls → Rws H zs (vs ++ ws) (ks ++ ls)
  | _, _, _, _, .nil, h => h
  | _, _, _, _, .cons h t r, h2 => .cons h t (r.app h2)
theorem Rws.take : ∀ {vs : List V} {ks : List Kvs} (n : Nat), Rws H zs vs ks → Rws H zs (vs.take n) (ks.take n)
  | _, _, 0, _ => by rw [List.take_zero, List.take_zero]; exact .nil
  | _, _, _ + 1, .nil => .nil
  | _, _, n + 1, .cons h t r => .cons h t (r.take n)
theorem Rws.drop : ∀ {vs : List V} {ks : List Kvs} (n : Nat), Rws H zs vs ks → Rws H zs (vs.drop n) (ks.drop n)
  | _, _, 0, h => h
  | _, _, _ + 1, .nil => .nil
  | _, _, n + 1, .cons h t r => r.drop n
theorem Rws.at : ∀ {vs : List V} {ks : List Kvs}, Rws H zs vs ks → ∀ {i : Nat} {v : V}, vs[i]? = some v → ∃ a kvs, v = .ref a ∧ ks[i]? = some kvs ∧ H a = some (.dK kvs) ∧ ∀ z ∈ zs, ∃ b, valV kvs (.inr z) = some (.bl b)
  | _, _, .nil, i, v, e => by simp at e
  | _, _, .cons h t r, 0, v, e => by
    cases e
    exact ⟨_, _, rfl, rfl, h, t⟩
  | _, _, .cons h t r, i + 1, v, e => r.at (i := i) e
end
theorem pair_imp {α β : Type} {F G : α → β → Prop} (h : ∀ a b, F a b → G a b) : ∀ {xs : List α} {ys : List β}, Paired F xs ys → Paired G xs ys
  | _, _, .nil => .nil
  | _, _, .cons a r => .cons (h _ _ a) (pair_imp h r)
theorem pair_app {α β : Type} {F : α → β → Prop} : ∀ {xs xs' : List α} {ys ys' : List β}, Paired F xs ys → Paired F xs' ys' → Paired F (xs ++ xs') (ys ++ ys')
  | _, _, _, _, .nil, h => h
  | _, _, _, _, .cons a r, h => .cons a (pair_app r h)
theorem pair_len {α β : Type} {F : α → β → Prop} : ∀ {xs : List α} {ys : List β}, Paired F xs ys → xs.length = ys.length
  | _, _, .nil => rfl
  | _, _, .cons _ r => congrArg (· + 1) (pair_len r)
theorem call_reprDK {X : Cx} {K : PySem.W.Frag} (hK : X.K = K) (hg : X.A.guards = some []) (hu : X.A.units + 64 < cLine) : CallR X (.builtin "repr") (fun xs H Q => ∃ (a : Addr) (d : PyData),
    xs = [.ref a] ∧ Dp K H (.ref a) d ∧ d.showable = true ∧ d.hasDict = false ∧ d.depth ≤ 60 ∧ d.shown.length ≤ sizeLine ∧ Q (.str d.shown) H) := by
  subst hK
  exact call_reprD hg hu
/-- data that is a tuple, and may be shown -/
def AtS (d : PyData) : Prop := (∃ ds, d = .tuple ds) ∧ Shw 12200 d ∧ d.depth ≤ 60
def spRound (K : PySem.W.Frag) : Sp := fun vs H Q _ => ∃ (p A : Addr) (us : List V) (ds : List PyData), vs = [.ref p, .ref A] ∧ Lf H p ∧ A ≠ p ∧ H A = some (.lst us) ∧ TpAll K H us ds ∧ (∀ d ∈ ds, AtS d) ∧ ds.length ≤ 50 ∧
  ∀ H' r a1 a2 v1 v2 k1 k2, Keep p H H' → Lf H' p → H' r = some (.lst [.ref a1, .ref a2]) → H' a1 = some (.lst v1) → H' a2 = some (.lst v2) → a1 ≠ p → a2 ≠ p → Rws H' (ds.map PyData.shown) v1 k1 → Rws H' (ds.map PyData.shown) v2 k2 →
    k1.length ≤ 6 → k2.length ≤ 6 → 0 < k2.length → Q (.ref r) H'
section
variable {P : Program} {w : World} {K : PySem.W.Frag} {mg : Str → Option Value} {base : Heap} {f f1 : Addr} {fd d1 : FuncData}
theorem ok_round (F : Fun K "_law_round" "_law_round" sRound f fd) (D : Cl P w K mg base CX0 1 "_law_digit" ["_law_left_here", "_law_upto"] spDigit f1 d1)
    (mr : mg "range" = none) (md : mg "dict" = none) (ml : mg "len" = none) (mp : mg "repr" = none) : FnG P w K mg base CX0 2 f fd ["_law_left_here", "_law_atoms"] (spRound K) := by
  refine okG F scRound (fun vs H Q E h => ?_) (fun cdv A0 outer s H vs Q E gd hr h => ?_)
  · obtain ⟨p, A, us, ds, rfl, _⟩ := h
    rfl
  obtain ⟨p, A, us, ds, rfl, lf, nA, hA, tu, sh, dl, q⟩ := h
  refine ⟨_, pss_cons (ps_set (i := 2) scRound.nd rfl (.inl rfl) (pe_lst pa_nil))
    (pss_cons (ps_for PassesOwn.never rfl (pi_range1 (by rfl) mr (pa_cons (pe_op op_add (pe_op op_add (pe_call D.ok hr (by rfl) D.g D.kp D.bd .nil pass0 (pa_cons (pv 0) (pa_cons pe_int pa_nil))) pe_int) (pe_call D.ok hr (by rfl) D.g D.kp D.bd .nil pass0 (pa_cons (pv 0) (pa_cons pe_int pa_nil)))) pa_nil)) (pg_name (i := 3) scRound.nd rfl (Or.inl rfl))
      (pss_one (ps_expr (pe_bm PySem.F.plainAttrs_list PySem.F.slot_list_append PySem.F.type_list_append mt_append (pv 2) (pa_cons
        (pe_callTy (call_dictP rfl) (by rfl) md (by decide +kernel) (pa_cons
          (pe_lc (own := [("_law_atom_here", 5)]) (g := gName 5) (tt := tYes) rfl scRound.nd (pi_list (pv 1)) (blkOk_by (own := [("_law_atom_here", 5)]) (N := NRd) (sc := defScope sRound) (by decide +kernel))
            (fun _ _ _ _ _ => pg_name (i := 5) scRound.nd rfl (Or.inl rfl)) (fun _ _ _ _ _ => pts_nil)
            (fun _ _ _ _ _ => pe_tup (pa_cons (pe_callB (call_reprDK (K := K) rfl gd hr.units) (by rfl) mp (by decide +kernel) (pa_cons (pv 5) pa_nil)) (pa_cons (pe_cmpR op_eq (pe_call D.ok hr (by rfl) D.g D.kp D.bd .nil pass0 (pa_cons (pv 0) (pa_cons pe_int pa_nil))) pe_int (nomark _)) pa_nil)))) pa_nil)) pa_nil)))))
    (pss_cons (ps_set (i := 4) scRound.nd rfl (.inl rfl) (pe_call D.ok hr (by rfl) D.g D.kp D.bd .nil pass0 (pa_cons (pv 0) (pa_cons (pe_callB call_len_seq (by rfl) ml PySem.boot_len (pa_cons (pv 2) pa_nil)) pa_nil))))
    (pss_one (ps_ret (pe_lst (pa_cons (pe_slice sl_list (pv 2) po_none (po_some (pv 4))) (pa_cons (pe_slice sl_list (pv 2) (po_some (pv 4)) po_none) pa_nil))))))), ?_⟩
  refine ⟨by show 0 ≤ sizeLine; decide, fun L hL => ?_⟩
  have pL : p ≠ L := lf_ne lf hL
  obtain ⟨n0, hn0⟩ := lf
  have hn1 : upd H L (.lst []) p = some (.lst [.int n0]) := by rw [upd_ne pL]; exact hn0
  have b1 := Int.emod_nonneg n0 (show (3 : Int) ≠ 0 by decide)
  have b2 := Int.emod_lt_of_pos n0 (show (0 : Int) < 3 by decide)
  have b3 := Int.emod_nonneg (n0 / 3) (show (4 : Int) ≠ 0 by decide)
  have b4 := Int.emod_lt_of_pos (n0 / 3) (show (0 : Int) < 4 by decide)
  refine ⟨_, rfl, p, n0, 3, rfl, hn1, by decide, log_lit (n := 10) (by decide) (by decide) (by decide), _, _, rfl, rfl, _, rfl, p, _, 4, rfl, upd_same, by decide, log_lit (n := 10) (by decide) (by decide) (by decide), _, _, rfl, rfl, n0 % 3 + 1 + n0 / 3 % 4, rfl, by omega, by omega, ?_⟩
  obtain ⟨k, hk⟩ : ∃ k : Nat, n0 % 3 + 1 + n0 / 3 % 4 = (k : Int) := ⟨(n0 % 3 + 1 + n0 / 3 % 4).toNat, by omega⟩
  rw [hk, Int.toNat_natCast]
  have kb : 1 ≤ k ∧ k ≤ 6 := by omega
  have k0 : Keep p H (upd (upd (upd H L (.lst [])) p (.lst [.int (n0 / 3)])) p (.lst [.int (n0 / 3 / 4)])) := (keep_same (same_new hL)).trans (keep_upd.trans keep_upd)
  have l0 : Lf (upd (upd (upd H L (.lst [])) p (.lst [.int (n0 / 3)])) p (.lst [.int (n0 / 3 / 4)])) p := lf_draw
  have eL : upd (upd (upd H L (.lst [])) p (.lst [.int (n0 / 3)])) p (.lst [.int (n0 / 3 / 4)]) L = some (.lst []) := by
    rw [upd_ne (fun z => pL z.symm), upd_ne (fun z => pL z.symm)]
    exact upd_same
  generalize upd (upd (upd H L (.lst [])) p (.lst [.int (n0 / 3)])) p (.lst [.int (n0 / 3 / 4)]) = H0 at *
  have lf : Lf H p := ⟨n0, hn0⟩
  refine for_range (n := k) (fun i σ H' => ∃ us1 ks x3 x4 x5, σ = [some (.ref p), some (.ref A), some (.ref L), x3, x4, x5] ∧ Keep p H H' ∧ Lf H' p ∧ H' L = some (.lst us1) ∧ Rws H' (ds.map PyData.shown) us1 ks ∧ ks.length = i)
    ⟨[], [], _, _, _, rfl, k0, l0, eL, .nil, rfl⟩ (fun i σ H1 hi hp => ?_) (fun σ H1 hp => ?_)
  · obtain ⟨us1, ks, x3, x4, x5, rfl, kp, lf1, e1, rw1, kl⟩ := hp
    have ul := rw1.len
    have hA1 : H1 A = some (.lst us) := kp _ _ nA hA
    have tu1 : TpAll K H1 us ds := tu.keep kp lf
    refine ⟨_, rfl, .inl ⟨rfl, _, SqL.of e1⟩, ?_⟩
    refine ⟨_, rfl, A, rfl, ⟨_, SqL.of hA1⟩, fun D0 hD0 => ?_⟩
    have pD0 : p ≠ D0 := lf_ne lf1 hD0
    have LD : L ≠ D0 := ne_of_none e1 hD0
    refine lc_list (K := K) (xs := us) (fun i H' => ∃ (ps : List Addr) (kvs : Kvs), H' D0 = some (.lst (ps.map V.ref)) ∧ Paired (fun p kv => H' p = some (.tup [kV kv.1, kv.2])) ps kvs ∧ kvs.map (·.1) = (ds.take i).map (fun d => (Sum.inr d.shown : Key)) ∧ (∀ kv ∈ kvs, ∃ b, kv.2 = V.bl b) ∧ Keep p H1 H' ∧ Lf H' p)
      ⟨[], [], upd_same, .nil, rfl, fun _ h => absurd h List.not_mem_nil, keep_same (same_new hD0), lf_upd lf1 pD0⟩ (fun i' H' _ hp => ?_) (fun i' x H2 hx hp => ?_) (fun H2 hp => ?_)
    · obtain ⟨_, _, _, _, _, _, kq, _⟩ := hp
      exact SqL.of (kq _ _ nA hA1)
    · obtain ⟨ps, kvs, e2, pr, ek, al, kq, lf2⟩ := hp
      obtain ⟨d, ed, td⟩ := tu1.at hx
      have td2 := td.keep kq lf1
      obtain ⟨⟨es, rfl⟩, sw, dp⟩ := sh d (List.mem_of_getElem? ed)
      obtain ⟨a, xs, rfl, _, _⟩ := tp_tup td2
      have il : i' < ds.length := (List.getElem?_eq_some_iff.mp ed).1
      obtain ⟨n, hn⟩ := lf2
      have pl := pair_len pr
      have kl2 : kvs.length = i' := by
        have z := congrArg List.length ek
        rw [List.length_map, List.length_map, List.length_take] at z
        omega
      refine ⟨rfl, ?_⟩
      refine ⟨_, rfl, a, _, rfl, td2.dp, sw.s, sw.n, dp, Nat.le_trans sw.l (by show 12200 ≤ sizeLine; decide), _, rfl, p, n, 2, rfl, hn, by decide, log_lit (n := 10) (by decide) (by decide) (by decide), rfl, by show 2 ≤ sizeLine; decide, fun t ht => ?_⟩
      have e3 : upd H2 p (.lst [.int (n / 2)]) D0 = some (.lst (ps.map V.ref)) := by
        rw [upd_ne (fun z => pD0 z.symm)]
        exact e2
      have k3 : Keep p H1 (upd H2 p (.lst [.int (n / 2)])) := kq.trans keep_upd
      have t3 : TK H2 (upd H2 p (.lst [.int (n / 2)])) := tk_lst hn
      have lf3 : Lf (upd H2 p (.lst [.int (n / 2)])) p := lf_draw
      generalize upd H2 p (.lst [.int (n / 2)]) = H3 at *
      have s4 := same_new (o := .tup [.str (PyData.shown (.tuple es)), .bl (decide (V.int (n % 2) = V.int 1))]) ht
      have e4 := s4 _ _ e3
      refine ⟨_, e4, small1000 (by rw [List.length_map]; omega), ps ++ [t], kvs ++ [(.inr (PyData.shown (.tuple es)), .bl (decide (V.int (n % 2) = V.int 1)))], ?_, ?_, ?_, ?_, ?_, ?_⟩
      · rw [upd_same, List.map_append]
        rfl
      · refine pair_app (pair_imp (fun p kv h => tk_lst e4 _ _ (s4 _ _ (t3 _ _ h))) pr) (.cons (tk_lst e4 _ _ upd_same) .nil)
      · rw [List.map_append, ek, map_take ed]
        rfl
      · intro kv hkv
        rcases List.mem_append.mp hkv with h | h
        · exact al kv h
        · rw [List.mem_singleton.mp h]
          exact ⟨_, rfl⟩
      · intro b o nb eb
        rw [upd_ne (ne_of_none eb hD0)]
        exact s4 _ _ (k3 _ _ nb eb)
      · exact lf_upd (lf_upd lf3 (lf_ne lf3 ht)) pD0
    · obtain ⟨ps, kvs, e2, pr, ek, al, kq, lf2⟩ := hp
      rw [tu1.len, List.take_length] at ek
      have e1' : H2 L = some (.lst us1) := kq _ _ (fun z => pL z.symm) e1
      refine ⟨D0, ps, kvs, rfl, SqL.of e2, pair_imp (fun p kv h => SqT.of h) pr, fun b hb => ?_⟩
      have s3 := same_new (o := .dK (mergeK [] kvs)) hb
      have nb : b ≠ L := fun z => by
        rw [z, e1'] at hb
        cases hb
      have e3 := s3 _ _ e1'
      refine ⟨L, us1, _, rfl, rfl, e3, small1000 (by omega), us1 ++ [.ref b], ks ++ [mergeK [] kvs], _, _, _, rfl, ?_, ?_, upd_same, ?_, ?_⟩
      · intro c o nc ec
        rw [upd_ne (ne_of_none ec hL)]
        exact s3 _ _ (kq _ _ nc (kp _ _ nc ec))
      · exact lf_upd (lf_upd lf2 (lf_ne lf2 hb)) pL
      · refine Rws.dk (dk_lst e3) (Rws.app ((rw1.dk (dk_keep kq lf1)).dk (dk_same s3)) (.cons upd_same (fun z hz => ?_) .nil))
        refine val_merge al (.inl ?_)
        rw [ek]
        obtain ⟨d, hd, rfl⟩ := List.mem_map.mp hz
        exact List.mem_map.mpr ⟨d, hd, rfl⟩
      · rw [List.length_append, kl]
        rfl
  · obtain ⟨us1, ks, x3, x4, x5, rfl, kp, ⟨n, hn⟩, e1, rw1, kl⟩ := hp
    have ul := rw1.len
    have z0 := Int.emod_nonneg n (show (us1.length : Int) ≠ 0 by omega)
    have z1 := Int.emod_lt_of_pos n (show (0 : Int) < (us1.length : Int) by omega)
    refine ⟨_, rfl, _, rfl, L, us1, rfl, .inl (SqL.of e1), p, n, us1.length, rfl, hn, by omega, log_of (n := 10) (by decide) (by decide) (by omega), ?_⟩
    obtain ⟨j, hj⟩ : ∃ j : Nat, n % (us1.length : Int) = (j : Int) := ⟨(n % (us1.length : Int)).toNat, by omega⟩
    rw [hj]
    have e2 : upd H1 p (.lst [.int (n / us1.length)]) L = some (.lst us1) := by
      rw [upd_ne (fun z => pL z.symm)]
      exact e1
    have k2 : Keep p H (upd H1 p (.lst [.int (n / us1.length)])) := kp.trans keep_upd
    have r2 : Rws (upd H1 p (.lst [.int (n / us1.length)])) (ds.map PyData.shown) us1 ks := rw1.dk (dk_lst hn)
    have lf2 : Lf (upd H1 p (.lst [.int (n / us1.length)])) p := lf_draw
    generalize upd H1 p (.lst [.int (n / us1.length)]) = H2 at *
    refine ⟨_, rfl, _, rfl, _, rfl, L, us1, rfl, SqL.of e2, fun p1 hp1 => ?_⟩
    have s3 := same_new (o := .lst (cutV us1 none (some (j : Int)))) hp1
    refine ⟨_, rfl, _, rfl, _, rfl, L, us1, rfl, SqL.of (s3 _ _ e2), fun p2 hp2 => ?_⟩
    have s4 := same_new (o := .lst (cutV us1 (some (j : Int)) none)) hp2
    refine ⟨by show 2 ≤ sizeLine; decide, fun r hr0 => ?_⟩
    have s5 := same_new (o := .lst [.ref p1, .ref p2]) hr0
    have s345 := s3.trans (s4.trans s5)
    have lf3 := lf_upd (o := .lst (cutV us1 none (some (j : Int)))) lf2 (lf_ne lf2 hp1)
    have lf4 := lf_upd (o := .lst (cutV us1 (some (j : Int)) none)) lf3 (lf_ne lf3 hp2)
    refine q _ r p1 p2 (us1.take j) (us1.drop j) (ks.take j) (ks.drop j) (k2.trans (keep_same s345)) (lf_upd lf4 (lf_ne lf4 hr0)) upd_same ?_ ?_ (lf_ne lf2 hp1).symm (lf_ne lf3 hp2).symm ((r2.take j).dk (dk_same s345)) ((r2.drop j).dk (dk_same s345)) ?_ ?_ ?_
    · rw [← cut_to us1 j]
      exact s5 _ _ (s4 _ _ upd_same)
    · rw [← cut_from us1 j]
      exact s5 _ _ upd_same
    · rw [List.length_take]
      omega
    · rw [List.length_drop]
      omega
    · rw [List.length_drop]
      omega
end
end W25

namespace W25
open PySem PySem.Spec PyProof.Rows L2 Gs Sf
theorem passE {P : Program} {w : World} {X : Cx} : Passes (L2.CX P w) X E0 := fun _ _ _ _ _ _ _ h => by
  obtain ⟨_, _, _, _, _, _, _, _, _, _, _, _, hE⟩ := h
  exact hE.elim
theorem cut_mem {xs : List V} {lo hi : Option Int} {x : V} (h : x ∈ cutV xs lo hi) : x ∈ xs := List.mem_of_mem_drop (List.mem_of_mem_take h)
theorem same_of_keep {p : Addr} {H H' : Hp} (h : H p = none) (k : Keep p H H') : Same H H' := fun b o e => k b o (ne_of_none e h) e
theorem lt_inj : ∀ {ls ms : List (List Bool)}, ls.map LtD = ms.map LtD → ls = ms
  | [], [], _ => rfl
  | [], m :: ms, h => by cases h
  | l :: ls, [], h => by cases h
  | l :: ls, m :: ms, h => by
    rw [List.map_cons, List.map_cons] at h
    injection h with h1 h2
    have b : ∀ {x y : List Bool}, x.map PyData.bool = y.map PyData.bool → x = y := fun {x} => by
      induction x with
      | nil =>
        intro y h
        cases y with
        | nil => rfl
        | cons a y => cases h
      | cons a x ih =>
        intro y h
        cases y with
        | nil => cases h
        | cons c y =>
          rw [List.map_cons, List.map_cons] at h
          injection h with h3 h4
          injection h3 with h5
          rw [h5, ih h4]
    have h1' : PyData.tuple (l.map PyData.bool) = .tuple (m.map PyData.bool) := h1
    injection h1' with h3
    rw [b h3, lt_inj h2]
theorem let_all {n : Nat} : ∀ {ls : List (List Bool)}, (∀ l ∈ ls, l.length = n) → (ls.map LtD).all (isLet n) = true
  | [], _ => rfl
  | l :: ls, h => by
    rw [List.map_cons, List.all_cons, let_all (fun x hx => h x (List.mem_cons_of_mem _ hx)), Bool.and_true]
    show (decide ((l.map PyData.bool).length = n) && (l.map PyData.bool).all isB) = true
    rw [List.length_map, decide_eq_true (h l List.mem_cons_self), Bool.true_and, List.all_eq_true]
    intro x hx
    obtain ⟨b, _, rfl⟩ := List.mem_map.mp hx
    rfl
theorem rnd_ok {n : Nat} {S L : List (List Bool)} (h : ∀ l ∈ S ++ L, l.length = n) (hL : 0 < L.length) : isRnd n (.tuple [.list (S.map LtD), .list (L.map LtD)]) = true := by
  show (!decide ((L.map LtD).length = 0) && (S.map LtD ++ L.map LtD).all (isLet n)) = true
  rw [← List.map_append, let_all h, List.length_map, decide_eq_false (by omega)]
  rfl
theorem text_le : ∀ (ts : List Str) (k : Nat) (acc : Str), (textFrom k acc ts).length ≤ acc.length + piled ts
  | [], k, acc => by
    show acc.length ≤ _
    omega
  | t :: ts, k, acc => by
    rw [textFrom, piled_cons]
    refine Nat.le_trans (text_le ts _ _) ?_
    split
    · rw [strLen_append, strLen_append]
      have e2 : ((", " : String) : Str).length = 2 := rfl
      omega
    · rw [strLen_append, strLen_append]
      have e2 : (("" : String) : Str).length = 0 := rfl
      omega
theorem list_text (ts : List Str) : (listText ts).length ≤ piled ts + 2 := by
  rw [listText, strLen_append]
  have h := text_le ts 0 "["
  have e1 : (("[" : String) : Str).length = 1 := rfl
  have e2 : (("]" : String) : Str).length = 1 := rfl
  omega
theorem shw_bool (b : Bool) : Shw 5 (.bool b) := ⟨by simp [PyData.showable], by simp [PyData.hasDict], by cases b <;> decide +kernel⟩
theorem shw_lt {n : Nat} (hn : n ≤ 16) {l : List Bool} (h : l.length = n) : Shw 114 (LtD l) := by
  have z := shwN (L := 5) (ds := l.map PyData.bool) (fun d hd => by
    obtain ⟨b, _, rfl⟩ := List.mem_map.mp hd
    exact shw_bool b)
  refine Shw.mono z ?_
  rw [List.length_map, h]
  omega
theorem shw_ls {n : Nat} (hn : n ≤ 16) {ls : List (List Bool)} (h : ∀ l ∈ ls, l.length = n) (hl : ls.length ≤ 3) : Shw 350 (.list (ls.map LtD)) := by
  have z := shwL (L := 114) (ds := ls.map LtD) (fun d hd => by
    obtain ⟨b, hb, rfl⟩ := List.mem_map.mp hd
    exact shw_lt hn (h b hb)) (list_text _)
  refine Shw.mono z ?_
  rw [List.length_map]
  omega
theorem shw_two {n : Nat} (hn : n ≤ 16) {S L : List (List Bool)} (h : ∀ l ∈ S ++ L, l.length = n) (hS : S.length ≤ 3) (hL : L.length ≤ 3) : Shw 706 (.list [.list (S.map LtD), .list (L.map LtD)]) := by
  refine Shw.mono (shwL (L := 350) (ds := [.list (S.map LtD), .list (L.map LtD)]) (fun d hd => ?_) (list_text _)) (by show 2 * (350 + 2) + 2 ≤ 706; decide)
  simp only [List.mem_cons, List.not_mem_nil, or_false] at hd
  rcases hd with e | e <;> subst e
  · exact shw_ls hn (fun l hl => h l (List.mem_append.mpr (.inl hl))) hS
  · exact shw_ls hn (fun l hl => h l (List.mem_append.mpr (.inr hl))) hL
theorem dep_all {k : Nat} : ∀ {ds : List PyData}, (∀ d ∈ ds, d.depth ≤ k) → PyData.depthAll ds ≤ k
  | [], _ => Nat.zero_le _
  | d :: ds, h => by
    have h1 := h d List.mem_cons_self
    have h2 := dep_all (ds := ds) fun e he => h e (List.mem_cons_of_mem _ he)
    rw [PyData.depthAll]
    omega
theorem dep_ls (ls : List (List Bool)) : PyData.depth (.list (ls.map LtD)) ≤ 2 := by
  rw [PyData.depth]
  have h : PyData.depthAll (ls.map LtD) ≤ 1 := dep_all fun d hd => by
    obtain ⟨l, _, rfl⟩ := List.mem_map.mp hd
    rw [LtD, PyData.depth]
    have h0 : PyData.depthAll (l.map PyData.bool) ≤ 0 := dep_all fun d hd => by
      obtain ⟨b, _, rfl⟩ := List.mem_map.mp hd
      rw [PyData.depth]
      exact Nat.le_refl _
    omega
  omega
theorem dep_two (S L : List (List Bool)) : PyData.depth (.list [.list (S.map LtD), .list (L.map LtD)]) ≤ 60 := by
  rw [PyData.depth]
  have h : PyData.depthAll [.list (S.map LtD), .list (L.map LtD)] ≤ 2 := dep_all fun d hd => by
    simp only [List.mem_cons, List.not_mem_nil, or_false] at hd
    rcases hd with e | e <;> subst e <;> exact dep_ls _
  omega
end W25

namespace W25
open PySem PySem.Spec PyProof.Rows L2 Gs Sf
/-! ### held: a saying on rows -/
def rowT (kvs : Kvs) (z : Str) : Bool := match valV kvs (.inr z) with
  | some (.bl b) => b
  | _ => false
theorem rowT_of {kvs : Kvs} {z : Str} {b : Bool} (h : valV kvs (.inr z) = some (.bl b)) : rowT kvs z = b := by
  unfold rowT
  rw [h]
def ltOf (s : Sy) (kvs : Kvs) : List Bool := (atomsOf s).map fun d => rowT kvs d.shown
def hb (k1 k2 : List Kvs) (s : Sy) : Bool := tb (atomsOf s) (k1.map (ltOf s) ++ k2.map (ltOf s)) (k1.map (ltOf s) ++ k2.map (ltOf s)).length (k1.map (ltOf s)).length s 0
def vR (ks : List Kvs) (x : Nat) (d : PyData) : Bool := rowT (ks.getD x []) d.shown
theorem nxt_lt {n a x : Nat} (ha : a < n) : nxt n a x < n := by
  unfold nxt
  split <;> omega
theorem hb_sat {k1 k2 : List Kvs} {n : Nat} {s : Sy} (ok : SyOk n s) (h : 0 < k2.length) : hb k1 k2 s = true ↔ sat (nxt (k1.length + k2.length) k1.length) (vR (k1 ++ k2)) s 0 := by
  have e1 : (k1.map (ltOf s) ++ k2.map (ltOf s)).length = k1.length + k2.length := by rw [List.length_append, List.length_map, List.length_map]
  have e2 : (k1.map (ltOf s)).length = k1.length := List.length_map ..
  unfold hb
  rw [e1, e2]
  refine (tb_sat (by omega) s 0 (by omega)).trans ?_
  refine sat_map (g := fun x => x) (n := k1.length + k2.length) (ds := atomsOf s) (fun x hx => nxt_lt (by omega)) (fun _ _ => rfl) (fun x hx d hd => ?_) (has_own ok) (by omega)
  unfold vL vR
  have i1 := (idx_at (fun z hz => (atoms_pl ok z hz).1) hd).1
  have e3 : (k1.map (ltOf s) ++ k2.map (ltOf s)).getD x [] = ltOf s ((k1 ++ k2).getD x []) := by
    rw [← List.map_append, List.getD_eq_getElem?_getD, List.getD_eq_getElem?_getD, List.getElem?_map, List.getElem?_eq_getElem (by rw [List.length_append]; exact hx)]
    rfl
  rw [e3, ltOf, List.getD_eq_getElem?_getD, List.getElem?_map, i1]
  rfl
theorem has_sub {ds : List PyData} : ∀ {s : Sy}, Has ds s → ∀ d ∈ atomsOf s, d ∈ ds
  | _, .yes => fun d hd => absurd hd List.not_mem_nil
  | _, .at a => fun d hd => by rw [List.mem_singleton.mp hd]; exact a
  | _, .un a => merge_sub (fun d hd => absurd hd List.not_mem_nil) (has_sub a)
  | _, .bi a b => merge_sub (merge_sub (fun d hd => absurd hd List.not_mem_nil) (has_sub a)) (has_sub b)
/-- letters that are tuples -/
inductive Lts (H : Hp) : List V → List (List Bool) → Prop
  | nil : Lts H [] []
  | cons {a : Addr} {vs : List V} {l : List Bool} {ls : List (List Bool)} : H a = some (.tup (l.map V.bl)) → Lts H vs ls → Lts H (.ref a :: vs) (l :: ls)
theorem Lts.tk {H H' : Hp} (k : TK H H') : ∀ {vs : List V} {ls : List (List Bool)}, Lts H vs ls → Lts H' vs ls
  | _, _, .nil => .nil
  | _, _, .cons h r => .cons (k _ _ h) (r.tk k)
theorem Lts.len {H : Hp} : ∀ {vs : List V} {ls : List (List Bool)}, Lts H vs ls → vs.length = ls.length
  | _, _, .nil => rfl
  | _, _, .cons _ r => congrArg (· + 1) r.len
theorem Lts.app {H : Hp} : ∀ {vs ws : List V} {ls ms : List (List Bool)}, Lts H vs ls → Lts H ws ms → Lts H (vs ++ ws) (ls ++ ms)
  | _, _, _, _, .nil, h => h
  | _, _, _, _, .cons h r, h2 => .cons h (r.app h2)
theorem dz_bl {H : Hp} : ∀ bs : List Bool, DzAll H (bs.map V.bl) (bs.map PyData.bool)
  | [] => .nil
  | b :: bs => .cons (.bl b) (dz_bl bs)
theorem Lts.dz {H : Hp} : ∀ {vs : List V} {ls : List (List Bool)}, Lts H vs ls → DzAll H vs (ls.map LtD)
  | _, _, .nil => .nil
  | _, _, .cons (l := l) h r => .cons (.tup h (dz_bl l)) r.dz
/-- stem and lap, rows of the texts -/
def RC (ds : List PyData) (H : Hp) (a b : Addr) (k1 k2 : List Kvs) : Prop := (∀ d ∈ ds, AtS d) ∧ k1.length ≤ 20 ∧ k2.length ≤ 20 ∧ 0 < k2.length ∧
  ∃ v1 v2, H a = some (.lst v1) ∧ H b = some (.lst v2) ∧ Rws H (ds.map PyData.shown) v1 k1 ∧ Rws H (ds.map PyData.shown) v2 k2
theorem RC.mono {ds : List PyData} {H H' : Hp} {a b : Addr} {k1 k2 : List Kvs} (s : Same H H') (h : RC ds H a b k1 k2) : RC ds H' a b k1 k2 := by
  obtain ⟨h1, h2, h3, h4, v1, v2, h5, h6, h7, h8⟩ := h
  exact ⟨h1, h2, h3, h4, v1, v2, s _ _ h5, s _ _ h6, h7.dk (dk_same s), h8.dk (dk_same s)⟩
abbrev NHd : List Str := ["_law_saying_here", "_law_stem", "_law_lap", "_law_own", "_law_parts_here", "_law_rows", "_law_row", "_law_atom_here"]
theorem scHeld : FnScope NHd ["_law_saying_here", "_law_stem", "_law_lap"] (defScope sHeld) := ⟨rfl, rfl, rfl, by decide +kernel, rfl, by decide +kernel, by decide +kernel⟩
abbrev scRw : Scope := { kind := .function, names := [(".0", .local), ("_law_row", .cell), ("tuple", .globalImplicit), ("_law_own", .cell)], isGenerator := false, isCoroutine := false }
def spHeld (K : PySem.W.Frag) : Sp := fun vs H Q _ => ∃ (v : V) (a b : Addr) (k1 k2 : List Kvs) (s : Sy) (ds : List PyData), vs = [v, .ref a, .ref b] ∧ Tp K H v (dSy s) ∧ SyOk 6 s ∧ Has ds s ∧ RC ds H a b k1 k2 ∧ ∀ H', Same H H' → Q (.bl (hb k1 k2 s)) H'
theorem pi_listK {X : Cx} {K : PySem.W.Frag} {tg e : Expr} {t : TE} (hk : X.K = K) (h : PE X e t) : PI X tg e (iList K t) := by
  subst hk
  exact pi_list h
def PqA (PA : Addr) (s : Sy) (H : Hp) (v : V) (ks : List Kvs) : Prop := ∃ b us, v = .ref b ∧ b ≠ PA ∧ H b = some (.lst us) ∧ Lts H us (ks.map (ltOf s))
theorem PqA.same {PA : Addr} {s : Sy} {H H' : Hp} {v : V} {ks : List Kvs} (sm : Same H H') (h : PqA PA s H v ks) : PqA PA s H' v ks := by
  obtain ⟨b, us, e, n, h1, h2⟩ := h
  exact ⟨b, us, e, n, sm _ _ h1, h2.tk (tk_same sm)⟩
theorem PqA.upd {PA : Addr} {s : Sy} {H : Hp} {v : V} {ks : List Kvs} {acc acc' : List V} (e : H PA = some (.lst acc)) (h : PqA PA s H v ks) : PqA PA s (upd H PA (.lst acc')) v ks := by
  obtain ⟨b, us, e1, n, h1, h2⟩ := h
  exact ⟨b, us, e1, n, by rw [upd_ne n]; exact h1, h2.tk (tk_lst e)⟩
section
variable {P : Program} {w : World} {K : PySem.W.Frag} {mg : Str → Option Value} {base : Heap} {f f1 f2 C : Addr} {fd d1 d2 : FuncData}
theorem ok_held (F : Fun K "_law_held" "_law_held" sHeld f fd) (AO : Cl P w K mg base CX0 7 "atoms_of" ["saying"] (spAtoms K 6) f1 d1) (HO : Cl P w K mg base (L2.CX P w) 11 "holds" ["saying", "thing"] (spHolds K 6 C) f2 d2)
    (mt : mg "tuple" = none) (mp : mg "repr" = none) : FnG P w K mg base CX0 12 f fd ["_law_saying_here", "_law_stem", "_law_lap"] (spHeld K) := by
  refine okG F scHeld (fun vs H Q E h => ?_) (fun cdv A0 outer s0 H vs Q E gd hr h => ?_)
  · obtain ⟨v, a, b, k1, k2, s, ds, rfl, _⟩ := h
    rfl
  obtain ⟨v, a, b, k1, k2, s, ds, rfl, tv, ok, has, rc, q⟩ := h
  have r7 := hr.mono (j := 7) (by decide)
  refine ⟨_, pss_cons (ps_set (i := 3) scHeld.nd rfl (.inr rfl) (pe_call AO.ok r7 (by rfl) AO.g AO.kp AO.bd .nil pass0 (pa_cons (pv 0) pa_nil)))
    (pss_cons (ps_set (i := 4) scHeld.nd rfl (.inl rfl) (pe_lst pa_nil))
    (pss_cons (ps_for PassesOwn.never rfl (pi_tup (pe_tup (pa_cons (pv 1) (pa_cons (pv 2) pa_nil)))) (pg_name (i := 5) scHeld.nd rfl (Or.inl rfl))
      (pss_one (ps_expr (pe_bm PySem.F.plainAttrs_list PySem.F.slot_list_append PySem.F.type_list_append mt_append (pv 4) (pa_cons
        (pe_lc (own := [("_law_row", 6)]) (g := gName 6) (tt := tYes) rfl scHeld.nd (pi_list (pv 5)) (blkOk_by (own := [("_law_row", 6)]) (N := NHd) (sc := defScope sHeld) (by decide +kernel))
          (fun _ _ _ _ _ => pg_name (i := 6) scHeld.nd rfl (Or.inr rfl)) (fun _ _ _ _ _ => pts_nil)
          (fun _ _ _ _ _ => pe_callTy (call_tuple_ofK (K := K) rfl) (by rfl) mt (by decide +kernel) (pa_cons
            (pe_lc (own := [("_law_atom_here", 7)]) (g := gName 7) (tt := tYes) rfl scHeld.nd (pi_listK (K := K) rfl (pv 3)) (blkOk_by (own := [("_law_atom_here", 7)]) (N := NHd) (sc := scRw) (by decide +kernel))
              (fun _ _ _ _ _ => pg_name (i := 7) scHeld.nd rfl (Or.inl rfl)) (fun _ _ _ _ _ => pts_nil)
              (fun _ _ _ _ _ => pe_dget (u1 hr) (pv 6) (pe_callB (call_reprDK (K := K) rfl gd hr.units) (by rfl) mp (by decide +kernel) (pa_cons (pv 7) pa_nil)) (fun _ _ => rfl))) pa_nil))) pa_nil)))))
    (pss_one (ps_ret (pe_call HO.ok hr (by rfl) HO.g HO.kp HO.bd .nil passE (pa_cons (pv 0) (pa_cons (pe_tup (pa_cons (pe_ix ix_list (pv 4) pe_int (fun _ _ => rfl)) (pa_cons (pe_ix ix_list (pv 4) pe_int (fun _ _ => rfl)) pa_nil))) pa_nil))))))), ?_⟩
  refine ⟨_, rfl, v, s, rfl, tv, ok, fun H1 ra us s1 hra era tu => ?_⟩
  have rc1 := rc.mono s1
  have tv1 := tv.mono s1
  have ul := tu.len
  have al := atoms_len ok
  refine ⟨by show 0 ≤ sizeLine; decide, fun PA hPA => ?_⟩
  have sA := same_new (o := .lst []) hPA
  refine ⟨_, rfl, _, rfl, by show 2 ≤ sizeLine; decide, fun T hT => ?_⟩
  have sT := same_new (o := .tup [.ref a, .ref b]) hT
  have sAT := sA.trans sT
  have nT : T ≠ PA := fun e => by
    rw [e, upd_same] at hT
    cases hT
  refine ⟨T, rfl, ⟨_, SqT.of upd_same⟩, for_tup (K := K) (xs := [.ref a, .ref b]) (fun i σ H' => ∃ ps x5 x6 x7, σ = [some v, some (.ref a), some (.ref b), some (.ref ra), some (.ref PA), x5, x6, x7] ∧ Same H1 H' ∧ H' PA = some (.lst ps) ∧ Paired (PqA PA s H') ps ([k1, k2].take i) ∧ H' T = some (.tup [.ref a, .ref b]))
    ⟨[], _, _, _, rfl, sAT, by rw [upd_ne nT.symm]; exact upd_same, .nil, upd_same⟩ (fun i σ H' _ hp => ?_) (fun i x σ H2 hx hp => ?_) (fun σ H2 hp => ?_)⟩
  · obtain ⟨_, _, _, _, _, _, _, _, h⟩ := hp
    exact SqT.of h
  · obtain ⟨ps, x5, x6, x7, rfl, s2, e2, pq, eT⟩ := hp
    have rc2 := rc1.mono s2
    have era2 := s2 _ _ era
    have tu2 := tu.mono s2
    obtain ⟨sh, _, _, _, v1, v2, ha, hb', w1, w2⟩ := rc2
    obtain ⟨c, vs, ks, rfl, hc, wr, kb, ei⟩ : ∃ c vs ks, x = .ref c ∧ H2 c = some (.lst vs) ∧ Rws H2 (ds.map PyData.shown) vs ks ∧ ks.length ≤ 20 ∧ [k1, k2].take (i + 1) = [k1, k2].take i ++ [ks] := by
      obtain ⟨_, l1, l2, _⟩ := rc
      match i, hx with
      | 0, hx => cases hx; exact ⟨a, v1, k1, rfl, ha, w1, l1, rfl⟩
      | 1, hx => cases hx; exact ⟨b, v2, k2, rfl, hb', w2, l2, rfl⟩
      | i + 2, hx => cases hx
    have vl := wr.len
    have il : i < 2 := (List.getElem?_eq_some_iff.mp hx).1
    have pl := pair_len pq
    rw [List.length_take] at pl
    refine ⟨_, rfl, .inl ⟨rfl, _, SqL.of e2⟩, ?_⟩
    refine ⟨_, rfl, c, rfl, ⟨_, SqL.of hc⟩, fun D hD => ?_⟩
    have nDA : PA ≠ D := ne_of_none e2 hD
    refine lc_list (K := K) (xs := vs) (fun j H' => ∃ ws, H' D = some (.lst ws) ∧ Lts H' ws ((ks.take j).map (ltOf s)) ∧ Same H2 H') ⟨[], upd_same, .nil, same_new hD⟩ (fun j H' _ hp => ?_) (fun j y H3 hy hp => ?_) (fun H3 hp => ?_)
    · obtain ⟨_, _, _, sm⟩ := hp
      exact SqL.of (sm _ _ hc)
    · obtain ⟨ws, e3, lt3, s3⟩ := hp
      have wl := lt3.len
      rw [List.length_map, List.length_take] at wl
      obtain ⟨ad, kvs, rfl, ek, had, tru⟩ := wr.at hy
      have jl : j < ks.length := (List.getElem?_eq_some_iff.mp ek).1
      have had3 := s3 _ _ had
      refine ⟨rfl, ?_⟩
      refine ⟨_, rfl, ra, rfl, ⟨_, SqL.of (s3 _ _ era2)⟩, fun D2 hD2 => ?_⟩
      have nD : D ≠ D2 := ne_of_none e3 hD2
      refine lc_list (K := K) (xs := us) (fun l H' => H' D2 = some (.lst (((atomsOf s).take l).map fun d => V.bl (rowT kvs d.shown))) ∧ Same H3 H') ⟨by rw [List.take_zero]; exact upd_same, same_new hD2⟩ (fun l H' _ hp => ?_) (fun l z H4 hz hp => ?_) (fun H4 hp => ?_)
      · exact SqL.of (hp.2 _ _ (s3 _ _ era2))
      · obtain ⟨e4, s4⟩ := hp
        obtain ⟨d, ed, td⟩ := tu2.at hz
        have td4 := (td.mono s3).mono s4
        have hd : d ∈ atomsOf s := List.mem_of_getElem? ed
        obtain ⟨⟨es, rfl⟩, sw, dp⟩ := sh d (has_sub has d hd)
        obtain ⟨az, xs, rfl, _, _⟩ := tp_tup td4
        obtain ⟨t, et⟩ := tru _ (List.mem_map.mpr ⟨_, has_sub has _ hd, rfl⟩)
        have ll : l < (atomsOf s).length := (List.getElem?_eq_some_iff.mp ed).1
        refine ⟨rfl, ?_⟩
        refine ⟨_, rfl, _, rfl, az, _, rfl, td4.dp, sw.s, sw.n, dp, Nat.le_trans sw.l (by show 12200 ≤ sizeLine; decide), ad, .bl t, rfl, (show DGet H4 ad (kV (Sum.inr (PyData.shown (.tuple es)))) (some (.bl t)) from et ▸ DGet.k (s4 _ _ had3)), ?_⟩
        refine ⟨_, e4, small1000 (by rw [List.length_map, List.length_take]; omega), ?_, keep_sameL (H' := H3) hD2 s4⟩
        rw [upd_same, map_take ed, rowT_of et]
      · obtain ⟨e4, s4⟩ := hp
        rw [ul, List.take_length] at e4
        have e4' : H4 D2 = some (.lst ((ltOf s kvs).map V.bl)) := by rw [e4, ltOf, List.map_map]; rfl
        refine ⟨D2, _, rfl, .inl ⟨SqL.of e4', fun t ht => ?_⟩⟩
        have s5 := same_new (o := .tup ((ltOf s kvs).map V.bl)) ht
        have e5 := s5 _ _ (s4 _ _ e3)
        refine ⟨ws, e5, small1000 (by omega), ws ++ [.ref t], upd_same, ?_, keep_sameL (H' := H2) hD (s3.trans (s4.trans s5))⟩
        rw [map_take ek]
        exact ((lt3.tk (tk_same (s4.trans s5))).app (.cons upd_same .nil)).tk (tk_lst e5)
    · obtain ⟨ws, e3, lt3, s3⟩ := hp
      rw [vl, List.take_length] at lt3
      have e2' := s3 _ _ e2
      refine ⟨PA, ps, _, rfl, rfl, e2', small1000 (by omega), ps ++ [.ref D], _, _, _, rfl, ?_, upd_same, ?_, ?_⟩
      · exact keep_sameL (H' := H1) hPA (s2.trans s3)
      · rw [ei]
        refine pair_app (pair_imp (fun v ks h => (h.same s3).upd e2') pq) (.cons ?_ .nil)
        exact PqA.upd e2' ⟨D, ws, rfl, nDA.symm, e3, lt3⟩
      · rw [upd_ne nT]
        exact s3 _ _ eT
  · obtain ⟨ps, x5, x6, x7, rfl, s2, e2, pq, eT⟩ := hp
    have pq2 : Paired (PqA PA s H2) ps [k1, k2] := pq
    cases pq2 with
    | @cons p1 _ r1 _ h1 pq2 =>
      cases pq2 with
      | @cons p2 _ r2 _ h2 pq2 =>
        cases pq2
        obtain ⟨b1, u1', rfl, _, hb1, lt1⟩ := h1
        obtain ⟨b2, u2', rfl, _, hb2, lt2⟩ := h2
        refine ⟨_, rfl, _, rfl, PA, _, 0, _, rfl, rfl, SqL.of e2, atI_nat (j := 0) rfl, _, rfl, PA, _, 1, _, rfl, rfl, SqL.of e2, atI_nat (j := 1) rfl, by show 2 ≤ sizeLine; decide, fun R hR => ?_⟩
        have s3 := same_new (o := .tup [.ref b1, .ref b2]) hR
        obtain ⟨_, l1, l2, l0, _⟩ := rc
        have dz : Dz (upd H2 R (.tup [.ref b1, .ref b2])) (.ref R) (.tuple [.list ((k1.map (ltOf s)).map LtD), .list ((k2.map (ltOf s)).map LtD)]) := .tup upd_same (.cons (.lst (s3 _ _ hb1) (lt1.tk (tk_same s3)).dz) (.cons (.lst (s3 _ _ hb2) (lt2.tk (tk_same s3)).dz) .nil))
        have lens : ∀ l ∈ k1.map (ltOf s) ++ k2.map (ltOf s), l.length = (atomsOf s).length := fun l hl => by
          rw [← List.map_append] at hl
          obtain ⟨k, _, rfl⟩ := List.mem_map.mp hl
          rw [ltOf, List.length_map]
        have rok := rnd_ok (n := (atomsOf s).length) lens (by rw [List.length_map]; exact l0)
        refine ⟨v, .ref R, s, _, rfl, (tv1.mono s2).mono s3, ok, dz, fun s' l' e => ?_, fun h => ?_, fun st lp e _ H' sm => ?_, fun _ => ⟨_, _, rfl⟩⟩
        · cases e
          refine ⟨by rw [List.length_map, List.length_map]; omega, by rw [List.length_map, List.length_map]; omega, fun e he => ?_⟩
          rw [← List.map_append] at he
          obtain ⟨l, hl, rfl⟩ := List.mem_map.mp he
          intro ds' e'
          cases e'
          refine ⟨by rw [List.length_map, lens l hl]; omega, fun x hx => ?_⟩
          obtain ⟨t, _, rfl⟩ := List.mem_map.mp hx
          exact .inl ⟨t, rfl⟩
        · rw [rok] at h
          cases h
        · injection e with e
          injection e with e1 e
          injection e with e2 e
          injection e1 with e1
          injection e2 with e2
          have z := q H' (s1.trans (s2.trans (s3.trans sm)))
          unfold hb at z
          rw [lt_inj e1, lt_inj e2] at z
          exact z
end
end W25

namespace W25
open PySem PySem.Spec PyProof.Rows L2 Gs Sf
/-! ### what the law asks is so -/
theorem sat_rows {j1 j2 k1 k2 : List Kvs} {m : Nat} {s : Sy} (ok : SyOk m s) (hj : 0 < j2.length) (g : Nat → Nat)
    (st : ∀ x, x < j1.length + j2.length → g (nxt (j1.length + j2.length) j1.length x) = nxt (k1.length + k2.length) k1.length (g x))
    (gv : ∀ x, x < j1.length + j2.length → (j1 ++ j2).getD x [] = (k1 ++ k2).getD (g x) []) :
    sat (nxt (j1.length + j2.length) j1.length) (vR (j1 ++ j2)) s 0 ↔ sat (nxt (k1.length + k2.length) k1.length) (vR (k1 ++ k2)) s (g 0) :=
  sat_map (n := j1.length + j2.length) (ds := atomsOf s) (fun x hx => nxt_lt (by omega)) st (fun x hx d _ => by
    unfold vR
    rw [gv x hx]) (has_own ok) (by omega)
theorem b_iff {a b : Bool} (h : a = true ↔ b = true) : a = b := Bool.eq_iff_iff.mpr h
section
variable {k1 k2 : List Kvs} {m : Nat} {s t : Sy} (h0 : 0 < k2.length)
include h0
theorem hb_twice (ok : SyOk m s) : hb k1 (k2 ++ k2) s = hb k1 k2 s := by
  have h1 : 0 < (k2 ++ k2).length := by rw [List.length_append]; omega
  refine b_iff ((hb_sat ok h1).trans (Iff.trans ?_ (hb_sat ok h0).symm))
  have e : k1.length + (k2 ++ k2).length = k1.length + k2.length + (k1.length + k2.length - k1.length) := by rw [List.length_append]; omega
  have el : k1.length + k2.length - k1.length = k2.length := by omega
  have z := sat_rows (j1 := k1) (j2 := k2 ++ k2) (k1 := k1) (k2 := k2) ok h1 (twiceG (k1.length + k2.length) (k1.length + k2.length - k1.length)) (fun x hx => by
    rw [e] at hx ⊢
    exact twice_st (by omega) x hx) (fun x hx => by
    rw [el]
    unfold twiceG
    rw [List.length_append] at hx
    rw [← List.append_assoc]
    by_cases c : x < k1.length + k2.length
    · rw [if_pos c, List.getD_eq_getElem?_getD, List.getD_eq_getElem?_getD, List.getElem?_append_left (by rw [List.length_append]; exact c)]
    · rw [if_neg c, List.getD_eq_getElem?_getD, List.getD_eq_getElem?_getD, List.getElem?_append_right (by rw [List.length_append]; omega), List.getElem?_append_right (by omega), List.length_append]
      congr 2
      omega)
  have g0 : twiceG (k1.length + k2.length) (k1.length + k2.length - k1.length) 0 = 0 := if_pos (by omega)
  rw [g0] at z
  exact z
theorem hb_turn (ok : SyOk m s) : hb (k1 ++ k2.take 1) (k2.drop 1 ++ k2.take 1) s = hb k1 k2 s := by
  match k2, h0 with
  | c :: r, h0 =>
    show hb (k1 ++ [c]) (r ++ [c]) s = hb k1 (c :: r) s
    have h1 : 0 < (r ++ [c]).length := by rw [List.length_append]; exact Nat.succ_pos _
    refine b_iff ((hb_sat ok h1).trans (Iff.trans ?_ (hb_sat ok h0).symm))
    have e1 : (k1 ++ [c]).length = k1.length + 1 := by rw [List.length_append]; rfl
    have e2 : (k1 ++ [c]).length + (r ++ [c]).length = k1.length + (c :: r).length + 1 := by rw [List.length_append, List.length_append, List.length_cons]; simp; omega
    have z := sat_rows (j1 := k1 ++ [c]) (j2 := r ++ [c]) (k1 := k1) (k2 := c :: r) ok h1 (turnG (k1.length + (c :: r).length) k1.length) (fun x hx => by
      rw [e2] at hx ⊢
      rw [e1]
      exact turn_st (by rw [List.length_cons]; omega) x hx) (fun x hx => by
      rw [e2, List.length_cons] at hx
      rw [show k1 ++ [c] ++ (r ++ [c]) = (k1 ++ c :: r) ++ [c] by simp]
      unfold turnG
      rw [List.length_cons]
      by_cases d : x < k1.length + (r.length + 1)
      · rw [if_pos d, List.getD_eq_getElem?_getD, List.getD_eq_getElem?_getD, List.getElem?_append_left (by rw [List.length_append, List.length_cons]; exact d)]
      · have ex : x = (k1 ++ c :: r).length := by rw [List.length_append, List.length_cons]; omega
        rw [if_neg d, ex, List.getD_eq_getElem?_getD, List.getD_eq_getElem?_getD, List.getElem?_append_right (Nat.le_refl _), List.getElem?_append_right (Nat.le_refl _), Nat.sub_self, Nat.sub_self]
        rfl)
    have g0 : turnG (k1.length + (c :: r).length) k1.length 0 = 0 := if_pos (by rw [List.length_cons]; omega)
    rw [g0] at z
    exact z
theorem hb_not (ok : SyOk m s) : hb k1 k2 (.un .no s) = !hb k1 k2 s := by
  have h1 := hb_sat (k1 := k1) (SyOk.un (w := .no) ok) h0
  have h2 := hb_sat (k1 := k1) ok h0
  have h3 : hb k1 k2 (.un .no s) = true ↔ ¬ hb k1 k2 s = true := h1.trans (not_congr h2.symm)
  cases e1 : hb k1 k2 (.un .no s) <;> cases e2 : hb k1 k2 s <;> rw [e1, e2] at h3 <;> simp at h3 <;> rfl
theorem hb_and (o1 : SyOk m s) (o2 : SyOk m t) : hb k1 k2 (.bi .an s t) = (hb k1 k2 s && hb k1 k2 t) := by
  refine b_iff ((hb_sat (.bi o1 o2) h0).trans ?_)
  rw [Bool.and_eq_true]
  exact and_congr (hb_sat o1 h0).symm (hb_sat o2 h0).symm
theorem hb_or (o1 : SyOk m s) (o2 : SyOk m t) : hb k1 k2 (.bi .or s t) = (hb k1 k2 s || hb k1 k2 t) := by
  refine b_iff ((hb_sat (.bi o1 o2) h0).trans ?_)
  rw [Bool.or_eq_true]
  exact or_congr (hb_sat o1 h0).symm (hb_sat o2 h0).symm
theorem hb_ev (ok : SyOk (m + 1) s) : hb k1 k2 (.un .ev s) = hb k1 k2 (.bi .un .yes s) :=
  b_iff ((hb_sat (.un ok) h0).trans (Iff.trans ev_un (hb_sat (.bi .yes ok) h0).symm))
theorem hb_al (ok : SyOk m s) : hb k1 k2 (.un .al s) = hb k1 k2 (.un .no (.un .ev (.un .no s))) :=
  b_iff ((hb_sat (.un ok) h0).trans (Iff.trans al_ev (hb_sat (.un (.un (.un ok))) h0).symm))
theorem hb_self (ok : SyOk m s) : hb k1 k2 (.bi .un s s) = hb k1 k2 s :=
  b_iff ((hb_sat (.bi ok ok) h0).trans (Iff.trans unt_self (hb_sat ok h0).symm))
theorem hb_uu (o1 : SyOk m s) (o2 : SyOk m t) : hb k1 k2 (.bi .un t (.bi .un t s)) = hb k1 k2 (.bi .un t s) :=
  b_iff ((hb_sat (.bi (o2.mono (Nat.le_succ m)) (.bi o2 o1)) h0).trans (Iff.trans unt_unt (hb_sat (k1 := k1) (s := .bi .un t s) (.bi o2 o1) h0).symm))
theorem hb_ee (ok : SyOk m s) : hb k1 k2 (.un .ev (.un .ev s)) = hb k1 k2 (.un .ev s) :=
  b_iff ((hb_sat (.un (.un ok)) h0).trans (Iff.trans ever_ever (hb_sat (k1 := k1) (s := .un .ev s) (.un ok) h0).symm))
/-- what is left of a round behind its first moment -/
def laterK (k1 k2 : List Kvs) : List Kvs × List Kvs := if 0 < k1.length then (k1.drop 1, k2) else ([], k2.drop 1 ++ k2.take 1)
theorem hb_later (o1 : SyOk m s) (o2 : SyOk m t) : hb k1 k2 (.bi .un s t) = (hb k1 k2 t || (hb k1 k2 s && hb (laterK k1 k2).1 (laterK k1 k2).2 (.bi .un s t))) := by
  refine b_iff ((hb_sat (.bi o1 o2) h0).trans ?_)
  rw [Bool.or_eq_true, Bool.and_eq_true, hb_sat o1 h0, hb_sat o2 h0]
  refine Iff.trans unt_step (or_congr Iff.rfl (and_congr Iff.rfl ?_))
  match k1, k2, h0 with
  | d :: r, k2, h0 =>
    have e : laterK (d :: r) k2 = (r, k2) := if_pos (Nat.succ_pos _)
    rw [e, hb_sat (.bi o1 o2) h0]
    have z := sat_rows (j1 := r) (j2 := k2) (k1 := d :: r) (k2 := k2) (s := .bi .un s t) (.bi o1 o2) h0 (fun x => x + 1) (fun x hx => by
      have w := later_st (n := (d :: r).length + k2.length) (a := r.length) (by rw [List.length_cons]; omega) x (by rw [List.length_cons]; omega)
      rw [show (d :: r).length + k2.length - 1 = r.length + k2.length by rw [List.length_cons]; omega] at w
      exact w) (fun x hx => rfl)
    have g0 : nxt ((d :: r).length + k2.length) (d :: r).length 0 = 1 := if_pos (by rw [List.length_cons]; omega)
    rw [g0]
    exact z.symm
  | [], c :: r, h0 =>
    have e : laterK [] (c :: r) = ([], r ++ [c]) := if_neg (Nat.lt_irrefl 0)
    have h1 : 0 < (r ++ [c]).length := by rw [List.length_append]; exact Nat.succ_pos _
    rw [e, hb_sat (.bi o1 o2) h1]
    have el : ([] : List Kvs).length + (r ++ [c]).length = ([] : List Kvs).length + (c :: r).length := by rw [List.length_append, List.length_cons]; simp
    have z := sat_rows (j1 := []) (j2 := r ++ [c]) (k1 := []) (k2 := c :: r) (s := .bi .un s t) (.bi o1 o2) h1 (nxt (([] : List Kvs).length + (c :: r).length) ([] : List Kvs).length) (fun x hx => by rw [el]) (fun x hx => by
      rw [el, List.length_cons] at hx
      show (r ++ [c]).getD x [] = (c :: r).getD _ []
      unfold nxt
      by_cases q : x + 1 < ([] : List Kvs).length + (c :: r).length
      · rw [if_pos q]
        rw [List.length_cons] at q
        have q' : x < r.length := by simp at q; omega
        rw [List.getD_eq_getElem?_getD, List.getD_eq_getElem?_getD, List.getElem?_append_left q', List.getElem?_cons_succ]
      · rw [if_neg q]
        rw [List.length_cons] at q
        have ex : x = r.length := by simp at q hx; omega
        rw [List.getD_eq_getElem?_getD, ex, List.getElem?_append_right (Nat.le_refl _), Nat.sub_self]
        rfl)
    exact z.symm
end
end W25

namespace Gs
open PySem PySem.Spec PyProof.Rows L2
/-- xs != []: whatever the items are -/
theorem op_neNil {X : Cx} (hu : X.A.units < cLine) : OpR X (compareOp .NotEq) (fun x y H Q => ∃ a b xs, x = .ref a ∧ y = .ref b ∧ SqL X.K H a xs ∧ SqL X.K H b [] ∧ Q (.bl (decide (0 < xs.length))) H) := by
  intro pins s σ H x y v u Q I rx ry h
  obtain ⟨a, b, xs, rfl, rfl, ha, hb, q⟩ := h
  cases rx
  cases ry
  obtain ⟨its, r, ht, hz⟩ := I.list ha
  obtain ⟨its2, r2, ht2, hz2⟩ := I.list hb
  cases r2
  have hl := r.length
  by_cases c : 0 < xs.length
  · rw [decide_eq_true c] at q
    exact SeqAt.RcNeAt.lists_lengths ht.isList ht2.isList (by cases its with
      | nil => exact absurd c (by rw [hl]; exact Nat.lt_irrefl 0)
      | cons z zs => simp) hu X.prog X.w _ _ ⟨.bl true, H, I, rfl, q⟩
  · rw [decide_eq_false c] at q
    have e : its = [] := by
      cases its with
      | nil => rfl
      | cons z zs => exact absurd (show 0 < xs.length by rw [hl]; exact Nat.succ_pos _) c
    subst e
    exact SeqAt.RcNeAt.lists (e := fun _ => true) ht.isList ht2.isList rfl hu (fun j h1 => absurd h1 (Nat.not_lt_zero _)) X.prog X.w _ _ ⟨.bl false, H, I, rfl, q⟩
end Gs

namespace W25
open PySem PySem.Spec PyProof.Rows L2 Gs Sf
structure ClG (P : Program) (w : World) (K : PySem.W.Frag) (mg : Str → Option Value) (base : Heap) (CX : CXT) (k : Nat) (x : Str) (ps : List Str) (sp : Sp) (f : Addr) (fd : FuncData) : Prop where
  g : mg x = some (.ref f)
  ok : FnG P w K mg base CX k f fd ps sp
  kp : PySem.W.keepIn K (.ref f) = true
  bd : Binds K fd ps []
abbrev NRt : List Str := ["_law_one", "_law_other", "_law_stem", "_law_lap", "_law_truths", "_law_turned", "_law_saying_here", "_law_found", "_law_pairs", "_law_first", "_law_second", "_law_later", "_law_afterwards"]
theorem scRight : FnScope NRt ["_law_one", "_law_other", "_law_stem", "_law_lap"] (defScope sRight) := ⟨rfl, rfl, rfl, by decide +kernel, rfl, by decide +kernel, by decide +kernel⟩
theorem seq_asg {t : TE} {g : TG} {u : TS} {D : Ends} {σ : L2.St} {H : Hp} (h : t σ H fun v H1 => g v σ H1 (u D)) : tSeq (tAsg t g) u D σ H := h
theorem op_r {r : R2} {ta tb : TE} {σ : L2.St} {H H1 : Hp} {Q : VK} {x : V} (h : tb σ H1 fun y H2 => r x y H2 Q) (h0 : (tb σ H1 fun y H2 => r x y H2 Q) → ta σ H fun x H1 => tb σ H1 fun y H2 => r x y H2 Q) : tOp r ta tb σ H Q := h0 h
theorem lst_mk {K : PySem.W.Frag} {σ : L2.St} {H0 H : Hp} {ta : TA} {ds : List PyData} {Q : VK} (hl : ds.length ≤ 1000) (s : Same H0 H) (h : MkA K σ H0 ta ds) (q : ∀ H' vs p, Same H H' → TpAll K H' vs ds → H' p = none → Q (.ref p) (upd H' p (.lst vs))) : tLst ta σ H Q :=
  h H _ s fun H' vs s' tv => ⟨by rw [tv.len]; exact Nat.le_of_lt (small1000 hl), fun p hp => q H' vs p s' tv hp⟩
theorem tup_mk {K : PySem.W.Frag} {σ : L2.St} {H0 H : Hp} {t : TE} {d : PyData} {Q : VK} (s : Same H0 H) (h : Mk K σ H0 t d) (q : ∀ H' v, Same H H' → Tp K H' v d → Q v H') : t σ H Q := h H Q s q
def pd (x : Sy × Sy) : PyData := .tuple [dSy x.1, dSy x.2]
def spRight (K : PySem.W.Frag) : Sp := fun vs H Q _ => ∃ (v1 v2 : V) (a b : Addr) (k1 k2 : List Kvs) (s t : Sy) (ds : List PyData), vs = [v1, v2, .ref a, .ref b] ∧ Tp K H v1 (dSy s) ∧ Tp K H v2 (dSy t) ∧ SyOk 3 s ∧ SyOk 3 t ∧ Has ds s ∧ Has ds t ∧ RC ds H a b k1 k2 ∧ k1.length ≤ 6 ∧ k2.length ≤ 6 ∧ ∀ H', Same H H' → Q (.bl true) H'
section
variable {P : Program} {w : World} {K : PySem.W.Frag} {mg : Str → Option Value} {base : Heap} {f f1 : Addr} {fd d1 : FuncData}
theorem ok_right (F : Fun K "_law_right" "_law_right" sRight f fd) (HD : ClG P w K mg base CX0 12 "_law_held" ["_law_saying_here", "_law_stem", "_law_lap"] (spHeld K) f1 d1) :
    FnG P w K mg base CX0 13 f fd ["_law_one", "_law_other", "_law_stem", "_law_lap"] (spRight K) := by
  refine okG F scRight (fun vs H Q E h => ?_) (fun cdv A0 outer s0 H vs Q E gd hr h => ?_)
  · obtain ⟨v1, v2, a, b, k1, k2, s, t, ds, rfl, _⟩ := h
    rfl
  obtain ⟨v1, v2, a, b, k1, k2, s, t, ds, rfl, t1, t2, o1, o2, h1, h2, rc, l1, l2, q⟩ := h
  refine ⟨_, pss_cons (ps_setLc (i := 4) (own := [("_law_saying_here", 6)]) (g := gName 6) (tt := tYes) rfl scRight.nd rfl rfl (sw_true rfl rfl rfl rfl) (pi_tup (pe_tup (pa_cons (pv 0) (pa_cons (pv 1) pa_nil)))) (blkOk_by (own := [("_law_saying_here", 6)]) (N := NRt) (sc := defScope sRight) (by decide +kernel)) (fun _ _ _ _ _ => pg_name (i := 6) scRight.nd rfl (Or.inl rfl)) (fun _ _ _ _ _ => pts_nil)
      (fun _ _ _ _ _ => pe_callG HD.ok gd hr (by rfl) HD.g HD.kp HD.bd pass0 (pa_cons (pv 6) (pa_cons (pv 2) (pa_cons (pv 3) pa_nil)))))
    (pss_cons (ps_set (i := 5) scRight.nd rfl (.inl rfl) (pe_lst (pa_cons (pe_op op_cat (pv 2) (pe_slice sl_list (pv 3) po_none (po_some pe_int))) (pa_cons (pe_op op_cat (pe_slice sl_list (pv 3) (po_some pe_int) po_none) (pe_slice sl_list (pv 3) po_none (po_some pe_int))) pa_nil))))
    (pss_cons (ps_for PassesOwn.never rfl (pi_tup (pe_tup (pa_cons (pv 0) (pa_cons (pv 1) (pa_cons (pe_tup (pa_cons pe_str (pa_cons (pv 0) (pa_cons (pv 1) pa_nil)))) (pa_cons (pe_tup (pa_cons pe_str (pa_cons (pv 0) pa_nil))) pa_nil)))))) (pg_name (i := 6) scRight.nd rfl (Or.inl rfl))
      (pss_cons (ps_set (i := 7) scRight.nd rfl (.inl rfl) (pe_callG HD.ok gd hr (by rfl) HD.g HD.kp HD.bd pass0 (pa_cons (pv 6) (pa_cons (pv 2) (pa_cons (pv 3) pa_nil)))))
      (pss_cons (ps_if (PW.pt (pw_or (pt_cmpR op_notIn_seq (pv 7) (pe_tup (pa_cons pe_bl (pa_cons pe_bl pa_nil))) (by rfl)) (pw_or1 (pt_cmpR op_eq (pe_callG HD.ok gd hr (by rfl) HD.g HD.kp HD.bd pass0 (pa_cons (pe_tup (pa_cons pe_str (pa_cons (pv 6) pa_nil))) (pa_cons (pv 2) (pa_cons (pv 3) pa_nil)))) (pv 7) (nomark _))))) (pss_one (ps_ret pe_bl)) pss_nil)
      (pss_one (ps_if (PW.pt (pw_or (pt_cmpR op_ne (pe_callG HD.ok gd hr (by rfl) HD.g HD.kp HD.bd pass0 (pa_cons (pv 6) (pa_cons (pv 2) (pa_cons (pe_op op_cat (pv 3) (pv 3)) pa_nil)))) (pv 7) (nomark _)) (pw_or1 (pt_cmpR op_ne (pe_callG HD.ok gd hr (by rfl) HD.g HD.kp HD.bd pass0 (pa_cons (pv 6) (pa_cons (pe_ix ix_list (pv 5) pe_int (fun _ _ => rfl)) (pa_cons (pe_ix ix_list (pv 5) pe_int (fun _ _ => rfl)) pa_nil)))) (pv 7) (nomark _))))) (pss_one (ps_ret pe_bl)) pss_nil)))))
    (pss_join (ps_if (pt_cmpR op_ne (pe_callG HD.ok gd hr (by rfl) HD.g HD.kp HD.bd pass0 (pa_cons (pe_tup (pa_cons pe_str (pa_cons (pv 0) (pa_cons (pv 1) pa_nil)))) (pa_cons (pv 2) (pa_cons (pv 3) pa_nil)))) (pe_and (pe_ix ix_list (pv 4) pe_int (fun _ _ => rfl)) (pe_one (pe_ix ix_list (pv 4) pe_int (fun _ _ => rfl)))) (nomark _)) (pss_one (ps_ret pe_bl)) pss_nil)
    (pss_join (ps_if (pt_cmpR op_ne (pe_callG HD.ok gd hr (by rfl) HD.g HD.kp HD.bd pass0 (pa_cons (pe_tup (pa_cons pe_str (pa_cons (pv 0) (pa_cons (pv 1) pa_nil)))) (pa_cons (pv 2) (pa_cons (pv 3) pa_nil)))) (pe_or (pe_ix ix_list (pv 4) pe_int (fun _ _ => rfl)) (pe_one (pe_ix ix_list (pv 4) pe_int (fun _ _ => rfl)))) (nomark _)) (pss_one (ps_ret pe_bl)) pss_nil)
    (pss_cons (ps_set (i := 8) scRight.nd rfl (.inl rfl) (pe_lst (pa_cons (pe_tup (pa_cons (pe_tup (pa_cons pe_str (pa_cons (pv 0) pa_nil))) (pa_cons (pe_tup (pa_cons pe_str (pa_cons (pe_tup (pa_cons pe_str pa_nil)) (pa_cons (pv 0) pa_nil)))) pa_nil)))
        (pa_cons (pe_tup (pa_cons (pe_tup (pa_cons pe_str (pa_cons (pv 0) pa_nil))) (pa_cons (pe_tup (pa_cons pe_str (pa_cons (pe_tup (pa_cons pe_str (pa_cons (pe_tup (pa_cons pe_str (pa_cons (pv 0) pa_nil))) pa_nil))) pa_nil))) pa_nil))) pa_nil))))
    (pss_cons (ps_set (i := 8) scRight.nd rfl (.inl rfl) (pe_op op_cat (pv 8) (pe_lst (pa_cons (pe_tup (pa_cons (pe_tup (pa_cons pe_str (pa_cons (pv 0) (pa_cons (pv 0) pa_nil)))) (pa_cons (pv 0) pa_nil)))
        (pa_cons (pe_tup (pa_cons (pe_tup (pa_cons pe_str (pa_cons (pv 1) (pa_cons (pe_tup (pa_cons pe_str (pa_cons (pv 1) (pa_cons (pv 0) pa_nil)))) pa_nil)))) (pa_cons (pe_tup (pa_cons pe_str (pa_cons (pv 1) (pa_cons (pv 0) pa_nil)))) pa_nil))) pa_nil)))))
    (pss_cons (ps_expr (pe_bm PySem.F.plainAttrs_list PySem.F.slot_list_append PySem.F.type_list_append mt_append (pv 8) (pa_cons (pe_tup (pa_cons (pe_tup (pa_cons pe_str (pa_cons (pe_tup (pa_cons pe_str (pa_cons (pv 0) pa_nil))) pa_nil))) (pa_cons (pe_tup (pa_cons pe_str (pa_cons (pv 0) pa_nil))) pa_nil))) pa_nil)))
    (pss_cons (ps_for PassesOwn.never rfl (pi_list (pv 8)) (pg_tup (by rfl) (pgs_cons (pg_name (i := 9) scRight.nd rfl (.inl rfl)) (pgs_cons (pg_name (i := 10) scRight.nd rfl (.inl rfl)) pgs_nil)))
      (pss_one (ps_if (pt_cmpR op_ne (pe_callG HD.ok gd hr (by rfl) HD.g HD.kp HD.bd pass0 (pa_cons (pv 9) (pa_cons (pv 2) (pa_cons (pv 3) pa_nil)))) (pe_callG HD.ok gd hr (by rfl) HD.g HD.kp HD.bd pass0 (pa_cons (pv 10) (pa_cons (pv 2) (pa_cons (pv 3) pa_nil)))) (nomark _)) (pss_one (ps_ret pe_bl)) pss_nil)))
    (pss_join (ps_set (i := 11) scRight.nd rfl (.inl rfl) (pe_ifExp (pt_cmpR (op_neNil hr.units0) (pv 2) (pe_lst pa_nil) (nomark _)) (pe_lst (pa_cons (pe_slice sl_list (pv 2) (po_some pe_int) po_none) (pa_cons (pv 3) pa_nil)))
        (pe_lst (pa_cons (pe_lst pa_nil) (pa_cons (pe_op op_cat (pe_slice sl_list (pv 3) (po_some pe_int) po_none) (pe_slice sl_list (pv 3) po_none (po_some pe_int))) pa_nil)))))
    (pss_cons (ps_set (i := 12) scRight.nd rfl (.inl rfl) (pe_callG HD.ok gd hr (by rfl) HD.g HD.kp HD.bd pass0 (pa_cons (pe_tup (pa_cons pe_str (pa_cons (pv 0) (pa_cons (pv 1) pa_nil)))) (pa_cons (pe_ix ix_list (pv 11) pe_int (fun _ _ => rfl)) (pa_cons (pe_ix ix_list (pv 11) pe_int (fun _ _ => rfl)) pa_nil)))))
    (pss_one (ps_ret (pe_cmpR op_eq (pe_callG HD.ok gd hr (by rfl) HD.g HD.kp HD.bd pass0 (pa_cons (pe_tup (pa_cons pe_str (pa_cons (pv 0) (pa_cons (pv 1) pa_nil)))) (pa_cons (pv 2) (pa_cons (pv 3) pa_nil)))) (pe_or (pe_ix ix_list (pv 4) pe_int (fun _ _ => rfl)) (pe_one (pe_and (pe_ix ix_list (pv 4) pe_int (fun _ _ => rfl)) (pe_one (pv 12))))) (nomark _)))))))))))))), ?_⟩
  obtain ⟨sh, _, _, l0, w1, w2, ea, eb, r1, r2⟩ := id rc
  have n1 := r1.len
  have n2 := r2.len
  -- truths
  refine ⟨_, rfl, _, rfl, by show 2 ≤ sizeLine; decide, fun T hT => ⟨T, rfl, ⟨_, SqT.of upd_same⟩, fun D hD => ?_⟩⟩
  have sT := same_new (o := .tup [v1, v2]) hT
  have tt : TpAll K (upd H T (.tup [v1, v2])) [v1, v2] ([s, t].map dSy) := .cons (t1.mono sT) (.cons (t2.mono sT) .nil)
  have eT : upd H T (.tup [v1, v2]) T = some (.tup [v1, v2]) := upd_same
  generalize upd H T (.tup [v1, v2]) = H0 at *
  have two : ∀ u ∈ [s, t], SyOk 3 u ∧ Has ds u := fun u hu => by
    rcases List.mem_cons.mp hu with rfl | hu
    · exact ⟨o1, h1⟩
    · rw [List.mem_singleton.mp hu]
      exact ⟨o2, h2⟩
  refine lc_tup (K := K) (xs := [v1, v2]) (fun i H' => Same H0 H' ∧ H' D = some (.lst (([s, t].take i).map fun u => V.bl (hb k1 k2 u))))
    ⟨same_new hD, upd_same⟩ (fun i H' _ hp => SqT.of (hp.1 _ _ eT)) (fun i x H1 hx hp => ?_) (fun H1 hp => ?_)
  · obtain ⟨sm, e1⟩ := hp
    obtain ⟨u, eu, hu, tx⟩ := tpAll_map tt hx
    have il : i < 2 := (List.getElem?_eq_some_iff.mp hx).1
    refine ⟨rfl, ?_⟩
    refine ⟨_, rfl, _, rfl, _, rfl, x, a, b, k1, k2, u, ds, rfl, tx.mono sm, (two u hu).1.mono (by decide), (two u hu).2, rc.mono (sT.trans sm), fun H2 s2 => ?_⟩
    refine ⟨_, s2 _ _ e1, small1000 (by rw [List.length_map, List.length_take]; omega), keep_sameL (H' := H0) hD (sm.trans s2), ?_⟩
    rw [upd_same, map_take eu]
  obtain ⟨sm, eD⟩ := hp
  have eD : H1 D = some (.lst [.bl (hb k1 k2 s), .bl (hb k1 k2 t)]) := eD
  have s1 : Same H H1 := sT.trans sm
  have rc1 := rc.mono s1
  have t11 := t1.mono s1
  have t21 := t2.mono s1
  have ea1 := s1 _ _ ea
  have eb1 := s1 _ _ eb
  clear sm sT tt eT hT hD
  have c1 : cutV w2 none (some 1) = w2.take 1 := cut_to w2 1
  have c2 : cutV w2 (some 1) none = w2.drop 1 := cut_from w2 1
  have c3 : cutV w1 (some 1) none = w1.drop 1 := cut_from w1 1
  -- turned
  refine ⟨_, rfl, _, rfl, 1, rfl, b, w2, rfl, SqL.of eb1, fun p1 hp1 => ?_⟩
  rw [c1]
  have s2 := same_new (o := .lst (w2.take 1)) hp1
  refine ⟨a, p1, w1, w2.take 1, rfl, rfl, s2 _ _ ea1, upd_same, Nat.le_of_lt (small1000 (by rw [List.length_take]; omega)), fun q1 hq1 => ?_⟩
  have s3 := same_new (o := .lst (w1 ++ w2.take 1)) hq1
  refine ⟨_, rfl, 1, rfl, b, w2, rfl, SqL.of (s3 _ _ (s2 _ _ eb1)), fun p2 hp2 => ?_⟩
  rw [c2]
  have s4 := same_new (o := .lst (w2.drop 1)) hp2
  refine ⟨_, rfl, 1, rfl, b, w2, rfl, SqL.of (s4 _ _ (s3 _ _ (s2 _ _ eb1))), fun p3 hp3 => ?_⟩
  rw [c1]
  have s5 := same_new (o := .lst (w2.take 1)) hp3
  refine ⟨p2, p3, w2.drop 1, w2.take 1, rfl, rfl, s5 _ _ upd_same, upd_same, Nat.le_of_lt (small1000 (by rw [List.length_take, List.length_drop]; omega)), fun q2 hq2 => ?_⟩
  have s6 := same_new (o := .lst (w2.drop 1 ++ w2.take 1)) hq2
  refine ⟨by show 2 ≤ sizeLine; decide, fun tu htu => ?_⟩
  have s7 := same_new (o := .lst [.ref q1, .ref q2]) htu
  have etu : upd (upd (upd (upd (upd (upd H1 p1 (.lst (w2.take 1))) q1 (.lst (w1 ++ w2.take 1))) p2 (.lst (w2.drop 1))) p3 (.lst (w2.take 1))) q2 (.lst (w2.drop 1 ++ w2.take 1))) tu (.lst [.ref q1, .ref q2]) tu = some (.lst [.ref q1, .ref q2]) := upd_same
  have eq1 := s7 _ _ (s6 _ _ (s5 _ _ (s4 _ _ (upd_same (H := upd H1 p1 (.lst (w2.take 1))) (a := q1) (o := .lst (w1 ++ w2.take 1))))))
  have eq2 := s7 _ _ (upd_same (H := upd (upd (upd (upd H1 p1 (.lst (w2.take 1))) q1 (.lst (w1 ++ w2.take 1))) p2 (.lst (w2.drop 1))) p3 (.lst (w2.take 1))) (a := q2) (o := .lst (w2.drop 1 ++ w2.take 1)))
  have s27 := s2.trans (s3.trans (s4.trans (s5.trans (s6.trans s7))))
  clear s2 s3 s4 s5 s6 s7 hp1 hp2 hp3 hq1 hq2 htu
  generalize upd (upd (upd (upd (upd (upd H1 p1 (.lst (w2.take 1))) q1 (.lst (w1 ++ w2.take 1))) p2 (.lst (w2.drop 1))) p3 (.lst (w2.take 1))) q2 (.lst (w2.drop 1 ++ w2.take 1))) tu (.lst [.ref q1, .ref q2]) = H2 at *
  have dd2 := dk_same (s1.trans s27)
  have rcT : RC ds H2 q1 q2 (k1 ++ k2.take 1) (k2.drop 1 ++ k2.take 1) := ⟨sh, by rw [List.length_append, List.length_take]; omega, by rw [List.length_append, List.length_take, List.length_drop]; omega, by rw [List.length_append, List.length_take, List.length_drop]; omega,
    _, _, eq1, eq2, (r1.dk dd2).app ((r2.dk dd2).take 1), ((r2.dk dd2).drop 1).app ((r2.dk dd2).take 1)⟩
  have rc2 := rc1.mono s27
  have t12 := t11.mono s27
  have t22 := t21.mono s27
  have ea2 := s27 _ _ ea1
  have eb2 := s27 _ _ eb1
  have eD2 := s27 _ _ eD
  have s02 := s1.trans s27
  clear s1 s27 rc1 t11 t21 ea1 eb1 eD eq1 eq2 dd2
  -- the four sayings
  refine ⟨_, rfl, _, rfl, _, rfl, _, rfl, by show 3 ≤ sizeLine; decide, fun x1 hx1 => ?_⟩
  have s3 := same_new (o := .tup [.str "until", v1, v2]) hx1
  refine ⟨_, rfl, by show 2 ≤ sizeLine; decide, fun x2 hx2 => ?_⟩
  have s4 := same_new (o := .tup [.str "always", v1]) hx2
  refine ⟨by show 4 ≤ sizeLine; decide, fun T hT => ?_⟩
  have s5 := same_new (o := .tup [v1, v2, .ref x1, .ref x2]) hT
  have eT : upd (upd (upd H2 x1 (.tup [.str "until", v1, v2])) x2 (.tup [.str "always", v1])) T (.tup [v1, v2, .ref x1, .ref x2]) T = some (.tup [v1, v2, .ref x1, .ref x2]) := upd_same
  have ex1 := s5 _ _ (s4 _ _ (upd_same (H := H2) (a := x1) (o := .tup [.str "until", v1, v2])))
  have ex2 := s5 _ _ (upd_same (H := upd H2 x1 (.tup [.str "until", v1, v2])) (a := x2) (o := .tup [.str "always", v1]))
  have s35 := s3.trans (s4.trans s5)
  clear s3 s4 s5 hx1 hx2 hT
  generalize upd (upd (upd H2 x1 (.tup [.str "until", v1, v2])) x2 (.tup [.str "always", v1])) T (.tup [v1, v2, .ref x1, .ref x2]) = H3 at *
  have t13 := t12.mono s35
  have t23 := t22.mono s35
  have tt : TpAll K H3 [v1, v2, .ref x1, .ref x2] ([s, t, .bi .un s t, .un .al s].map dSy) :=
    .cons t13 (.cons t23 (.cons (.tup (SqT.of ex1) (.cons (.str _) (.cons t13 (.cons t23 .nil)))) (.cons (.tup (SqT.of ex2) (.cons (.str _) (.cons t13 .nil))) .nil)))
  have four : ∀ u ∈ [s, t, .bi .un s t, .un .al s], SyOk 4 u ∧ Has ds u := fun u hu => by
    simp only [List.mem_cons, List.not_mem_nil, or_false] at hu
    rcases hu with rfl | rfl | rfl | rfl
    · exact ⟨o1.mono (by decide), h1⟩
    · exact ⟨o2.mono (by decide), h2⟩
    · exact ⟨.bi o1 o2, .bi h1 h2⟩
    · exact ⟨.un o1, .un h1⟩
  refine ⟨T, rfl, ⟨_, SqT.of eT⟩, for_tup (K := K) (xs := [v1, v2, .ref x1, .ref x2]) (fun i σ H' => Same H3 H' ∧ ∃ x6 x7, σ = [some v1, some v2, some (.ref a), some (.ref b), some (.ref D), some (.ref tu), x6, x7, none, none, none, none, none])
    ⟨Same.refl _, _, _, rfl⟩ (fun i σ H' _ hp => SqT.of (hp.1 _ _ eT)) (fun i x σ H4 hx hp => ?_) (fun σ H4 hp => ?_)⟩
  · obtain ⟨sm, x6, x7, rfl⟩ := hp
    obtain ⟨u, _, hu, tx⟩ := tpAll_map tt hx
    obtain ⟨ou, hu⟩ := four u hu
    have sm2 := s35.trans sm
    refine ⟨_, rfl, _, rfl, _, rfl, x, a, b, k1, k2, u, ds, rfl, tx.mono sm, ou.mono (by decide), hu, rc2.mono sm2, fun H5 s5 => ?_⟩
    have sm5 := sm2.trans s5
    refine ⟨_, rfl, by show 2 ≤ sizeLine; decide, fun z1 hz1 => ?_⟩
    have s6 := same_new (o := .tup [.bl true, .bl false]) hz1
    refine ⟨z1, _, rfl, .inr (SqT.of upd_same), rfl, rfl, _, rfl, iteN (by cases hb k1 k2 u <;> rfl) ?_⟩
    refine ⟨_, rfl, by show 2 ≤ sizeLine; decide, fun z2 hz2 => ?_⟩
    have s7 := same_new (o := .tup [.str "not", x]) hz2
    have s57 := s5.trans (s6.trans s7)
    refine ⟨_, rfl, _, rfl, .ref z2, a, b, k1, k2, .un .no u, ds, rfl, .tup (SqT.of upd_same) (.cons (.str _) (.cons ((tx.mono sm).mono s57) .nil)), .un (ou.mono (by decide)), .un hu, rc2.mono (sm2.trans s57), fun H6 s8 => ?_⟩
    have s58 := s57.trans s8
    refine ⟨_, rfl, rfl, _, rfl, iteN (decide_eq_false (fun z => ?_)) ?_⟩
    · rw [hb_not l0 ou] at z
      cases e : hb k1 k2 u <;> rw [e] at z <;> cases z
    refine ⟨_, rfl, _, rfl, _, rfl, _, rfl, b, b, w2, w2, rfl, rfl, s58 _ _ (sm2 _ _ eb2), s58 _ _ (sm2 _ _ eb2), Nat.le_of_lt (small1000 (by omega)), fun z3 hz3 => ?_⟩
    have s9 := same_new (o := .lst (w2 ++ w2)) hz3
    have s59 := s58.trans s9
    have r29 := r2.dk (dk_same (s02.trans (sm2.trans s59)))
    refine ⟨x, a, z3, k1, k2 ++ k2, u, ds, rfl, (tx.mono sm).mono s59, ou.mono (by decide), hu, ⟨sh, by omega, by rw [List.length_append]; omega, by rw [List.length_append]; omega, _, _, s59 _ _ (sm2 _ _ ea2), upd_same, r1.dk (dk_same (s02.trans (sm2.trans s59))), r29.app r29⟩, fun H7 s10 => ?_⟩
    have s510 := s59.trans s10
    refine ⟨_, rfl, rfl, _, rfl, iteN (by rw [hb_twice l0 ou, decide_eq_true rfl]; rfl) ?_⟩
    refine ⟨_, rfl, _, rfl, tu, _, 0, _, rfl, rfl, SqL.of (s510 _ _ (sm2 _ _ etu)), atI_nat (j := 0) rfl, _, rfl, tu, _, 1, _, rfl, rfl, SqL.of (s510 _ _ (sm2 _ _ etu)), atI_nat (j := 1) rfl, ?_⟩
    refine ⟨x, q1, q2, _, _, u, ds, rfl, (tx.mono sm).mono s510, ou.mono (by decide), hu, rcT.mono (sm2.trans s510), fun H8 s11 => ?_⟩
    refine ⟨_, rfl, rfl, _, rfl, iteN (by rw [hb_turn l0 ou, decide_eq_true rfl]; rfl) ?_⟩
    exact ⟨sm.trans (s510.trans s11), _, _, rfl⟩
  obtain ⟨sm, x6, x7, rfl⟩ := hp
  have s4 := s35.trans sm
  have rc4 := rc2.mono s4
  have t14 := t12.mono s4
  have t24 := t22.mono s4
  have eD4 := s4 _ _ eD2
  have ea4 := s4 _ _ ea2
  have eb4 := s4 _ _ eb2
  have s04 := s02.trans s4
  clear sm s35 tt eT ex1 ex2 t13 t23 rc2 t12 t22 eD2 ea2 eb2 s4 s02 rcT etu
  -- and, or
  refine ⟨fun σ' H' => Same H4 H' ∧ σ' = [some v1, some v2, some (.ref a), some (.ref b), some (.ref D), some (.ref tu), x6, x7, none, none, none, none, none], ?_, fun σ' H5 hp => ?_⟩
  · refine ⟨_, rfl, _, rfl, by show 3 ≤ sizeLine; decide, fun z1 hz1 => ?_⟩
    have s5 := same_new (o := .tup [.str "and", v1, v2]) hz1
    refine ⟨_, rfl, _, rfl, .ref z1, a, b, k1, k2, .bi .an s t, ds, rfl, .tup (SqT.of upd_same) (.cons (.str _) (.cons (t14.mono s5) (.cons (t24.mono s5) .nil))), .bi (o1.mono (by decide)) (o2.mono (by decide)), .bi h1 h2, rc4.mono s5, fun H5 s6 => ?_⟩
    have s56 := s5.trans s6
    refine ⟨_, rfl, D, _, 0, _, rfl, rfl, SqL.of (s56 _ _ eD4), atI_nat (j := 0) rfl, _, rfl, ?_⟩
    have e := hb_and (k1 := k1) l0 o1 o2
    cases ez : hb k1 k2 s with
    | true =>
      refine iteT ⟨_, rfl, D, _, 1, _, rfl, rfl, SqL.of (s56 _ _ eD4), atI_nat (j := 1) rfl, rfl, _, rfl, iteN ?_ ⟨s56, rfl⟩⟩
      rw [e, ez, Bool.true_and, decide_eq_true rfl]
      rfl
    | false =>
      refine iteF ⟨rfl, _, rfl, iteN ?_ ⟨s56, rfl⟩⟩
      rw [e, ez, Bool.false_and, decide_eq_true rfl]
      rfl
  obtain ⟨s5, rfl⟩ := hp
  refine ⟨fun σ' H' => Same H4 H' ∧ σ' = [some v1, some v2, some (.ref a), some (.ref b), some (.ref D), some (.ref tu), x6, x7, none, none, none, none, none], ?_, fun σ' H6 hp => ?_⟩
  · refine ⟨_, rfl, _, rfl, by show 3 ≤ sizeLine; decide, fun z1 hz1 => ?_⟩
    have s5' := s5.trans (same_new (o := .tup [.str "or", v1, v2]) hz1)
    refine ⟨_, rfl, _, rfl, .ref z1, a, b, k1, k2, .bi .or s t, ds, rfl, .tup (SqT.of upd_same) (.cons (.str _) (.cons (t14.mono s5') (.cons (t24.mono s5') .nil))), .bi (o1.mono (by decide)) (o2.mono (by decide)), .bi h1 h2, rc4.mono s5', fun H6 s6 => ?_⟩
    have s56 := s5'.trans s6
    refine ⟨_, rfl, D, _, 0, _, rfl, rfl, SqL.of (s56 _ _ eD4), atI_nat (j := 0) rfl, _, rfl, ?_⟩
    have e := hb_or (k1 := k1) l0 o1 o2
    cases ez : hb k1 k2 s with
    | true =>
      refine iteT ⟨rfl, _, rfl, iteN ?_ ⟨s56, rfl⟩⟩
      rw [e, ez, Bool.true_or, decide_eq_true rfl]
      rfl
    | false =>
      refine iteF ⟨_, rfl, D, _, 1, _, rfl, rfl, SqL.of (s56 _ _ eD4), atI_nat (j := 1) rfl, rfl, _, rfl, iteN ?_ ⟨s56, rfl⟩⟩
      rw [e, ez, Bool.false_or, decide_eq_true rfl]
      rfl
  obtain ⟨s6, rfl⟩ := hp
  clear s5
  -- pairs
  have t16 := t14.mono s6
  have t26 := t24.mono s6
  have mv1 : ∀ x8 : Option V, Mk K [some v1, some v2, some (.ref a), some (.ref b), some (.ref D), some (.ref tu), x6, x7, x8, none, none, none, none] H6 (tVar 0) (dSy s) := fun _ => mk_var rfl t16
  have mv2 : ∀ x8 : Option V, Mk K [some v1, some v2, some (.ref a), some (.ref b), some (.ref D), some (.ref tu), x6, x7, x8, none, none, none, none] H6 (tVar 1) (dSy t) := fun _ => mk_var rfl t26
  have mun : ∀ {σ : L2.St} {te : TE} {w : Un} {u : Sy}, Mk K σ H6 te (dSy u) → Mk K σ H6 (tTup (tCons (tC (.str w.s)) (tCons te tNil))) (dSy (.un w u)) := fun h => mk_tup (by show 2 ≤ 1000; decide) (mk_cons mk_str (mk_cons h mk_nil))
  have mbi : ∀ {σ : L2.St} {te te' : TE} {w : Bi} {u u' : Sy}, Mk K σ H6 te (dSy u) → Mk K σ H6 te' (dSy u') → Mk K σ H6 (tTup (tCons (tC (.str w.s)) (tCons te (tCons te' tNil)))) (dSy (.bi w u u')) := fun h h' => mk_tup (by show 3 ≤ 1000; decide) (mk_cons mk_str (mk_cons h (mk_cons h' mk_nil)))
  have mye : ∀ {σ : L2.St}, Mk K σ H6 (tTup (tCons (tC (.str "yes")) tNil)) (dSy .yes) := mk_tup (by show 1 ≤ 1000; decide) (mk_cons mk_str mk_nil)
  have mpr : ∀ {σ : L2.St} {te te' : TE} {u u' : Sy}, Mk K σ H6 te (dSy u) → Mk K σ H6 te' (dSy u') → Mk K σ H6 (tTup (tCons te (tCons te' tNil))) (pd (u, u')) := fun h h' => mk_tup (by show 2 ≤ 1000; decide) (mk_cons h (mk_cons h' mk_nil))
  refine seq_asg ?_
  refine lst_mk (K := K) (H0 := H6) (ds := [pd (.un .ev s, .bi .un .yes s), pd (.un .al s, .un .no (.un .ev (.un .no s)))]) (by show 2 ≤ 1000; decide) (Same.refl _) ?mk1 (fun H7 us1 L1 s7 tu1 hL1 => ?_)
  case mk1 => exact mk_cons (mpr (mun (w := .ev) (mv1 none)) (mbi (w := .un) mye (mv1 none))) (mk_cons (mpr (mun (w := .al) (mv1 none)) (mun (w := .no) (mun (w := .ev) (mun (w := .no) (mv1 none))))) mk_nil)
  have s8 := same_new (o := .lst us1) hL1
  refine seq_asg ?_
  refine ⟨_, rfl, ?_⟩
  refine lst_mk (K := K) (H0 := H6) (ds := [pd (.bi .un s s, s), pd (.bi .un t (.bi .un t s), .bi .un t s)]) (by show 2 ≤ 1000; decide) (s7.trans s8) ?mk2 (fun H9 us2 L2 s9 tu2 hL2 => ?_)
  case mk2 => exact mk_cons (mpr (mbi (w := .un) (mv1 (some (.ref L1))) (mv1 (some (.ref L1)))) (mv1 (some (.ref L1)))) (mk_cons (mpr (mbi (w := .un) (mv2 (some (.ref L1))) (mbi (w := .un) (mv2 (some (.ref L1))) (mv1 (some (.ref L1))))) (mbi (w := .un) (mv2 (some (.ref L1))) (mv1 (some (.ref L1))))) mk_nil)
  have s10 := same_new (o := .lst us2) hL2
  have n3 := tu1.len
  have n4 := tu2.len
  refine ⟨L1, L2, us1, us2, rfl, rfl, s10 _ _ (s9 _ _ upd_same), upd_same, Nat.le_of_lt (small1000 (by rw [n3, n4]; show 2 + 2 ≤ 1000; decide)), fun L3 hL3 => ?_⟩
  have s11 := same_new (o := .lst (us1 ++ us2)) hL3
  have s7b := s7.trans (s8.trans (s9.trans (s10.trans s11)))
  have tu12 := (tu1.mono (s8.trans (s9.trans (s10.trans s11)))).app (tu2.mono (s10.trans s11))
  have hL36 : H6 L3 = none := free_same (s7.trans (s8.trans (s9.trans s10))) hL3
  have eL3 : upd (upd H9 L2 (.lst us2)) L3 (.lst (us1 ++ us2)) L3 = some (.lst (us1 ++ us2)) := upd_same
  generalize upd (upd H9 L2 (.lst us2)) L3 (.lst (us1 ++ us2)) = H11 at *
  refine ⟨_, rfl, .inl ⟨rfl, _, SqL.of eL3⟩, ?_⟩
  refine tup_mk (K := K) (H0 := H6) (d := pd (.un .ev (.un .ev s), .un .ev s)) s7b ?mk3 (fun H12 v5 s12 tv5 => ?_)
  case mk3 => exact mpr (mun (w := .ev) (mun (w := .ev) (mv1 (some (.ref L3))))) (mun (w := .ev) (mv1 (some (.ref L3))))
  have eL4 := s12 _ _ eL3
  refine ⟨L3, us1 ++ us2, v5, rfl, rfl, eL4, small1000 (by rw [List.length_append, n3, n4]; show 2 + 2 ≤ 1000; decide), ?_⟩
  have s13 : Same H6 (upd H12 L3 (.lst (us1 ++ us2 ++ [v5]))) := keep_sameL (H' := H6) hL36 (s7b.trans s12)
  have tuA : TpAll K (upd H12 L3 (.lst (us1 ++ us2 ++ [v5]))) (us1 ++ us2 ++ [v5]) ([(.un .ev s, .bi .un .yes s), (.un .al s, .un .no (.un .ev (.un .no s))), (.bi .un s s, s), (.bi .un t (.bi .un t s), .bi .un t s), (.un .ev (.un .ev s), .un .ev s)].map pd) :=
    TpAll.keepL (keep_upd (p := L3)) ⟨_, eL4⟩ ((tu12.mono s12).app (.cons tv5 .nil))
  have eL5 : upd H12 L3 (.lst (us1 ++ us2 ++ [v5])) L3 = some (.lst (us1 ++ us2 ++ [v5])) := upd_same
  generalize upd H12 L3 (.lst (us1 ++ us2 ++ [v5])) = H13 at *
  generalize us1 ++ us2 ++ [v5] = us at *
  have five : ∀ x ∈ [(.un .ev s, .bi .un .yes s), (.un .al s, .un .no (.un .ev (.un .no s))), (.bi .un s s, s), (.bi .un t (.bi .un t s), .bi .un t s), (.un .ev (.un .ev s), .un .ev s)], (SyOk 6 (Prod.fst x) ∧ Has ds x.1) ∧ (SyOk 6 x.2 ∧ Has ds x.2) ∧ hb k1 k2 x.1 = hb k1 k2 x.2 := fun x hx => by
    simp only [List.mem_cons, List.not_mem_nil, or_false] at hx
    rcases hx with rfl | rfl | rfl | rfl | rfl
    · exact ⟨⟨.un (o1.mono (by decide)), .un h1⟩, ⟨.bi .yes (o1.mono (by decide)), .bi .yes h1⟩, hb_ev l0 o1⟩
    · exact ⟨⟨.un (o1.mono (by decide)), .un h1⟩, ⟨.un (.un (.un o1)), .un (.un (.un h1))⟩, hb_al l0 o1⟩
    · exact ⟨⟨.bi (o1.mono (by decide)) (o1.mono (by decide)), .bi h1 h1⟩, ⟨o1.mono (by decide), h1⟩, hb_self l0 o1⟩
    · exact ⟨⟨.bi (o2.mono (by decide)) (.bi (o2.mono (by decide)) (o1.mono (by decide))), .bi h2 (.bi h2 h1)⟩, ⟨.bi (o2.mono (by decide)) (o1.mono (by decide)), .bi h2 h1⟩, hb_uu l0 o1 o2⟩
    · exact ⟨⟨.un (.un (o1.mono (by decide))), .un (.un h1)⟩, ⟨.un (o1.mono (by decide)), .un h1⟩, hb_ee l0 o1⟩
  clear tu12 tu1 tu2 tv5 mv1 mv2 mun mbi mye mpr
  have s4D := s6.trans s13
  refine ⟨_, rfl, L3, rfl, ⟨_, SqL.of eL5⟩, for_list (K := K) (xs := us) (fun i σ H' => Same H13 H' ∧ ∃ x9 x10, σ = [some v1, some v2, some (.ref a), some (.ref b), some (.ref D), some (.ref tu), x6, x7, some (.ref L3), x9, x10, none, none])
    ⟨Same.refl _, _, _, rfl⟩ (fun i σ H' _ hp => SqL.of (hp.1 _ _ eL5)) (fun i x σ H14 hx hp => ?_) (fun σ H14 hp => ?_)⟩
  · obtain ⟨sm, x9, x10, rfl⟩ := hp
    obtain ⟨pq, _, hm, tx⟩ := tpAll_map tuA hx
    obtain ⟨⟨ou, hu⟩, ⟨ov, hv⟩, eq⟩ := five pq hm
    obtain ⟨ad, u1', u2', rfl, sq, tx1, tx2⟩ := tp_two tx
    refine ⟨ad, _, rfl, same_tup sm sq, rfl, _, _, rfl, _, _, rfl, rfl, ?_⟩
    refine ⟨_, rfl, _, rfl, _, rfl, u1', a, b, k1, k2, pq.1, ds, rfl, tx1.mono sm, ou, hu, rc4.mono (s4D.trans sm), fun H15 s15 => ?_⟩
    refine ⟨_, rfl, _, rfl, _, rfl, u2', a, b, k1, k2, pq.2, ds, rfl, (tx2.mono sm).mono s15, ov, hv, rc4.mono (s4D.trans (sm.trans s15)), fun H16 s16 => ?_⟩
    refine ⟨rfl, _, rfl, iteN (by rw [eq, decide_eq_true rfl]; rfl) ⟨sm.trans (s15.trans s16), _, _, rfl⟩⟩
  obtain ⟨sm, x9, x10, rfl⟩ := hp
  have sE := s4D.trans sm
  have rcE := rc4.mono sE
  have t1E := t14.mono sE
  have t2E := t24.mono sE
  have eDE := sE _ _ eD4
  have eaE := sE _ _ ea4
  have ebE := sE _ _ eb4
  have s0E := s04.trans sE
  clear tuA five eL5 eL4 s4D sm s13 s6 t16 t26 rc4 t14 t24 eD4 ea4 eb4 sE
  -- later
  refine ⟨fun σ' H' => Same H14 H' ∧ ∃ La q1 q2, σ' = [some v1, some v2, some (.ref a), some (.ref b), some (.ref D), some (.ref tu), x6, x7, some (.ref L3), x9, x10, some (.ref La), none] ∧ H' La = some (.lst [.ref q1, .ref q2]) ∧ RC ds H' q1 q2 (laterK k1 k2).1 (laterK k1 k2).2, ?_, fun σ' H15 hp => ?_⟩
  · refine ⟨_, rfl, by show 0 ≤ sizeLine; decide, fun B hB => ?_⟩
    have s1 := same_new (o := .lst []) hB
    refine ⟨a, B, w1, rfl, rfl, SqL.of (s1 _ _ eaE), SqL.of upd_same, _, rfl, ?_⟩
    by_cases c : 0 < w1.length
    · refine iteP (decide_eq_true c) ?_
      refine ⟨_, rfl, 1, rfl, a, w1, rfl, SqL.of (s1 _ _ eaE), fun p1 hp1 => ?_⟩
      rw [c3]
      have s2 := same_new (o := .lst (w1.drop 1)) hp1
      refine ⟨_, rfl, by show 2 ≤ sizeLine; decide, fun La hLa => ?_⟩
      have s3 := same_new (o := .lst [.ref p1, .ref b]) hLa
      have s13 := s1.trans (s2.trans s3)
      refine ⟨s13, La, p1, b, rfl, upd_same, ?_⟩
      have e : laterK k1 k2 = (k1.drop 1, k2) := if_pos (by omega)
      rw [e]
      exact ⟨sh, by rw [List.length_drop]; omega, by omega, l0, _, _, s3 _ _ upd_same, s13 _ _ ebE, (r1.dk (dk_same (s0E.trans s13))).drop 1, r2.dk (dk_same (s0E.trans s13))⟩
    · refine iteN (decide_eq_false c) ?_
      refine ⟨by show 0 ≤ sizeLine; decide, fun B2 hB2 => ?_⟩
      have s2 := s1.trans (same_new (o := .lst []) hB2)
      refine ⟨_, rfl, 1, rfl, b, w2, rfl, SqL.of (s2 _ _ ebE), fun p2 hp2 => ?_⟩
      rw [c2]
      have s4 := same_new (o := .lst (w2.drop 1)) hp2
      refine ⟨_, rfl, 1, rfl, b, w2, rfl, SqL.of (s4 _ _ (s2 _ _ ebE)), fun p3 hp3 => ?_⟩
      rw [c1]
      have s5 := same_new (o := .lst (w2.take 1)) hp3
      refine ⟨p2, p3, w2.drop 1, w2.take 1, rfl, rfl, s5 _ _ upd_same, upd_same, Nat.le_of_lt (small1000 (by rw [List.length_take, List.length_drop]; omega)), fun q2 hq2 => ?_⟩
      have s6 := same_new (o := .lst (w2.drop 1 ++ w2.take 1)) hq2
      refine ⟨by show 2 ≤ sizeLine; decide, fun La hLa => ?_⟩
      have s7 := same_new (o := .lst [.ref B2, .ref q2]) hLa
      have s27 := s2.trans (s4.trans (s5.trans (s6.trans s7)))
      refine ⟨s27, La, B2, q2, rfl, upd_same, ?_⟩
      have e : laterK k1 k2 = ([], k2.drop 1 ++ k2.take 1) := if_neg (by omega)
      rw [e]
      have r27 := r2.dk (dk_same (s0E.trans s27))
      exact ⟨sh, Nat.zero_le _, by rw [List.length_append, List.length_take, List.length_drop]; omega, by rw [List.length_append, List.length_take, List.length_drop]; omega, [], _, s7 _ _ (s6 _ _ (s5 _ _ (s4 _ _ upd_same))), s7 _ _ upd_same, .nil, (r27.drop 1).app (r27.take 1)⟩
  obtain ⟨s1, La, q1', q2', rfl, eLa, rcL⟩ := hp
  refine ⟨_, rfl, _, rfl, by show 3 ≤ sizeLine; decide, fun z1 hz1 => ?_⟩
  have s2 := same_new (o := .tup [.str "until", v1, v2]) hz1
  refine ⟨_, rfl, La, _, 0, _, rfl, rfl, SqL.of (s2 _ _ eLa), atI_nat (j := 0) rfl, _, rfl, La, _, 1, _, rfl, rfl, SqL.of (s2 _ _ eLa), atI_nat (j := 1) rfl, ?_⟩
  have s12 := s1.trans s2
  refine ⟨.ref z1, q1', q2', _, _, .bi .un s t, ds, rfl, .tup (SqT.of upd_same) (.cons (.str _) (.cons (t1E.mono s12) (.cons (t2E.mono s12) .nil))), .bi (o1.mono (by decide)) (o2.mono (by decide)), .bi h1 h2, rcL.mono s2, fun H16 s3 => ?_⟩
  have s13 := s12.trans s3
  refine ⟨_, rfl, _, rfl, by show 3 ≤ sizeLine; decide, fun z2 hz2 => ?_⟩
  have s4 := same_new (o := .tup [.str "until", v1, v2]) hz2
  have s14 := s13.trans s4
  refine ⟨_, rfl, _, rfl, .ref z2, a, b, k1, k2, .bi .un s t, ds, rfl, .tup (SqT.of upd_same) (.cons (.str _) (.cons (t1E.mono s14) (.cons (t2E.mono s14) .nil))), .bi (o1.mono (by decide)) (o2.mono (by decide)), .bi h1 h2, rcE.mono s14, fun H17 s5 => ?_⟩
  have s15 := s14.trans s5
  have e := hb_later (k1 := k1) l0 o1 o2
  have fin := q H17 (s0E.trans s15)
  refine ⟨_, rfl, D, _, 1, _, rfl, rfl, SqL.of (s15 _ _ eDE), atI_nat (j := 1) rfl, _, rfl, ?_⟩
  cases et : hb k1 k2 t with
  | true =>
    refine iteT ⟨rfl, ?_⟩
    rw [e, et, Bool.true_or, decide_eq_true rfl]
    exact fin
  | false =>
    refine iteF ⟨_, rfl, D, _, 0, _, rfl, rfl, SqL.of (s15 _ _ eDE), atI_nat (j := 0) rfl, _, rfl, ?_⟩
    cases es : hb k1 k2 s with
    | true =>
      refine iteT ⟨_, rfl, rfl, ?_⟩
      rw [e, et, es, Bool.false_or, Bool.true_and, decide_eq_true rfl]
      exact fin
    | false =>
      refine iteF ⟨rfl, ?_⟩
      rw [e, et, es, Bool.false_or, Bool.false_and, decide_eq_true rfl]
      exact fin
end
end W25

namespace W25
open PySem PySem.Spec PyProof.Rows L2 Gs Sf
abbrev NLw : List Str := ["_law_script", "_law_cell", "_law_left_here", "_law_system", "_law_run", "_law_atoms", "_law_turn", "_law_one", "_law_other", "_law_stem", "_law_lap"]
theorem scLaw : FnScope NLw ["_law_script"] (defScope sLaw) := ⟨rfl, rfl, rfl, by decide +kernel, rfl, by decide +kernel, by decide +kernel⟩
/-- one promise for all of a kind -/
theorem fn_ex {P : Program} {w : World} {K : PySem.W.Frag} {mg : Str → Option Value} {base : Heap} {CX : CXT} {k : Nat} {f : Addr} {fd : FuncData} {ps : List Str} {α : Type} {sp : α → Sp} (h : ∀ a, FnOk P w K mg base CX k f fd ps (sp a)) :
    FnOk P w K mg base CX k f fd ps (fun vs H Q E => ∃ a, sp a vs H Q E) :=
  ⟨fun vs H Q E ⟨a, z⟩ => (h a).len vs H Q E z, fun A outer s H args us vs Q E hr e0 hb r ⟨a, z⟩ => (h a).run A outer s H args us vs Q E hr e0 hb r z⟩
def spSayA (K : PySem.W.Frag) : Sp := fun vs H Q E => ∃ ds, spSaying K (Has ds) 3 vs H Q E
theorem ats_of {s : Sy} (ok : SyOk 1 s) (sh : ShOk s) : AtS (dSy s) := by
  have dp : (dSy s).depth ≤ 60 := Nat.le_trans (sy_pl ok).2 (by decide)
  cases s with
  | yes => exact ⟨⟨_, rfl⟩, (shw1 (shw_str (L := 30) (by decide +kernel))).mono (by decide), dp⟩
  | «at» w r => exact ⟨⟨_, rfl⟩, sh, dp⟩
  | un w s => cases ok with | un h => cases h
  | bi w s t => cases ok with | bi h _ => cases h
theorem has_of {ss : List Sy} {s : Sy} (ok : SyOk 1 s) (hs : s ∈ ss) : Has (ss.map dSy) s := by
  cases s with
  | yes => exact .yes
  | «at» w r => exact .at (List.mem_map.mpr ⟨_, hs, rfl⟩)
  | un w s => cases ok with | un h => cases h
  | bi w s t => cases ok with | bi h _ => cases h
theorem lf_same {p : Addr} {H H' : Hp} (lf : Lf H p) (s : Same H H') : Lf H' p := by
  obtain ⟨n, h⟩ := lf
  exact ⟨n, s _ _ h⟩
section
variable {P : Program} {w : World} {K : PySem.W.Frag} {mg : Str → Option Value} {base : Heap} {f1 f2 f3 f4 f5 f6 : Addr} {d1 d2 d3 d4 d5 d6 : FuncData}
theorem law_body (LF : Cl P w K mg base CX0 1 "_law_left" ["_law_cell"] spLeft f1 d1) (RU : Cl P w K mg base CX0 7 "_law_run_drawn" ["_law_left_here"] (spRun K) f2 d2) (AT : Cl P w K mg base CX0 4 "_law_atom" ["_law_left_here", "_law_system"] (spAtom K) f3 d3)
    (SA : Cl P w K mg base CX0 4 "_law_saying" ["_law_left_here", "_law_atoms", "_law_deep"] (spSayA K) f4 d4) (RO : ClG P w K mg base CX0 2 "_law_round" ["_law_left_here", "_law_atoms"] (spRound K) f5 d5)
    (RI : ClG P w K mg base CX0 13 "_law_right" ["_law_one", "_law_other", "_law_stem", "_law_lap"] (spRight K) f6 d6) (mr : mg "range" = none)
    {cdv : Value} {s : Shared} {H : Hp} {E : XK} {f : Addr} {a : Addr} {ns : List Int}
    (hr : Room 13 (callerA.deeper (envOfC "law" (defScope sLaw) s.heap.objs.size f cdv))) (hS : SqL K H a (ns.map V.int)) (hn : ns.length ≤ 63) :
    ∃ t, PSs (cxOf CX0 P w K mg base NLw "law" (defScope sLaw) f cdv callerA [] s H E).nox (defBody sLaw) t ∧ t { nx := fun _ _ => V.non = .bl true, rt := fun v _ => v = .bl true } (L2.start NLw [.ref a]) H := by
  have r1 := hr.mono (j := 1) (by decide)
  have r2 := hr.mono (j := 2) (by decide)
  have r4 := hr.mono (j := 4) (by decide)
  have r7 := hr.mono (j := 7) (by decide)
  refine ⟨_, pss_cons (ps_for PassesOwn.never rfl (pi_list (pe_op op_cat (pe_slice sl_list (pv 0) po_none (po_some pe_int)) (pe_lst (pa_cons pe_int pa_nil)))) (pg_name (i := 1) scLaw.nd rfl (Or.inl rfl))
      (pss_cons (ps_set (i := 2) scLaw.nd rfl (.inr rfl) (pe_call LF.ok r1 (by rfl) LF.g LF.kp LF.bd .nil pass0 (pa_cons (pv 1) pa_nil)))
      (pss_cons (ps_asg (pe_call RU.ok r7 (by rfl) RU.g RU.kp RU.bd .nil pass0 (pa_cons (pv 2) pa_nil)) (pg_unl (by rfl) (pgs_cons (pg_name (i := 3) scLaw.nd rfl (.inr rfl)) (pgs_cons (pg_name (i := 4) scLaw.nd rfl (.inl rfl)) pgs_nil))))
      (pss_cons (ps_setLc (i := 5) (own := [("_law_turn", 6)]) (g := gName 6) (tt := tYes) rfl scLaw.nd rfl rfl (sw_true rfl rfl rfl rfl) (pi_range1 (by rfl) mr (pa_cons pe_int pa_nil)) (blkOk_by (own := [("_law_turn", 6)]) (N := NLw) (sc := defScope sLaw) (by decide +kernel)) (fun _ _ _ _ _ => pg_name (i := 6) scLaw.nd rfl (Or.inl rfl)) (fun _ _ _ _ _ => pts_nil)
          (fun _ _ _ _ _ => pe_call AT.ok r4 (by rfl) AT.g AT.kp AT.bd .nil pass0 (pa_cons (pv 2) (pa_cons (pv 3) pa_nil))))
      (pss_one (ps_for PassesOwn.never rfl (pi_range1 (by rfl) mr (pa_cons pe_int pa_nil)) (pg_name (i := 6) scLaw.nd rfl (Or.inl rfl))
        (pss_cons (ps_par (i := 7) (j := 8) (by rfl) scLaw.nd rfl rfl (by decide) rfl rfl (pa_cons (pe_call SA.ok r4 (by rfl) SA.g SA.kp SA.bd .nil pass0 (pa_cons (pv 2) (pa_cons (pv 5) (pa_cons pe_int pa_nil)))) (pa_cons (pe_call SA.ok r4 (by rfl) SA.g SA.kp SA.bd .nil pass0 (pa_cons (pv 2) (pa_cons (pv 5) (pa_cons pe_int pa_nil)))) pa_nil)) (by rfl))
        (pss_cons (ps_asg (pe_callG RO.ok rfl r2 (by rfl) RO.g RO.kp RO.bd pass0 (pa_cons (pv 2) (pa_cons (pv 5) pa_nil))) (pg_unl (by rfl) (pgs_cons (pg_name (i := 9) scLaw.nd rfl (.inl rfl)) (pgs_cons (pg_name (i := 10) scLaw.nd rfl (.inl rfl)) pgs_nil))))
        (pss_one (ps_if (pt_not (pt_val (pe_callG RI.ok rfl hr (by rfl) RI.g RI.kp RI.bd pass0 (pa_cons (pv 7) (pa_cons (pv 8) (pa_cons (pv 9) (pa_cons (pv 10) pa_nil))))))) (pss_one (ps_ret pe_bl)) pss_nil))))))))))
    (pss_one (ps_ret pe_bl)), ?_⟩
  refine ⟨_, rfl, 10, rfl, a, _, rfl, hS, fun S0 hS0 => ?_⟩
  refine ⟨by show 1 ≤ sizeLine; decide, fun B hB => ?_⟩
  have cl : (cutV (ns.map V.int) none (some 10)).length ≤ 63 := Nat.le_trans (cutV_length _ _ _) (by rw [List.length_map]; exact hn)
  refine ⟨S0, B, _, _, rfl, rfl, same_new hB _ _ upd_same, upd_same, by show _ + 1 ≤ sizeLine; exact small1000 (by omega), fun C0 hC => ?_⟩
  have allint : ∀ x ∈ cutV (ns.map V.int) none (some 10) ++ [V.int 4], ∃ c : Int, x = .int c := fun x hx => by
    rcases List.mem_append.mp hx with h | h
    · obtain ⟨c, _, e⟩ := List.mem_map.mp (cut_mem h)
      exact ⟨c, e.symm⟩
    · exact ⟨4, List.mem_singleton.mp h⟩
  have hC1 : upd (upd (upd H S0 (.lst (cutV (ns.map V.int) none (some 10)))) B (.lst [.int 4])) C0 (.lst (cutV (ns.map V.int) none (some 10) ++ [.int 4])) C0 = some (.lst (cutV (ns.map V.int) none (some 10) ++ [.int 4])) := upd_same
  generalize cutV (ns.map V.int) none (some 10) ++ [V.int 4] = cs at *
  generalize upd (upd (upd H S0 (.lst (cutV (ns.map V.int) none (some 10)))) B (.lst [.int 4])) C0 (.lst cs) = H1 at *
  refine ⟨C0, rfl, ⟨_, SqL.of hC1⟩, for_list (K := K) (xs := cs) (fun i σ H' => Same H1 H' ∧ ∃ x1 x2 x3 x4 x5 x6 x7 x8 x9 x10, σ = [some (.ref a), x1, x2, x3, x4, x5, x6, x7, x8, x9, x10])
    ⟨Same.refl _, _, _, _, _, _, _, _, _, _, _, rfl⟩ (fun i σ H' _ hp => SqL.of (hp.1 _ _ hC1)) (fun i x σ H2 hx hp => ?_) (fun σ H2 hp => ?_)⟩
  · obtain ⟨sm, x1, x2, x3, x4, x5, x6, x7, x8, x9, x10, rfl⟩ := hp
    obtain ⟨c, rfl⟩ := allint x (List.mem_of_getElem? hx)
    refine ⟨_, rfl, c, rfl, fun p n hp => ?_⟩
    have s2 := same_new (o := .lst [.int n]) hp
    have hp1 : H1 p = none := free_same sm hp
    refine ⟨_, rfl, p, rfl, ⟨n, upd_same⟩, fun H4 rr vsys vrun db mcs df k3 lf4 _ _ err tsys4 sok => ?_⟩
    refine ⟨rr, _, rfl, SqL.of err, rfl, _, _, rfl, _, _, rfl, rfl, ?_⟩
    have k14 : Keep p H1 H4 := (keep_same (sm.trans s2)).trans k3
    refine ⟨3, rfl, by decide, by decide, fun D1 hD1 => ?_⟩
    have pD1 : p ≠ D1 := lf_ne lf4 hD1
    refine lc_range (n := 3) (fun i H' => ∃ us ss, H' D1 = some (.lst us) ∧ Keep p H4 H' ∧ Lf H' p ∧ TpAll K H' us (List.map dSy ss) ∧ ss.length = i ∧ ∀ s ∈ ss, SyOk 1 s ∧ ShOk s)
      ⟨[], [], upd_same, keep_same (same_new hD1), lf_upd lf4 pD1, .nil, rfl, fun s hs => absurd hs List.not_mem_nil⟩ (fun i H' hi hp => ?_) (fun H5 hp => ?_)
    · obtain ⟨us, ss, e1, kq, lfq, tu, sl, so⟩ := hp
      refine ⟨rfl, ?_⟩
      refine ⟨_, rfl, _, rfl, p, vsys, db, mcs, df, rfl, lfq, tsys4.keep kq lf4, sok, fun H'' v' s' k4 lf4' tv so1 so2 => ?_⟩
      have e4 := k4 _ _ (fun z => pD1 z.symm) e1
      have ul := tu.len
      rw [List.length_map] at ul
      refine ⟨us, e4, small1000 (by omega), us ++ [v'], ss ++ [s'], upd_same, ?_, lf_upd lf4' pD1, ?_, ?_, ?_⟩
      · intro b o nb e
        rw [upd_ne (ne_of_none e hD1)]
        exact k4 _ _ nb (kq _ _ nb e)
      · rw [List.map_append]
        exact ((tu.keep k4 lfq).app (.cons tv .nil)).keepL keep_upd ⟨_, e4⟩
      · rw [List.length_append, sl]
        rfl
      · intro s'' hs''
        rcases List.mem_append.mp hs'' with h | h
        · exact so s'' h
        · rw [List.mem_singleton.mp h]
          exact ⟨so1, so2⟩
    obtain ⟨us, ss, eA, k45, lf5, tA, ssl, sso⟩ := hp
    have k15 : Keep p H1 H5 := k14.trans k45
    have ss10 : ss.length ≤ 10 := by omega
    have ssp : ∀ s ∈ ss, SyOk 1 s ∧ Has (ss.map dSy) s := fun s hs => ⟨(sso s hs).1, has_of (sso s hs).1 hs⟩
    have ats : ∀ d ∈ ss.map dSy, AtS d := fun d hd => by
      obtain ⟨s, hs, rfl⟩ := List.mem_map.mp hd
      exact ats_of (sso s hs).1 (sso s hs).2
    refine ⟨3, rfl, by decide, by decide, for_range (n := 3) (fun i σ H' => ∃ y6 y7 y8 y9 y10, σ = [some (.ref a), some (.int c), some (.ref p), some vsys, some vrun, some (.ref D1), y6, y7, y8, y9, y10] ∧ Keep p H5 H' ∧ Lf H' p)
      ⟨_, _, _, _, _, rfl, fun _ _ _ e => e, lf5⟩ (fun i σ H6 hi hp => ?_) (fun σ H6 hp => ?_)⟩
    · obtain ⟨y6, y7, y8, y9, y10, rfl, k6, lf6⟩ := hp
      have nD : D1 ≠ p := fun e => pD1 e.symm
      refine ⟨_, rfl, _, rfl, ss.map dSy, p, D1, 3, us, ss, rfl, rfl, by decide, lf6, nD, k6 _ _ nD eA, tA.keep k6 lf5, ss10, ssp, fun H7 v1 s1 k7 lf7 tv1 ok1 hs1 => ?_⟩
      have k57 := k6.trans k7
      refine ⟨_, rfl, _, rfl, ss.map dSy, p, D1, 3, us, ss, rfl, rfl, by decide, lf7, nD, k57 _ _ nD eA, tA.keep k57 lf5, ss10, ssp, fun H8 v2 s2' k8 lf8 tv2 ok2 hs2 => ?_⟩
      refine ⟨_, _, rfl, ?_⟩
      have k58 := k57.trans k8
      have tv18 := tv1.keep k8 lf7
      refine ⟨_, rfl, _, rfl, p, D1, us, ss.map dSy, rfl, lf8, nD, k58 _ _ nD eA, tA.keep k58 lf5, ats, by rw [List.length_map]; omega, fun H9 r a1 a2 w1 w2 q1 q2 k9 lf9 er e1 e2 _ _ rw1 rw2 l1 l2 l0 => ?_⟩
      refine ⟨r, _, rfl, SqL.of er, rfl, _, _, rfl, _, _, rfl, rfl, ?_⟩
      refine ⟨_, rfl, _, rfl, _, rfl, _, rfl, v1, v2, a1, a2, q1, q2, s1, s2', ss.map dSy, rfl, tv18.keep k9 lf8, tv2.keep k9 lf8, ok1, ok2, hs1, hs2, ⟨ats, by omega, by omega, l0, w1, w2, e1, e2, rw1, rw2⟩, l1, l2, fun H10 s10 => ?_⟩
      refine ⟨_, rfl, iteF ⟨_, _, _, _, _, rfl, (k58.trans k9).trans (keep_same s10), lf_same lf9 s10⟩⟩
    · obtain ⟨y6, y7, y8, y9, y10, rfl, k6, lf6⟩ := hp
      exact ⟨same_of_keep hp1 (k15.trans k6), _, _, _, _, _, _, _, _, _, _, rfl⟩
  · rfl
end
end W25

namespace W25
open PySem PySem.Spec PyProof.Rows L2 Gs Sf
/-! ### what the top has written -/
/-- a def of the text as the head tells it -/
abbrev FnL (K : PySem.W.Frag) (x : Str) (st : Stmt) (kV : Value) (f : Addr) (oc dc pm cd ct : Value) (od an : Option Addr) (sl : Array (Option Value)) : Prop :=
  K.lookup f = some ⟨oc, od, .func (PySem.W.fnOf x x (defArgs st) (defBody st) (defScope st) .none kV dc pm an cd ct), sl⟩
theorem all_mk {P : Program} {w : World} {K : PySem.W.Frag} {h : Heap} {mg : Str → Option Value} {fa aT C : Addr} (X : K.In h) (G : h.Ns mainGlobals mg) (hfa : mg "law" = some (.ref fa))
    {f5 f7 f8 f9 f10 f11 f12 f13 f14 f16 f17 f18 f19 f20 f21 f22 f23 f26 f27 f28 f29 f30 f31 f32 f33 f34 f35 f36 f37 f38 f40 f41 f42 f43 : Addr} {od5 an5 od7 an7 od8 an8 od9 an9 od10 an10 od11 an11 od12 an12 od13 an13 od14 an14 od16 an16 od17 an17 od18 an18 od19 an19 od20 an20 od21 an21 od22 an22 od23 an23 od26 an26 od27 an27 od28 an28 od29 an29 od30 an30 od31 an31 od32 an32 od33 an33 od34 an34 od35 an35 od36 an36 od37 an37 od38 an38 od40 an40 od41 an41 od42 an42 od43 an43 : Option Addr} {sl5 sl7 sl8 sl9 sl10 sl11 sl12 sl13 sl14 sl16 sl17 sl18 sl19 sl20 sl21 sl22 sl23 sl26 sl27 sl28 sl29 sl30 sl31 sl32 sl33 sl34 sl35 sl36 sl37 sl38 sl40 sl41 sl42 sl43 : Array (Option Value)}
    {oc5 kV5 dc5 pm5 cd5 ct5 oc7 kV7 dc7 pm7 cd7 ct7 oc8 kV8 dc8 pm8 cd8 ct8 oc9 kV9 dc9 pm9 cd9 ct9 oc10 kV10 dc10 pm10 cd10 ct10 oc11 kV11 dc11 pm11 cd11 ct11 oc12 kV12 dc12 pm12 cd12 ct12 oc13 kV13 dc13 pm13 cd13 ct13 oc14 kV14 dc14 pm14 cd14 ct14 oc16 kV16 dc16 pm16 cd16 ct16 oc17 kV17 dc17 pm17 cd17 ct17 oc18 kV18 dc18 pm18 cd18 ct18 oc19 kV19 dc19 pm19 cd19 ct19 oc20 kV20 dc20 pm20 cd20 ct20 oc21 kV21 dc21 pm21 cd21 ct21 oc22 kV22 dc22 pm22 cd22 ct22 oc23 kV23 dc23 pm23 cd23 ct23 oc26 kV26 dc26 pm26 cd26 ct26 oc27 kV27 dc27 pm27 cd27 ct27 oc28 kV28 dc28 pm28 cd28 ct28 oc29 kV29 dc29 pm29 cd29 ct29 oc30 kV30 dc30 pm30 cd30 ct30 oc31 kV31 dc31 pm31 cd31 ct31 oc32 kV32 dc32 pm32 cd32 ct32 oc33 kV33 dc33 pm33 cd33 ct33 oc34 kV34 dc34 pm34 cd34 ct34 oc35 kV35 dc35 pm35 cd35 ct35 oc36 kV36 dc36 pm36 cd36 ct36 oc37 kV37 dc37 pm37 cd37 ct37 oc38 kV38 dc38 pm38 cd38 ct38 oc40 kV40 dc40 pm40 cd40 ct40 oc41 kV41 dc41 pm41 cd41 ct41 oc42 kV42 dc42 pm42 cd42 ct42 oc43 kV43 dc43 pm43 cd43 ct43 : Value}
    (a5 : PySem.W.nsIn K mainGlobals "atoms_of" = some (some (.ref f5))) (l5 : FnL K "atoms_of" sAtomsOf kV5 f5 oc5 dc5 pm5 cd5 ct5 od5 an5 sl5)
    (c5 : PySem.W.codeIn K cd5 "atoms_of" = true) (k5 : PySem.W.keepIn K (.ref f5) = true)
    (a7 : PySem.W.nsIn K mainGlobals "is_letter" = some (some (.ref f7))) (l7 : FnL K "is_letter" sIsLetter kV7 f7 oc7 dc7 pm7 cd7 ct7 od7 an7 sl7)
    (c7 : PySem.W.codeIn K cd7 "is_letter" = true) (k7 : PySem.W.keepIn K (.ref f7) = true)
    (a8 : PySem.W.nsIn K mainGlobals "is_round" = some (some (.ref f8))) (l8 : FnL K "is_round" sIsRound kV8 f8 oc8 dc8 pm8 cd8 ct8 od8 an8 sl8)
    (c8 : PySem.W.codeIn K cd8 "is_round" = true) (k8 : PySem.W.keepIn K (.ref f8) = true)
    (a9 : PySem.W.nsIn K mainGlobals "until_truths" = some (some (.ref f9))) (l9 : FnL K "until_truths" sUntilT kV9 f9 oc9 dc9 pm9 cd9 ct9 od9 an9 sl9)
    (c9 : PySem.W.codeIn K cd9 "until_truths" = true) (k9 : PySem.W.keepIn K (.ref f9) = true)
    (a10 : PySem.W.nsIn K mainGlobals "ever_truths" = some (some (.ref f10))) (l10 : FnL K "ever_truths" sEverT kV10 f10 oc10 dc10 pm10 cd10 ct10 od10 an10 sl10)
    (c10 : PySem.W.codeIn K cd10 "ever_truths" = true) (k10 : PySem.W.keepIn K (.ref f10) = true)
    (a11 : PySem.W.nsIn K mainGlobals "turned_truths" = some (some (.ref f11))) (l11 : FnL K "turned_truths" sTurnedT kV11 f11 oc11 dc11 pm11 cd11 ct11 od11 an11 sl11)
    (c11 : PySem.W.codeIn K cd11 "turned_truths" = true) (k11 : PySem.W.keepIn K (.ref f11) = true)
    (a12 : PySem.W.nsIn K mainGlobals "joined_truths" = some (some (.ref f12))) (l12 : FnL K "joined_truths" sJoinedT kV12 f12 oc12 dc12 pm12 cd12 ct12 od12 an12 sl12)
    (c12 : PySem.W.codeIn K cd12 "joined_truths" = true) (k12 : PySem.W.keepIn K (.ref f12) = true)
    (a13 : PySem.W.nsIn K mainGlobals "truths_of" = some (some (.ref f13))) (l13 : FnL K "truths_of" sTruths kV13 f13 oc13 dc13 pm13 cd13 ct13 od13 an13 sl13)
    (c13 : PySem.W.codeIn K cd13 "truths_of" = true) (k13 : PySem.W.keepIn K (.ref f13) = true)
    (a14 : PySem.W.nsIn K mainGlobals "holds" = some (some (.ref f14))) (l14 : FnL K "holds" sHolds kV14 f14 oc14 dc14 pm14 cd14 ct14 od14 an14 sl14)
    (c14 : PySem.W.codeIn K cd14 "holds" = true) (k14 : PySem.W.keepIn K (.ref f14) = true)
    (a16 : PySem.W.nsIn K mainGlobals "_law_left" = some (some (.ref f16))) (l16 : FnL K "_law_left" sLeft kV16 f16 oc16 dc16 pm16 cd16 ct16 od16 an16 sl16)
    (c16 : PySem.W.codeIn K cd16 "_law_left" = true) (k16 : PySem.W.keepIn K (.ref f16) = true)
    (a17 : PySem.W.nsIn K mainGlobals "_law_digit" = some (some (.ref f17))) (l17 : FnL K "_law_digit" sDigit kV17 f17 oc17 dc17 pm17 cd17 ct17 od17 an17 sl17)
    (c17 : PySem.W.codeIn K cd17 "_law_digit" = true) (k17 : PySem.W.keepIn K (.ref f17) = true)
    (a18 : PySem.W.nsIn K mainGlobals "_law_low" = some (some (.ref f18))) (l18 : FnL K "_law_low" sLow kV18 f18 oc18 dc18 pm18 cd18 ct18 od18 an18 sl18)
    (c18 : PySem.W.codeIn K cd18 "_law_low" = true) (k18 : PySem.W.keepIn K (.ref f18) = true)
    (a19 : PySem.W.nsIn K mainGlobals "_law_plus" = some (some (.ref f19))) (l19 : FnL K "_law_plus" sLPlus kV19 f19 oc19 dc19 pm19 cd19 ct19 od19 an19 sl19)
    (c19 : PySem.W.codeIn K cd19 "_law_plus" = true) (k19 : PySem.W.keepIn K (.ref f19) = true)
    (a20 : PySem.W.nsIn K mainGlobals "_law_times" = some (some (.ref f20))) (l20 : FnL K "_law_times" sLTimes kV20 f20 oc20 dc20 pm20 cd20 ct20 od20 an20 sl20)
    (c20 : PySem.W.codeIn K cd20 "_law_times" = true) (k20 : PySem.W.keepIn K (.ref f20) = true)
    (a21 : PySem.W.nsIn K mainGlobals "_law_share" = some (some (.ref f21))) (l21 : FnL K "_law_share" sShare kV21 f21 oc21 dc21 pm21 cd21 ct21 od21 an21 sl21)
    (c21 : PySem.W.codeIn K cd21 "_law_share" = true) (k21 : PySem.W.keepIn K (.ref f21) = true)
    (a22 : PySem.W.nsIn K mainGlobals "_law_line" = some (some (.ref f22))) (l22 : FnL K "_law_line" sLine kV22 f22 oc22 dc22 pm22 cd22 ct22 od22 an22 sl22)
    (c22 : PySem.W.codeIn K cd22 "_law_line" = true) (k22 : PySem.W.keepIn K (.ref f22) = true)
    (a23 : PySem.W.nsIn K mainGlobals "_law_worth" = some (some (.ref f23))) (l23 : FnL K "_law_worth" sWorth kV23 f23 oc23 dc23 pm23 cd23 ct23 od23 an23 sl23)
    (c23 : PySem.W.codeIn K cd23 "_law_worth" = true) (k23 : PySem.W.keepIn K (.ref f23) = true)
    (a26 : PySem.W.nsIn K mainGlobals "_law_scaled_line" = some (some (.ref f26))) (l26 : FnL K "_law_scaled_line" sScaled kV26 f26 oc26 dc26 pm26 cd26 ct26 od26 an26 sl26)
    (c26 : PySem.W.codeIn K cd26 "_law_scaled_line" = true) (k26 : PySem.W.keepIn K (.ref f26) = true)
    (a27 : PySem.W.nsIn K mainGlobals "_law_moved" = some (some (.ref f27))) (l27 : FnL K "_law_moved" sMoved kV27 f27 oc27 dc27 pm27 cd27 ct27 od27 an27 sl27)
    (c27 : PySem.W.codeIn K cd27 "_law_moved" = true) (k27 : PySem.W.keepIn K (.ref f27) = true)
    (a28 : PySem.W.nsIn K mainGlobals "_law_set_of" = some (some (.ref f28))) (l28 : FnL K "_law_set_of" sSetOf kV28 f28 oc28 dc28 pm28 cd28 ct28 od28 an28 sl28)
    (c28 : PySem.W.codeIn K cd28 "_law_set_of" = true) (k28 : PySem.W.keepIn K (.ref f28) = true)
    (a29 : PySem.W.nsIn K mainGlobals "_law_gone" = some (some (.ref f29))) (l29 : FnL K "_law_gone" sGone kV29 f29 oc29 dc29 pm29 cd29 ct29 od29 an29 sl29)
    (c29 : PySem.W.codeIn K cd29 "_law_gone" = true) (k29 : PySem.W.keepIn K (.ref f29) = true)
    (a30 : PySem.W.nsIn K mainGlobals "_law_along" = some (some (.ref f30))) (l30 : FnL K "_law_along" sAlong kV30 f30 oc30 dc30 pm30 cd30 ct30 od30 an30 sl30)
    (c30 : PySem.W.codeIn K cd30 "_law_along" = true) (k30 : PySem.W.keepIn K (.ref f30) = true)
    (a31 : PySem.W.nsIn K mainGlobals "_law_wishes_for" = some (some (.ref f31))) (l31 : FnL K "_law_wishes_for" sWishesFor kV31 f31 oc31 dc31 pm31 cd31 ct31 od31 an31 sl31)
    (c31 : PySem.W.codeIn K cd31 "_law_wishes_for" = true) (k31 : PySem.W.keepIn K (.ref f31) = true)
    (a32 : PySem.W.nsIn K mainGlobals "_law_rests" = some (some (.ref f32))) (l32 : FnL K "_law_rests" sRests kV32 f32 oc32 dc32 pm32 cd32 ct32 od32 an32 sl32)
    (c32 : PySem.W.codeIn K cd32 "_law_rests" = true) (k32 : PySem.W.keepIn K (.ref f32) = true)
    (a33 : PySem.W.nsIn K mainGlobals "_law_parts" = some (some (.ref f33))) (l33 : FnL K "_law_parts" sParts kV33 f33 oc33 dc33 pm33 cd33 ct33 od33 an33 sl33)
    (c33 : PySem.W.codeIn K cd33 "_law_parts" = true) (k33 : PySem.W.keepIn K (.ref f33) = true)
    (a34 : PySem.W.nsIn K mainGlobals "_law_machine_rows" = some (some (.ref f34))) (l34 : FnL K "_law_machine_rows" sRows kV34 f34 oc34 dc34 pm34 cd34 ct34 od34 an34 sl34)
    (c34 : PySem.W.codeIn K cd34 "_law_machine_rows" = true) (k34 : PySem.W.keepIn K (.ref f34) = true)
    (a35 : PySem.W.nsIn K mainGlobals "_law_moment" = some (some (.ref f35))) (l35 : FnL K "_law_moment" sMoment kV35 f35 oc35 dc35 pm35 cd35 ct35 od35 an35 sl35)
    (c35 : PySem.W.codeIn K cd35 "_law_moment" = true) (k35 : PySem.W.keepIn K (.ref f35) = true)
    (a36 : PySem.W.nsIn K mainGlobals "_law_run_drawn" = some (some (.ref f36))) (l36 : FnL K "_law_run_drawn" sRun kV36 f36 oc36 dc36 pm36 cd36 ct36 od36 an36 sl36)
    (c36 : PySem.W.codeIn K cd36 "_law_run_drawn" = true) (k36 : PySem.W.keepIn K (.ref f36) = true)
    (a37 : PySem.W.nsIn K mainGlobals "_law_atom" = some (some (.ref f37))) (l37 : FnL K "_law_atom" sAtom kV37 f37 oc37 dc37 pm37 cd37 ct37 od37 an37 sl37)
    (c37 : PySem.W.codeIn K cd37 "_law_atom" = true) (k37 : PySem.W.keepIn K (.ref f37) = true)
    (a38 : PySem.W.nsIn K mainGlobals "_law_saying" = some (some (.ref f38))) (l38 : FnL K "_law_saying" sSaying kV38 f38 oc38 dc38 pm38 cd38 ct38 od38 an38 sl38)
    (c38 : PySem.W.codeIn K cd38 "_law_saying" = true) (k38 : PySem.W.keepIn K (.ref f38) = true)
    (a40 : PySem.W.nsIn K mainGlobals "_law_round" = some (some (.ref f40))) (l40 : FnL K "_law_round" sRound kV40 f40 oc40 dc40 pm40 cd40 ct40 od40 an40 sl40)
    (c40 : PySem.W.codeIn K cd40 "_law_round" = true) (k40 : PySem.W.keepIn K (.ref f40) = true)
    (a41 : PySem.W.nsIn K mainGlobals "_law_held" = some (some (.ref f41))) (l41 : FnL K "_law_held" sHeld kV41 f41 oc41 dc41 pm41 cd41 ct41 od41 an41 sl41)
    (c41 : PySem.W.codeIn K cd41 "_law_held" = true) (k41 : PySem.W.keepIn K (.ref f41) = true)
    (a42 : PySem.W.nsIn K mainGlobals "_law_right" = some (some (.ref f42))) (l42 : FnL K "_law_right" sRight kV42 f42 oc42 dc42 pm42 cd42 ct42 od42 an42 sl42)
    (c42 : PySem.W.codeIn K cd42 "_law_right" = true) (k42 : PySem.W.keepIn K (.ref f42) = true)
    (a43 : PySem.W.nsIn K mainGlobals "law" = some (some (.ref f43))) (l43 : FnL K "law" sLaw kV43 f43 oc43 dc43 pm43 cd43 ct43 od43 an43 sl43)
    (c43 : PySem.W.codeIn K cd43 "law" = true) (k43 : PySem.W.keepIn K (.ref f43) = true)
    (gT : PySem.W.nsIn K mainGlobals "ATOMS" = some (some (.ref aT))) {oT : Obj} {nT : Nat} {tT0 tT1 tT2 : Tok} (pT : K.lookup aT = some oT) (qT : oT.cls = .type "tuple") (rT : oT.data = .seq #[.str "place" tT0, .str "deed" tT1, .str "wish" tT2] nT)
    (gC : PySem.W.nsIn K mainGlobals "NoRound" = some (some (.ref C)))
    (xC : PySem.W.excIn K C [.type "ValueError", .type "Exception", .type "BaseException", .type "object"] "ValueError.__new__" = true)
    (kC : PySem.W.keepIn K (.ref C) = true) (bC : PySem.W.subIn K (.ref C) (.type "BaseException") = some true) (tC : PySem.W.typeIn K (.ref C) = some (.type "type"))
    (zA : PySem.W.nsIn K mainGlobals "abs" = some none) (zR : PySem.W.nsIn K mainGlobals "range" = some none) (zI : PySem.W.nsIn K mainGlobals "isinstance" = some none) (zL : PySem.W.nsIn K mainGlobals "len" = some none) (zT : PySem.W.nsIn K mainGlobals "tuple" = some none) (zS : PySem.W.nsIn K mainGlobals "sorted" = some none) (zl : PySem.W.nsIn K mainGlobals "list" = some none) (zD : PySem.W.nsIn K mainGlobals "dict" = some none) (zi : PySem.W.nsIn K mainGlobals "int" = some none) (zP : PySem.W.nsIn K mainGlobals "repr" = some none) (zB : PySem.W.nsIn K mainGlobals "bool" = some none) (zV : PySem.W.nsIn K mainGlobals "reversed" = some none) (za : PySem.W.nsIn K mainGlobals "all" = some none) (zz : PySem.W.nsIn K mainGlobals "zip" = some none)
    (base : Heap) (H : Hp) (s : Shared) (a : Addr) (ns : List Int) (hn : ns.length ≤ 63) (hS : SqL K H a (ns.map V.int))
    (e0 : Env0 P w K mg base callerA [] s H) :
    codeAny (model P w) callerA (.call (.ref fa) ⟨[.ref a], []⟩) (CR CX0 [] P w H s (fun v _ => v = .bl true) fun _ _ _ => False) s := by
  have e := hfa.symm.trans (PySem.W.mg_of X G a43)
  cases e
  have F5 := fun_mk (st := sAtomsOf) l5 c5 k5
  have b5 := F5.binds (ps := ["saying"]) fun _ _ _ _ _ _ us hl => match us, hl with | [_], _ => rfl
  have g5 := PySem.W.mg_of X G a5
  have F7 := fun_mk (st := sIsLetter) l7 c7 k7
  have b7 := F7.binds (ps := ["thing", "many"]) fun _ _ _ _ _ _ us hl => match us, hl with | [_, _], _ => rfl
  have g7 := PySem.W.mg_of X G a7
  have F8 := fun_mk (st := sIsRound) l8 c8 k8
  have b8 := F8.binds (ps := ["thing", "many"]) fun _ _ _ _ _ _ us hl => match us, hl with | [_, _], _ => rfl
  have g8 := PySem.W.mg_of X G a8
  have F9 := fun_mk (st := sUntilT) l9 c9 k9
  have b9 := F9.binds (ps := ["first", "second", "again"]) fun _ _ _ _ _ _ us hl => match us, hl with | [_, _, _], _ => rfl
  have g9 := PySem.W.mg_of X G a9
  have F10 := fun_mk (st := sEverT) l10 c10 k10
  have b10 := F10.binds (ps := ["some", "again"]) fun _ _ _ _ _ _ us hl => match us, hl with | [_, _], _ => rfl
  have g10 := PySem.W.mg_of X G a10
  have F11 := fun_mk (st := sTurnedT) l11 c11 k11
  have b11 := F11.binds (ps := ["some"]) fun _ _ _ _ _ _ us hl => match us, hl with | [_], _ => rfl
  have g11 := PySem.W.mg_of X G a11
  have F12 := fun_mk (st := sJoinedT) l12 c12 k12
  have b12 := F12.binds (ps := ["word", "halves", "again"]) fun _ _ _ _ _ _ us hl => match us, hl with | [_, _, _], _ => rfl
  have g12 := PySem.W.mg_of X G a12
  have F13 := fun_mk (st := sTruths) l13 c13 k13
  have b13 := F13.binds (ps := ["saying", "atoms", "letters", "again"]) fun _ _ _ _ _ _ us hl => match us, hl with | [_, _, _, _], _ => rfl
  have g13 := PySem.W.mg_of X G a13
  have F14 := fun_mk (st := sHolds) l14 c14 k14
  have b14 := F14.binds (ps := ["saying", "thing"]) fun _ _ _ _ _ _ us hl => match us, hl with | [_, _], _ => rfl
  have g14 := PySem.W.mg_of X G a14
  have F16 := fun_mk (st := sLeft) l16 c16 k16
  have b16 := F16.binds (ps := ["_law_cell"]) fun _ _ _ _ _ _ us hl => match us, hl with | [_], _ => rfl
  have g16 := PySem.W.mg_of X G a16
  have F17 := fun_mk (st := sDigit) l17 c17 k17
  have b17 := F17.binds (ps := ["_law_left_here", "_law_upto"]) fun _ _ _ _ _ _ us hl => match us, hl with | [_, _], _ => rfl
  have g17 := PySem.W.mg_of X G a17
  have F18 := fun_mk (st := sLow) l18 c18 k18
  have b18 := F18.binds (ps := ["_law_top", "_law_bottom"]) fun _ _ _ _ _ _ us hl => match us, hl with | [_, _], _ => rfl
  have g18 := PySem.W.mg_of X G a18
  have F19 := fun_mk (st := sLPlus) l19 c19 k19
  have b19 := F19.binds (ps := ["_law_one", "_law_other"]) fun _ _ _ _ _ _ us hl => match us, hl with | [_, _], _ => rfl
  have g19 := PySem.W.mg_of X G a19
  have F20 := fun_mk (st := sLTimes) l20 c20 k20
  have b20 := F20.binds (ps := ["_law_one", "_law_other"]) fun _ _ _ _ _ _ us hl => match us, hl with | [_, _], _ => rfl
  have g20 := PySem.W.mg_of X G a20
  have F21 := fun_mk (st := sShare) l21 c21 k21
  have b21 := F21.binds (ps := ["_law_left_here"]) fun _ _ _ _ _ _ us hl => match us, hl with | [_], _ => rfl
  have g21 := PySem.W.mg_of X G a21
  have F22 := fun_mk (st := sLine) l22 c22 k22
  have b22 := F22.binds (ps := ["_law_left_here", "_law_names"]) fun _ _ _ _ _ _ us hl => match us, hl with | [_, _], _ => rfl
  have g22 := PySem.W.mg_of X G a22
  have F23 := fun_mk (st := sWorth) l23 c23 k23
  have b23 := F23.binds (ps := ["_law_line_here", "_law_numbers"]) fun _ _ _ _ _ _ us hl => match us, hl with | [_, _], _ => rfl
  have g23 := PySem.W.mg_of X G a23
  have F26 := fun_mk (st := sScaled) l26 c26 k26
  have b26 := F26.binds (ps := ["_law_line_here", "_law_by"]) fun _ _ _ _ _ _ us hl => match us, hl with | [_, _], _ => rfl
  have g26 := PySem.W.mg_of X G a26
  have F27 := fun_mk (st := sMoved) l27 c27 k27
  have b27 := F27.binds (ps := ["_law_line_here", "_law_much"]) fun _ _ _ _ _ _ us hl => match us, hl with | [_, _], _ => rfl
  have g27 := PySem.W.mg_of X G a27
  have F28 := fun_mk (st := sSetOf) l28 c28 k28
  have b28 := F28.binds (ps := ["_law_left_here", "_law_can_read"]) fun _ _ _ _ _ _ us hl => match us, hl with | [_, _], _ => rfl
  have g28 := PySem.W.mg_of X G a28
  have F29 := fun_mk (st := sGone) l29 c29 k29
  have b29 := F29.binds (ps := ["_law_numbers", "_law_sets", "_law_given"]) fun _ _ _ _ _ _ us hl => match us, hl with | [_, _, _], _ => rfl
  have g29 := PySem.W.mg_of X G a29
  have F30 := fun_mk (st := sAlong) l30 c30 k30
  have b30 := F30.binds (ps := ["_law_numbers", "_law_rows", "_law_given"]) fun _ _ _ _ _ _ us hl => match us, hl with | [_, _, _], _ => rfl
  have g30 := PySem.W.mg_of X G a30
  have F31 := fun_mk (st := sWishesFor) l31 c31 k31
  have b31 := F31.binds (ps := ["_law_left_here", "_law_here", "_law_later"]) fun _ _ _ _ _ _ us hl => match us, hl with | [_, _, _], _ => rfl
  have g31 := PySem.W.mg_of X G a31
  have F32 := fun_mk (st := sRests) l32 c32 k32
  have b32 := F32.binds (ps := ["_law_left_here", "_law_moments", "_law_machines"]) fun _ _ _ _ _ _ us hl => match us, hl with | [_, _, _], _ => rfl
  have g32 := PySem.W.mg_of X G a32
  have F33 := fun_mk (st := sParts) l33 c33 k33
  have b33 := F33.binds (ps := ["_law_left_here"]) fun _ _ _ _ _ _ us hl => match us, hl with | [_], _ => rfl
  have g33 := PySem.W.mg_of X G a33
  have F34 := fun_mk (st := sRows) l34 c34 k34
  have b34 := F34.binds (ps := ["_law_left_here", "_law_own"]) fun _ _ _ _ _ _ us hl => match us, hl with | [_, _], _ => rfl
  have g34 := PySem.W.mg_of X G a34
  have F35 := fun_mk (st := sMoment) l35 c35 k35
  have b35 := F35.binds (ps := ["_law_own", "_law_at", "_law_machines", "_law_helped"]) fun _ _ _ _ _ _ us hl => match us, hl with | [_, _, _, _], _ => rfl
  have g35 := PySem.W.mg_of X G a35
  have F36 := fun_mk (st := sRun) l36 c36 k36
  have b36 := F36.binds (ps := ["_law_left_here"]) fun _ _ _ _ _ _ us hl => match us, hl with | [_], _ => rfl
  have g36 := PySem.W.mg_of X G a36
  have F37 := fun_mk (st := sAtom) l37 c37 k37
  have b37 := F37.binds (ps := ["_law_left_here", "_law_system"]) fun _ _ _ _ _ _ us hl => match us, hl with | [_, _], _ => rfl
  have g37 := PySem.W.mg_of X G a37
  have F38 := fun_mk (st := sSaying) l38 c38 k38
  have b38 := F38.binds (ps := ["_law_left_here", "_law_atoms", "_law_deep"]) fun _ _ _ _ _ _ us hl => match us, hl with | [_, _, _], _ => rfl
  have g38 := PySem.W.mg_of X G a38
  have F40 := fun_mk (st := sRound) l40 c40 k40
  have b40 := F40.binds (ps := ["_law_left_here", "_law_atoms"]) fun _ _ _ _ _ _ us hl => match us, hl with | [_, _], _ => rfl
  have g40 := PySem.W.mg_of X G a40
  have F41 := fun_mk (st := sHeld) l41 c41 k41
  have b41 := F41.binds (ps := ["_law_saying_here", "_law_stem", "_law_lap"]) fun _ _ _ _ _ _ us hl => match us, hl with | [_, _, _], _ => rfl
  have g41 := PySem.W.mg_of X G a41
  have F42 := fun_mk (st := sRight) l42 c42 k42
  have b42 := F42.binds (ps := ["_law_one", "_law_other", "_law_stem", "_law_lap"]) fun _ _ _ _ _ _ us hl => match us, hl with | [_, _, _, _], _ => rfl
  have g42 := PySem.W.mg_of X G a42
  have mzA := PySem.W.mg_none_of X G zA
  have mzR := PySem.W.mg_none_of X G zR
  have mzI := PySem.W.mg_none_of X G zI
  have mzL := PySem.W.mg_none_of X G zL
  have mzT := PySem.W.mg_none_of X G zT
  have mzS := PySem.W.mg_none_of X G zS
  have mzl := PySem.W.mg_none_of X G zl
  have mzD := PySem.W.mg_none_of X G zD
  have mzi := PySem.W.mg_none_of X G zi
  have mzP := PySem.W.mg_none_of X G zP
  have mzB := PySem.W.mg_none_of X G zB
  have mzV := PySem.W.mg_none_of X G zV
  have mza := PySem.W.mg_none_of X G za
  have mzz := PySem.W.mg_none_of X G zz
  have hT : TxtsAt K aT ["place", "deed", "wish"] := fun H => .inr ⟨oT, _, nT, pT, qT, rT, by show 3 ≤ sizeLine; decide, (.cons ⟨tT0, rfl⟩ (.cons ⟨tT1, rfl⟩ (.cons ⟨tT2, rfl⟩ .nil)))⟩
  have GT := PySem.W.mg_of X G gT
  have LF : Cl P w K mg base CX0 1 "_law_left" ["_law_cell"] spLeft f16 _ := ⟨g16, ok_left F16 mzA mzR, k16, b16⟩
  have DI : Cl P w K mg base CX0 1 "_law_digit" ["_law_left_here", "_law_upto"] spDigit f17 _ := ⟨g17, ok_digit F17, k17, b17⟩
  have LW : Cl P w K mg base CX0 1 "_law_low" ["_law_top", "_law_bottom"] spRed f18 _ := ⟨g18, ok_low F18 mzA, k18, b18⟩
  have PL : Cl P w K mg base CX0 2 "_law_plus" ["_law_one", "_law_other"] (spTwo K pl) f19 _ := ⟨g19, ok_lplus F19 LW.ok k18 b18 g18, k19, b19⟩
  have TM : Cl P w K mg base CX0 2 "_law_times" ["_law_one", "_law_other"] (spTwo K tm) f20 _ := ⟨g20, ok_ltimes F20 LW.ok k18 b18 g18, k20, b20⟩
  have SH : Cl P w K mg base CX0 2 "_law_share" ["_law_left_here"] spDraw f21 _ := ⟨g21, ok_share F21 LW.ok k18 b18 g18 DI.ok k17 b17 g17, k21, b21⟩
  have LN : Cl P w K mg base CX0 3 "_law_line" ["_law_left_here", "_law_names"] (spLine K) f22 _ := ⟨g22, ok_line F22 DI SH mzT mzS, k22, b22⟩
  have WO : Cl P w K mg base CX0 3 "_law_worth" ["_law_line_here", "_law_numbers"] (spWorth K) f23 _ := ⟨g23, ok_worth F23 PL TM, k23, b23⟩
  have SC : Cl P w K mg base CX0 3 "_law_scaled_line" ["_law_line_here", "_law_by"] (spLnS K) f26 _ := ⟨g26, ok_scaled F26 TM mzT, k26, b26⟩
  have MO : Cl P w K mg base CX0 3 "_law_moved" ["_law_line_here", "_law_much"] (spLnS K) f27 _ := ⟨g27, ok_moved F27 PL, k27, b27⟩
  have SO : Cl P w K mg base CX0 2 "_law_set_of" ["_law_left_here", "_law_can_read"] (spSetOf K) f28 _ := ⟨g28, ok_setOf F28 DI LW, k28, b28⟩
  have GO : Cl P w K mg base CX0 4 "_law_gone" ["_law_numbers", "_law_sets", "_law_given"] (spGone K) f29 _ := ⟨g29, ok_gone F29 WO mzD, k29, b29⟩
  have AL : Cl P w K mg base CX0 5 "_law_along" ["_law_numbers", "_law_rows", "_law_given"] (spAlong K) f30 _ := ⟨g30, ok_along F30 GO, k30, b30⟩
  have WI : Cl P w K mg base CX0 4 "_law_wishes_for" ["_law_left_here", "_law_here", "_law_later"] (spWishes K) f31 _ := ⟨g31, ok_wishesFor F31 DI LW PL TM LN WO SC MO mzT mzR, k31, b31⟩
  have RE : Cl P w K mg base CX0 2 "_law_rests" ["_law_left_here", "_law_moments", "_law_machines"] spRests f32 _ := ⟨g32, ok_rests F32 DI, k32, b32⟩
  have PA : Cl P w K mg base CX0 3 "_law_parts" ["_law_left_here"] (spParts K) f33 _ := ⟨g33, ok_parts F33 DI SH SO PL mzR mzD mzT, k33, b33⟩
  have RO : Cl P w K mg base CX0 6 "_law_machine_rows" ["_law_left_here", "_law_own"] (spRows K) f34 _ := ⟨g34, ok_rows F34 AL PL WI mzR mzT, k34, b34⟩
  have MT : Cl P w K mg base CX0 1 "_law_moment" ["_law_own", "_law_at", "_law_machines", "_law_helped"] (spMoment K) f35 _ := ⟨g35, ok_moment F35 mzi mzT, k35, b35⟩
  have RU : Cl P w K mg base CX0 7 "_law_run_drawn" ["_law_left_here"] (spRun K) f36 _ := ⟨g36, ok_run F36 DI PA RO WI MT RE mzR mzT mzS mzL, k36, b36⟩
  have AM : Cl P w K mg base CX0 4 "_law_atom" ["_law_left_here", "_law_system"] (spAtom K) f37 _ := ⟨g37, ok_atom F37 DI LN mzL mzl, k37, b37⟩
  have SA : Cl P w K mg base CX0 4 "_law_saying" ["_law_left_here", "_law_atoms", "_law_deep"] (spSayA K) f38 _ := ⟨g38, fn_ex fun ds => ok_saying F38 g38 k38 b38 DI mzL (Pr := Has ds) .yes (fun u s h => .un h) (fun u s t h1 h2 => .bi h1 h2) 3, k38, b38⟩
  have AO : Cl P w K mg base CX0 7 "atoms_of" ["saying"] (spAtoms K 6) f5 _ := ⟨g5, ok_atoms F5 g5 k5 b5 GT hT 6 (by decide), k5, b5⟩
  have UT : Cl P w K mg base CX0 1 "until_truths" ["first", "second", "again"] spUntilT f9 _ := ⟨g9, ok_untilT F9 mzR mzV mzL, k9, b9⟩
  have EV : Cl P w K mg base CX0 2 "ever_truths" ["some", "again"] spEverT f10 _ := ⟨g10, ok_everT F10 UT, k10, b10⟩
  have TU : Cl P w K mg base CX0 1 "turned_truths" ["some"] spTurnedT f11 _ := ⟨g11, ok_turnedT F11, k11, b11⟩
  have JT : Cl P w K mg base CX0 3 "joined_truths" ["word", "halves", "again"] spJoinedT f12 _ := ⟨g12, ok_joinedT F12 UT EV TU mzz, k12, b12⟩
  have TR : Cl P w K mg base CX0 10 "truths_of" ["saying", "atoms", "letters", "again"] (spTruths K 6) f13 _ := ⟨g13, ok_truths F13 g13 k13 b13 GT hT JT 6 (by decide), k13, b13⟩
  have IL : Cl P w K mg base CX0 1 "is_letter" ["thing", "many"] spIsLetter f7 _ := ⟨g7, ok_isLetter F7 mzI mzT mzL mza, k7, b7⟩
  have IR : Cl P w K mg base CX0 2 "is_round" ["thing", "many"] spIsRound f8 _ := ⟨g8, ok_isRound F8 IL mzI mzT mzl mzL mza, k8, b8⟩
  have HO : Cl P w K mg base (L2.CX P w) 11 "holds" ["saying", "thing"] (spHolds K 6 C) f14 _ := ⟨g14, ok_holds F14 AO IR TR mzL (PySem.W.mg_of X G gC) xC kC bC tC, k14, b14⟩
  have RD : ClG P w K mg base CX0 2 "_law_round" ["_law_left_here", "_law_atoms"] (spRound K) f40 _ := ⟨g40, ok_round F40 DI mzR mzD mzL mzP, k40, b40⟩
  have HD : ClG P w K mg base CX0 12 "_law_held" ["_law_saying_here", "_law_stem", "_law_lap"] (spHeld K) f41 _ := ⟨g41, ok_held F41 AO HO mzT mzP, k41, b41⟩
  have RI : ClG P w K mg base CX0 13 "_law_right" ["_law_one", "_law_other", "_law_stem", "_law_lap"] (spRight K) f42 _ := ⟨g42, ok_right F42 HD, k42, b42⟩
  refine body_at (k := 13) (N := NLw) (ps := ["_law_script"]) (vs := [.ref a]) (us := [.ref a]) l43 c43 scLaw rfl ⟨rfl, by decide, by decide⟩ e0 (.of_eq rfl) (.cons rfl .nil) fun hr => ?_
  exact law_body LF RU AM SA RD RI mzR hr hS hn
end W25

open PySem PySem.W PyProof.Rows
set_option maxHeartbeats 0 in
theorem PySem.Challenge.cw_glassladder_k25_whole_said_otherwise_holds : PySem.Challenge.rw_glassladder_k25_whole_said_otherwise.Holds := by
  w_on; o_law; k_head; (case hw => w_witness2)
  k_fill
  refine Gs.walk_at1 (l := PySem.Challenge.rw_glassladder_k25_whole_said_otherwise) (n := 63) rfl (by decide) rfl (fun w h Y => PySem.W.kIn_of Y) ?F
  case F =>
    intro w mg fa h KX G hmg base H s a ns hn _ _ hS e0
    refine' W25.all_mk KX G hmg ?a5 ?l5 ?c5 ?k5 ?a7 ?l7 ?c7 ?k7 ?a8 ?l8 ?c8 ?k8 ?a9 ?l9 ?c9 ?k9 ?a10 ?l10 ?c10 ?k10 ?a11 ?l11 ?c11 ?k11 ?a12 ?l12 ?c12 ?k12 ?a13 ?l13 ?c13 ?k13 ?a14 ?l14 ?c14 ?k14 ?a16 ?l16 ?c16 ?k16 ?a17 ?l17 ?c17 ?k17 ?a18 ?l18 ?c18 ?k18 ?a19 ?l19 ?c19 ?k19 ?a20 ?l20 ?c20 ?k20 ?a21 ?l21 ?c21 ?k21 ?a22 ?l22 ?c22 ?k22 ?a23 ?l23 ?c23 ?k23 ?a26 ?l26 ?c26 ?k26 ?a27 ?l27 ?c27 ?k27 ?a28 ?l28 ?c28 ?k28 ?a29 ?l29 ?c29 ?k29 ?a30 ?l30 ?c30 ?k30 ?a31 ?l31 ?c31 ?k31 ?a32 ?l32 ?c32 ?k32 ?a33 ?l33 ?c33 ?k33 ?a34 ?l34 ?c34 ?k34 ?a35 ?l35 ?c35 ?k35 ?a36 ?l36 ?c36 ?k36 ?a37 ?l37 ?c37 ?k37 ?a38 ?l38 ?c38 ?k38 ?a40 ?l40 ?c40 ?k40 ?a41 ?l41 ?c41 ?k41 ?a42 ?l42 ?c42 ?k42 ?a43 ?l43 ?c43 ?k43 ?gT ?pT ?qT ?rT ?gC ?xC ?kC ?bC ?tC ?zA ?zR ?zI ?zL ?zT ?zS ?zl ?zD ?zi ?zP ?zB ?zV ?za ?zz base H s a ns hn hS e0
    (case a5 => first | rfl | k_is)
    (case l5 => first | rfl | k_is)
    (case c5 => first | rfl | k_is)
    (case k5 => first | rfl | k_is)
    (case a7 => first | rfl | k_is)
    (case l7 => first | rfl | k_is)
    (case c7 => first | rfl | k_is)
    (case k7 => first | rfl | k_is)
    (case a8 => first | rfl | k_is)
    (case l8 => first | rfl | k_is)
    (case c8 => first | rfl | k_is)
    (case k8 => first | rfl | k_is)
    (case a9 => first | rfl | k_is)
    (case l9 => first | rfl | k_is)
    (case c9 => first | rfl | k_is)
    (case k9 => first | rfl | k_is)
    (case a10 => first | rfl | k_is)
    (case l10 => first | rfl | k_is)
    (case c10 => first | rfl | k_is)
    (case k10 => first | rfl | k_is)
    (case a11 => first | rfl | k_is)
    (case l11 => first | rfl | k_is)
    (case c11 => first | rfl | k_is)
    (case k11 => first | rfl | k_is)
    (case a12 => first | rfl | k_is)
    (case l12 => first | rfl | k_is)
    (case c12 => first | rfl | k_is)
    (case k12 => first | rfl | k_is)
    (case a13 => first | rfl | k_is)
    (case l13 => first | rfl | k_is)
    (case c13 => first | rfl | k_is)
    (case k13 => first | rfl | k_is)
    (case a14 => first | rfl | k_is)
    (case l14 => first | rfl | k_is)
    (case c14 => first | rfl | k_is)
    (case k14 => first | rfl | k_is)
    (case a16 => first | rfl | k_is)
    (case l16 => first | rfl | k_is)
    (case c16 => first | rfl | k_is)
    (case k16 => first | rfl | k_is)
    (case a17 => first | rfl | k_is)
    (case l17 => first | rfl | k_is)
    (case c17 => first | rfl | k_is)
    (case k17 => first | rfl | k_is)
    (case a18 => first | rfl | k_is)
    (case l18 => first | rfl | k_is)
    (case c18 => first | rfl | k_is)
    (case k18 => first | rfl | k_is)
    (case a19 => first | rfl | k_is)
    (case l19 => first | rfl | k_is)
    (case c19 => first | rfl | k_is)
    (case k19 => first | rfl | k_is)
    (case a20 => first | rfl | k_is)
    (case l20 => first | rfl | k_is)
    (case c20 => first | rfl | k_is)
    (case k20 => first | rfl | k_is)
    (case a21 => first | rfl | k_is)
    (case l21 => first | rfl | k_is)
    (case c21 => first | rfl | k_is)
    (case k21 => first | rfl | k_is)
    (case a22 => first | rfl | k_is)
    (case l22 => first | rfl | k_is)
    (case c22 => first | rfl | k_is)
    (case k22 => first | rfl | k_is)
    (case a23 => first | rfl | k_is)
    (case l23 => first | rfl | k_is)
    (case c23 => first | rfl | k_is)
    (case k23 => first | rfl | k_is)
    (case a26 => first | rfl | k_is)
    (case l26 => first | rfl | k_is)
    (case c26 => first | rfl | k_is)
    (case k26 => first | rfl | k_is)
    (case a27 => first | rfl | k_is)
    (case l27 => first | rfl | k_is)
    (case c27 => first | rfl | k_is)
    (case k27 => first | rfl | k_is)
    (case a28 => first | rfl | k_is)
    (case l28 => first | rfl | k_is)
    (case c28 => first | rfl | k_is)
    (case k28 => first | rfl | k_is)
    (case a29 => first | rfl | k_is)
    (case l29 => first | rfl | k_is)
    (case c29 => first | rfl | k_is)
    (case k29 => first | rfl | k_is)
    (case a30 => first | rfl | k_is)
    (case l30 => first | rfl | k_is)
    (case c30 => first | rfl | k_is)
    (case k30 => first | rfl | k_is)
    (case a31 => first | rfl | k_is)
    (case l31 => first | rfl | k_is)
    (case c31 => first | rfl | k_is)
    (case k31 => first | rfl | k_is)
    (case a32 => first | rfl | k_is)
    (case l32 => first | rfl | k_is)
    (case c32 => first | rfl | k_is)
    (case k32 => first | rfl | k_is)
    (case a33 => first | rfl | k_is)
    (case l33 => first | rfl | k_is)
    (case c33 => first | rfl | k_is)
    (case k33 => first | rfl | k_is)
    (case a34 => first | rfl | k_is)
    (case l34 => first | rfl | k_is)
    (case c34 => first | rfl | k_is)
    (case k34 => first | rfl | k_is)
    (case a35 => first | rfl | k_is)
    (case l35 => first | rfl | k_is)
    (case c35 => first | rfl | k_is)
    (case k35 => first | rfl | k_is)
    (case a36 => first | rfl | k_is)
    (case l36 => first | rfl | k_is)
    (case c36 => first | rfl | k_is)
    (case k36 => first | rfl | k_is)
    (case a37 => first | rfl | k_is)
    (case l37 => first | rfl | k_is)
    (case c37 => first | rfl | k_is)
    (case k37 => first | rfl | k_is)
    (case a38 => first | rfl | k_is)
    (case l38 => first | rfl | k_is)
    (case c38 => first | rfl | k_is)
    (case k38 => first | rfl | k_is)
    (case a40 => first | rfl | k_is)
    (case l40 => first | rfl | k_is)
    (case c40 => first | rfl | k_is)
    (case k40 => first | rfl | k_is)
    (case a41 => first | rfl | k_is)
    (case l41 => first | rfl | k_is)
    (case c41 => first | rfl | k_is)
    (case k41 => first | rfl | k_is)
    (case a42 => first | rfl | k_is)
    (case l42 => first | rfl | k_is)
    (case c42 => first | rfl | k_is)
    (case k42 => first | rfl | k_is)
    (case a43 => first | rfl | k_is)
    (case l43 => first | rfl | k_is)
    (case c43 => first | rfl | k_is)
    (case k43 => first | rfl | k_is)
    (case gT => first | rfl | k_is)
    (case pT => first | rfl | k_is)
    (case qT => first | rfl | k_is)
    (case rT => first | rfl | k_is)
    (case gC => first | rfl | k_is)
    (case xC => k_exc)
    (case kC => first | rfl | k_is)
    (case bC => first | rfl | k_is)
    (case tC => first | rfl | k_is)
    (case zA => first | rfl | k_is)
    (case zR => first | rfl | k_is)
    (case zI => first | rfl | k_is)
    (case zL => first | rfl | k_is)
    (case zT => first | rfl | k_is)
    (case zS => first | rfl | k_is)
    (case zl => first | rfl | k_is)
    (case zD => first | rfl | k_is)
    (case zi => first | rfl | k_is)
    (case zP => first | rfl | k_is)
    (case zB => first | rfl | k_is)
    (case zV => first | rfl | k_is)
    (case za => first | rfl | k_is)
    (case zz => first | rfl | k_is)
