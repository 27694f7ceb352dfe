import PyProof.Rows.All
import Wide.All
import OpenK.AllK
import Wide.FinOn
import HandS.ForMost
import HandS.ForExc
import HandS.Wide
import HandS.Defaults
import HandS.ExcIs
import HandS.ExcValue
import PyProof.Rows.ReprR
import HandS.ExcOwn
import HandS.ExcInit
import HandS.ExcField
import HandS.IsInst
import HandS.RaiseMore
import HandS.Sort
import PyProof.Rows.SortKeyStr
import HandS.List
import HandS.Deep
import HandS.Walk
import HandS.Comp
import HandS.More
import PySem.Challenge.RW_glassladder_k26_normal_forms
set_option Elab.async false
set_option linter.all false
set_option maxRecDepth 100000
set_option maxHeartbeats 8000000
namespace Gs
/-! the mathematics of shares -/
def gI (a b : Int) : Int := ((Int.gcd a b : Nat) : Int)
def lw (t b : Int) : Int × Int :=
  if b < 0 then (t.fdiv (-(gI t b)), b.fdiv (-(gI t b))) else (t.fdiv (gI t b), b.fdiv (gI t b))
def Sh (x : Int × Int) : Prop := 0 < x.2 ∧ Int.gcd x.1 x.2 = 1
theorem lw_ex (t b : Int) (h : b ≠ 0) : ∃ (g : Int), 0 < g ∧ g = gI t b ∧ ∃ p q : Int, lw t b = (p, q) ∧ Sh (p, q) ∧
    ((b < 0 ∧ t = -g * p ∧ b = -g * q) ∨ (0 < b ∧ t = g * p ∧ b = g * q)) := by
  have g0 : 0 < Int.gcd t b := by
    rcases Nat.eq_zero_or_pos (Int.gcd t b) with e | e
    · exact absurd (Int.gcd_eq_zero_iff.mp e).2 h
    · exact e
  have gp : 0 < gI t b := by unfold gI; omega
  obtain ⟨t', ht⟩ : gI t b ∣ t := Int.gcd_dvd_left t b
  obtain ⟨b', hb⟩ : gI t b ∣ b := Int.gcd_dvd_right t b
  have cop : Int.gcd t' b' = 1 := by
    have e1 := Int.gcd_mul_left (gI t b) t' b'
    rw [← ht, ← hb] at e1
    have e2 : (gI t b).natAbs = Int.gcd t b := by unfold gI; omega
    rw [e2] at e1
    have e3 : Int.gcd t b * 1 = Int.gcd t b * Int.gcd t' b' := by rw [Nat.mul_one]; exact e1
    exact (Nat.eq_of_mul_eq_mul_left g0 e3).symm
  generalize eg : gI t b = g at *
  have gne : g ≠ 0 := by omega
  refine ⟨g, gp, rfl, ?_⟩
  by_cases hn : b < 0
  · refine ⟨-t', -b', ?_, ⟨?_, ?_⟩, .inl ⟨hn, ?_, ?_⟩⟩
    · unfold lw
      rw [if_pos hn, eg]
      have e1 : t = (-g) * (-t') := by rw [ht]; grind
      have e2 : b = (-g) * (-b') := by rw [hb]; grind
      have z1 : t.fdiv (-g) = -t' := by rw [e1]; exact Int.mul_fdiv_cancel_left _ (by omega)
      have z2 : b.fdiv (-g) = -b' := by rw [e2]; exact Int.mul_fdiv_cancel_left _ (by omega)
      rw [z1, z2]
    · show 0 < -b'
      by_cases e : b' < 0
      · omega
      · have := Int.mul_nonneg (Int.le_of_lt gp) (show 0 ≤ b' by omega)
        omega
    · show Int.gcd (-t') (-b') = 1
      rw [Int.neg_gcd, Int.gcd_neg]
      exact cop
    · rw [ht]; grind
    · rw [hb]; grind
  · have bp : 0 < b := by omega
    refine ⟨t', b', ?_, ⟨?_, cop⟩, .inr ⟨bp, ht, hb⟩⟩
    · unfold lw
      rw [if_neg hn, eg]
      have z1 : t.fdiv g = t' := by rw [ht]; exact Int.mul_fdiv_cancel_left _ gne
      have z2 : b.fdiv g = b' := by rw [hb]; exact Int.mul_fdiv_cancel_left _ gne
      rw [z1, z2]
    · show 0 < b'
      by_cases e : 0 < b'
      · exact e
      · have := Int.mul_nonneg (Int.le_of_lt gp) (show 0 ≤ -b' by omega)
        rw [Int.mul_neg] at this
        omega
theorem lw_sh {t b : Int} (h : b ≠ 0) : Sh (lw t b) := by
  obtain ⟨g, _, _, p, q, e, s, _⟩ := lw_ex t b h
  rw [e]; exact s
theorem lw_cross {t b : Int} (h : b ≠ 0) : (lw t b).1 * b = t * (lw t b).2 := by
  obtain ⟨g, _, _, p, q, e, s, ⟨_, e1, e2⟩ | ⟨_, e1, e2⟩⟩ := lw_ex t b h
  · rw [e]; show p * b = t * q; rw [e1, e2]; grind
  · rw [e]; show p * b = t * q; rw [e1, e2]; grind
theorem abs_le_mul {g p : Int} (h : 0 < g) : p.natAbs ≤ (g * p).natAbs := by
  rw [Int.natAbs_mul]
  exact Nat.le_mul_of_pos_left _ (by omega)
theorem lw_le {t b : Int} (h : b ≠ 0) : (lw t b).1.natAbs ≤ t.natAbs ∧ (lw t b).2.natAbs ≤ b.natAbs := by
  obtain ⟨g, gp, _, p, q, e, s, ⟨_, e1, e2⟩ | ⟨_, e1, e2⟩⟩ := lw_ex t b h
  · rw [e]
    have x1 : t = -(g * p) := by rw [e1]; grind
    have x2 : b = -(g * q) := by rw [e2]; grind
    show p.natAbs ≤ _ ∧ q.natAbs ≤ _
    rw [x1, x2, Int.natAbs_neg, Int.natAbs_neg]
    exact ⟨abs_le_mul gp, abs_le_mul gp⟩
  · rw [e, e1, e2]
    exact ⟨abs_le_mul gp, abs_le_mul gp⟩
theorem cop_dvd {p q r : Int} (c : Int.gcd p q = 1) (d : q ∣ p * r) : q ∣ r := by
  have d' : q.natAbs ∣ p.natAbs * r.natAbs := by
    rw [← Int.natAbs_mul]
    exact Int.natAbs_dvd_natAbs.mpr d
  have c' : Nat.Coprime q.natAbs p.natAbs := by
    have e : Nat.gcd p.natAbs q.natAbs = 1 := c
    rw [Nat.gcd_comm] at e
    exact e
  exact Int.natAbs_dvd_natAbs.mp (c'.dvd_of_dvd_mul_left d')
theorem sh_eq {x y : Int × Int} (hx : Sh x) (hy : Sh y) (h : x.1 * y.2 = y.1 * x.2) : x = y := by
  obtain ⟨p, q⟩ := x
  obtain ⟨r, s⟩ := y
  obtain ⟨q0, c1⟩ := hx
  obtain ⟨s0, c2⟩ := hy
  have h : p * s = r * q := h
  have q0 : 0 < q := q0
  have s0 : 0 < s := s0
  have c1 : Int.gcd p q = 1 := c1
  have c2 : Int.gcd r s = 1 := c2
  have d1 : q ∣ s := cop_dvd c1 ⟨r, by rw [h]; grind⟩
  have d2 : s ∣ q := cop_dvd c2 ⟨p, by rw [← h]; grind⟩
  have e : q = s := Int.le_antisymm (Int.le_of_dvd s0 d1) (Int.le_of_dvd q0 d2)
  subst e
  have e2 : p = r := Int.eq_of_mul_eq_mul_right (by omega) h
  rw [e2]
theorem lw_eq {t b t' b' : Int} (h : b ≠ 0) (h' : b' ≠ 0) (e : t * b' = t' * b) : lw t b = lw t' b' := by
  have c := lw_cross (t := t) h
  have c' := lw_cross (t := t') h'
  have s := lw_sh (t := t) h
  have s' := lw_sh (t := t') h'
  generalize lw t b = x at *
  generalize lw t' b' = y at *
  refine sh_eq s s' ?_
  have n : b * b' ≠ 0 := Int.mul_ne_zero h h'
  refine Int.eq_of_mul_eq_mul_right n ?_
  have a1 : x.1 * y.2 * (b * b') = t * x.2 * (y.2 * b') := by rw [← c]; grind
  have a2 : y.1 * x.2 * (b * b') = t' * y.2 * (x.2 * b) := by rw [← c']; grind
  rw [a1, a2]
  have a3 : t * x.2 * (y.2 * b') = t * b' * (x.2 * y.2) := by grind
  have a4 : t' * y.2 * (x.2 * b) = t' * b * (x.2 * y.2) := by grind
  rw [a3, a4, e]
theorem lw_id {x : Int × Int} (h : Sh x) : lw x.1 x.2 = x := by
  have n : x.2 ≠ 0 := by have := h.1; omega
  exact sh_eq (lw_sh n) h (lw_cross n)
def pl (x y : Int × Int) : Int × Int := lw (x.1 * y.2 + y.1 * x.2) (x.2 * y.2)
def tm (x y : Int × Int) : Int × Int := lw (x.1 * y.1) (x.2 * y.2)
def ng (x : Int × Int) : Int × Int := (-x.1, x.2)
theorem Sh.ne {x : Int × Int} (h : Sh x) : x.2 ≠ 0 := by have := h.1; omega
theorem Sh.ng {x : Int × Int} (h : Sh x) : Sh (ng x) := ⟨h.1, by show Int.gcd (-x.1) x.2 = 1; rw [Int.neg_gcd]; exact h.2⟩
theorem mul_ne {a b : Int} (h : a ≠ 0) (h' : b ≠ 0) : a * b ≠ 0 := Int.mul_ne_zero h h'
theorem pl_sh {x y : Int × Int} (hx : Sh x) (hy : Sh y) : Sh (pl x y) := lw_sh (mul_ne hx.ne hy.ne)
theorem pl_same {x y : Int × Int} (hx : Sh x) (hy : Sh y) (e : x.2 = y.2) : lw (x.1 + y.1) x.2 = pl x y :=
  lw_eq hx.ne (mul_ne hx.ne hy.ne) (by rw [← e]; grind)
theorem pl3 {x y z : Int × Int} (hx : Sh x) (hy : Sh y) (hz : Sh z) :
    pl (pl x y) z = lw (x.1 * y.2 * z.2 + y.1 * x.2 * z.2 + z.1 * x.2 * y.2) (x.2 * y.2 * z.2) := by
  have n := mul_ne hx.ne hy.ne
  have c := lw_cross (t := x.1 * y.2 + y.1 * x.2) n
  have s := pl_sh hx hy
  refine lw_eq (mul_ne s.ne hz.ne) (mul_ne n hz.ne) ?_
  have e : pl x y = lw (x.1 * y.2 + y.1 * x.2) (x.2 * y.2) := rfl
  rw [← e] at c
  generalize pl x y = u at *
  have a1 : (u.1 * z.2 + z.1 * u.2) * (x.2 * y.2 * z.2) = u.1 * (x.2 * y.2) * (z.2 * z.2) + z.1 * u.2 * (x.2 * y.2 * z.2) := by grind
  rw [a1, c]
  grind
theorem pl_rc {x y z : Int × Int} (hx : Sh x) (hy : Sh y) (hz : Sh z) : pl (pl x y) z = pl (pl x z) y := by
  rw [pl3 hx hy hz, pl3 hx hz hy]
  congr 1 <;> grind
theorem sh0 : Sh (0, 1) := by constructor <;> decide
theorem pl_0 {s : Int × Int} (h : Sh s) : pl (0, 1) s = s := by
  have e : pl (0, 1) s = lw s.1 s.2 := by
    unfold pl
    congr 1
    · show 0 * s.2 + s.1 * 1 = s.1; grind
    · show 1 * s.2 = s.2; grind
  rw [e]
  exact lw_id h
def sumS (a : Int × Int) (l : List (Int × Int)) : Int × Int := l.foldl pl a
theorem sum_sh : ∀ (l : List (Int × Int)) (a : Int × Int), Sh a → (∀ x ∈ l, Sh x) → Sh (sumS a l)
  | [], _, h, _ => h
  | x :: l, a, h, hl => sum_sh l (pl a x) (pl_sh h (hl x List.mem_cons_self)) fun y hy => hl y (List.mem_cons_of_mem _ hy)
theorem sum_rc : ∀ (l : List (Int × Int)) (a s : Int × Int), Sh a → Sh s → (∀ x ∈ l, Sh x) → sumS (pl a s) l = pl (sumS a l) s
  | [], _, _, _, _, _ => rfl
  | x :: l, a, s, ha, hs, hl => by
    have hx := hl x List.mem_cons_self
    show sumS (pl (pl a s) x) l = pl (sumS (pl a x) l) s
    rw [pl_rc ha hs hx]
    exact sum_rc l (pl a x) s (pl_sh ha hx) hs fun y hy => hl y (List.mem_cons_of_mem _ hy)
theorem sum_start {l : List (Int × Int)} {s : Int × Int} (hs : Sh s) (hl : ∀ x ∈ l, Sh x) : sumS s l = pl (sumS (0, 1) l) s := by
  have e := sum_rc l (0, 1) s sh0 hs hl
  rw [pl_0 hs] at e
  exact e
/-! how great they may be -/
def Bd (n : Nat) (x : Int × Int) : Prop := x.1.natAbs < 2 ^ n ∧ x.2.natAbs < 2 ^ n
theorem mul_bd {a b : Int} {n m : Nat} (ha : a.natAbs < 2 ^ n) (hb : b.natAbs < 2 ^ m) : (a * b).natAbs < 2 ^ (n + m) := by
  rw [Int.natAbs_mul, Nat.pow_add]
  exact Nat.mul_lt_mul'' ha hb
theorem add_bd {a b : Int} {n : Nat} (ha : a.natAbs < 2 ^ n) (hb : b.natAbs < 2 ^ n) : (a + b).natAbs < 2 ^ (n + 1) := by
  rw [Nat.pow_succ]
  have := Int.natAbs_add_le a b
  omega
theorem bd_mono {a : Int} {n m : Nat} (ha : a.natAbs < 2 ^ n) (h : n ≤ m) : a.natAbs < 2 ^ m := Nat.lt_of_lt_of_le ha (Nat.pow_le_pow_right (by decide) h)
theorem Bd.mono {x : Int × Int} {n m : Nat} (h : Bd n x) (hm : n ≤ m) : Bd m x := ⟨bd_mono h.1 hm, bd_mono h.2 hm⟩
theorem lw_bd {t b : Int} {n : Nat} (h : b ≠ 0) (h1 : t.natAbs < 2 ^ n) (h2 : b.natAbs < 2 ^ n) : Bd n (lw t b) :=
  ⟨Nat.lt_of_le_of_lt (lw_le h).1 h1, Nat.lt_of_le_of_lt (lw_le h).2 h2⟩
theorem pl_bd {x y : Int × Int} {n m : Nat} (hx : Sh x) (hy : Sh y) (b1 : Bd n x) (b2 : Bd m y) : Bd (n + m + 1) (pl x y) := by
  refine lw_bd (mul_ne hx.ne hy.ne) (add_bd (mul_bd b1.1 b2.2) ?_) (bd_mono (mul_bd b1.2 b2.2) (by omega))
  have := mul_bd b2.1 b1.2
  rw [Nat.add_comm m n] at this
  exact this
theorem sum_bd : ∀ (l : List (Int × Int)) (a : Int × Int) (n : Nat), Sh a → Bd n a → (∀ x ∈ l, Sh x ∧ Bd 70 x) → Bd (n + 71 * l.length) (sumS a l)
  | [], _, _, _, b, _ => b
  | x :: l, a, n, h, b, hl => by
    have hx := hl x List.mem_cons_self
    have z := sum_bd l (pl a x) (n + 70 + 1) (pl_sh h hx.1) (pl_bd h hx.1 b hx.2) fun y hy => hl y (List.mem_cons_of_mem _ hy)
    have e : n + 70 + 1 + 71 * l.length = n + 71 * (x :: l).length := by rw [List.length_cons]; omega
    rw [e] at z
    exact z
/-! the greatest number that divides both, by turns -/
theorem gcd_turn {a b : Int} (ha : 0 ≤ a) (hb : 0 < b) : Int.gcd b (a.fmod b) = Int.gcd a b := by
  rw [Int.fmod_eq_emod_of_nonneg _ (by omega)]
  show Nat.gcd b.natAbs (a % b).natAbs = Nat.gcd a.natAbs b.natAbs
  have e : (a % b).natAbs = a.natAbs % b.natAbs := by
    rw [Int.natAbs_emod_of_nonneg ha]
  rw [e, Nat.gcd_comm a.natAbs b.natAbs, Nat.gcd_rec b.natAbs a.natAbs, Nat.gcd_comm]
theorem gI_abs {a b : Int} : gI (if a < 0 then -a else a) (if b < 0 then -b else b) = gI a b := by
  unfold gI
  congr 1
  show Nat.gcd _ _ = Nat.gcd _ _
  have e : ∀ x : Int, (if x < 0 then -x else x).natAbs = x.natAbs := fun x => by split <;> omega
  rw [e a, e b]
theorem gI_bd {a b : Int} {n : Nat} (h : b ≠ 0) (hb : b.natAbs < 2 ^ n) : 0 < gI a b ∧ (gI a b).natAbs < 2 ^ n := by
  have g0 : 0 < Int.gcd a b := by
    rcases Nat.eq_zero_or_pos (Int.gcd a b) with e | e
    · exact absurd (Int.gcd_eq_zero_iff.mp e).2 h
    · exact e
  have d : Int.gcd a b ∣ b.natAbs := Nat.gcd_dvd_right _ _
  have l := Nat.le_of_dvd (by omega) d
  unfold gI
  constructor
  · omega
  · have e : ((Int.gcd a b : Nat) : Int).natAbs = Int.gcd a b := Int.natAbs_natCast _
    rw [e]
    omega
theorem lw_1 (t : Int) : lw t 1 = (t, 1) := by
  unfold lw gI
  rw [if_neg (by decide), Int.gcd_one]
  simp
end Gs

namespace Gs
open PySem PySem.Spec PyProof.Rows L2
/-! ### a caught error, kept behind its suite -/
/-- the error object of the class cls at a, its own dict d -/
def ExK (cls : Value) (d : Option Addr) (a : Addr) : HO :=
  .ext fun h => ∃ (o : Obj) (fs : Array Value), h.get? a = some o ∧ Zc cls d o ∧ o.data = .fields fs
section
variable {X : Cx} {pins : List (Addr × Obj)} {σ : L2.St} {H : Hp} {s : Shared}
theorem track {a : Addr} {o : Obj} {cls : Value} {d : Option Addr} {fs : Array Value}
    (I : Inv X ((a, o) :: pins) σ H s) (n0 : X.s_0.heap.get? a = none)
    (np : ∀ p ∈ X.pn ++ pins, p.1 ≠ a) (z : Zc cls d o) (hd : o.data = .fields fs) :
    Inv X pins σ (upd H a (ExK cls d a)) s := by
  have P := I.pin (a, o) (List.mem_append.mpr (.inr List.mem_cons_self))
  have g : s.heap.get? a = some o := P.1
  have hn : H a = none := P.2.1
  have b := I.base
  have nt : ∀ {c u}, H c = some u → c ≠ a := fun e => ne_of_none e hn
  have n1 : ∀ {c u}, X.s_0.heap.get? c = some u → c ≠ a := fun e q => by
    rw [q, n0] at e
    cases e
  refine ⟨I.ok, I.os, I.bare, ⟨b.keep, b.slot, ?_, b.there, ?_, ?_, ?_⟩, I.loc, I.cell, ?_, ?_, ?_, ?_, I.len⟩
  · intro c u e n x
    rw [upd_ne (n1 e)]
    exact b.free c u e n x
  · intro c xs e
    have q := b.tups c xs e
    rw [upd_ne (nt q)]
    exact q
  · intro c u v e
    have q := b.frzs c u v e
    rw [upd_ne (nt q)]
    exact q
  · intro c ps e
    obtain ⟨m, q⟩ := b.tbls c ps e
    refine ⟨m, ?_⟩
    rw [upd_ne (nt q)]
    exact q
  · rw [upd_ne (fun e => P.2.2.1 e.symm)]
    exact I.free
  · intro x c e
    have ne : c ≠ a := fun q => by
      obtain ⟨v, u, e1, e2⟩ := I.cell x c e
      rw [q, g] at e1
      cases e1
      exact P.2.2.2.2 _ e2
    rw [upd_ne ne]
    exact I.freeC x c e
  · intro p hp
    have hm : p ∈ X.pn ++ (a, o) :: pins := by
      rcases List.mem_append.mp hp with h | h
      · exact List.mem_append.mpr (.inl h)
      · exact List.mem_append.mpr (.inr (List.mem_cons_of_mem _ h))
    obtain ⟨e1, e2, e3⟩ := I.pin p hm
    refine ⟨e1, ?_, e3⟩
    rw [upd_ne (np p hp)]
    exact e2
  · refine HOk.laidN I.hok (fun _ _ e => e) hn ?_
    exact ⟨⟨o, fs, g, z, hd⟩, ⟨o, g⟩, fun h1 h2 ⟨o1, f1, e1, r⟩ k => ⟨o1, f1, k o1 e1, r⟩⟩
end
/-- what 'except x as n: y = n' wishes of an error of the body; slots i of n, j of y -/
def wKeep (K : PySem.W.Frag) (c : Value) (i j : Nat) (W0 : WX) (D : Ends) : WX := fun cls d σ H =>
  ∃ b, PySem.W.exmOne K cls c = some b ∧
    (b = true → ∀ a, H a = none → D.nx (((σ.set i (some (.ref a))).set j (some (.ref a))).set i none) (upd H a (ExK cls d a))) ∧
    (b = false → W0 cls d σ H)
section
variable {X : Cx} {x n y : Str} {c : Value} {i j : Nat} {body : List Stmt} {p1 p2 p3 np pos pos' : Pos} {tb : WX → TS} {W0 : WX}
theorem ps_try_kept (hs : X.stack = X.env :: X.outer) (hf : X.env.frame = some X.env.locals) (hex : X.ex = [])
    (hN : X.N.Nodup) (hi : X.N[i]? = some n) (hj : X.N[j]? = some y)
    (hln : X.env.kindOf n = some .local) (hly : X.env.kindOf y = some .local)
    (hdn : (n == ("__debug__" : Str)) = false) (hcn : (n == ("__classdict__" : Str)) = false)
    (hlt : i < X.N.length) (hij : i ≠ j)
    (hc : Names X x c) (tk : Takes X W0)
    (hsw : swapsWith (.Name n p2) (some (.Name y p1)) p3.line X.env = pure false)
    (hb : ∀ (W : WX) (pn : List (Addr × Obj)) (xe : Value → Shared → Prop), Takes (X.tr pn xe) W →
      PassesOwn (model X.prog X.w) X.A X.env xe → PSs (X.tr pn xe) body (tb W)) :
    PS X (.Try body [.ExceptHandler (some (.Name x np)) (some n) [.Assign [.Name y p1] (.Name n p2) p3] pos'] [] [] pos)
      (fun D σ H => tb (wKeep X.K c i j W0 D) D σ H) := by
  constructor
  intro pins s σ H D I h
  have ok := I.ok
  have hfr : X.A.frames = some (X.env :: X.outer) := by
    rw [ok.frames, hs]
  refine wpAny_Try_except ?_
  let hh : List ExceptHandler := [.ExceptHandler (some (.Name x np)) (some n) [.Assign [.Name y p1] (.Name n p2) p3] pos']
  let xe' : Value → Shared → Prop := fun e s₁ =>
    wpAny (model X.prog X.w) X.A (noteFrame e X.env) (fun _ s₂ =>
      wpAny (model X.prog X.w) X.A (setFlight e none) (fun _ s₃ =>
        wpAny (model X.prog X.w) X.A (handleBy e X.env hh) (SP X pins D) X.xe s₃) X.xe s₂) X.xe s₁
  have tk' : Takes (X.tr (X.pn ++ pins) xe') (wKeep X.K c i j W0 D) := by
    intro u s' xx
    obtain ⟨a, B, sI, pins', σ', H', cls, d, eu, J', nb, up, sky, na, os, ag, b, hb1, hyes, hno⟩ := xx
    subst eu
    have J : Inv X pins σ' H' sI := J'.ofTry ok
    have sky' : Sky B (X.env :: X.outer) a (Zc cls d) X.env.locals s'.heap := by
      rw [← hs]
      exact sky
    show wpAny (model X.prog X.w) X.A (noteFrame (.ref a) X.env) _ _ _
    refine Sky.land Zc.steady hfr hf sky' fun h3 fl3 up3 => ?_
    have J3 : Inv X pins σ' H' { s' with heap := h3 } := Inv.landed J nb fl3.1 (up.trans up3) os ag
    obtain ⟨o3, v3, e3, z3, d3⟩ := fl3.there
    have nfr : a ∉ frs (X.env :: X.outer) := by
      intro hm
      obtain ⟨_, o', e', q⟩ := fl3.2.2.1.mem hm
      rw [e3] at e'
      cases e'
      exact q _ d3
    have nL : a ≠ X.env.locals := fun z => nfr (by
      refine List.mem_filterMap.mpr ⟨X.env, List.mem_cons_self, ?_⟩
      rw [hf, z])
    have nF : a ∉ X.fs := fun hm => by
      obtain ⟨e, he, q⟩ := List.mem_filterMap.mp hm
      exact nfr (List.mem_filterMap.mpr ⟨e, List.mem_cons_of_mem _ he, q⟩)
    have new : sI.heap.get? a = none := by
      cases q : sI.heap.get? a with
      | none => rfl
      | some o =>
        have q2 := nb a o q (by rw [hs]; exact nfr)
        rw [fl3.2.1] at q2
        cases q2
    have n0 : X.s_0.heap.get? a = none := by
      cases q : X.s_0.heap.get? a with
      | none => rfl
      | some o =>
        obtain ⟨o', q2⟩ := J.base.there a o q (by rw [hex]; exact List.not_mem_nil)
        rw [new] at q2
        cases q2
    have npn : ∀ p ∈ X.pn ++ pins, p.1 ≠ a := fun p hp q => by
      have q2 := (J.pin p hp).1
      rw [q, new] at q2
      cases q2
    have S3 := J3.suite e3 d3 na nL nF
    refine wpAny_handleBy_cons (codeAny_handlers_test ?_) (by intro q; cases q)
    have LT : PySem.W.Looks (model X.prog X.w) h3 (typeOf (.ref a)) cls := by
      intro A Q E s k q
      refine wpAny_typeOf_ref (k _ _ e3) ?_
      rw [z3.1]
      exact q
    have LM := PySem.W.exm_one (M := model X.prog X.w) J3.kIn LT hb1
    have look : ∀ {Q : Value → Shared → Prop} {E : Value → Shared → Prop}, Q c { s' with heap := h3 } →
        wpAny (model X.prog X.w) (X.A.mark (some (.ref a))) (eval (.Name x np) X.env) Q E { s' with heap := h3 } := by
      intro Q E q
      obtain ⟨hg, hdbg, hm | ⟨hm, hv, hnn⟩⟩ := hc
      · exact ld_glob (X := X.suite a ((a, o3) :: (X.pn ++ pins))) S3 hg hm q hdbg
      · exact ld_blt (X := X.suite a ((a, o3) :: (X.pn ++ pins))) S3 hg hm hv q hnn hdbg
    refine look (LM.here ?_)
    cases b with
    | true =>
      refine codeAny_handlers_suite_as ?_
      refine HandSPX.lands_againZ fl3 fun h4 fl4 up4 => ?_
      have J4 : Inv X pins σ' H' { s' with heap := h4 } := Inv.landed J nb fl4.1 ((up.trans up3).trans up4) os ag
      obtain ⟨o4, v4, e4, z4, d4⟩ := fl4.there
      have S4 := J4.suite e4 d4 na nL nF
      refine store_ok (X := X.suite a ((a, o4) :: (X.pn ++ pins))) (v := .ref a) S4 hN hi (.inl hln) rfl (fun s5 S5 => ?_) (.inr hln)
      have st : PSs (X.suite a ((a, o4) :: (X.pn ++ pins))) [.Assign [.Name y p1] (.Name n p2) p3] _ :=
        pss_one (ps_set (i := j) hN hj (.inl hly) (pe_var hi (.inl hln) hdn hcn) hsw (.inr hly))
      have len : i < σ'.length := by
        rw [J.len]
        exact hlt
      have sl : (σ'.set i (some (V.ref a)))[i]? = some (some (V.ref a)) := by
        rw [List.getElem?_set_self len]
      refine wpAny_mono (st.run [] s5 _ H' { nx := fun σ6 H6 => σ6 = (σ'.set i (some (.ref a))).set j (some (.ref a)) ∧ H6 = H', rt := fun _ _ => False } S5 ⟨.ref a, sl, rfl, rfl⟩) (fun f s6 hsp => ?_) (fun _ _ z => False.elim z)
      cases f with
      | next =>
        obtain ⟨σ6, H6, S6, e6, e7⟩ := hsp
        subst e6
        subst e7
        have T6 : Inv X ((a, o4) :: pins) _ H6 s6 := ⟨ok, S6.os, S6.bare, S6.base, S6.loc, S6.cell, S6.free, S6.freeC, (fun p hp => S6.pin p (by
          show p ∈ ((a, o4) :: (X.pn ++ pins)) ++ []
          rw [List.append_nil]
          rcases List.mem_append.mp hp with h | h
          · exact List.mem_cons_of_mem _ (List.mem_append.mpr (.inl h))
          · rcases List.mem_cons.mp h with h | h
            · rw [h]
              exact List.mem_cons_self
            · exact List.mem_cons_of_mem _ (List.mem_append.mpr (.inr h)))), S6.hok, S6.len⟩
        refine gone_ok T6 hN hi hln fun s7 J7 => ?_
        exact ⟨_, _, track J7 n0 npn z4 d4, hyes rfl a na⟩
      | brk =>
        obtain ⟨_, _, _, q⟩ := hsp
        exact False.elim q
      | cont =>
        obtain ⟨_, _, _, q⟩ := hsp
        exact False.elim q
      | ret u =>
        obtain ⟨_, _, _, _, _, q⟩ := hsp
        exact False.elim q
    | false =>
      show wpAny _ X.A (handleBy (.ref a) X.env []) _ _ _
      refine wpAny_handleBy_nil ?_
      have T3 := fl3.2.2.2
      obtain ⟨oe, fv, T, oT, ts', he, hz, hd, h1, hr⟩ := T3
      unfold PySem.passOn
      refine wpAny_bind (wpAny_field he hd h1 ?_)
      rw [if_neg (by simp)]
      have fin : wpAny (model X.prog X.w) X.A (setFlight (.ref a) X.env.frame)
          (fun _ s4 => wpAny (model X.prog X.w) X.A (throw (.ref a) : Sem Flow) (SP X pins D) X.xe s4) X.xe { s' with heap := h3 } := by
        rw [hf]
        refine HandSPX.setFlight_upZ fl3 fun h4 hh4 up4 => wpAny_throw (tk _ _ ?_)
        refine ⟨a, B, sI, pins, σ', H', cls, d, rfl, J, nb, (up.trans up3).trans up4, .inr (.inr ?_), na, os, ag, hno rfl⟩
        rw [hs]
        exact hh4
      first
        | exact wpAny_bind (wpAny_pure (wpAny_bind fin))
        | exact wpAny_bind fin
  refine wpAny_mono ((hb _ (X.pn ++ pins) xe' tk' PassesOwn.looking).run [] s σ H D (I.toTry _) h) (fun f s1 hsp => ?_) (fun _ _ he => he)
  cases f with
  | next =>
    obtain ⟨σ', H', J', q⟩ := hsp
    exact wpAny_execs_nil ⟨σ', H', J'.ofTry ok, q⟩
  | brk =>
    obtain ⟨σ', H', J', q⟩ := hsp
    exact ⟨_, _, J'.ofTry ok, q⟩
  | cont =>
    obtain ⟨σ', H', J', q⟩ := hsp
    exact ⟨_, _, J'.ofTry ok, q⟩
  | ret u =>
    obtain ⟨v, σ', H', J', r, q⟩ := hsp
    exact ⟨_, _, _, J'.ofTry ok, r, q⟩
/-- isinstance(e, c) of a kept error -/
theorem call_isK {D : Addr} (C : ExcC X.K D) : CallR X (.builtin "isinstance") (fun xs H Q => ∃ (a : Addr) (t : V) (tv : Value) (b : Bool),
    xs = [.ref a, t] ∧ H a = some (ExK (.ref D) none a) ∧ (∀ u, RelV t u → u = tv) ∧ PySem.W.kitOne X.K (.ref D) tv = some b ∧ Q (.bl b) H) := by
  intro pins s σ H xs us Q I r h
  obtain ⟨a, t, tv, b, rfl, ha, ht, e, q⟩ := h
  cases r with
  | cons rx rr =>
    cases rr with
    | cons rt rr =>
      cases rr
      cases rx
      have ec := ht _ rt
      subst ec
      obtain ⟨⟨o, fs, g, z, hv⟩, _, _⟩ := I.hok a _ ha
      have W : PySem.W.InstAt s.heap a o D none := by
        obtain ⟨oc, od, oda, osl⟩ := o
        obtain ⟨h1, h2⟩ := z
        dsimp only at h1 h2 hv
        subst h1 h2 hv
        exact ⟨g, rfl, rfl, trivial⟩
      have kit := PySem.W.handS_kitx_exc (x := a) (ox := o) C.hg C.hk C.hs C.hd C.ha C.hn C.ht C.hm
      exact PySem.W.kia_one kit I.kIn W e (fun z => nomatch z) fun tk => ⟨.bl b, H, I.kept (t' := tk) fun _ _ z => z, rfl, q⟩
/-- repr of data, where no other repr is under way -/
theorem call_reprD (hg : X.A.guards = some []) (hu : X.A.units + 64 < cLine) : CallR X (.builtin "repr") (fun xs H Q => ∃ (a : Addr) (d : PyData),
    xs = [.ref a] ∧ Dp X.K H (.ref a) d ∧ d.showable = true ∧ d.hasDict = false ∧ d.depth ≤ 60 ∧ d.shown.length ≤ sizeLine ∧ Q (.str d.shown) H) := by
  intro pins s σ H xs us Q I r h
  obtain ⟨a, d, rfl, hd, h1, h2, h3, h4, q⟩ := h
  obtain ⟨u, rfl, ru⟩ := vals1 r
  cases ru
  obtain ⟨as, rd⟩ := Dp.reads I d _ _ hd rfl
  exact repr_of_reads' rd h1 (PyData.noDict_hsm h2) hg (by omega) (fun _ _ e => e) (fun h' u tk k => ⟨.str d.shown, H, I.kept k, ⟨u, rfl⟩, q⟩) h4
/-- // by any number but nought, below 2 ^ 9000 in size -/
theorem op_fdivZ : OpR X (binaryOp .FloorDiv) (rI (fun _ k => k ≠ 0 ∧ k.natAbs.log2 < 9000) fun m k => .int (m.fdiv k)) :=
  opI fun _ _ _ _ _ _ _ hc q => floordiv_int hc.1 q (.inl (PyProof.noPylong_of_log2 hc.2))
end
end Gs

namespace Gs
open PySem PySem.Spec PyProof.Rows L2
section
variable {P : Program} {w : World} {K : PySem.W.Frag} {mg : Str → Option Value} {f : Addr}
/-- a def's body, run at one place alone -/
theorem body_at {A : Around} {base : Heap} {name qual : Str} {params : Arguments} {body : List Stmt} {scope : Scope} {dV kV doc pm cdv ct oc : Value} {an od : Option Addr} {osl : Array (Option Value)}
    {N ps : List Str} {k : Nat} {s : Shared} {H : Hp} {vs : List V} {us : List Value} {args : Args} {Q : VK} {E : XK}
    (lk : K.lookup f = some ⟨oc, od, .func (PySem.W.fnOf name qual params body scope dV kV doc pm an cdv ct), osl⟩)
    (hcd : PySem.W.codeIn K cdv qual = true) (S : FnScope N ps scope) (hl : vs.length = ps.length) (hr : Room (k + 1) A)
    (e0 : Env0 P w K mg base A [] s H) (hb : BindsTo s (PySem.W.fnOf name qual params body scope dV kV doc pm an cdv ct) args (ps.zip us)) (r : Vals vs us)
    (hbody : Room k (A.deeper (envOfC qual scope s.heap.objs.size f cdv)) →
      ∃ t, PSs (cxOf CX0 P w K mg base N qual scope f cdv A [] s H E).nox body t ∧
        t { nx := fun _ H' => Q .non H', rt := Q } (start N vs) H) :
    codeAny (model P w) A (.call (.ref f) args) (CR CX0 [] P w H s Q E) s := by
  have kk : ∀ b o, base.get? b = some o → s.heap.get? b = some o := fun b o e => (e0.bs b o e).1
  have KX : K.In s.heap := e0.mod.kin.keeps kk
  have lim : s.heap.NoLimit := e0.mod.nolimit.keeps kk
  have kinds : ∀ q ∈ ps.zip us, scope.names.lookup q.1 = some .local ∨
      (scope.names.lookup q.1 = some .cell ∧ ((cellsFrom (s.heap.objs.size + 1) scope.names []).lookup q.1).isSome = true) := by
    intro q hq
    rcases S.par q.1 (List.of_mem_zip (a := q.1) (b := q.2) hq).1 with z | z
    · exact .inl z
    · exact .inr ⟨z, PySem.W.cellsFrom_some _ _ _ (.inl z)⟩
  refine codeAny_call_function hr.depth (KX _ _ lk) rfl S.co S.gen rfl (PySem.W.codeRec_of KX hcd) (hb _ _ _ _ ?_)
  refine wpAny_newFunctionEnv_cells S.kind kinds fun env he s1 x => ?_
  subst he
  refine ⟨lim.keeps x.toInCall.keep, codeAny_func ?_⟩
  obtain ⟨t, ht, hq⟩ := hbody (hr.deeper _)
  have I : Inv (cxOf CX0 P w K mg base N qual scope f cdv A [] s H E) [] (start N vs) H s1 := inv_start S hr.hd e0 hl r x
  refine wpAny_mono (ht.nox.run [] s1 (start N vs) H _ I hq) (fun fl s' hs => ?_) fun e s' hs => hs
  cases fl with
  | ret u =>
    obtain ⟨v, σ', H', J, rv, q⟩ := hs
    exact ⟨v, H', J.os, J.bare, J.base, J.hok, rv, q⟩
  | next =>
    obtain ⟨σ', H', J, q⟩ := hs
    exact ⟨.non, H', J.os, J.bare, J.base, J.hok, rfl, q⟩
  | brk =>
    obtain ⟨_, _, _, q⟩ := hs
    exact q.elim
  | cont =>
    obtain ⟨_, _, _, q⟩ := hs
    exact q.elim
/-- the law's call, from the promise at the caller's own place -/
theorem law_at {mb : Str → Option Value} {a : Addr} {s₁ : Shared} {vs : List Value} {ns : List Int}
    (KX : K.In s₁.heap) (hns : s₁.heap.Ns mainGlobals mg) (hbt : s₁.heap.Ns builtinsNs mb) (hbb : ∀ x : Str, x ≠ "__name__" → mb x = bootBuiltins x)
    (hlim : s₁.heap.NoLimit) (hg : s₁.gens = #[])
    (ha : s₁.heap.get? a = some { cls := .type "list", data := .seq vs.toArray }) (hi : IntsAre vs ns) (hl : ns.length ≤ sizeLine)
    (F : ∀ (base : Heap) (H : Hp), K.In base → base.Ns mainGlobals mg → SqL K H a (ns.map V.int) → Env0 P w K mg base callerA [] s₁ H →
      codeAny (model P w) callerA (.call (.ref f) ⟨[.ref a], []⟩) (CR CX0 [] P w H s₁ (fun v _ => v = .bl true) fun _ _ _ => False) s₁) :
    codeAny (model P w) callerA (.call (.ref f) ⟨[.ref a], []⟩)
      (fun r s' => r = .ok (.ret (.bool true)) ∧ OldK s₁.heap s'.heap ∧ s'.os = s₁.os ∧ AllBare s'.gens) s₁ := by
  have rv := vals_ints hi
  let so : Obj := { cls := .type "list", data := .seq vs.toArray }
  have go : ∀ H : Hp, (∀ b u, H b = some u → b = a ∧ u = .frz so (.lst (ns.map V.int)) ∧ K.lookup a = none) → SqL K H a (ns.map V.int) → HOk P w H s₁.heap →
      codeAny (model P w) callerA (.call (.ref f) ⟨[.ref a], []⟩)
        (fun r s' => r = .ok (.ret (.bool true)) ∧ OldK s₁.heap s'.heap ∧ s'.os = s₁.os ∧ AllBare s'.gens) s₁ := by
    intro H hH hS hok
    have stays : ∀ {b : Addr} {o : Obj}, s₁.heap.get? b = some o → b ≠ a → (hidT s₁.heap H).get? b = some o := by
      intro b o e nb
      refine hidT_get e ?_
      cases q : H b with
      | none => rfl
      | some u => exact absurd (hH b u q).1 nb
    have nsd : ∀ {b : Addr} {m : Str → Option Value}, s₁.heap.Ns b m → (hidT s₁.heap H).Ns b m := by
      intro b m ⟨o, es, ep, e, d, z⟩
      refine ⟨o, es, ep, stays e ?_, d, z⟩
      intro eb
      subst eb
      rw [ha] at e
      cases e
      have d' : Data.seq vs.toArray _ = Data.dict es ep := d
      cases d'
    have kin : K.In (hidT s₁.heap H) := by
      intro b o e
      refine hidT_get (KX b o e) ?_
      cases q : H b with
      | none => rfl
      | some u =>
        obtain ⟨e1, _, e2⟩ := hH b u q
        rw [e1, e2] at e
        cases e
    have md : Mod K mg (hidT s₁.heap H) := by
      obtain ⟨mc, h1, h2⟩ := hlim
      exact ⟨kin, nsd hns, ⟨mb, nsd hbt, hbb⟩, ⟨mc, nsd h1, h2⟩⟩
    have e0 : Env0 P w K mg (hidT s₁.heap H) callerA [] s₁ H := by
      refine ⟨rfl, md, fun b o e => of_hidT e, Nat.le_of_eq (hidT_size _ _), trivial, ?_, hok, .of_eq hg⟩
      intro b z
      exact absurd (show b ∈ ([] : List Addr) from z) List.not_mem_nil
    refine codeAny_mono (F _ H kin (nsd hns) hS e0) fun r s' h => ?_
    cases r with
    | error e => exact False.elim h
    | ok fl =>
      cases fl with
      | next => exact False.elim h
      | brk => exact False.elim h
      | cont => exact False.elim h
      | ret u =>
        obtain ⟨v, H', os, bare, un, hok', r', q⟩ := h
        have q' : v = .bl true := q
        subst q'
        obtain rfl : u = Value.bool true := r'
        refine ⟨rfl, OldK.of_keep fun b o e => ?_, os, bare⟩
        cases q : H b with
        | none =>
          exact un.keep b o e q (fun z => absurd (show b ∈ ([] : List Addr) from z) List.not_mem_nil) List.not_mem_nil
        | some u =>
          obtain ⟨e1, e2, _⟩ := hH b u q
          rw [e2] at q
          have z2 := un.frzs b so _ q
          obtain ⟨e3, _⟩ := hok' b _ z2
          rw [e1, ha] at e
          cases e
          exact e3
  cases hk : K.lookup a with
  | some o =>
    have e := KX a o hk
    rw [ha] at e
    cases e
    refine go (fun _ => none) (fun b u z => by cases z) (.inr ⟨_, vs.toArray, _, hk, rfl, rfl, rfl, ?_, by simpa using rv⟩) (fun b u z => by cases z)
    rw [List.size_toArray, hi.length]
    exact hl
  | none =>
    refine go (fun b => if b = a then some (.frz so (.lst (ns.map V.int))) else none) (fun b u z => ?_) (.inl (.inr ⟨so, if_pos rfl⟩)) (fun b u z => ?_)
    · by_cases eb : b = a
      · have z' := (if_pos eb).symm.trans z
        cases z'
        exact ⟨eb, rfl, hk⟩
      · have z' := (if_neg eb).symm.trans z
        cases z'
    · by_cases eb : b = a
      · have z' := (if_pos eb).symm.trans z
        cases z'
        subst eb
        exact ⟨ha, by rw [List.length_map]; exact hl, vs, _, rv, ha⟩
      · have z' := (if_neg eb).symm.trans z
        cases z'
end
/-- the goal that the head leaves -/
theorem walk_at1 {l : PySem.W.OpenLaw} {n : Nat} {q : Program} {loose : List Str} {XP : (Str → Option Value) → Heap → Prop} {YP : World → Heap → Prop} {d : DefRec} {K : Params → PySem.W.Frag}
    (hn : l.most = some n) (hn2 : n ≤ sizeLine) (hdf : d.params.defaults = [])
    (hY : ∀ (w : World) (h : Heap), YP w h → (K w.params).In h)
    (F : ∀ (w : World) (mg : Str → Option Value) (fa : Addr) (h : Heap), (K w.params).In h → h.Ns mainGlobals mg → mg d.name = some (.ref fa) →
      ∀ (base : Heap) (H : Hp) (s : Shared) (a : Addr) (ns : List Int), ns.length ≤ n → (K w.params).In base → base.Ns mainGlobals mg →
        SqL (K w.params) H a (ns.map V.int) → Env0 l.prog w (K w.params) mg base callerA [] s H →
        codeAny (model l.prog w) callerA (.call (.ref fa) ⟨[.ref a], []⟩) (CR CX0 [] l.prog w H s (fun v _ => v = .bl true) fun _ _ _ => False) s) :
    PySem.W.WalkO q loose XP YP l.row.toRowW d [] (fun f vs => PySem.call f vs) := by
  refine Att.attach_call hn hdf fun w s₀ s₁ mg mb fa o pm cd doc a vs ns G Y ho hd hcd hmg hobj hints hlen hg => ?_
  have KX := hY w _ Y
  refine law_at KX G.T.g G.T.b G.T.builtins G.T.nolimit hg hobj hints (Nat.le_trans hlen hn2) fun base H h1 h2 h3 h4 => ?_
  exact F w mg fa _ KX G.T.g hmg base H s₁ a ns hlen h1 h2 h3 h4
end Gs

namespace Gs
open PySem PySem.Spec PyProof.Rows L2
/-! ### defs that show data as text: promised where no repr is under way -/
structure FnG (P : Program) (w : World) (K : PySem.W.Frag) (mg : Str → Option Value) (base : Heap) (CX : CXT) (k : Nat) (f : Addr) (fd : FuncData) (ps : List Str) (sp : Sp) : Prop where
  len : ∀ vs H Q E, sp vs H Q E → vs.length = ps.length
  run : ∀ (A : Around) (outer : List Env) (s : Shared) (H : Hp) (args : Args) (us : List Value) (vs : List V) (Q : VK) (E : XK), A.guards = some [] → Room k A →
    Env0 P w K mg base A outer s H → BindsTo s fd args (ps.zip us) → Vals vs us → sp vs H Q E →
    codeAny (model P w) A (.call (.ref f) args) (CR CX outer P w H s Q E) s
section
variable {P : Program} {w : World} {K : PySem.W.Frag} {mg : Str → Option Value} {base : Heap}
theorem body_any {CX : CXT} {A : Around} {outer : List Env} {f : Addr} {name qual : Str} {params : Arguments} {body : List Stmt} {scope : Scope} {dV kV doc pm cdv ct oc : Value} {an od : Option Addr} {osl : Array (Option Value)}
    {N ps : List Str} {k : Nat} {s : Shared} {H : Hp} {vs : List V} {us : List Value} {args : Args} {Q : VK} {E : XK}
    (lk : K.lookup f = some ⟨oc, od, .func (PySem.W.fnOf name qual params body scope dV kV doc pm an cdv ct), osl⟩)
    (hcd : PySem.W.codeIn K cdv qual = true) (S : FnScope N ps scope) (hl : vs.length = ps.length) (hr : Room (k + 1) A)
    (e0 : Env0 P w K mg base A outer s H) (hb : BindsTo s (PySem.W.fnOf name qual params body scope dV kV doc pm an cdv ct) args (ps.zip us)) (r : Vals vs us)
    (hbody : Room k (A.deeper (envOfC qual scope s.heap.objs.size f cdv)) →
      ∃ t, PSs (cxOf CX P w K mg base N qual scope f cdv A outer s H E) body t ∧
        t { nx := fun _ H' => Q .non H', rt := Q } (start N vs) H) :
    codeAny (model P w) A (.call (.ref f) args) (CR CX outer P w H s Q E) s := by
  have kk : ∀ b o, base.get? b = some o → s.heap.get? b = some o := fun b o e => (e0.bs b o e).1
  have KX : K.In s.heap := e0.mod.kin.keeps kk
  have lim : s.heap.NoLimit := e0.mod.nolimit.keeps kk
  have kinds : ∀ q ∈ ps.zip us, scope.names.lookup q.1 = some .local ∨
      (scope.names.lookup q.1 = some .cell ∧ ((cellsFrom (s.heap.objs.size + 1) scope.names []).lookup q.1).isSome = true) := by
    intro q hq
    rcases S.par q.1 (List.of_mem_zip (a := q.1) (b := q.2) hq).1 with z | z
    · exact .inl z
    · exact .inr ⟨z, PySem.W.cellsFrom_some _ _ _ (.inl z)⟩
  refine codeAny_call_function hr.depth (KX _ _ lk) rfl S.co S.gen rfl (PySem.W.codeRec_of KX hcd) (hb _ _ _ _ ?_)
  refine wpAny_newFunctionEnv_cells S.kind kinds fun env he s1 x => ?_
  subst he
  refine ⟨lim.keeps x.toInCall.keep, codeAny_func ?_⟩
  obtain ⟨t, ht, hq⟩ := hbody (hr.deeper _)
  have I : Inv (cxOf CX P w K mg base N qual scope f cdv A outer s H E) [] (start N vs) H s1 := inv_start S hr.hd e0 hl r x
  refine wpAny_mono (ht.run [] s1 (start N vs) H _ I hq) (fun fl s' hs => ?_) fun e s' hs => hs
  cases fl with
  | ret u =>
    obtain ⟨v, σ', H', J, rv, q⟩ := hs
    exact ⟨v, H', J.os, J.bare, J.base, J.hok, rv, q⟩
  | next =>
    obtain ⟨σ', H', J, q⟩ := hs
    exact ⟨.non, H', J.os, J.bare, J.base, J.hok, rfl, q⟩
  | brk =>
    obtain ⟨_, _, _, q⟩ := hs
    exact q.elim
  | cont =>
    obtain ⟨_, _, _, q⟩ := hs
    exact q.elim
theorem okG {x qual : Str} {st : Stmt} {f : Addr} {fd : FuncData} {N ps : List Str} {k : Nat} {sp : Sp} (F : Fun K x qual st f fd) (S : FnScope N ps (defScope st)) (len : ∀ vs H Q E, sp vs H Q E → vs.length = ps.length)
    (hbody : ∀ (cdv : Value) (A : Around) (outer : List Env) (s : Shared) (H : Hp) (vs : List V) (Q : VK) (E : XK), A.guards = some [] →
      Room k (A.deeper (envOfC qual (defScope st) s.heap.objs.size f cdv)) → sp vs H Q E →
      ∃ t, PSs (cxOf CX0 P w K mg base N qual (defScope st) f cdv A outer s H E).nox (defBody st) t ∧
        t { nx := fun _ H' => Q .non H', rt := Q } (start N vs) H) : FnG P w K mg base CX0 (k + 1) f fd ps sp := by
  obtain ⟨oc, od, kV, doc, pm, an, cdv, ct, osl, rfl, lk, hcd⟩ := F.ex
  refine ⟨len, fun A outer s H args us vs Q E hg hr e0 hb r hsp => ?_⟩
  refine body_any lk hcd S (len _ _ _ _ hsp) hr e0 hb r fun hr' => ?_
  obtain ⟨t, h1, h2⟩ := hbody cdv A outer s H vs Q E hg hr' hsp
  exact ⟨t, h1.nox, h2⟩
end
section
variable {X : Cx} {CX : CXT} {k : Nat} {f : Addr} {fd : FuncData} {ps : List Str} {sp : Sp} {E : XK} {x : Str} {p pos : Pos} {e : Expr} {es : List Expr} {t : TA}
theorem pe_callG (F : FnG X.prog X.w X.K X.mg X.base CX k f fd ps sp) (gd : X.A.guards = some []) (hr : Room k X.A) (hg : Gl X x) (hm : X.mg x = some (.ref f)) (hk : PySem.W.keepIn X.K (.ref f) = true)
    (hb : Binds X.K fd ps []) (hx : Passes CX X E) (ha : PA X (e :: es) t) (hdb : (x == ("__debug__" : Str)) = false := by decide)
    (he : starEach (e :: es) X.env = (false, eval e X.env) :: starEach es X.env := by rfl) (hpl : (backTo pos (starEach es X.env)).any (·.1) = false := by rfl) :
    PE X (.Call (.Name x p) (e :: es) [] pos) (tCall sp [] E t) := by
  constructor
  intro pins s σ H Q I h
  refine wpAny_Call_Name_kw (ld_glob I hg hm ?_ hdb)
  refine PySem.W.callWith_K (h₀ := X.base) I.ok.mod.kin hk (thn (ha.run pos pins s σ H _ I h) ?_) he hpl
  intro us s1 ⟨vs, H1, I1, r, q⟩
  refine ⟨I1.kIn, ?_⟩
  have q' : sp vs H1 Q E := by
    have z : sp (vs ++ []) H1 Q E := q
    rw [List.append_nil] at z
    exact z
  have hl : (us ++ []).length = ps.length := by
    rw [List.append_nil, ← r.length]
    exact F.len _ _ _ _ q'
  have bt := hb s1 us I1.kIn hl
  rw [List.append_nil] at bt
  refine wpAny_call (codeAny_mono (F.run X.A X.stack s1 H1 ⟨us, []⟩ us vs Q E gd hr I1.env0 bt r q') ?_)
  intro res s' hq
  cases res with
  | error e => exact hx pins σ H1 s1 e s' I1 hq
  | ok fl =>
    cases fl with
    | ret u => exact I1.after hq
    | next => exact hq.elim
    | brk => exact hq.elim
    | cont => exact hq.elim
/-- f(k = v, ..): keywords alone -/
theorem pe_callS0 {ks : List Str} {kws : List Keyword} {tk : TA} {W : L2.St → XK} {g : List Value → List Value → List Value} {gV : List V → List V → List V}
    (F : FnOk X.prog X.w X.K X.mg X.base CX k f fd ps sp) (hr : Room k X.A) (hg : Gl X x) (hm : X.mg x = some (.ref f)) (hk : PySem.W.keepIn X.K (.ref f) = true)
    (hb : KBn X.K fd ps 0 ks g gV) (hx : ∀ σ, PassesAt CX X σ (W σ)) (hkw : PK X kws tk)
    (hall : (backToKw pos (keywordEach kws X.env)).all (·.1.isSome) = true := by rfl) (hks : (backToKw pos (keywordEach kws X.env)).filterMap (·.1) = ks := by rfl)
    (hdb : (x == ("__debug__" : Str)) = false := by decide)
    (hpl : ((backTo pos (starEach [] X.env)).any (·.1) || (backToKw pos (keywordEach kws X.env)).any (·.1.isNone)) = false := by rfl) :
    PE X (.Call (.Name x p) [] kws pos) (fun σ H Q => tk σ H fun zs H1 => zs.length = ks.length ∧ sp (gV [] zs) H1 Q (W σ)) := by
  constructor
  intro pins s σ H Q I h
  refine wpAny_Call_Name_kw (ld_glob I hg hm ?_ hdb)
  refine PySem.W.callWith_KW0 (h₀ := X.base) I.ok.mod.kin hk hall ?_ hpl
  refine thn (hkw.run pos pins s σ H _ I h) ?_
  intro ws s2 ⟨zs, H2, I2, rz, l2, q2⟩
  refine ⟨I2.kIn, ?_⟩
  rw [hks]
  have r2 := hb.rel (vs := []) (us := []) .nil rz
  refine wpAny_call (codeAny_mono (F.run X.A X.stack s2 H2 ⟨[], ks.zip ws⟩ (g [] ws) (gV [] zs) Q (W σ) hr I2.env0 (hb.to s2 [] ws I2.kIn rfl (rz.length.symm.trans l2)) r2 q2) ?_)
  intro res s' hq
  cases res with
  | error e => exact hx σ pins H2 s2 e s' I2 hq
  | ok fl =>
    cases fl with
    | ret u => exact I2.after hq
    | next => exact hq.elim
    | brk => exact hq.elim
    | cont => exact hq.elim
/-- G.__init__(self, ..), G an own class that takes ValueError's -/
theorem pe_ownInit {G : Addr} {mc : Value} {y : Str} {p1 p2 : Pos} {ta : TA} {pl : Sem Bool} (hg : Gl X y) (hm : X.mg y = some (.ref G)) (hdb : (y == ("__debug__" : Str)) = false)
    (hga : PySem.W.specialIn X.K (.ref G) "__getattribute__" = some (some (.builtin "type.__getattribute__"))) (hr : PySem.W.readsIn X.K G mc = true)
    (hv : PySem.W.findCls X.K (.ref G) mc "__init__" = some (.val (.builtin "ValueError.__init__"))) (ha : PA X (e :: es) ta)
    (hc : eval (.Call (.Attribute (.Name y p1) "__init__" p2) (e :: es) [] pos) X.env = (do
      let ov ← eval (.Name y p1) X.env
      standAt p2.atName
      let (f, first) ← holding [ov] (getMethod ov "__init__" pl)
      callWith pos f first (backTo pos (starEach (e :: es) X.env)) (backToKw pos (keywordEach [] X.env))))
    (he : starEach (e :: es) X.env = (false, eval e X.env) :: starEach es X.env) (hpl : (backTo pos (starEach es X.env)).any (·.1) = false) :
    PE X (.Call (.Attribute (.Name y p1) "__init__" p2) (e :: es) [] pos) (tVeI X.K ta) := by
  constructor
  intro pins s σ H Q I h
  refine PySem.W.methodCall_KW (ld_glob I hg hm ?_ hdb) hc
  refine PySem.W.method_cls I.kIn hga (PySem.W.cls_value I.kIn hr hv (by decide +kernel) ?_)
  show wpAny _ _ (callWith pos (Value.builtin "ValueError.__init__") [] (backTo pos (starEach (e :: es) X.env)) []) _ _ _
  refine PyProof.Rows.callWith_method1 (thn (ha.run pos pins _ σ H _ (I.tok _) h) ?_) he hpl
  intro us s1 ⟨vs, H1, I1, r1, a, C, ws, ev, hl, T, ea, q⟩
  subst ev
  cases r1 with
  | @cons _ u0 _ ur ra rw' =>
    obtain rfl : u0 = Value.ref a := ra
    refine oinit_ok T I1 ea ?_ fun s' J => ⟨.non, H1, J, rfl, q⟩
    rw [← Paired.length rw', sizeLine_eq]
    omega
/-- a field of a kept error -/
theorem pe_fldK {C : Addr} {n : Str} {te : TE} (T : XfC X.K C) (hno : PySem.W.findIn X.K (.ref C) n = some none) (he : PE X e te) (hb : attributeBase e n X.env (eval e X.env) = eval e X.env := by rfl) :
    PE X (.Attribute e n pos) (fun σ H Q => te σ H fun z H1 => ∃ (a d : Addr) (fs : List (Str × V)) (v : V), z = .ref a ∧ H1 a = some (ExK (.ref C) (some d) a) ∧ H1 d = some (.xd fs) ∧ fs.lookup n = some v ∧ Q v H1) := by
  constructor
  intro pins s σ H Q I h
  refine attr_of hb (thn (he.run pins s σ H _ I h) ?_)
  intro u s1 ⟨z, H1, I1, rz, a, d, fs, v, ez, ea, ed, l, q⟩
  subst ez
  obtain rfl : u = Value.ref a := rz
  obtain ⟨⟨o, vs, ho, zc, hd⟩, _, _⟩ := I1.hok a _ ea
  obtain ⟨mA, hns, hr⟩ := (show ObjOk X.prog X.w H1 s1.heap d (.xd fs) from I1.hok d _ ed)
  obtain ⟨od, hod, hl⟩ := lookIn_ns hns
  obtain ⟨w, hw, rw'⟩ := RelO.some_of (v := v) (o := mA n) (by rw [← l]; exact hr n)
  have J : PySem.W.InstAt s1.heap a o C (some od) := by
    refine ⟨ho, zc.1, ?_, ?_⟩
    · unfold PySem.W.notCls
      rw [hd] <;> rfl
    · rw [zc.2]
      exact hod
  exact HandSPX.exc_get I1.kIn J T.ga T.gg T.exC (PySem.W.findObj_own T.hdC hno rfl (by rw [hl, hw])) (handed_of rw') ⟨v, H1, I1.tok _, rw', q⟩
end
end Gs

/-! the class of a caught error that has fields -/
namespace PySem.W
open PySem PySem.Spec PySem.Calls PyProof.Rows
section
variable {prog : Program} {w : World} {A : Around} {E : Value → Shared → Prop} {s : Shared} {K : Frag} {x D : Addr} {ox : Obj} {od : Option Obj}
theorem gs_findData {C : Addr} {nm : Str} {a g : Value} (hc : (clsIn K C).isSome = true) (ha : findIn K (.ref C) nm = some (some a))
    (hg : specialIn K a "__get__" = some (some g)) (ht : takesIn K a = some true) : findObj K C od nm = some (.bind g a) := by
  obtain ⟨cd, hcd⟩ := Option.isSome_iff_exists.mp hc
  unfold findObj
  rw [hcd, Option.bind_some, ha, Option.bind_some]
  simp [hg, ht]
theorem gs_class {Q : Option Value → Shared → Prop} (C : L2.ExcC K D) (X : K.In s.heap) (I : InstAt s.heap x ox D od)
    (h : Q (some (.ref D)) { s with toks := s.toks + 1 }) : wpAny (model prog w) A (getAttr? (.ref x) "__class__") Q E s := by
  obtain ⟨hga, hgt, hsub, hdct, ha, hn, htk, hm⟩ := C
  have hcl : (clsIn K D).isSome = true := by
    obtain ⟨cd, hc, _⟩ := any_some hdct
    rw [hc]
    rfl
  have hf : findObj K D od "__class__" = some (.bind (.builtin "getset_descriptor.__get__") (.builtin "object.__class__")) :=
    gs_findData hcl ha hn htk
  obtain ⟨hp, g, d, t, os⟩ := s
  have T0 := I.type (M := model prog w)
  have T1 := looks_findIn (M := model prog w) X hga
  have T2 := looks_findIn (M := model prog w) X hgt
  have T3 := looks_find (M := model prog w) X I hf
  have isE : Looks (model prog w) hp (isInstance (.ref x) (.type "BaseException")) true :=
    T0.andThen (looks_subIn X hsub)
  have c0 : (false && onTheHeap (Value.builtin "BaseException.__getattribute__")) = false := rfl
  have c1 : (onTheHeap (Value.ref D) && Value.builtin "BaseException.__getattribute__" == Value.builtin "object.__getattribute__") = false := by
    have c2 : (Value.builtin "BaseException.__getattribute__" == Value.builtin "object.__getattribute__") = false := by decide +kernel
    rw [c2]
    rfl
  unfold getAttr? getAttrBy? getAttrBy
  refine wpAny_bind (wpAny_mkText ?_)
  refine wpAny_bind (wpAny_attempt (wpAny_holding ?_))
  refine wpAny_bind (T0.at (wpAny_bind (T1.at ?_)))
  show wpAny _ _ (if (onTheHeap (Value.ref D) && _) = true then _ else _) _ _ _
  rw [c1, if_neg Bool.false_ne_true]
  unfold getAttrByItsOwn hookBefore
  refine wpAny_bind ?_
  rw [if_pos (show onTheHeap (Value.ref D) = true from rfl)]
  refine T2.at ?_
  refine wpAny_bind (wpAny_attempt (wpAny_holding ?_))
  unfold callGetattribute
  rw [c0, if_neg Bool.false_ne_true]
  unfold boundAndCalled
  rw [PySem.F.excAttr_ValueError.ga.bind (.ref x)]
  refine wpAny_bind (wpAny_pure ?_)
  show wpAny _ _ (call (.builtin "BaseException.__getattribute__") [.ref x, .str "__class__" t]) _ _ _
  refine wpAny_call (codeAny_call_builtin PySem.F.excAttr_ValueError.ga.plain PySem.F.entry_bexc_ga ?_)
  refine @check_slot (model prog w) _ _ ⟨hp, g, d, t + 1, os⟩ "BaseException.__getattribute__" "BaseException" "__getattribute__"
    (.ref x) [.str "__class__" t] [] _ (by decide +kernel) (by decide +kernel) isE (PySem.F.args_bexc_ga (.ref x) (.str "__class__" t)) ?_
  unfold Builtin.«object.__getattribute__»
  refine wpAny_bind ?_
  refine wpAny_of_eq (a := ((Value.ref x : Value), [Value.str "__class__" t])) (by first | rfl | (simp only [slotArgs]; rfl)) ?_
  refine wpAny_bind (wpAny_pure ?_)
  refine wpAny_bind (T0.at (wpAny_bind (T3.at ?_)))
  show wpAny _ _ (holding [Value.builtin "object.__class__"] (call (.builtin "getset_descriptor.__get__")
    [.builtin "object.__class__", .ref x, .ref D]) >>= ret) _ _ _
  refine wpAny_bind (wpAny_holding (wpAny_call ?_))
  refine class_get (s := ⟨hp, g, d, t + 1, os⟩) (ox := ox) (od := od) X I hm ?_
  refine wpAny_pure ?_
  show wpAny _ _ (handedOut (.ref D)) _ _ _
  rw [handedOut_of (v := .ref D) rfl]
  first
    | exact wpAny_pure (wpAny_pure h)
    | exact wpAny_pure h
    | exact wpAny_pure (wpAny_bind (wpAny_pure (wpAny_pure h)))
theorem gs_kit (C : L2.ExcC K D) : KitX K (.ref x) (.ref D) (fun h => InstAt h x ox D od) := by
  obtain ⟨cdD, hcD, _⟩ := any_some C.hd
  refine ⟨fun _ _ _ I => I.type, fun M h X _ => ?_, fun h tp dd its n sl X htp => ?_, fun X I k => gs_class C X I k⟩
  · unfold clsIn at hcD
    split at hcD
    · rename_i ho
      intro A' Q' E' s' k q
      unfold isType loadHead
      exact wpAny_bind (wpAny_loadPart (k _ _ (X _ _ ho)) (wpAny_pure q))
    · cases hcD
  · refine Bool.eq_false_iff.mpr fun q => ?_
    have e : D = tp := Value.ref.inj (beq_iff_eq.mp q)
    subst e
    unfold clsIn at hcD
    split at hcD
    · rename_i ho
      have z := (X _ _ ho).symm.trans htp
      cases z
    · cases hcD
end
end PySem.W
namespace Gs
open PySem PySem.Spec PyProof.Rows L2
section
variable {X : Cx}
/-- isinstance(e, c) of a kept error with fields -/
theorem call_isF {D : Addr} (C : ExcC X.K D) : CallR X (.builtin "isinstance") (fun xs H Q => ∃ (a d : Addr) (fs : List (Str × V)) (t : V) (tv : Value) (b : Bool),
    xs = [.ref a, t] ∧ H a = some (ExK (.ref D) (some d) a) ∧ H d = some (.xd fs) ∧ (∀ u, RelV t u → u = tv) ∧ PySem.W.kitOne X.K (.ref D) tv = some b ∧ Q (.bl b) H) := by
  intro pins s σ H xs us Q I r h
  obtain ⟨a, d, fs, t, tv, b, rfl, ha, hd, ht, e, q⟩ := h
  cases r with
  | cons rx rr =>
    cases rr with
    | cons rt rr =>
      cases rr
      cases rx
      have ec := ht _ rt
      subst ec
      obtain ⟨⟨o, vs, g, z, hv⟩, _, _⟩ := I.hok a _ ha
      obtain ⟨mA, hns, _⟩ := (show ObjOk X.prog X.w H s.heap d (.xd fs) from I.hok d _ hd)
      obtain ⟨od, hod, _⟩ := lookIn_ns hns
      have W : PySem.W.InstAt s.heap a o D (some od) := by
        refine ⟨g, z.1, ?_, ?_⟩
        · unfold PySem.W.notCls
          rw [hv] <;> rfl
        · rw [z.2]
          exact hod
      exact PySem.W.kia_one (PySem.W.gs_kit C) I.kIn W e (fun z => nomatch z) fun tk => ⟨.bl b, H, I.kept (t' := tk) fun _ _ z => z, rfl, q⟩
/-- [..], away from the table of modules -/
theorem pe_lstM {es : List Expr} {t : TA} {pos : Pos} (h : PA X es t) : PE X (.List es pos) (fun σ H Q => t σ H fun xs H1 => xs.length ≤ sizeLine ∧ ∀ p, H1 p = none → p ≠ sysModules → Q (.ref p) (upd H1 p (.lst xs))) := by
  constructor
  intro pins s σ H Q I hq
  refine wpAny_List_spliced (thn (h.run pos pins s σ H _ I hq) ?_)
  intro us s1 ⟨xs, H1, I1, r, z, q⟩
  refine ⟨by rw [← r.length]; exact z, ?_⟩
  have hf : H1 s1.heap.objs.size = none := I1.hok.fresh (Nat.le_refl _)
  have big := I1.big
  refine ⟨.ref s1.heap.objs.size, upd H1 s1.heap.objs.size (.lst xs), ?_, rfl, q _ hf (Nat.ne_of_gt big)⟩
  refine I1.laid (t' := s1.toks) (fun b u e => Heap.get?_push_of_some _ e) (Nat.le_refl _) ?_
  exact ⟨z, us, 0, r, Heap.get?_push_size _ rfl⟩
end
/-! ### data with empty dicts in it -/
mutual
inductive Dq (K : PySem.W.Frag) (H : Hp) : V → PyData → Prop
  | non : Dq K H .non .none
  | bl (b : Bool) : Dq K H (.bl b) (.bool b)
  | int (i : Int) : Dq K H (.int i) (.int i)
  | str (x : Str) : Dq K H (.str x) (.str x)
  | lst {a : Addr} {xs : List V} {ds : List PyData} : a ≠ sysModules → SqL K H a xs → DqAll K H xs ds → Dq K H (.ref a) (.list ds)
  | tup {a : Addr} {xs : List V} {ds : List PyData} : SqT K H a xs → DqAll K H xs ds → Dq K H (.ref a) (.tuple ds)
  | dic {a : Addr} : H a = some (.dK []) → Dq K H (.ref a) (.dict [])
inductive DqAll (K : PySem.W.Frag) (H : Hp) : List V → List PyData → Prop
  | nil : DqAll K H [] []
  | cons {v : V} {vs : List V} {d : PyData} {ds : List PyData} : Dq K H v d → DqAll K H vs ds → DqAll K H (v :: vs) (d :: ds)
end
section
variable {X : Cx} {pins : List (Addr × Obj)} {σ : L2.St} {H : Hp} {s : Shared}
mutual
theorem Dq.reads (I : Inv X pins σ H s) : ∀ {v : V} {d : PyData}, Dq X.K H v d → ∀ u, RelV v u → ∃ as, Reads s.heap u d as ∧ sysModules ∉ as
  | _, _, .non, _, r => by
    cases r
    exact ⟨_, .none, List.not_mem_nil⟩
  | _, _, .bl b, _, r => by
    cases r
    exact ⟨_, .bool b, List.not_mem_nil⟩
  | _, _, .int i, _, r => by
    obtain ⟨t, rfl⟩ := r
    exact ⟨_, .int i t, List.not_mem_nil⟩
  | _, _, .str x, _, r => by
    obtain ⟨t, rfl⟩ := r
    exact ⟨_, .str x t, List.not_mem_nil⟩
  | _, _, .lst n h hs, _, r => by
    cases r
    obtain ⟨its, rv, ⟨o, m, h1, h2, _, h3⟩, _⟩ := I.list h
    obtain ⟨as, rd, na⟩ := DqAll.reads I hs _ rv
    refine ⟨_, .list h1 h2 h3 (by simpa using rd), fun q => ?_⟩
    rcases List.mem_cons.mp q with q | q
    · exact n q.symm
    · exact na q
  | _, _, .tup h hs, _, r => by
    cases r
    obtain ⟨its, rv, ⟨o, h1, h2, m, h3⟩, _⟩ := I.tuple h
    obtain ⟨as, rd, na⟩ := DqAll.reads I hs _ rv
    exact ⟨_, .tuple h1 h2 h3 (by simpa using rd), na⟩
  | _, _, .dic h, _, r => by
    cases r
    obtain ⟨_, hs, vs, kv, o, es, ep, h1, h2, h3, _, h5, _⟩ := dk_of I.hok h
    cases kv
    have e0 : es.toList = [] := by
      generalize es.toList = l at h5
      cases h5
      rfl
    refine ⟨_, .dict (kvs := []) h1 h2.1 h3 (by rw [e0]; exact .nil) (by rw [e0]; exact .nil), fun q => ?_⟩
    rcases List.mem_cons.mp q with q | q
    · rw [← q] at hs
      simp at hs
    · cases q
theorem DqAll.reads (I : Inv X pins σ H s) : ∀ {vs : List V} {ds : List PyData}, DqAll X.K H vs ds → ∀ us, Vals vs us → ∃ as, ReadsAll s.heap us ds as ∧ sysModules ∉ as
  | _, _, .nil, _, r => by
    cases r
    exact ⟨_, .nil, List.not_mem_nil⟩
  | _, _, .cons h hs, _, r => by
    cases r with
    | cons r1 r2 =>
      obtain ⟨as, q1, n1⟩ := Dq.reads I h _ r1
      obtain ⟨bs, q2, n2⟩ := DqAll.reads I hs _ r2
      refine ⟨_, .cons q1 q2, fun m => ?_⟩
      rcases List.mem_append.mp m with m | m
      · exact n1 m
      · exact n2 m
end
/-- repr of such data -/
theorem call_reprQ (hg : X.A.guards = some []) (hu : X.A.units + 64 < cLine) : CallR X (.builtin "repr") (fun xs H Q => ∃ (v : V) (d : PyData),
    xs = [v] ∧ Dq X.K H v d ∧ d.showable = true ∧ d.depth ≤ 60 ∧ d.shown.length ≤ sizeLine ∧ Q (.str d.shown) H) := by
  intro pins s σ H xs us Q I r h
  obtain ⟨v, d, rfl, hd, h1, h3, h4, q⟩ := h
  obtain ⟨u, rfl, ru⟩ := vals1 r
  obtain ⟨as, rd, na⟩ := Dq.reads I hd u ru
  have big : ∀ a, u = .ref a → wpAny (model X.prog X.w) X.A (call (.builtin "repr") [u]) (EP X pins σ Q) X.xe s := fun a e => by
    subst e
    exact repr_of_reads' rd h1 (fun _ => na) hg (by omega) (fun _ _ e => e) (fun h' u tk k => ⟨.str d.shown, H, I.kept k, ⟨u, rfl⟩, q⟩) h4
  cases rd with
  | none => exact PySem.P.repr_of_none ⟨.str _, H, I.tok _, ⟨_, rfl⟩, by simpa only [PyData.shown] using q⟩
  | bool b => exact PySem.P.repr_of_bool ⟨.str _, H, I.tok _, ⟨_, rfl⟩, by simpa only [PyData.shown] using q⟩
  | int i t =>
    have hz : i.natAbs.log2 < 1920 := by simpa only [PyData.showable, decide_eq_true_eq] using h1
    exact PySem.P.repr_of_int hz ⟨.str _, H, I.tok _, ⟨_, rfl⟩, by simpa only [PyData.shown] using q⟩
  | str x t =>
    have hz : (reprText x).length ≤ sizeLine := by simpa only [PyData.shown] using h4
    exact PySem.P.repr_of_str ⟨.str _, H, I.tok _, ⟨_, rfl⟩, by simpa only [PyData.shown] using q⟩ hz
  | list => exact big _ rfl
  | tuple => exact big _ rfl
  | dict => exact big _ rfl
end
end Gs

namespace Gs
open PySem PySem.Spec PyProof.Rows L2
/-! sorted(l), l a list of tuples (text, thing), no text twice -/
/-- a tuple of a text and a thing -/
def IsNm (h : Heap) (v : Value) (z : Str) (u : Value) : Prop := ∃ a o t n, v = .ref a ∧ h.get? a = some o ∧ o.cls = .type "tuple" ∧ o.data = .seq #[.str z t, u] n
theorem IsNm.keeps {h h' : Heap} {v u : Value} {z : Str} (p : IsNm h v z u) (k : ∀ b o, h.get? b = some o → o.cls = .type "tuple" → h'.get? b = some o) : IsNm h' v z u := by
  obtain ⟨a, o, t, n, e, ho, hc, hd⟩ := p
  exact ⟨a, o, t, n, e, k _ _ ho hc, hc, hd⟩
section
variable {prog : Program} {w : World} {A : Around} {E : Value → Shared → Prop} {s : Shared}
/-- the texts are unlike -/
def Unl (h : Heap) (vs : List Value) : Prop := ∀ v ∈ vs, ∀ v' ∈ vs, ∀ z u u', IsNm h v z u → IsNm h v' z u' → v = v'
theorem nm_tot {vs : List Value} (hp : ∀ v ∈ vs, ∃ z u, IsNm s.heap v z u) (hu : Unl s.heap vs) : Srt.Tot prog w A s (tuples' true) (fun p => p.1 ∈ vs) := by
  intro p q hm hm'
  obtain ⟨z, u, hz⟩ := hp _ hm
  obtain ⟨z', u', hz'⟩ := hp _ hm'
  have same : z = z' → p.1 = q.1 := fun e => hu _ hm _ hm' z u u' hz (e ▸ hz')
  obtain ⟨a, o, t, n, e, ho, hc, hd⟩ := hz
  obtain ⟨a', o', t', n', e', ho', hc', hd'⟩ := hz'
  rw [e, e'] at same
  rw [e, e']
  refine ⟨if z = z' then false else decide (z.cps.toList < z'.cps.toList), ?_⟩
  refine PySem.W.kat_lt ho hd ho' hd' ?_
  show PySem.W.KatLex prog w A true (decide (2 < 2)) _ [(.str z t, .str z' t'), (u, u')] 0 s
  refine PySem.W.kat_cons (SeqAt.EqAt.str_str z t z' t' prog w _ _ ?_)
  refine PySem.W.kat_go (fun e1 => ?_) (fun e1 => ?_)
  · have ez : z = z' := by simpa using e1
    have ea := Value.ref.inj (same ez)
    subst ea
    rw [ho] at ho'
    cases ho'
    rw [hd] at hd'
    have eu : u = u' := by
      injection hd' with h1 h2
      have h3 := congrArg (fun x : Array Value => x[1]?) h1
      simpa using h3
    subst eu
    have e3 : (if z = z' then false else decide (z.cps.toList < z'.cps.toList)) = false := by rw [if_pos ez]
    refine PySem.W.kat_yes (PySem.W.kat_cons (SeqAt.EqAt.same u prog w _ _ ?_))
    exact PySem.W.kat_yes (PySem.W.kat_nil ⟨rfl, e3.symm⟩)
  · have ez : ¬ z = z' := by simpa using e1
    have e3 : (if z = z' then false else decide (z.cps.toList < z'.cps.toList)) = decide (z.cps.toList < z'.cps.toList) := by rw [if_neg ez]
    exact PySem.W.kat_no (oneLt_str ⟨rfl, e3.symm⟩)
theorem nm_firsts {h : Heap} : ∀ {vs : List Value}, (∀ v ∈ vs, ∃ z u, IsNm h v z u) → ∃ fs : List Value, PySem.W.KatTups h vs fs ∧ fs.length = vs.length ∧ ∀ f ∈ fs, ∃ x t, f = Value.str x t
  | [], _ => ⟨[], PySem.W.KatTups.nil, rfl, fun _ hm => by simp at hm⟩
  | v :: vs, hp => by
    obtain ⟨fs, h1, h2, h3⟩ := nm_firsts (vs := vs) fun v' hm => hp v' (List.mem_cons_of_mem _ hm)
    obtain ⟨z, u, a, o, t, n, e, ho, hc, hd⟩ := hp v (List.mem_cons_self ..)
    subst e
    refine ⟨.str z t :: fs, PySem.W.KatTups.cons ho hc hd rfl h1, by rw [List.length_cons, List.length_cons, h2], fun f hm => ?_⟩
    rcases List.mem_cons.mp hm with rfl | hm
    · exact ⟨z, t, rfl⟩
    · exact h3 f hm
theorem nm_sortable {a : Addr} {vs : List Value} (h0 : 0 < vs.length) (hp : ∀ v ∈ vs, ∃ z u, IsNm s.heap v z u) (hu : ∀ h', (∀ b o, b ≠ a → s.heap.get? b = some o → h'.get? b = some o) → Unl h' vs) (ha : ∀ o, s.heap.get? a = some o → o.cls ≠ .type "tuple") : Srt.Sortable prog w A s a vs := by
  intro h' keep
  have hp' : ∀ v ∈ vs, ∃ z u, IsNm h' v z u := fun v hm => by
    obtain ⟨x, y, p⟩ := hp v hm
    exact ⟨x, y, p.keeps fun b o e c => keep b o (fun z => by subst z; exact ha o e c) e⟩
  obtain ⟨fs, h1, h2, h3⟩ := nm_firsts hp'
  refine ⟨tuples' true, fun Q E hq => ?_, nm_tot (s := { s with heap := h' }) hp' (hu h' keep)⟩
  refine PySem.W.kat_kind (T := .type "str") h1 (by omega) (fun f hm => ?_) (by rfl) ?_
  · obtain ⟨x, t, rfl⟩ := h3 f hm
    exact PySem.W.Looks.now
  · have e : (Value.type "str" != Value.type "tuple") = true := by first | decide +kernel | rfl | decide
    rw [e]
    exact hq

theorem sorted_nm {l : Addr} {vs : List Value} {Q : Value → Shared → Prop} (hl : s.heap.IsList l vs.toArray) (hz : vs.length ≤ sizeLine) (hp : ∀ v ∈ vs, ∃ z u, IsNm s.heap v z u)
    (hu : ∀ h', (∀ b o, s.heap.get? b = some o → h'.get? b = some o) → Unl h' vs)
    (h : ∀ (h' : Heap) (d : Addr) (out : List Value), out.Perm vs → (∀ b o, s.heap.get? b = some o → h'.get? b = some o) → s.heap.objs.size ≤ d → (∃ n, h'.get? d = some (seqObj "list" out.toArray n)) → Q (.ref d) { s with heap := h' }) :
    wpAny (model prog w) A (call (.builtin "sorted") [.ref l]) Q E s := by
  refine Srt.sorted_any hl hz (fun h2 h₁ a ha k => ?_) fun out ho => ?_
  · refine nm_sortable (s := { s with heap := h₁ }) (by omega) (fun v hm => ?_) (fun h' k' => hu h' fun b o e => k' b o (k b o e).1 (k b o e).2) fun o e => ?_
    · obtain ⟨z, u, p⟩ := hp v hm
      exact ⟨z, u, p.keeps fun b o e _ => (k b o e).2⟩
    · have e' : some o = some (seqObj "list" vs.toArray 0) := e.symm.trans ha
      cases e'
      intro c
      exact absurd (Value.type.inj c) (by decide)
  · exact h _ _ out ho (fun b o e => sortedAll_old e) (Nat.le_succ _) (sortedAll_at s.heap vs out.toArray)
end
section
variable {X : Cx}
/-- sorted(xs), xs a list of tuples (text, thing), no text twice: a new list of the same, in some order -/
def rSortedN (K : PySem.W.Frag) : List V → Hp → VK → Prop := fun vs H Q => ∃ a xs, vs = [V.ref a] ∧ SqL K H a xs ∧ (∀ x ∈ xs, ∃ t z v, x = V.ref t ∧ H t = some (.tup [.str z, v])) ∧
  (∀ t ∈ xs, ∀ t' ∈ xs, ∀ a a' z v v', t = V.ref a → t' = V.ref a' → H a = some (.tup [.str z, v]) → H a' = some (.tup [.str z, v']) → t = t') ∧
  ∀ ys p, ys.Perm xs → H p = none → Q (.ref p) (upd H p (.lst ys))
theorem cr_sortedN : CallR X (.builtin "sorted") (rSortedN X.K) := by
  intro pins s σ H vs us Q I r h
  obtain ⟨a, xs, rfl, hs, hx, hq, q⟩ := h
  obtain ⟨its, rv, hl, hz⟩ := I.list hs
  obtain ⟨u, rfl, ru⟩ := vals1 r
  obtain rfl : u = Value.ref a := ru
  obtain ⟨e1, e2⟩ := refs_back rv fun x m => by
    obtain ⟨t, _, _, e, _⟩ := hx x m
    exact ⟨t, e⟩
  have look : ∀ v ∈ its, ∃ (t : Addr) (z : Str) (y : V) (u : Value), v = .ref t ∧ V.ref t ∈ xs ∧ H t = some (.tup [.str z, y]) ∧ IsNm s.heap v z u := fun v hv => by
    obtain ⟨t, rfl⟩ := e2 v hv
    have hm : V.ref t ∈ xs := by rw [e1]; exact List.mem_map.mpr ⟨_, hv, rfl⟩
    obtain ⟨t', z, y, e, ht⟩ := hx _ hm
    cases e
    obtain ⟨_, its2, r2, o, ho, hc, n, hd⟩ := I.hok _ _ ht
    obtain ⟨u1, u2, rfl, ri, rj⟩ := vals2 r2
    obtain ⟨t1, rfl⟩ := ri
    exact ⟨t, z, y, u2, rfl, hm, ht, t, o, t1, n, rfl, ho, hc, hd⟩
  have one : ∀ {h' : Heap}, (∀ b o, s.heap.get? b = some o → h'.get? b = some o) → ∀ {v : Value} {z z' : Str} {u u' : Value}, IsNm s.heap v z u → IsNm h' v z' u' → z = z' := fun {h'} k {v z z' u u'} p p' => by
    obtain ⟨a1, o1, t1, n1, ea, ho1, _, hd1⟩ := p
    obtain ⟨a2, o2, t2, n2, eb, ho2, _, hd2⟩ := p'
    rw [ea] at eb
    cases eb
    rw [k _ _ ho1] at ho2
    cases ho2
    rw [hd1] at hd2
    injection hd2 with h1 h2
    have h3 := congrArg (fun x : Array Value => x[0]?) h1
    simp at h3
    exact h3.1
  refine sorted_nm hl.isList (by rw [← rv.length]; exact hz) (fun v hv => ?_) (fun h' k v hv v' hv' z u u' p p' => ?_) fun h' d out hp k hd hn => ?_
  · obtain ⟨t, z, y, u, rfl, _, _, p⟩ := look v hv
    exact ⟨z, u, p⟩
  · obtain ⟨t, z1, y1, u1, rfl, m1, ht1, p1⟩ := look v hv
    obtain ⟨t', z2, y2, u2, rfl, m2, ht2, p2⟩ := look v' hv'
    have g1 := one k p1 p
    have g2 := one k p2 p'
    subst g1
    subst g2
    have e := V.ref.inj (hq _ m1 _ m2 _ _ _ _ _ rfl rfl ht1 ht2)
    rw [e]
  · have h3 : ∀ u ∈ out, ∃ a, u = Value.ref a := fun u hu => e2 u (hp.mem_iff.mp hu)
    obtain ⟨n, hn⟩ := hn
    refine ⟨.ref d, upd H d (.lst (out.map backV)), I.laid (t' := s.toks) k hd ⟨?_, out, n, vals_back h3, hn⟩, rfl, q _ d ?_ (I.hok.fresh hd)⟩
    · rw [List.length_map, hp.length_eq, ← rv.length]; exact hz
    · rw [e1]; exact hp.map backV
end
end Gs

namespace Gs
open PySem PySem.Spec PyProof.Rows L2
/-! a statement whose ways join: what holds behind it is told once, and the rest is read once -/
def tJoin (t u : TS) : TS := fun D σ H => ∃ I : L2.St → Hp → Prop, t { D with nx := I } σ H ∧ ∀ σ' H', I σ' H' → u D σ' H'
theorem pss_join {X : Cx} {st : Stmt} {rest : List Stmt} {t u : TS} (h1 : PS X st t) (h2 : PSs X rest u) : PSs X (st :: rest) (tJoin t u) := by
  refine ⟨fun pins s σ H D Iv h => ?_⟩
  obtain ⟨I, ht, hu⟩ := h
  refine wpAny_execs_cons (thn (h1.run pins s σ H { D with nx := I } Iv ht) fun f s1 q => ?_)
  cases f with
  | next =>
    obtain ⟨σ', H', I', q⟩ := q
    exact h2.run pins s1 σ' H' D I' (hu σ' H' q)
  | ret v => exact q
  | brk => exact q
  | cont => exact q
end Gs

namespace Sf
open PySem PySem.Spec PyProof.Rows L2
/-! ### data of ints, texts and tuples: == is being the same -/
mutual
def plainD : PyData → Bool
  | .int _ => true
  | .str x => PyData.strOk x
  | .tuple xs => plainAll xs
  | _ => false
def plainAll : List PyData → Bool
  | [] => true
  | x :: xs => plainD x && plainAll xs
end
mutual
theorem plain_lay : ∀ d : PyData, plainD d = true → d.canLay0 = true
  | .int _, _ => by simp [PyData.canLay0]
  | .str x, h => by simpa [PyData.canLay0, plainD] using h
  | .tuple xs, h => by
    rw [plainD] at h
    rw [PyData.canLay0]
    exact plainAll_lay xs h
  | .none, h => by simp [plainD] at h
  | .bool _, h => by simp [plainD] at h
  | .list _, h => by simp [plainD] at h
  | .dict _, h => by simp [plainD] at h
theorem plainAll_lay : ∀ ds : List PyData, plainAll ds = true → PyData.canLayAll0 ds = true
  | [], _ => by simp [PyData.canLayAll0]
  | x :: xs, h => by
    rw [plainAll, Bool.and_eq_true] at h
    rw [PyData.canLayAll0, plain_lay x h.1, plainAll_lay xs h.2]
    rfl
end
mutual
theorem eqv_eq : ∀ d e : PyData, plainD d = true → plainD e = true → PyData.eqv d e = true → d = e
  | .int i, e, _, h2, h => by
    cases e <;> simp_all [PyData.eqv, plainD]
  | .str i, e, _, h2, h => by
    cases e <;> simp_all [PyData.eqv, plainD]
  | .tuple xs, e, h1, h2, h => by
    cases e with
    | tuple ys =>
      rw [plainD] at h1 h2
      rw [PyData.eqv] at h
      rw [eqvAll_eq xs ys h1 h2 h]
    | _ => simp_all [PyData.eqv, plainD]
  | .none, _, h, _, _ => by simp [plainD] at h
  | .bool _, _, h, _, _ => by simp [plainD] at h
  | .list _, _, h, _, _ => by simp [plainD] at h
  | .dict _, _, h, _, _ => by simp [plainD] at h
theorem eqvAll_eq : ∀ ds es : List PyData, plainAll ds = true → plainAll es = true → PyData.eqvAll ds es = true → ds = es
  | [], [], _, _, _ => rfl
  | [], _ :: _, _, _, h => by simp [PyData.eqvAll] at h
  | _ :: _, [], _, _, h => by simp [PyData.eqvAll] at h
  | x :: xs, y :: ys, h1, h2, h => by
    rw [plainAll, Bool.and_eq_true] at h1 h2
    rw [PyData.eqvAll, Bool.and_eq_true] at h
    rw [eqv_eq x y h1.1 h2.1 h.1, eqvAll_eq xs ys h1.2 h2.2 h.2]
end
theorem eqv_self {d : PyData} (h : plainD d = true) : PyData.eqv d d = true := SeqAt.eqv_refl d (plain_lay d h)
theorem plainAll_iff : ∀ {ds : List PyData}, plainAll ds = true ↔ ∀ d ∈ ds, plainD d = true
  | [] => by simp [plainAll]
  | x :: xs => by
    rw [plainAll, Bool.and_eq_true, plainAll_iff (ds := xs)]
    simp
theorem depthAll_le {n : Nat} : ∀ {ds : List PyData}, (∀ d ∈ ds, d.depth ≤ n) → PyData.depthAll ds ≤ n
  | [], _ => by simp [PyData.depthAll]
  | x :: xs, h => by
    rw [PyData.depthAll]
    exact Nat.max_le.mpr ⟨h x List.mem_cons_self, depthAll_le fun d hd => h d (List.mem_cons_of_mem _ hd)⟩
/-- plain, and at most n within one another -/
def Pl (n : Nat) (d : PyData) : Prop := plainD d = true ∧ d.depth ≤ n
theorem Pl.mono {n m : Nat} {d : PyData} (h : Pl n d) (e : n ≤ m) : Pl m d := ⟨h.1, Nat.le_trans h.2 e⟩
theorem Pl.shaped {n : Nat} {d : PyData} (h : Pl n d) (hn : n ≤ 64) : SeqAt.shaped d = true := by
  show (d.canLay0 && decide (d.depth ≤ 64)) = true
  rw [Bool.and_eq_true]
  exact ⟨plain_lay d h.1, decide_eq_true (Nat.le_trans h.2 hn)⟩
theorem Pl.tup {n : Nat} {ds : List PyData} (h : ∀ d ∈ ds, Pl n d) : Pl (n + 1) (.tuple ds) := by
  refine ⟨?_, ?_⟩
  · rw [plainD]
    exact plainAll_iff.mpr fun d hd => (h d hd).1
  · rw [PyData.depth]
    exact Nat.succ_le_succ (depthAll_le fun d hd => (h d hd).2)
theorem shaped_list {n : Nat} {ds : List PyData} (h : ∀ d ∈ ds, Pl n d) (hn : n ≤ 63) : SeqAt.shaped (.list ds) = true := by
  show (PyData.canLay0 (.list ds) && decide (PyData.depth (.list ds) ≤ 64)) = true
  rw [Bool.and_eq_true]
  refine ⟨?_, decide_eq_true ?_⟩
  · rw [PyData.canLay0]
    exact plainAll_lay ds (plainAll_iff.mpr fun d hd => (h d hd).1)
  · rw [PyData.depth]
    exact Nat.le_trans (Nat.succ_le_succ (depthAll_le fun d hd => (h d hd).2)) (Nat.succ_le_succ hn)
theorem pl_int {i : Int} : Pl 0 (.int i) := ⟨rfl, by simp [PyData.depth]⟩
theorem pl_str {x : Str} (h : PyData.strOk x = true) : Pl 0 (.str x) := ⟨by rw [plainD]; exact h, by simp [PyData.depth]⟩
/-! ### lists without one twice -/
def notIn (acc : List PyData) (x : PyData) : Bool := !acc.any fun z => PyData.eqv z x
def merge (acc xs : List PyData) : List PyData := acc ++ xs.filter (notIn acc)
theorem merge_nil {xs : List PyData} : merge [] xs = xs := by
  show [] ++ xs.filter (notIn []) = xs
  rw [List.nil_append, List.filter_eq_self]
  intro a _
  rfl
theorem merge_sub {acc xs : List PyData} {p : PyData → Prop} (h1 : ∀ d ∈ acc, p d) (h2 : ∀ d ∈ xs, p d) : ∀ d ∈ merge acc xs, p d := fun d hd => by
  rcases List.mem_append.mp hd with h | h
  · exact h1 d h
  · exact h2 d (List.mem_filter.mp h).1
theorem mem_merge {acc xs : List PyData} (h1 : ∀ d ∈ acc, plainD d = true) (h2 : ∀ d ∈ xs, plainD d = true) {x : PyData} (h : x ∈ acc ∨ x ∈ xs) : x ∈ merge acc xs := by
  rcases h with h | h
  · exact List.mem_append.mpr (.inl h)
  · cases e : notIn acc x with
    | true => exact List.mem_append.mpr (.inr (List.mem_filter.mpr ⟨h, e⟩))
    | false =>
      have e' : (acc.any fun z => PyData.eqv z x) = true := by
        unfold notIn at e
        simpa using e
      obtain ⟨z, hz, ez⟩ := List.any_eq_true.mp e'
      rw [← eqv_eq z x (h1 z hz) (h2 x h) ez]
      exact List.mem_append.mpr (.inl hz)
theorem merge_len {acc xs : List PyData} : (merge acc xs).length ≤ acc.length + xs.length := by
  unfold merge
  rw [List.length_append]
  exact Nat.add_le_add_left (List.length_filter_le _ _) _
/-- the place of the first like one -/
def idx (ds : List PyData) (d : PyData) : Nat := ds.findIdx fun z => PyData.eqv z d
theorem idx_at {ds : List PyData} {d : PyData} (h1 : ∀ z ∈ ds, plainD z = true) (h : d ∈ ds) : ds[idx ds d]? = some d ∧ ∀ (m : Nat) (z : PyData), m < idx ds d → ds[m]? = some z → PyData.eqv z d = false := by
  have hd := h1 d h
  have hl : idx ds d < ds.length := List.findIdx_lt_length_of_exists ⟨d, h, eqv_self hd⟩
  refine ⟨?_, fun m z hm hz => ?_⟩
  · have hp : PyData.eqv (ds[idx ds d]'hl) d = true := List.findIdx_getElem (p := fun z => PyData.eqv z d) (w := hl)
    have e := eqv_eq _ _ (h1 _ (List.getElem_mem hl)) hd hp
    rw [List.getElem?_eq_getElem hl, e]
  · obtain ⟨hm', rfl⟩ := List.getElem?_eq_some_iff.mp hz
    have := List.not_of_lt_findIdx (p := fun z => PyData.eqv z d) hm
    simpa using this
/-! ### sayings and forms -/
inductive Un | no | al | ev
inductive Bi | an | or | un
inductive Fw | an | or | un | re
def Un.s : Un → Str | .no => "not" | .al => "always" | .ev => "ever"
def Bi.s : Bi → Str | .an => "and" | .or => "or" | .un => "until"
def Fw.s : Fw → Str | .an => "and" | .or => "or" | .un => "until" | .re => "release"
def Bi.f : Bi → Fw | .an => .an | .or => .or | .un => .un
def Bi.t : Bi → Fw | .an => .or | .or => .an | .un => .re
inductive Sy
  | yes
  | at (w : Str) (r : List PyData)
  | un (w : Un) (s : Sy)
  | bi (w : Bi) (s t : Sy)
inductive Fm
  | yes | no
  | is (b : Bool) (n : Nat)
  | bi (w : Fw) (s t : Fm)
def dAt (w : Str) (r : List PyData) : PyData := .tuple (.str w :: r)
def dSy : Sy → PyData
  | .yes => .tuple [.str "yes"]
  | .at w r => dAt w r
  | .un w s => .tuple [.str w.s, dSy s]
  | .bi w s t => .tuple [.str w.s, dSy s, dSy t]
def isW (b : Bool) : Str := if b then "is" else "isnt"
def dFm : Fm → PyData
  | .yes => .tuple [.str "yes"]
  | .no => .tuple [.str "no"]
  | .is b n => .tuple [.str (isW b), .int n]
  | .bi w s t => .tuple [.str w.s, dFm s, dFm t]
def atomW : List Str := ["place", "deed", "wish"]
def AtOk (w : Str) (r : List PyData) : Prop := w ∈ atomW ∧ Pl 8 (dAt w r)
/-- a saying at most n within one another, its atoms in order -/
inductive SyOk : Nat → Sy → Prop
  | yes {n : Nat} : SyOk (n + 1) .yes
  | at {n : Nat} {w : Str} {r : List PyData} : AtOk w r → SyOk (n + 1) (.at w r)
  | un {n : Nat} {w : Un} {s : Sy} : SyOk n s → SyOk (n + 1) (.un w s)
  | bi {n : Nat} {w : Bi} {s t : Sy} : SyOk n s → SyOk n t → SyOk (n + 1) (.bi w s t)
inductive FmOk : Nat → Fm → Prop
  | yes {n : Nat} : FmOk (n + 1) .yes
  | no {n : Nat} : FmOk (n + 1) .no
  | is {n : Nat} {b : Bool} {k : Nat} : FmOk (n + 1) (.is b k)
  | bi {n : Nat} {w : Fw} {s t : Fm} : FmOk n s → FmOk n t → FmOk (n + 1) (.bi w s t)
theorem SyOk.mono : ∀ {n m : Nat} {s : Sy}, SyOk n s → n ≤ m → SyOk m s
  | _, 0, _, .yes, h => absurd h (by omega)
  | _, 0, _, .at _, h => absurd h (by omega)
  | _, 0, _, .un _, h => absurd h (by omega)
  | _, 0, _, .bi _ _, h => absurd h (by omega)
  | _, _ + 1, _, .yes, _ => .yes
  | _, _ + 1, _, .at a, _ => .at a
  | _, _ + 1, _, .un a, h => .un (a.mono (by omega))
  | _, _ + 1, _, .bi a b, h => .bi (a.mono (by omega)) (b.mono (by omega))
theorem FmOk.mono : ∀ {n m : Nat} {s : Fm}, FmOk n s → n ≤ m → FmOk m s
  | _, 0, _, .yes, h => absurd h (by omega)
  | _, 0, _, .no, h => absurd h (by omega)
  | _, 0, _, .is, h => absurd h (by omega)
  | _, 0, _, .bi _ _, h => absurd h (by omega)
  | _, _ + 1, _, .yes, _ => .yes
  | _, _ + 1, _, .no, _ => .no
  | _, _ + 1, _, .is, _ => .is
  | _, _ + 1, _, .bi a b, h => .bi (a.mono (by omega)) (b.mono (by omega))
def wd : Sy → Str | .yes => "yes" | .at w _ => w | .un w _ => w.s | .bi w _ _ => w.s
def hv : Sy → List Sy | .yes => [] | .at _ _ => [] | .un _ s => [s] | .bi _ s t => [s, t]
def isAt : Sy → Bool | .at _ _ => true | _ => false
theorem hv_len {s : Sy} : (hv s).length ≤ 2 := by
  cases s <;> simp [hv]
theorem dSy_hv {s : Sy} (h : isAt s = false) : dSy s = .tuple (.str (wd s) :: (hv s).map dSy) := by
  cases s <;> first | rfl | cases h
theorem hv_ok {n : Nat} {s : Sy} (h : SyOk (n + 1) s) : ∀ t ∈ hv s, SyOk n t := by
  cases h with
  | yes => exact fun t ht => absurd ht List.not_mem_nil
  | «at» _ => exact fun t ht => absurd ht List.not_mem_nil
  | un a => exact fun t ht => by rw [List.mem_singleton.mp ht]; exact a
  | bi a b =>
    intro t ht
    rcases List.mem_cons.mp ht with e | ht
    · rw [e]; exact a
    · rw [List.mem_singleton.mp ht]; exact b
def atomsOf : Sy → List PyData
  | .yes => []
  | .at w r => [dAt w r]
  | .un _ s => merge [] (atomsOf s)
  | .bi _ s t => merge (merge [] (atomsOf s)) (atomsOf t)
def gather (f : Sy → List PyData) (acc : List PyData) (hs : List Sy) : List PyData := hs.foldl (fun a h => merge a (f h)) acc
theorem atomsOf_hv {s : Sy} (h : isAt s = false) : atomsOf s = gather atomsOf [] (hv s) := by
  cases s <;> first | rfl | cases h
theorem atoms_pl {n : Nat} {s : Sy} (h : SyOk n s) : ∀ d ∈ atomsOf s, Pl 8 d := by
  induction h with
  | yes => exact fun d hd => absurd hd List.not_mem_nil
  | «at» a => exact fun d hd => by rw [List.mem_singleton.mp hd]; exact a.2
  | un a ih => exact merge_sub (fun d hd => absurd hd List.not_mem_nil) ih
  | bi a b i1 i2 => exact merge_sub (merge_sub (fun d hd => absurd hd List.not_mem_nil) i1) i2
theorem atoms_len {n : Nat} {s : Sy} (h : SyOk n s) : (atomsOf s).length ≤ 2 ^ n := by
  induction h with
  | yes => exact Nat.zero_le _
  | @«at» n w r a => exact Nat.one_le_two_pow
  | un a ih =>
    rw [atomsOf, merge_nil]
    exact Nat.le_trans ih (Nat.pow_le_pow_right (by decide) (by omega))
  | bi a b i1 i2 =>
    rw [atomsOf, merge_nil, Nat.pow_succ]
    exact Nat.le_trans merge_len (by omega)
/-- all atoms of a saying are among these -/
inductive Has (ds : List PyData) : Sy → Prop
  | yes : Has ds .yes
  | at {w : Str} {r : List PyData} : dAt w r ∈ ds → Has ds (.at w r)
  | un {w : Un} {s : Sy} : Has ds s → Has ds (.un w s)
  | bi {w : Bi} {s t : Sy} : Has ds s → Has ds t → Has ds (.bi w s t)
theorem Has.mono {ds es : List PyData} (h : ∀ d ∈ ds, d ∈ es) : ∀ {s : Sy}, Has ds s → Has es s
  | _, .yes => .yes
  | _, .at a => .at (h _ a)
  | _, .un a => .un (a.mono h)
  | _, .bi a b => .bi (a.mono h) (b.mono h)
theorem has_own {n : Nat} {s : Sy} (h : SyOk n s) : Has (atomsOf s) s := by
  induction h with
  | yes => exact .yes
  | «at» a => exact .at (List.mem_singleton.mpr rfl)
  | un a ih =>
    rw [atomsOf, merge_nil]
    exact .un ih
  | bi a b i1 i2 =>
    rw [atomsOf, merge_nil]
    have p1 := fun d hd => (atoms_pl a d hd).1
    have p2 := fun d hd => (atoms_pl b d hd).1
    exact .bi (i1.mono fun d hd => mem_merge p1 p2 (.inl hd)) (i2.mono fun d hd => mem_merge p1 p2 (.inr hd))
theorem hv_has {ds : List PyData} {s : Sy} (h : Has ds s) : ∀ t ∈ hv s, Has ds t := by
  cases h with
  | yes => exact fun t ht => absurd ht List.not_mem_nil
  | «at» _ => exact fun t ht => absurd ht List.not_mem_nil
  | un a => exact fun t ht => by rw [List.mem_singleton.mp ht]; exact a
  | bi a b =>
    intro t ht
    rcases List.mem_cons.mp ht with e | ht
    · rw [e]; exact a
    · rw [List.mem_singleton.mp ht]; exact b
def fm (ds : List PyData) : Sy → Bool → Fm
  | .yes, b => if b then .yes else .no
  | .at w r, b => .is b (idx ds (dAt w r))
  | .un .no s, b => fm ds s (!b)
  | .un .ev s, b => if b then .bi .un .yes (fm ds s b) else .bi .re .no (fm ds s b)
  | .un .al s, b => if b then .bi .re .no (fm ds s b) else .bi .un .yes (fm ds s b)
  | .bi w s t, b => .bi (if b then w.f else w.t) (fm ds s b) (fm ds t b)
theorem fm_ok {ds : List PyData} {n : Nat} {s : Sy} (h : SyOk n s) : ∀ b, FmOk (n + 1) (fm ds s b) := by
  induction h with
  | yes => intro b; cases b <;> constructor
  | «at» a => intro b; exact .is
  | @un n w s a ih =>
    intro b
    cases w with
    | no => exact (ih (!b)).mono (by omega)
    | ev => cases b
            · exact .bi .no (ih _)
            · exact .bi .yes (ih _)
    | al => cases b
            · exact .bi .yes (ih _)
            · exact .bi .no (ih _)
  | bi a b i1 i2 => intro c; exact .bi (i1 c) (i2 c)
theorem fm_not {ds : List PyData} {s : Sy} {b : Bool} : fm ds (.un .no s) b = fm ds s (!b) := rfl
theorem str_ok_un (w : Un) : PyData.strOk w.s = true := by cases w <;> decide +kernel
theorem str_ok_fw (w : Fw) : PyData.strOk w.s = true := by cases w <;> decide +kernel
theorem str_ok_bi (w : Bi) : PyData.strOk w.s = true := by cases w <;> decide +kernel
theorem pl2 {n : Nat} {a b : PyData} (h1 : Pl n a) (h2 : Pl n b) : Pl (n + 1) (.tuple [a, b]) := Pl.tup fun d hd => by
  rcases List.mem_cons.mp hd with e | hd
  · rw [e]; exact h1
  · rw [List.mem_singleton.mp hd]; exact h2
theorem pl3 {n : Nat} {a b c : PyData} (h1 : Pl n a) (h2 : Pl n b) (h3 : Pl n c) : Pl (n + 1) (.tuple [a, b, c]) := Pl.tup fun d hd => by
  rcases List.mem_cons.mp hd with e | hd
  · rw [e]; exact h1
  · rcases List.mem_cons.mp hd with e | hd
    · rw [e]; exact h2
    · rw [List.mem_singleton.mp hd]; exact h3
theorem pl1 {n : Nat} {a : PyData} (h1 : Pl n a) : Pl (n + 1) (.tuple [a]) := Pl.tup fun d hd => by
  rw [List.mem_singleton.mp hd]; exact h1
theorem fm_pl {n : Nat} {f : Fm} (h : FmOk n f) : Pl n (dFm f) := by
  induction h with
  | @yes n => exact (pl1 (pl_str (by decide +kernel))).mono (by omega)
  | @no n => exact (pl1 (pl_str (by decide +kernel))).mono (by omega)
  | @is n b k => exact (pl2 (pl_str (by cases b <;> decide +kernel)) pl_int).mono (by omega)
  | @bi n w s t a b i1 i2 => exact pl3 ((pl_str (str_ok_fw w)).mono (by omega)) i1 i2
theorem sy_pl {n : Nat} {s : Sy} (h : SyOk n s) : Pl (n + 8) (dSy s) := by
  induction h with
  | @yes n => exact (pl1 (pl_str (by decide +kernel))).mono (by omega)
  | @«at» n w r a => exact a.2.mono (by omega)
  | @un n w s a ih => exact (pl2 ((pl_str (str_ok_un w)).mono (by omega)) ih).mono (by omega)
  | @bi n w s t a b i1 i2 => exact (pl3 ((pl_str (str_ok_bi w)).mono (by omega)) i1 i2).mono (by omega)
/-! ### untils in a form -/
def hf : Fm → List Fm | .bi _ s t => [s, t] | _ => []
def wf : Fm → Str | .yes => "yes" | .no => "no" | .is b _ => isW b | .bi w _ _ => w.s
def isBi : Fm → Bool | .bi _ _ _ => true | _ => false
def ownU (f : Fm) : List PyData := match f with | .bi .un _ _ => [dFm f] | _ => []
def untilsOf : Fm → List PyData
  | .bi w s t => merge (merge (ownU (.bi w s t)) (untilsOf s)) (untilsOf t)
  | _ => []
def gatherF (f : Fm → List PyData) (acc : List PyData) (hs : List Fm) : List PyData := hs.foldl (fun a h => merge a (f h)) acc
theorem hf_len {s : Fm} : (hf s).length ≤ 2 := by
  cases s <;> simp [hf]
theorem untils_hf {f : Fm} : untilsOf f = gatherF untilsOf (ownU f) (hf f) := by
  cases f <;> rfl
theorem dFm_hf {f : Fm} (h : isBi f = true) : dFm f = .tuple (.str (wf f) :: (hf f).map dFm) := by
  cases f <;> first | rfl | cases h
theorem hf_ok {n : Nat} {f : Fm} (h : FmOk (n + 1) f) : ∀ t ∈ hf f, FmOk n t := by
  cases h with
  | bi a b =>
    intro t ht
    rcases List.mem_cons.mp ht with e | ht
    · rw [e]; exact a
    · rw [List.mem_singleton.mp ht]; exact b
  | _ => exact fun t ht => absurd ht List.not_mem_nil
theorem own_pl {n : Nat} {f : Fm} (h : FmOk n f) : ∀ d ∈ ownU f, Pl n d := by
  cases f with
  | bi w s t =>
    cases w with
    | un => exact fun d hd => by rw [List.mem_singleton.mp hd]; exact fm_pl h
    | _ => exact fun d hd => absurd hd List.not_mem_nil
  | _ => exact fun d hd => absurd hd List.not_mem_nil
theorem own_len {f : Fm} : (ownU f).length ≤ 1 := by
  cases f with
  | bi w s t => cases w <;> first | exact Nat.zero_le _ | exact Nat.le_refl _
  | _ => exact Nat.zero_le _
theorem untils_pl {n : Nat} {f : Fm} (h : FmOk n f) : ∀ d ∈ untilsOf f, Pl n d := by
  induction h with
  | bi a b i1 i2 => exact merge_sub (merge_sub (own_pl (.bi a b)) fun d hd => (i1 d hd).mono (by omega)) fun d hd => (i2 d hd).mono (by omega)
  | _ => exact fun d hd => absurd hd List.not_mem_nil
theorem untils_len {n : Nat} {f : Fm} (h : FmOk n f) : (untilsOf f).length + 1 ≤ 2 ^ n := by
  induction h with
  | @bi n w s t a b i1 i2 =>
    have h1 := @own_len (.bi w s t)
    rw [untilsOf, Nat.pow_succ]
    have h2 := @merge_len (ownU (.bi w s t)) (untilsOf s)
    have h3 := @merge_len (merge (ownU (.bi w s t)) (untilsOf s)) (untilsOf t)
    omega
  | _ => exact Nat.one_le_two_pow
theorem gather_take {α : Type} {f : α → List PyData} {acc : List PyData} {hs : List α} {i : Nat} {h : α} (e : hs[i]? = some h) :
    (hs.take (i + 1)).foldl (fun a h => merge a (f h)) acc = merge ((hs.take i).foldl (fun a h => merge a (f h)) acc) (f h) := by
  rw [List.take_add_one, e, Option.toList_some, List.foldl_append]
  rfl
theorem gather_sub {α : Type} {f : α → List PyData} {p : PyData → Prop} : ∀ {hs : List α} {acc : List PyData}, (∀ d ∈ acc, p d) → (∀ h ∈ hs, ∀ d ∈ f h, p d) → ∀ d ∈ hs.foldl (fun a h => merge a (f h)) acc, p d
  | [], _, h, _ => h
  | x :: xs, _, h, g => gather_sub (hs := xs) (merge_sub h (g x List.mem_cons_self)) fun y hy => g y (List.mem_cons_of_mem _ hy)
theorem gather_len {α : Type} {f : α → List PyData} {m : Nat} : ∀ {hs : List α} {acc : List PyData}, (∀ h ∈ hs, (f h).length ≤ m) → (hs.foldl (fun a h => merge a (f h)) acc).length ≤ acc.length + hs.length * m
  | [], _, _ => by simp
  | x :: xs, acc, h => by
    have h1 := gather_len (hs := xs) (acc := merge acc (f x)) (f := f) (m := m) fun y hy => h y (List.mem_cons_of_mem _ hy)
    have h2 := @merge_len acc (f x)
    have h3 := h x List.mem_cons_self
    rw [List.foldl_cons, List.length_cons, Nat.succ_mul]
    omega
end Sf

namespace W26
open PySem
def topS (i : Nat) : Stmt := PySem.Challenge.pw_glassladder_k26_normal_forms.main.body.getD i (.Pass ⟨0, 0, 0, 0⟩)
abbrev sAtomsOf : Stmt := topS 3
abbrev sFormBy : Stmt := topS 8
abbrev sNormal : Stmt := topS 9
abbrev sContrary : Stmt := topS 10
abbrev sHalves : Stmt := topS 11
abbrev sUntilsIn : Stmt := topS 12
abbrev sLeft : Stmt := topS 14
abbrev sDigit : Stmt := topS 15
abbrev sLow : Stmt := topS 16
abbrev sShare : Stmt := topS 19
abbrev sLine : Stmt := topS 20
abbrev sDrawn : Stmt := topS 23
abbrev sSaying : Stmt := topS 24
abbrev sAtomsIn : Stmt := topS 25
abbrev sFormed : Stmt := topS 26
abbrev sNever : Stmt := topS 27
abbrev sUntils : Stmt := topS 28
abbrev sLaw : Stmt := topS 29
end W26

namespace W26
open PySem PySem.Spec PyProof.Rows L2 Gs
/-! ### shares in the heap -/
abbrev vp (x : Int × Int) : List V := [.int x.1, .int x.2]
def TP (K : PySem.W.Frag) (H : Hp) (p : Addr) (x : Int × Int) : Prop := SqT K H p (vp x)
theorem same_tup {K : PySem.W.Frag} {H H' : Hp} {a : Addr} {xs : List V} (e : Same H H') (h : SqT K H a xs) : SqT K H' a xs := by
  rcases h with (h | ⟨o, h⟩) | h
  · exact .inl (.inl (e _ _ h))
  · exact .inl (.inr ⟨o, e _ _ h⟩)
  · exact .inr h
theorem same_new {H : Hp} {p : Addr} {o : HO} (h : H p = none) : Same H (upd H p o) := by
  intro b x e
  rw [upd_ne (ne_of_none e h)]
  exact e
theorem log_of {k : Int} {n : Nat} (h0 : 0 < n) (hn : n ≤ 9000) (h : k.natAbs < 2 ^ n) : k.natAbs.log2 < 9000 :=
  Nat.lt_of_lt_of_le (PySem.Flt.log2_lt_of h0 h) hn
theorem at0 {x : Int × Int} : atI (vp x) 0 = some (.int x.1) := atI_nat (j := 0) rfl
theorem at1 {x : Int × Int} : atI (vp x) 1 = some (.int x.2) := atI_nat (j := 1) rfl
/-! ### promises -/
def spDiv : Sp := fun vs H Q _ => ∃ a b : Int, vs = [.int a, .int b] ∧ Q (.int (gI a b)) H
def spRed : Sp := fun vs H Q _ => ∃ t b : Int, vs = [.int t, .int b] ∧ b ≠ 0 ∧ b.natAbs < 2 ^ 8000 ∧
  ∀ p, H p = none → Q (.ref p) (upd H p (.tup (vp (lw t b))))
/-- two shares in, a share out -/
def spTwo (K : PySem.W.Frag) (g : Int × Int → Int × Int → Int × Int) : Sp := fun vs H Q _ => ∃ (p q : Addr) (x y : Int × Int), vs = [.ref p, .ref q] ∧
  TP K H p x ∧ TP K H q y ∧ Sh x ∧ Sh y ∧ Bd 1000 x ∧ Bd 1000 y ∧ ∀ H' r, Same H H' → H r = none → H' r = some (.tup (vp (g x y))) → Q (.ref r) H'
theorem mulOk {a b : Int} (h1 : a.natAbs < 2 ^ 1000) (h2 : b.natAbs < 2 ^ 1000) : CMulW a b := wide_mul h1 h2 (by decide) (by decide) (by decide)
theorem bd2 {a b : Int} (h1 : a.natAbs < 2 ^ 1000) (h2 : b.natAbs < 2 ^ 1000) : (a * b).natAbs < 2 ^ 8000 := bd_mono (mul_bd h1 h2) (by decide)
theorem scLeft : FnScope ["_law_cell", "_law_left_here", "_law_drawn", "_law_turn"] ["_law_cell"] (defScope sLeft) := ⟨rfl, rfl, rfl, by decide +kernel, rfl, by decide +kernel, by decide +kernel⟩
theorem scDigit : FnScope ["_law_left_here", "_law_upto", "_law_found"] ["_law_left_here", "_law_upto"] (defScope sDigit) := ⟨rfl, rfl, rfl, by decide +kernel, rfl, by decide +kernel, by decide +kernel⟩
theorem scLow : FnScope ["_law_top", "_law_bottom", "_law_one", "_law_other"] ["_law_top", "_law_bottom"] (defScope sLow) := ⟨rfl, rfl, rfl, by decide +kernel, rfl, by decide +kernel, by decide +kernel⟩
theorem scShare : FnScope ["_law_left_here"] ["_law_left_here"] (defScope sShare) := ⟨rfl, rfl, rfl, by decide +kernel, rfl, by decide +kernel, by decide +kernel⟩
def spLeft : Sp := fun vs H Q _ => ∃ c : Int, vs = [.int c] ∧ ∀ p n, H p = none → Q (.ref p) (upd H p (.lst [.int n]))
def spDigit : Sp := fun vs H Q _ => ∃ (p : Addr) (n u : Int), vs = [.ref p, .int u] ∧ H p = some (.lst [.int n]) ∧ 0 < u ∧ u.natAbs.log2 < 9000 ∧
  Q (.int (n % u)) (upd H p (.lst [.int (n / u)]))
def Keep (p : Addr) (H H' : Hp) : Prop := ∀ b o, b ≠ p → H b = some o → H' b = some o
theorem Keep.trans {p : Addr} {H H1 H2 : Hp} (a : Keep p H H1) (b : Keep p H1 H2) : Keep p H H2 := fun c o n h => b c o n (a c o n h)
theorem keep_upd {p : Addr} {H : Hp} {o : HO} : Keep p H (upd H p o) := fun b u n e => by
  rw [upd_ne n]
  exact e
theorem keep_same {p : Addr} {H H' : Hp} (s : Same H H') : Keep p H H' := fun b u _ e => s b u e
def spDraw : Sp := fun vs H Q _ => ∃ (p : Addr) (n : Int), vs = [.ref p] ∧ H p = some (.lst [.int n]) ∧
  ∀ H' r x n', Keep p H H' → H' p = some (.lst [.int n']) → H r = none → H' r = some (.tup (vp x)) → Sh x → Bd 4 x → Q (.ref r) H'
section
variable {P : Program} {w : World} {K : PySem.W.Frag} {mg : Str → Option Value} {base : Heap} {f fD fL fS : Addr} {fd fdD fdL fdS : FuncData} {k : Nat}
theorem ok_left (F : Fun K "_law_left" "_law_left" sLeft f fd) (ma : mg "abs" = none) (mr : mg "range" = none) : FnOk P w K mg base CX0 (k + 1) f fd ["_law_cell"] spLeft := by
  refine F.ok scLeft (fun vs H Q E h => ?_) (fun cdv A outer s H vs Q E hr h => ?_)
  · obtain ⟨a, rfl, _⟩ := h
    rfl
  · obtain ⟨c, rfl, q⟩ := h
    refine ⟨_, pss_cons (ps_set (i := 1) scLeft.nd rfl (.inl rfl) (pe_callB call_abs (by rfl) ma (by decide +kernel) (pa_cons (pv 0) pa_nil)))
      (pss_cons (ps_if (pt_cmpR op_lt (pv 1) (pe_op op_pow pe_int pe_int) (nomark _))
        (pss_cons (ps_set (i := 2) scLeft.nd rfl (.inl rfl) (pv 0))
        (pss_one (ps_for PassesOwn.never rfl (pi_range1 (by rfl) mr (pa_cons pe_int pa_nil)) (pg_name (i := 3) scLeft.nd rfl (Or.inl rfl))
          (pss_cons (ps_set (i := 2) scLeft.nd rfl (.inl rfl) (pe_op op_mod (pe_op op_mul (pe_op op_add (pe_op op_mod (pv 2) pe_int) pe_int) pe_int) pe_int))
          (pss_cons (ps_set (i := 2) scLeft.nd rfl (.inl rfl) (pe_op op_add (pe_op op_mod (pe_op op_mul (pv 2) pe_int) pe_int) (pv 3)))
          (pss_one (ps_set (i := 1) scLeft.nd rfl (.inl rfl) (pe_op op_add (pe_op op_mul (pv 1) pe_int) (pv 2)))))))))
        pss_nil)
      (pss_one (ps_ret (pe_lst (pa_cons (pv 1) pa_nil))))), ?_⟩
    refine ⟨_, rfl, c, rfl, _, rfl, 10, 18, rfl, rfl, ⟨by decide, by decide, by decide⟩, _, _, rfl, rfl, _, rfl, ite2 (fun _ => ?_) (fun _ => ?_)⟩
    · refine ⟨_, rfl, 60, rfl, by decide, by decide, for_range (n := 60) (fun i σ H' => ∃ (l d : Int) (y : Option V), σ = [some (.int c), some (.int l), some (.int d), y] ∧ H' = H) ⟨_, _, none, rfl, rfl⟩ (fun i σ H' _ hp => ?_) (fun σ H' hp => ?_)⟩
      · obtain ⟨l, d, y, rfl, rfl⟩ := hp
        refine ⟨_, rfl, _, _, rfl, rfl, by show (0 : Int) < 2147483629; decide, _, _, rfl, rfl, _, _, rfl, rfl, .inr ⟨by decide, by decide⟩, _, _, rfl, rfl, by show (0 : Int) < 2147483629; decide, ?_⟩
        refine ⟨_, rfl, _, _, rfl, rfl, .inr ⟨by decide, by decide⟩, _, _, rfl, rfl, by show (0 : Int) < 2147483647; decide, _, rfl, _, _, rfl, rfl, ?_⟩
        refine ⟨_, rfl, _, _, rfl, rfl, .inr ⟨by decide, by decide⟩, _, rfl, _, _, rfl, rfl, ?_⟩
        exact ⟨_, _, _, rfl, rfl⟩
      · obtain ⟨l, d, y, rfl, rfl⟩ := hp
        exact ⟨_, rfl, by show 1 ≤ sizeLine; decide, fun p hp => q p _ hp⟩
    · exact ⟨_, rfl, by show 1 ≤ sizeLine; decide, fun p hp => q p _ hp⟩
theorem ok_digit (F : Fun K "_law_digit" "_law_digit" sDigit f fd) : FnOk P w K mg base CX0 (k + 1) f fd ["_law_left_here", "_law_upto"] spDigit := by
  refine F.ok scDigit (fun vs H Q E h => ?_) (fun cdv A outer s H vs Q E hr h => ?_)
  · obtain ⟨p, n, u, rfl, _⟩ := h
    rfl
  · obtain ⟨p, n, u, rfl, hp, hu, hz, q⟩ := h
    refine ⟨_, pss_cons (ps_set (i := 2) scDigit.nd rfl (.inl rfl) (pe_op op_mod (pe_ix ix_list (pv 0) pe_int (fun _ _ => rfl)) (pv 1)))
      (pss_cons (ps_asg (pe_op op_fdivW (pe_ix ix_list (pv 0) pe_int (fun _ _ => rfl)) (pv 1)) (pg_sub (pv 0) pe_int set_list))
      (pss_one (ps_ret (pv 2)))), ?_⟩
    refine ⟨_, rfl, p, _, 0, _, rfl, rfl, SqL.of hp, atI_nat (j := 0) rfl, _, rfl, n, u, rfl, rfl, hu, ?_⟩
    refine ⟨_, rfl, p, _, 0, _, rfl, rfl, SqL.of hp, atI_nat (j := 0) rfl, _, rfl, n, u, rfl, rfl, ⟨hu, hz⟩, ?_⟩
    refine ⟨_, rfl, p, _, 0, 0, rfl, rfl, hp, rfl, ?_⟩
    exact ⟨_, rfl, q⟩
theorem ok_low (F : Fun K "_law_low" "_law_low" sLow f fd) (ma : mg "abs" = none) : FnOk P w K mg base CX0 (k + 1) f fd ["_law_top", "_law_bottom"] spRed := by
  refine F.ok scLow (fun vs H Q E h => ?_) (fun cdv A outer s H vs Q E hr h => ?_)
  · obtain ⟨a, b, rfl, _⟩ := h
    rfl
  · obtain ⟨t, b, rfl, hb, hz, q⟩ := h
    refine ⟨_, pss_cons (ps_par (i := 2) (j := 3) (by rfl) scLow.nd rfl rfl (by decide) rfl rfl (pa_cons (pe_callB call_abs (by rfl) ma (by decide +kernel) (pa_cons (pv 0) pa_nil)) (pa_cons (pe_callB call_abs (by rfl) ma (by decide +kernel) (pa_cons (pv 1) pa_nil)) pa_nil)) (by rfl))
      (pss_cons (ps_while PassesOwn.never (pt_cmpR op_gt (pv 3) pe_int (nomark _))
        (pss_one (ps_par (i := 2) (j := 3) (by rfl) scLow.nd rfl rfl (by decide) rfl rfl (pa_cons (pv 3) (pa_cons (pe_op op_modN (pv 2) (pv 3)) pa_nil)) (by rfl))))
      (pss_cons (ps_if (pt_cmpR op_lt (pv 1) pe_int (nomark _)) (pss_one (ps_set (i := 2) scLow.nd rfl (.inl rfl) (pe_op op_sub pe_int (pv 2)))) pss_nil)
      (pss_one (ps_ret (pe_tup (pa_cons (pe_op op_fdivZ (pv 0) (pv 2)) (pa_cons (pe_op op_fdivZ (pv 1) (pv 2)) pa_nil))))))), ?_⟩
    refine ⟨_, rfl, t, rfl, _, rfl, b, rfl, _, _, rfl, ?_⟩
    refine ⟨fun c σ H' => ∃ m n : Int, σ = [some (.int t), some (.int b), some (.int m), some (.int n)] ∧ H' = H ∧ 0 ≤ m ∧ 0 ≤ n ∧ gI m n = gI t b ∧ c = n.toNat,
      ⟨_, _, _, rfl, rfl, by split <;> omega, by split <;> omega, gI_abs, rfl⟩, fun c σ H' hp => ?_⟩
    obtain ⟨m, n, rfl, rfl, hm, hn, hg, rfl⟩ := hp
    refine ⟨_, rfl, n, 0, rfl, rfl, _, rfl, ite2 (fun e => ?_) (fun e => ?_)⟩
    · have hn0 : 0 < n := of_decide_eq_true e
      have e3 : m.fmod n = m % n := Int.fmod_eq_emod_of_nonneg _ hn
      have h1 := Int.emod_nonneg m (show n ≠ 0 by omega)
      have h2 := Int.emod_lt_of_pos m hn0
      refine ⟨fun σ' H'' => ∃ m n' : Int, σ' = [some (.int t), some (.int b), some (.int m), some (.int n')] ∧ H'' = H' ∧ 0 ≤ m ∧ 0 ≤ n' ∧ gI m n' = gI t b ∧ n'.toNat < n.toNat, fun σ' H'' hN => ?_, ?_⟩
      · obtain ⟨m', n', e1, e2, p1, p2, p3, p4⟩ := hN
        exact ⟨_, p4, m', n', e1, e2, p1, p2, p3, rfl⟩
      · refine ⟨_, rfl, _, rfl, _, rfl, m, n, rfl, rfl, by omega, _, _, rfl, n, m.fmod n, rfl, rfl, hn, ?_, ?_, ?_⟩
        · rw [e3]
          exact h1
        · rw [← hg]
          unfold gI
          rw [gcd_turn hm hn0]
        · rw [e3]
          omega
    · have hn0 : ¬ 0 < n := fun z => e (decide_eq_true z)
      have hn1 : n = 0 := by omega
      subst hn1
      have e2 : gI m 0 = m := by
        unfold gI
        rw [Int.gcd_zero]
        omega
      rw [e2] at hg
      subst hg
      obtain ⟨g0, gz⟩ := gI_bd (a := t) hb hz
      have lg := log_of (by decide) (by decide) gz
      refine ⟨_, rfl, b, 0, rfl, rfl, _, rfl, ite2 (fun e2 => ?_) (fun e2 => ?_)⟩
      · have hn : b < 0 := of_decide_eq_true e2
        refine ⟨_, rfl, 0, gI t b, rfl, rfl, ?_⟩
        refine ⟨_, rfl, _, rfl, t, 0 - gI t b, rfl, rfl, ⟨by omega, by rw [Int.zero_sub, Int.natAbs_neg]; exact lg⟩, _, rfl, _, rfl, b, 0 - gI t b, rfl, rfl, ⟨by omega, by rw [Int.zero_sub, Int.natAbs_neg]; exact lg⟩, by show 2 ≤ sizeLine; decide, fun p hp => ?_⟩
        have z := q p hp
        unfold lw at z
        rw [if_pos hn, ← Int.zero_sub] at z
        exact z
      · have hn : ¬ b < 0 := fun z => e2 (decide_eq_true z)
        refine ⟨_, rfl, _, rfl, t, gI t b, rfl, rfl, ⟨by omega, lg⟩, _, rfl, _, rfl, b, gI t b, rfl, rfl, ⟨by omega, lg⟩, by show 2 ≤ sizeLine; decide, fun p hp => ?_⟩
        have z := q p hp
        unfold lw at z
        rw [if_neg hn] at z
        exact z
end
theorem ne_new {H : Hp} {p l : Addr} {o : HO} (e : H p = some o) (h : H l = none) : p ≠ l := ne_of_none e h
theorem free_of {p : Addr} {H H' : Hp} (k : Keep p H H') {r : Addr} (hr : r ≠ p) (h : H' r = none) : H r = none := by
  cases e : H r with
  | none => rfl
  | some o =>
    have z := k r o hr e
    rw [h] at z
    cases z
theorem pick5 (i : Int) (h0 : 0 ≤ i) (h5 : i < 5) : ∃ b : Int, atI [V.int 1, V.int 1, V.int 1, V.int 2, V.int 3] i = some (.int b) ∧ 0 < b ∧ b < 4 := by
  have h : i = 0 ∨ i = 1 ∨ i = 2 ∨ i = 3 ∨ i = 4 := by omega
  rcases h with rfl | rfl | rfl | rfl | rfl
  · exact ⟨1, rfl, by decide, by decide⟩
  · exact ⟨1, rfl, by decide, by decide⟩
  · exact ⟨1, rfl, by decide, by decide⟩
  · exact ⟨2, rfl, by decide, by decide⟩
  · exact ⟨3, rfl, by decide, by decide⟩
theorem log_lit {u : Int} {n : Nat} (h0 : 0 < n) (hn : n ≤ 9000) (h : u.natAbs < 2 ^ n) : u.natAbs.log2 < 9000 := log_of h0 hn h
section
variable {P : Program} {w : World} {K : PySem.W.Frag} {mg : Str → Option Value} {base : Heap} {f fD fL fS : Addr} {fd fdD fdL fdS : FuncData} {k : Nat}
theorem ok_share (F : Fun K "_law_share" "_law_share" sShare f fd)
    (GL : FnOk P w K mg base CX0 1 fL fdL ["_law_top", "_law_bottom"] spRed) (kL : PySem.W.keepIn K (.ref fL) = true) (bL : Binds K fdL ["_law_top", "_law_bottom"] []) (gL : mg "_law_low" = some (.ref fL))
    (GD : FnOk P w K mg base CX0 1 fD fdD ["_law_left_here", "_law_upto"] spDigit) (kD : PySem.W.keepIn K (.ref fD) = true) (bD : Binds K fdD ["_law_left_here", "_law_upto"] []) (gD : mg "_law_digit" = some (.ref fD)) :
    FnOk P w K mg base CX0 2 f fd ["_law_left_here"] spDraw := by
  refine F.ok scShare (fun vs H Q E h => ?_) (fun cdv A outer s H vs Q E hr h => ?_)
  · obtain ⟨p, n, rfl, _⟩ := h
    rfl
  · obtain ⟨p, n, rfl, hp, q⟩ := h
    refine ⟨_, pss_one (ps_ret (pe_call GL hr (by rfl) gL kL bL .nil pass0
      (pa_cons (pe_op op_sub (pe_call GD hr (by rfl) gD kD bD .nil pass0 (pa_cons (pv 0) (pa_cons pe_int pa_nil))) pe_int)
      (pa_cons (pe_ix ix_list (pe_lst (pa_cons pe_int (pa_cons pe_int (pa_cons pe_int (pa_cons pe_int (pa_cons pe_int pa_nil)))))) (pe_call GD hr (by rfl) gD kD bD .nil pass0 (pa_cons (pv 0) (pa_cons pe_int pa_nil))) (fun _ _ => rfl)) pa_nil)))), ?_⟩
    refine ⟨_, rfl, p, n, 13, rfl, hp, by decide, log_lit (n := 10) (by decide) (by decide) (by decide), _, _, rfl, rfl, by show 5 ≤ sizeLine; decide, fun l hl => ?_⟩
    have npl : p ≠ l := ne_new upd_same hl
    refine ⟨_, rfl, p, n / 13, 5, rfl, by rw [upd_ne npl]; exact upd_same, by decide, log_lit (n := 10) (by decide) (by decide) (by decide), ?_⟩
    have m0 := Int.emod_nonneg (n / 13) (show (5 : Int) ≠ 0 by decide)
    have m5 := Int.emod_lt_of_pos (n / 13) (show (0 : Int) < 5 by decide)
    obtain ⟨b, eb, b0, b4⟩ := pick5 _ m0 m5
    have t0 := Int.emod_nonneg n (show (13 : Int) ≠ 0 by decide)
    have t13 := Int.emod_lt_of_pos n (show (0 : Int) < 13 by decide)
    refine ⟨l, _, _, .int b, rfl, rfl, SqL.of (by rw [upd_ne (fun z => npl z.symm)]; exact upd_same), eb, n % 13 - 6, b, rfl, by omega, bd_mono (n := 10) (by omega) (by decide), fun r hr0 => ?_⟩
    have nrl : r ≠ l := fun z => by
      rw [z, upd_ne (fun z => npl z.symm), upd_same] at hr0
      cases hr0
    have nrp : r ≠ p := fun z => by
      rw [z, upd_same] at hr0
      cases hr0
    refine q _ r (lw (n % 13 - 6) b) ((n / 13) / 5) ?_ ?_ ?_ upd_same (lw_sh (by omega)) (lw_bd (by omega) (bd_mono (n := 3) (by omega) (by decide)) (bd_mono (n := 3) (by omega) (by decide)))
    · exact keep_upd.trans ((keep_same (same_new hl)).trans (keep_upd.trans (keep_same (same_new hr0))))
    · rw [upd_ne (fun z => nrp z.symm)]
      exact upd_same
    · rw [upd_ne nrp, upd_ne nrl, upd_ne nrp] at hr0
      exact hr0
end
end W26

namespace W26
open PySem PySem.Spec PyProof.Rows L2 Gs
/-! ### data of tuples alone: it stays while the list of what is left to draw changes -/
mutual
inductive Tp (K : PySem.W.Frag) (H : Hp) : V → PyData → Prop
  | non : Tp K H .non .none
  | bl (b : Bool) : Tp K H (.bl b) (.bool b)
  | int (i : Int) : Tp K H (.int i) (.int i)
  | str (x : Str) : Tp K H (.str x) (.str x)
  | tup {a : Addr} {xs : List V} {ds : List PyData} : SqT K H a xs → TpAll K H xs ds → Tp K H (.ref a) (.tuple ds)
inductive TpAll (K : PySem.W.Frag) (H : Hp) : List V → List PyData → Prop
  | nil : TpAll K H [] []
  | cons {v : V} {vs : List V} {d : PyData} {ds : List PyData} : Tp K H v d → TpAll K H vs ds → TpAll K H (v :: vs) (d :: ds)
end
/-- p is the list of what is left to draw -/
def Lf (H : Hp) (p : Addr) : Prop := ∃ n : Int, H p = some (.lst [.int n])
theorem keepT {K : PySem.W.Frag} {H H' : Hp} {p a : Addr} {xs : List V} (k : Keep p H H') (hp : Lf H p) (h : SqT K H a xs) : SqT K H' a xs := by
  obtain ⟨n, hp⟩ := hp
  rcases h with (h | ⟨o, h⟩) | h
  · exact .inl (.inl (k _ _ (fun e => by rw [e, hp] at h; cases h) h))
  · exact .inl (.inr ⟨o, k _ _ (fun e => by rw [e, hp] at h; cases h) h⟩)
  · exact .inr h
section
variable {K : PySem.W.Frag} {H H' : Hp} {p : Addr}
mutual
theorem Tp.keep (k : Keep p H H') (hp : Lf H p) : ∀ {v : V} {d : PyData}, Tp K H v d → Tp K H' v d
  | _, _, .non => .non
  | _, _, .bl b => .bl b
  | _, _, .int i => .int i
  | _, _, .str x => .str x
  | _, _, .tup h r => .tup (keepT k hp h) (TpAll.keep k hp r)
theorem TpAll.keep (k : Keep p H H') (hp : Lf H p) : ∀ {vs : List V} {ds : List PyData}, TpAll K H vs ds → TpAll K H' vs ds
  | _, _, .nil => .nil
  | _, _, .cons h r => .cons (Tp.keep k hp h) (TpAll.keep k hp r)
end
mutual
theorem Tp.mono (s : Same H H') : ∀ {v : V} {d : PyData}, Tp K H v d → Tp K H' v d
  | _, _, .non => .non
  | _, _, .bl b => .bl b
  | _, _, .int i => .int i
  | _, _, .str x => .str x
  | _, _, .tup h r => .tup (same_tup s h) (TpAll.mono s r)
theorem TpAll.mono (s : Same H H') : ∀ {vs : List V} {ds : List PyData}, TpAll K H vs ds → TpAll K H' vs ds
  | _, _, .nil => .nil
  | _, _, .cons h r => .cons (Tp.mono s h) (TpAll.mono s r)
end
mutual
theorem Tp.dp : ∀ {v : V} {d : PyData}, Tp K H v d → Dp K H v d
  | _, _, .non => .non
  | _, _, .bl b => .bl b
  | _, _, .int i => .int i
  | _, _, .str x => .str x
  | _, _, .tup h r => .tup h (TpAll.dp r)
theorem TpAll.dp : ∀ {vs : List V} {ds : List PyData}, TpAll K H vs ds → DpAll K H vs ds
  | _, _, .nil => .nil
  | _, _, .cons h r => .cons (Tp.dp h) (TpAll.dp r)
end
end
/-! ### lines -/
abbrev Ln := (Int × Int) × List (Str × (Int × Int))
def dS (x : Int × Int) : PyData := .tuple [.int x.1, .int x.2]
def dPt (z : Str × (Int × Int)) : PyData := .tuple [.str z.1, dS z.2]
def dLn (l : Ln) : PyData := .tuple [dS l.1, .tuple (l.2.map dPt)]
/-- shares in least numbers of at most n bits, names of zs, each at most once -/
structure LnOk (zs : List Str) (n : Nat) (l : Ln) : Prop where
  s0 : Sh l.1
  b0 : Bd n l.1
  ps : ∀ z ∈ l.2, z.1 ∈ zs ∧ Sh z.2 ∧ Bd n z.2
  ln : l.2.length ≤ zs.length
def spLine (K : PySem.W.Frag) : Sp := fun vs H Q _ => ∃ (p L : Addr) (zs : List Str), vs = [.ref p, .ref L] ∧ Lf H p ∧ H L = some (.lst (zs.map V.str)) ∧ zs.Nodup ∧ zs.length ≤ 100 ∧
  ∀ H' v l, Keep p H H' → Lf H' p → Tp K H' v (dLn l) → LnOk zs 4 l → Q v H'
theorem scLine : FnScope ["_law_left_here", "_law_names", "_law_parts", "_law_name", "_law_part"] ["_law_left_here", "_law_names"] (defScope sLine) := ⟨rfl, rfl, rfl, by decide +kernel, rfl, by decide +kernel, by decide +kernel⟩
structure Cl (P : Program) (w : World) (K : PySem.W.Frag) (mg : Str → Option Value) (base : Heap) (CX : CXT) (k : Nat) (x : Str) (ps : List Str) (sp : Sp) (f : Addr) (fd : FuncData) : Prop where
  g : mg x = some (.ref f)
  ok : FnOk P w K mg base CX k f fd ps sp
  kp : PySem.W.keepIn K (.ref f) = true
  bd : Binds K fd ps []
theorem ix_tupK {X : Cx} {K : PySem.W.Frag} (hk : X.K = K) : IxR X (rIxT K) := by
  subst hk
  exact ix_tup
/-- a part's cells: the tuple's place, the share's, the name, the share -/
abbrev Pc := Addr × Addr × Str × (Int × Int)
def nmC (c : Pc) : Str := c.2.2.1
def PcAt (H : Hp) (c : Pc) : Prop := H c.1 = some (.tup [.str c.2.2.1, .ref c.2.1]) ∧ H c.2.1 = some (.tup (vp c.2.2.2)) ∧ Sh c.2.2.2 ∧ Bd 4 c.2.2.2
/-- tuples stay -/
def TK (H H' : Hp) : Prop := ∀ b xs, H b = some (.tup xs) → H' b = some (.tup xs)
theorem TK.trans {H H1 H2 : Hp} (a : TK H H1) (b : TK H1 H2) : TK H H2 := fun c xs h => b c xs (a c xs h)
theorem tk_same {H H' : Hp} (s : Same H H') : TK H H' := fun b xs h => s b _ h
theorem tk_keep {H H' : Hp} {p : Addr} (k : Keep p H H') (hp : Lf H p) : TK H H' := fun b xs h => by
  obtain ⟨n, hp⟩ := hp
  exact k b _ (fun e => by rw [e, hp] at h; cases h) h
theorem tk_lst {H : Hp} {D : Addr} {acc : List V} {o : HO} (h : H D = some (.lst acc)) : TK H (upd H D o) := fun b xs e => by
  rw [upd_ne (fun z => by rw [z, h] at e; cases e)]
  exact e
theorem PcAt.tk {H H' : Hp} {c : Pc} (k : TK H H') (h : PcAt H c) : PcAt H' c := ⟨k _ _ h.1, k _ _ h.2.1, h.2.2⟩
theorem inj_nd {α β : Type} {f : α → β} : ∀ {l : List α}, (l.map f).Nodup → ∀ {a b : α}, a ∈ l → b ∈ l → f a = f b → a = b
  | [], _, _, _, h, _, _ => absurd h List.not_mem_nil
  | c :: l, nd, a, b, ha, hb, e => by
    rw [List.map_cons, List.nodup_cons] at nd
    rcases List.mem_cons.mp ha with e1 | h1
    · rcases List.mem_cons.mp hb with e2 | h2
      · rw [e1, e2]
      · exact absurd (List.mem_map.mpr ⟨b, h2, by rw [← e, e1]⟩) nd.1
    · rcases List.mem_cons.mp hb with e2 | h2
      · exact absurd (List.mem_map.mpr ⟨a, h1, by rw [e, e2]⟩) nd.1
      · exact inj_nd nd.2 h1 h2 e
theorem keep_at {p D : Addr} {H H' : Hp} {o : HO} (k : Keep p H H') (h : H D = none) : Keep p H (upd H' D o) := fun b u n e => by
  rw [upd_ne (ne_of_none e h)]
  exact k b u n e
theorem lf_ne {p b : Addr} {H : Hp} (hp : Lf H p) (h : H b = none) : p ≠ b := fun e => by
  obtain ⟨n, hp⟩ := hp
  rw [e, h] at hp
  cases hp
theorem lf_upd {p b : Addr} {H : Hp} {o : HO} (hp : Lf H p) (h : p ≠ b) : Lf (upd H b o) p := by
  obtain ⟨n, hp⟩ := hp
  exact ⟨n, by rw [upd_ne h]; exact hp⟩
theorem lf_draw {p : Addr} {H : Hp} {n : Int} : Lf (upd H p (.lst [.int n])) p := ⟨n, upd_same⟩
section
variable {P : Program} {w : World} {K : PySem.W.Frag} {mg : Str → Option Value} {base : Heap} {f f1 f2 : Addr} {fd d1 d2 : FuncData} {k : Nat}
theorem ok_line (F : Fun K "_law_line" "_law_line" sLine f fd) (D : Cl P w K mg base CX0 1 "_law_digit" ["_law_left_here", "_law_upto"] spDigit f1 d1) (S : Cl P w K mg base CX0 2 "_law_share" ["_law_left_here"] spDraw f2 d2)
    (mt : mg "tuple" = none) (ms : mg "sorted" = none) : FnOk P w K mg base CX0 3 f fd ["_law_left_here", "_law_names"] (spLine K) := by
  refine F.ok scLine (fun vs H Q E h => ?_) (fun cdv A outer s H vs Q E hr h => ?_)
  · obtain ⟨p, L, zs, rfl, _⟩ := h
    rfl
  · obtain ⟨p, L, zs, rfl, hp, hL, nd, zl, q⟩ := h
    have r1 := hr.mono (j := 1) (by decide)
    refine ⟨_, pss_cons (ps_setLc (i := 2) (own := [("_law_name", 3)]) (g := gName 3) rfl scLine.nd rfl rfl (sw_true rfl rfl rfl rfl) (pi_list (pv 1)) (blkOk_by (own := [("_law_name", 3)]) (N := ["_law_left_here", "_law_names", "_law_parts", "_law_name", "_law_part"]) (sc := defScope sLine) (by decide +kernel))
          (fun _ _ _ _ _ => pg_name (i := 3) scLine.nd rfl (Or.inl rfl))
          (fun _ _ _ _ _ => pts_one (pt_cmpR op_gt (pe_call D.ok r1 (by rfl) D.g D.kp D.bd .nil pass0 (pa_cons (pv 0) (pa_cons pe_int pa_nil))) pe_int (nomark _)))
          (fun _ _ _ _ _ => pe_tup (pa_cons (pv 3) (pa_cons (pe_call S.ok hr (by rfl) S.g S.kp S.bd .nil pass0 (pa_cons (pv 0) pa_nil)) pa_nil))))
      (pss_one (ps_ret (pe_tup (pa_cons (pe_call S.ok hr (by rfl) S.g S.kp S.bd .nil pass0 (pa_cons (pv 0) pa_nil))
        (pa_cons (pe_callTy call_tuple_of (by rfl) mt (by decide +kernel) (pa_cons
          (pe_lc (own := [("_law_part", 4)]) (g := gName 4) rfl scLine.nd (pi_list (pe_callB cr_sortedN (by rfl) ms (by decide +kernel) (pa_cons (pv 2) pa_nil))) (blkOk_by (own := [("_law_part", 4)]) (N := ["_law_left_here", "_law_names", "_law_parts", "_law_name", "_law_part"]) (sc := defScope sLine) (by decide +kernel))
            (fun _ _ _ _ _ => pg_name (i := 4) scLine.nd rfl (Or.inl rfl))
            (fun _ _ _ _ _ => pts_one (pt_cmpR op_ne (pe_ix (ix_tupK (K := K) rfl) (pe_ix (ix_tupK (K := K) rfl) (pv 4) pe_int (fun _ _ => rfl)) pe_int (fun _ _ => rfl)) pe_int (nomark _)))
            (fun _ _ _ _ _ => pv 4)) pa_nil)) pa_nil))))), ?_⟩
    refine ⟨_, rfl, L, rfl, ⟨_, SqL.of hL⟩, fun D0 hD0 => ?_⟩
    have nL : L ≠ p := fun e => by
      obtain ⟨n, hp⟩ := hp
      rw [e, hp] at hL
      cases zs with
      | nil => cases hL
      | cons z r => cases hL
    have pD0 : p ≠ D0 := lf_ne hp hD0
    refine lc_list (K := K) (xs := zs.map V.str) (fun i H' => ∃ cs : List Pc, H' D0 = some (.lst (cs.map fun c => V.ref c.1)) ∧ (∀ c ∈ cs, PcAt H' c ∧ nmC c ∈ zs.take i) ∧ (cs.map nmC).Nodup ∧ cs.length ≤ i ∧ Keep p H H' ∧ Lf H' p)
      ⟨[], upd_same, fun _ h => absurd h List.not_mem_nil, List.nodup_nil, Nat.le_refl _, keep_at (fun _ _ _ e => e) hD0, lf_upd hp pD0⟩ (fun i H' _ hp => ?_) (fun i x H1 hx hp => ?_) (fun H1 hp => ?_)
    · obtain ⟨cs, _, _, _, _, kp, _⟩ := hp
      exact SqL.of (kp _ _ nL hL)
    · obtain ⟨cs, e, al, nd1, le, kp, lf⟩ := hp
      rw [List.getElem?_map] at hx
      cases hz : zs[i]? with
      | none => rw [hz] at hx; cases hx
      | some z =>
        rw [hz] at hx
        cases hx
        obtain ⟨n, hn⟩ := lf
        have il : i < zs.length := (List.getElem?_eq_some_iff.mp hz).1
        have tk : zs.take (i + 1) = zs.take i ++ [z] := by rw [List.take_add_one, hz]; rfl
        refine ⟨rfl, ?_⟩
        refine ⟨_, rfl, p, n, 3, rfl, hn, by decide, log_lit (n := 10) (by decide) (by decide) (by decide), _, _, rfl, rfl, _, rfl, ?_⟩
        have e3 : upd H1 p (.lst [.int (n / 3)]) D0 = some (.lst (cs.map fun c => V.ref c.1)) := by
          rw [upd_ne (fun z => pD0 z.symm)]
          exact e
        have k3 : Keep p H (upd H1 p (.lst [.int (n / 3)])) := kp.trans keep_upd
        have t3 : TK H1 (upd H1 p (.lst [.int (n / 3)])) := tk_lst hn
        refine ite2 (fun _ => ?_) (fun _ => ?_)
        · refine ⟨_, rfl, _, rfl, p, _, rfl, upd_same, fun H4 r x n4 k4 hp4 hr0 hr4 sx bx => ⟨by show 2 ≤ sizeLine; decide, fun t ht => ?_⟩⟩
          have e4 := k4 _ _ (fun z => pD0 z.symm) e3
          have nt : D0 ≠ t := ne_of_none e4 ht
          have t4 : TK H1 H4 := t3.trans (tk_keep k4 lf_draw)
          have lf4 : Lf H4 p := ⟨n4, hp4⟩
          have pt : p ≠ t := lf_ne lf4 ht
          have e5 : upd H4 t (.tup [.str z, .ref r]) D0 = some (.lst (cs.map fun c => V.ref c.1)) := by
            rw [upd_ne nt]
            exact e4
          have t5 : TK H4 (upd H4 t (.tup [.str z, .ref r])) := tk_same (same_new ht)
          have t6 : TK (upd H4 t (.tup [.str z, .ref r])) (upd (upd H4 t (.tup [.str z, .ref r])) D0 (.lst ((cs.map fun c => V.ref c.1) ++ [.ref t]))) := tk_lst e5
          refine ⟨_, e5, ?_, cs ++ [(t, r, z, x)], ?_, fun c hc => ?_, ?_, ?_, ?_, ?_⟩
          · rw [List.length_map]
            exact small1000 (by omega)
          · rw [upd_same, List.map_append]
            rfl
          · rw [tk]
            rcases List.mem_append.mp hc with hc | hc
            · exact ⟨(al c hc).1.tk (t4.trans (t5.trans t6)), List.mem_append.mpr (.inl (al c hc).2)⟩
            · cases List.mem_singleton.mp hc
              exact ⟨⟨t6 _ _ upd_same, (t5.trans t6) _ _ hr4, sx, bx⟩, List.mem_append.mpr (.inr (List.mem_singleton.mpr rfl))⟩
          · rw [List.map_append, List.nodup_append]
            refine ⟨nd1, List.nodup_cons.mpr ⟨List.not_mem_nil, List.nodup_nil⟩, fun a ha b hb => ?_⟩
            obtain ⟨c, hc, rfl⟩ := List.mem_map.mp ha
            have eb : b = z := List.mem_singleton.mp hb
            rw [eb]
            intro ez
            have h1 := (al c hc).2
            rw [ez] at h1
            have h2 : (zs.take (i + 1)).Nodup := nd.sublist (List.take_sublist _ _)
            rw [tk, List.nodup_append] at h2
            exact h2.2.2 z h1 z (List.mem_singleton.mpr rfl) rfl
          · rw [List.length_append]
            exact Nat.succ_le_succ le
          · exact keep_at ((k3.trans k4).trans (keep_same (same_new ht))) hD0
          · exact lf_upd (lf_upd lf4 pt) pD0
        · exact ⟨cs, e3, fun c hc => ⟨(al c hc).1.tk t3, by rw [tk]; exact List.mem_append.mpr (.inl (al c hc).2)⟩, nd1, by omega, k3, lf_draw⟩
    · obtain ⟨cs, e1, al, nd1, le, k1, n1, hn1⟩ := hp
      have le1 : cs.length ≤ zs.length := by rw [List.length_map] at le; exact le
      refine ⟨_, rfl, p, n1, rfl, hn1, fun H2 r x0 n2 k2 hn2 hr0 hr2 sx0 bx0 => ?_⟩
      have t2 : TK H1 H2 := tk_keep k2 ⟨n1, hn1⟩
      have e2 := k2 _ _ (fun z => pD0 z.symm) e1
      have al2 : ∀ c ∈ cs, PcAt H2 c ∧ nmC c ∈ zs := fun c hc => ⟨(al c hc).1.tk t2, List.mem_of_mem_take (al c hc).2⟩
      have kk2 : Keep p H H2 := k1.trans k2
      refine ⟨_, rfl, D0, _, rfl, SqL.of e2, fun x hx => ?_, fun t ht t' ht' a a' z v v' ea ea' ha ha' => ?_, fun ys d perm hd => ⟨d, rfl, ⟨_, SqL.of upd_same⟩, fun D2 hD2 => ?_⟩⟩
      · obtain ⟨c, hc, rfl⟩ := List.mem_map.mp hx
        exact ⟨c.1, _, _, rfl, (al2 c hc).1.1⟩
      · obtain ⟨c, hc, rfl⟩ := List.mem_map.mp ht
        obtain ⟨c', hc', rfl⟩ := List.mem_map.mp ht'
        cases ea
        cases ea'
        rw [(al2 c hc).1.1] at ha
        rw [(al2 c' hc').1.1] at ha'
        have g1 : nmC c = z := by
          cases ha
          rfl
        have g2 : nmC c' = z := by
          cases ha'
          rfl
        have g : c = c' := inj_nd nd1 hc hc' (g1.trans g2.symm)
        rw [g]
      · have pd : p ≠ d := lf_ne ⟨n2, hn2⟩ hd
        have lf3 : Lf (upd H2 d (.lst ys)) p := lf_upd ⟨n2, hn2⟩ pd
        have pD2 : p ≠ D2 := lf_ne lf3 hD2
        have s3 : Same H2 (upd H2 d (.lst ys)) := same_new hd
        have dD2 : d ≠ D2 := ne_of_none upd_same hD2
        have k3 : Keep p H (upd H2 d (.lst ys)) := kk2.trans (keep_same s3)
        have hD2H : H D2 = none := free_of k3 (fun z => pD2 z.symm) hD2
        have hr3 : upd H2 d (.lst ys) r = some (.tup (vp x0)) := s3 _ _ hr2
        have ylen : ys.length ≤ zs.length := by rw [perm.length_eq, List.length_map]; exact le1
        have hd3 : upd H2 d (.lst ys) d = some (.lst ys) := upd_same
        generalize upd H2 d (.lst ys) = H3 at *
        refine lc_list (K := K) (xs := ys) (fun i H' => ∃ es : List Pc, H' D2 = some (.lst (es.map fun c => V.ref c.1)) ∧ (∀ c ∈ es, PcAt H' c ∧ nmC c ∈ zs) ∧ (∀ c ∈ cs, PcAt H' c) ∧ es.length ≤ i ∧ Keep p H H' ∧ Lf H' p ∧ H' d = some (.lst ys) ∧ H' r = some (.tup (vp x0)))
          ⟨[], upd_same, fun _ h => absurd h List.not_mem_nil, fun c hc => (al2 c hc).1.tk ((tk_same s3).trans (tk_same (same_new hD2))), Nat.le_refl _, keep_at k3 hD2H, lf_upd lf3 pD2, same_new hD2 _ _ hd3, same_new hD2 _ _ hr3⟩ (fun i H' _ hp => ?_) (fun i x H4 hx hp => ?_) (fun H4 hp => ?_)
        · obtain ⟨es, _, _, _, _, _, _, h, _⟩ := hp
          exact SqL.of h
        · obtain ⟨es, e4, al4, all4, le4, k4, lf4, hd4, hr4⟩ := hp
          have hm : x ∈ cs.map fun c => V.ref c.1 := perm.mem_iff.mp (List.mem_of_getElem? hx)
          obtain ⟨c, hc, rfl⟩ := List.mem_map.mp hm
          have pc := all4 c hc
          refine ⟨rfl, ?_⟩
          refine ⟨_, rfl, c.1, _, 1, _, rfl, rfl, SqT.of pc.1, atI_nat (j := 1) rfl, c.2.1, _, 0, _, rfl, rfl, SqT.of pc.2.1, at0, rfl, _, rfl, ?_⟩
          refine ite2 (fun _ => ?_) (fun _ => ?_)
          · have t5 : TK H4 (upd H4 D2 (.lst ((es.map fun c => V.ref c.1) ++ [.ref c.1]))) := tk_lst e4
            refine ⟨_, rfl, _, e4, ?_, es ++ [c], ?_, fun c' hc' => ?_, fun c' hc' => (all4 c' hc').tk t5, ?_, keep_at k4 hD2H, lf_upd lf4 pD2, ?_, t5 _ _ hr4⟩
            · have il := (List.getElem?_eq_some_iff.mp hx).1
              rw [List.length_map]
              exact small1000 (by omega)
            · rw [upd_same, List.map_append]
              rfl
            · rcases List.mem_append.mp hc' with h | h
              · exact ⟨(al4 c' h).1.tk t5, (al4 c' h).2⟩
              · cases List.mem_singleton.mp h
                exact ⟨pc.tk t5, (al2 c hc).2⟩
            · rw [List.length_append]
              exact Nat.succ_le_succ le4
            · rw [upd_ne dD2]
              exact hd4
          · exact ⟨es, e4, al4, all4, by omega, k4, lf4, hd4, hr4⟩
        · obtain ⟨es, e4, al4, _, le4, k4, lf4, _, hr4⟩ := hp
          refine ⟨D2, _, rfl, .inl ⟨SqL.of e4, fun l hl => ⟨by show 2 ≤ sizeLine; decide, fun v hv => ?_⟩⟩⟩
          have s5 : Same H4 (upd H4 l (.tup (es.map fun c => V.ref c.1))) := same_new hl
          have s6 := same_new (o := .tup [.ref r, .ref l]) hv
          have s7 := s5.trans s6
          have pl5 : p ≠ l := lf_ne lf4 hl
          have lf5 : Lf (upd H4 l (.tup (es.map fun c => V.ref c.1))) p := lf_upd lf4 pl5
          refine q _ _ (x0, es.map fun c => (nmC c, c.2.2.2)) (k4.trans (keep_same s7)) (lf_upd lf5 (lf_ne lf5 hv)) ?_ ⟨sx0, bx0, fun z hz => ?_, ?_⟩
          · refine .tup (SqT.of upd_same) (.cons (.tup (SqT.of (s7 _ _ hr4)) (.cons (.int _) (.cons (.int _) .nil))) (.cons (.tup (SqT.of (s6 _ _ upd_same)) ?_) .nil))
            have go : ∀ fs : List Pc, (∀ c ∈ fs, PcAt H4 c ∧ nmC c ∈ zs) → TpAll K _ (fs.map fun c => V.ref c.1) ((fs.map fun c => (nmC c, c.2.2.2)).map dPt) := fun fs => by
              induction fs with
              | nil => exact fun _ => .nil
              | cons c fs ih =>
                intro h
                obtain ⟨h1, h2, _⟩ := (h c List.mem_cons_self).1
                exact .cons (.tup (SqT.of (s7 _ _ h1)) (.cons (.str _) (.cons (.tup (SqT.of (s7 _ _ h2)) (.cons (.int _) (.cons (.int _) .nil))) .nil))) (ih fun c' hc' => h c' (List.mem_cons_of_mem _ hc'))
            exact go es al4
          · obtain ⟨c, hc, rfl⟩ := List.mem_map.mp hz
            exact ⟨(al4 c hc).2, (al4 c hc).1.2.2.1, (al4 c hc).1.2.2.2⟩
          · show (es.map fun c => (nmC c, c.2.2.2)).length ≤ zs.length
            rw [List.length_map]
            omega
end
end W26

namespace W26
open PySem PySem.Spec PyProof.Rows L2 Gs Sf
/-! ### data of tuples in the heap, taken apart -/
section
variable {K : PySem.W.Frag} {H H' : Hp}
theorem tp_tup {v : V} {ds : List PyData} (h : Tp K H v (.tuple ds)) : ∃ a xs, v = .ref a ∧ SqT K H a xs ∧ TpAll K H xs ds := by
  cases h with
  | tup h r => exact ⟨_, _, rfl, h, r⟩
theorem tp_cons {xs : List V} {d : PyData} {ds : List PyData} (h : TpAll K H xs (d :: ds)) : ∃ v vs, xs = v :: vs ∧ Tp K H v d ∧ TpAll K H vs ds := by
  cases h with
  | cons h r => exact ⟨_, _, rfl, h, r⟩
theorem tp_nil {xs : List V} (h : TpAll K H xs []) : xs = [] := by
  cases h
  rfl
theorem tp_str {v : V} {z : Str} (h : Tp K H v (.str z)) : v = .str z := by
  cases h
  rfl
theorem TpAll.len : ∀ {vs : List V} {ds : List PyData}, TpAll K H vs ds → vs.length = ds.length
  | _, _, .nil => rfl
  | _, _, .cons _ r => congrArg (· + 1) r.len
theorem TpAll.at : ∀ {vs : List V} {ds : List PyData}, TpAll K H vs ds → ∀ {i : Nat} {v : V}, vs[i]? = some v → ∃ d, ds[i]? = some d ∧ Tp K H v d
  | _, _, .nil, i, v, e => by simp at e
  | _, _, .cons h r, 0, v, e => by
    cases e
    exact ⟨_, rfl, h⟩
  | _, _, .cons h r, i + 1, v, e => r.at (i := i) e
theorem TpAll.app : ∀ {vs ws : List V} {ds es : List PyData}, TpAll K H vs ds → TpAll K H ws es → TpAll K H (vs ++ ws) (ds ++ es)
  | _, _, _, _, .nil, h => h
  | _, _, _, _, .cons h r, h2 => .cons h (r.app h2)
/-- p is a list -/
def Ls (H : Hp) (p : Addr) : Prop := ∃ xs : List V, H p = some (.lst xs)
theorem keepTL {p a : Addr} {xs : List V} (k : Keep p H H') (hp : Ls H p) (h : SqT K H a xs) : SqT K H' a xs := by
  obtain ⟨n, hp⟩ := hp
  rcases h with (h | ⟨o, h⟩) | h
  · exact .inl (.inl (k _ _ (fun e => by rw [e, hp] at h; cases h) h))
  · exact .inl (.inr ⟨o, k _ _ (fun e => by rw [e, hp] at h; cases h) h⟩)
  · exact .inr h
mutual
theorem Tp.keepL {p : Addr} (k : Keep p H H') (hp : Ls H p) : ∀ {v : V} {d : PyData}, Tp K H v d → Tp K H' v d
  | _, _, .non => .non
  | _, _, .bl b => .bl b
  | _, _, .int i => .int i
  | _, _, .str x => .str x
  | _, _, .tup h r => .tup (keepTL k hp h) (TpAll.keepL k hp r)
theorem TpAll.keepL {p : Addr} (k : Keep p H H') (hp : Ls H p) : ∀ {vs : List V} {ds : List PyData}, TpAll K H vs ds → TpAll K H' vs ds
  | _, _, .nil => .nil
  | _, _, .cons h r => .cons (Tp.keepL k hp h) (TpAll.keepL k hp r)
end
theorem cut1 {v : V} {vs : List V} : cutV (v :: vs) (some 1) none = vs := by
  have e : HT.sIx (vs.length + 1) 0 (some 1) = 1 := by
    show (if (1 : Int) < 0 then ((1 : Int) + ((vs.length + 1 : Nat) : Int)).toNat else min (1 : Int).toNat (vs.length + 1)) = 1
    rw [if_neg (by decide)]
    show min 1 (vs.length + 1) = 1
    omega
  show ((v :: vs).drop (HT.sIx (vs.length + 1) 0 (some 1))).take (vs.length + 1 - HT.sIx (vs.length + 1) 0 (some 1)) = vs
  rw [e]
  show vs.take (vs.length + 1 - 1) = vs
  rw [Nat.add_sub_cancel, List.take_length]
theorem cut1_ne {v : V} {vs : List V} {n : Nat} : ¬ (HT.sIx (v :: vs).length 0 (some 1) = 0 ∧ n = (v :: vs).length) := by
  have e : HT.sIx (vs.length + 1) 0 (some 1) = 1 := by
    show (if (1 : Int) < 0 then ((1 : Int) + ((vs.length + 1 : Nat) : Int)).toNat else min (1 : Int).toNat (vs.length + 1)) = 1
    rw [if_neg (by decide)]
    show min 1 (vs.length + 1) = 1
    omega
  intro h
  rw [show HT.sIx (v :: vs).length 0 (some 1) = 1 from e] at h
  exact absurd h.1 (by decide)
end
theorem iteP {b : Bool} {A B : Prop} (e : b = true) (h : A) : if b = true then A else B := by
  rw [if_pos e]
  exact h
theorem iteN {b : Bool} {A B : Prop} (e : b = false) (h : B) : if b = true then A else B := by
  rw [if_neg (by rw [e]; decide)]
  exact h
theorem u65 {k : Nat} {A : Around} (r : Room k A) : A.units + 65 < cLine := by
  have := r.un
  omega
theorem op_notInK {X : Cx} {K : PySem.W.Frag} (hk : X.K = K) (hu : X.A.units + 65 < cLine) : OpR X (compareOp .NotIn) (rNotInD K) := by
  subst hk
  exact op_notInD hu
/-! ### [x for x in a list if x not in another] -/
theorem lc_filter {K : PySem.W.Frag} {a D : Addr} {us : List V} {ds acc : List PyData} {g : TG} {tt : TT} {te : TE} {vs : List Nat} {σ : L2.St} {H2 : Hp} {Qd : Hp → Prop} (hD : H2 D = none) (ha : H2 a = some (.lst us)) (hu : TpAll K H2 us ds) (hz : us.length ≤ 1000)
    (hs : ∀ (x : V) (d : PyData) (H : Hp) (R : Hp → Prop) (T : V → Hp → Prop), d ∈ ds → Tp K H x d → Same H2 H → (if notIn acc d = true then T x H else R H) →
      g x (wipe σ vs) H fun σ2 H2 => wipe σ2 vs = wipe σ vs ∧ tt σ2 H2 fun b H3 => if b = true then te σ2 H3 T else R H3)
    (hd : ∀ ws, TpAll K (upd H2 D (.lst ws)) ws (ds.filter (notIn acc)) → Qd (upd H2 D (.lst ws))) :
    ∃ W : Nat → Nat → Hp → Prop, (∃ m, W 0 m (upd H2 D (.lst []))) ∧ ∀ i m H, W i m H →
      ((Itl K a).stop i H ∧ Qd H) ∨ ((Itl K a).go i H ∧ ∃ Nx : Hp → Prop, (∀ H', Nx H' → ∃ m', m' < m ∧ W (i + 1) m' H') ∧ ∀ x H', (Itl K a).yld i H x H' → g x (wipe σ vs) H' fun σ2 H2 => wipe σ2 vs = wipe σ vs ∧ tt σ2 H2 fun b H3 =>
        if b = true then te σ2 H3 fun y H4 => ∃ acc, H4 D = some (.lst acc) ∧ acc.length < sizeLine ∧ Nx (upd H4 D (.lst (acc ++ [y]))) else Nx H3) := by
  refine lc_list (K := K) (xs := us) (fun i H' => ∃ ws, H' = upd H2 D (.lst ws) ∧ TpAll K H2 ws ((ds.take i).filter (notIn acc)) ∧ ws.length ≤ i) ⟨[], rfl, .nil, Nat.le_refl _⟩ (fun i H' _ hp => ?_) (fun i x H1 hx hp => ?_) (fun H1 hp => ?_)
  · obtain ⟨ws, rfl, _⟩ := hp
    exact SqL.of (same_new hD _ _ ha)
  · obtain ⟨ws, rfl, tw, lw⟩ := hp
    obtain ⟨d, ed, td⟩ := hu.at hx
    have il : i < us.length := (List.getElem?_eq_some_iff.mp hx).1
    have tk : (ds.take (i + 1)).filter (notIn acc) = (ds.take i).filter (notIn acc) ++ [d].filter (notIn acc) := by
      rw [List.take_add_one, ed, Option.toList_some, List.filter_append]
    refine hs x d _ _ _ (List.mem_of_getElem? ed) (td.mono (same_new hD)) (same_new hD) ?_
    by_cases hn : notIn acc d = true
    · rw [if_pos hn]
      refine ⟨ws, upd_same, small1000 (by omega), ws ++ [x], ?_, ?_, ?_⟩
      · funext b
        by_cases e : b = D
        · rw [e, upd_same, upd_same]
        · rw [upd_ne e, upd_ne e, upd_ne e]
      · rw [tk, List.filter_cons_of_pos hn]
        exact tw.app (.cons td .nil)
      · rw [List.length_append]
        exact Nat.succ_le_succ lw
    · rw [if_neg hn]
      refine ⟨ws, rfl, ?_, by omega⟩
      rw [tk, List.filter_cons_of_neg hn]
      simpa using tw
  · obtain ⟨ws, rfl, tw, lw⟩ := hp
    rw [hu.len, List.take_length] at tw
    exact hd ws (tw.mono (same_new hD))
end W26

namespace W26
open PySem PySem.Spec PyProof.Rows L2 Gs Sf
/-! ### atoms_of -/
theorem scAtoms : FnScope ["saying", "atoms", "half", "atom"] ["saying"] (defScope sAtomsOf) := ⟨rfl, rfl, rfl, by decide +kernel, rfl, by decide +kernel, by decide +kernel⟩
def spAtoms (K : PySem.W.Frag) (n : Nat) : Sp := fun vs H Q _ => ∃ (v : V) (s : Sy), vs = [v] ∧ Tp K H v (dSy s) ∧ SyOk n s ∧
  ∀ H' r us, Same H H' → H r = none → H' r = some (.lst us) → TpAll K H' us (atomsOf s) → Q (.ref r) H'
/-- a tuple of texts of the top -/
def TxtsAt (K : PySem.W.Frag) (a : Addr) (zs : List Str) : Prop := ∀ H : Hp, SqT K H a (zs.map V.str)
theorem in_atoms {w : Str} (h : w ∈ atomW) : inV (.str w) (atomW.map V.str) = true := by
  rcases List.mem_cons.mp h with rfl | h
  · rfl
  rcases List.mem_cons.mp h with rfl | h
  · rfl
  rcases List.mem_cons.mp h with rfl | h
  · rfl
  · exact absurd h List.not_mem_nil
theorem no_atom {s : Sy} (h : isAt s = false) : inV (.str (wd s)) (atomW.map V.str) = false := by
  cases s with
  | yes => rfl
  | «at» w r => cases h
  | un w s => cases w <;> rfl
  | bi w s t => cases w <;> rfl
theorem flat_strs (zs : List Str) : (zs.map V.str).all flatV = true := by
  rw [List.all_eq_true]
  intro x hx
  obtain ⟨z, _, rfl⟩ := List.mem_map.mp hx
  rfl
section
variable {P : Program} {w : World} {K : PySem.W.Frag} {mg : Str → Option Value} {base : Heap} {f aT : Addr} {fd : FuncData}
theorem ok_atoms (F : Fun K "atoms_of" "atoms_of" sAtomsOf f fd) (g : mg "atoms_of" = some (.ref f)) (kp : PySem.W.keepIn K (.ref f) = true) (bd : Binds K fd ["saying"] [])
    (gT : mg "ATOMS" = some (.ref aT)) (hT : TxtsAt K aT atomW) : ∀ n, n ≤ 8 → FnOk P w K mg base CX0 (n + 1) f fd ["saying"] (spAtoms K n) := by
  intro n
  induction n with
  | zero =>
    intro _
    refine F.ok scAtoms (fun vs H Q E h => ?_) (fun cdv A outer s H vs Q E hr h => ?_)
    · obtain ⟨v, s, rfl, _, ok, _⟩ := h
      cases ok
    · obtain ⟨v, s, rfl, _, ok, _⟩ := h
      cases ok
  | succ n ih =>
    intro hn
    have IH := ih (by omega)
    refine F.ok scAtoms (fun vs H Q E h => ?_) (fun cdv A outer s H vs Q E hr h => ?_)
    · obtain ⟨v, s, rfl, _⟩ := h
      rfl
    · obtain ⟨v, s, rfl, tv, ok, q⟩ := h
      refine ⟨_, pss_cons (ps_if (pt_cmpR op_in_seq (pe_ix ix_tup (pv 0) pe_int (fun _ _ => rfl)) (pe_glob (v := .ref aT) (by rfl) gT rfl) (by rfl)) (pss_one (ps_ret (pe_lst (pa_cons (pv 0) pa_nil)))) pss_nil)
        (pss_cons (ps_set (i := 1) scAtoms.nd rfl (.inr rfl) (pe_lst pa_nil))
        (pss_cons (ps_for PassesOwn.never rfl (pi_tup (pe_slice sl_tup (pv 0) (po_some pe_int) po_none)) (pg_name (i := 2) scAtoms.nd rfl (Or.inl rfl))
          (pss_one (ps_expr (pe_bm PySem.F.plainAttrs_list PySem.F.slot_list_extend PySem.F.type_list_extend mt_extend (pv 1) (pa_cons
            (pe_lc (own := [("atom", 3)]) (g := gName 3) rfl scAtoms.nd (pi_list (pe_call IH hr (by rfl) g kp bd .nil pass0 (pa_cons (pv 2) pa_nil))) (blkOk_by (own := [("atom", 3)]) (N := ["saying", "atoms", "half", "atom"]) (sc := defScope sAtomsOf) (by decide +kernel))
              (fun _ _ _ _ _ => pg_name (i := 3) scAtoms.nd rfl (Or.inl rfl))
              (fun _ _ _ _ _ => pts_one (pt_cmpR (op_notInK (K := K) rfl (u65 hr)) (pv 3) (pv 1) (by rfl)))
              (fun _ _ _ _ _ => pv 3)) pa_nil)))))
        (pss_one (ps_ret (pv 1))))), ?_⟩
      cases hat : isAt s with
      | true =>
        cases s with
        | yes => cases hat
        | un w s => cases hat
        | bi w s t => cases hat
        | «at» wz r =>
          obtain ⟨a, xs, rfl, sq, ta⟩ := tp_tup tv
          obtain ⟨v0, vs, rfl, t0, _⟩ := tp_cons ta
          cases tp_str t0
          cases ok with
          | «at» ao =>
            refine ⟨_, rfl, a, _, 0, _, rfl, rfl, sq, atI_nat (j := 0) rfl, aT, _, rfl, .inr (hT H), rfl, flat_strs _, _, rfl, iteP (in_atoms ao.1) ?_⟩
            refine ⟨_, rfl, by show 1 ≤ sizeLine; decide, fun l hl => ?_⟩
            exact q _ l _ (same_new hl) hl upd_same (.cons (tv.mono (same_new hl)) .nil)
      | false =>
        have tv0 := tv
        rw [dSy_hv hat] at tv
        obtain ⟨a, xs, rfl, sq, ta⟩ := tp_tup tv
        obtain ⟨v0, vs, rfl, t0, th⟩ := tp_cons ta
        cases tp_str t0
        refine ⟨_, rfl, a, _, 0, _, rfl, rfl, sq, atI_nat (j := 0) rfl, aT, _, rfl, .inr (hT H), rfl, flat_strs _, _, rfl, iteN (no_atom hat) ?_⟩
        refine ⟨by show 0 ≤ sizeLine; decide, fun r0 hr0 => ?_⟩
        refine ⟨_, rfl, 1, rfl, a, _, rfl, same_tup (same_new hr0) sq, cut1_ne, fun T hT0 => ?_⟩
        rw [cut1]
        have s1 : Same H (upd (upd H r0 (.lst [])) T (.tup vs)) := (same_new hr0).trans (same_new hT0)
        have nT : r0 ≠ T := ne_of_none upd_same hT0
        have lv : vs.length = (hv s).length := by rw [th.len, List.length_map]
        refine ⟨T, rfl, ⟨_, SqT.of upd_same⟩, for_tup (K := K) (xs := vs) (fun i σ H' => ∃ us y z, σ = [some (.ref a), some (.ref r0), y, z] ∧ Same H H' ∧ H' r0 = some (.lst us) ∧ TpAll K H' us (gather atomsOf [] ((hv s).take i)) ∧ SqT K H' T vs)
          ⟨[], _, _, rfl, s1, by rw [upd_ne nT]; exact upd_same, .nil, SqT.of upd_same⟩ (fun i σ H' _ hp => ?_) (fun i x σ H' hx hp => ?_) (fun σ H' hp => ?_)⟩
        · obtain ⟨us, y, z, _, _, _, _, h⟩ := hp
          exact h
        · obtain ⟨us, y, z, rfl, sm, hr1, tu, sT⟩ := hp
          obtain ⟨d, ed, tx⟩ := th.at hx
          rw [List.getElem?_map] at ed
          cases eh : (hv s)[i]? with
          | none => rw [eh] at ed; cases ed
          | some h =>
            rw [eh] at ed
            cases ed
            have hm : h ∈ hv s := List.mem_of_getElem? eh
            have okh := hv_ok ok h hm
            have il : i < (hv s).length := (List.getElem?_eq_some_iff.mp eh).1
            have accp : ∀ d ∈ gather atomsOf [] ((hv s).take i), Pl 8 d := gather_sub (fun d hd => absurd hd List.not_mem_nil) fun h' hh => atoms_pl (hv_ok ok h' (List.mem_of_mem_take hh))
            have accl : (gather atomsOf [] ((hv s).take i)).length ≤ 0 + ((hv s).take i).length * 2 ^ n := gather_len fun h' hh => atoms_len (hv_ok ok h' (List.mem_of_mem_take hh))
            have hl2 : (hv s).length ≤ 2 := hv_len
            have tl : ((hv s).take i).length ≤ 2 := by rw [List.length_take]; omega
            have p2 : 2 ^ n ≤ 2 ^ 8 := Nat.pow_le_pow_right (by decide) (by omega)
            have accl2 : (gather atomsOf [] ((hv s).take i)).length ≤ 512 := Nat.le_trans accl (by
              rw [Nat.zero_add]
              exact Nat.le_trans (Nat.mul_le_mul tl p2) (by decide))
            refine ⟨_, rfl, .inl ⟨rfl, _, SqL.of hr1⟩, ?_⟩
            refine ⟨_, rfl, x, h, rfl, tx.mono sm, okh, fun H2 r1 us1 sm2 hr2 e2 t2 => ?_⟩
            have hlen1 : us1.length ≤ 256 := by rw [t2.len]; exact Nat.le_trans (atoms_len okh) (Nat.le_trans p2 (by decide))
            refine ⟨r1, rfl, ⟨_, SqL.of e2⟩, fun D hD => ?_⟩
            refine lc_filter (acc := gather atomsOf [] ((hv s).take i)) hD e2 t2 (by omega) (fun x d Hx R T0 hd tx sx hh => ?_) (fun ws tw => ?_)
            · refine ⟨rfl, _, rfl, _, rfl, d, _, tx.dp, .lst (SqL.of (sx _ _ (sm2 _ _ hr1))) ((tu.mono (sm2.trans sx)).dp), (atoms_pl okh d hd).shaped (by decide), shaped_list accp (by decide), _, rfl, ?_⟩
              by_cases c : notIn (gather atomsOf [] ((hv s).take i)) d = true
              · rw [if_pos c] at hh
                rw [show (!(gather atomsOf [] ((hv s).take i)).any fun z => PyData.eqv z d) = true from c]
                exact ⟨_, rfl, hh⟩
              · rw [if_neg c] at hh
                rw [show (!(gather atomsOf [] ((hv s).take i)).any fun z => PyData.eqv z d) = false from Bool.eq_false_iff.mpr c]
                exact hh
            · have s3 : Same H2 (upd H2 D (.lst ws)) := same_new hD
              have hr3 : upd H2 D (.lst ws) r0 = some (.lst us) := s3 _ _ (sm2 _ _ hr1)
              have nD : r0 ≠ D := ne_of_none (sm2 _ _ hr1) hD
              have lw : ws.length ≤ 256 := by
                rw [tw.len]
                exact Nat.le_trans (List.length_filter_le _ _) (by rw [← t2.len]; exact hlen1)
              have kk : Keep r0 (upd H2 D (.lst ws)) (upd (upd H2 D (.lst ws)) r0 (.lst (us ++ ws))) := keep_upd
              have hsame : Same H (upd (upd H2 D (.lst ws)) r0 (.lst (us ++ ws))) := fun b o e => by
                rw [upd_ne (ne_of_none e hr0)]
                exact s3 _ _ (sm2 _ _ (sm _ _ e))
              refine ⟨r0, D, us, ws, rfl, rfl, hr3, upd_same, ?_, us ++ ws, _, _, rfl, hsame, upd_same, ?_, ?_⟩
              · have := tu.len
                exact Nat.le_of_lt (small1000 (by omega))
              · have e : gather atomsOf [] ((hv s).take (i + 1)) = merge (gather atomsOf [] ((hv s).take i)) (atomsOf h) := gather_take eh
                rw [e]
                exact ((tu.mono (sm2.trans s3)).app tw).keepL kk ⟨_, hr3⟩
              · exact keepTL kk ⟨_, hr3⟩ (same_tup (sm2.trans s3) sT)
        · obtain ⟨us, y, z, rfl, sm, hr1, tu, sT⟩ := hp
          refine ⟨_, rfl, q H' r0 us sm hr0 hr1 ?_⟩
          rw [lv, List.take_length, ← atomsOf_hv hat] at tu
          exact tu
end
end W26

namespace W26
open PySem PySem.Spec PyProof.Rows L2 Gs Sf
/-! ### form_by -/
theorem scForm : FnScope ["saying", "atoms", "is_so", "word", "halves", "half"] ["saying", "atoms", "is_so"] (defScope sFormBy) := ⟨rfl, rfl, rfl, by decide +kernel, rfl, by decide +kernel, by decide +kernel⟩
def spForm (K : PySem.W.Frag) (n : Nat) : Sp := fun vs H Q _ => ∃ (v : V) (aA : Addr) (b : Bool) (s : Sy) (us : List V) (ds : List PyData), vs = [v, .ref aA, .bl b] ∧ Tp K H v (dSy s) ∧ SyOk n s ∧
  H aA = some (.lst us) ∧ TpAll K H us ds ∧ (∀ d ∈ ds, Pl 8 d) ∧ Has ds s ∧ ∀ H' r, Same H H' → Tp K H' r (dFm (fm ds s b)) → Q r H'
def isGen : Sy → Bool | .un .no _ => false | .un _ _ => true | .bi _ _ _ => true | _ => false
theorem gen_at {s : Sy} (h : isGen s = true) : isAt s = false := by
  cases s <;> first | rfl | cases h
theorem gen_yes {s : Sy} (h : isGen s = true) : decide (V.str (wd s) = V.str "yes") = false := by
  cases s with
  | yes => cases h
  | «at» w r => cases h
  | un w s => cases w <;> rfl
  | bi w s t => cases w <;> rfl
theorem gen_not {s : Sy} (h : isGen s = true) : decide (V.str (wd s) = V.str "not") = false := by
  cases s with
  | yes => cases h
  | «at» w r => cases h
  | un w s => cases w <;> first | rfl | cases h
  | bi w s t => cases w <;> rfl
theorem at_yes {w : Str} (h : w ∈ atomW) : decide (V.str w = V.str "yes") = false := by
  rcases List.mem_cons.mp h with rfl | h
  · decide +kernel
  rcases List.mem_cons.mp h with rfl | h
  · decide +kernel
  rcases List.mem_cons.mp h with rfl | h
  · decide +kernel
  · exact absurd h List.not_mem_nil
theorem free_same {H H' : Hp} (s : Same H H') {r : Addr} (h : H' r = none) : H r = none := by
  cases e : H r with
  | none => rfl
  | some o =>
    rw [s _ _ e] at h
    cases h
theorem tx1 {K : PySem.W.Frag} {a : Addr} {z : Str} (h : TxtsAt K a [z]) (H : Hp) : Tp K H (.ref a) (.tuple [.str z]) := .tup (h H) (.cons (.str _) .nil)
theorem tpAll_map {K : PySem.W.Frag} {H : Hp} {vs : List V} {α : Type} {g : α → PyData} {hs : List α} (h : TpAll K H vs (hs.map g)) {i : Nat} {x : V} (hx : vs[i]? = some x) : ∃ a, hs[i]? = some a ∧ a ∈ hs ∧ Tp K H x (g a) := by
  obtain ⟨d, ed, tx⟩ := h.at hx
  rw [List.getElem?_map] at ed
  cases eh : hs[i]? with
  | none => rw [eh] at ed; cases ed
  | some a =>
    rw [eh] at ed
    cases ed
    exact ⟨a, rfl, List.mem_of_getElem? eh, tx⟩
theorem map_take {α β : Type} {g : α → β} {hs : List α} {i : Nat} {a : α} (e : hs[i]? = some a) : (hs.take (i + 1)).map g = (hs.take i).map g ++ [g a] := by
  rw [List.take_add_one, e, Option.toList_some, List.map_append]
  rfl
section
variable {P : Program} {w : World} {K : PySem.W.Frag} {mg : Str → Option Value} {base : Heap} {f aT aY aN aU : Addr} {fd : FuncData}
theorem ok_form (F : Fun K "form_by" "form_by" sFormBy f fd) (g : mg "form_by" = some (.ref f)) (kp : PySem.W.keepIn K (.ref f) = true) (bd : Binds K fd ["saying", "atoms", "is_so"] [])
    (gT : mg "ATOMS" = some (.ref aT)) (hT : TxtsAt K aT atomW) (gY : mg "YES" = some (.ref aY)) (hY : TxtsAt K aY ["yes"]) (gN : mg "NO" = some (.ref aN)) (hN : TxtsAt K aN ["no"])
    (gU : mg "TURNED" = some (.ref aU)) (hU : ∀ b : Bi, KDct K w aU b.s (.str b.t.s)) (mt : mg "tuple" = none) : ∀ n, n ≤ 8 → FnOk P w K mg base CX0 (n + 1) f fd ["saying", "atoms", "is_so"] (spForm K n) := by
  intro n
  induction n with
  | zero =>
    intro _
    refine F.ok scForm (fun vs H Q E h => ?_) (fun cdv A outer s H vs Q E hr h => ?_)
    · obtain ⟨v, aA, b, s, us, ds, rfl, _, ok, _⟩ := h
      cases ok
    · obtain ⟨v, aA, b, s, us, ds, rfl, _, ok, _⟩ := h
      cases ok
  | succ n ih =>
    intro hn
    have IH := ih (by omega)
    refine F.ok scForm (fun vs H Q E h => ?_) (fun cdv A outer s H vs Q E hr h => ?_)
    · obtain ⟨v, aA, b, s, us, ds, rfl, _⟩ := h
      rfl
    · obtain ⟨v, aA, b, s, us, ds, rfl, tv, ok, hA, tu, pd, hs, q⟩ := h
      refine ⟨_, pss_cons (ps_set (i := 3) scForm.nd rfl (.inl rfl) (pe_ix ix_tup (pv 0) pe_int (fun _ _ => rfl)))
        (pss_cons (ps_if (pt_cmpR op_eq (pv 3) pe_str (nomark _)) (pss_one (ps_ret (pe_ifExp (pt_val (pv 2)) (pe_glob (v := .ref aY) (by rfl) gY rfl) (pe_glob (v := .ref aN) (by rfl) gN rfl)))) pss_nil)
        (pss_cons (ps_if (pt_cmpR op_in_seq (pv 3) (pe_glob (v := .ref aT) (by rfl) gT rfl) (by rfl)) (pss_one (ps_ret (pe_tup (pa_cons (pe_ifExp (pt_val (pv 2)) pe_str pe_str)
            (pa_cons (pe_bm PySem.F.plainAttrs_list PySem.F.slot_list_index PySem.F.type_list_index (mt_indexD (u65 hr)) (pv 1) (pa_cons (pv 0) pa_nil)) pa_nil))))) pss_nil)
        (pss_cons (ps_if (pt_cmpR op_eq (pv 3) pe_str (nomark _)) (pss_one (ps_ret (pe_call IH hr (by rfl) g kp bd .nil pass0 (pa_cons (pe_ix ix_tup (pv 0) pe_int (fun _ _ => rfl)) (pa_cons (pv 1) (pa_cons (pe_not (pv 2)) pa_nil)))))) pss_nil)
        (pss_cons (ps_set (i := 4) scForm.nd rfl (.inl rfl) (pe_callTy call_tuple_of (by rfl) mt (by decide +kernel) (pa_cons
            (pe_lc (own := [("half", 5)]) (g := gName 5) (tt := tYes) rfl scForm.nd (pi_tup (pe_slice sl_tup (pv 0) (po_some pe_int) po_none)) (blkOk_by (own := [("half", 5)]) (N := ["saying", "atoms", "is_so", "word", "halves", "half"]) (sc := defScope sFormBy) (by decide +kernel))
              (fun _ _ _ _ _ => pg_name (i := 5) scForm.nd rfl (Or.inl rfl)) (fun _ _ _ _ _ => pts_nil)
              (fun _ _ _ _ _ => pe_call IH hr (by rfl) g kp bd .nil pass0 (pa_cons (pv 5) (pa_cons (pv 1) (pa_cons (pv 2) pa_nil))))) pa_nil)))
        (pss_cons (ps_if (PW.pt (pw_or (pt_cmpR op_eq (pv 3) pe_str (nomark _)) (pw_or1 (pt_cmpR op_eq (pv 3) pe_str (nomark _)))))
            (pss_one (ps_ret (pe_op op_catT (pe_ifExp (pt_cmpR op_eq (pe_cmpR op_eq (pv 3) pe_str (nomark _)) (pv 2) (nomark _))
              (pe_tup (pa_cons pe_str (pa_cons (pe_glob (v := .ref aY) (by rfl) gY rfl) pa_nil))) (pe_tup (pa_cons pe_str (pa_cons (pe_glob (v := .ref aN) (by rfl) gN rfl) pa_nil)))) (pv 4)))) pss_nil)
        (pss_one (ps_ret (pe_op op_catT (pe_tup (pa_cons (pe_ifExp (pt_val (pv 2)) (pv 3) (pe_ix ix_kdict (pe_glob (v := .ref aU) (by rfl) gU rfl) (pv 3) (fun _ _ => rfl))) pa_nil)) (pv 4))))))))), ?_⟩
      have main : isGen s = true ∨ s = .yes ∨ (∃ t, s = .un .no t) ∨ ∃ wz r, s = .at wz r := by
        cases s with
        | yes => exact .inr (.inl rfl)
        | «at» wz r => exact .inr (.inr (.inr ⟨_, _, rfl⟩))
        | un wz t => cases wz <;> first | exact .inl rfl | exact .inr (.inr (.inl ⟨_, rfl⟩))
        | bi wz t u => exact .inl rfl
      rcases main with hg | rfl | ⟨t, rfl⟩ | ⟨wz, r, rfl⟩
      · have hat := gen_at hg
        rw [dSy_hv hat] at tv
        obtain ⟨a, xs, rfl, sq, ta⟩ := tp_tup tv
        obtain ⟨v0, vs, rfl, t0, th⟩ := tp_cons ta
        cases tp_str t0
        refine ⟨_, rfl, a, _, 0, _, rfl, rfl, sq, atI_nat (j := 0) rfl, ?_⟩
        refine ⟨_, rfl, rfl, _, rfl, iteN (gen_yes hg) ?_⟩
        refine ⟨_, rfl, aT, _, rfl, .inr (hT H), rfl, flat_strs _, _, rfl, iteN (no_atom hat) ?_⟩
        refine ⟨_, rfl, rfl, _, rfl, iteN (gen_not hg) ?_⟩
        refine ⟨_, rfl, 1, rfl, a, _, rfl, sq, cut1_ne, fun T hT0 => ?_⟩
        rw [cut1]
        have s1 : Same H (upd H T (.tup vs)) := same_new hT0
        have lv : vs.length = (hv s).length := by rw [th.len, List.length_map]
        refine ⟨T, rfl, ⟨_, SqT.of upd_same⟩, fun D hD => ?_⟩
        have hDH : H D = none := free_same s1 hD
        have nT : T ≠ D := ne_of_none upd_same hD
        refine lc_tup (K := K) (xs := vs) (fun i H' => ∃ ws, H' D = some (.lst ws) ∧ Same H H' ∧ TpAll K H' ws (((hv s).take i).map fun h => dFm (fm ds h b)) ∧ SqT K H' T vs)
          ⟨[], upd_same, s1.trans (same_new hD), .nil, SqT.of (by rw [upd_ne nT]; exact upd_same)⟩ (fun i H' _ hp => ?_) (fun i x H' hx hp => ?_) (fun H' hp => ?_)
        · obtain ⟨ws, _, _, _, h⟩ := hp
          exact h
        · obtain ⟨ws, hD1, sm, tw, sT⟩ := hp
          obtain ⟨h, eh, hm, tx⟩ := tpAll_map th hx
          have il : i < (hv s).length := (List.getElem?_eq_some_iff.mp eh).1
          have hl2 := @hv_len s
          refine ⟨rfl, ?_⟩
          refine ⟨_, rfl, _, rfl, _, rfl, x, aA, b, h, us, ds, rfl, tx.mono sm, hv_ok ok h hm, sm _ _ hA, tu.mono sm, pd, hv_has hs h hm, fun H2 r sm2 tr => ?_⟩
          have e2 := sm2 _ _ hD1
          have lw := tw.len
          rw [List.length_map, List.length_take] at lw
          refine ⟨ws, e2, small1000 (by omega), ws ++ [r], upd_same, fun b o e => ?_, ?_, keepTL keep_upd ⟨_, e2⟩ (same_tup sm2 sT)⟩
          · rw [upd_ne (ne_of_none e hDH)]
            exact sm2 _ _ (sm _ _ e)
          · rw [map_take eh]
            exact ((tw.mono sm2).app (.cons tr .nil)).keepL keep_upd ⟨_, e2⟩
        · obtain ⟨ws, hD1, sm, tw, sT⟩ := hp
          rw [lv, List.take_length] at tw
          refine ⟨D, ws, rfl, .inl ⟨SqL.of hD1, fun l hl => ?_⟩⟩
          have s2 : Same H' (upd H' l (.tup ws)) := same_new hl
          have sm2 := sm.trans s2
          have tw2 := tw.mono s2
          have sl : SqT K (upd H' l (.tup ws)) l ws := SqT.of upd_same
          generalize upd H' l (.tup ws) = H5 at *
          cases s with
          | yes => cases hg
          | «at» _ _ => cases hg
          | un wz t =>
            obtain ⟨r1, _, rfl, t1, tn⟩ := tp_cons tw2
            cases tp_nil tn
            have fin : ∀ (z : Str) (aZ : Addr) (dz : PyData) (p : Addr), Tp K H5 (.ref aZ) dz → H5 p = none → dFm (fm ds (.un wz t) b) = .tuple [.str z, dz, dFm (fm ds t b)] →
                (∃ a b xs ys, V.ref p = .ref a ∧ V.ref l = .ref b ∧ SqT K (upd H5 p (.tup [.str z, .ref aZ])) a xs ∧ SqT K (upd H5 p (.tup [.str z, .ref aZ])) b ys ∧ xs ≠ [] ∧ xs.length + ys.length ≤ sizeLine ∧ (ys = [] → Q (.ref a) (upd H5 p (.tup [.str z, .ref aZ]))) ∧ (ys ≠ [] → ∀ p', upd H5 p (.tup [.str z, .ref aZ]) p' = none → Q (.ref p') (upd (upd H5 p (.tup [.str z, .ref aZ])) p' (.tup (xs ++ ys))))) := fun z aZ dz p tz hp e => by
              refine ⟨p, l, _, _, rfl, rfl, SqT.of upd_same, same_tup (same_new hp) sl, (fun z => by cases z), by show 2 + 1 ≤ sizeLine; decide, (fun z => by cases z), fun _ p' hp' => ?_⟩
              have s6 := (same_new (o := .tup [.str z, .ref aZ]) hp).trans (same_new (o := .tup ([.str z, .ref aZ] ++ [r1])) hp')
              refine q _ _ (sm2.trans s6) ?_
              rw [e]
              exact .tup (SqT.of upd_same) (.cons (.str _) (.cons (tz.mono s6) (.cons (t1.mono s6) .nil)))
            cases wz with
            | no => cases hg
            | ev =>
              refine ⟨_, rfl, rfl, _, rfl, iteP rfl ?_⟩
              cases b with
              | true =>
                refine ⟨_, rfl, rfl, _, rfl, rfl, _, rfl, iteP rfl ?_⟩
                exact ⟨by show 2 ≤ sizeLine; decide, fun p hp => ⟨_, rfl, fin "until" aY _ p (tx1 hY _) hp rfl⟩⟩
              | false =>
                refine ⟨_, rfl, rfl, _, rfl, rfl, _, rfl, iteN rfl ?_⟩
                exact ⟨by show 2 ≤ sizeLine; decide, fun p hp => ⟨_, rfl, fin "release" aN _ p (tx1 hN _) hp rfl⟩⟩
            | al =>
              refine ⟨_, rfl, rfl, _, rfl, iteN rfl ?_⟩
              refine ⟨_, rfl, rfl, _, rfl, iteP rfl ?_⟩
              cases b with
              | true =>
                refine ⟨_, rfl, rfl, _, rfl, rfl, _, rfl, iteN rfl ?_⟩
                exact ⟨by show 2 ≤ sizeLine; decide, fun p hp => ⟨_, rfl, fin "release" aN _ p (tx1 hN _) hp rfl⟩⟩
              | false =>
                refine ⟨_, rfl, rfl, _, rfl, rfl, _, rfl, iteP rfl ?_⟩
                exact ⟨by show 2 ≤ sizeLine; decide, fun p hp => ⟨_, rfl, fin "until" aY _ p (tx1 hY _) hp rfl⟩⟩
          | bi wz t u =>
            obtain ⟨r1, _, rfl, t1, tn⟩ := tp_cons tw2
            obtain ⟨r2, _, rfl, t2, tn⟩ := tp_cons tn
            cases tp_nil tn
            have fin : ∀ (z : Str), dFm (fm ds (.bi wz t u) b) = .tuple [.str z, dFm (fm ds t b), dFm (fm ds u b)] →
                1 ≤ sizeLine ∧ ∀ p, H5 p = none → (∃ v, (some (V.ref l) = some v) ∧ (∃ a b xs ys, V.ref p = .ref a ∧ v = .ref b ∧ SqT K (upd H5 p (.tup [.str z])) a xs ∧ SqT K (upd H5 p (.tup [.str z])) b ys ∧ xs ≠ [] ∧ xs.length + ys.length ≤ sizeLine ∧ (ys = [] → Q (.ref a) (upd H5 p (.tup [.str z]))) ∧ (ys ≠ [] → ∀ p', upd H5 p (.tup [.str z]) p' = none → Q (.ref p') (upd (upd H5 p (.tup [.str z])) p' (.tup (xs ++ ys)))))) := fun z e => by
              refine ⟨by decide, fun p hp => ⟨_, rfl, p, l, _, _, rfl, rfl, SqT.of upd_same, same_tup (same_new hp) sl, (fun z => by cases z), by show 1 + 2 ≤ sizeLine; decide, (fun z => by cases z), fun _ p' hp' => ?_⟩⟩
              have s6 := (same_new (o := .tup [.str z]) hp).trans (same_new (o := .tup ([.str z] ++ [r1, r2])) hp')
              refine q _ _ (sm2.trans s6) ?_
              rw [e]
              exact .tup (SqT.of upd_same) (.cons (.str _) (.cons (t1.mono s6) (.cons (t2.mono s6) .nil)))
            have n1 : decide (V.str (wd (.bi wz t u)) = V.str "ever") = false := by cases wz <;> rfl
            have n2 : decide (V.str (wd (.bi wz t u)) = V.str "always") = false := by cases wz <;> rfl
            refine ⟨_, rfl, rfl, _, rfl, iteN n1 ?_⟩
            refine ⟨_, rfl, rfl, _, rfl, iteN n2 ?_⟩
            cases b with
            | true =>
              refine ⟨_, rfl, _, rfl, iteT ?_⟩
              obtain ⟨h1, h2⟩ := fin wz.s (by cases wz <;> rfl)
              exact ⟨_, rfl, h1, fun p hp => by
                obtain ⟨v, e, h⟩ := h2 p hp
                cases e
                exact ⟨_, rfl, h⟩⟩
            | false =>
              refine ⟨_, rfl, _, rfl, iteF ?_⟩
              obtain ⟨h1, h2⟩ := fin wz.t.s (by cases wz <;> rfl)
              exact ⟨_, rfl, aU, wz.s, _, rfl, rfl, hU wz, h1, fun p hp => by
                obtain ⟨v, e, h⟩ := h2 p hp
                cases e
                exact ⟨_, rfl, h⟩⟩
      · obtain ⟨a, xs, rfl, sq, ta⟩ := tp_tup tv
        obtain ⟨v0, vs, rfl, t0, th⟩ := tp_cons ta
        cases tp_str t0
        refine ⟨_, rfl, a, _, 0, _, rfl, rfl, sq, atI_nat (j := 0) rfl, ?_⟩
        refine ⟨_, rfl, rfl, _, rfl, iteP rfl ?_⟩
        cases b with
        | true => exact ⟨_, rfl, _, rfl, iteT (q _ _ (Same.refl _) (tx1 hY _))⟩
        | false => exact ⟨_, rfl, _, rfl, iteF (q _ _ (Same.refl _) (tx1 hN _))⟩
      · obtain ⟨a, xs, rfl, sq, ta⟩ := tp_tup tv
        obtain ⟨v0, vs, rfl, t0, th⟩ := tp_cons ta
        obtain ⟨v1, vs, rfl, t1, th⟩ := tp_cons th
        cases tp_str t0
        refine ⟨_, rfl, a, _, 0, _, rfl, rfl, sq, atI_nat (j := 0) rfl, ?_⟩
        refine ⟨_, rfl, rfl, _, rfl, iteN rfl ?_⟩
        refine ⟨_, rfl, aT, _, rfl, .inr (hT H), rfl, flat_strs _, _, rfl, iteN rfl ?_⟩
        refine ⟨_, rfl, rfl, _, rfl, iteP rfl ?_⟩
        cases ok with
        | un okt =>
          cases hs with
          | un hst => exact ⟨_, rfl, a, _, 1, _, rfl, rfl, sq, atI_nat (j := 1) rfl, _, rfl, _, rfl, _, rfl, v1, aA, !b, t, us, ds, rfl, t1, okt, hA, tu, pd, hst, q⟩
      · have tv0 := tv
        obtain ⟨a, xs, rfl, sq, ta⟩ := tp_tup tv
        obtain ⟨v0, vs, rfl, t0, th⟩ := tp_cons ta
        cases tp_str t0
        cases ok with
        | «at» ao =>
          cases hs with
          | «at» hm =>
            obtain ⟨i1, i2⟩ := idx_at (fun z hz => (pd z hz).1) hm
            refine ⟨_, rfl, a, _, 0, _, rfl, rfl, sq, atI_nat (j := 0) rfl, ?_⟩
            refine ⟨_, rfl, rfl, _, rfl, iteN (at_yes ao.1) ?_⟩
            refine ⟨_, rfl, aT, _, rfl, .inr (hT H), rfl, flat_strs _, _, rfl, iteP (in_atoms ao.1) ?_⟩
            have fin : ∀ z : Str, z = isW b → tCons (tBM K "list" (rIndexD K) (tVar 1) (tCons (tVar 0) tNil)) tNil [some (.ref a), some (.ref aA), some (.bl b), some (.str wz), none, none] H (fun xs H2 => 1 + xs.length ≤ sizeLine ∧ ∀ p, H2 p = none → Q (.ref p) (upd H2 p (.tup (.str z :: xs)))) := fun z ez => by
              refine ⟨_, rfl, .inl ⟨rfl, _, SqL.of hA⟩, _, rfl, aA, _, _, ds, _, _, rfl, rfl, .lst (SqL.of hA) tu.dp, tv0.dp, shaped_list pd (by decide), ao.2.shaped (by decide), i1, eqv_self ao.2.1, i2, by show 2 ≤ sizeLine; decide, fun p hp => ?_⟩
              refine q _ _ (same_new hp) ?_
              subst ez
              exact .tup (SqT.of upd_same) (.cons (.str _) (.cons (.int _) .nil))
            cases b with
            | true =>
              refine ⟨_, rfl, _, rfl, iteT ?_⟩
              obtain ⟨x1, x2, x3, x4, x5, x6, x7, x8, x9, x10, x11, x12, x13, x14, x15, x16, x17, x18, x19, h1, h2⟩ := fin "is" rfl
              exact ⟨x1, x2, x3, x4, x5, x6, x7, x8, x9, x10, x11, x12, x13, x14, x15, x16, x17, x18, x19, h1, h2⟩
            | false =>
              refine ⟨_, rfl, _, rfl, iteF ?_⟩
              obtain ⟨x1, x2, x3, x4, x5, x6, x7, x8, x9, x10, x11, x12, x13, x14, x15, x16, x17, x18, x19, h1, h2⟩ := fin "isnt" rfl
              exact ⟨x1, x2, x3, x4, x5, x6, x7, x8, x9, x10, x11, x12, x13, x14, x15, x16, x17, x18, x19, h1, h2⟩
end
end W26

namespace W26
open PySem PySem.Spec PyProof.Rows L2 Gs Sf
/-! ### normal_form, contrary_form -/
theorem scNormal : FnScope ["saying"] ["saying"] (defScope sNormal) := ⟨rfl, rfl, rfl, by decide +kernel, rfl, by decide +kernel, by decide +kernel⟩
theorem scContrary : FnScope ["saying"] ["saying"] (defScope sContrary) := ⟨rfl, rfl, rfl, by decide +kernel, rfl, by decide +kernel, by decide +kernel⟩
def spNf (K : PySem.W.Frag) (n : Nat) (b : Bool) : Sp := fun vs H Q _ => ∃ (v : V) (s : Sy), vs = [v] ∧ Tp K H v (dSy s) ∧ SyOk n s ∧ ∀ H' r, Same H H' → Tp K H' r (dFm (fm (atomsOf s) s b)) → Q r H'
section
variable {P : Program} {w : World} {K : PySem.W.Frag} {mg : Str → Option Value} {base : Heap} {f f1 f2 aH : Addr} {fd d1 d2 : FuncData} {n : Nat}
theorem ok_normal (F : Fun K "normal_form" "normal_form" sNormal f fd) (A : Cl P w K mg base CX0 (n + 1) "atoms_of" ["saying"] (spAtoms K n) f1 d1) (B : Cl P w K mg base CX0 (n + 1) "form_by" ["saying", "atoms", "is_so"] (spForm K n) f2 d2) :
    FnOk P w K mg base CX0 (n + 2) f fd ["saying"] (spNf K n true) := by
  refine F.ok scNormal (fun vs H Q E h => ?_) (fun cdv A0 outer s0 H vs Q E hr h => ?_)
  · obtain ⟨v, s, rfl, _⟩ := h
    rfl
  · obtain ⟨v, s, rfl, tv, ok, q⟩ := h
    refine ⟨_, pss_one (ps_ret (pe_call B.ok hr (by rfl) B.g B.kp B.bd .nil pass0 (pa_cons (pv 0) (pa_cons (pe_call A.ok hr (by rfl) A.g A.kp A.bd .nil pass0 (pa_cons (pv 0) pa_nil)) (pa_cons pe_bl pa_nil))))), ?_⟩
    refine ⟨_, rfl, _, rfl, v, s, rfl, tv, ok, fun H' r us sm _ hr1 tu => ?_⟩
    exact ⟨v, r, true, s, us, atomsOf s, rfl, tv.mono sm, ok, hr1, tu, atoms_pl ok, has_own ok, fun H2 r2 s2 t2 => q H2 r2 (sm.trans s2) t2⟩
theorem ok_contrary (F : Fun K "contrary_form" "contrary_form" sContrary f fd) (A : Cl P w K mg base CX0 (n + 1) "atoms_of" ["saying"] (spAtoms K n) f1 d1) (B : Cl P w K mg base CX0 (n + 1) "form_by" ["saying", "atoms", "is_so"] (spForm K n) f2 d2) :
    FnOk P w K mg base CX0 (n + 2) f fd ["saying"] (spNf K n false) := by
  refine F.ok scContrary (fun vs H Q E h => ?_) (fun cdv A0 outer s0 H vs Q E hr h => ?_)
  · obtain ⟨v, s, rfl, _⟩ := h
    rfl
  · obtain ⟨v, s, rfl, tv, ok, q⟩ := h
    refine ⟨_, pss_one (ps_ret (pe_call B.ok hr (by rfl) B.g B.kp B.bd .nil pass0 (pa_cons (pv 0) (pa_cons (pe_call A.ok hr (by rfl) A.g A.kp A.bd .nil pass0 (pa_cons (pv 0) pa_nil)) (pa_cons pe_bl pa_nil))))), ?_⟩
    refine ⟨_, rfl, _, rfl, v, s, rfl, tv, ok, fun H' r us sm _ hr1 tu => ?_⟩
    exact ⟨v, r, false, s, us, atomsOf s, rfl, tv.mono sm, ok, hr1, tu, atoms_pl ok, has_own ok, fun H2 r2 s2 t2 => q H2 r2 (sm.trans s2) t2⟩
end
/-! ### halves_of -/
def halvW : List Str := ["and", "or", "until", "release"]
theorem scHalves : FnScope ["form"] ["form"] (defScope sHalves) := ⟨rfl, rfl, rfl, by decide +kernel, rfl, by decide +kernel, by decide +kernel⟩
def spHalves (K : PySem.W.Frag) : Sp := fun vs H Q _ => ∃ (v : V) (f : Fm), vs = [v] ∧ Tp K H v (dFm f) ∧ ∀ H' r us, Same H H' → SqT K H' r us → TpAll K H' us ((hf f).map dFm) → Q (.ref r) H'
theorem in_halv {f : Fm} : inV (.str (wf f)) (halvW.map V.str) = isBi f := by
  cases f with
  | bi w s t => cases w <;> rfl
  | is b n => cases b <;> rfl
  | _ => rfl
theorem dFm_wf (f : Fm) : ∃ ds, dFm f = .tuple (.str (wf f) :: ds) := by
  cases f <;> exact ⟨_, rfl⟩
def isUn : Fm → Bool | .bi .un _ _ => true | _ => false
theorem is_until {f : Fm} : decide (V.str (wf f) = V.str "until") = isUn f := by
  cases f with
  | bi w s t => cases w <;> rfl
  | is b n => cases b <;> rfl
  | _ => rfl
section
variable {P : Program} {w : World} {K : PySem.W.Frag} {mg : Str → Option Value} {base : Heap} {f f1 f2 aH : Addr} {fd d1 d2 : FuncData} {n : Nat}
theorem ok_halves (F : Fun K "halves_of" "halves_of" sHalves f fd) (gH : mg "HALVED" = some (.ref aH)) (hH : TxtsAt K aH halvW) : FnOk P w K mg base CX0 1 f fd ["form"] (spHalves K) := by
  refine F.ok scHalves (fun vs H Q E h => ?_) (fun cdv A0 outer s0 H vs Q E hr h => ?_)
  · obtain ⟨v, s, rfl, _⟩ := h
    rfl
  · obtain ⟨v, s, rfl, tv, q⟩ := h
    refine ⟨_, pss_one (ps_ret (pe_ifExp (pt_cmpR op_in_seq (pe_ix ix_tup (pv 0) pe_int (fun _ _ => rfl)) (pe_glob (v := .ref aH) (by rfl) gH rfl) (by rfl)) (pe_slice sl_tup (pv 0) (po_some pe_int) po_none) (pe_tup pa_nil))), ?_⟩
    cases hb : isBi s with
    | true =>
      rw [dFm_hf hb] at tv
      obtain ⟨a, xs, rfl, sq, ta⟩ := tp_tup tv
      obtain ⟨v0, vs, rfl, t0, th⟩ := tp_cons ta
      cases tp_str t0
      refine ⟨_, rfl, a, _, 0, _, rfl, rfl, sq, atI_nat (j := 0) rfl, aH, _, rfl, .inr (hH H), rfl, flat_strs _, _, rfl, iteP (in_halv.trans hb) ?_⟩
      refine ⟨_, rfl, 1, rfl, a, _, rfl, sq, cut1_ne, fun T hT0 => ?_⟩
      rw [cut1]
      exact q _ _ _ (same_new hT0) (SqT.of upd_same) (th.mono (same_new hT0))
    | false =>
      obtain ⟨ds, e⟩ := dFm_wf s
      rw [e] at tv
      obtain ⟨a, xs, rfl, sq, ta⟩ := tp_tup tv
      obtain ⟨v0, vs, rfl, t0, th⟩ := tp_cons ta
      cases tp_str t0
      refine ⟨_, rfl, a, _, 0, _, rfl, rfl, sq, atI_nat (j := 0) rfl, aH, _, rfl, .inr (hH H), rfl, flat_strs _, _, rfl, iteN (in_halv.trans hb) ?_⟩
      refine ⟨by show 0 ≤ sizeLine; decide, fun T hT0 => ?_⟩
      refine q _ _ _ (same_new hT0) (SqT.of upd_same) ?_
      cases s with
      | bi _ _ _ => cases hb
      | _ => exact .nil
end
/-! ### untils_in -/
theorem scUntils : FnScope ["form", "untils", "half", "until"] ["form"] (defScope sUntilsIn) := ⟨rfl, rfl, rfl, by decide +kernel, rfl, by decide +kernel, by decide +kernel⟩
def spUntils (K : PySem.W.Frag) (n : Nat) : Sp := fun vs H Q _ => ∃ (v : V) (f : Fm), vs = [v] ∧ Tp K H v (dFm f) ∧ FmOk n f ∧
  ∀ H' r us, Same H H' → H r = none → H' r = some (.lst us) → TpAll K H' us (untilsOf f) → Q (.ref r) H'
section
variable {P : Program} {w : World} {K : PySem.W.Frag} {mg : Str → Option Value} {base : Heap} {f f1 aT : Addr} {fd d1 : FuncData}
theorem ok_untils (F : Fun K "untils_in" "untils_in" sUntilsIn f fd) (g : mg "untils_in" = some (.ref f)) (kp : PySem.W.keepIn K (.ref f) = true) (bd : Binds K fd ["form"] [])
    (Ha : Cl P w K mg base CX0 1 "halves_of" ["form"] (spHalves K) f1 d1) : ∀ n, n ≤ 8 → FnOk P w K mg base CX0 (n + 2) f fd ["form"] (spUntils K n) := by
  intro n
  induction n with
  | zero =>
    intro _
    refine F.ok scUntils (fun vs H Q E h => ?_) (fun cdv A outer s H vs Q E hr h => ?_)
    · obtain ⟨v, s, rfl, _, ok, _⟩ := h
      cases ok
    · obtain ⟨v, s, rfl, _, ok, _⟩ := h
      cases ok
  | succ n ih =>
    intro hn
    have IH := ih (by omega)
    refine F.ok scUntils (fun vs H Q E h => ?_) (fun cdv A outer s0 H vs Q E hr h => ?_)
    · obtain ⟨v, s, rfl, _⟩ := h
      rfl
    · obtain ⟨v, s, rfl, tv, ok, q⟩ := h
      have r1 := hr.mono (j := 1) (by omega)
      refine ⟨_, pss_join (ps_set (i := 1) scUntils.nd rfl (.inr rfl) (pe_ifExp (pt_cmpR op_eq (pe_ix ix_tup (pv 0) pe_int (fun _ _ => rfl)) pe_str (nomark _)) (pe_lst (pa_cons (pv 0) pa_nil)) (pe_lst pa_nil)))
        (pss_cons (ps_for PassesOwn.never rfl (pi_tup (pe_call Ha.ok r1 (by rfl) Ha.g Ha.kp Ha.bd .nil pass0 (pa_cons (pv 0) pa_nil))) (pg_name (i := 2) scUntils.nd rfl (Or.inl rfl))
          (pss_one (ps_expr (pe_bm PySem.F.plainAttrs_list PySem.F.slot_list_extend PySem.F.type_list_extend mt_extend (pv 1) (pa_cons
            (pe_lc (own := [("until", 3)]) (g := gName 3) rfl scUntils.nd (pi_list (pe_call IH hr (by rfl) g kp bd .nil pass0 (pa_cons (pv 2) pa_nil))) (blkOk_by (own := [("until", 3)]) (N := ["form", "untils", "half", "until"]) (sc := defScope sUntilsIn) (by decide +kernel))
              (fun _ _ _ _ _ => pg_name (i := 3) scUntils.nd rfl (Or.inl rfl))
              (fun _ _ _ _ _ => pts_one (pt_cmpR (op_notInK (K := K) rfl (u65 hr)) (pv 3) (pv 1) (by rfl)))
              (fun _ _ _ _ _ => pv 3)) pa_nil)))))
        (pss_one (ps_ret (pv 1)))), ?_⟩
      have tv0 := tv
      obtain ⟨ds0, e0⟩ := dFm_wf s
      rw [e0] at tv
      obtain ⟨a, xs, rfl, sq, ta⟩ := tp_tup tv
      obtain ⟨v0, vs0, rfl, t0, _⟩ := tp_cons ta
      cases tp_str t0
      refine ⟨fun σ H1 => ∃ r0 us0, σ = [some (.ref a), some (.ref r0), none, none] ∧ H1 = upd H r0 (.lst us0) ∧ H r0 = none ∧ TpAll K (upd H r0 (.lst us0)) us0 (ownU s), ?_, fun σ H1 hI => ?_⟩
      · refine ⟨_, rfl, a, _, 0, _, rfl, rfl, sq, atI_nat (j := 0) rfl, rfl, _, rfl, ?_⟩
        cases hu : isUn s with
        | true =>
          refine iteP (is_until.trans hu) ⟨_, rfl, by show 1 ≤ sizeLine; decide, fun l hl => ⟨l, _, rfl, rfl, hl, ?_⟩⟩
          have e : ownU s = [dFm s] := by
            cases s with
            | bi w t u => cases w <;> first | rfl | cases hu
            | _ => cases hu
          rw [e]
          exact .cons (tv0.mono (same_new hl)) .nil
        | false =>
          refine iteN (is_until.trans hu) ⟨by show 0 ≤ sizeLine; decide, fun l hl => ⟨l, _, rfl, rfl, hl, ?_⟩⟩
          have e : ownU s = [] := by
            cases s with
            | bi w t u => cases w <;> first | rfl | cases hu
            | _ => rfl
          rw [e]
          exact .nil
      · obtain ⟨r0, us0, rfl, rfl, hr0, tu0⟩ := hI
        have s0 : Same H (upd H r0 (.lst us0)) := same_new hr0
        refine ⟨_, rfl, _, s, rfl, tv0.mono s0, fun H2 T vs sm2 sT th => ?_⟩
        have s1 : Same H H2 := s0.trans sm2
        have lv : vs.length = (hf s).length := by rw [th.len, List.length_map]
        refine ⟨T, rfl, ⟨_, sT⟩, for_tup (K := K) (xs := vs) (fun i σ H' => ∃ us y z, σ = [some (.ref a), some (.ref r0), y, z] ∧ Same H H' ∧ H' r0 = some (.lst us) ∧ TpAll K H' us (gatherF untilsOf (ownU s) ((hf s).take i)) ∧ SqT K H' T vs ∧ TpAll K H' vs ((hf s).map dFm))
          ⟨us0, _, _, rfl, s1, sm2 _ _ upd_same, tu0.mono sm2, sT, th⟩ (fun i σ H' _ hp => ?_) (fun i x σ H' hx hp => ?_) (fun σ H' hp => ?_)⟩
        · obtain ⟨us, y, z, _, _, _, _, h, _⟩ := hp
          exact h
        · obtain ⟨us, y, z, rfl, sm, hr1, tu, sT, th⟩ := hp
          obtain ⟨h, eh, hm, tx⟩ := tpAll_map th hx
          have okh := hf_ok ok h hm
          have il : i < (hf s).length := (List.getElem?_eq_some_iff.mp eh).1
          have accp : ∀ d ∈ gatherF untilsOf (ownU s) ((hf s).take i), Pl (n + 1) d := gather_sub (own_pl ok) fun h' hh d hd => (untils_pl (hf_ok ok h' (List.mem_of_mem_take hh)) d hd).mono (by omega)
          have accl : (gatherF untilsOf (ownU s) ((hf s).take i)).length ≤ (ownU s).length + ((hf s).take i).length * 2 ^ n := gather_len fun h' hh => Nat.le_trans (Nat.le_succ _) (untils_len (hf_ok ok h' (List.mem_of_mem_take hh)))
          have hl2 : (hf s).length ≤ 2 := hf_len
          have tl : ((hf s).take i).length ≤ 2 := by rw [List.length_take]; omega
          have p2 : 2 ^ n ≤ 2 ^ 8 := Nat.pow_le_pow_right (by decide) (by omega)
          have ol := @own_len s
          have accl2 : (gatherF untilsOf (ownU s) ((hf s).take i)).length ≤ 513 := by
            have := Nat.mul_le_mul tl p2
            omega
          refine ⟨_, rfl, .inl ⟨rfl, _, SqL.of hr1⟩, ?_⟩
          refine ⟨_, rfl, x, h, rfl, tx, okh, fun H2 r1 us1 sm2 hr2 e2 t2 => ?_⟩
          have hlen1 : us1.length ≤ 256 := by
            have := untils_len okh
            rw [t2.len]
            omega
          refine ⟨r1, rfl, ⟨_, SqL.of e2⟩, fun D hD => ?_⟩
          refine lc_filter (acc := gatherF untilsOf (ownU s) ((hf s).take i)) hD e2 t2 (by omega) (fun x d Hx R T0 hd tx sx hh => ?_) (fun ws tw => ?_)
          · refine ⟨rfl, _, rfl, _, rfl, d, _, tx.dp, .lst (SqL.of (sx _ _ (sm2 _ _ hr1))) ((tu.mono (sm2.trans sx)).dp), (untils_pl okh d hd).shaped (by omega), shaped_list accp (by omega), _, rfl, ?_⟩
            by_cases c : notIn (gatherF untilsOf (ownU s) ((hf s).take i)) d = true
            · rw [if_pos c] at hh
              rw [show (!(gatherF untilsOf (ownU s) ((hf s).take i)).any fun z => PyData.eqv z d) = true from c]
              exact ⟨_, rfl, hh⟩
            · rw [if_neg c] at hh
              rw [show (!(gatherF untilsOf (ownU s) ((hf s).take i)).any fun z => PyData.eqv z d) = false from Bool.eq_false_iff.mpr c]
              exact hh
          · have s3 : Same H2 (upd H2 D (.lst ws)) := same_new hD
            have hr3 : upd H2 D (.lst ws) r0 = some (.lst us) := s3 _ _ (sm2 _ _ hr1)
            have lw : ws.length ≤ 256 := by
              rw [tw.len]
              exact Nat.le_trans (List.length_filter_le _ _) (by rw [← t2.len]; exact hlen1)
            have kk : Keep r0 (upd H2 D (.lst ws)) (upd (upd H2 D (.lst ws)) r0 (.lst (us ++ ws))) := keep_upd
            have hsame : Same H (upd (upd H2 D (.lst ws)) r0 (.lst (us ++ ws))) := fun b o e => by
              rw [upd_ne (ne_of_none e hr0)]
              exact s3 _ _ (sm2 _ _ (sm _ _ e))
            refine ⟨r0, D, us, ws, rfl, rfl, hr3, upd_same, ?_, us ++ ws, _, _, rfl, hsame, upd_same, ?_, ?_, ?_⟩
            · have := tu.len
              exact Nat.le_of_lt (small1000 (by omega))
            · have e : gatherF untilsOf (ownU s) ((hf s).take (i + 1)) = merge (gatherF untilsOf (ownU s) ((hf s).take i)) (untilsOf h) := gather_take eh
              rw [e]
              exact ((tu.mono (sm2.trans s3)).app tw).keepL kk ⟨_, hr3⟩
            · exact keepTL kk ⟨_, hr3⟩ (same_tup (sm2.trans s3) sT)
            · exact (th.mono (sm2.trans s3)).keepL kk ⟨_, hr3⟩
        · obtain ⟨us, y, z, rfl, sm, hr1, tu, sT, _⟩ := hp
          refine ⟨_, rfl, q H' r0 us sm hr0 hr1 ?_⟩
          rw [lv, List.take_length, ← untils_hf] at tu
          exact tu
end
end W26

namespace W26
open PySem PySem.Spec PyProof.Rows L2 Gs Sf
/-! ### the law's own atoms -/
theorem scAtomsIn : FnScope ["_law_saying_here", "_law_found", "_law_part", "_law_atom"] ["_law_saying_here"] (defScope sAtomsIn) := ⟨rfl, rfl, rfl, by decide +kernel, rfl, by decide +kernel, by decide +kernel⟩
theorem scLUntils : FnScope ["_law_form", "_law_found", "_law_part", "_law_one"] ["_law_form"] (defScope sUntils) := ⟨rfl, rfl, rfl, by decide +kernel, rfl, by decide +kernel, by decide +kernel⟩
section
variable {P : Program} {w : World} {K : PySem.W.Frag} {mg : Str → Option Value} {base : Heap} {f : Addr} {fd : FuncData}
theorem ok_atomsIn (F : Fun K "_law_atoms_in" "_law_atoms_in" sAtomsIn f fd) (g : mg "_law_atoms_in" = some (.ref f)) (kp : PySem.W.keepIn K (.ref f) = true) (bd : Binds K fd ["_law_saying_here"] []) :
    ∀ n, n ≤ 8 → FnOk P w K mg base CX0 (n + 1) f fd ["_law_saying_here"] (spAtoms K n) := by
  intro n
  induction n with
  | zero =>
    intro _
    refine F.ok scAtomsIn (fun vs H Q E h => ?_) (fun cdv A outer s H vs Q E hr h => ?_)
    · obtain ⟨v, s, rfl, _, ok, _⟩ := h
      cases ok
    · obtain ⟨v, s, rfl, _, ok, _⟩ := h
      cases ok
  | succ n ih =>
    intro hn
    have IH := ih (by omega)
    refine F.ok scAtomsIn (fun vs H Q E h => ?_) (fun cdv A outer s0 H vs Q E hr h => ?_)
    · obtain ⟨v, s, rfl, _⟩ := h
      rfl
    · obtain ⟨v, s, rfl, tv, ok, q⟩ := h
      refine ⟨_, pss_cons (ps_if (pt_cmpR op_in_seq (pe_ix ix_tup (pv 0) pe_int (fun _ _ => rfl)) (pe_tup (pa_cons pe_str (pa_cons pe_str (pa_cons pe_str pa_nil)))) (by rfl)) (pss_one (ps_ret (pe_lst (pa_cons (pv 0) pa_nil)))) pss_nil)
        (pss_cons (ps_set (i := 1) scAtomsIn.nd rfl (.inr rfl) (pe_lst pa_nil))
        (pss_cons (ps_for PassesOwn.never rfl (pi_tup (pe_slice sl_tup (pv 0) (po_some pe_int) po_none)) (pg_name (i := 2) scAtomsIn.nd rfl (Or.inl rfl))
          (pss_one (ps_set (i := 1) scAtomsIn.nd rfl (.inr rfl) (pe_op op_cat (pv 1)
            (pe_lc (own := [("_law_atom", 3)]) (g := gName 3) rfl scAtomsIn.nd (pi_list (pe_call IH hr (by rfl) g kp bd .nil pass0 (pa_cons (pv 2) pa_nil))) (blkOk_by (own := [("_law_atom", 3)]) (N := ["_law_saying_here", "_law_found", "_law_part", "_law_atom"]) (sc := defScope sAtomsIn) (by decide +kernel))
              (fun _ _ _ _ _ => pg_name (i := 3) scAtomsIn.nd rfl (Or.inl rfl))
              (fun _ _ _ _ _ => pts_one (pt_cmpR (op_notInK (K := K) rfl (u65 hr)) (pv 3) (pv 1) (by rfl)))
              (fun _ _ _ _ _ => pv 3))))))
        (pss_one (ps_ret (pv 1))))), ?_⟩
      cases hat : isAt s with
      | true =>
        cases s with
        | yes => cases hat
        | un w s => cases hat
        | bi w s t => cases hat
        | «at» wz r =>
          obtain ⟨a, xs, rfl, sq, ta⟩ := tp_tup tv
          obtain ⟨v0, vs, rfl, t0, _⟩ := tp_cons ta
          cases tp_str t0
          cases ok with
          | «at» ao =>
            refine ⟨_, rfl, a, _, 0, _, rfl, rfl, sq, atI_nat (j := 0) rfl, by show 3 ≤ sizeLine; decide, fun aT haT => ⟨aT, _, rfl, .inr (SqT.of upd_same), rfl, rfl, _, rfl, iteP (in_atoms ao.1) ?_⟩⟩
            refine ⟨_, rfl, by show 1 ≤ sizeLine; decide, fun l hl => ?_⟩
            have s2 := (same_new haT).trans (same_new (o := .lst [.ref a]) hl)
            exact q _ l _ s2 (free_same (same_new haT) hl) upd_same (.cons (tv.mono s2) .nil)
      | false =>
        rw [dSy_hv hat] at tv
        obtain ⟨a, xs, rfl, sq, ta⟩ := tp_tup tv
        obtain ⟨v0, vs, rfl, t0, th⟩ := tp_cons ta
        cases tp_str t0
        refine ⟨_, rfl, a, _, 0, _, rfl, rfl, sq, atI_nat (j := 0) rfl, by show 3 ≤ sizeLine; decide, fun aT haT => ⟨aT, _, rfl, .inr (SqT.of upd_same), rfl, rfl, _, rfl, iteN (no_atom hat) ?_⟩⟩
        refine ⟨by show 0 ≤ sizeLine; decide, fun r0 hr0 => ?_⟩
        have sA := (same_new haT).trans (same_new (o := .lst []) hr0)
        have hr0H := free_same (same_new haT) hr0
        refine ⟨_, rfl, 1, rfl, a, _, rfl, same_tup sA sq, cut1_ne, fun T hT0 => ?_⟩
        rw [cut1]
        have s1 := sA.trans (same_new (o := .tup vs) hT0)
        have nT : r0 ≠ T := ne_of_none upd_same hT0
        have lv : vs.length = (hv s).length := by rw [th.len, List.length_map]
        refine ⟨T, rfl, ⟨_, SqT.of upd_same⟩, for_tup (K := K) (xs := vs) (fun i σ H' => ∃ r0 us y z, σ = [some (.ref a), some (.ref r0), y, z] ∧ H r0 = none ∧ Same H H' ∧ H' r0 = some (.lst us) ∧ TpAll K H' us (gather atomsOf [] ((hv s).take i)) ∧ SqT K H' T vs)
          ⟨r0, [], _, _, rfl, hr0H, s1, by rw [upd_ne nT]; exact upd_same, .nil, SqT.of upd_same⟩ (fun i σ H' _ hp => ?_) (fun i x σ H' hx hp => ?_) (fun σ H' hp => ?_)⟩
        · obtain ⟨r0, us, y, z, _, _, _, _, _, h⟩ := hp
          exact h
        · obtain ⟨r0, us, y, z, rfl, hr0, sm, hr1, tu, sT⟩ := hp
          obtain ⟨h, eh, hm, tx⟩ := tpAll_map th hx
          have okh := hv_ok ok h hm
          have il : i < (hv s).length := (List.getElem?_eq_some_iff.mp eh).1
          have accp : ∀ d ∈ gather atomsOf [] ((hv s).take i), Pl 8 d := gather_sub (fun d hd => absurd hd List.not_mem_nil) fun h' hh => atoms_pl (hv_ok ok h' (List.mem_of_mem_take hh))
          have accl : (gather atomsOf [] ((hv s).take i)).length ≤ 0 + ((hv s).take i).length * 2 ^ n := gather_len fun h' hh => atoms_len (hv_ok ok h' (List.mem_of_mem_take hh))
          have hl2 : (hv s).length ≤ 2 := hv_len
          have tl : ((hv s).take i).length ≤ 2 := by rw [List.length_take]; omega
          have p2 : 2 ^ n ≤ 2 ^ 8 := Nat.pow_le_pow_right (by decide) (by omega)
          have accl2 : (gather atomsOf [] ((hv s).take i)).length ≤ 512 := by
            have := Nat.mul_le_mul tl p2
            omega
          refine ⟨_, rfl, ?_⟩
          refine ⟨_, rfl, x, h, rfl, tx.mono sm, okh, fun H2 r1 us1 sm2 hr2 e2 t2 => ?_⟩
          have hlen1 : us1.length ≤ 256 := by rw [t2.len]; exact Nat.le_trans (atoms_len okh) (Nat.le_trans p2 (by decide))
          refine ⟨r1, rfl, ⟨_, SqL.of e2⟩, fun D hD => ?_⟩
          refine lc_filter (acc := gather atomsOf [] ((hv s).take i)) hD e2 t2 (by omega) (fun x d Hx R T0 hd tx sx hh => ?_) (fun ws tw => ?_)
          · refine ⟨rfl, _, rfl, _, rfl, d, _, tx.dp, .lst (SqL.of (sx _ _ (sm2 _ _ hr1))) ((tu.mono (sm2.trans sx)).dp), (atoms_pl okh d hd).shaped (by decide), shaped_list accp (by decide), _, rfl, ?_⟩
            by_cases c : notIn (gather atomsOf [] ((hv s).take i)) d = true
            · rw [if_pos c] at hh
              rw [show (!(gather atomsOf [] ((hv s).take i)).any fun z => PyData.eqv z d) = true from c]
              exact ⟨_, rfl, hh⟩
            · rw [if_neg c] at hh
              rw [show (!(gather atomsOf [] ((hv s).take i)).any fun z => PyData.eqv z d) = false from Bool.eq_false_iff.mpr c]
              exact hh
          · have s3 : Same H2 (upd H2 D (.lst ws)) := same_new hD
            have hr3 : upd H2 D (.lst ws) r0 = some (.lst us) := s3 _ _ (sm2 _ _ hr1)
            have lw : ws.length ≤ 256 := by
              rw [tw.len]
              exact Nat.le_trans (List.length_filter_le _ _) (by rw [← t2.len]; exact hlen1)
            refine ⟨r0, D, us, ws, rfl, rfl, hr3, upd_same, ?_, fun p hp => ?_⟩
            · have := tu.len
              exact Nat.le_of_lt (small1000 (by omega))
            · have s4 := (sm2.trans s3).trans (same_new (o := .lst (us ++ ws)) hp)
              have s5 := s3.trans (same_new (o := .lst (us ++ ws)) hp)
              refine ⟨p, us ++ ws, _, _, rfl, free_same (sm.trans (sm2.trans s3)) hp, sm.trans s4, upd_same, ?_, same_tup s4 sT⟩
              have e : gather atomsOf [] ((hv s).take (i + 1)) = merge (gather atomsOf [] ((hv s).take i)) (atomsOf h) := gather_take eh
              rw [e]
              exact (tu.mono s4).app (tw.mono (same_new hp))
        · obtain ⟨r0, us, y, z, rfl, hr0, sm, hr1, tu, sT⟩ := hp
          refine ⟨_, rfl, q H' r0 us sm hr0 hr1 ?_⟩
          rw [lv, List.take_length, ← atomsOf_hv hat] at tu
          exact tu
end
/-! ### the law's own untils -/
section
variable {P : Program} {w : World} {K : PySem.W.Frag} {mg : Str → Option Value} {base : Heap} {f : Addr} {fd : FuncData}
theorem ok_luntils (F : Fun K "_law_untils" "_law_untils" sUntils f fd) (g : mg "_law_untils" = some (.ref f)) (kp : PySem.W.keepIn K (.ref f) = true) (bd : Binds K fd ["_law_form"] []) :
    ∀ n, n ≤ 8 → FnOk P w K mg base CX0 (n + 2) f fd ["_law_form"] (spUntils K n) := by
  intro n
  induction n with
  | zero =>
    intro _
    refine F.ok scLUntils (fun vs H Q E h => ?_) (fun cdv A outer s H vs Q E hr h => ?_)
    · obtain ⟨v, s, rfl, _, ok, _⟩ := h
      cases ok
    · obtain ⟨v, s, rfl, _, ok, _⟩ := h
      cases ok
  | succ n ih =>
    intro hn
    have IH := ih (by omega)
    refine F.ok scLUntils (fun vs H Q E h => ?_) (fun cdv A outer s0 H vs Q E hr h => ?_)
    · obtain ⟨v, s, rfl, _⟩ := h
      rfl
    · obtain ⟨v, s, rfl, tv, ok, q⟩ := h
      refine ⟨_, pss_cons (ps_set (i := 1) scLUntils.nd rfl (.inr rfl) (pe_lst pa_nil))
        (pss_join (ps_if (pt_cmpR op_eq (pe_ix ix_tup (pv 0) pe_int (fun _ _ => rfl)) pe_str (nomark _)) (pss_one (ps_set (i := 1) scLUntils.nd rfl (.inr rfl) (pe_lst (pa_cons (pv 0) pa_nil)))) pss_nil)
        (pss_join (ps_if (pt_cmpR op_in_seq (pe_ix ix_tup (pv 0) pe_int (fun _ _ => rfl)) (pe_tup (pa_cons pe_str (pa_cons pe_str (pa_cons pe_str (pa_cons pe_str pa_nil))))) (by rfl))
          (pss_one (ps_for PassesOwn.never rfl (pi_tup (pe_slice sl_tup (pv 0) (po_some pe_int) po_none)) (pg_name (i := 2) scLUntils.nd rfl (Or.inl rfl))
            (pss_one (ps_set (i := 1) scLUntils.nd rfl (.inr rfl) (pe_op op_cat (pv 1)
              (pe_lc (own := [("_law_one", 3)]) (g := gName 3) rfl scLUntils.nd (pi_list (pe_call IH hr (by rfl) g kp bd .nil pass0 (pa_cons (pv 2) pa_nil))) (blkOk_by (own := [("_law_one", 3)]) (N := ["_law_form", "_law_found", "_law_part", "_law_one"]) (sc := defScope sUntils) (by decide +kernel))
                (fun _ _ _ _ _ => pg_name (i := 3) scLUntils.nd rfl (Or.inl rfl))
                (fun _ _ _ _ _ => pts_one (pt_cmpR (op_notInK (K := K) rfl (u65 hr)) (pv 3) (pv 1) (by rfl)))
                (fun _ _ _ _ _ => pv 3))))))) pss_nil)
        (pss_one (ps_ret (pv 1))))), ?_⟩
      have tv0 := tv
      obtain ⟨ds0, e0⟩ := dFm_wf s
      rw [e0] at tv
      obtain ⟨a, xs, rfl, sq, ta⟩ := tp_tup tv
      obtain ⟨v0, vs0, rfl, t0, _⟩ := tp_cons ta
      cases tp_str t0
      refine ⟨by show 0 ≤ sizeLine; decide, fun rz hrz => ?_⟩
      refine ⟨fun σ H1 => ∃ r0 us0, σ = [some (.ref a), some (.ref r0), none, none] ∧ Same H H1 ∧ H1 r0 = some (.lst us0) ∧ H r0 = none ∧ TpAll K H1 us0 (ownU s), ?_, fun σ H1 hI => ?_⟩
      · refine ⟨_, rfl, a, _, 0, _, rfl, rfl, same_tup (same_new hrz) sq, atI_nat (j := 0) rfl, rfl, _, rfl, ?_⟩
        cases hu : isUn s with
        | true =>
          refine iteP (is_until.trans hu) ⟨_, rfl, by show 1 ≤ sizeLine; decide, fun l hl => ⟨l, _, rfl, (same_new hrz).trans (same_new hl), upd_same, free_same (same_new hrz) hl, ?_⟩⟩
          have e : ownU s = [dFm s] := by
            cases s with
            | bi w t u => cases w <;> first | rfl | cases hu
            | _ => cases hu
          rw [e]
          exact .cons (tv0.mono ((same_new hrz).trans (same_new hl))) .nil
        | false =>
          refine iteN (is_until.trans hu) ⟨rz, _, rfl, same_new hrz, upd_same, hrz, ?_⟩
          have e : ownU s = [] := by
            cases s with
            | bi w t u => cases w <;> first | rfl | cases hu
            | _ => rfl
          rw [e]
          exact .nil
      · obtain ⟨r0, us0, rfl, s0, er0, hr0, tu0⟩ := hI
        refine ⟨fun σ H1 => ∃ r0 us0 y z, σ = [some (.ref a), some (.ref r0), y, z] ∧ Same H H1 ∧ H1 r0 = some (.lst us0) ∧ H r0 = none ∧ TpAll K H1 us0 (untilsOf s), ?_, fun σ H1 hI => ?_⟩
        · refine ⟨_, rfl, a, _, 0, _, rfl, rfl, same_tup s0 sq, atI_nat (j := 0) rfl, by show 4 ≤ sizeLine; decide, fun aT haT => ⟨aT, _, rfl, .inr (SqT.of upd_same), rfl, rfl, _, rfl, ?_⟩⟩
          have sB := s0.trans (same_new (o := .tup [.str "and", .str "or", .str "until", .str "release"]) haT)
          cases hb : isBi s with
          | false =>
            refine iteN (in_halv.trans hb) ⟨r0, us0, _, _, rfl, sB, same_new haT _ _ er0, hr0, ?_⟩
            have e : untilsOf s = ownU s := by
              cases s with
              | bi w t u => cases hb
              | _ => rfl
            rw [e]
            exact tu0.mono (same_new haT)
          | true =>
            rw [dFm_hf hb] at tv0
            obtain ⟨a', xs', ea, sq', ta'⟩ := tp_tup tv0
            cases ea
            obtain ⟨v0', vs, rfl, t0', th⟩ := tp_cons ta'
            refine iteP (in_halv.trans hb) ?_
            refine ⟨_, rfl, 1, rfl, a, _, rfl, same_tup sB sq', cut1_ne, fun T hT0 => ?_⟩
            rw [cut1]
            have sT0 := same_new (o := .tup vs) hT0
            have s1 := sB.trans sT0
            have lv : vs.length = (hf s).length := by rw [th.len, List.length_map]
            refine ⟨T, rfl, ⟨_, SqT.of upd_same⟩, for_tup (K := K) (xs := vs) (fun i σ H' => ∃ r0 us y z, σ = [some (.ref a), some (.ref r0), y, z] ∧ H r0 = none ∧ Same H H' ∧ H' r0 = some (.lst us) ∧ TpAll K H' us (gatherF untilsOf (ownU s) ((hf s).take i)) ∧ SqT K H' T vs)
              ⟨r0, us0, _, _, rfl, hr0, s1, sT0 _ _ (same_new haT _ _ er0), tu0.mono ((same_new haT).trans sT0), SqT.of upd_same⟩ (fun i σ H' _ hp => ?_) (fun i x σ H' hx hp => ?_) (fun σ H' hp => ?_)⟩
            · obtain ⟨r0, us, y, z, _, _, _, _, _, h⟩ := hp
              exact h
            · obtain ⟨r0, us, y, z, rfl, hr0, sm, hr1, tu, sT⟩ := hp
              obtain ⟨h, eh, hm, tx⟩ := tpAll_map th hx
              have okh := hf_ok ok h hm
              have il : i < (hf s).length := (List.getElem?_eq_some_iff.mp eh).1
              have accp : ∀ d ∈ gatherF untilsOf (ownU s) ((hf s).take i), Pl (n + 1) d := gather_sub (own_pl ok) fun h' hh d hd => (untils_pl (hf_ok ok h' (List.mem_of_mem_take hh)) d hd).mono (by omega)
              have accl : (gatherF untilsOf (ownU s) ((hf s).take i)).length ≤ (ownU s).length + ((hf s).take i).length * 2 ^ n := gather_len fun h' hh => Nat.le_trans (Nat.le_succ _) (untils_len (hf_ok ok h' (List.mem_of_mem_take hh)))
              have hl2 : (hf s).length ≤ 2 := hf_len
              have tl : ((hf s).take i).length ≤ 2 := by rw [List.length_take]; omega
              have p2 : 2 ^ n ≤ 2 ^ 8 := Nat.pow_le_pow_right (by decide) (by omega)
              have ol := @own_len s
              have accl2 : (gatherF untilsOf (ownU s) ((hf s).take i)).length ≤ 513 := by
                have := Nat.mul_le_mul tl p2
                omega
              refine ⟨_, rfl, ?_⟩
              refine ⟨_, rfl, x, h, rfl, tx.mono sm, okh, fun H2 r1 us1 sm2 hr2 e2 t2 => ?_⟩
              have hlen1 : us1.length ≤ 256 := by
                have := untils_len okh
                rw [t2.len]
                omega
              refine ⟨r1, rfl, ⟨_, SqL.of e2⟩, fun D hD => ?_⟩
              refine lc_filter (acc := gatherF untilsOf (ownU s) ((hf s).take i)) hD e2 t2 (by omega) (fun x d Hx R T0 hd tx sx hh => ?_) (fun ws tw => ?_)
              · refine ⟨rfl, _, rfl, _, rfl, d, _, tx.dp, .lst (SqL.of (sx _ _ (sm2 _ _ hr1))) ((tu.mono (sm2.trans sx)).dp), (untils_pl okh d hd).shaped (by omega), shaped_list accp (by omega), _, rfl, ?_⟩
                by_cases c : notIn (gatherF untilsOf (ownU s) ((hf s).take i)) d = true
                · rw [if_pos c] at hh
                  rw [show (!(gatherF untilsOf (ownU s) ((hf s).take i)).any fun z => PyData.eqv z d) = true from c]
                  exact ⟨_, rfl, hh⟩
                · rw [if_neg c] at hh
                  rw [show (!(gatherF untilsOf (ownU s) ((hf s).take i)).any fun z => PyData.eqv z d) = false from Bool.eq_false_iff.mpr c]
                  exact hh
              · have s3 : Same H2 (upd H2 D (.lst ws)) := same_new hD
                have hr3 : upd H2 D (.lst ws) r0 = some (.lst us) := s3 _ _ (sm2 _ _ hr1)
                have lw : ws.length ≤ 256 := by
                  rw [tw.len]
                  exact Nat.le_trans (List.length_filter_le _ _) (by rw [← t2.len]; exact hlen1)
                refine ⟨r0, D, us, ws, rfl, rfl, hr3, upd_same, ?_, fun p hp => ?_⟩
                · have := tu.len
                  exact Nat.le_of_lt (small1000 (by omega))
                · have s4 := (sm2.trans s3).trans (same_new (o := .lst (us ++ ws)) hp)
                  refine ⟨p, us ++ ws, _, _, rfl, free_same (sm.trans (sm2.trans s3)) hp, sm.trans s4, upd_same, ?_, same_tup s4 sT⟩
                  have e : gatherF untilsOf (ownU s) ((hf s).take (i + 1)) = merge (gatherF untilsOf (ownU s) ((hf s).take i)) (untilsOf h) := gather_take eh
                  rw [e]
                  exact (tu.mono s4).app (tw.mono (same_new hp))
            · obtain ⟨r0, us, y, z, rfl, hr0, sm, hr1, tu, sT⟩ := hp
              refine ⟨r0, us, _, _, rfl, sm, hr1, hr0, ?_⟩
              rw [lv, List.take_length, ← untils_hf] at tu
              exact tu
        · obtain ⟨r0, us, y, z, rfl, sm, hr1, hr0, tu⟩ := hI
          exact ⟨_, rfl, q H1 r0 us sm hr0 hr1 tu⟩
end
end W26

namespace W26
open PySem PySem.Spec PyProof.Rows L2 Gs Sf
/-! ### the law's own forms -/
theorem scFormed : FnScope ["_law_saying_here", "_law_truth", "_law_atoms", "_law_word", "_law_parts", "_law_turned", "_law_some", "_law_part"] ["_law_saying_here", "_law_truth", "_law_atoms"] (defScope sFormed) := ⟨rfl, rfl, rfl, by decide +kernel, rfl, by decide +kernel, by decide +kernel⟩
theorem scNever : FnScope ["_law_saying_here", "_law_atoms", "_law_truth"] ["_law_saying_here", "_law_atoms", "_law_truth"] (defScope sNever) := ⟨rfl, rfl, rfl, by decide +kernel, rfl, by decide +kernel, by decide +kernel⟩
def spFormed (K : PySem.W.Frag) (n : Nat) : Sp := fun vs H Q _ => ∃ (v : V) (aA : Addr) (b : Bool) (s : Sy) (us : List V) (ds : List PyData), vs = [v, .bl b, .ref aA] ∧ Tp K H v (dSy s) ∧ SyOk n s ∧
  H aA = some (.lst us) ∧ TpAll K H us ds ∧ (∀ d ∈ ds, Pl 8 d) ∧ Has ds s ∧ ∀ H' r, Same H H' → Tp K H' r (dFm (fm ds s b)) → Q r H'
def spNever (K : PySem.W.Frag) (n : Nat) : Sp := fun vs H Q _ => ∃ (v : V) (aA : Addr) (b : Bool) (s : Sy) (us : List V) (ds : List PyData), vs = [v, .ref aA, .bl b] ∧ Tp K H v (dSy s) ∧ SyOk n s ∧
  H aA = some (.lst us) ∧ TpAll K H us ds ∧ (∀ d ∈ ds, Pl 8 d) ∧ Has ds s ∧ ∀ H' r, Same H H' → Tp K H' r (dFm (.bi .re .no (fm ds s b))) → Q r H'
section
variable {P : Program} {w : World} {K : PySem.W.Frag} {mg : Str → Option Value} {base : Heap} {f f1 : Addr} {fd d1 : FuncData} {n : Nat}
theorem ok_never (F : Fun K "_law_never" "_law_never" sNever f fd) (B : Cl P w K mg base CX0 (2 * n + 1) "_law_formed" ["_law_saying_here", "_law_truth", "_law_atoms"] (spFormed K n) f1 d1) :
    FnOk P w K mg base CX0 (2 * n + 2) f fd ["_law_saying_here", "_law_atoms", "_law_truth"] (spNever K n) := by
  refine F.ok scNever (fun vs H Q E h => ?_) (fun cdv A outer s H vs Q E hr h => ?_)
  · obtain ⟨v, aA, b, s, us, ds, rfl, _⟩ := h
    rfl
  · obtain ⟨v, aA, b, s, us, ds, rfl, tv, ok, hA, tu, pd, hs, q⟩ := h
    refine ⟨_, pss_one (ps_ret (pe_tup (pa_cons pe_str (pa_cons (pe_tup (pa_cons pe_str pa_nil)) (pa_cons (pe_call B.ok hr (by rfl) B.g B.kp B.bd .nil pass0 (pa_cons (pv 0) (pa_cons (pv 2) (pa_cons (pv 1) pa_nil)))) pa_nil))))), ?_⟩
    refine ⟨by show 1 ≤ sizeLine; decide, fun t ht => ?_⟩
    have s1 := same_new (o := .tup [.str "no"]) ht
    refine ⟨_, rfl, _, rfl, _, rfl, v, aA, b, s, us, ds, rfl, tv.mono s1, ok, s1 _ _ hA, tu.mono s1, pd, hs, fun H' r s2 tr => ⟨by show 3 ≤ sizeLine; decide, fun p hp => ?_⟩⟩
    have s3 := same_new (o := .tup [.str "release", .ref t, r]) hp
    refine q _ _ (s1.trans (s2.trans s3)) ?_
    exact .tup (SqT.of upd_same) (.cons (.str _) (.cons (.tup (SqT.of ((s2.trans s3) _ _ upd_same)) (.cons (.str _) .nil)) (.cons (tr.mono s3) .nil)))
end
section
variable {P : Program} {w : World} {K : PySem.W.Frag} {mg : Str → Option Value} {base : Heap} {f f1 : Addr} {fd d1 : FuncData}
theorem ok_formed (F : Fun K "_law_formed" "_law_formed" sFormed f fd) (g : mg "_law_formed" = some (.ref f)) (kp : PySem.W.keepIn K (.ref f) = true) (bd : Binds K fd ["_law_saying_here", "_law_truth", "_law_atoms"] [])
    (F1 : Fun K "_law_never" "_law_never" sNever f1 d1) (g1 : mg "_law_never" = some (.ref f1)) (kp1 : PySem.W.keepIn K (.ref f1) = true) (bd1 : Binds K d1 ["_law_saying_here", "_law_atoms", "_law_truth"] []) :
    ∀ n, n ≤ 8 → FnOk P w K mg base CX0 (2 * n + 1) f fd ["_law_saying_here", "_law_truth", "_law_atoms"] (spFormed K n) := by
  intro n
  induction n with
  | zero =>
    intro _
    refine F.ok scFormed (fun vs H Q E h => ?_) (fun cdv A outer s H vs Q E hr h => ?_)
    · obtain ⟨v, aA, b, s, us, ds, rfl, _, ok, _⟩ := h
      cases ok
    · obtain ⟨v, aA, b, s, us, ds, rfl, _, ok, _⟩ := h
      cases ok
  | succ n ih =>
    intro hn
    have IH := ih (by omega)
    have NV := ok_never F1 ⟨g, IH, kp, bd⟩
    refine F.ok scFormed (fun vs H Q E h => ?_) (fun cdv A outer s0 H vs Q E hr h => ?_)
    · obtain ⟨v, aA, b, s, us, ds, rfl, _⟩ := h
      rfl
    · obtain ⟨v, aA, b, s, us, ds, rfl, tv, ok, hA, tu, pd, hs, q⟩ := h
      have hr0 : Room (2 * n + 1) (A.deeper (envOfC "_law_formed" (defScope sFormed) s0.heap.objs.size f cdv)) := hr.mono (by omega)
      refine ⟨_, pss_cons (ps_par (i := 3) (j := 4) (by rfl) scFormed.nd rfl rfl (by decide) rfl rfl (pa_cons (pe_ix ix_tup (pv 0) pe_int (fun _ _ => rfl)) (pa_cons (pe_slice sl_tup (pv 0) (po_some pe_int) po_none) pa_nil)) (by rfl))
        (pss_cons (ps_if (pt_cmpR op_eq (pv 3) pe_str (nomark _)) (pss_one (ps_ret (pe_ifExp (pt_val (pv 1)) (pe_tup (pa_cons pe_str pa_nil)) (pe_tup (pa_cons pe_str pa_nil))))) pss_nil)
        (pss_cons (ps_if (pt_cmpR op_in_seq (pv 3) (pe_tup (pa_cons pe_str (pa_cons pe_str (pa_cons pe_str pa_nil)))) (by rfl)) (pss_one (ps_ret (pe_tup (pa_cons (pe_ifExp (pt_val (pv 1)) pe_str pe_str)
            (pa_cons (pe_bm PySem.F.plainAttrs_list PySem.F.slot_list_index PySem.F.type_list_index (mt_indexD (u65 hr)) (pv 2) (pa_cons (pv 0) pa_nil)) pa_nil))))) pss_nil)
        (pss_cons (ps_if (pt_cmpR op_eq (pv 3) pe_str (nomark _)) (pss_one (ps_ret (pe_call IH hr0 (by rfl) g kp bd .nil pass0 (pa_cons (pe_ix ix_tup (pv 4) pe_int (fun _ _ => rfl)) (pa_cons (pe_not (pv 1)) (pa_cons (pv 2) pa_nil)))))) pss_nil)
        (pss_cons (ps_if (pt_cmpR op_eq (pv 3) pe_str (nomark _)) (pss_one (ps_ret (pe_ifExp (pt_val (pv 1))
            (pe_tup (pa_cons pe_str (pa_cons (pe_tup (pa_cons pe_str pa_nil)) (pa_cons (pe_call IH hr0 (by rfl) g kp bd .nil pass0 (pa_cons (pe_ix ix_tup (pv 4) pe_int (fun _ _ => rfl)) (pa_cons pe_bl (pa_cons (pv 2) pa_nil)))) pa_nil))))
            (pe_call NV hr (by rfl) g1 kp1 bd1 .nil pass0 (pa_cons (pe_ix ix_tup (pv 4) pe_int (fun _ _ => rfl)) (pa_cons (pv 2) (pa_cons pe_bl pa_nil))))))) pss_nil)
        (pss_cons (ps_if (pt_cmpR op_eq (pv 3) pe_str (nomark _)) (pss_one (ps_ret (pe_ifExp (pt_val (pv 1))
            (pe_call NV hr (by rfl) g1 kp1 bd1 .nil pass0 (pa_cons (pe_ix ix_tup (pv 4) pe_int (fun _ _ => rfl)) (pa_cons (pv 2) (pa_cons pe_bl pa_nil))))
            (pe_tup (pa_cons pe_str (pa_cons (pe_tup (pa_cons pe_str pa_nil)) (pa_cons (pe_call IH hr0 (by rfl) g kp bd .nil pass0 (pa_cons (pe_ix ix_tup (pv 4) pe_int (fun _ _ => rfl)) (pa_cons pe_bl (pa_cons (pv 2) pa_nil)))) pa_nil))))))) pss_nil)
        (pss_cons (ps_set (i := 5) scFormed.nd rfl (.inl rfl) (pe_disp (pps_cons pe_str pe_str (pps_cons pe_str pe_str (pps_cons pe_str pe_str pps_nil))) (by rfl) (by rfl) (fun z => by cases z) (by decide)))
        (pss_cons (ps_setLc (i := 6) (own := [("_law_part", 7)]) (g := gName 7) (tt := tYes) rfl scFormed.nd rfl rfl (sw_true rfl rfl rfl rfl) (pi_tup (pv 4)) (blkOk_by (own := [("_law_part", 7)]) (N := ["_law_saying_here", "_law_truth", "_law_atoms", "_law_word", "_law_parts", "_law_turned", "_law_some", "_law_part"]) (sc := defScope sFormed) (by decide +kernel))
              (fun _ _ _ _ _ => pg_name (i := 7) scFormed.nd rfl (Or.inl rfl)) (fun _ _ _ _ _ => pts_nil)
              (fun _ _ _ _ _ => pe_call IH hr0 (by rfl) g kp bd .nil pass0 (pa_cons (pv 7) (pa_cons (pv 1) (pa_cons (pv 2) pa_nil)))))
        (pss_one (ps_ret (pe_tup (pa_cons (pe_ifExp (pt_val (pv 1)) (pv 3) (pe_dget (hu_of hr) (pv 5) (pv 3) (fun _ _ => rfl)))
            (pa_cons (pe_ix ix_list (pv 6) pe_int (fun _ _ => rfl)) (pa_cons (pe_ix ix_list (pv 6) pe_int (fun _ _ => rfl)) pa_nil))))))))))))), ?_⟩
      have ho : ∃ ds0, dSy s = .tuple (.str (wd s) :: ds0) := by cases s <;> exact ⟨_, rfl⟩
      obtain ⟨ds0, e0⟩ := ho
      have tv0 := tv
      rw [e0] at tv
      obtain ⟨a, xs, rfl, sq, ta⟩ := tp_tup tv
      obtain ⟨v0, vs, rfl, t0, th⟩ := tp_cons ta
      cases tp_str t0
      refine ⟨_, rfl, a, _, 0, _, rfl, rfl, sq, atI_nat (j := 0) rfl, ?_⟩
      refine ⟨_, rfl, 1, rfl, a, _, rfl, sq, cut1_ne, fun T hT0 => ⟨_, _, rfl, ?_⟩⟩
      rw [cut1]
      have s1 : Same H (upd H T (.tup vs)) := same_new hT0
      have sT : SqT K (upd H T (.tup vs)) T vs := SqT.of upd_same
      have tv1 := tv0.mono s1
      have hA1 := s1 _ _ hA
      have tu1 := tu.mono s1
      have th1 := th.mono s1
      generalize upd H T (.tup vs) = H1 at *
      cases s with
      | yes =>
        refine ⟨_, rfl, rfl, _, rfl, iteP rfl ?_⟩
        cases b with
        | true => exact ⟨_, rfl, _, rfl, iteT ⟨by show 1 ≤ sizeLine; decide, fun p hp => q _ _ (s1.trans (same_new hp)) (.tup (SqT.of upd_same) (.cons (.str _) .nil))⟩⟩
        | false => exact ⟨_, rfl, _, rfl, iteF ⟨by show 1 ≤ sizeLine; decide, fun p hp => q _ _ (s1.trans (same_new hp)) (.tup (SqT.of upd_same) (.cons (.str _) .nil))⟩⟩
      | «at» wz r =>
        cases ok with
        | «at» ao =>
          cases hs with
          | «at» hm =>
            obtain ⟨i1, i2⟩ := idx_at (fun z hz => (pd z hz).1) hm
            refine ⟨_, rfl, rfl, _, rfl, iteN (at_yes ao.1) ?_⟩
            refine ⟨_, rfl, by show 3 ≤ sizeLine; decide, fun aT haT => ⟨aT, _, rfl, .inr (SqT.of upd_same), rfl, rfl, _, rfl, iteP (in_atoms ao.1) ?_⟩⟩
            have s2 := same_new (o := .tup [.str "place", .str "deed", .str "wish"]) haT
            cases b with
            | true =>
              refine ⟨_, rfl, _, rfl, iteT ?_⟩
              refine ⟨_, rfl, .inl ⟨rfl, _, SqL.of (s2 _ _ hA1)⟩, _, rfl, aA, _, _, ds, _, _, rfl, rfl, .lst (SqL.of (s2 _ _ hA1)) (tu1.mono s2).dp, (tv1.mono s2).dp, shaped_list pd (by decide), ao.2.shaped (by decide), i1, eqv_self ao.2.1, i2, by show 2 ≤ sizeLine; decide, fun p hp => ?_⟩
              exact q _ _ (s1.trans (s2.trans (same_new hp))) (.tup (SqT.of upd_same) (.cons (.str _) (.cons (.int _) .nil)))
            | false =>
              refine ⟨_, rfl, _, rfl, iteF ?_⟩
              refine ⟨_, rfl, .inl ⟨rfl, _, SqL.of (s2 _ _ hA1)⟩, _, rfl, aA, _, _, ds, _, _, rfl, rfl, .lst (SqL.of (s2 _ _ hA1)) (tu1.mono s2).dp, (tv1.mono s2).dp, shaped_list pd (by decide), ao.2.shaped (by decide), i1, eqv_self ao.2.1, i2, by show 2 ≤ sizeLine; decide, fun p hp => ?_⟩
              exact q _ _ (s1.trans (s2.trans (same_new hp))) (.tup (SqT.of upd_same) (.cons (.str _) (.cons (.int _) .nil)))
      | un wz t =>
        cases e0
        obtain ⟨v1, _, rfl, t1, tn⟩ := tp_cons th1
        cases tp_nil tn
        cases ok with
        | un okt =>
          cases hs with
          | un hst =>
            refine ⟨_, rfl, rfl, _, rfl, iteN (by cases wz <;> rfl) ?_⟩
            refine ⟨_, rfl, by show 3 ≤ sizeLine; decide, fun aT haT => ⟨aT, _, rfl, .inr (SqT.of upd_same), rfl, rfl, _, rfl, iteN (no_atom (s := .un wz t) rfl) ?_⟩⟩
            have s2 := same_new (o := .tup [.str "place", .str "deed", .str "wish"]) haT
            have s12 := s1.trans s2
            have sT2 := same_tup s2 sT
            have hA2 := s2 _ _ hA1
            have tu2 := tu1.mono s2
            have t12 := t1.mono s2
            generalize upd H1 aT (.tup [.str "place", .str "deed", .str "wish"]) = H2 at *
            have un2 : ∀ (c : Bool) (σ : L2.St) (Q' : VK), σ = [some (.ref a), some (.bl b), some (.ref aA), some (.str wz.s), some (.ref T), none, none, none] → b = c →
                (∀ H' r, Same H2 H' → Tp K H' r (dFm (.bi .un .yes (fm ds t c))) → Q' r H') →
                tTup (tCons (tC (.str "until")) (tCons (tTup (tCons (tC (.str "yes")) tNil)) (tCons (tCall (spFormed K n) [] E0 (tCons (tOp (rIxT K) (tVar 4) (tC (.int 0))) (tCons (tC (.bl c)) (tCons (tVar 2) tNil)))) tNil))) σ H2 Q' := fun c σ Q' eσ _ qq => by
              subst eσ
              refine ⟨by show 1 ≤ sizeLine; decide, fun y hy => ?_⟩
              have s3 := same_new (o := .tup [.str "yes"]) hy
              refine ⟨_, rfl, T, _, 0, _, rfl, rfl, same_tup s3 sT2, atI_nat (j := 0) rfl, _, rfl, v1, aA, c, t, us, ds, rfl, t12.mono s3, okt, s3 _ _ hA2, tu2.mono s3, pd, hst, fun H' r s4 tr => ⟨by show 3 ≤ sizeLine; decide, fun p hp => ?_⟩⟩
              have s5 := same_new (o := .tup [.str "until", .ref y, r]) hp
              exact qq _ _ (s3.trans (s4.trans s5)) (.tup (SqT.of upd_same) (.cons (.str _) (.cons (.tup (SqT.of ((s4.trans s5) _ _ upd_same)) (.cons (.str _) .nil)) (.cons (tr.mono s5) .nil))))
            cases wz with
            | no =>
              refine ⟨_, rfl, rfl, _, rfl, iteP rfl ?_⟩
              exact ⟨_, rfl, T, _, 0, _, rfl, rfl, sT2, atI_nat (j := 0) rfl, _, rfl, _, rfl, _, rfl, v1, aA, !b, t, us, ds, rfl, t12, okt, hA2, tu2, pd, hst, fun H' r s3 tr => q _ _ (s12.trans s3) tr⟩
            | ev =>
              refine ⟨_, rfl, rfl, _, rfl, iteN rfl ?_⟩
              refine ⟨_, rfl, rfl, _, rfl, iteP rfl ?_⟩
              cases b with
              | true => exact ⟨_, rfl, _, rfl, iteT (un2 true _ Q rfl rfl fun H' r s3 tr => q _ _ (s12.trans s3) tr)⟩
              | false => exact ⟨_, rfl, _, rfl, iteF ⟨_, rfl, T, _, 0, _, rfl, rfl, sT2, atI_nat (j := 0) rfl, _, rfl, v1, aA, false, t, us, ds, rfl, t12, okt, hA2, tu2, pd, hst, fun H' r s3 tr => q _ _ (s12.trans s3) tr⟩⟩
            | al =>
              refine ⟨_, rfl, rfl, _, rfl, iteN rfl ?_⟩
              refine ⟨_, rfl, rfl, _, rfl, iteN rfl ?_⟩
              refine ⟨_, rfl, rfl, _, rfl, iteP rfl ?_⟩
              cases b with
              | true => exact ⟨_, rfl, _, rfl, iteT ⟨_, rfl, T, _, 0, _, rfl, rfl, sT2, atI_nat (j := 0) rfl, _, rfl, v1, aA, true, t, us, ds, rfl, t12, okt, hA2, tu2, pd, hst, fun H' r s3 tr => q _ _ (s12.trans s3) tr⟩⟩
              | false => exact ⟨_, rfl, _, rfl, iteF (un2 false _ Q rfl rfl fun H' r s3 tr => q _ _ (s12.trans s3) tr)⟩
      | bi wz t u =>
        cases e0
        refine ⟨_, rfl, rfl, _, rfl, iteN (by cases wz <;> rfl) ?_⟩
        refine ⟨_, rfl, by show 3 ≤ sizeLine; decide, fun aT haT => ⟨aT, _, rfl, .inr (SqT.of upd_same), rfl, rfl, _, rfl, iteN (no_atom (s := .bi wz t u) rfl) ?_⟩⟩
        have s2 := same_new (o := .tup [.str "place", .str "deed", .str "wish"]) haT
        have s12 := s1.trans s2
        have sT2 := same_tup s2 sT
        have hA2 := s2 _ _ hA1
        have tu2 := tu1.mono s2
        have th2 := th1.mono s2
        generalize upd H1 aT (.tup [.str "place", .str "deed", .str "wish"]) = H2 at *
        refine ⟨_, rfl, rfl, _, rfl, iteN (by cases wz <;> rfl) ?_⟩
        refine ⟨_, rfl, rfl, _, rfl, iteN (by cases wz <;> rfl) ?_⟩
        refine ⟨_, rfl, rfl, _, rfl, iteN (by cases wz <;> rfl) ?_⟩
        refine fun dd hdd => ⟨upd_same, [(.inr "and", .str "or"), (.inr "or", .str "and"), (.inr "until", .str "release")], rfl, by decide, ?_⟩
        have s3 : Same H2 (upd (upd H2 dd (.dK [])) dd (.dK (mergeK [] [(.inr "and", .str "or"), (.inr "or", .str "and"), (.inr "until", .str "release")]))) := fun b o e => by
          rw [upd_ne (ne_of_none e hdd), upd_ne (ne_of_none e hdd)]
          exact e
        have hdd3 : upd (upd H2 dd (.dK [])) dd (.dK (mergeK [] [(.inr "and", .str "or"), (.inr "or", .str "and"), (.inr "until", .str "release")])) dd = some (.dK (mergeK [] [(.inr "and", .str "or"), (.inr "or", .str "and"), (.inr "until", .str "release")])) := upd_same
        generalize upd (upd H2 dd (.dK [])) dd (.dK (mergeK [] [(.inr "and", .str "or"), (.inr "or", .str "and"), (.inr "until", .str "release")])) = H3 at *
        have s13 := s12.trans s3
        refine ⟨_, rfl, T, rfl, ⟨_, same_tup s3 sT2⟩, fun D hD => ?_⟩
        have hDH : H3 D = none := hD
        refine lc_tup (K := K) (xs := vs) (fun i H' => ∃ ws, H' D = some (.lst ws) ∧ Same H3 H' ∧ TpAll K H' ws (([t, u].take i).map fun h => dFm (fm ds h b)))
          ⟨[], upd_same, same_new hD, .nil⟩ (fun i H' _ hp => ?_) (fun i x H' hx hp => ?_) (fun H' hp => ?_)
        · obtain ⟨ws, _, h, _⟩ := hp
          exact same_tup (s3.trans h) sT2
        · obtain ⟨ws, hD1, sm, tw⟩ := hp
          obtain ⟨h, eh, hm, tx⟩ := tpAll_map (g := dSy) (hs := [t, u]) th2 hx
          have il : i < 2 := (List.getElem?_eq_some_iff.mp eh).1
          have s3m := s3.trans sm
          refine ⟨rfl, ?_⟩
          refine ⟨_, rfl, _, rfl, _, rfl, x, aA, b, h, us, ds, rfl, tx.mono s3m, hv_ok ok h hm, s3m _ _ hA2, tu2.mono s3m, pd, hv_has hs h hm, fun H4 r sm2 tr => ?_⟩
          have e2 := sm2 _ _ hD1
          have lw := tw.len
          rw [List.length_map, List.length_take] at lw
          refine ⟨ws, e2, small1000 (by omega), ws ++ [r], upd_same, fun b o e => ?_, ?_⟩
          · rw [upd_ne (ne_of_none e hDH)]
            exact sm2 _ _ (sm _ _ e)
          · rw [map_take eh]
            exact ((tw.mono sm2).app (.cons tr .nil)).keepL keep_upd ⟨_, e2⟩
        · obtain ⟨ws, hD1, sm, tw⟩ := hp
          have l2 : vs.length = 2 := th2.len
          rw [l2] at tw
          obtain ⟨r1, _, rfl, t1, tn⟩ := tp_cons (d := dFm (fm ds t b)) (ds := [dFm (fm ds u b)]) tw
          obtain ⟨r2, _, rfl, t2, tn⟩ := tp_cons tn
          cases tp_nil tn
          have fin : ∀ (z : Str) (p : Addr), dFm (fm ds (.bi wz t u) b) = .tuple [.str z, dFm (fm ds t b), dFm (fm ds u b)] → H' p = none → Q (.ref p) (upd H' p (.tup [.str z, r1, r2])) := fun z p e hp => by
            refine q _ _ (s13.trans (sm.trans (same_new hp))) ?_
            rw [e]
            exact .tup (SqT.of upd_same) (.cons (.str _) (.cons (t1.mono (same_new hp)) (.cons (t2.mono (same_new hp)) .nil)))
          cases b with
          | true =>
            refine ⟨_, rfl, _, rfl, iteT ⟨_, rfl, ?_⟩⟩
            exact ⟨_, rfl, D, _, 0, _, rfl, rfl, SqL.of hD1, atI_nat (j := 0) rfl, _, rfl, D, _, 1, _, rfl, rfl, SqL.of hD1, atI_nat (j := 1) rfl, by show 3 ≤ sizeLine; decide, fun p hp => fin wz.s p (by cases wz <;> rfl) hp⟩
          | false =>
            have dg : DGet H' dd (.str wz.s) (some (.str wz.t.s)) := by
              have e : valV (mergeK [] [((.inr "and" : Key), V.str "or"), (.inr "or", .str "and"), (.inr "until", .str "release")]) (.inr wz.s) = some (.str wz.t.s) := by cases wz <;> rfl
              rw [← e]
              exact DGet.k (k := .inr wz.s) (sm _ _ hdd3)
            refine ⟨_, rfl, _, rfl, iteF ⟨_, rfl, _, rfl, dd, _, rfl, dg, ?_⟩⟩
            exact ⟨_, rfl, D, _, 0, _, rfl, rfl, SqL.of hD1, atI_nat (j := 0) rfl, _, rfl, D, _, 1, _, rfl, rfl, SqL.of hD1, atI_nat (j := 1) rfl, by show 3 ≤ sizeLine; decide, fun p hp => fin wz.t.s p (by cases wz <;> rfl) hp⟩
end
end W26

namespace W26
open PySem PySem.Spec PyProof.Rows L2 Gs Sf
/-! ### the drawing: atoms -/
theorem scDrawn : FnScope ["_law_left_here", "_law_many", "_law_found", "_law_turn", "_law_line_here", "_law_some"] ["_law_left_here", "_law_many"] (defScope sDrawn) := ⟨rfl, rfl, rfl, by decide +kernel, rfl, by decide +kernel, by decide +kernel⟩
theorem scSaying : FnScope ["_law_left_here", "_law_atoms", "_law_deep", "_law_way", "_law_word"] ["_law_left_here", "_law_atoms", "_law_deep"] (defScope sSaying) := ⟨rfl, rfl, rfl, by decide +kernel, rfl, by decide +kernel, by decide +kernel⟩
def spDrawn (K : PySem.W.Frag) : Sp := fun vs H Q _ => ∃ p : Addr, vs = [.ref p, .int 4] ∧ Lf H p ∧
  ∀ H' r us ss, Keep p H H' → Lf H' p → H r = none → r ≠ p → H' r = some (.lst us) → TpAll K H' us (List.map dSy ss) → ss.length = 4 → (∀ s ∈ ss, SyOk 1 s) → Q (.ref r) H'
theorem pick2 {α : Type} {a b : α} (n : Int) : ∃ c, atI [a, b] (n % 2) = some c ∧ (c = a ∨ c = b) := by
  have h0 := Int.emod_nonneg n (show (2 : Int) ≠ 0 by decide)
  have h1 := Int.emod_lt_of_pos n (show (0 : Int) < 2 by decide)
  have h : n % 2 = 0 ∨ n % 2 = 1 := by omega
  rcases h with e | e
  · exact ⟨a, by rw [e]; rfl, .inl rfl⟩
  · exact ⟨b, by rw [e]; rfl, .inr rfl⟩
theorem pick_at {α : Type} {xs : List α} {k : Int} (h0 : 0 ≤ k) (h1 : k < xs.length) : ∃ c, atI xs k = some c ∧ ∃ j : Nat, xs[j]? = some c := by
  obtain ⟨j, rfl⟩ : ∃ j : Nat, k = (j : Int) := ⟨k.toNat, by omega⟩
  have hj : j < xs.length := by omega
  exact ⟨xs[j], atI_nat (List.getElem?_eq_getElem hj), j, List.getElem?_eq_getElem hj⟩
theorem ln_pl {l : Ln} (h : LnOk ["x", "y"] 4 l) : Pl 4 (dLn l) := by
  have sh : ∀ x : Int × Int, Pl 1 (dS x) := fun x => pl2 pl_int pl_int
  refine (pl2 (n := 3) ((sh l.1).mono (by decide)) (Pl.tup (n := 2) fun d hd => ?_))
  obtain ⟨z, hz, rfl⟩ := List.mem_map.mp hd
  refine (pl2 (n := 1) ((pl_str ?_).mono (by decide)) (sh z.2))
  rcases List.mem_cons.mp (h.ps z hz).1 with e | e
  · rw [e]; decide +kernel
  · rw [List.mem_singleton.mp e]; decide +kernel
theorem wish_ok {z : Str} {l : Ln} (hz : z = "least" ∨ z = "above") (h : LnOk ["x", "y"] 4 l) : SyOk 1 (.at "wish" [.tuple [.str z, dLn l]]) := by
  refine .at ⟨by decide, ?_⟩
  have h1 : Pl 5 (.tuple [.str z, dLn l]) := pl2 ((pl_str (by rcases hz with e | e <;> rw [e] <;> decide +kernel)).mono (by decide)) (ln_pl h)
  exact (pl2 ((pl_str (by decide +kernel)).mono (by decide)) h1).mono (by decide)
theorem place_ok {z : Str} (hz : z = "a" ∨ z = "b") : SyOk 1 (.at "place" [.str "m", .str z]) := by
  refine .at ⟨by decide, ?_⟩
  exact (pl3 (pl_str (by decide +kernel)) (pl_str (by decide +kernel)) (pl_str (by rcases hz with e | e <;> rw [e] <;> decide +kernel))).mono (by decide)
theorem deed_ok {z : Str} (hz : z = "go" ∨ z = "rest") : SyOk 1 (.at "deed" [.str z]) := by
  refine .at ⟨by decide, ?_⟩
  exact (pl2 (pl_str (by decide +kernel)) (pl_str (by rcases hz with e | e <;> rw [e] <;> decide +kernel))).mono (by decide)
theorem kp_new {p b : Addr} {H H' : Hp} {o : HO} (k : Keep p H H') (h : H' b = none) : Keep p H (upd H' b o) := k.trans (keep_same (same_new h))
theorem kp_dr {p : Addr} {H H' : Hp} {o : HO} (k : Keep p H H') : Keep p H (upd H' p o) := k.trans keep_upd
section
variable {P : Program} {w : World} {K : PySem.W.Frag} {mg : Str → Option Value} {base : Heap} {f f1 f2 : Addr} {fd d1 d2 : FuncData}
theorem ok_drawn (F : Fun K "_law_atoms_drawn" "_law_atoms_drawn" sDrawn f fd) (D : Cl P w K mg base CX0 1 "_law_digit" ["_law_left_here", "_law_upto"] spDigit f1 d1) (L : Cl P w K mg base CX0 3 "_law_line" ["_law_left_here", "_law_names"] (spLine K) f2 d2)
    (mr : mg "range" = none) : FnOk P w K mg base CX0 4 f fd ["_law_left_here", "_law_many"] (spDrawn K) := by
  refine F.ok scDrawn (fun vs H Q E h => ?_) (fun cdv A outer s0 H vs Q E hr h => ?_)
  · obtain ⟨p, rfl, _⟩ := h
    rfl
  · obtain ⟨p, rfl, lf, q⟩ := h
    have r1 := hr.mono (j := 1) (by decide)
    refine ⟨_, pss_cons (ps_set (i := 2) scDrawn.nd rfl (.inl rfl) (pe_lst pa_nil))
      (pss_cons (ps_for PassesOwn.never rfl (pi_range1 (by rfl) mr (pa_cons (pv 1) pa_nil)) (pg_name (i := 3) scDrawn.nd rfl (Or.inl rfl))
        (pss_cons (ps_set (i := 4) scDrawn.nd rfl (.inl rfl) (pe_call L.ok hr (by rfl) L.g L.kp L.bd .nil pass0 (pa_cons (pv 0) (pa_cons (pe_lst (pa_cons pe_str (pa_cons pe_str pa_nil))) pa_nil))))
        (pss_cons (ps_set (i := 5) scDrawn.nd rfl (.inl rfl) (pe_lst (pa_cons (pe_tup (pa_cons pe_str (pa_cons pe_str (pa_cons (pe_ix ix_str pe_str (pe_call D.ok r1 (by rfl) D.g D.kp D.bd .nil pass0 (pa_cons (pv 0) (pa_cons pe_int pa_nil))) (fun _ _ => rfl)) pa_nil))))
            (pa_cons (pe_tup (pa_cons pe_str (pa_cons (pe_ix ix_list (pe_lst (pa_cons pe_str (pa_cons pe_str pa_nil))) (pe_call D.ok r1 (by rfl) D.g D.kp D.bd .nil pass0 (pa_cons (pv 0) (pa_cons pe_int pa_nil))) (fun _ _ => rfl)) pa_nil))) pa_nil))))
        (pss_one (ps_expr (pe_bm PySem.F.plainAttrs_list PySem.F.slot_list_append PySem.F.type_list_append mt_append (pv 2) (pa_cons
          (pe_ix ix_list (pe_op op_cat (pv 5) (pe_lst (pa_cons (pe_tup (pa_cons pe_str (pa_cons (pe_tup (pa_cons (pe_ix ix_list (pe_lst (pa_cons pe_str (pa_cons pe_str pa_nil))) (pe_call D.ok r1 (by rfl) D.g D.kp D.bd .nil pass0 (pa_cons (pv 0) (pa_cons pe_int pa_nil))) (fun _ _ => rfl)) (pa_cons (pv 4) pa_nil))) pa_nil))) pa_nil)))
            (pe_call D.ok r1 (by rfl) D.g D.kp D.bd .nil pass0 (pa_cons (pv 0) (pa_cons pe_int pa_nil))) (fun _ _ => rfl)) pa_nil)))))))
      (pss_one (ps_ret (pv 2)))), ?_⟩
    refine ⟨by show 0 ≤ sizeLine; decide, fun r0 hr0 => ?_⟩
    have p0 : p ≠ r0 := lf_ne lf hr0
    refine ⟨_, rfl, 4, rfl, by decide, by decide, for_range (n := 4) (fun i σ H' => ∃ us ss x y z, σ = [some (.ref p), some (.int 4), some (.ref r0), x, y, z] ∧ Keep p H H' ∧ Lf H' p ∧ H' r0 = some (.lst us) ∧ TpAll K H' us (List.map dSy ss) ∧ ss.length = i ∧ i ≤ 4 ∧ ∀ s ∈ ss, SyOk 1 s)
      ⟨[], [], _, _, _, rfl, keep_same (same_new hr0), lf_upd lf p0, upd_same, .nil, rfl, by decide, fun s hs => absurd hs List.not_mem_nil⟩ (fun i σ H1 hi hp => ?_) (fun σ H1 hp => ?_)⟩
    · obtain ⟨us, ss, x, y, z, rfl, k1, lf1, e1, tu, sl, il, so⟩ := hp
      -- the line
      refine ⟨_, rfl, by show 2 ≤ sizeLine; decide, fun Ln0 hL0 => ?_⟩
      have lfL := lf_upd (o := .lst [.str "x", .str "y"]) lf1 (lf_ne lf1 hL0)
      refine ⟨p, Ln0, ["x", "y"], rfl, lfL, upd_same, by decide, by decide, fun H2 vl l k2 lf2 tl lo => ?_⟩
      have k12 : Keep p H1 H2 := (keep_same (same_new hL0)).trans k2
      -- the two atoms
      obtain ⟨n2, hn2⟩ := lf2
      obtain ⟨c1, ec1, cc1⟩ := pick2 (a := (97 : Nat)) (b := 98) n2
      refine ⟨_, rfl, p, n2, 2, rfl, hn2, by decide, log_lit (n := 10) (by decide) (by decide) (by decide), "ab", _, c1, rfl, rfl, by decide, ?_, by show 3 ≤ sizeLine; decide, fun t1 ht1 => ?_⟩
      · exact ec1
      have k13 := kp_new (o := .tup [.str "place", .str "m", .str ⟨#[c1]⟩]) (kp_dr (o := .lst [.int (n2 / 2)]) k12) ht1
      have lf3 : Lf (upd (upd H2 p (.lst [.int (n2 / 2)])) t1 (.tup [.str "place", .str "m", .str ⟨#[c1]⟩])) p := lf_upd lf_draw (lf_ne lf_draw ht1)
      have pt1 : t1 ≠ p := fun e => lf_ne lf_draw ht1 e.symm
      have et1 : upd (upd H2 p (.lst [.int (n2 / 2)])) t1 (.tup [.str "place", .str "m", .str ⟨#[c1]⟩]) t1 = some (.tup [.str "place", .str "m", .str ⟨#[c1]⟩]) := upd_same
      have tl3 : Tp K (upd (upd H2 p (.lst [.int (n2 / 2)])) t1 (.tup [.str "place", .str "m", .str ⟨#[c1]⟩])) vl (dLn l) := (tl.keep keep_upd ⟨n2, hn2⟩).mono (same_new ht1)
      generalize upd (upd H2 p (.lst [.int (n2 / 2)])) t1 (.tup [.str "place", .str "m", .str ⟨#[c1]⟩]) = H3 at *
      refine ⟨by show 2 ≤ sizeLine; decide, fun g1 hg1 => ?_⟩
      obtain ⟨n3, hn3⟩ := lf3
      have pg1 : p ≠ g1 := ne_of_none hn3 hg1
      obtain ⟨c2, ec2, cc2⟩ := pick2 (a := V.str "go") (b := V.str "rest") n3
      have hn3' : upd H3 g1 (.lst [.str "go", .str "rest"]) p = some (.lst [.int n3]) := by rw [upd_ne pg1]; exact hn3
      refine ⟨_, rfl, p, n3, 2, rfl, hn3', by decide, log_lit (n := 10) (by decide) (by decide) (by decide), g1, _, _, c2, rfl, rfl, SqL.of (by rw [upd_ne (fun z => pg1 z.symm)]; exact upd_same), ec2, by show 2 ≤ sizeLine; decide, fun t2 ht2 => ?_⟩
      have k3b := keep_same (p := p) (same_new (o := .lst [.str "go", .str "rest"]) hg1)
      have k34 := kp_new (o := .tup [.str "deed", c2]) (kp_dr (o := .lst [.int (n3 / 2)]) k3b) ht2
      have lf4 : Lf (upd (upd (upd H3 g1 (.lst [.str "go", .str "rest"])) p (.lst [.int (n3 / 2)])) t2 (.tup [.str "deed", c2])) p := lf_upd lf_draw (lf_ne lf_draw ht2)
      have pt2 : t2 ≠ p := fun e => lf_ne lf_draw ht2 e.symm
      have et2 : upd (upd (upd H3 g1 (.lst [.str "go", .str "rest"])) p (.lst [.int (n3 / 2)])) t2 (.tup [.str "deed", c2]) t2 = some (.tup [.str "deed", c2]) := upd_same
      generalize upd (upd (upd H3 g1 (.lst [.str "go", .str "rest"])) p (.lst [.int (n3 / 2)])) t2 (.tup [.str "deed", c2]) = H4 at *
      have tl4 := tl3.keep k34 ⟨n3, hn3⟩
      have et14 := k34 _ _ pt1 et1
      refine ⟨by show 2 ≤ sizeLine; decide, fun S hS => ?_⟩
      have pS : p ≠ S := lf_ne lf4 hS
      have k14 := k13.trans k34
      have e4 := k14 _ _ (fun z => p0 z.symm) e1
      have s5 := same_new (o := .lst [.ref t1, .ref t2]) hS
      -- append
      refine ⟨_, rfl, .inl ⟨rfl, _, SqL.of (s5 _ _ e4)⟩, ?_⟩
      have eS : upd H4 S (.lst [.ref t1, .ref t2]) S = some (.lst [.ref t1, .ref t2]) := upd_same
      have lf5 := lf_upd (o := .lst [.ref t1, .ref t2]) lf4 pS
      have tl5 := tl4.mono s5
      have et15 := s5 _ _ et14
      have et25 := s5 _ _ et2
      have e5 := s5 _ _ e4
      have k15 : Keep p H1 (upd H4 S (.lst [.ref t1, .ref t2])) := k14.trans (keep_same s5)
      generalize upd H4 S (.lst [.ref t1, .ref t2]) = H5 at *
      refine ⟨_, rfl, by show 2 ≤ sizeLine; decide, fun g2 hg2 => ?_⟩
      obtain ⟨n5, hn5⟩ := lf5
      have pg2 : p ≠ g2 := ne_of_none hn5 hg2
      obtain ⟨c3, ec3, cc3⟩ := pick2 (a := V.str "least") (b := V.str "above") n5
      obtain ⟨z3, rfl, hz3⟩ : ∃ z3, c3 = V.str z3 ∧ (z3 = "least" ∨ z3 = "above") := by
        rcases cc3 with rfl | rfl
        · exact ⟨_, rfl, .inl rfl⟩
        · exact ⟨_, rfl, .inr rfl⟩
      have hn5' : upd H5 g2 (.lst [.str "least", .str "above"]) p = some (.lst [.int n5]) := by rw [upd_ne pg2]; exact hn5
      refine ⟨_, rfl, p, n5, 2, rfl, hn5', by decide, log_lit (n := 10) (by decide) (by decide) (by decide), g2, _, _, _, rfl, rfl, SqL.of (by rw [upd_ne (fun z => pg2 z.symm)]; exact upd_same), ec3, _, rfl, by show 2 ≤ sizeLine; decide, fun t3 ht3 => ⟨by show 2 ≤ sizeLine; decide, fun t4 ht4 => ⟨by show 1 ≤ sizeLine; decide, fun B hB => ?_⟩⟩⟩
      have k5b := keep_same (p := p) (same_new (o := .lst [.str "least", .str "above"]) hg2)
      have k56 := kp_dr (o := .lst [.int (n5 / 2)]) k5b
      have lf6 : Lf (upd (upd H5 g2 (.lst [.str "least", .str "above"])) p (.lst [.int (n5 / 2)])) p := lf_draw
      generalize upd (upd H5 g2 (.lst [.str "least", .str "above"])) p (.lst [.int (n5 / 2)]) = H6 at *
      have tl6 := tl5.keep k56 ⟨n5, hn5⟩
      have pt3 : t3 ≠ p := fun e => lf_ne lf6 ht3 e.symm
      have lf6a := lf_upd (o := .tup [.str z3, vl]) lf6 (fun e => pt3 e.symm)
      have pt4 : t4 ≠ p := fun e => lf_ne lf6a ht4 e.symm
      have lf6b := lf_upd (o := .tup [.str "wish", .ref t3]) lf6a (fun e => pt4 e.symm)
      have pB : p ≠ B := lf_ne lf6b hB
      have s67 := (same_new (o := .tup [.str z3, vl]) ht3).trans ((same_new (o := .tup [.str "wish", .ref t3]) ht4).trans (same_new (o := .lst [.ref t4]) hB))
      have tw7 : Tp K (upd (upd (upd H6 t3 (.tup [.str z3, vl])) t4 (.tup [.str "wish", .ref t3])) B (.lst [.ref t4])) (.ref t3) (.tuple [.str z3, dLn l]) := by
        refine .tup (SqT.of (((same_new ht4).trans (same_new hB)) _ _ upd_same)) (.cons (.str _) (.cons (tl6.mono s67) .nil))
      have et47 : upd (upd (upd H6 t3 (.tup [.str z3, vl])) t4 (.tup [.str "wish", .ref t3])) B (.lst [.ref t4]) t4 = some (.tup [.str "wish", .ref t3]) := same_new hB _ _ upd_same
      have eB : upd (upd (upd H6 t3 (.tup [.str z3, vl])) t4 (.tup [.str "wish", .ref t3])) B (.lst [.ref t4]) B = some (.lst [.ref t4]) := upd_same
      have lf7 := lf_upd (o := .lst [.ref t4]) lf6b pB
      generalize upd (upd (upd H6 t3 (.tup [.str z3, vl])) t4 (.tup [.str "wish", .ref t3])) B (.lst [.ref t4]) = H7 at *
      have k57 : Keep p H5 H7 := k56.trans (keep_same s67)
      have eS7 := k57 _ _ (fun z => pS z.symm) eS
      refine ⟨S, B, _, _, rfl, rfl, eS7, eB, by show 2 + 1 ≤ sizeLine; decide, fun C hC => ?_⟩
      obtain ⟨n7, hn7⟩ := lf7
      have pC : p ≠ C := ne_of_none hn7 hC
      have s78 := same_new (o := .lst ([.ref t1, .ref t2] ++ [.ref t4])) hC
      have hn8 := s78 _ _ hn7
      have eC : upd H7 C (.lst ([.ref t1, .ref t2] ++ [.ref t4])) C = some (.lst ([.ref t1, .ref t2] ++ [.ref t4])) := upd_same
      have k58 : Keep p H5 (upd H7 C (.lst ([.ref t1, .ref t2] ++ [.ref t4]))) := k57.trans (keep_same s78)
      have tw8 := tw7.mono s78
      have et48 := s78 _ _ et47
      have m0 := Int.emod_nonneg n7 (show (3 : Int) ≠ 0 by decide)
      have m3 := Int.emod_lt_of_pos n7 (show (0 : Int) < 3 by decide)
      obtain ⟨cv, ecv, j, ej⟩ := pick_at (xs := [V.ref t1, V.ref t2, V.ref t4]) m0 m3
      refine ⟨_, rfl, p, n7, 3, rfl, hn8, by decide, log_lit (n := 10) (by decide) (by decide) (by decide), C, _, _, cv, rfl, rfl, SqL.of (by rw [upd_ne (fun z => pC z.symm)]; exact eC), ecv, ?_⟩
      have lf8 : Lf (upd H7 C (.lst ([.ref t1, .ref t2] ++ [.ref t4]))) p := ⟨n7, hn8⟩
      have k59 := kp_dr (o := .lst [.int (n7 / 3)]) k58
      have t4k : Keep p (upd H7 C (.lst ([.ref t1, .ref t2] ++ [.ref t4]))) (upd (upd H7 C (.lst ([.ref t1, .ref t2] ++ [.ref t4]))) p (.lst [.int (n7 / 3)])) := keep_upd
      have tw9 := tw8.keep t4k lf8
      have et49 := t4k _ _ pt4 et48
      have et19 := k59 _ _ pt1 et15
      have et29 := k59 _ _ pt2 et25
      have e9 := k59 _ _ (fun z => p0 z.symm) e5
      have k19 := k15.trans k59
      have lf9 : Lf (upd (upd H7 C (.lst ([.ref t1, .ref t2] ++ [.ref t4]))) p (.lst [.int (n7 / 3)])) p := lf_draw
      generalize upd (upd H7 C (.lst ([.ref t1, .ref t2] ++ [.ref t4]))) p (.lst [.int (n7 / 3)]) = H9 at *
      have fin : ∃ s, SyOk 1 s ∧ Tp K H9 cv (dSy s) := by
        have hm : cv ∈ [V.ref t1, V.ref t2, V.ref t4] := List.mem_of_getElem? ej
        rcases List.mem_cons.mp hm with rfl | hm
        · have hz : (⟨#[c1]⟩ : Str) = "a" ∨ (⟨#[c1]⟩ : Str) = "b" := by
            rcases cc1 with rfl | rfl
            · exact .inl rfl
            · exact .inr rfl
          exact ⟨_, place_ok hz, .tup (SqT.of et19) (.cons (.str _) (.cons (.str _) (.cons (.str _) .nil)))⟩
        rcases List.mem_cons.mp hm with rfl | hm
        · rcases cc2 with rfl | rfl
          · exact ⟨_, deed_ok (.inl rfl), .tup (SqT.of et29) (.cons (.str _) (.cons (.str _) .nil))⟩
          · exact ⟨_, deed_ok (.inr rfl), .tup (SqT.of et29) (.cons (.str _) (.cons (.str _) .nil))⟩
        rcases List.mem_cons.mp hm with rfl | hm
        · exact ⟨_, wish_ok hz3 lo, .tup (SqT.of et49) (.cons (.str _) (.cons tw9 .nil))⟩
        · exact absurd hm List.not_mem_nil
      obtain ⟨s, sok, ts⟩ := fin
      have lu : us.length = ss.length := by rw [tu.len, List.length_map]
      have kk : Keep r0 H9 (upd H9 r0 (.lst (us ++ [cv]))) := keep_upd
      refine ⟨r0, us, cv, rfl, rfl, e9, small1000 (by omega), us ++ [cv], ss ++ [s], _, _, _, rfl, ?_, lf_upd lf9 p0, upd_same, ?_, ?_, by omega, ?_⟩
      · intro b o nb e
        rw [upd_ne (ne_of_none e hr0)]
        exact (k1.trans k19) b o nb e
      · rw [List.map_append]
        exact ((tu.keep k19 lf1).app (.cons ts .nil)).keepL kk ⟨_, e9⟩
      · rw [List.length_append, sl]
        rfl
      · intro s' hs'
        rcases List.mem_append.mp hs' with h | h
        · exact so s' h
        · rw [List.mem_singleton.mp h]
          exact sok
    · obtain ⟨us, ss, x, y, z, rfl, k1, lf1, e1, tu, sl, il, so⟩ := hp
      exact ⟨_, rfl, q H1 r0 us ss k1 lf1 hr0 (fun z => p0 z.symm) e1 tu sl so⟩
end
end W26

namespace W26
open PySem PySem.Spec PyProof.Rows L2 Gs Sf
/-! ### the drawing: a saying -/
def spSaying (K : PySem.W.Frag) (m : Nat) : Sp := fun vs H Q _ => ∃ (p aA : Addr) (k : Int) (us : List V) (ss : List Sy), vs = [.ref p, .ref aA, .int k] ∧ k = (m : Int) ∧ 1 ≤ m ∧ Lf H p ∧ aA ≠ p ∧ H aA = some (.lst us) ∧ TpAll K H us (ss.map dSy) ∧ ss.length ≤ 10 ∧ (∀ s ∈ ss, SyOk 1 s) ∧
  ∀ H' v s, Keep p H H' → Lf H' p → Tp K H' v (dSy s) → SyOk m s → Q v H'
theorem pick3 (i : Int) (h0 : 2 ≤ i) (h1 : i < 5) : ∃ u : Un, atI [V.str "not", V.str "always", V.str "ever"] (i - 2) = some (.str u.s) := by
  have h : i = 2 ∨ i = 3 ∨ i = 4 := by omega
  rcases h with rfl | rfl | rfl
  · exact ⟨.no, rfl⟩
  · exact ⟨.al, rfl⟩
  · exact ⟨.ev, rfl⟩
theorem pick4 (i : Int) (h0 : 5 ≤ i) (h1 : i < 9) : ∃ u : Bi, atI [V.str "and", V.str "or", V.str "until", V.str "until"] (i - 5) = some (.str u.s) := by
  have h : i = 5 ∨ i = 6 ∨ i = 7 ∨ i = 8 := by omega
  rcases h with rfl | rfl | rfl | rfl
  · exact ⟨.an, rfl⟩
  · exact ⟨.or, rfl⟩
  · exact ⟨.un, rfl⟩
  · exact ⟨.un, rfl⟩
section
variable {P : Program} {w : World} {K : PySem.W.Frag} {mg : Str → Option Value} {base : Heap} {f f1 : Addr} {fd d1 : FuncData}
theorem ok_saying (F : Fun K "_law_saying" "_law_saying" sSaying f fd) (g : mg "_law_saying" = some (.ref f)) (kp : PySem.W.keepIn K (.ref f) = true) (bd : Binds K fd ["_law_left_here", "_law_atoms", "_law_deep"] [])
    (D : Cl P w K mg base CX0 1 "_law_digit" ["_law_left_here", "_law_upto"] spDigit f1 d1) (ml : mg "len" = none) : ∀ m, FnOk P w K mg base CX0 (m + 1) f fd ["_law_left_here", "_law_atoms", "_law_deep"] (spSaying K m) := by
  intro m
  induction m with
  | zero =>
    refine F.ok scSaying (fun vs H Q E h => ?_) (fun cdv A outer s H vs Q E hr h => ?_)
    · obtain ⟨p, aA, k, us, ss, rfl, _⟩ := h
      rfl
    · obtain ⟨p, aA, k, us, ss, rfl, _, h0, _⟩ := h
      exact absurd h0 (by decide)
  | succ m IH =>
    refine F.ok scSaying (fun vs H Q E h => ?_) (fun cdv A outer s H vs Q E hr h => ?_)
    · obtain ⟨p, aA, k, us, ss, rfl, _⟩ := h
      rfl
    · obtain ⟨p, aA, k, us, ss, rfl, ek, h0, ⟨n, hn⟩, npa, hA, tu, sl, so, q⟩ := h
      have r1 := hr.mono (j := 1) (by omega)
      have lu : us.length ≤ 10 := by rw [tu.len, List.length_map]; exact sl
      refine ⟨_, pss_cons (ps_set (i := 3) scSaying.nd rfl (.inl rfl) (pe_call D.ok r1 (by rfl) D.g D.kp D.bd .nil pass0 (pa_cons (pv 0) (pa_cons pe_int pa_nil))))
        (pss_cons (ps_if (PW.pt (pw_or (pt_cmpR op_eq (pv 2) pe_int (nomark _)) (pw_or1 (pt_cmpR op_lt (pv 3) pe_int (nomark _)))))
          (pss_one (ps_ret (pe_ix ix_list (pe_op op_cat (pv 1) (pe_lst (pa_cons (pe_tup (pa_cons pe_str pa_nil)) pa_nil))) (pe_call D.ok r1 (by rfl) D.g D.kp D.bd .nil pass0 (pa_cons (pv 0) (pa_cons (pe_op op_add (pe_callB call_len_seq (by rfl) ml PySem.boot_len (pa_cons (pv 1) pa_nil)) pe_int) pa_nil))) (fun _ _ => rfl)))) pss_nil)
        (pss_cons (ps_if (pt_cmpR op_lt (pv 3) pe_int (nomark _))
          (pss_one (ps_ret (pe_tup (pa_cons (pe_ix ix_list (pe_lst (pa_cons pe_str (pa_cons pe_str (pa_cons pe_str pa_nil)))) (pe_op op_sub (pv 3) pe_int) (fun _ _ => rfl)) (pa_cons (pe_call IH hr (by rfl) g kp bd .nil pass0 (pa_cons (pv 0) (pa_cons (pv 1) (pa_cons (pe_op op_sub (pv 2) pe_int) pa_nil)))) pa_nil))))) pss_nil)
        (pss_cons (ps_set (i := 4) scSaying.nd rfl (.inl rfl) (pe_ix ix_list (pe_lst (pa_cons pe_str (pa_cons pe_str (pa_cons pe_str (pa_cons pe_str pa_nil))))) (pe_op op_sub (pv 3) pe_int) (fun _ _ => rfl)))
        (pss_one (ps_ret (pe_tup (pa_cons (pv 4) (pa_cons (pe_call IH hr (by rfl) g kp bd .nil pass0 (pa_cons (pv 0) (pa_cons (pv 1) (pa_cons (pe_op op_sub (pv 2) pe_int) pa_nil)))) (pa_cons (pe_call IH hr (by rfl) g kp bd .nil pass0 (pa_cons (pv 0) (pa_cons (pv 1) (pa_cons (pe_op op_sub (pv 2) pe_int) pa_nil)))) pa_nil))))))))), ?_⟩
      refine ⟨_, rfl, p, n, 9, rfl, hn, by decide, log_lit (n := 10) (by decide) (by decide) (by decide), ?_⟩
      have k2 : Keep p H (upd H p (.lst [.int (n / 9)])) := keep_upd
      have hp2 : upd H p (.lst [.int (n / 9)]) p = some (.lst [.int (n / 9)]) := upd_same
      have hA2 := k2 _ _ npa hA
      have tu2 := tu.keep k2 ⟨n, hn⟩
      generalize upd H p (.lst [.int (n / 9)]) = H2 at *
      have w0 := Int.emod_nonneg n (show (9 : Int) ≠ 0 by decide)
      have w9 := Int.emod_lt_of_pos n (show (0 : Int) < 9 by decide)
      refine ⟨_, rfl, rfl, _, rfl, ite2 (fun _ => ?_) (fun hne => ?_)⟩
      · refine ⟨_, rfl, by show 1 ≤ sizeLine; decide, fun ty hty => ⟨by show 1 ≤ sizeLine; decide, fun B hB => ⟨aA, B, _, _, rfl, rfl, same_new hB _ _ (same_new hty _ _ hA2), upd_same, by show us.length + 1 ≤ sizeLine; exact small1000 (by omega), fun C hC => ?_⟩⟩⟩
        have s3 := (same_new (o := .tup [.str "yes"]) hty).trans ((same_new (o := .lst [.ref ty]) hB).trans (same_new (o := .lst (us ++ [.ref ty])) hC))
        have hty3 := ((same_new (o := .lst [.ref ty]) hB).trans (same_new (o := .lst (us ++ [.ref ty])) hC)) _ _ (upd_same (H := H2) (a := ty) (o := .tup [.str "yes"]))
        have eC : upd (upd (upd H2 ty (.tup [.str "yes"])) B (.lst [.ref ty])) C (.lst (us ++ [.ref ty])) C = some (.lst (us ++ [.ref ty])) := upd_same
        generalize upd (upd (upd H2 ty (.tup [.str "yes"])) B (.lst [.ref ty])) C (.lst (us ++ [.ref ty])) = H3 at *
        have hp3 := s3 _ _ hp2
        have hA3 := s3 _ _ hA2
        have tu3 := tu2.mono s3
        have pC : p ≠ C := fun e => by
          rw [e, eC] at hp3
          cases us with
          | nil => cases hp3
          | cons u r => cases r <;> cases hp3
        refine ⟨_, rfl, _, rfl, aA, _, rfl, .inl (SqL.of hA3), _, _, rfl, rfl, p, _, _, rfl, hp3, by omega, log_lit (n := 10) (by decide) (by decide) (by omega), ?_⟩
        have m0 := Int.emod_nonneg (n / 9) (show ((us.length : Int) + 1) ≠ 0 by omega)
        have m3 := Int.emod_lt_of_pos (n / 9) (show (0 : Int) < (us.length : Int) + 1 by omega)
        obtain ⟨cv, ecv, j, ej⟩ := pick_at (xs := us ++ [V.ref ty]) m0 (by rw [List.length_append]; exact m3)
        refine ⟨C, _, _, cv, rfl, rfl, SqL.of (by rw [upd_ne (fun z => pC z.symm)]; exact eC), ecv, ?_⟩
        have kk : Keep p H3 (upd H3 p (.lst [.int (n / 9 / ((us.length : Int) + 1))])) := keep_upd
        have fin : ∃ s, SyOk 1 s ∧ Tp K H3 cv (dSy s) := by
          by_cases hj : j < us.length
          · rw [List.getElem?_append_left hj] at ej
            obtain ⟨s, _, hm, ts⟩ := tpAll_map tu3 ej
            exact ⟨s, so s hm, ts⟩
          · rw [List.getElem?_append_right (by omega)] at ej
            have hm : cv ∈ [V.ref ty] := List.mem_of_getElem? ej
            rw [List.mem_singleton.mp hm]
            exact ⟨.yes, .yes, .tup (SqT.of hty3) (.cons (.str _) .nil)⟩
        obtain ⟨s, sok, ts⟩ := fin
        exact q _ _ s ((k2.trans (keep_same s3)).trans kk) lf_draw (ts.keep kk ⟨_, hp3⟩) (sok.mono (by omega))
      · have hm1 : 1 ≤ m := by
          cases m with
          | zero => exact absurd (show decide (V.int k = V.int 1) = true by rw [ek]; rfl) hne
          | succ m => omega
        refine ⟨_, rfl, _, _, rfl, rfl, _, rfl, ite2 (fun _ => ?_) (fun hlt => ?_)⟩
        · refine ⟨_, rfl, by show 1 ≤ sizeLine; decide, fun ty hty => ⟨by show 1 ≤ sizeLine; decide, fun B hB => ⟨aA, B, _, _, rfl, rfl, same_new hB _ _ (same_new hty _ _ hA2), upd_same, by show us.length + 1 ≤ sizeLine; exact small1000 (by omega), fun C hC => ?_⟩⟩⟩
          have s3 := (same_new (o := .tup [.str "yes"]) hty).trans ((same_new (o := .lst [.ref ty]) hB).trans (same_new (o := .lst (us ++ [.ref ty])) hC))
          have hty3 := ((same_new (o := .lst [.ref ty]) hB).trans (same_new (o := .lst (us ++ [.ref ty])) hC)) _ _ (upd_same (H := H2) (a := ty) (o := .tup [.str "yes"]))
          have eC : upd (upd (upd H2 ty (.tup [.str "yes"])) B (.lst [.ref ty])) C (.lst (us ++ [.ref ty])) C = some (.lst (us ++ [.ref ty])) := upd_same
          generalize upd (upd (upd H2 ty (.tup [.str "yes"])) B (.lst [.ref ty])) C (.lst (us ++ [.ref ty])) = H3 at *
          have hp3 := s3 _ _ hp2
          have hA3 := s3 _ _ hA2
          have tu3 := tu2.mono s3
          have pC : p ≠ C := fun e => by
            rw [e, eC] at hp3
            cases us with
            | nil => cases hp3
            | cons u r => cases r <;> cases hp3
          refine ⟨_, rfl, _, rfl, aA, _, rfl, .inl (SqL.of hA3), _, _, rfl, rfl, p, _, _, rfl, hp3, by omega, log_lit (n := 10) (by decide) (by decide) (by omega), ?_⟩
          have m0 := Int.emod_nonneg (n / 9) (show ((us.length : Int) + 1) ≠ 0 by omega)
          have m3 := Int.emod_lt_of_pos (n / 9) (show (0 : Int) < (us.length : Int) + 1 by omega)
          obtain ⟨cv, ecv, j, ej⟩ := pick_at (xs := us ++ [V.ref ty]) m0 (by rw [List.length_append]; exact m3)
          refine ⟨C, _, _, cv, rfl, rfl, SqL.of (by rw [upd_ne (fun z => pC z.symm)]; exact eC), ecv, ?_⟩
          have kk : Keep p H3 (upd H3 p (.lst [.int (n / 9 / ((us.length : Int) + 1))])) := keep_upd
          have fin : ∃ s, SyOk 1 s ∧ Tp K H3 cv (dSy s) := by
            by_cases hj : j < us.length
            · rw [List.getElem?_append_left hj] at ej
              obtain ⟨s, _, hm, ts⟩ := tpAll_map tu3 ej
              exact ⟨s, so s hm, ts⟩
            · rw [List.getElem?_append_right (by omega)] at ej
              have hm : cv ∈ [V.ref ty] := List.mem_of_getElem? ej
              rw [List.mem_singleton.mp hm]
              exact ⟨.yes, .yes, .tup (SqT.of hty3) (.cons (.str _) .nil)⟩
          obtain ⟨s, sok, ts⟩ := fin
          exact q _ _ s ((k2.trans (keep_same s3)).trans kk) lf_draw (ts.keep kk ⟨_, hp3⟩) (sok.mono (by omega))
        · have h2 : 2 ≤ n % 9 := by
            have : ¬ n % 9 < 2 := fun z => hlt (decide_eq_true z)
            omega
          refine ⟨_, rfl, _, _, rfl, rfl, _, rfl, ite2 (fun hl5 => ?_) (fun hl5 => ?_)⟩
          · have h5 : n % 9 < 5 := of_decide_eq_true hl5
            obtain ⟨u, eu⟩ := pick3 _ h2 h5
            refine ⟨by show 3 ≤ sizeLine; decide, fun B hB => ⟨_, rfl, _, _, rfl, rfl, B, _, _, _, rfl, rfl, SqL.of upd_same, eu, ?_⟩⟩
            have s3 := same_new (o := .lst [.str "not", .str "always", .str "ever"]) hB
            refine ⟨_, rfl, _, rfl, _, rfl, _, _, rfl, rfl, p, aA, _, us, ss, rfl, by omega, hm1, ⟨_, s3 _ _ hp2⟩, npa, s3 _ _ hA2, tu2.mono s3, sl, so, fun H' v s k3 lf3 tv ok => ⟨by show 2 ≤ sizeLine; decide, fun t ht => ?_⟩⟩
            exact q _ _ (.un u s) ((k2.trans (keep_same s3)).trans (k3.trans (keep_same (same_new ht)))) (lf_upd lf3 (lf_ne lf3 ht)) (.tup (SqT.of upd_same) (.cons (.str _) (.cons (tv.mono (same_new ht)) .nil))) (.un ok)
          · have h5 : 5 ≤ n % 9 := by
              have : ¬ n % 9 < 5 := fun z => hl5 (decide_eq_true z)
              omega
            obtain ⟨u, eu⟩ := pick4 _ h5 w9
            refine ⟨by show 4 ≤ sizeLine; decide, fun B hB => ⟨_, rfl, _, _, rfl, rfl, B, _, _, _, rfl, rfl, SqL.of upd_same, eu, ?_⟩⟩
            have s3 := same_new (o := .lst [.str "and", .str "or", .str "until", .str "until"]) hB
            refine ⟨_, rfl, _, rfl, _, rfl, _, rfl, _, _, rfl, rfl, p, aA, _, us, ss, rfl, by omega, hm1, ⟨_, s3 _ _ hp2⟩, npa, s3 _ _ hA2, tu2.mono s3, sl, so, fun H3 v s k3 lf3 tv ok => ?_⟩
            have hA3 := k3 _ _ npa (s3 _ _ hA2)
            have tu3 := (tu2.mono s3).keep k3 ⟨_, s3 _ _ hp2⟩
            refine ⟨_, rfl, _, rfl, _, rfl, _, _, rfl, rfl, p, aA, _, us, ss, rfl, by omega, hm1, lf3, npa, hA3, tu3, sl, so, fun H4 v2 s2 k4 lf4 tv2 ok2 => ⟨by show 3 ≤ sizeLine; decide, fun t ht => ?_⟩⟩
            exact q _ _ (.bi u s s2) ((k2.trans (keep_same s3)).trans (k3.trans (k4.trans (keep_same (same_new ht))))) (lf_upd lf4 (lf_ne lf4 ht)) (.tup (SqT.of upd_same) (.cons (.str _) (.cons ((tv.keep k4 lf3).mono (same_new ht)) (.cons (tv2.mono (same_new ht)) .nil)))) (.bi ok ok2)
end
end W26

namespace W26
open PySem PySem.Spec PyProof.Rows L2 Gs Sf
abbrev NL : List Str := ["_law_script", "_law_cell", "_law_left_here", "_law_atoms", "_law_turn", "_law_saying_here", "_law_own", "_law_dues", "_law_form", "_law_found", "_law_truth"]
theorem scLaw : FnScope NL ["_law_script"] (defScope sLaw) := ⟨rfl, rfl, rfl, by decide +kernel, rfl, by decide +kernel, by decide +kernel⟩
theorem cut_mem {xs : List V} {lo hi : Option Int} {x : V} (h : x ∈ cutV xs lo hi) : x ∈ xs := List.mem_of_mem_drop (List.mem_of_mem_take h)
theorem same_of_keep {p : Addr} {H H' : Hp} (h : H p = none) (k : Keep p H H') : Same H H' := fun b o e => k b o (ne_of_none e h) e
theorem eqv_nf {d : PyData} (h : SeqAt.shaped d = true) : (!PyData.eqv d d) = false := by
  rw [SeqAt.eqv_refl d (SeqAt.canLay_of_shaped h)]
  rfl
theorem atoms_not {s : Sy} : atomsOf (.un .no s) = atomsOf s := by
  rw [atomsOf, merge_nil]
section
variable {P : Program} {w : World} {K : PySem.W.Frag} {mg : Str → Option Value} {base : Heap} {f1 f2 f3 f4 f5 f6 f7 f8 f9 f10 : Addr} {d1 d2 d3 d4 d5 d6 d7 d8 d9 d10 : FuncData}
theorem law_body (LF : Cl P w K mg base CX0 1 "_law_left" ["_law_cell"] spLeft f1 d1) (DR : Cl P w K mg base CX0 4 "_law_atoms_drawn" ["_law_left_here", "_law_many"] (spDrawn K) f2 d2)
    (SA : Cl P w K mg base CX0 6 "_law_saying" ["_law_left_here", "_law_atoms", "_law_deep"] (spSaying K 5) f3 d3) (AI : Cl P w K mg base CX0 6 "_law_atoms_in" ["_law_saying_here"] (spAtoms K 5) f4 d4)
    (FO : Cl P w K mg base CX0 11 "_law_formed" ["_law_saying_here", "_law_truth", "_law_atoms"] (spFormed K 5) f5 d5) (LU : Cl P w K mg base CX0 8 "_law_untils" ["_law_form"] (spUntils K 6) f6 d6)
    (NF : Cl P w K mg base CX0 8 "normal_form" ["saying"] (spNf K 6 true) f7 d7) (CF : Cl P w K mg base CX0 8 "contrary_form" ["saying"] (spNf K 6 false) f8 d8) (UI : Cl P w K mg base CX0 8 "untils_in" ["form"] (spUntils K 6) f9 d9)
    (mr : mg "range" = none) (mi : mg "isinstance" = none) (ml : mg "list" = none)
    {cdv : Value} {A : Around} {outer : List Env} {s : Shared} {H : Hp} {E : XK} {f : Addr} {a : Addr} {ns : List Int}
    (hr : Room 11 (A.deeper (envOfC "law" (defScope sLaw) s.heap.objs.size f cdv))) (hS : SqL K H a (ns.map V.int)) (hn : ns.length ≤ 63) :
    ∃ t, PSs (cxOf CX0 P w K mg base NL "law" (defScope sLaw) f cdv A outer s H E).nox (defBody sLaw) t ∧ t { nx := fun _ _ => V.non = .bl true, rt := fun v _ => v = .bl true } (L2.start NL [.ref a]) H := by
  have r1 := hr.mono (j := 1) (by decide)
  have r4 := hr.mono (j := 4) (by decide)
  have r6 := hr.mono (j := 6) (by decide)
  have r8 := hr.mono (j := 8) (by decide)
  refine ⟨_, pss_cons (ps_for PassesOwn.never rfl (pi_list (pe_op op_cat (pe_slice sl_list (pv 0) po_none (po_some pe_int)) (pe_lst (pa_cons pe_int pa_nil)))) (pg_name (i := 1) scLaw.nd rfl (Or.inl rfl))
      (pss_cons (ps_set (i := 2) scLaw.nd rfl (.inl rfl) (pe_call LF.ok r1 (by rfl) LF.g LF.kp LF.bd .nil pass0 (pa_cons (pv 1) pa_nil)))
      (pss_cons (ps_set (i := 3) scLaw.nd rfl (.inl rfl) (pe_call DR.ok r4 (by rfl) DR.g DR.kp DR.bd .nil pass0 (pa_cons (pv 2) (pa_cons pe_int pa_nil))))
      (pss_one (ps_for PassesOwn.never rfl (pi_range1 (by rfl) mr (pa_cons pe_int pa_nil)) (pg_name (i := 4) scLaw.nd rfl (Or.inl rfl))
        (pss_cons (ps_set (i := 5) scLaw.nd rfl (.inr rfl) (pe_call SA.ok r6 (by rfl) SA.g SA.kp SA.bd .nil pass0 (pa_cons (pv 2) (pa_cons (pv 3) (pa_cons pe_int pa_nil)))))
        (pss_cons (ps_set (i := 6) scLaw.nd rfl (.inr rfl) (pe_call AI.ok r6 (by rfl) AI.g AI.kp AI.bd .nil pass0 (pa_cons (pv 5) pa_nil)))
        (pss_cons (ps_setLc (i := 7) (own := [("_law_truth", 10)]) (g := gName 10) (tt := tYes) rfl scLaw.nd rfl rfl (sw_true rfl rfl rfl rfl) (pi_tup (pe_tup (pa_cons pe_bl (pa_cons pe_bl pa_nil)))) (blkOk_by (own := [("_law_truth", 10)]) (N := NL) (sc := defScope sLaw) (by decide +kernel))
              (fun _ _ _ _ _ => pg_name (i := 10) scLaw.nd rfl (Or.inl rfl)) (fun _ _ _ _ _ => pts_nil)
              (fun _ _ _ _ _ => pe_call FO.ok hr (by rfl) FO.g FO.kp FO.bd .nil pass0 (pa_cons (pv 5) (pa_cons (pv 10) (pa_cons (pv 6) pa_nil)))))
        (pss_cons (ps_if (pt_cmpR (op_neD hr.units) (pe_lst (pa_cons (pe_call NF.ok r8 (by rfl) NF.g NF.kp NF.bd .nil pass0 (pa_cons (pv 5) pa_nil)) (pa_cons (pe_call CF.ok r8 (by rfl) CF.g CF.kp CF.bd .nil pass0 (pa_cons (pv 5) pa_nil)) pa_nil))) (pv 7) (nomark _)) (pss_one (ps_ret pe_bl)) pss_nil)
        (pss_cons (ps_if (pt_cmpR (op_neD hr.units) (pe_lst (pa_cons (pe_call CF.ok r8 (by rfl) CF.g CF.kp CF.bd .nil pass0 (pa_cons (pe_tup (pa_cons pe_str (pa_cons (pv 5) pa_nil))) pa_nil)) (pa_cons (pe_call NF.ok r8 (by rfl) NF.g NF.kp NF.bd .nil pass0 (pa_cons (pe_tup (pa_cons pe_str (pa_cons (pv 5) pa_nil))) pa_nil)) pa_nil))) (pv 7) (nomark _)) (pss_one (ps_ret pe_bl)) pss_nil)
        (pss_one (ps_for PassesOwn.never rfl (pi_list (pv 7)) (pg_name (i := 8) scLaw.nd rfl (Or.inl rfl))
          (pss_cons (ps_set (i := 9) scLaw.nd rfl (.inl rfl) (pe_call UI.ok r8 (by rfl) UI.g UI.kp UI.bd .nil pass0 (pa_cons (pv 8) pa_nil)))
          (pss_cons (ps_if (PW.pt (pw_or (pt_not (pt_val (pe_callB call_isi (by rfl) mi (by decide +kernel) (pa_cons (pv 9) (pa_cons (pe_bltn (v := .ty "list") (by rfl) ml (by decide +kernel) rfl) pa_nil)))))
              (pw_or1 (pt_cmpR (op_neD hr.units) (pv 9) (pe_call LU.ok r8 (by rfl) LU.g LU.kp LU.bd .nil pass0 (pa_cons (pv 8) pa_nil)) (nomark _))))) (pss_one (ps_ret pe_bl)) pss_nil)
          (pss_cons (ps_expr (pe_bm PySem.F.plainAttrs_list PySem.F.slot_list_append PySem.F.type_list_append mt_append (pv 9) (pa_cons pe_non pa_nil)))
          (pss_one (ps_if (pt_cmpR (op_neD hr.units) (pe_call UI.ok r8 (by rfl) UI.g UI.kp UI.bd .nil pass0 (pa_cons (pv 8) pa_nil)) (pe_call LU.ok r8 (by rfl) LU.g LU.kp LU.bd .nil pass0 (pa_cons (pv 8) pa_nil)) (nomark _)) (pss_one (ps_ret pe_bl)) pss_nil)))))))))))))))))
    (pss_one (ps_ret (pe_and (pe_cmpR (op_eqD hr.units) (pe_call NF.ok r8 (by rfl) NF.g NF.kp NF.bd .nil pass0 (pa_cons (pe_tup (pa_cons pe_str pa_nil)) pa_nil)) (pe_tup (pa_cons pe_str pa_nil)) (nomark _))
      (pe_one (pe_cmpR (op_eqD hr.units) (pe_call CF.ok r8 (by rfl) CF.g CF.kp CF.bd .nil pass0 (pa_cons (pe_tup (pa_cons pe_str (pa_cons (pe_tup (pa_cons pe_str pa_nil)) pa_nil))) pa_nil)) (pe_tup (pa_cons pe_str (pa_cons (pe_tup (pa_cons pe_str pa_nil)) (pa_cons (pe_tup (pa_cons pe_str pa_nil)) pa_nil)))) (nomark _)))))), ?_⟩
  refine ⟨_, rfl, 16, rfl, a, _, rfl, hS, fun S0 hS0 => ?_⟩
  refine ⟨by show 1 ≤ sizeLine; decide, fun B hB => ?_⟩
  have cl : (cutV (ns.map V.int) none (some 16)).length ≤ 63 := Nat.le_trans (cutV_length _ _ _) (by rw [List.length_map]; exact hn)
  refine ⟨S0, B, _, _, rfl, rfl, same_new hB _ _ upd_same, upd_same, by show _ + 1 ≤ sizeLine; exact small1000 (by omega), fun C hC => ?_⟩
  have allint : ∀ x ∈ cutV (ns.map V.int) none (some 16) ++ [V.int 4], ∃ c : Int, x = .int c := fun x hx => by
    rcases List.mem_append.mp hx with h | h
    · obtain ⟨c, _, e⟩ := List.mem_map.mp (cut_mem h)
      exact ⟨c, e.symm⟩
    · exact ⟨4, List.mem_singleton.mp h⟩
  have hC1 : upd (upd (upd H S0 (.lst (cutV (ns.map V.int) none (some 16)))) B (.lst [.int 4])) C (.lst (cutV (ns.map V.int) none (some 16) ++ [.int 4])) C = some (.lst (cutV (ns.map V.int) none (some 16) ++ [.int 4])) := upd_same
  generalize cutV (ns.map V.int) none (some 16) ++ [V.int 4] = cs at *
  generalize upd (upd (upd H S0 (.lst (cutV (ns.map V.int) none (some 16)))) B (.lst [.int 4])) C (.lst cs) = H1 at *
  refine ⟨C, rfl, ⟨_, SqL.of hC1⟩, for_list (K := K) (xs := cs) (fun i σ H' => Same H1 H' ∧ ∃ x1 x2 x3 x4 x5 x6 x7 x8 x9 x10, σ = [some (.ref a), x1, x2, x3, x4, x5, x6, x7, x8, x9, x10])
    ⟨Same.refl _, _, _, _, _, _, _, _, _, _, _, rfl⟩ (fun i σ H' _ hp => SqL.of (hp.1 _ _ hC1)) (fun i x σ H2 hx hp => ?_) (fun σ H2 hp => ?_)⟩
  · obtain ⟨sm, x1, x2, x3, x4, x5, x6, x7, x8, x9, x10, rfl⟩ := hp
    obtain ⟨c, rfl⟩ := allint x (List.mem_of_getElem? hx)
    refine ⟨_, rfl, c, rfl, fun p n hp => ?_⟩
    have s2 := same_new (o := .lst [.int n]) hp
    refine ⟨_, rfl, p, rfl, ⟨n, upd_same⟩, fun H4 aA us ss k4 lf4 haA napp eA tA ssl sso => ?_⟩
    have hp1 : H1 p = none := free_same sm hp
    have k14 : Keep p H1 H4 := (keep_same (sm.trans s2)).trans k4
    refine ⟨4, rfl, by decide, by decide, for_range (n := 4) (fun i σ H' => ∃ y4 y5 y6 y7 y8 y9 y10, σ = [some (.ref a), some (.int c), some (.ref p), some (.ref aA), y4, y5, y6, y7, y8, y9, y10] ∧ Keep p H4 H' ∧ Lf H' p)
      ⟨_, _, _, _, _, _, _, rfl, fun _ _ _ e => e, lf4⟩ (fun i σ H5 hi hp => ?_) (fun σ H5 hp => ?_)⟩
    · obtain ⟨y4, y5, y6, y7, y8, y9, y10, rfl, k5, lf5⟩ := hp
      refine ⟨_, rfl, _, rfl, p, aA, 5, us, ss, rfl, rfl, by decide, lf5, napp, k5 _ _ napp eA, tA.keep k5 lf4, by omega, sso, fun H6 v sy k6 lf6 tv ok => ?_⟩
      refine ⟨_, rfl, v, sy, rfl, tv, ok, fun H7 ro uo s7 _ eo to => ?_⟩
      have ao := atoms_pl ok
      -- the dues
      refine ⟨by show 2 ≤ sizeLine; decide, fun T hT => ⟨T, rfl, ⟨_, SqT.of upd_same⟩, fun D hD => ?_⟩⟩
      have sT := same_new (o := .tup [.bl true, .bl false]) hT
      have nT : T ≠ D := ne_of_none upd_same hD
      have hDH := free_same sT hD
      refine lc_tup (K := K) (xs := [.bl true, .bl false]) (fun i H' => ∃ ws, H' D = some (.lst ws) ∧ Same H7 H' ∧ TpAll K H' ws (([true, false].take i).map fun b => dFm (fm (atomsOf sy) sy b)) ∧ SqT K H' T [.bl true, .bl false])
          ⟨[], upd_same, sT.trans (same_new hD), .nil, SqT.of (by rw [upd_ne nT]; exact upd_same)⟩ (fun i H' _ hp => ?_) (fun i x H' hx hp => ?_) (fun H8 hp => ?_)
      · obtain ⟨ws, _, _, _, h⟩ := hp
        exact h
      · obtain ⟨ws, hD1, sm8, tw, sT1⟩ := hp
        have bx : ∃ b, [true, false][i]? = some b ∧ x = .bl b := by
          have e : ([true, false].map V.bl)[i]? = some x := hx
          rw [List.getElem?_map] at e
          cases eb : [true, false][i]? with
          | none => rw [eb] at e; cases e
          | some b =>
            rw [eb] at e
            cases e
            exact ⟨b, rfl, rfl⟩
        obtain ⟨b, eb, rfl⟩ := bx
        have il : i < 2 := (List.getElem?_eq_some_iff.mp eb).1
        refine ⟨rfl, ?_⟩
        refine ⟨_, rfl, _, rfl, _, rfl, v, ro, b, sy, uo, atomsOf sy, rfl, tv.mono (s7.trans sm8), ok, sm8 _ _ eo, to.mono sm8, ao, has_own ok, fun H9 r sm9 tr => ?_⟩
        have e2 := sm9 _ _ hD1
        have lw := tw.len
        rw [List.length_map, List.length_take] at lw
        refine ⟨ws, e2, small1000 (by omega), ws ++ [r], upd_same, fun b o e => ?_, ?_, keepTL keep_upd ⟨_, e2⟩ (same_tup sm9 sT1)⟩
        · rw [upd_ne (ne_of_none e hDH)]
          exact sm9 _ _ (sm8 _ _ e)
        · rw [map_take eb]
          exact ((tw.mono sm9).app (.cons tr .nil)).keepL keep_upd ⟨_, e2⟩
      · obtain ⟨ws, eD, s8, tw, _⟩ := hp
        have tw' : TpAll K H8 ws [dFm (fm (atomsOf sy) sy true), dFm (fm (atomsOf sy) sy false)] := tw
        have s68 := s7.trans s8
        have fpl : ∀ b, Pl 6 (dFm (fm (atomsOf sy) sy b)) := fun b => fm_pl (fm_ok ok b)
        have dues_sh : SeqAt.shaped (.list [dFm (fm (atomsOf sy) sy true), dFm (fm (atomsOf sy) sy false)]) = true := shaped_list (n := 6) (fun d hd => by
          rcases List.mem_cons.mp hd with e | hd
          · rw [e]; exact fpl true
          · rw [List.mem_singleton.mp hd]; exact fpl false) (by decide)
        have ok6 := ok.mono (show 5 ≤ 6 by decide)
        -- the first look
        refine ⟨_, rfl, v, sy, rfl, tv.mono s68, ok6, fun H9 v1 s9 t1 => ?_⟩
        refine ⟨_, rfl, v, sy, rfl, (tv.mono s68).mono s9, ok6, fun H10 v2 s10 t2 => ⟨by show 2 ≤ sizeLine; decide, fun l1 hl1 => ?_⟩⟩
        have s8a := (s9.trans s10).trans (same_new (o := .lst [v1, v2]) hl1)
        refine ⟨_, rfl, _, _, .lst (SqL.of upd_same) (.cons ((t1.mono s10).mono (same_new hl1)).dp (.cons (t2.mono (same_new hl1)).dp .nil)), .lst (SqL.of (s8a _ _ eD)) (tw'.mono s8a).dp, dues_sh, dues_sh, _, rfl, iteN (eqv_nf dues_sh) ?_⟩
        generalize upd H10 l1 (.lst [v1, v2]) = H11 at *
        -- the second look
        refine ⟨_, rfl, by show 2 ≤ sizeLine; decide, fun t3 ht3 => ?_⟩
        have s3 := same_new (o := .tup [.str "not", v]) ht3
        refine ⟨_, .un .no sy, rfl, .tup (SqT.of upd_same) (.cons (.str _) (.cons (tv.mono (s68.trans (s8a.trans s3))) .nil)), .un ok, fun H12 v3 s12 tv3 => ?_⟩
        refine ⟨_, rfl, by show 2 ≤ sizeLine; decide, fun t4 ht4 => ?_⟩
        have s4 := same_new (o := .tup [.str "not", v]) ht4
        refine ⟨_, .un .no sy, rfl, .tup (SqT.of upd_same) (.cons (.str _) (.cons (tv.mono (s68.trans (s8a.trans (s3.trans (s12.trans s4))))) .nil)), .un ok, fun H13 v4 s13 tv4 => ⟨by show 2 ≤ sizeLine; decide, fun l2 hl2 => ?_⟩⟩
        rw [atoms_not, fm_not] at tv3 tv4
        have s5 := same_new (o := .lst [v3, v4]) hl2
        have s8b := s8a.trans (s3.trans (s12.trans (s4.trans (s13.trans s5))))
        refine ⟨_, rfl, _, _, .lst (SqL.of upd_same) (.cons (tv3.mono (s4.trans (s13.trans s5))).dp (.cons (tv4.mono s5).dp .nil)), .lst (SqL.of (s8b _ _ eD)) (tw'.mono s8b).dp, dues_sh, dues_sh, _, rfl, iteN (eqv_nf dues_sh) ?_⟩
        have tw14 := tw'.mono s8b
        have eD14 := s8b _ _ eD
        generalize upd H13 l2 (.lst [v3, v4]) = H14 at *
        have s614 := s68.trans s8b
        -- the untils
        refine ⟨_, rfl, D, rfl, ⟨_, SqL.of eD14⟩, for_list (K := K) (xs := ws) (fun i σ H' => ∃ y4 z8 z9 z10, σ = [some (.ref a), some (.int c), some (.ref p), some (.ref aA), y4, some v, some (.ref ro), some (.ref D), z8, z9, z10] ∧ Same H14 H')
          ⟨_, _, _, _, rfl, Same.refl _⟩ (fun i σ H' _ hp => ?_) (fun i x σ H15 hx hp => ?_) (fun σ H15 hp => ?_)⟩
        · obtain ⟨_, _, _, _, _, h⟩ := hp
          exact SqL.of (h _ _ eD14)
        · obtain ⟨y4, z8, z9, z10, rfl, s15⟩ := hp
          have tx : ∃ b, Tp K H14 x (dFm (fm (atomsOf sy) sy b)) := by
            obtain ⟨d, ed, tx⟩ := tw14.at hx
            rcases List.mem_cons.mp (List.mem_of_getElem? ed) with e | hd
            · exact ⟨true, by rw [← e]; exact tx⟩
            · exact ⟨false, by rw [← List.mem_singleton.mp hd]; exact tx⟩
          obtain ⟨b, tx⟩ := tx
          have fok := fm_ok (ds := atomsOf sy) ok b
          have ush : SeqAt.shaped (.list (untilsOf (fm (atomsOf sy) sy b))) = true := shaped_list (untils_pl fok) (by decide)
          refine ⟨_, rfl, x, _, rfl, tx.mono s15, fok, fun H16 r1 u1 s16 hr1 e1 tu1 => ?_⟩
          refine ⟨_, rfl, _, _, _, _, true, rfl, .ty _, .base (.lst e1), kit_ty (by decide +kernel), _, rfl, iteF ?_⟩
          refine ⟨_, rfl, _, rfl, x, _, rfl, tx.mono (s15.trans s16), fok, fun H17 r2 u2 s17 hr2 e2 tu2 => ?_⟩
          refine ⟨_, _, .lst (SqL.of (s17 _ _ e1)) (tu1.mono s17).dp, .lst (SqL.of e2) tu2.dp, ush, ush, _, rfl, iteN (eqv_nf ush) ?_⟩
          refine ⟨_, rfl, .inl ⟨rfl, _, SqL.of (s17 _ _ e1)⟩, ?_⟩
          have ul : u1.length ≤ 1000 := by
            have := untils_len fok
            rw [tu1.len]
            omega
          refine ⟨r1, u1, .non, rfl, rfl, s17 _ _ e1, small1000 ul, ?_⟩
          have s18 : Same H15 (upd H17 r1 (.lst (u1 ++ [.non]))) := fun b o e => by
            rw [upd_ne (ne_of_none e hr1)]
            exact s17 _ _ (s16 _ _ e)
          generalize upd H17 r1 (.lst (u1 ++ [.non])) = H18 at *
          refine ⟨_, rfl, x, _, rfl, tx.mono (s15.trans s18), fok, fun H19 r3 u3 s19 hr3 e3 tu3 => ?_⟩
          refine ⟨_, rfl, x, _, rfl, tx.mono (s15.trans (s18.trans s19)), fok, fun H20 r4' u4 s20 hr4 e4 tu4 => ?_⟩
          refine ⟨_, _, .lst (SqL.of (s20 _ _ e3)) (tu3.mono s20).dp, .lst (SqL.of e4) tu4.dp, ush, ush, _, rfl, iteN (eqv_nf ush) ?_⟩
          exact ⟨_, _, _, _, rfl, s15.trans (s18.trans (s19.trans s20))⟩
        · obtain ⟨y4, z8, z9, z10, rfl, s15⟩ := hp
          obtain ⟨n6, e6⟩ := lf6
          exact ⟨_, _, _, _, _, _, _, rfl, (k5.trans k6).trans (keep_same (s614.trans s15)), ⟨n6, (s614.trans s15) _ _ e6⟩⟩
    · obtain ⟨y4, y5, y6, y7, y8, y9, y10, rfl, k5, lf5⟩ := hp
      exact ⟨same_of_keep hp1 (k14.trans k5), _, _, _, _, _, _, _, _, _, _, rfl⟩
  · obtain ⟨sm, x1, x2, x3, x4, x5, x6, x7, x8, x9, x10, rfl⟩ := hp
    have y1 : SyOk 6 .yes := .yes
    refine ⟨by show 1 ≤ sizeLine; decide, fun t1 ht1 => ?_⟩
    refine ⟨_, .yes, rfl, .tup (SqT.of upd_same) (.cons (.str _) .nil), .yes, fun H3 v1 s3 tv1 => ⟨by show 1 ≤ sizeLine; decide, fun t2 ht2 => ?_⟩⟩
    have sh1 : SeqAt.shaped (.tuple [.str "yes"]) = true := (pl1 (pl_str (by decide +kernel))).shaped (by decide)
    refine ⟨_, _, (tv1.mono (same_new ht2)).dp, .tup (SqT.of upd_same) (.cons (.str _) .nil), sh1, sh1, true, ?_, ?_⟩
    · exact congrArg V.bl (SeqAt.eqv_refl _ (SeqAt.canLay_of_shaped sh1))
    refine iteT ?_
    refine ⟨by show 1 ≤ sizeLine; decide, fun t3 ht3 => ⟨by show 2 ≤ sizeLine; decide, fun t4 ht4 => ?_⟩⟩
    refine ⟨_, .un .ev .yes, rfl, .tup (SqT.of upd_same) (.cons (.str _) (.cons (.tup (SqT.of (same_new ht4 _ _ upd_same)) (.cons (.str _) .nil)) .nil)), .un .yes, fun H5 v5 s5 tv5 => ?_⟩
    refine ⟨by show 1 ≤ sizeLine; decide, fun t6 ht6 => ⟨by show 1 ≤ sizeLine; decide, fun t7 ht7 => ⟨by show 3 ≤ sizeLine; decide, fun t8 ht8 => ?_⟩⟩⟩
    have s6 := same_new (o := .tup [.str "no"]) ht6
    have s7 := same_new (o := .tup [.str "no"]) ht7
    have s8 := same_new (o := .tup [.str "release", .ref t6, .ref t7]) ht8
    have sh2 : SeqAt.shaped (dFm (.bi .re .no .no)) = true := (fm_pl (n := 2) (.bi .no .no)).shaped (by decide)
    refine ⟨_, _, (tv5.mono (s6.trans (s7.trans s8))).dp, .tup (SqT.of upd_same) (.cons (.str _) (.cons (.tup (SqT.of ((s7.trans s8) _ _ upd_same)) (.cons (.str _) .nil)) (.cons (.tup (SqT.of (s8 _ _ upd_same)) (.cons (.str _) .nil)) .nil))), sh2, sh2, ?_⟩
    exact congrArg V.bl (SeqAt.eqv_refl _ (SeqAt.canLay_of_shaped sh2))
end
end W26

namespace W26
open PySem PySem.Spec PyProof.Rows L2 Gs Sf
/-! ### what the top has written -/
/-- a def of the text as the head tells it -/
abbrev FnL (K : PySem.W.Frag) (x : Str) (st : Stmt) (kV : Value) (f : Addr) (oc dc pm cd ct : Value) (od an : Option Addr) (sl : Array (Option Value)) : Prop :=
  K.lookup f = some ⟨oc, od, .func (PySem.W.fnOf x x (defArgs st) (defBody st) (defScope st) .none kV dc pm an cd ct), sl⟩
theorem all_mk {P : Program} {w : World} {K : PySem.W.Frag} {h : Heap} {mg : Str → Option Value} {fa aU aY aT aN aH : Addr} (X : K.In h) (G : h.Ns mainGlobals mg) (hfa : mg "law" = some (.ref fa))
    {f3 f8 f9 f10 f11 f12 f14 f15 f16 f19 f20 f23 f24 f25 f26 f27 f28 f29 : Addr} {od3 an3 od8 an8 od9 an9 od10 an10 od11 an11 od12 an12 od14 an14 od15 an15 od16 an16 od19 an19 od20 an20 od23 an23 od24 an24 od25 an25 od26 an26 od27 an27 od28 an28 od29 an29 : Option Addr} {sl3 sl8 sl9 sl10 sl11 sl12 sl14 sl15 sl16 sl19 sl20 sl23 sl24 sl25 sl26 sl27 sl28 sl29 : Array (Option Value)}
    {oc3 kV3 dc3 pm3 cd3 ct3 oc8 kV8 dc8 pm8 cd8 ct8 oc9 kV9 dc9 pm9 cd9 ct9 oc10 kV10 dc10 pm10 cd10 ct10 oc11 kV11 dc11 pm11 cd11 ct11 oc12 kV12 dc12 pm12 cd12 ct12 oc14 kV14 dc14 pm14 cd14 ct14 oc15 kV15 dc15 pm15 cd15 ct15 oc16 kV16 dc16 pm16 cd16 ct16 oc19 kV19 dc19 pm19 cd19 ct19 oc20 kV20 dc20 pm20 cd20 ct20 oc23 kV23 dc23 pm23 cd23 ct23 oc24 kV24 dc24 pm24 cd24 ct24 oc25 kV25 dc25 pm25 cd25 ct25 oc26 kV26 dc26 pm26 cd26 ct26 oc27 kV27 dc27 pm27 cd27 ct27 oc28 kV28 dc28 pm28 cd28 ct28 oc29 kV29 dc29 pm29 cd29 ct29 : Value}
    (a3 : PySem.W.nsIn K mainGlobals "atoms_of" = some (some (.ref f3))) (l3 : FnL K "atoms_of" sAtomsOf kV3 f3 oc3 dc3 pm3 cd3 ct3 od3 an3 sl3)
    (c3 : PySem.W.codeIn K cd3 "atoms_of" = true) (k3 : PySem.W.keepIn K (.ref f3) = true)
    (a8 : PySem.W.nsIn K mainGlobals "form_by" = some (some (.ref f8))) (l8 : FnL K "form_by" sFormBy kV8 f8 oc8 dc8 pm8 cd8 ct8 od8 an8 sl8)
    (c8 : PySem.W.codeIn K cd8 "form_by" = true) (k8 : PySem.W.keepIn K (.ref f8) = true)
    (a9 : PySem.W.nsIn K mainGlobals "normal_form" = some (some (.ref f9))) (l9 : FnL K "normal_form" sNormal kV9 f9 oc9 dc9 pm9 cd9 ct9 od9 an9 sl9)
    (c9 : PySem.W.codeIn K cd9 "normal_form" = true) (k9 : PySem.W.keepIn K (.ref f9) = true)
    (a10 : PySem.W.nsIn K mainGlobals "contrary_form" = some (some (.ref f10))) (l10 : FnL K "contrary_form" sContrary kV10 f10 oc10 dc10 pm10 cd10 ct10 od10 an10 sl10)
    (c10 : PySem.W.codeIn K cd10 "contrary_form" = true) (k10 : PySem.W.keepIn K (.ref f10) = true)
    (a11 : PySem.W.nsIn K mainGlobals "halves_of" = some (some (.ref f11))) (l11 : FnL K "halves_of" sHalves kV11 f11 oc11 dc11 pm11 cd11 ct11 od11 an11 sl11)
    (c11 : PySem.W.codeIn K cd11 "halves_of" = true) (k11 : PySem.W.keepIn K (.ref f11) = true)
    (a12 : PySem.W.nsIn K mainGlobals "untils_in" = some (some (.ref f12))) (l12 : FnL K "untils_in" sUntilsIn kV12 f12 oc12 dc12 pm12 cd12 ct12 od12 an12 sl12)
    (c12 : PySem.W.codeIn K cd12 "untils_in" = true) (k12 : PySem.W.keepIn K (.ref f12) = true)
    (a14 : PySem.W.nsIn K mainGlobals "_law_left" = some (some (.ref f14))) (l14 : FnL K "_law_left" sLeft kV14 f14 oc14 dc14 pm14 cd14 ct14 od14 an14 sl14)
    (c14 : PySem.W.codeIn K cd14 "_law_left" = true) (k14 : PySem.W.keepIn K (.ref f14) = true)
    (a15 : PySem.W.nsIn K mainGlobals "_law_digit" = some (some (.ref f15))) (l15 : FnL K "_law_digit" sDigit kV15 f15 oc15 dc15 pm15 cd15 ct15 od15 an15 sl15)
    (c15 : PySem.W.codeIn K cd15 "_law_digit" = true) (k15 : PySem.W.keepIn K (.ref f15) = true)
    (a16 : PySem.W.nsIn K mainGlobals "_law_low" = some (some (.ref f16))) (l16 : FnL K "_law_low" sLow kV16 f16 oc16 dc16 pm16 cd16 ct16 od16 an16 sl16)
    (c16 : PySem.W.codeIn K cd16 "_law_low" = true) (k16 : PySem.W.keepIn K (.ref f16) = true)
    (a19 : PySem.W.nsIn K mainGlobals "_law_share" = some (some (.ref f19))) (l19 : FnL K "_law_share" sShare kV19 f19 oc19 dc19 pm19 cd19 ct19 od19 an19 sl19)
    (c19 : PySem.W.codeIn K cd19 "_law_share" = true) (k19 : PySem.W.keepIn K (.ref f19) = true)
    (a20 : PySem.W.nsIn K mainGlobals "_law_line" = some (some (.ref f20))) (l20 : FnL K "_law_line" sLine kV20 f20 oc20 dc20 pm20 cd20 ct20 od20 an20 sl20)
    (c20 : PySem.W.codeIn K cd20 "_law_line" = true) (k20 : PySem.W.keepIn K (.ref f20) = true)
    (a23 : PySem.W.nsIn K mainGlobals "_law_atoms_drawn" = some (some (.ref f23))) (l23 : FnL K "_law_atoms_drawn" sDrawn kV23 f23 oc23 dc23 pm23 cd23 ct23 od23 an23 sl23)
    (c23 : PySem.W.codeIn K cd23 "_law_atoms_drawn" = true) (k23 : PySem.W.keepIn K (.ref f23) = true)
    (a24 : PySem.W.nsIn K mainGlobals "_law_saying" = some (some (.ref f24))) (l24 : FnL K "_law_saying" sSaying kV24 f24 oc24 dc24 pm24 cd24 ct24 od24 an24 sl24)
    (c24 : PySem.W.codeIn K cd24 "_law_saying" = true) (k24 : PySem.W.keepIn K (.ref f24) = true)
    (a25 : PySem.W.nsIn K mainGlobals "_law_atoms_in" = some (some (.ref f25))) (l25 : FnL K "_law_atoms_in" sAtomsIn kV25 f25 oc25 dc25 pm25 cd25 ct25 od25 an25 sl25)
    (c25 : PySem.W.codeIn K cd25 "_law_atoms_in" = true) (k25 : PySem.W.keepIn K (.ref f25) = true)
    (a26 : PySem.W.nsIn K mainGlobals "_law_formed" = some (some (.ref f26))) (l26 : FnL K "_law_formed" sFormed kV26 f26 oc26 dc26 pm26 cd26 ct26 od26 an26 sl26)
    (c26 : PySem.W.codeIn K cd26 "_law_formed" = true) (k26 : PySem.W.keepIn K (.ref f26) = true)
    (a27 : PySem.W.nsIn K mainGlobals "_law_never" = some (some (.ref f27))) (l27 : FnL K "_law_never" sNever kV27 f27 oc27 dc27 pm27 cd27 ct27 od27 an27 sl27)
    (c27 : PySem.W.codeIn K cd27 "_law_never" = true) (k27 : PySem.W.keepIn K (.ref f27) = true)
    (a28 : PySem.W.nsIn K mainGlobals "_law_untils" = some (some (.ref f28))) (l28 : FnL K "_law_untils" sUntils kV28 f28 oc28 dc28 pm28 cd28 ct28 od28 an28 sl28)
    (c28 : PySem.W.codeIn K cd28 "_law_untils" = true) (k28 : PySem.W.keepIn K (.ref f28) = true)
    (a29 : PySem.W.nsIn K mainGlobals "law" = some (some (.ref f29))) (l29 : FnL K "law" sLaw kV29 f29 oc29 dc29 pm29 cd29 ct29 od29 an29 sl29)
    (c29 : PySem.W.codeIn K cd29 "law" = true) (k29 : PySem.W.keepIn K (.ref f29) = true)
    (gY : PySem.W.nsIn K mainGlobals "YES" = some (some (.ref aY))) {oY : Obj} {nY : Nat} {tY0 : Tok} (pY : K.lookup aY = some oY) (qY : oY.cls = .type "tuple") (rY : oY.data = .seq #[.str "yes" tY0] nY)
    (gT : PySem.W.nsIn K mainGlobals "ATOMS" = some (some (.ref aT))) {oT : Obj} {nT : Nat} {tT0 tT1 tT2 : Tok} (pT : K.lookup aT = some oT) (qT : oT.cls = .type "tuple") (rT : oT.data = .seq #[.str "place" tT0, .str "deed" tT1, .str "wish" tT2] nT)
    (gN : PySem.W.nsIn K mainGlobals "NO" = some (some (.ref aN))) {oN : Obj} {nN : Nat} {tN0 : Tok} (pN : K.lookup aN = some oN) (qN : oN.cls = .type "tuple") (rN : oN.data = .seq #[.str "no" tN0] nN)
    (gH : PySem.W.nsIn K mainGlobals "HALVED" = some (some (.ref aH))) {oH : Obj} {nH : Nat} {tH0 tH1 tH2 tH3 : Tok} (pH : K.lookup aH = some oH) (qH : oH.cls = .type "tuple") (rH : oH.data = .seq #[.str "and" tH0, .str "or" tH1, .str "until" tH2, .str "release" tH3] nH)
    (gU : PySem.W.nsIn K mainGlobals "TURNED" = some (some (.ref aU))) {esU : Array DictEntry} {nU : Nat} {tU0 tU1 tU2 : Tok} (pU : K.lookup aU = some ⟨.type "dict", none, .dict esU nU, #[]⟩) (qU : PySem.W.KeysLit w.params esU.toList)
    (rU : PySem.W.nsIn K aU "and" = some (some (.str "or" tU0))) (sU : PySem.W.nsIn K aU "or" = some (some (.str "and" tU1))) (tU : PySem.W.nsIn K aU "until" = some (some (.str "release" tU2)))
    (zA : PySem.W.nsIn K mainGlobals "abs" = some none) (zR : PySem.W.nsIn K mainGlobals "range" = some none) (zI : PySem.W.nsIn K mainGlobals "isinstance" = some none) (zL : PySem.W.nsIn K mainGlobals "len" = some none) (zT : PySem.W.nsIn K mainGlobals "tuple" = some none) (zS : PySem.W.nsIn K mainGlobals "sorted" = some none) (zl : PySem.W.nsIn K mainGlobals "list" = some none)
    (base : Heap) (H : Hp) (s : Shared) (a : Addr) (ns : List Int) (hn : ns.length ≤ 63) (hS : SqL K H a (ns.map V.int))
    (e0 : Env0 P w K mg base callerA [] s H) :
    codeAny (model P w) callerA (.call (.ref fa) ⟨[.ref a], []⟩) (CR CX0 [] P w H s (fun v _ => v = .bl true) fun _ _ _ => False) s := by
  have e := hfa.symm.trans (PySem.W.mg_of X G a29)
  cases e
  have F3 := fun_mk (st := sAtomsOf) l3 c3 k3
  have b3 := F3.binds (ps := ["saying"]) fun _ _ _ _ _ _ us hl => match us, hl with | [_], _ => rfl
  have g3 := PySem.W.mg_of X G a3
  have F8 := fun_mk (st := sFormBy) l8 c8 k8
  have b8 := F8.binds (ps := ["saying", "atoms", "is_so"]) fun _ _ _ _ _ _ us hl => match us, hl with | [_, _, _], _ => rfl
  have g8 := PySem.W.mg_of X G a8
  have F9 := fun_mk (st := sNormal) l9 c9 k9
  have b9 := F9.binds (ps := ["saying"]) fun _ _ _ _ _ _ us hl => match us, hl with | [_], _ => rfl
  have g9 := PySem.W.mg_of X G a9
  have F10 := fun_mk (st := sContrary) l10 c10 k10
  have b10 := F10.binds (ps := ["saying"]) fun _ _ _ _ _ _ us hl => match us, hl with | [_], _ => rfl
  have g10 := PySem.W.mg_of X G a10
  have F11 := fun_mk (st := sHalves) l11 c11 k11
  have b11 := F11.binds (ps := ["form"]) fun _ _ _ _ _ _ us hl => match us, hl with | [_], _ => rfl
  have g11 := PySem.W.mg_of X G a11
  have F12 := fun_mk (st := sUntilsIn) l12 c12 k12
  have b12 := F12.binds (ps := ["form"]) fun _ _ _ _ _ _ us hl => match us, hl with | [_], _ => rfl
  have g12 := PySem.W.mg_of X G a12
  have F14 := fun_mk (st := sLeft) l14 c14 k14
  have b14 := F14.binds (ps := ["_law_cell"]) fun _ _ _ _ _ _ us hl => match us, hl with | [_], _ => rfl
  have g14 := PySem.W.mg_of X G a14
  have F15 := fun_mk (st := sDigit) l15 c15 k15
  have b15 := F15.binds (ps := ["_law_left_here", "_law_upto"]) fun _ _ _ _ _ _ us hl => match us, hl with | [_, _], _ => rfl
  have g15 := PySem.W.mg_of X G a15
  have F16 := fun_mk (st := sLow) l16 c16 k16
  have b16 := F16.binds (ps := ["_law_top", "_law_bottom"]) fun _ _ _ _ _ _ us hl => match us, hl with | [_, _], _ => rfl
  have g16 := PySem.W.mg_of X G a16
  have F19 := fun_mk (st := sShare) l19 c19 k19
  have b19 := F19.binds (ps := ["_law_left_here"]) fun _ _ _ _ _ _ us hl => match us, hl with | [_], _ => rfl
  have g19 := PySem.W.mg_of X G a19
  have F20 := fun_mk (st := sLine) l20 c20 k20
  have b20 := F20.binds (ps := ["_law_left_here", "_law_names"]) fun _ _ _ _ _ _ us hl => match us, hl with | [_, _], _ => rfl
  have g20 := PySem.W.mg_of X G a20
  have F23 := fun_mk (st := sDrawn) l23 c23 k23
  have b23 := F23.binds (ps := ["_law_left_here", "_law_many"]) fun _ _ _ _ _ _ us hl => match us, hl with | [_, _], _ => rfl
  have g23 := PySem.W.mg_of X G a23
  have F24 := fun_mk (st := sSaying) l24 c24 k24
  have b24 := F24.binds (ps := ["_law_left_here", "_law_atoms", "_law_deep"]) fun _ _ _ _ _ _ us hl => match us, hl with | [_, _, _], _ => rfl
  have g24 := PySem.W.mg_of X G a24
  have F25 := fun_mk (st := sAtomsIn) l25 c25 k25
  have b25 := F25.binds (ps := ["_law_saying_here"]) fun _ _ _ _ _ _ us hl => match us, hl with | [_], _ => rfl
  have g25 := PySem.W.mg_of X G a25
  have F26 := fun_mk (st := sFormed) l26 c26 k26
  have b26 := F26.binds (ps := ["_law_saying_here", "_law_truth", "_law_atoms"]) fun _ _ _ _ _ _ us hl => match us, hl with | [_, _, _], _ => rfl
  have g26 := PySem.W.mg_of X G a26
  have F27 := fun_mk (st := sNever) l27 c27 k27
  have b27 := F27.binds (ps := ["_law_saying_here", "_law_atoms", "_law_truth"]) fun _ _ _ _ _ _ us hl => match us, hl with | [_, _, _], _ => rfl
  have g27 := PySem.W.mg_of X G a27
  have F28 := fun_mk (st := sUntils) l28 c28 k28
  have b28 := F28.binds (ps := ["_law_form"]) fun _ _ _ _ _ _ us hl => match us, hl with | [_], _ => rfl
  have g28 := PySem.W.mg_of X G a28
  have mzA := PySem.W.mg_none_of X G zA
  have mzR := PySem.W.mg_none_of X G zR
  have mzI := PySem.W.mg_none_of X G zI
  have mzL := PySem.W.mg_none_of X G zL
  have mzT := PySem.W.mg_none_of X G zT
  have mzS := PySem.W.mg_none_of X G zS
  have mzl := PySem.W.mg_none_of X G zl
  have hY : TxtsAt K aY ["yes"] := fun H => .inr ⟨oY, _, nY, pY, qY, rY, by show 1 ≤ sizeLine; decide, (.cons ⟨tY0, rfl⟩ .nil)⟩
  have GY := PySem.W.mg_of X G gY
  have hT : TxtsAt K aT ["place", "deed", "wish"] := fun H => .inr ⟨oT, _, nT, pT, qT, rT, by show 3 ≤ sizeLine; decide, (.cons ⟨tT0, rfl⟩ (.cons ⟨tT1, rfl⟩ (.cons ⟨tT2, rfl⟩ .nil)))⟩
  have GT := PySem.W.mg_of X G gT
  have hN : TxtsAt K aN ["no"] := fun H => .inr ⟨oN, _, nN, pN, qN, rN, by show 1 ≤ sizeLine; decide, (.cons ⟨tN0, rfl⟩ .nil)⟩
  have GN := PySem.W.mg_of X G gN
  have hH : TxtsAt K aH ["and", "or", "until", "release"] := fun H => .inr ⟨oH, _, nH, pH, qH, rH, by show 4 ≤ sizeLine; decide, (.cons ⟨tH0, rfl⟩ (.cons ⟨tH1, rfl⟩ (.cons ⟨tH2, rfl⟩ (.cons ⟨tH3, rfl⟩ .nil))))⟩
  have GH := PySem.W.mg_of X G gH
  have GU := PySem.W.mg_of X G gU
  have hU : ∀ b : Bi, KDct K w aU b.s (.str b.t.s) := fun b => by
    cases b with
    | an => exact ⟨esU, nU, _, pU, qU, rU, ⟨tU0, rfl⟩⟩
    | or => exact ⟨esU, nU, _, pU, qU, sU, ⟨tU1, rfl⟩⟩
    | un => exact ⟨esU, nU, _, pU, qU, tU, ⟨tU2, rfl⟩⟩
  have AT : ∀ n, n ≤ 8 → Cl P w K mg base CX0 (n + 1) "atoms_of" ["saying"] (spAtoms K n) f3 _ := fun n hn => ⟨g3, ok_atoms F3 g3 k3 b3 GT hT n hn, k3, b3⟩
  have FB : ∀ n, n ≤ 8 → Cl P w K mg base CX0 (n + 1) "form_by" ["saying", "atoms", "is_so"] (spForm K n) f8 _ := fun n hn => ⟨g8, ok_form F8 g8 k8 b8 GT hT GY hY GN hN GU hU mzT n hn, k8, b8⟩
  have NF : Cl P w K mg base CX0 8 "normal_form" ["saying"] (spNf K 6 true) f9 _ := ⟨g9, ok_normal F9 (AT 6 (by decide)) (FB 6 (by decide)), k9, b9⟩
  have CF : Cl P w K mg base CX0 8 "contrary_form" ["saying"] (spNf K 6 false) f10 _ := ⟨g10, ok_contrary F10 (AT 6 (by decide)) (FB 6 (by decide)), k10, b10⟩
  have HO : Cl P w K mg base CX0 1 "halves_of" ["form"] (spHalves K) f11 _ := ⟨g11, ok_halves F11 GH hH, k11, b11⟩
  have UI : Cl P w K mg base CX0 8 "untils_in" ["form"] (spUntils K 6) f12 _ := ⟨g12, ok_untils F12 g12 k12 b12 HO 6 (by decide), k12, b12⟩
  have LF : Cl P w K mg base CX0 1 "_law_left" ["_law_cell"] spLeft f14 _ := ⟨g14, ok_left F14 mzA mzR, k14, b14⟩
  have DI : Cl P w K mg base CX0 1 "_law_digit" ["_law_left_here", "_law_upto"] spDigit f15 _ := ⟨g15, ok_digit F15, k15, b15⟩
  have LW : Cl P w K mg base CX0 1 "_law_low" ["_law_top", "_law_bottom"] spRed f16 _ := ⟨g16, ok_low F16 mzA, k16, b16⟩
  have SH : Cl P w K mg base CX0 2 "_law_share" ["_law_left_here"] spDraw f19 _ := ⟨g19, ok_share F19 LW.ok k16 b16 g16 DI.ok k15 b15 g15, k19, b19⟩
  have LN : Cl P w K mg base CX0 3 "_law_line" ["_law_left_here", "_law_names"] (spLine K) f20 _ := ⟨g20, ok_line F20 DI SH mzT mzS, k20, b20⟩
  have DR : Cl P w K mg base CX0 4 "_law_atoms_drawn" ["_law_left_here", "_law_many"] (spDrawn K) f23 _ := ⟨g23, ok_drawn F23 DI LN mzR, k23, b23⟩
  have SA : Cl P w K mg base CX0 6 "_law_saying" ["_law_left_here", "_law_atoms", "_law_deep"] (spSaying K 5) f24 _ := ⟨g24, ok_saying F24 g24 k24 b24 DI mzL 5, k24, b24⟩
  have AI : Cl P w K mg base CX0 6 "_law_atoms_in" ["_law_saying_here"] (spAtoms K 5) f25 _ := ⟨g25, ok_atomsIn F25 g25 k25 b25 5 (by decide), k25, b25⟩
  have FO : Cl P w K mg base CX0 11 "_law_formed" ["_law_saying_here", "_law_truth", "_law_atoms"] (spFormed K 5) f26 _ := ⟨g26, ok_formed F26 g26 k26 b26 F27 g27 k27 b27 5 (by decide), k26, b26⟩
  have LU : Cl P w K mg base CX0 8 "_law_untils" ["_law_form"] (spUntils K 6) f28 _ := ⟨g28, ok_luntils F28 g28 k28 b28 6 (by decide), k28, b28⟩
  refine body_at (k := 11) (N := NL) (ps := ["_law_script"]) (vs := [.ref a]) (us := [.ref a]) l29 c29 scLaw rfl ⟨rfl, by decide, by decide⟩ e0 (.of_eq rfl) (.cons rfl .nil) fun hr => ?_
  exact law_body LF DR SA AI FO LU NF CF UI mzR mzI mzl hr hS hn
end W26

open PySem PySem.W PyProof.Rows
set_option maxHeartbeats 0 in
theorem PySem.Challenge.cw_glassladder_k26_normal_forms_holds : PySem.Challenge.rw_glassladder_k26_normal_forms.Holds := by
  w_on; o_law; k_head; (case hw => w_witness2)
  k_fill
  refine Gs.walk_at1 (l := PySem.Challenge.rw_glassladder_k26_normal_forms) (n := 63) rfl (by decide) rfl (fun w h Y => PySem.W.kIn_of Y) ?F
  case F =>
    intro w mg fa h KX G hmg base H s a ns hn _ _ hS e0
    refine' W26.all_mk KX G hmg ?a3 ?l3 ?c3 ?k3 ?a8 ?l8 ?c8 ?k8 ?a9 ?l9 ?c9 ?k9 ?a10 ?l10 ?c10 ?k10 ?a11 ?l11 ?c11 ?k11 ?a12 ?l12 ?c12 ?k12 ?a14 ?l14 ?c14 ?k14 ?a15 ?l15 ?c15 ?k15 ?a16 ?l16 ?c16 ?k16 ?a19 ?l19 ?c19 ?k19 ?a20 ?l20 ?c20 ?k20 ?a23 ?l23 ?c23 ?k23 ?a24 ?l24 ?c24 ?k24 ?a25 ?l25 ?c25 ?k25 ?a26 ?l26 ?c26 ?k26 ?a27 ?l27 ?c27 ?k27 ?a28 ?l28 ?c28 ?k28 ?a29 ?l29 ?c29 ?k29 ?gY ?pY ?qY ?rY ?gT ?pT ?qT ?rT ?gN ?pN ?qN ?rN ?gH ?pH ?qH ?rH ?gU ?pU ?qU ?rU ?sU ?tU ?zA ?zR ?zI ?zL ?zT ?zS ?zl base H s a ns hn hS e0
    (case a3 => first | rfl | k_is)
    (case l3 => first | rfl | k_is)
    (case c3 => first | rfl | k_is)
    (case k3 => first | rfl | k_is)
    (case a8 => first | rfl | k_is)
    (case l8 => first | rfl | k_is)
    (case c8 => first | rfl | k_is)
    (case k8 => first | rfl | k_is)
    (case a9 => first | rfl | k_is)
    (case l9 => first | rfl | k_is)
    (case c9 => first | rfl | k_is)
    (case k9 => first | rfl | k_is)
    (case a10 => first | rfl | k_is)
    (case l10 => first | rfl | k_is)
    (case c10 => first | rfl | k_is)
    (case k10 => first | rfl | k_is)
    (case a11 => first | rfl | k_is)
    (case l11 => first | rfl | k_is)
    (case c11 => first | rfl | k_is)
    (case k11 => first | rfl | k_is)
    (case a12 => first | rfl | k_is)
    (case l12 => first | rfl | k_is)
    (case c12 => first | rfl | k_is)
    (case k12 => first | rfl | k_is)
    (case a14 => first | rfl | k_is)
    (case l14 => first | rfl | k_is)
    (case c14 => first | rfl | k_is)
    (case k14 => first | rfl | k_is)
    (case a15 => first | rfl | k_is)
    (case l15 => first | rfl | k_is)
    (case c15 => first | rfl | k_is)
    (case k15 => first | rfl | k_is)
    (case a16 => first | rfl | k_is)
    (case l16 => first | rfl | k_is)
    (case c16 => first | rfl | k_is)
    (case k16 => first | rfl | k_is)
    (case a19 => first | rfl | k_is)
    (case l19 => first | rfl | k_is)
    (case c19 => first | rfl | k_is)
    (case k19 => first | rfl | k_is)
    (case a20 => first | rfl | k_is)
    (case l20 => first | rfl | k_is)
    (case c20 => first | rfl | k_is)
    (case k20 => first | rfl | k_is)
    (case a23 => first | rfl | k_is)
    (case l23 => first | rfl | k_is)
    (case c23 => first | rfl | k_is)
    (case k23 => first | rfl | k_is)
    (case a24 => first | rfl | k_is)
    (case l24 => first | rfl | k_is)
    (case c24 => first | rfl | k_is)
    (case k24 => first | rfl | k_is)
    (case a25 => first | rfl | k_is)
    (case l25 => first | rfl | k_is)
    (case c25 => first | rfl | k_is)
    (case k25 => first | rfl | k_is)
    (case a26 => first | rfl | k_is)
    (case l26 => first | rfl | k_is)
    (case c26 => first | rfl | k_is)
    (case k26 => first | rfl | k_is)
    (case a27 => first | rfl | k_is)
    (case l27 => first | rfl | k_is)
    (case c27 => first | rfl | k_is)
    (case k27 => first | rfl | k_is)
    (case a28 => first | rfl | k_is)
    (case l28 => first | rfl | k_is)
    (case c28 => first | rfl | k_is)
    (case k28 => first | rfl | k_is)
    (case a29 => first | rfl | k_is)
    (case l29 => first | rfl | k_is)
    (case c29 => first | rfl | k_is)
    (case k29 => first | rfl | k_is)
    (case gY => first | rfl | k_is)
    (case pY => first | rfl | k_is)
    (case qY => first | rfl | k_is)
    (case rY => first | rfl | k_is)
    (case gT => first | rfl | k_is)
    (case pT => first | rfl | k_is)
    (case qT => first | rfl | k_is)
    (case rT => first | rfl | k_is)
    (case gN => first | rfl | k_is)
    (case pN => first | rfl | k_is)
    (case qN => first | rfl | k_is)
    (case rN => first | rfl | k_is)
    (case gH => first | rfl | k_is)
    (case pH => first | rfl | k_is)
    (case qH => first | rfl | k_is)
    (case rH => first | rfl | k_is)
    (case gU => first | rfl | k_is)
    (case pU => first | rfl | k_is)
    (case qU => exact ⟨⟨_, _, rfl, rfl⟩, ⟨_, _, rfl, rfl⟩, ⟨_, _, rfl, rfl⟩, trivial⟩)
    (case rU => first | rfl | k_is)
    (case sU => first | rfl | k_is)
    (case tU => first | rfl | k_is)
    (case zA => first | rfl | k_is)
    (case zR => first | rfl | k_is)
    (case zI => first | rfl | k_is)
    (case zL => first | rfl | k_is)
    (case zT => first | rfl | k_is)
    (case zS => first | rfl | k_is)
    (case zl => first | rfl | k_is)
