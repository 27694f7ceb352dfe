import PyProof.Rows.All
import Wide.All
import OpenK.AllK
import Wide.FinOn
import HandS.ForMost
import HandS.ForExc
import HandS.Wide
import HandS.Defaults
import HandS.ExcIs
import HandS.ExcValue
import PyProof.Rows.ReprR
import HandS.ExcOwn
import HandS.ExcInit
import HandS.ExcField
import HandS.IsInst
import HandS.RaiseMore
import HandS.CallSlots
import HandS.FStrTup
import PySem.Challenge.RW_glassladder_k01_shares_made
set_option Elab.async false
set_option linter.all false
set_option maxRecDepth 100000
set_option maxHeartbeats 8000000
namespace Gs
/-! the mathematics of shares -/
def gI (a b : Int) : Int := ((Int.gcd a b : Nat) : Int)
def lw (t b : Int) : Int × Int :=
  if b < 0 then (t.fdiv (-(gI t b)), b.fdiv (-(gI t b))) else (t.fdiv (gI t b), b.fdiv (gI t b))
def Sh (x : Int × Int) : Prop := 0 < x.2 ∧ Int.gcd x.1 x.2 = 1
theorem lw_ex (t b : Int) (h : b ≠ 0) : ∃ (g : Int), 0 < g ∧ g = gI t b ∧ ∃ p q : Int, lw t b = (p, q) ∧ Sh (p, q) ∧
    ((b < 0 ∧ t = -g * p ∧ b = -g * q) ∨ (0 < b ∧ t = g * p ∧ b = g * q)) := by
  have g0 : 0 < Int.gcd t b := by
    rcases Nat.eq_zero_or_pos (Int.gcd t b) with e | e
    · exact absurd (Int.gcd_eq_zero_iff.mp e).2 h
    · exact e
  have gp : 0 < gI t b := by unfold gI; omega
  obtain ⟨t', ht⟩ : gI t b ∣ t := Int.gcd_dvd_left t b
  obtain ⟨b', hb⟩ : gI t b ∣ b := Int.gcd_dvd_right t b
  have cop : Int.gcd t' b' = 1 := by
    have e1 := Int.gcd_mul_left (gI t b) t' b'
    rw [← ht, ← hb] at e1
    have e2 : (gI t b).natAbs = Int.gcd t b := by unfold gI; omega
    rw [e2] at e1
    have e3 : Int.gcd t b * 1 = Int.gcd t b * Int.gcd t' b' := by rw [Nat.mul_one]; exact e1
    exact (Nat.eq_of_mul_eq_mul_left g0 e3).symm
  generalize eg : gI t b = g at *
  have gne : g ≠ 0 := by omega
  refine ⟨g, gp, rfl, ?_⟩
  by_cases hn : b < 0
  · refine ⟨-t', -b', ?_, ⟨?_, ?_⟩, .inl ⟨hn, ?_, ?_⟩⟩
    · unfold lw
      rw [if_pos hn, eg]
      have e1 : t = (-g) * (-t') := by rw [ht]; grind
      have e2 : b = (-g) * (-b') := by rw [hb]; grind
      have z1 : t.fdiv (-g) = -t' := by rw [e1]; exact Int.mul_fdiv_cancel_left _ (by omega)
      have z2 : b.fdiv (-g) = -b' := by rw [e2]; exact Int.mul_fdiv_cancel_left _ (by omega)
      rw [z1, z2]
    · show 0 < -b'
      by_cases e : b' < 0
      · omega
      · have := Int.mul_nonneg (Int.le_of_lt gp) (show 0 ≤ b' by omega)
        omega
    · show Int.gcd (-t') (-b') = 1
      rw [Int.neg_gcd, Int.gcd_neg]
      exact cop
    · rw [ht]; grind
    · rw [hb]; grind
  · have bp : 0 < b := by omega
    refine ⟨t', b', ?_, ⟨?_, cop⟩, .inr ⟨bp, ht, hb⟩⟩
    · unfold lw
      rw [if_neg hn, eg]
      have z1 : t.fdiv g = t' := by rw [ht]; exact Int.mul_fdiv_cancel_left _ gne
      have z2 : b.fdiv g = b' := by rw [hb]; exact Int.mul_fdiv_cancel_left _ gne
      rw [z1, z2]
    · show 0 < b'
      by_cases e : 0 < b'
      · exact e
      · have := Int.mul_nonneg (Int.le_of_lt gp) (show 0 ≤ -b' by omega)
        rw [Int.mul_neg] at this
        omega
theorem lw_sh {t b : Int} (h : b ≠ 0) : Sh (lw t b) := by
  obtain ⟨g, _, _, p, q, e, s, _⟩ := lw_ex t b h
  rw [e]; exact s
theorem lw_cross {t b : Int} (h : b ≠ 0) : (lw t b).1 * b = t * (lw t b).2 := by
  obtain ⟨g, _, _, p, q, e, s, ⟨_, e1, e2⟩ | ⟨_, e1, e2⟩⟩ := lw_ex t b h
  · rw [e]; show p * b = t * q; rw [e1, e2]; grind
  · rw [e]; show p * b = t * q; rw [e1, e2]; grind
theorem abs_le_mul {g p : Int} (h : 0 < g) : p.natAbs ≤ (g * p).natAbs := by
  rw [Int.natAbs_mul]
  exact Nat.le_mul_of_pos_left _ (by omega)
theorem lw_le {t b : Int} (h : b ≠ 0) : (lw t b).1.natAbs ≤ t.natAbs ∧ (lw t b).2.natAbs ≤ b.natAbs := by
  obtain ⟨g, gp, _, p, q, e, s, ⟨_, e1, e2⟩ | ⟨_, e1, e2⟩⟩ := lw_ex t b h
  · rw [e]
    have x1 : t = -(g * p) := by rw [e1]; grind
    have x2 : b = -(g * q) := by rw [e2]; grind
    show p.natAbs ≤ _ ∧ q.natAbs ≤ _
    rw [x1, x2, Int.natAbs_neg, Int.natAbs_neg]
    exact ⟨abs_le_mul gp, abs_le_mul gp⟩
  · rw [e, e1, e2]
    exact ⟨abs_le_mul gp, abs_le_mul gp⟩
theorem cop_dvd {p q r : Int} (c : Int.gcd p q = 1) (d : q ∣ p * r) : q ∣ r := by
  have d' : q.natAbs ∣ p.natAbs * r.natAbs := by
    rw [← Int.natAbs_mul]
    exact Int.natAbs_dvd_natAbs.mpr d
  have c' : Nat.Coprime q.natAbs p.natAbs := by
    have e : Nat.gcd p.natAbs q.natAbs = 1 := c
    rw [Nat.gcd_comm] at e
    exact e
  exact Int.natAbs_dvd_natAbs.mp (c'.dvd_of_dvd_mul_left d')
theorem sh_eq {x y : Int × Int} (hx : Sh x) (hy : Sh y) (h : x.1 * y.2 = y.1 * x.2) : x = y := by
  obtain ⟨p, q⟩ := x
  obtain ⟨r, s⟩ := y
  obtain ⟨q0, c1⟩ := hx
  obtain ⟨s0, c2⟩ := hy
  have h : p * s = r * q := h
  have q0 : 0 < q := q0
  have s0 : 0 < s := s0
  have c1 : Int.gcd p q = 1 := c1
  have c2 : Int.gcd r s = 1 := c2
  have d1 : q ∣ s := cop_dvd c1 ⟨r, by rw [h]; grind⟩
  have d2 : s ∣ q := cop_dvd c2 ⟨p, by rw [← h]; grind⟩
  have e : q = s := Int.le_antisymm (Int.le_of_dvd s0 d1) (Int.le_of_dvd q0 d2)
  subst e
  have e2 : p = r := Int.eq_of_mul_eq_mul_right (by omega) h
  rw [e2]
theorem lw_eq {t b t' b' : Int} (h : b ≠ 0) (h' : b' ≠ 0) (e : t * b' = t' * b) : lw t b = lw t' b' := by
  have c := lw_cross (t := t) h
  have c' := lw_cross (t := t') h'
  have s := lw_sh (t := t) h
  have s' := lw_sh (t := t') h'
  generalize lw t b = x at *
  generalize lw t' b' = y at *
  refine sh_eq s s' ?_
  have n : b * b' ≠ 0 := Int.mul_ne_zero h h'
  refine Int.eq_of_mul_eq_mul_right n ?_
  have a1 : x.1 * y.2 * (b * b') = t * x.2 * (y.2 * b') := by rw [← c]; grind
  have a2 : y.1 * x.2 * (b * b') = t' * y.2 * (x.2 * b) := by rw [← c']; grind
  rw [a1, a2]
  have a3 : t * x.2 * (y.2 * b') = t * b' * (x.2 * y.2) := by grind
  have a4 : t' * y.2 * (x.2 * b) = t' * b * (x.2 * y.2) := by grind
  rw [a3, a4, e]
theorem lw_id {x : Int × Int} (h : Sh x) : lw x.1 x.2 = x := by
  have n : x.2 ≠ 0 := by have := h.1; omega
  exact sh_eq (lw_sh n) h (lw_cross n)
def pl (x y : Int × Int) : Int × Int := lw (x.1 * y.2 + y.1 * x.2) (x.2 * y.2)
def tm (x y : Int × Int) : Int × Int := lw (x.1 * y.1) (x.2 * y.2)
def ng (x : Int × Int) : Int × Int := (-x.1, x.2)
theorem Sh.ne {x : Int × Int} (h : Sh x) : x.2 ≠ 0 := by have := h.1; omega
theorem Sh.ng {x : Int × Int} (h : Sh x) : Sh (ng x) := ⟨h.1, by show Int.gcd (-x.1) x.2 = 1; rw [Int.neg_gcd]; exact h.2⟩
theorem mul_ne {a b : Int} (h : a ≠ 0) (h' : b ≠ 0) : a * b ≠ 0 := Int.mul_ne_zero h h'
theorem pl_sh {x y : Int × Int} (hx : Sh x) (hy : Sh y) : Sh (pl x y) := lw_sh (mul_ne hx.ne hy.ne)
theorem pl_same {x y : Int × Int} (hx : Sh x) (hy : Sh y) (e : x.2 = y.2) : lw (x.1 + y.1) x.2 = pl x y :=
  lw_eq hx.ne (mul_ne hx.ne hy.ne) (by rw [← e]; grind)
theorem pl3 {x y z : Int × Int} (hx : Sh x) (hy : Sh y) (hz : Sh z) :
    pl (pl x y) z = lw (x.1 * y.2 * z.2 + y.1 * x.2 * z.2 + z.1 * x.2 * y.2) (x.2 * y.2 * z.2) := by
  have n := mul_ne hx.ne hy.ne
  have c := lw_cross (t := x.1 * y.2 + y.1 * x.2) n
  have s := pl_sh hx hy
  refine lw_eq (mul_ne s.ne hz.ne) (mul_ne n hz.ne) ?_
  have e : pl x y = lw (x.1 * y.2 + y.1 * x.2) (x.2 * y.2) := rfl
  rw [← e] at c
  generalize pl x y = u at *
  have a1 : (u.1 * z.2 + z.1 * u.2) * (x.2 * y.2 * z.2) = u.1 * (x.2 * y.2) * (z.2 * z.2) + z.1 * u.2 * (x.2 * y.2 * z.2) := by grind
  rw [a1, c]
  grind
theorem pl_rc {x y z : Int × Int} (hx : Sh x) (hy : Sh y) (hz : Sh z) : pl (pl x y) z = pl (pl x z) y := by
  rw [pl3 hx hy hz, pl3 hx hz hy]
  congr 1 <;> grind
theorem sh0 : Sh (0, 1) := by constructor <;> decide
theorem pl_0 {s : Int × Int} (h : Sh s) : pl (0, 1) s = s := by
  have e : pl (0, 1) s = lw s.1 s.2 := by
    unfold pl
    congr 1
    · show 0 * s.2 + s.1 * 1 = s.1; grind
    · show 1 * s.2 = s.2; grind
  rw [e]
  exact lw_id h
def sumS (a : Int × Int) (l : List (Int × Int)) : Int × Int := l.foldl pl a
theorem sum_sh : ∀ (l : List (Int × Int)) (a : Int × Int), Sh a → (∀ x ∈ l, Sh x) → Sh (sumS a l)
  | [], _, h, _ => h
  | x :: l, a, h, hl => sum_sh l (pl a x) (pl_sh h (hl x List.mem_cons_self)) fun y hy => hl y (List.mem_cons_of_mem _ hy)
theorem sum_rc : ∀ (l : List (Int × Int)) (a s : Int × Int), Sh a → Sh s → (∀ x ∈ l, Sh x) → sumS (pl a s) l = pl (sumS a l) s
  | [], _, _, _, _, _ => rfl
  | x :: l, a, s, ha, hs, hl => by
    have hx := hl x List.mem_cons_self
    show sumS (pl (pl a s) x) l = pl (sumS (pl a x) l) s
    rw [pl_rc ha hs hx]
    exact sum_rc l (pl a x) s (pl_sh ha hx) hs fun y hy => hl y (List.mem_cons_of_mem _ hy)
theorem sum_start {l : List (Int × Int)} {s : Int × Int} (hs : Sh s) (hl : ∀ x ∈ l, Sh x) : sumS s l = pl (sumS (0, 1) l) s := by
  have e := sum_rc l (0, 1) s sh0 hs hl
  rw [pl_0 hs] at e
  exact e
/-! how great they may be -/
def Bd (n : Nat) (x : Int × Int) : Prop := x.1.natAbs < 2 ^ n ∧ x.2.natAbs < 2 ^ n
theorem mul_bd {a b : Int} {n m : Nat} (ha : a.natAbs < 2 ^ n) (hb : b.natAbs < 2 ^ m) : (a * b).natAbs < 2 ^ (n + m) := by
  rw [Int.natAbs_mul, Nat.pow_add]
  exact Nat.mul_lt_mul'' ha hb
theorem add_bd {a b : Int} {n : Nat} (ha : a.natAbs < 2 ^ n) (hb : b.natAbs < 2 ^ n) : (a + b).natAbs < 2 ^ (n + 1) := by
  rw [Nat.pow_succ]
  have := Int.natAbs_add_le a b
  omega
theorem bd_mono {a : Int} {n m : Nat} (ha : a.natAbs < 2 ^ n) (h : n ≤ m) : a.natAbs < 2 ^ m := Nat.lt_of_lt_of_le ha (Nat.pow_le_pow_right (by decide) h)
theorem Bd.mono {x : Int × Int} {n m : Nat} (h : Bd n x) (hm : n ≤ m) : Bd m x := ⟨bd_mono h.1 hm, bd_mono h.2 hm⟩
theorem lw_bd {t b : Int} {n : Nat} (h : b ≠ 0) (h1 : t.natAbs < 2 ^ n) (h2 : b.natAbs < 2 ^ n) : Bd n (lw t b) :=
  ⟨Nat.lt_of_le_of_lt (lw_le h).1 h1, Nat.lt_of_le_of_lt (lw_le h).2 h2⟩
theorem pl_bd {x y : Int × Int} {n m : Nat} (hx : Sh x) (hy : Sh y) (b1 : Bd n x) (b2 : Bd m y) : Bd (n + m + 1) (pl x y) := by
  refine lw_bd (mul_ne hx.ne hy.ne) (add_bd (mul_bd b1.1 b2.2) ?_) (bd_mono (mul_bd b1.2 b2.2) (by omega))
  have := mul_bd b2.1 b1.2
  rw [Nat.add_comm m n] at this
  exact this
theorem sum_bd : ∀ (l : List (Int × Int)) (a : Int × Int) (n : Nat), Sh a → Bd n a → (∀ x ∈ l, Sh x ∧ Bd 70 x) → Bd (n + 71 * l.length) (sumS a l)
  | [], _, _, _, b, _ => b
  | x :: l, a, n, h, b, hl => by
    have hx := hl x List.mem_cons_self
    have z := sum_bd l (pl a x) (n + 70 + 1) (pl_sh h hx.1) (pl_bd h hx.1 b hx.2) fun y hy => hl y (List.mem_cons_of_mem _ hy)
    have e : n + 70 + 1 + 71 * l.length = n + 71 * (x :: l).length := by rw [List.length_cons]; omega
    rw [e] at z
    exact z
/-! the greatest number that divides both, by turns -/
theorem gcd_turn {a b : Int} (ha : 0 ≤ a) (hb : 0 < b) : Int.gcd b (a.fmod b) = Int.gcd a b := by
  rw [Int.fmod_eq_emod_of_nonneg _ (by omega)]
  show Nat.gcd b.natAbs (a % b).natAbs = Nat.gcd a.natAbs b.natAbs
  have e : (a % b).natAbs = a.natAbs % b.natAbs := by
    rw [Int.natAbs_emod_of_nonneg ha]
  rw [e, Nat.gcd_comm a.natAbs b.natAbs, Nat.gcd_rec b.natAbs a.natAbs, Nat.gcd_comm]
theorem gI_abs {a b : Int} : gI (if a < 0 then -a else a) (if b < 0 then -b else b) = gI a b := by
  unfold gI
  congr 1
  show Nat.gcd _ _ = Nat.gcd _ _
  have e : ∀ x : Int, (if x < 0 then -x else x).natAbs = x.natAbs := fun x => by split <;> omega
  rw [e a, e b]
theorem gI_bd {a b : Int} {n : Nat} (h : b ≠ 0) (hb : b.natAbs < 2 ^ n) : 0 < gI a b ∧ (gI a b).natAbs < 2 ^ n := by
  have g0 : 0 < Int.gcd a b := by
    rcases Nat.eq_zero_or_pos (Int.gcd a b) with e | e
    · exact absurd (Int.gcd_eq_zero_iff.mp e).2 h
    · exact e
  have d : Int.gcd a b ∣ b.natAbs := Nat.gcd_dvd_right _ _
  have l := Nat.le_of_dvd (by omega) d
  unfold gI
  constructor
  · omega
  · have e : ((Int.gcd a b : Nat) : Int).natAbs = Int.gcd a b := Int.natAbs_natCast _
    rw [e]
    omega
theorem lw_1 (t : Int) : lw t 1 = (t, 1) := by
  unfold lw gI
  rw [if_neg (by decide), Int.gcd_one]
  simp
end Gs

namespace Gs
open PySem PySem.Spec PyProof.Rows L2
/-! ### a caught error, kept behind its suite -/
/-- the error object of the class cls at a, its own dict d -/
def ExK (cls : Value) (d : Option Addr) (a : Addr) : HO :=
  .ext fun h => ∃ (o : Obj) (fs : Array Value), h.get? a = some o ∧ Zc cls d o ∧ o.data = .fields fs
section
variable {X : Cx} {pins : List (Addr × Obj)} {σ : L2.St} {H : Hp} {s : Shared}
theorem track {a : Addr} {o : Obj} {cls : Value} {d : Option Addr} {fs : Array Value}
    (I : Inv X ((a, o) :: pins) σ H s) (n0 : X.s_0.heap.get? a = none)
    (np : ∀ p ∈ X.pn ++ pins, p.1 ≠ a) (z : Zc cls d o) (hd : o.data = .fields fs) :
    Inv X pins σ (upd H a (ExK cls d a)) s := by
  have P := I.pin (a, o) (List.mem_append.mpr (.inr List.mem_cons_self))
  have g : s.heap.get? a = some o := P.1
  have hn : H a = none := P.2.1
  have b := I.base
  have nt : ∀ {c u}, H c = some u → c ≠ a := fun e => ne_of_none e hn
  have n1 : ∀ {c u}, X.s_0.heap.get? c = some u → c ≠ a := fun e q => by
    rw [q, n0] at e
    cases e
  refine ⟨I.ok, I.os, I.bare, ⟨b.keep, b.slot, ?_, b.there, ?_, ?_, ?_⟩, I.loc, I.cell, ?_, ?_, ?_, ?_, I.len⟩
  · intro c u e n x
    rw [upd_ne (n1 e)]
    exact b.free c u e n x
  · intro c xs e
    have q := b.tups c xs e
    rw [upd_ne (nt q)]
    exact q
  · intro c u v e
    have q := b.frzs c u v e
    rw [upd_ne (nt q)]
    exact q
  · intro c ps e
    obtain ⟨m, q⟩ := b.tbls c ps e
    refine ⟨m, ?_⟩
    rw [upd_ne (nt q)]
    exact q
  · rw [upd_ne (fun e => P.2.2.1 e.symm)]
    exact I.free
  · intro x c e
    have ne : c ≠ a := fun q => by
      obtain ⟨v, u, e1, e2⟩ := I.cell x c e
      rw [q, g] at e1
      cases e1
      exact P.2.2.2.2 _ e2
    rw [upd_ne ne]
    exact I.freeC x c e
  · intro p hp
    have hm : p ∈ X.pn ++ (a, o) :: pins := by
      rcases List.mem_append.mp hp with h | h
      · exact List.mem_append.mpr (.inl h)
      · exact List.mem_append.mpr (.inr (List.mem_cons_of_mem _ h))
    obtain ⟨e1, e2, e3⟩ := I.pin p hm
    refine ⟨e1, ?_, e3⟩
    rw [upd_ne (np p hp)]
    exact e2
  · refine HOk.laidN I.hok (fun _ _ e => e) hn ?_
    exact ⟨⟨o, fs, g, z, hd⟩, ⟨o, g⟩, fun h1 h2 ⟨o1, f1, e1, r⟩ k => ⟨o1, f1, k o1 e1, r⟩⟩
end
/-- what 'except x as n: y = n' wishes of an error of the body; slots i of n, j of y -/
def wKeep (K : PySem.W.Frag) (c : Value) (i j : Nat) (W0 : WX) (D : Ends) : WX := fun cls d σ H =>
  ∃ b, PySem.W.exmOne K cls c = some b ∧
    (b = true → ∀ a, H a = none → D.nx (((σ.set i (some (.ref a))).set j (some (.ref a))).set i none) (upd H a (ExK cls d a))) ∧
    (b = false → W0 cls d σ H)
section
variable {X : Cx} {x n y : Str} {c : Value} {i j : Nat} {body : List Stmt} {p1 p2 p3 np pos pos' : Pos} {tb : WX → TS} {W0 : WX}
theorem ps_try_kept (hs : X.stack = X.env :: X.outer) (hf : X.env.frame = some X.env.locals) (hex : X.ex = [])
    (hN : X.N.Nodup) (hi : X.N[i]? = some n) (hj : X.N[j]? = some y)
    (hln : X.env.kindOf n = some .local) (hly : X.env.kindOf y = some .local)
    (hdn : (n == ("__debug__" : Str)) = false) (hcn : (n == ("__classdict__" : Str)) = false)
    (hlt : i < X.N.length) (hij : i ≠ j)
    (hc : Names X x c) (tk : Takes X W0)
    (hsw : swapsWith (.Name n p2) (some (.Name y p1)) p3.line X.env = pure false)
    (hb : ∀ (W : WX) (pn : List (Addr × Obj)) (xe : Value → Shared → Prop), Takes (X.tr pn xe) W →
      PassesOwn (model X.prog X.w) X.A X.env xe → PSs (X.tr pn xe) body (tb W)) :
    PS X (.Try body [.ExceptHandler (some (.Name x np)) (some n) [.Assign [.Name y p1] (.Name n p2) p3] pos'] [] [] pos)
      (fun D σ H => tb (wKeep X.K c i j W0 D) D σ H) := by
  constructor
  intro pins s σ H D I h
  have ok := I.ok
  have hfr : X.A.frames = some (X.env :: X.outer) := by
    rw [ok.frames, hs]
  refine wpAny_Try_except ?_
  let hh : List ExceptHandler := [.ExceptHandler (some (.Name x np)) (some n) [.Assign [.Name y p1] (.Name n p2) p3] pos']
  let xe' : Value → Shared → Prop := fun e s₁ =>
    wpAny (model X.prog X.w) X.A (noteFrame e X.env) (fun _ s₂ =>
      wpAny (model X.prog X.w) X.A (setFlight e none) (fun _ s₃ =>
        wpAny (model X.prog X.w) X.A (handleBy e X.env hh) (SP X pins D) X.xe s₃) X.xe s₂) X.xe s₁
  have tk' : Takes (X.tr (X.pn ++ pins) xe') (wKeep X.K c i j W0 D) := by
    intro u s' xx
    obtain ⟨a, B, sI, pins', σ', H', cls, d, eu, J', nb, up, sky, na, os, ag, b, hb1, hyes, hno⟩ := xx
    subst eu
    have J : Inv X pins σ' H' sI := J'.ofTry ok
    have sky' : Sky B (X.env :: X.outer) a (Zc cls d) X.env.locals s'.heap := by
      rw [← hs]
      exact sky
    show wpAny (model X.prog X.w) X.A (noteFrame (.ref a) X.env) _ _ _
    refine Sky.land Zc.steady hfr hf sky' fun h3 fl3 up3 => ?_
    have J3 : Inv X pins σ' H' { s' with heap := h3 } := Inv.landed J nb fl3.1 (up.trans up3) os ag
    obtain ⟨o3, v3, e3, z3, d3⟩ := fl3.there
    have nfr : a ∉ frs (X.env :: X.outer) := by
      intro hm
      obtain ⟨_, o', e', q⟩ := fl3.2.2.1.mem hm
      rw [e3] at e'
      cases e'
      exact q _ d3
    have nL : a ≠ X.env.locals := fun z => nfr (by
      refine List.mem_filterMap.mpr ⟨X.env, List.mem_cons_self, ?_⟩
      rw [hf, z])
    have nF : a ∉ X.fs := fun hm => by
      obtain ⟨e, he, q⟩ := List.mem_filterMap.mp hm
      exact nfr (List.mem_filterMap.mpr ⟨e, List.mem_cons_of_mem _ he, q⟩)
    have new : sI.heap.get? a = none := by
      cases q : sI.heap.get? a with
      | none => rfl
      | some o =>
        have q2 := nb a o q (by rw [hs]; exact nfr)
        rw [fl3.2.1] at q2
        cases q2
    have n0 : X.s_0.heap.get? a = none := by
      cases q : X.s_0.heap.get? a with
      | none => rfl
      | some o =>
        obtain ⟨o', q2⟩ := J.base.there a o q (by rw [hex]; exact List.not_mem_nil)
        rw [new] at q2
        cases q2
    have npn : ∀ p ∈ X.pn ++ pins, p.1 ≠ a := fun p hp q => by
      have q2 := (J.pin p hp).1
      rw [q, new] at q2
      cases q2
    have S3 := J3.suite e3 d3 na nL nF
    refine wpAny_handleBy_cons (codeAny_handlers_test ?_) (by intro q; cases q)
    have LT : PySem.W.Looks (model X.prog X.w) h3 (typeOf (.ref a)) cls := by
      intro A Q E s k q
      refine wpAny_typeOf_ref (k _ _ e3) ?_
      rw [z3.1]
      exact q
    have LM := PySem.W.exm_one (M := model X.prog X.w) J3.kIn LT hb1
    have look : ∀ {Q : Value → Shared → Prop} {E : Value → Shared → Prop}, Q c { s' with heap := h3 } →
        wpAny (model X.prog X.w) (X.A.mark (some (.ref a))) (eval (.Name x np) X.env) Q E { s' with heap := h3 } := by
      intro Q E q
      obtain ⟨hg, hdbg, hm | ⟨hm, hv, hnn⟩⟩ := hc
      · exact ld_glob (X := X.suite a ((a, o3) :: (X.pn ++ pins))) S3 hg hm q hdbg
      · exact ld_blt (X := X.suite a ((a, o3) :: (X.pn ++ pins))) S3 hg hm hv q hnn hdbg
    refine look (LM.here ?_)
    cases b with
    | true =>
      refine codeAny_handlers_suite_as ?_
      refine HandSPX.lands_againZ fl3 fun h4 fl4 up4 => ?_
      have J4 : Inv X pins σ' H' { s' with heap := h4 } := Inv.landed J nb fl4.1 ((up.trans up3).trans up4) os ag
      obtain ⟨o4, v4, e4, z4, d4⟩ := fl4.there
      have S4 := J4.suite e4 d4 na nL nF
      refine store_ok (X := X.suite a ((a, o4) :: (X.pn ++ pins))) (v := .ref a) S4 hN hi (.inl hln) rfl (fun s5 S5 => ?_) (.inr hln)
      have st : PSs (X.suite a ((a, o4) :: (X.pn ++ pins))) [.Assign [.Name y p1] (.Name n p2) p3] _ :=
        pss_one (ps_set (i := j) hN hj (.inl hly) (pe_var hi (.inl hln) hdn hcn) hsw (.inr hly))
      have len : i < σ'.length := by
        rw [J.len]
        exact hlt
      have sl : (σ'.set i (some (V.ref a)))[i]? = some (some (V.ref a)) := by
        rw [List.getElem?_set_self len]
      refine wpAny_mono (st.run [] s5 _ H' { nx := fun σ6 H6 => σ6 = (σ'.set i (some (.ref a))).set j (some (.ref a)) ∧ H6 = H', rt := fun _ _ => False } S5 ⟨.ref a, sl, rfl, rfl⟩) (fun f s6 hsp => ?_) (fun _ _ z => False.elim z)
      cases f with
      | next =>
        obtain ⟨σ6, H6, S6, e6, e7⟩ := hsp
        subst e6
        subst e7
        have T6 : Inv X ((a, o4) :: pins) _ H6 s6 := ⟨ok, S6.os, S6.bare, S6.base, S6.loc, S6.cell, S6.free, S6.freeC, (fun p hp => S6.pin p (by
          show p ∈ ((a, o4) :: (X.pn ++ pins)) ++ []
          rw [List.append_nil]
          rcases List.mem_append.mp hp with h | h
          · exact List.mem_cons_of_mem _ (List.mem_append.mpr (.inl h))
          · rcases List.mem_cons.mp h with h | h
            · rw [h]
              exact List.mem_cons_self
            · exact List.mem_cons_of_mem _ (List.mem_append.mpr (.inr h)))), S6.hok, S6.len⟩
        refine gone_ok T6 hN hi hln fun s7 J7 => ?_
        exact ⟨_, _, track J7 n0 npn z4 d4, hyes rfl a na⟩
      | brk =>
        obtain ⟨_, _, _, q⟩ := hsp
        exact False.elim q
      | cont =>
        obtain ⟨_, _, _, q⟩ := hsp
        exact False.elim q
      | ret u =>
        obtain ⟨_, _, _, _, _, q⟩ := hsp
        exact False.elim q
    | false =>
      show wpAny _ X.A (handleBy (.ref a) X.env []) _ _ _
      refine wpAny_handleBy_nil ?_
      have T3 := fl3.2.2.2
      obtain ⟨oe, fv, T, oT, ts', he, hz, hd, h1, hr⟩ := T3
      unfold PySem.passOn
      refine wpAny_bind (wpAny_field he hd h1 ?_)
      rw [if_neg (by simp)]
      have fin : wpAny (model X.prog X.w) X.A (setFlight (.ref a) X.env.frame)
          (fun _ s4 => wpAny (model X.prog X.w) X.A (throw (.ref a) : Sem Flow) (SP X pins D) X.xe s4) X.xe { s' with heap := h3 } := by
        rw [hf]
        refine HandSPX.setFlight_upZ fl3 fun h4 hh4 up4 => wpAny_throw (tk _ _ ?_)
        refine ⟨a, B, sI, pins, σ', H', cls, d, rfl, J, nb, (up.trans up3).trans up4, .inr (.inr ?_), na, os, ag, hno rfl⟩
        rw [hs]
        exact hh4
      first
        | exact wpAny_bind (wpAny_pure (wpAny_bind fin))
        | exact wpAny_bind fin
  refine wpAny_mono ((hb _ (X.pn ++ pins) xe' tk' PassesOwn.looking).run [] s σ H D (I.toTry _) h) (fun f s1 hsp => ?_) (fun _ _ he => he)
  cases f with
  | next =>
    obtain ⟨σ', H', J', q⟩ := hsp
    exact wpAny_execs_nil ⟨σ', H', J'.ofTry ok, q⟩
  | brk =>
    obtain ⟨σ', H', J', q⟩ := hsp
    exact ⟨_, _, J'.ofTry ok, q⟩
  | cont =>
    obtain ⟨σ', H', J', q⟩ := hsp
    exact ⟨_, _, J'.ofTry ok, q⟩
  | ret u =>
    obtain ⟨v, σ', H', J', r, q⟩ := hsp
    exact ⟨_, _, _, J'.ofTry ok, r, q⟩
/-- isinstance(e, c) of a kept error -/
theorem call_isK {D : Addr} (C : ExcC X.K D) : CallR X (.builtin "isinstance") (fun xs H Q => ∃ (a : Addr) (t : V) (tv : Value) (b : Bool),
    xs = [.ref a, t] ∧ H a = some (ExK (.ref D) none a) ∧ (∀ u, RelV t u → u = tv) ∧ PySem.W.kitOne X.K (.ref D) tv = some b ∧ Q (.bl b) H) := by
  intro pins s σ H xs us Q I r h
  obtain ⟨a, t, tv, b, rfl, ha, ht, e, q⟩ := h
  cases r with
  | cons rx rr =>
    cases rr with
    | cons rt rr =>
      cases rr
      cases rx
      have ec := ht _ rt
      subst ec
      obtain ⟨⟨o, fs, g, z, hv⟩, _, _⟩ := I.hok a _ ha
      have W : PySem.W.InstAt s.heap a o D none := by
        obtain ⟨oc, od, oda, osl⟩ := o
        obtain ⟨h1, h2⟩ := z
        dsimp only at h1 h2 hv
        subst h1 h2 hv
        exact ⟨g, rfl, rfl, trivial⟩
      have kit := PySem.W.handS_kitx_exc (x := a) (ox := o) C.hg C.hk C.hs C.hd C.ha C.hn C.ht C.hm
      exact PySem.W.kia_one kit I.kIn W e (fun z => nomatch z) fun tk => ⟨.bl b, H, I.kept (t' := tk) fun _ _ z => z, rfl, q⟩
/-- repr of data, where no other repr is under way -/
theorem call_reprD (hg : X.A.guards = some []) (hu : X.A.units + 64 < cLine) : CallR X (.builtin "repr") (fun xs H Q => ∃ (a : Addr) (d : PyData),
    xs = [.ref a] ∧ Dp X.K H (.ref a) d ∧ d.showable = true ∧ d.hasDict = false ∧ d.depth ≤ 60 ∧ d.shown.length ≤ sizeLine ∧ Q (.str d.shown) H) := by
  intro pins s σ H xs us Q I r h
  obtain ⟨a, d, rfl, hd, h1, h2, h3, h4, q⟩ := h
  obtain ⟨u, rfl, ru⟩ := vals1 r
  cases ru
  obtain ⟨as, rd⟩ := Dp.reads I d _ _ hd rfl
  exact repr_of_reads' rd h1 (PyData.noDict_hsm h2) hg (by omega) (fun _ _ e => e) (fun h' u tk k => ⟨.str d.shown, H, I.kept k, ⟨u, rfl⟩, q⟩) h4
/-- // by any number but nought, below 2 ^ 9000 in size -/
theorem op_fdivZ : OpR X (binaryOp .FloorDiv) (rI (fun _ k => k ≠ 0 ∧ k.natAbs.log2 < 9000) fun m k => .int (m.fdiv k)) :=
  opI fun _ _ _ _ _ _ _ hc q => floordiv_int hc.1 q (.inl (PyProof.noPylong_of_log2 hc.2))
end
end Gs

namespace Gs
open PySem PySem.Spec PyProof.Rows L2
section
variable {P : Program} {w : World} {K : PySem.W.Frag} {mg : Str → Option Value} {f : Addr}
/-- a def's body, run at one place alone -/
theorem body_at {A : Around} {base : Heap} {name qual : Str} {params : Arguments} {body : List Stmt} {scope : Scope} {dV kV doc pm cdv ct oc : Value} {an od : Option Addr} {osl : Array (Option Value)}
    {N ps : List Str} {k : Nat} {s : Shared} {H : Hp} {vs : List V} {us : List Value} {args : Args} {Q : VK} {E : XK}
    (lk : K.lookup f = some ⟨oc, od, .func (PySem.W.fnOf name qual params body scope dV kV doc pm an cdv ct), osl⟩)
    (hcd : PySem.W.codeIn K cdv qual = true) (S : FnScope N ps scope) (hl : vs.length = ps.length) (hr : Room (k + 1) A)
    (e0 : Env0 P w K mg base A [] s H) (hb : BindsTo s (PySem.W.fnOf name qual params body scope dV kV doc pm an cdv ct) args (ps.zip us)) (r : Vals vs us)
    (hbody : Room k (A.deeper (envOfC qual scope s.heap.objs.size f cdv)) →
      ∃ t, PSs (cxOf CX0 P w K mg base N qual scope f cdv A [] s H E).nox body t ∧
        t { nx := fun _ H' => Q .non H', rt := Q } (start N vs) H) :
    codeAny (model P w) A (.call (.ref f) args) (CR CX0 [] P w H s Q E) s := by
  have kk : ∀ b o, base.get? b = some o → s.heap.get? b = some o := fun b o e => (e0.bs b o e).1
  have KX : K.In s.heap := e0.mod.kin.keeps kk
  have lim : s.heap.NoLimit := e0.mod.nolimit.keeps kk
  have kinds : ∀ q ∈ ps.zip us, scope.names.lookup q.1 = some .local ∨
      (scope.names.lookup q.1 = some .cell ∧ ((cellsFrom (s.heap.objs.size + 1) scope.names []).lookup q.1).isSome = true) := by
    intro q hq
    rcases S.par q.1 (List.of_mem_zip (a := q.1) (b := q.2) hq).1 with z | z
    · exact .inl z
    · exact .inr ⟨z, PySem.W.cellsFrom_some _ _ _ (.inl z)⟩
  refine codeAny_call_function hr.depth (KX _ _ lk) rfl S.co S.gen rfl (PySem.W.codeRec_of KX hcd) (hb _ _ _ _ ?_)
  refine wpAny_newFunctionEnv_cells S.kind kinds fun env he s1 x => ?_
  subst he
  refine ⟨lim.keeps x.toInCall.keep, codeAny_func ?_⟩
  obtain ⟨t, ht, hq⟩ := hbody (hr.deeper _)
  have I : Inv (cxOf CX0 P w K mg base N qual scope f cdv A [] s H E) [] (start N vs) H s1 := inv_start S hr.hd e0 hl r x
  refine wpAny_mono (ht.nox.run [] s1 (start N vs) H _ I hq) (fun fl s' hs => ?_) fun e s' hs => hs
  cases fl with
  | ret u =>
    obtain ⟨v, σ', H', J, rv, q⟩ := hs
    exact ⟨v, H', J.os, J.bare, J.base, J.hok, rv, q⟩
  | next =>
    obtain ⟨σ', H', J, q⟩ := hs
    exact ⟨.non, H', J.os, J.bare, J.base, J.hok, rfl, q⟩
  | brk =>
    obtain ⟨_, _, _, q⟩ := hs
    exact q.elim
  | cont =>
    obtain ⟨_, _, _, q⟩ := hs
    exact q.elim
/-- the law's call, from the promise at the caller's own place -/
theorem law_at {mb : Str → Option Value} {a : Addr} {s₁ : Shared} {vs : List Value} {ns : List Int}
    (KX : K.In s₁.heap) (hns : s₁.heap.Ns mainGlobals mg) (hbt : s₁.heap.Ns builtinsNs mb) (hbb : ∀ x : Str, x ≠ "__name__" → mb x = bootBuiltins x)
    (hlim : s₁.heap.NoLimit) (hg : s₁.gens = #[])
    (ha : s₁.heap.get? a = some { cls := .type "list", data := .seq vs.toArray }) (hi : IntsAre vs ns) (hl : ns.length ≤ sizeLine)
    (F : ∀ (base : Heap) (H : Hp), K.In base → base.Ns mainGlobals mg → SqL K H a (ns.map V.int) → Env0 P w K mg base callerA [] s₁ H →
      codeAny (model P w) callerA (.call (.ref f) ⟨[.ref a], []⟩) (CR CX0 [] P w H s₁ (fun v _ => v = .bl true) fun _ _ _ => False) s₁) :
    codeAny (model P w) callerA (.call (.ref f) ⟨[.ref a], []⟩)
      (fun r s' => r = .ok (.ret (.bool true)) ∧ OldK s₁.heap s'.heap ∧ s'.os = s₁.os ∧ AllBare s'.gens) s₁ := by
  have rv := vals_ints hi
  let so : Obj := { cls := .type "list", data := .seq vs.toArray }
  have go : ∀ H : Hp, (∀ b u, H b = some u → b = a ∧ u = .frz so (.lst (ns.map V.int)) ∧ K.lookup a = none) → SqL K H a (ns.map V.int) → HOk P w H s₁.heap →
      codeAny (model P w) callerA (.call (.ref f) ⟨[.ref a], []⟩)
        (fun r s' => r = .ok (.ret (.bool true)) ∧ OldK s₁.heap s'.heap ∧ s'.os = s₁.os ∧ AllBare s'.gens) s₁ := by
    intro H hH hS hok
    have stays : ∀ {b : Addr} {o : Obj}, s₁.heap.get? b = some o → b ≠ a → (hidT s₁.heap H).get? b = some o := by
      intro b o e nb
      refine hidT_get e ?_
      cases q : H b with
      | none => rfl
      | some u => exact absurd (hH b u q).1 nb
    have nsd : ∀ {b : Addr} {m : Str → Option Value}, s₁.heap.Ns b m → (hidT s₁.heap H).Ns b m := by
      intro b m ⟨o, es, ep, e, d, z⟩
      refine ⟨o, es, ep, stays e ?_, d, z⟩
      intro eb
      subst eb
      rw [ha] at e
      cases e
      have d' : Data.seq vs.toArray _ = Data.dict es ep := d
      cases d'
    have kin : K.In (hidT s₁.heap H) := by
      intro b o e
      refine hidT_get (KX b o e) ?_
      cases q : H b with
      | none => rfl
      | some u =>
        obtain ⟨e1, _, e2⟩ := hH b u q
        rw [e1, e2] at e
        cases e
    have md : Mod K mg (hidT s₁.heap H) := by
      obtain ⟨mc, h1, h2⟩ := hlim
      exact ⟨kin, nsd hns, ⟨mb, nsd hbt, hbb⟩, ⟨mc, nsd h1, h2⟩⟩
    have e0 : Env0 P w K mg (hidT s₁.heap H) callerA [] s₁ H := by
      refine ⟨rfl, md, fun b o e => of_hidT e, Nat.le_of_eq (hidT_size _ _), trivial, ?_, hok, .of_eq hg⟩
      intro b z
      exact absurd (show b ∈ ([] : List Addr) from z) List.not_mem_nil
    refine codeAny_mono (F _ H kin (nsd hns) hS e0) fun r s' h => ?_
    cases r with
    | error e => exact False.elim h
    | ok fl =>
      cases fl with
      | next => exact False.elim h
      | brk => exact False.elim h
      | cont => exact False.elim h
      | ret u =>
        obtain ⟨v, H', os, bare, un, hok', r', q⟩ := h
        have q' : v = .bl true := q
        subst q'
        obtain rfl : u = Value.bool true := r'
        refine ⟨rfl, OldK.of_keep fun b o e => ?_, os, bare⟩
        cases q : H b with
        | none =>
          exact un.keep b o e q (fun z => absurd (show b ∈ ([] : List Addr) from z) List.not_mem_nil) List.not_mem_nil
        | some u =>
          obtain ⟨e1, e2, _⟩ := hH b u q
          rw [e2] at q
          have z2 := un.frzs b so _ q
          obtain ⟨e3, _⟩ := hok' b _ z2
          rw [e1, ha] at e
          cases e
          exact e3
  cases hk : K.lookup a with
  | some o =>
    have e := KX a o hk
    rw [ha] at e
    cases e
    refine go (fun _ => none) (fun b u z => by cases z) (.inr ⟨_, vs.toArray, _, hk, rfl, rfl, rfl, ?_, by simpa using rv⟩) (fun b u z => by cases z)
    rw [List.size_toArray, hi.length]
    exact hl
  | none =>
    refine go (fun b => if b = a then some (.frz so (.lst (ns.map V.int))) else none) (fun b u z => ?_) (.inl (.inr ⟨so, if_pos rfl⟩)) (fun b u z => ?_)
    · by_cases eb : b = a
      · have z' := (if_pos eb).symm.trans z
        cases z'
        exact ⟨eb, rfl, hk⟩
      · have z' := (if_neg eb).symm.trans z
        cases z'
    · by_cases eb : b = a
      · have z' := (if_pos eb).symm.trans z
        cases z'
        subst eb
        exact ⟨ha, by rw [List.length_map]; exact hl, vs, _, rv, ha⟩
      · have z' := (if_neg eb).symm.trans z
        cases z'
end
/-- the goal that the head leaves -/
theorem walk_at1 {l : PySem.W.OpenLaw} {n : Nat} {q : Program} {loose : List Str} {XP : (Str → Option Value) → Heap → Prop} {YP : World → Heap → Prop} {d : DefRec} {K : Params → PySem.W.Frag}
    (hn : l.most = some n) (hn2 : n ≤ sizeLine) (hdf : d.params.defaults = [])
    (hY : ∀ (w : World) (h : Heap), YP w h → (K w.params).In h)
    (F : ∀ (w : World) (mg : Str → Option Value) (fa : Addr) (h : Heap), (K w.params).In h → h.Ns mainGlobals mg → mg d.name = some (.ref fa) →
      ∀ (base : Heap) (H : Hp) (s : Shared) (a : Addr) (ns : List Int), ns.length ≤ n → (K w.params).In base → base.Ns mainGlobals mg →
        SqL (K w.params) H a (ns.map V.int) → Env0 l.prog w (K w.params) mg base callerA [] s H →
        codeAny (model l.prog w) callerA (.call (.ref fa) ⟨[.ref a], []⟩) (CR CX0 [] l.prog w H s (fun v _ => v = .bl true) fun _ _ _ => False) s) :
    PySem.W.WalkO q loose XP YP l.row.toRowW d [] (fun f vs => PySem.call f vs) := by
  refine Att.attach_call hn hdf fun w s₀ s₁ mg mb fa o pm cd doc a vs ns G Y ho hd hcd hmg hobj hints hlen hg => ?_
  have KX := hY w _ Y
  refine law_at KX G.T.g G.T.b G.T.builtins G.T.nolimit hg hobj hints (Nat.le_trans hlen hn2) fun base H h1 h2 h3 h4 => ?_
  exact F w mg fa _ KX G.T.g hmg base H s₁ a ns hlen h1 h2 h3 h4
end Gs

namespace Gs
open PySem PySem.Spec PyProof.Rows L2
/-! ### defs that show data as text: promised where no repr is under way -/
structure FnG (P : Program) (w : World) (K : PySem.W.Frag) (mg : Str → Option Value) (base : Heap) (CX : CXT) (k : Nat) (f : Addr) (fd : FuncData) (ps : List Str) (sp : Sp) : Prop where
  len : ∀ vs H Q E, sp vs H Q E → vs.length = ps.length
  run : ∀ (A : Around) (outer : List Env) (s : Shared) (H : Hp) (args : Args) (us : List Value) (vs : List V) (Q : VK) (E : XK), A.guards = some [] → Room k A →
    Env0 P w K mg base A outer s H → BindsTo s fd args (ps.zip us) → Vals vs us → sp vs H Q E →
    codeAny (model P w) A (.call (.ref f) args) (CR CX outer P w H s Q E) s
section
variable {P : Program} {w : World} {K : PySem.W.Frag} {mg : Str → Option Value} {base : Heap}
theorem body_any {CX : CXT} {A : Around} {outer : List Env} {f : Addr} {name qual : Str} {params : Arguments} {body : List Stmt} {scope : Scope} {dV kV doc pm cdv ct oc : Value} {an od : Option Addr} {osl : Array (Option Value)}
    {N ps : List Str} {k : Nat} {s : Shared} {H : Hp} {vs : List V} {us : List Value} {args : Args} {Q : VK} {E : XK}
    (lk : K.lookup f = some ⟨oc, od, .func (PySem.W.fnOf name qual params body scope dV kV doc pm an cdv ct), osl⟩)
    (hcd : PySem.W.codeIn K cdv qual = true) (S : FnScope N ps scope) (hl : vs.length = ps.length) (hr : Room (k + 1) A)
    (e0 : Env0 P w K mg base A outer s H) (hb : BindsTo s (PySem.W.fnOf name qual params body scope dV kV doc pm an cdv ct) args (ps.zip us)) (r : Vals vs us)
    (hbody : Room k (A.deeper (envOfC qual scope s.heap.objs.size f cdv)) →
      ∃ t, PSs (cxOf CX P w K mg base N qual scope f cdv A outer s H E) body t ∧
        t { nx := fun _ H' => Q .non H', rt := Q } (start N vs) H) :
    codeAny (model P w) A (.call (.ref f) args) (CR CX outer P w H s Q E) s := by
  have kk : ∀ b o, base.get? b = some o → s.heap.get? b = some o := fun b o e => (e0.bs b o e).1
  have KX : K.In s.heap := e0.mod.kin.keeps kk
  have lim : s.heap.NoLimit := e0.mod.nolimit.keeps kk
  have kinds : ∀ q ∈ ps.zip us, scope.names.lookup q.1 = some .local ∨
      (scope.names.lookup q.1 = some .cell ∧ ((cellsFrom (s.heap.objs.size + 1) scope.names []).lookup q.1).isSome = true) := by
    intro q hq
    rcases S.par q.1 (List.of_mem_zip (a := q.1) (b := q.2) hq).1 with z | z
    · exact .inl z
    · exact .inr ⟨z, PySem.W.cellsFrom_some _ _ _ (.inl z)⟩
  refine codeAny_call_function hr.depth (KX _ _ lk) rfl S.co S.gen rfl (PySem.W.codeRec_of KX hcd) (hb _ _ _ _ ?_)
  refine wpAny_newFunctionEnv_cells S.kind kinds fun env he s1 x => ?_
  subst he
  refine ⟨lim.keeps x.toInCall.keep, codeAny_func ?_⟩
  obtain ⟨t, ht, hq⟩ := hbody (hr.deeper _)
  have I : Inv (cxOf CX P w K mg base N qual scope f cdv A outer s H E) [] (start N vs) H s1 := inv_start S hr.hd e0 hl r x
  refine wpAny_mono (ht.run [] s1 (start N vs) H _ I hq) (fun fl s' hs => ?_) fun e s' hs => hs
  cases fl with
  | ret u =>
    obtain ⟨v, σ', H', J, rv, q⟩ := hs
    exact ⟨v, H', J.os, J.bare, J.base, J.hok, rv, q⟩
  | next =>
    obtain ⟨σ', H', J, q⟩ := hs
    exact ⟨.non, H', J.os, J.bare, J.base, J.hok, rfl, q⟩
  | brk =>
    obtain ⟨_, _, _, q⟩ := hs
    exact q.elim
  | cont =>
    obtain ⟨_, _, _, q⟩ := hs
    exact q.elim
theorem okG {x qual : Str} {st : Stmt} {f : Addr} {fd : FuncData} {N ps : List Str} {k : Nat} {sp : Sp} (F : Fun K x qual st f fd) (S : FnScope N ps (defScope st)) (len : ∀ vs H Q E, sp vs H Q E → vs.length = ps.length)
    (hbody : ∀ (cdv : Value) (A : Around) (outer : List Env) (s : Shared) (H : Hp) (vs : List V) (Q : VK) (E : XK), A.guards = some [] →
      Room k (A.deeper (envOfC qual (defScope st) s.heap.objs.size f cdv)) → sp vs H Q E →
      ∃ t, PSs (cxOf CX0 P w K mg base N qual (defScope st) f cdv A outer s H E).nox (defBody st) t ∧
        t { nx := fun _ H' => Q .non H', rt := Q } (start N vs) H) : FnG P w K mg base CX0 (k + 1) f fd ps sp := by
  obtain ⟨oc, od, kV, doc, pm, an, cdv, ct, osl, rfl, lk, hcd⟩ := F.ex
  refine ⟨len, fun A outer s H args us vs Q E hg hr e0 hb r hsp => ?_⟩
  refine body_any lk hcd S (len _ _ _ _ hsp) hr e0 hb r fun hr' => ?_
  obtain ⟨t, h1, h2⟩ := hbody cdv A outer s H vs Q E hg hr' hsp
  exact ⟨t, h1.nox, h2⟩
end
section
variable {X : Cx} {CX : CXT} {k : Nat} {f : Addr} {fd : FuncData} {ps : List Str} {sp : Sp} {E : XK} {x : Str} {p pos : Pos} {e : Expr} {es : List Expr} {t : TA}
theorem pe_callG (F : FnG X.prog X.w X.K X.mg X.base CX k f fd ps sp) (gd : X.A.guards = some []) (hr : Room k X.A) (hg : Gl X x) (hm : X.mg x = some (.ref f)) (hk : PySem.W.keepIn X.K (.ref f) = true)
    (hb : Binds X.K fd ps []) (hx : Passes CX X E) (ha : PA X (e :: es) t) (hdb : (x == ("__debug__" : Str)) = false := by decide)
    (he : starEach (e :: es) X.env = (false, eval e X.env) :: starEach es X.env := by rfl) (hpl : (backTo pos (starEach es X.env)).any (·.1) = false := by rfl) :
    PE X (.Call (.Name x p) (e :: es) [] pos) (tCall sp [] E t) := by
  constructor
  intro pins s σ H Q I h
  refine wpAny_Call_Name_kw (ld_glob I hg hm ?_ hdb)
  refine PySem.W.callWith_K (h₀ := X.base) I.ok.mod.kin hk (thn (ha.run pos pins s σ H _ I h) ?_) he hpl
  intro us s1 ⟨vs, H1, I1, r, q⟩
  refine ⟨I1.kIn, ?_⟩
  have q' : sp vs H1 Q E := by
    have z : sp (vs ++ []) H1 Q E := q
    rw [List.append_nil] at z
    exact z
  have hl : (us ++ []).length = ps.length := by
    rw [List.append_nil, ← r.length]
    exact F.len _ _ _ _ q'
  have bt := hb s1 us I1.kIn hl
  rw [List.append_nil] at bt
  refine wpAny_call (codeAny_mono (F.run X.A X.stack s1 H1 ⟨us, []⟩ us vs Q E gd hr I1.env0 bt r q') ?_)
  intro res s' hq
  cases res with
  | error e => exact hx pins σ H1 s1 e s' I1 hq
  | ok fl =>
    cases fl with
    | ret u => exact I1.after hq
    | next => exact hq.elim
    | brk => exact hq.elim
    | cont => exact hq.elim
/-- f(k = v, ..): keywords alone -/
theorem pe_callS0 {ks : List Str} {kws : List Keyword} {tk : TA} {W : L2.St → XK} {g : List Value → List Value → List Value} {gV : List V → List V → List V}
    (F : FnOk X.prog X.w X.K X.mg X.base CX k f fd ps sp) (hr : Room k X.A) (hg : Gl X x) (hm : X.mg x = some (.ref f)) (hk : PySem.W.keepIn X.K (.ref f) = true)
    (hb : KBn X.K fd ps 0 ks g gV) (hx : ∀ σ, PassesAt CX X σ (W σ)) (hkw : PK X kws tk)
    (hall : (backToKw pos (keywordEach kws X.env)).all (·.1.isSome) = true := by rfl) (hks : (backToKw pos (keywordEach kws X.env)).filterMap (·.1) = ks := by rfl)
    (hdb : (x == ("__debug__" : Str)) = false := by decide)
    (hpl : ((backTo pos (starEach [] X.env)).any (·.1) || (backToKw pos (keywordEach kws X.env)).any (·.1.isNone)) = false := by rfl) :
    PE X (.Call (.Name x p) [] kws pos) (fun σ H Q => tk σ H fun zs H1 => zs.length = ks.length ∧ sp (gV [] zs) H1 Q (W σ)) := by
  constructor
  intro pins s σ H Q I h
  refine wpAny_Call_Name_kw (ld_glob I hg hm ?_ hdb)
  refine PySem.W.callWith_KW0 (h₀ := X.base) I.ok.mod.kin hk hall ?_ hpl
  refine thn (hkw.run pos pins s σ H _ I h) ?_
  intro ws s2 ⟨zs, H2, I2, rz, l2, q2⟩
  refine ⟨I2.kIn, ?_⟩
  rw [hks]
  have r2 := hb.rel (vs := []) (us := []) .nil rz
  refine wpAny_call (codeAny_mono (F.run X.A X.stack s2 H2 ⟨[], ks.zip ws⟩ (g [] ws) (gV [] zs) Q (W σ) hr I2.env0 (hb.to s2 [] ws I2.kIn rfl (rz.length.symm.trans l2)) r2 q2) ?_)
  intro res s' hq
  cases res with
  | error e => exact hx σ pins H2 s2 e s' I2 hq
  | ok fl =>
    cases fl with
    | ret u => exact I2.after hq
    | next => exact hq.elim
    | brk => exact hq.elim
    | cont => exact hq.elim
/-- G.__init__(self, ..), G an own class that takes ValueError's -/
theorem pe_ownInit {G : Addr} {mc : Value} {y : Str} {p1 p2 : Pos} {ta : TA} {pl : Sem Bool} (hg : Gl X y) (hm : X.mg y = some (.ref G)) (hdb : (y == ("__debug__" : Str)) = false)
    (hga : PySem.W.specialIn X.K (.ref G) "__getattribute__" = some (some (.builtin "type.__getattribute__"))) (hr : PySem.W.readsIn X.K G mc = true)
    (hv : PySem.W.findCls X.K (.ref G) mc "__init__" = some (.val (.builtin "ValueError.__init__"))) (ha : PA X (e :: es) ta)
    (hc : eval (.Call (.Attribute (.Name y p1) "__init__" p2) (e :: es) [] pos) X.env = (do
      let ov ← eval (.Name y p1) X.env
      standAt p2.atName
      let (f, first) ← holding [ov] (getMethod ov "__init__" pl)
      callWith pos f first (backTo pos (starEach (e :: es) X.env)) (backToKw pos (keywordEach [] X.env))))
    (he : starEach (e :: es) X.env = (false, eval e X.env) :: starEach es X.env) (hpl : (backTo pos (starEach es X.env)).any (·.1) = false) :
    PE X (.Call (.Attribute (.Name y p1) "__init__" p2) (e :: es) [] pos) (tVeI X.K ta) := by
  constructor
  intro pins s σ H Q I h
  refine PySem.W.methodCall_KW (ld_glob I hg hm ?_ hdb) hc
  refine PySem.W.method_cls I.kIn hga (PySem.W.cls_value I.kIn hr hv (by decide +kernel) ?_)
  show wpAny _ _ (callWith pos (Value.builtin "ValueError.__init__") [] (backTo pos (starEach (e :: es) X.env)) []) _ _ _
  refine PyProof.Rows.callWith_method1 (thn (ha.run pos pins _ σ H _ (I.tok _) h) ?_) he hpl
  intro us s1 ⟨vs, H1, I1, r1, a, C, ws, ev, hl, T, ea, q⟩
  subst ev
  cases r1 with
  | @cons _ u0 _ ur ra rw' =>
    obtain rfl : u0 = Value.ref a := ra
    refine oinit_ok T I1 ea ?_ fun s' J => ⟨.non, H1, J, rfl, q⟩
    rw [← Paired.length rw', sizeLine_eq]
    omega
/-- a field of a kept error -/
theorem pe_fldK {C : Addr} {n : Str} {te : TE} (T : XfC X.K C) (hno : PySem.W.findIn X.K (.ref C) n = some none) (he : PE X e te) (hb : attributeBase e n X.env (eval e X.env) = eval e X.env := by rfl) :
    PE X (.Attribute e n pos) (fun σ H Q => te σ H fun z H1 => ∃ (a d : Addr) (fs : List (Str × V)) (v : V), z = .ref a ∧ H1 a = some (ExK (.ref C) (some d) a) ∧ H1 d = some (.xd fs) ∧ fs.lookup n = some v ∧ Q v H1) := by
  constructor
  intro pins s σ H Q I h
  refine attr_of hb (thn (he.run pins s σ H _ I h) ?_)
  intro u s1 ⟨z, H1, I1, rz, a, d, fs, v, ez, ea, ed, l, q⟩
  subst ez
  obtain rfl : u = Value.ref a := rz
  obtain ⟨⟨o, vs, ho, zc, hd⟩, _, _⟩ := I1.hok a _ ea
  obtain ⟨mA, hns, hr⟩ := (show ObjOk X.prog X.w H1 s1.heap d (.xd fs) from I1.hok d _ ed)
  obtain ⟨od, hod, hl⟩ := lookIn_ns hns
  obtain ⟨w, hw, rw'⟩ := RelO.some_of (v := v) (o := mA n) (by rw [← l]; exact hr n)
  have J : PySem.W.InstAt s1.heap a o C (some od) := by
    refine ⟨ho, zc.1, ?_, ?_⟩
    · unfold PySem.W.notCls
      rw [hd] <;> rfl
    · rw [zc.2]
      exact hod
  exact HandSPX.exc_get I1.kIn J T.ga T.gg T.exC (PySem.W.findObj_own T.hdC hno rfl (by rw [hl, hw])) (handed_of rw') ⟨v, H1, I1.tok _, rw', q⟩
end
end Gs

/-! the class of a caught error that has fields -/
namespace PySem.W
open PySem PySem.Spec PySem.Calls PyProof.Rows
section
variable {prog : Program} {w : World} {A : Around} {E : Value → Shared → Prop} {s : Shared} {K : Frag} {x D : Addr} {ox : Obj} {od : Option Obj}
theorem gs_findData {C : Addr} {nm : Str} {a g : Value} (hc : (clsIn K C).isSome = true) (ha : findIn K (.ref C) nm = some (some a))
    (hg : specialIn K a "__get__" = some (some g)) (ht : takesIn K a = some true) : findObj K C od nm = some (.bind g a) := by
  obtain ⟨cd, hcd⟩ := Option.isSome_iff_exists.mp hc
  unfold findObj
  rw [hcd, Option.bind_some, ha, Option.bind_some]
  simp [hg, ht]
theorem gs_class {Q : Option Value → Shared → Prop} (C : L2.ExcC K D) (X : K.In s.heap) (I : InstAt s.heap x ox D od)
    (h : Q (some (.ref D)) { s with toks := s.toks + 1 }) : wpAny (model prog w) A (getAttr? (.ref x) "__class__") Q E s := by
  obtain ⟨hga, hgt, hsub, hdct, ha, hn, htk, hm⟩ := C
  have hcl : (clsIn K D).isSome = true := by
    obtain ⟨cd, hc, _⟩ := any_some hdct
    rw [hc]
    rfl
  have hf : findObj K D od "__class__" = some (.bind (.builtin "getset_descriptor.__get__") (.builtin "object.__class__")) :=
    gs_findData hcl ha hn htk
  obtain ⟨hp, g, d, t, os⟩ := s
  have T0 := I.type (M := model prog w)
  have T1 := looks_findIn (M := model prog w) X hga
  have T2 := looks_findIn (M := model prog w) X hgt
  have T3 := looks_find (M := model prog w) X I hf
  have isE : Looks (model prog w) hp (isInstance (.ref x) (.type "BaseException")) true :=
    T0.andThen (looks_subIn X hsub)
  have c0 : (false && onTheHeap (Value.builtin "BaseException.__getattribute__")) = false := rfl
  have c1 : (onTheHeap (Value.ref D) && Value.builtin "BaseException.__getattribute__" == Value.builtin "object.__getattribute__") = false := by
    have c2 : (Value.builtin "BaseException.__getattribute__" == Value.builtin "object.__getattribute__") = false := by decide +kernel
    rw [c2]
    rfl
  unfold getAttr? getAttrBy? getAttrBy
  refine wpAny_bind (wpAny_mkText ?_)
  refine wpAny_bind (wpAny_attempt (wpAny_holding ?_))
  refine wpAny_bind (T0.at (wpAny_bind (T1.at ?_)))
  show wpAny _ _ (if (onTheHeap (Value.ref D) && _) = true then _ else _) _ _ _
  rw [c1, if_neg Bool.false_ne_true]
  unfold getAttrByItsOwn hookBefore
  refine wpAny_bind ?_
  rw [if_pos (show onTheHeap (Value.ref D) = true from rfl)]
  refine T2.at ?_
  refine wpAny_bind (wpAny_attempt (wpAny_holding ?_))
  unfold callGetattribute
  rw [c0, if_neg Bool.false_ne_true]
  unfold boundAndCalled
  rw [PySem.F.excAttr_ValueError.ga.bind (.ref x)]
  refine wpAny_bind (wpAny_pure ?_)
  show wpAny _ _ (call (.builtin "BaseException.__getattribute__") [.ref x, .str "__class__" t]) _ _ _
  refine wpAny_call (codeAny_call_builtin PySem.F.excAttr_ValueError.ga.plain PySem.F.entry_bexc_ga ?_)
  refine @check_slot (model prog w) _ _ ⟨hp, g, d, t + 1, os⟩ "BaseException.__getattribute__" "BaseException" "__getattribute__"
    (.ref x) [.str "__class__" t] [] _ (by decide +kernel) (by decide +kernel) isE (PySem.F.args_bexc_ga (.ref x) (.str "__class__" t)) ?_
  unfold Builtin.«object.__getattribute__»
  refine wpAny_bind ?_
  refine wpAny_of_eq (a := ((Value.ref x : Value), [Value.str "__class__" t])) (by first | rfl | (simp only [slotArgs]; rfl)) ?_
  refine wpAny_bind (wpAny_pure ?_)
  refine wpAny_bind (T0.at (wpAny_bind (T3.at ?_)))
  show wpAny _ _ (holding [Value.builtin "object.__class__"] (call (.builtin "getset_descriptor.__get__")
    [.builtin "object.__class__", .ref x, .ref D]) >>= ret) _ _ _
  refine wpAny_bind (wpAny_holding (wpAny_call ?_))
  refine class_get (s := ⟨hp, g, d, t + 1, os⟩) (ox := ox) (od := od) X I hm ?_
  refine wpAny_pure ?_
  show wpAny _ _ (handedOut (.ref D)) _ _ _
  rw [handedOut_of (v := .ref D) rfl]
  first
    | exact wpAny_pure (wpAny_pure h)
    | exact wpAny_pure h
    | exact wpAny_pure (wpAny_bind (wpAny_pure (wpAny_pure h)))
theorem gs_kit (C : L2.ExcC K D) : KitX K (.ref x) (.ref D) (fun h => InstAt h x ox D od) := by
  obtain ⟨cdD, hcD, _⟩ := any_some C.hd
  refine ⟨fun _ _ _ I => I.type, fun M h X _ => ?_, fun h tp dd its n sl X htp => ?_, fun X I k => gs_class C X I k⟩
  · unfold clsIn at hcD
    split at hcD
    · rename_i ho
      intro A' Q' E' s' k q
      unfold isType loadHead
      exact wpAny_bind (wpAny_loadPart (k _ _ (X _ _ ho)) (wpAny_pure q))
    · cases hcD
  · refine Bool.eq_false_iff.mpr fun q => ?_
    have e : D = tp := Value.ref.inj (beq_iff_eq.mp q)
    subst e
    unfold clsIn at hcD
    split at hcD
    · rename_i ho
      have z := (X _ _ ho).symm.trans htp
      cases z
    · cases hcD
end
end PySem.W
namespace Gs
open PySem PySem.Spec PyProof.Rows L2
section
variable {X : Cx}
/-- isinstance(e, c) of a kept error with fields -/
theorem call_isF {D : Addr} (C : ExcC X.K D) : CallR X (.builtin "isinstance") (fun xs H Q => ∃ (a d : Addr) (fs : List (Str × V)) (t : V) (tv : Value) (b : Bool),
    xs = [.ref a, t] ∧ H a = some (ExK (.ref D) (some d) a) ∧ H d = some (.xd fs) ∧ (∀ u, RelV t u → u = tv) ∧ PySem.W.kitOne X.K (.ref D) tv = some b ∧ Q (.bl b) H) := by
  intro pins s σ H xs us Q I r h
  obtain ⟨a, d, fs, t, tv, b, rfl, ha, hd, ht, e, q⟩ := h
  cases r with
  | cons rx rr =>
    cases rr with
    | cons rt rr =>
      cases rr
      cases rx
      have ec := ht _ rt
      subst ec
      obtain ⟨⟨o, vs, g, z, hv⟩, _, _⟩ := I.hok a _ ha
      obtain ⟨mA, hns, _⟩ := (show ObjOk X.prog X.w H s.heap d (.xd fs) from I.hok d _ hd)
      obtain ⟨od, hod, _⟩ := lookIn_ns hns
      have W : PySem.W.InstAt s.heap a o D (some od) := by
        refine ⟨g, z.1, ?_, ?_⟩
        · unfold PySem.W.notCls
          rw [hv] <;> rfl
        · rw [z.2]
          exact hod
      exact PySem.W.kia_one (PySem.W.gs_kit C) I.kIn W e (fun z => nomatch z) fun tk => ⟨.bl b, H, I.kept (t' := tk) fun _ _ z => z, rfl, q⟩
/-- [..], away from the table of modules -/
theorem pe_lstM {es : List Expr} {t : TA} {pos : Pos} (h : PA X es t) : PE X (.List es pos) (fun σ H Q => t σ H fun xs H1 => xs.length ≤ sizeLine ∧ ∀ p, H1 p = none → p ≠ sysModules → Q (.ref p) (upd H1 p (.lst xs))) := by
  constructor
  intro pins s σ H Q I hq
  refine wpAny_List_spliced (thn (h.run pos pins s σ H _ I hq) ?_)
  intro us s1 ⟨xs, H1, I1, r, z, q⟩
  refine ⟨by rw [← r.length]; exact z, ?_⟩
  have hf : H1 s1.heap.objs.size = none := I1.hok.fresh (Nat.le_refl _)
  have big := I1.big
  refine ⟨.ref s1.heap.objs.size, upd H1 s1.heap.objs.size (.lst xs), ?_, rfl, q _ hf (Nat.ne_of_gt big)⟩
  refine I1.laid (t' := s1.toks) (fun b u e => Heap.get?_push_of_some _ e) (Nat.le_refl _) ?_
  exact ⟨z, us, 0, r, Heap.get?_push_size _ rfl⟩
end
/-! ### data with empty dicts in it -/
mutual
inductive Dq (K : PySem.W.Frag) (H : Hp) : V → PyData → Prop
  | non : Dq K H .non .none
  | bl (b : Bool) : Dq K H (.bl b) (.bool b)
  | int (i : Int) : Dq K H (.int i) (.int i)
  | str (x : Str) : Dq K H (.str x) (.str x)
  | lst {a : Addr} {xs : List V} {ds : List PyData} : a ≠ sysModules → SqL K H a xs → DqAll K H xs ds → Dq K H (.ref a) (.list ds)
  | tup {a : Addr} {xs : List V} {ds : List PyData} : SqT K H a xs → DqAll K H xs ds → Dq K H (.ref a) (.tuple ds)
  | dic {a : Addr} : H a = some (.dK []) → Dq K H (.ref a) (.dict [])
inductive DqAll (K : PySem.W.Frag) (H : Hp) : List V → List PyData → Prop
  | nil : DqAll K H [] []
  | cons {v : V} {vs : List V} {d : PyData} {ds : List PyData} : Dq K H v d → DqAll K H vs ds → DqAll K H (v :: vs) (d :: ds)
end
section
variable {X : Cx} {pins : List (Addr × Obj)} {σ : L2.St} {H : Hp} {s : Shared}
mutual
theorem Dq.reads (I : Inv X pins σ H s) : ∀ {v : V} {d : PyData}, Dq X.K H v d → ∀ u, RelV v u → ∃ as, Reads s.heap u d as ∧ sysModules ∉ as
  | _, _, .non, _, r => by
    cases r
    exact ⟨_, .none, List.not_mem_nil⟩
  | _, _, .bl b, _, r => by
    cases r
    exact ⟨_, .bool b, List.not_mem_nil⟩
  | _, _, .int i, _, r => by
    obtain ⟨t, rfl⟩ := r
    exact ⟨_, .int i t, List.not_mem_nil⟩
  | _, _, .str x, _, r => by
    obtain ⟨t, rfl⟩ := r
    exact ⟨_, .str x t, List.not_mem_nil⟩
  | _, _, .lst n h hs, _, r => by
    cases r
    obtain ⟨its, rv, ⟨o, m, h1, h2, _, h3⟩, _⟩ := I.list h
    obtain ⟨as, rd, na⟩ := DqAll.reads I hs _ rv
    refine ⟨_, .list h1 h2 h3 (by simpa using rd), fun q => ?_⟩
    rcases List.mem_cons.mp q with q | q
    · exact n q.symm
    · exact na q
  | _, _, .tup h hs, _, r => by
    cases r
    obtain ⟨its, rv, ⟨o, h1, h2, m, h3⟩, _⟩ := I.tuple h
    obtain ⟨as, rd, na⟩ := DqAll.reads I hs _ rv
    exact ⟨_, .tuple h1 h2 h3 (by simpa using rd), na⟩
  | _, _, .dic h, _, r => by
    cases r
    obtain ⟨_, hs, vs, kv, o, es, ep, h1, h2, h3, _, h5, _⟩ := dk_of I.hok h
    cases kv
    have e0 : es.toList = [] := by
      generalize es.toList = l at h5
      cases h5
      rfl
    refine ⟨_, .dict (kvs := []) h1 h2.1 h3 (by rw [e0]; exact .nil) (by rw [e0]; exact .nil), fun q => ?_⟩
    rcases List.mem_cons.mp q with q | q
    · rw [← q] at hs
      simp at hs
    · cases q
theorem DqAll.reads (I : Inv X pins σ H s) : ∀ {vs : List V} {ds : List PyData}, DqAll X.K H vs ds → ∀ us, Vals vs us → ∃ as, ReadsAll s.heap us ds as ∧ sysModules ∉ as
  | _, _, .nil, _, r => by
    cases r
    exact ⟨_, .nil, List.not_mem_nil⟩
  | _, _, .cons h hs, _, r => by
    cases r with
    | cons r1 r2 =>
      obtain ⟨as, q1, n1⟩ := Dq.reads I h _ r1
      obtain ⟨bs, q2, n2⟩ := DqAll.reads I hs _ r2
      refine ⟨_, .cons q1 q2, fun m => ?_⟩
      rcases List.mem_append.mp m with m | m
      · exact n1 m
      · exact n2 m
end
/-- repr of such data -/
theorem call_reprQ (hg : X.A.guards = some []) (hu : X.A.units + 64 < cLine) : CallR X (.builtin "repr") (fun xs H Q => ∃ (v : V) (d : PyData),
    xs = [v] ∧ Dq X.K H v d ∧ d.showable = true ∧ d.depth ≤ 60 ∧ d.shown.length ≤ sizeLine ∧ Q (.str d.shown) H) := by
  intro pins s σ H xs us Q I r h
  obtain ⟨v, d, rfl, hd, h1, h3, h4, q⟩ := h
  obtain ⟨u, rfl, ru⟩ := vals1 r
  obtain ⟨as, rd, na⟩ := Dq.reads I hd u ru
  have big : ∀ a, u = .ref a → wpAny (model X.prog X.w) X.A (call (.builtin "repr") [u]) (EP X pins σ Q) X.xe s := fun a e => by
    subst e
    exact repr_of_reads' rd h1 (fun _ => na) hg (by omega) (fun _ _ e => e) (fun h' u tk k => ⟨.str d.shown, H, I.kept k, ⟨u, rfl⟩, q⟩) h4
  cases rd with
  | none => exact PySem.P.repr_of_none ⟨.str _, H, I.tok _, ⟨_, rfl⟩, by simpa only [PyData.shown] using q⟩
  | bool b => exact PySem.P.repr_of_bool ⟨.str _, H, I.tok _, ⟨_, rfl⟩, by simpa only [PyData.shown] using q⟩
  | int i t =>
    have hz : i.natAbs.log2 < 1920 := by simpa only [PyData.showable, decide_eq_true_eq] using h1
    exact PySem.P.repr_of_int hz ⟨.str _, H, I.tok _, ⟨_, rfl⟩, by simpa only [PyData.shown] using q⟩
  | str x t =>
    have hz : (reprText x).length ≤ sizeLine := by simpa only [PyData.shown] using h4
    exact PySem.P.repr_of_str ⟨.str _, H, I.tok _, ⟨_, rfl⟩, by simpa only [PyData.shown] using q⟩ hz
  | list => exact big _ rfl
  | tuple => exact big _ rfl
  | dict => exact big _ rfl
end
end Gs

namespace K1
open PySem PySem.Spec PyProof.Rows L2 Gs
def topS (i : Nat) : Stmt := PySem.Challenge.pw_glassladder_k01_shares_made.main.body.getD i (.Pass ⟨0, 0, 0, 0⟩)
def inCls : Stmt → Stmt
  | .ClassDef (body := b) .. => b.getD 0 (.Pass ⟨0, 0, 0, 0⟩)
  | _ => .Pass ⟨0, 0, 0, 0⟩
abbrev sInit : Stmt := inCls (topS 2)
abbrev sWhole : Stmt := topS 7
abbrev sDiv : Stmt := topS 8
abbrev sIs : Stmt := topS 9
abbrev sRed : Stmt := topS 10
abbrev sShare : Stmt := topS 11
abbrev sLeft : Stmt := topS 13
abbrev sDigit : Stmt := topS 14
abbrev sCommon : Stmt := topS 15
abbrev sLWhole : Stmt := topS 16
abbrev sNumber : Stmt := topS 17
abbrev sDue : Stmt := topS 18
abbrev sTold : Stmt := topS 19
abbrev sLIs : Stmt := topS 20
abbrev sLaw : Stmt := topS 21
theorem scInit : FnScope ["self", "thing"] ["self", "thing"] (defScope sInit) := ⟨rfl, rfl, rfl, by decide +kernel, rfl, by decide +kernel, by decide +kernel⟩
theorem scWhole : FnScope ["thing"] ["thing"] (defScope sWhole) := ⟨rfl, rfl, rfl, by decide +kernel, rfl, by decide +kernel, by decide +kernel⟩
theorem scDiv : FnScope ["one", "other"] ["one", "other"] (defScope sDiv) := ⟨rfl, rfl, rfl, by decide +kernel, rfl, by decide +kernel, by decide +kernel⟩
theorem scIs : FnScope ["thing", "top", "bottom"] ["thing"] (defScope sIs) := ⟨rfl, rfl, rfl, by decide +kernel, rfl, by decide +kernel, by decide +kernel⟩
theorem scRed : FnScope ["top", "bottom", "by"] ["top", "bottom"] (defScope sRed) := ⟨rfl, rfl, rfl, by decide +kernel, rfl, by decide +kernel, by decide +kernel⟩
theorem scShare : FnScope ["top", "bottom"] ["top", "bottom"] (defScope sShare) := ⟨rfl, rfl, rfl, by decide +kernel, rfl, by decide +kernel, by decide +kernel⟩
theorem scLeft : FnScope ["_law_cell", "_law_left_here", "_law_drawn", "_law_turn"] ["_law_cell"] (defScope sLeft) := ⟨rfl, rfl, rfl, by decide +kernel, rfl, by decide +kernel, by decide +kernel⟩
theorem scDigit : FnScope ["_law_left_here", "_law_upto", "_law_found"] ["_law_left_here", "_law_upto"] (defScope sDigit) := ⟨rfl, rfl, rfl, by decide +kernel, rfl, by decide +kernel, by decide +kernel⟩
theorem scCommon : FnScope ["_law_one", "_law_other"] ["_law_one", "_law_other"] (defScope sCommon) := ⟨rfl, rfl, rfl, by decide +kernel, rfl, by decide +kernel, by decide +kernel⟩
theorem scLWhole : FnScope ["_law_thing"] ["_law_thing"] (defScope sLWhole) := ⟨rfl, rfl, rfl, by decide +kernel, rfl, by decide +kernel, by decide +kernel⟩
theorem scNumber : FnScope ["_law_left_here", "_law_way"] ["_law_left_here"] (defScope sNumber) := ⟨rfl, rfl, rfl, by decide +kernel, rfl, by decide +kernel, by decide +kernel⟩
theorem scDue : FnScope ["_law_high_one", "_law_low_one", "_law_by"] ["_law_high_one", "_law_low_one"] (defScope sDue) := ⟨rfl, rfl, rfl, by decide +kernel, rfl, by decide +kernel, by decide +kernel⟩
theorem scTold : FnScope ["_law_high_one", "_law_low_one", "_law_way", "_law_error", "_law_found", "e"] ["_law_high_one", "_law_low_one", "_law_way"] (defScope sTold) := ⟨rfl, rfl, rfl, by decide +kernel, rfl, by decide +kernel, by decide +kernel⟩
theorem scLIs : FnScope ["_law_thing"] ["_law_thing"] (defScope sLIs) := ⟨rfl, rfl, rfl, by decide +kernel, rfl, by decide +kernel, by decide +kernel⟩
/-! ### mathematics -/
theorem fmod_gcd (a b : Int) : Int.gcd b (a.fmod b) = Int.gcd a b := by
  rw [Int.fmod_def, Int.gcd_sub_mul_left_right, Int.gcd_comm]
theorem fmod_abs (a b : Int) (h : b ≠ 0) : (a.fmod b).natAbs < b.natAbs := by
  by_cases hb : 0 < b
  · have h1 := Int.fmod_nonneg_of_pos a hb
    have h2 := Int.fmod_lt_of_pos a hb
    omega
  · have h1 : 0 < -b := by omega
    have h2 := Int.fmod_nonneg_of_pos (-a) h1
    have h3 := Int.fmod_lt_of_pos (-a) h1
    rw [Int.neg_fmod_neg] at h2 h3
    omega
/-! ### things -/
abbrev vp (x : Int × Int) : List V := [.int x.1, .int x.2]
theorem same_new {H : Hp} {p : Addr} {o : HO} (h : H p = none) : Same H (upd H p o) := by
  intro b x e
  rw [upd_ne (ne_of_none e h)]
  exact e
theorem log_of {k : Int} {n : Nat} (h0 : 0 < n) (hn : n ≤ 9000) (h : k.natAbs < 2 ^ n) : k.natAbs.log2 < 9000 :=
  Nat.lt_of_lt_of_le (PySem.Flt.log2_lt_of h0 h) hn
/-- a thing that may be handed in -/
inductive Th (H : Hp) : V → PyData → Prop
  | non : Th H .non .none
  | bl (b : Bool) : Th H (.bl b) (.bool b)
  | int (i : Int) : i.natAbs < 2 ^ 120 → Th H (.int i) (.int i)
  | one : Th H (.str "1") (.str "1")
  | emp : Th H (.str "") (.str "")
  | tup {a : Addr} : H a = some (.tup [.int 1]) → Th H (.ref a) (.tuple [.int 1])
  | lst {a : Addr} : a ≠ sysModules → H a = some (.lst [.int 1]) → Th H (.ref a) (.list [.int 1])
  | dic {a : Addr} : H a = some (.dK []) → Th H (.ref a) (.dict [])
theorem Th.mono {H H' : Hp} (s : Same H H') : ∀ {v : V} {d : PyData}, Th H v d → Th H' v d
  | _, _, .non => .non
  | _, _, .bl b => .bl b
  | _, _, .int i h => .int i h
  | _, _, .one => .one
  | _, _, .emp => .emp
  | _, _, .tup h => .tup (s _ _ h)
  | _, _, .lst n h => .lst n (s _ _ h)
  | _, _, .dic h => .dic (s _ _ h)
theorem Th.q {K : PySem.W.Frag} {H : Hp} : ∀ {v : V} {d : PyData}, Th H v d → Dq K H v d
  | _, _, .non => .non
  | _, _, .bl b => .bl b
  | _, _, .int i _ => .int i
  | _, _, .one => .str _
  | _, _, .emp => .str _
  | _, _, .tup h => .tup (SqT.of h) (.cons (.int 1) .nil)
  | _, _, .lst n h => .lst n (SqL.of h) (.cons (.int 1) .nil)
  | _, _, .dic h => .dic h
def isI : PyData → Bool
  | .int _ => true
  | _ => false
def isT : PyData → Bool
  | .tuple _ => true
  | _ => false
theorem int_show {i : Int} (h : i.natAbs < 2 ^ 120) : i.natAbs.log2 < 1920 := Nat.lt_of_lt_of_le (PySem.Flt.log2_lt_of (by decide) h) (by decide)
theorem Th.ok {H : Hp} : ∀ {v : V} {d : PyData}, Th H v d → d.showable = true ∧ d.depth ≤ 5 ∧ d.shown.length ≤ 2000
  | _, _, .non => ⟨by decide, by decide, by decide +kernel⟩
  | _, _, .bl b => by cases b <;> exact ⟨by decide, by decide, by decide +kernel⟩
  | _, _, .int i h => ⟨by simp [PyData.showable, int_show h], by simp [PyData.depth], by
      have z := int_text_len_1921 (int_show h)
      simp only [PyData.shown]
      omega⟩
  | _, _, .one => ⟨by decide, by decide, by decide +kernel⟩
  | _, _, .emp => ⟨by decide, by decide, by decide +kernel⟩
  | _, _, .tup h => ⟨by decide +kernel, by decide +kernel, by decide +kernel⟩
  | _, _, .lst _ h => ⟨by decide +kernel, by decide +kernel, by decide +kernel⟩
  | _, _, .dic h => ⟨by decide +kernel, by decide +kernel, by decide +kernel⟩
/-- its type, and what isinstance tells of it -/
theorem Th.ty {K : PySem.W.Frag} {H : Hp} {v : V} {d : PyData} (h : Th H v d) : ∃ t : Value, TyX K H v t ∧
    ∃ b : Bool, PySem.W.kitOne K t (.type "int") = some (isI d || b) ∧ PySem.W.kitOne K t (.type "bool") = some b ∧ (isI d = true → b = false) ∧
      PySem.W.kitOne K t (.type "tuple") = some (isT d) := by
  cases h with
  | non => exact ⟨_, .base .non, false, kit_ty (by decide +kernel), kit_ty (by decide +kernel), fun _ => rfl, kit_ty (by decide +kernel)⟩
  | bl b => exact ⟨_, .base (.bl b), true, kit_ty (show kitB "bool" "int" = some true by decide +kernel), kit_ty (by decide +kernel), fun z => Bool.noConfusion z, kit_ty (show kitB "bool" "tuple" = some false by decide +kernel)⟩
  | int i h => exact ⟨_, .base (.int i), false, kit_ty (show kitB "int" "int" = some true by decide +kernel), kit_ty (by decide +kernel), fun _ => rfl, kit_ty (show kitB "int" "tuple" = some false by decide +kernel)⟩
  | one => exact ⟨_, .base (.str _), false, kit_ty (by decide +kernel), kit_ty (by decide +kernel), fun _ => rfl, kit_ty (by decide +kernel)⟩
  | emp => exact ⟨_, .base (.str _), false, kit_ty (by decide +kernel), kit_ty (by decide +kernel), fun _ => rfl, kit_ty (by decide +kernel)⟩
  | tup h => exact ⟨_, .base (.tup h), false, kit_ty (by decide +kernel), kit_ty (by decide +kernel), fun _ => rfl, kit_ty (by decide +kernel)⟩
  | lst n h => exact ⟨_, .base (.lst h), false, kit_ty (by decide +kernel), kit_ty (by decide +kernel), fun _ => rfl, kit_ty (by decide +kernel)⟩
  | dic h => exact ⟨_, .base (.dK h), false, kit_ty (by decide +kernel), kit_ty (by decide +kernel), fun _ => rfl, kit_ty (by decide +kernel)⟩
theorem Th.isInt {H : Hp} {v : V} {d : PyData} (h : Th H v d) (e : isI d = true) : ∃ i : Int, v = .int i ∧ d = .int i ∧ i.natAbs < 2 ^ 120 := by
  cases h with
  | int i h => exact ⟨i, rfl, rfl, h⟩
  | _ => cases e
/-! ### promises -/
def spWhole : Sp := fun vs H Q _ => ∃ (v : V) (d : PyData), vs = [v] ∧ Th H v d ∧ Q (.bl (isI d)) H
def spDiv : Sp := fun vs H Q _ => ∃ a b : Int, vs = [.int a, .int b] ∧ Q (.int (gI a b)) H
def spRed : Sp := fun vs H Q _ => ∃ t b : Int, vs = [.int t, .int b] ∧ b ≠ 0 ∧ b.natAbs < 2 ^ 8000 ∧
  ∀ p, H p = none → Q (.ref p) (upd H p (.tup (vp (lw t b))))
def spLeft : Sp := fun vs H Q _ => ∃ c : Int, vs = [.int c] ∧ ∀ p n, H p = none → Q (.ref p) (upd H p (.lst [.int n]))
def spDigit : Sp := fun vs H Q _ => ∃ (p : Addr) (n u : Int), vs = [.ref p, .int u] ∧ H p = some (.lst [.int n]) ∧ 0 < u ∧ u.natAbs.log2 < 9000 ∧
  Q (.int (n % u)) (upd H p (.lst [.int (n / u)]))
section
variable {P : Program} {w : World} {K : PySem.W.Frag} {mg : Str → Option Value} {base : Heap} {f fD : Addr} {fd fdD : FuncData} {k : Nat}
theorem ok_whole (F : Fun K "is_whole" "is_whole" sWhole f fd) (mi : mg "isinstance" = none) (mn : mg "int" = none) (mb : mg "bool" = none) : FnOk P w K mg base CX0 (k + 1) f fd ["thing"] spWhole := by
  refine F.ok scWhole (fun vs H Q E h => ?_) (fun cdv A outer s H vs Q E hr h => ?_)
  · obtain ⟨v, d, rfl, _⟩ := h
    rfl
  · obtain ⟨v, d, rfl, hv, q⟩ := h
    refine ⟨_, pss_one (ps_ret (pe_and (pe_callB call_isi (by rfl) mi (by decide +kernel) (pa_cons (pv 0) (pa_cons (pe_bltn (v := .ty "int") (by rfl) mn (by decide +kernel) rfl) pa_nil)))
      (pe_one (pe_not (pe_callB call_isi (by rfl) mi (by decide +kernel) (pa_cons (pv 0) (pa_cons (pe_bltn (v := .ty "bool") (by rfl) mb (by decide +kernel) rfl) pa_nil))))))), ?_⟩
    obtain ⟨t, ty, b, k1, k2, k3, _⟩ := hv.ty (K := K)
    refine ⟨_, rfl, _, _, t, _, _, rfl, .ty _, ty, k1, _, rfl, ?_⟩
    cases hI : isI d with
    | true =>
      rw [k3 hI] at k2
      rw [hI] at q
      refine iteT ?_
      exact ⟨_, rfl, _, _, t, _, _, rfl, .ty _, ty, k2, _, rfl, q⟩
    | false =>
      rw [hI] at q
      cases b with
      | true => exact iteT ⟨_, rfl, _, _, t, _, _, rfl, .ty _, ty, k2, _, rfl, q⟩
      | false => exact iteF q
theorem ok_lwhole (F : Fun K "_law_whole" "_law_whole" sLWhole f fd) (mi : mg "isinstance" = none) (mn : mg "int" = none) (mb : mg "bool" = none) : FnOk P w K mg base CX0 (k + 1) f fd ["_law_thing"] spWhole := by
  refine F.ok scLWhole (fun vs H Q E h => ?_) (fun cdv A outer s H vs Q E hr h => ?_)
  · obtain ⟨v, d, rfl, _⟩ := h
    rfl
  · obtain ⟨v, d, rfl, hv, q⟩ := h
    refine ⟨_, pss_one (ps_ret (pe_and (pe_callB call_isi (by rfl) mi (by decide +kernel) (pa_cons (pv 0) (pa_cons (pe_bltn (v := .ty "int") (by rfl) mn (by decide +kernel) rfl) pa_nil)))
      (pe_one (pe_not (pe_callB call_isi (by rfl) mi (by decide +kernel) (pa_cons (pv 0) (pa_cons (pe_bltn (v := .ty "bool") (by rfl) mb (by decide +kernel) rfl) pa_nil))))))), ?_⟩
    obtain ⟨t, ty, b, k1, k2, k3, _⟩ := hv.ty (K := K)
    refine ⟨_, rfl, _, _, t, _, _, rfl, .ty _, ty, k1, _, rfl, ?_⟩
    cases hI : isI d with
    | true =>
      rw [k3 hI] at k2
      rw [hI] at q
      refine iteT ?_
      exact ⟨_, rfl, _, _, t, _, _, rfl, .ty _, ty, k2, _, rfl, q⟩
    | false =>
      rw [hI] at q
      cases b with
      | true => exact iteT ⟨_, rfl, _, _, t, _, _, rfl, .ty _, ty, k2, _, rfl, q⟩
      | false => exact iteF q
theorem ok_common (F : Fun K "_law_common" "_law_common" sCommon f fd) (ma : mg "abs" = none) : FnOk P w K mg base CX0 (k + 1) f fd ["_law_one", "_law_other"] spDiv := by
  refine F.ok scCommon (fun vs H Q E h => ?_) (fun cdv A outer s H vs Q E hr h => ?_)
  · obtain ⟨a, b, rfl, _⟩ := h
    rfl
  · obtain ⟨a, b, rfl, q⟩ := h
    refine ⟨_, pss_cons (ps_while PassesOwn.never (pt_cmpR op_ne (pv 1) pe_int (nomark _))
        (pss_one (ps_par (i := 0) (j := 1) (by rfl) scCommon.nd rfl rfl (by decide) rfl rfl (pa_cons (pv 1) (pa_cons (pe_op op_modN (pv 0) (pv 1)) pa_nil)) (by rfl))))
      (pss_one (ps_ret (pe_callB call_abs (by rfl) ma (by decide +kernel) (pa_cons (pv 0) pa_nil)))), ?_⟩
    refine ⟨fun c σ H' => ∃ m n : Int, σ = [some (.int m), some (.int n)] ∧ H' = H ∧ gI m n = gI a b ∧ c = n.natAbs,
      ⟨_, _, _, rfl, rfl, rfl, rfl⟩, fun c σ H' hp => ?_⟩
    obtain ⟨m, n, rfl, rfl, hg, rfl⟩ := hp
    refine ⟨_, rfl, rfl, _, rfl, ?_⟩
    by_cases hn0 : n = 0
    · subst hn0
      refine iteNS rfl ?_
      refine ⟨_, rfl, m, rfl, ?_⟩
      have e2 : gI m 0 = if m < 0 then -m else m := by
        unfold gI
        rw [Int.gcd_zero]
        split <;> omega
      rw [← e2, hg]
      exact q
    · have e1 : (!decide (V.int n = V.int 0)) = true := by
        rw [decide_eq_false (fun z => hn0 (V.int.inj z))]
        rfl
      refine ite2 (fun _ => ?_) (fun z => absurd e1 z)
      refine ⟨fun σ' H'' => ∃ m n' : Int, σ' = [some (.int m), some (.int n')] ∧ H'' = H' ∧ gI m n' = gI a b ∧ n'.natAbs < n.natAbs, fun σ' H'' hN => ?_, ?_⟩
      · obtain ⟨m', n', e1, e2, p3, p4⟩ := hN
        exact ⟨_, p4, m', n', e1, e2, p3, rfl⟩
      · refine ⟨_, rfl, _, rfl, _, rfl, m, n, rfl, rfl, hn0, _, _, rfl, n, m.fmod n, rfl, rfl, ?_, fmod_abs m n hn0⟩
        rw [← hg]
        unfold gI
        rw [fmod_gcd]
end
end K1

namespace K1
open PySem PySem.Spec PyProof.Rows L2 Gs
section
variable {P : Program} {w : World} {K : PySem.W.Frag} {mg : Str → Option Value} {base : Heap} {f fD fL fS fI fW fR C G : Addr} {fd fdD fdL fdS fdI fdW fdR : FuncData} {k : Nat}
theorem ok_div (F : Fun K "divisor" "divisor" sDiv f fd) (ma : mg "abs" = none) : FnOk P w K mg base CX0 (k + 1) f fd ["one", "other"] spDiv := by
  refine F.ok scDiv (fun vs H Q E h => ?_) (fun cdv A outer s H vs Q E hr h => ?_)
  · obtain ⟨a, b, rfl, _⟩ := h
    rfl
  · obtain ⟨a, b, rfl, q⟩ := h
    refine ⟨_, pss_cons (ps_set (i := 0) scDiv.nd rfl (.inl rfl) (pe_callB call_abs (by rfl) ma (by decide +kernel) (pa_cons (pv 0) pa_nil)))
      (pss_cons (ps_set (i := 1) scDiv.nd rfl (.inl rfl) (pe_callB call_abs (by rfl) ma (by decide +kernel) (pa_cons (pv 1) pa_nil)))
      (pss_cons (ps_while PassesOwn.never (pt_truth (pv 1) (by intro _; rfl))
        (pss_one (ps_par (i := 0) (j := 1) (by rfl) scDiv.nd rfl rfl (by decide) rfl rfl (pa_cons (pv 1) (pa_cons (pe_op op_modN (pv 0) (pv 1)) pa_nil)) (by rfl))))
      (pss_one (ps_ret (pv 0))))), ?_⟩
    refine ⟨_, rfl, a, rfl, _, rfl, b, rfl, ?_⟩
    refine ⟨fun c σ H' => ∃ m n : Int, σ = [some (.int m), some (.int n)] ∧ H' = H ∧ 0 ≤ m ∧ 0 ≤ n ∧ gI m n = gI a b ∧ c = n.toNat,
      ⟨_, _, _, rfl, rfl, by split <;> omega, by split <;> omega, gI_abs, rfl⟩, fun c σ H' hp => ?_⟩
    obtain ⟨m, n, rfl, rfl, hm, hn, hg, rfl⟩ := hp
    refine ⟨_, rfl, (n != 0), rfl, ite2 (fun e => ?_) (fun e => ?_)⟩
    · have hn0 : n ≠ 0 := by simpa using e
      have e3 : m.fmod n = m % n := Int.fmod_eq_emod_of_nonneg _ hn
      have h1 := Int.emod_nonneg m hn0
      have h2 := Int.emod_lt_of_pos m (show 0 < n by omega)
      refine ⟨fun σ' H'' => ∃ m n' : Int, σ' = [some (.int m), some (.int n')] ∧ H'' = H' ∧ 0 ≤ m ∧ 0 ≤ n' ∧ gI m n' = gI a b ∧ n'.toNat < n.toNat, fun σ' H'' hN => ?_, ?_⟩
      · obtain ⟨m', n', e1, e2, p1, p2, p3, p4⟩ := hN
        exact ⟨_, p4, m', n', e1, e2, p1, p2, p3, rfl⟩
      · refine ⟨_, rfl, _, rfl, _, rfl, m, n, rfl, rfl, hn0, _, _, rfl, n, m.fmod n, rfl, rfl, hn, ?_, ?_, ?_⟩
        · rw [e3]
          exact h1
        · rw [← hg]
          unfold gI
          rw [gcd_turn hm (by omega)]
        · rw [e3]
          omega
    · have hn0 : n = 0 := by simpa using e
      subst hn0
      refine ⟨_, rfl, ?_⟩
      have e2 : gI m 0 = m := by
        unfold gI
        rw [Int.gcd_zero]
        omega
      rw [e2] at hg
      rw [hg]
      exact q
theorem ok_red (F : Fun K "reduced" "reduced" sRed f fd) (FD : Fun K "divisor" "divisor" sDiv fD fdD) (bD : Binds K fdD ["one", "other"] []) (gD : mg "divisor" = some (.ref fD)) (ma : mg "abs" = none) :
    FnOk P w K mg base CX0 2 f fd ["top", "bottom"] spRed := by
  have GD : FnOk P w K mg base CX0 1 fD fdD ["one", "other"] spDiv := ok_div FD ma
  refine F.ok scRed (fun vs H Q E h => ?_) (fun cdv A outer s H vs Q E hr h => ?_)
  · obtain ⟨a, b, rfl, _⟩ := h
    rfl
  · obtain ⟨t, b, rfl, hb, hz, q⟩ := h
    refine ⟨_, pss_cons (ps_if (pt_cmpR op_eq (pv 1) pe_int (nomark _)) (pss_one (ps_ret (pe_tup (pa_cons (pv 0) (pa_cons pe_int pa_nil))))) pss_nil)
      (pss_cons (ps_set (i := 2) scRed.nd rfl (.inl rfl) (pe_call GD hr (by rfl) gD FD.kp bD .nil pass0 (pa_cons (pv 0) (pa_cons (pv 1) pa_nil))))
      (pss_cons (ps_if (pt_cmpR op_lt (pv 1) pe_int (nomark _)) (pss_one (ps_set (i := 2) scRed.nd rfl (.inl rfl) (pe_un un_neg (pv 2)))) pss_nil)
      (pss_one (ps_ret (pe_tup (pa_cons (pe_op op_fdivZ (pv 0) (pv 2)) (pa_cons (pe_op op_fdivZ (pv 1) (pv 2)) pa_nil))))))), ?_⟩
    refine ⟨_, rfl, rfl, _, rfl, ite2 (fun e => ?_) (fun e => ?_)⟩
    · have e1 : b = 1 := V.int.inj (of_decide_eq_true e)
      subst e1
      refine ⟨_, rfl, by show 2 ≤ sizeLine; decide, fun p hp => ?_⟩
      have z := q p hp
      rw [lw_1] at z
      exact z
    · refine ⟨_, rfl, _, rfl, t, b, rfl, ?_⟩
      obtain ⟨g0, gz⟩ := gI_bd (a := t) hb hz
      have lg := log_of (by decide) (by decide) gz
      refine ⟨_, rfl, b, 0, rfl, rfl, _, rfl, ite2 (fun e2 => ?_) (fun e2 => ?_)⟩
      · have hn : b < 0 := of_decide_eq_true e2
        refine ⟨_, rfl, gI t b, rfl, ?_⟩
        refine ⟨_, rfl, _, rfl, t, -gI t b, rfl, rfl, ⟨by omega, by rw [Int.natAbs_neg]; exact lg⟩, _, rfl, _, rfl, b, -gI t b, rfl, rfl, ⟨by omega, by rw [Int.natAbs_neg]; exact lg⟩, by show 2 ≤ sizeLine; decide, fun p hp => ?_⟩
        have z := q p hp
        unfold lw at z
        rw [if_pos hn] at z
        exact z
      · have hn : ¬ b < 0 := fun z => e2 (decide_eq_true z)
        refine ⟨_, rfl, _, rfl, t, gI t b, rfl, rfl, ⟨by omega, lg⟩, _, rfl, _, rfl, b, gI t b, rfl, rfl, ⟨by omega, lg⟩, by show 2 ≤ sizeLine; decide, fun p hp => ?_⟩
        have z := q p hp
        unfold lw at z
        rw [if_neg hn] at z
        exact z
theorem ok_left (F : Fun K "_law_left" "_law_left" sLeft f fd) (ma : mg "abs" = none) (mr : mg "range" = none) : FnOk P w K mg base CX0 (k + 1) f fd ["_law_cell"] spLeft := by
  refine F.ok scLeft (fun vs H Q E h => ?_) (fun cdv A outer s H vs Q E hr h => ?_)
  · obtain ⟨a, rfl, _⟩ := h
    rfl
  · obtain ⟨c, rfl, q⟩ := h
    refine ⟨_, pss_cons (ps_set (i := 1) scLeft.nd rfl (.inl rfl) (pe_callB call_abs (by rfl) ma (by decide +kernel) (pa_cons (pv 0) pa_nil)))
      (pss_cons (ps_if (pt_cmpR op_lt (pv 1) (pe_op op_pow pe_int pe_int) (nomark _))
        (pss_cons (ps_set (i := 2) scLeft.nd rfl (.inl rfl) (pv 0))
        (pss_one (ps_for PassesOwn.never rfl (pi_range1 (by rfl) mr (pa_cons pe_int pa_nil)) (pg_name (i := 3) scLeft.nd rfl (Or.inl rfl))
          (pss_cons (ps_set (i := 2) scLeft.nd rfl (.inl rfl) (pe_op op_mod (pe_op op_mul (pe_op op_add (pe_op op_mod (pv 2) pe_int) pe_int) pe_int) pe_int))
          (pss_cons (ps_set (i := 2) scLeft.nd rfl (.inl rfl) (pe_op op_add (pe_op op_mod (pe_op op_mul (pv 2) pe_int) pe_int) (pv 3)))
          (pss_one (ps_set (i := 1) scLeft.nd rfl (.inl rfl) (pe_op op_add (pe_op op_mul (pv 1) pe_int) (pv 2)))))))))
        pss_nil)
      (pss_one (ps_ret (pe_lst (pa_cons (pv 1) pa_nil))))), ?_⟩
    refine ⟨_, rfl, c, rfl, _, rfl, 10, 18, rfl, rfl, ⟨by decide, by decide, by decide⟩, _, _, rfl, rfl, _, rfl, ite2 (fun _ => ?_) (fun _ => ?_)⟩
    · refine ⟨_, rfl, 60, rfl, by decide, by decide, for_range (n := 60) (fun i σ H' => ∃ (l d : Int) (y : Option V), σ = [some (.int c), some (.int l), some (.int d), y] ∧ H' = H) ⟨_, _, none, rfl, rfl⟩ (fun i σ H' _ hp => ?_) (fun σ H' hp => ?_)⟩
      · obtain ⟨l, d, y, rfl, rfl⟩ := hp
        refine ⟨_, rfl, _, _, rfl, rfl, by show (0 : Int) < 2147483629; decide, _, _, rfl, rfl, _, _, rfl, rfl, .inr ⟨by decide, by decide⟩, _, _, rfl, rfl, by show (0 : Int) < 2147483629; decide, ?_⟩
        refine ⟨_, rfl, _, _, rfl, rfl, .inr ⟨by decide, by decide⟩, _, _, rfl, rfl, by show (0 : Int) < 2147483647; decide, _, rfl, _, _, rfl, rfl, ?_⟩
        refine ⟨_, rfl, _, _, rfl, rfl, .inr ⟨by decide, by decide⟩, _, rfl, _, _, rfl, rfl, ?_⟩
        exact ⟨_, _, _, rfl, rfl⟩
      · obtain ⟨l, d, y, rfl, rfl⟩ := hp
        exact ⟨_, rfl, by show 1 ≤ sizeLine; decide, fun p hp => q p _ hp⟩
    · exact ⟨_, rfl, by show 1 ≤ sizeLine; decide, fun p hp => q p _ hp⟩
theorem ok_digit (F : Fun K "_law_digit" "_law_digit" sDigit f fd) : FnOk P w K mg base CX0 (k + 1) f fd ["_law_left_here", "_law_upto"] spDigit := by
  refine F.ok scDigit (fun vs H Q E h => ?_) (fun cdv A outer s H vs Q E hr h => ?_)
  · obtain ⟨p, n, u, rfl, _⟩ := h
    rfl
  · obtain ⟨p, n, u, rfl, hp, hu, hz, q⟩ := h
    refine ⟨_, pss_cons (ps_set (i := 2) scDigit.nd rfl (.inl rfl) (pe_op op_mod (pe_ix ix_list (pv 0) pe_int (fun _ _ => rfl)) (pv 1)))
      (pss_cons (ps_asg (pe_op op_fdivW (pe_ix ix_list (pv 0) pe_int (fun _ _ => rfl)) (pv 1)) (pg_sub (pv 0) pe_int set_list))
      (pss_one (ps_ret (pv 2)))), ?_⟩
    refine ⟨_, rfl, p, _, 0, _, rfl, rfl, SqL.of hp, atI_nat (j := 0) rfl, _, rfl, n, u, rfl, rfl, hu, ?_⟩
    refine ⟨_, rfl, p, _, 0, _, rfl, rfl, SqL.of hp, atI_nat (j := 0) rfl, _, rfl, n, u, rfl, rfl, ⟨hu, hz⟩, ?_⟩
    refine ⟨_, rfl, p, _, 0, 0, rfl, rfl, hp, rfl, ?_⟩
    exact ⟨_, rfl, q⟩
/-! ### NoShare, and share -/
/-- a def that may be called by the name x -/
structure Cl (P : Program) (w : World) (K : PySem.W.Frag) (mg : Str → Option Value) (base : Heap) (CX : CXT) (k : Nat) (x : Str) (ps : List Str) (sp : Sp) (f : Addr) (fd : FuncData) : Prop where
  g : mg x = some (.ref f)
  ok : FnOk P w K mg base CX k f fd ps sp
  kp : PySem.W.keepIn K (.ref f) = true
  bd : Binds K fd ps []
structure ClG (P : Program) (w : World) (K : PySem.W.Frag) (mg : Str → Option Value) (base : Heap) (CX : CXT) (k : Nat) (x : Str) (ps : List Str) (sp : Sp) (f : Addr) (fd : FuncData) : Prop where
  g : mg x = some (.ref f)
  ok : FnG P w K mg base CX k f fd ps sp
  kp : PySem.W.keepIn K (.ref f) = true
  bd : Binds K fd ps []
/-- what the head tells of NoShare, at C, over GlassError, at G -/
structure ErT (K : PySem.W.Frag) (mg : Str → Option Value) (C G fI : Addr) (mc : Value) : Prop where
  o : OexC K C
  i : PySem.W.findIn K (.ref C) "__init__" = some (some (.ref fI))
  t : PySem.W.typeIn K (.ref fI) = some (.type "function")
  no : PySem.W.findIn K (.ref C) "thing" = some none
  gC : mg "NoShare" = some (.ref C)
  gG : mg "GlassError" = some (.ref G)
  ga : PySem.W.specialIn K (.ref G) "__getattribute__" = some (some (.builtin "type.__getattribute__"))
  rd : PySem.W.readsIn K G mc = true
  fc : PySem.W.findCls K (.ref G) mc "__init__" = some (.val (.builtin "ValueError.__init__"))
def spInit (K : PySem.W.Frag) (C : Addr) : Sp := fun vs H Q _ => ∃ (a : Addr) (v : V), vs = [.ref a, v] ∧ H a = some (exo a C none) ∧
  ∀ dx, H dx = none → dx ≠ a → Q .non (upd (upd H dx (exd dx [("thing", v)])) a (exo a C (some dx)))
theorem ok_init {mc : Value} (F : Fun K "__init__" "NoShare.__init__" sInit f fd) (T : ErT K mg C G fI mc) : FnOk P w K mg base CX0 (k + 1) f fd ["self", "thing"] (spInit K C) := by
  refine F.ok scInit (fun vs H Q E h => ?_) (fun cdv A outer s H vs Q E hr h => ?_)
  · obtain ⟨a, v, rfl, _⟩ := h
    rfl
  · obtain ⟨a, v, rfl, ha, q⟩ := h
    refine ⟨_, pss_cons (ps_expr (pe_ownInit rfl T.gG (by decide) T.ga T.rd T.fc (pa_cons (pv 0) (pa_cons pe_str pa_nil)) rfl rfl rfl))
      (pss_one (ps_ost (pv 0) (pv 1))), ?_⟩
    refine ⟨_, rfl, a, C, _, rfl, by show 1 ≤ 1000; decide, T.o, ha, ?_⟩
    exact ⟨_, rfl, _, rfl, a, C, rfl, T.o, T.no, .inl ⟨ha, fun dx h1 h2 => q dx h1 h2⟩⟩
/-- the heap with an error's fields -/
theorem heap_err {H : Hp} {a d : Addr} {o1 o2 o3 : HO} {fs : List (Str × V)} (ha : H a = none) (hd : d ≠ a) :
    upd (L2.del (upd (upd (upd H a o1) d o2) a o3) a) d (.xd fs) = upd H d (.xd fs) := by
  funext b
  by_cases h1 : b = d
  · rw [h1, upd_same, upd_same]
  · rw [upd_ne h1, upd_ne h1]
    by_cases h2 : b = a
    · rw [h2, del_same, ha]
    · rw [del_ne h2, upd_ne h2, upd_ne h1, upd_ne h2]
/-- what share refuses -/
def bad (d1 d2 : PyData) : Bool := !isI d1 || !isI d2 || (match d2 with | .int b => decide (b = 0) | _ => true)
def spShare (C : Addr) : Sp := fun vs H Q E => ∃ (v1 v2 : V) (d1 d2 : PyData), vs = [v1, v2] ∧ Th H v1 d1 ∧ Th H v2 d2 ∧
  (isI d1 = false → ∀ d, H d = none → E (.ref C) (some d) (upd H d (.xd [("thing", v1)]))) ∧
  (isI d1 = true → isI d2 = false → ∀ d, H d = none → E (.ref C) (some d) (upd H d (.xd [("thing", v2)]))) ∧
  (isI d1 = true → d2 = .int 0 → ∀ d, H d = none → E (.ref C) (some d) (upd H d (.xd [("thing", v2)]))) ∧
  (∀ t b : Int, d1 = .int t → d2 = .int b → b ≠ 0 → ∀ p, H p = none → Q (.ref p) (upd H p (.tup (vp (lw t b)))))
theorem ok_share {mc : Value} {dvs : List V} {kws : List (Str × V)} (F : FunD K "share" "share" (defArgs sShare) (defBody sShare) (defScope sShare) dvs kws f fd)
    (W : Cl P w K mg base CX0 1 "is_whole" ["thing"] spWhole fW fdW) (R : Cl P w K mg base CX0 2 "reduced" ["top", "bottom"] spRed fR fdR)
    (T : ErT K mg C G fI mc) (I : FnOk P w K mg base CX0 1 fI fdI ["self", "thing"] (spInit K C)) (bI : Binds K fdI ["self", "thing"] []) :
    FnOk P w K mg base (L2.CX P w) 3 f fd ["top", "bottom"] (spShare C) := by
  refine F.ok scShare (fun vs H Q E h => ?_) (fun cdv A outer s H vs Q E hr h => ?_)
  · obtain ⟨v1, v2, d1, d2, rfl, _⟩ := h
    rfl
  · obtain ⟨v1, v2, d1, d2, rfl, t1, t2, q1, q2, q3, q4⟩ := h
    have r1 := hr.mono (j := 1) (by decide)
    refine ⟨_, pss_cons (ps_if (pt_not (pt_val (pe_call W.ok r1 (by rfl) W.g W.kp W.bd .nil pass0 (pa_cons (pv 0) pa_nil))))
        (pss_one (ps_raise rfl (takes_of rfl rfl rfl rfl) (pmk_oex T.o T.i T.t I hr bI .nil pass0 rfl T.gC (pa_cons (pv 0) pa_nil)))) pss_nil)
      (pss_cons (ps_if (PW.pt (pw_or (pt_not (pt_val (pe_call W.ok r1 (by rfl) W.g W.kp W.bd .nil pass0 (pa_cons (pv 1) pa_nil)))) (pw_or1 (pt_cmpR op_eq (pv 1) pe_int (nomark _)))))
        (pss_one (ps_raise rfl (takes_of rfl rfl rfl rfl) (pmk_oex T.o T.i T.t I hr bI .nil pass0 rfl T.gC (pa_cons (pv 1) pa_nil)))) pss_nil)
      (pss_one (ps_ret (pe_call R.ok hr (by rfl) R.g R.kp R.bd .nil pass0 (pa_cons (pv 0) (pa_cons (pv 1) pa_nil)))))), ?_⟩
    have err : ∀ v : V, (∀ d, H d = none → E (.ref C) (some d) (upd H d (.xd [("thing", v)]))) → ∀ a, H a = none → spInit K C (.ref a :: ([v] ++ [])) (upd H a (exo a C none))
        (fun z H2 => z = .non ∧ ∃ (d : Addr) (fs : List (Str × V)), H2 a = some (exo a C (some d)) ∧ H2 d = some (exd d fs) ∧ H d = none ∧ E (.ref C) (some d) (upd (L2.del H2 a) d (.xd fs))) (fun _ _ _ => False) := by
      intro v q a ha
      refine ⟨a, v, rfl, upd_same, fun dx h1 h2 => ⟨rfl, dx, _, upd_same, by rw [upd_ne h2]; exact upd_same, by rw [upd_ne h2] at h1; exact h1, ?_⟩⟩
      rw [heap_err ha h2]
      rw [upd_ne h2] at h1
      exact q dx h1
    refine ⟨_, rfl, v1, d1, rfl, t1, _, rfl, ?_⟩
    cases hI : isI d1 with
    | false =>
      refine iteT ?_
      exact ⟨_, rfl, by show 1 ≤ 1000; decide, err v1 (q1 hI)⟩
    | true =>
      refine iteF ?_
      obtain ⟨t, rfl, rfl, ht⟩ := t1.isInt hI
      refine ⟨_, rfl, v2, d2, rfl, t2, _, rfl, ?_⟩
      cases hJ : isI d2 with
      | false =>
        refine iteT (iteT ?_)
        exact ⟨_, rfl, by show 1 ≤ 1000; decide, err v2 (q2 hI hJ)⟩
      | true =>
        refine iteF ?_
        obtain ⟨b, rfl, rfl, hb⟩ := t2.isInt hJ
        refine ⟨_, rfl, rfl, _, rfl, ite2 (fun e => ?_) (fun e => ?_)⟩
        · have e1 : b = 0 := V.int.inj (of_decide_eq_true e)
          subst e1
          exact ⟨_, rfl, by show 1 ≤ 1000; decide, err _ (q3 hI rfl)⟩
        · have e1 : b ≠ 0 := fun z => e (decide_eq_true (by rw [z]))
          exact ⟨_, rfl, _, rfl, t, b, rfl, e1, bd_mono hb (by decide), q4 t b rfl rfl e1⟩
end
end K1

namespace K1
open PySem PySem.Spec PyProof.Rows L2 Gs
def Keep (p : Addr) (H H' : Hp) : Prop := ∀ b o, b ≠ p → H b = some o → H' b = some o
theorem Keep.trans {p : Addr} {H H1 H2 : Hp} (a : Keep p H H1) (b : Keep p H1 H2) : Keep p H H2 := fun c o n h => b c o n (a c o n h)
theorem keep_upd {p : Addr} {H : Hp} {o : HO} : Keep p H (upd H p o) := fun b u n e => by
  rw [upd_ne n]
  exact e
theorem keep_same {p : Addr} {H H' : Hp} (s : Same H H') : Keep p H H' := fun b u _ e => s b u e
theorem Th.keep {p : Addr} {H H' : Hp} (s : Keep p H H') {v : V} {d : PyData} (h : Th H v d) (n : v ≠ .ref p) : Th H' v d := by
  cases h with
  | non => exact .non
  | bl b => exact .bl b
  | int i h => exact .int i h
  | one => exact .one
  | emp => exact .emp
  | tup h => exact .tup (s _ _ (fun z => n (by rw [z])) h)
  | lst m h => exact .lst m (s _ _ (fun z => n (by rw [z])) h)
  | dic h => exact .dic (s _ _ (fun z => n (by rw [z])) h)
def spNum : Sp := fun vs H Q _ => ∃ (p : Addr) (n : Int), vs = [.ref p] ∧ H p = some (.lst [.int n]) ∧
  ∀ H' v d n', Keep p H H' → H' p = some (.lst [.int n']) → Th H' v d → v ≠ .ref p → Q v H'
inductive ThAll (H : Hp) : List V → List PyData → Prop
  | nil : ThAll H [] []
  | cons {v : V} {vs : List V} {d : PyData} {ds : List PyData} : Th H v d → ThAll H vs ds → ThAll H (v :: vs) (d :: ds)
theorem ThAll.mono {H H' : Hp} (s : Same H H') : ∀ {vs : List V} {ds : List PyData}, ThAll H vs ds → ThAll H' vs ds
  | _, _, .nil => .nil
  | _, _, .cons h r => .cons (h.mono s) (ThAll.mono s r)
theorem ThAll.q {K : PySem.W.Frag} {H : Hp} : ∀ {vs : List V} {ds : List PyData}, ThAll H vs ds → DqAll K H vs ds
  | _, _, .nil => .nil
  | _, _, .cons h r => .cons h.q (ThAll.q r)
theorem ThAll.len {H : Hp} : ∀ {vs : List V} {ds : List PyData}, ThAll H vs ds → vs.length = ds.length
  | _, _, .nil => rfl
  | _, _, .cons _ r => congrArg (· + 1) (ThAll.len r)
theorem ThAll.pair {H : Hp} {xs : List V} {ds : List PyData} (h : ThAll H xs ds) (l : xs.length = 2) : ∃ v1 v2 e1 e2, xs = [v1, v2] ∧ ds = [e1, e2] ∧ Th H v1 e1 ∧ Th H v2 e2 := by
  match xs, ds, h, l with
  | [v1, v2], [e1, e2], .cons h1 (.cons h2 .nil), _ => exact ⟨v1, v2, e1, e2, rfl, rfl, h1, h2⟩
/-- what is asked whether it is a share -/
inductive Tg (H : Hp) : V → PyData → Prop
  | th {v : V} {d : PyData} : Th H v d → Tg H v d
  | tup {a : Addr} {xs : List V} {ds : List PyData} : H a = some (.tup xs) → ThAll H xs ds → ds.length ≤ 3 → Tg H (.ref a) (.tuple ds)
  | lst {a : Addr} {xs : List V} {ds : List PyData} : a ≠ sysModules → H a = some (.lst xs) → ThAll H xs ds → ds.length ≤ 3 → Tg H (.ref a) (.list ds)
theorem Tg.mono {H H' : Hp} (s : Same H H') : ∀ {v : V} {d : PyData}, Tg H v d → Tg H' v d
  | _, _, .th h => .th (h.mono s)
  | _, _, .tup h r l => .tup (s _ _ h) (r.mono s) l
  | _, _, .lst n h r l => .lst n (s _ _ h) (r.mono s) l
theorem Tg.q {K : PySem.W.Frag} {H : Hp} : ∀ {v : V} {d : PyData}, Tg H v d → Dq K H v d
  | _, _, .th h => h.q
  | _, _, .tup h r _ => .tup (SqT.of h) r.q
  | _, _, .lst n h r _ => .lst n (SqL.of h) r.q
def shareOf : PyData → Bool
  | .tuple [.int t, .int b] => decide (1 ≤ b) && decide (gI t b = 1)
  | _ => false
theorem shareOf_no {d : PyData} (h : isT d = false) : shareOf d = false := by
  cases d <;> first | rfl | cases h
theorem Tg.two {K : PySem.W.Frag} {H : Hp} {v : V} {d : PyData} (h : Tg H v d) :
    (∃ t, TyX K H v t ∧ PySem.W.kitOne K t (.type "tuple") = some false ∧ shareOf d = false) ∨
    (∃ a xs ds, v = .ref a ∧ d = .tuple ds ∧ H a = some (.tup xs) ∧ ThAll H xs ds) := by
  cases h with
  | th h =>
    cases e : isT d with
    | false =>
      obtain ⟨t, ty, _, _, _, _, k⟩ := h.ty (K := K)
      rw [e] at k
      exact .inl ⟨t, ty, k, shareOf_no e⟩
    | true =>
      cases h with
      | tup h => exact .inr ⟨_, _, _, rfl, rfl, h, .cons (.int 1 (by decide)) .nil⟩
      | _ => cases e
  | tup h r _ => exact .inr ⟨_, _, _, rfl, rfl, h, r⟩
  | lst n h r _ => exact .inl ⟨_, .base (.lst h), kit_ty (by decide +kernel), rfl⟩
def spIs : Sp := fun vs H Q _ => ∃ (v : V) (d : PyData), vs = [v] ∧ Tg H v d ∧ Q (.bl (shareOf d)) H
theorem shareOf_len {ds : List PyData} (h : ds.length ≠ 2) : shareOf (.tuple ds) = false := by
  match ds, h with
  | [], _ => rfl
  | [_], _ => simp [shareOf]
  | [_, _], h => exact absurd rfl h
  | _ :: _ :: _ :: _, _ => simp [shareOf]
theorem shareOf_l {d1 d2 : PyData} (h : isI d1 = false) : shareOf (.tuple [d1, d2]) = false := by
  cases d1 <;> first | rfl | (simp [isI] at h)
theorem shareOf_r {d1 d2 : PyData} (h : isI d2 = false) : shareOf (.tuple [d1, d2]) = false := by
  cases d2 <;> first | (cases d1 <;> rfl) | (simp [isI] at h)
section
variable {P : Program} {w : World} {K : PySem.W.Frag} {mg : Str → Option Value} {base : Heap} {f f1 f2 f3 : Addr} {fd d1 d2 d3 : FuncData} {k : Nat}
theorem ok_num (F : Fun K "_law_number" "_law_number" sNumber f fd) (D : Cl P w K mg base CX0 1 "_law_digit" ["_law_left_here", "_law_upto"] spDigit f1 d1) :
    FnOk P w K mg base CX0 2 f fd ["_law_left_here"] spNum := by
  refine F.ok scNumber (fun vs H Q E h => ?_) (fun cdv A outer s H vs Q E hr h => ?_)
  · obtain ⟨p, n, rfl, _⟩ := h
    rfl
  · obtain ⟨p, n, rfl, hp, q⟩ := h
    refine ⟨_, pss_cons (ps_set (i := 1) scNumber.nd rfl (.inl rfl) (pe_call D.ok hr (by rfl) D.g D.kp D.bd .nil pass0 (pa_cons (pv 0) (pa_cons pe_int pa_nil))))
      (pss_cons (ps_if (pt_cmpR op_eq (pv 1) pe_int (nomark _)) (pss_one (ps_ret (pe_ix ix_list
          (pe_lst (pa_cons pe_non (pa_cons pe_bl (pa_cons pe_bl (pa_cons pe_str (pa_cons (pe_tup (pa_cons pe_int pa_nil)) (pa_cons (pe_lstM (pa_cons pe_int pa_nil)) (pa_cons pe_dnewK (pa_cons pe_str pa_nil)))))))))
          (pe_call D.ok hr (by rfl) D.g D.kp D.bd .nil pass0 (pa_cons (pv 0) (pa_cons pe_int pa_nil))) (fun _ _ => rfl)))) pss_nil)
      (pss_cons (ps_if (pt_cmpR op_eq (pv 1) pe_int (nomark _)) (pss_one (ps_ret (pe_op op_mul (pe_op op_sub (pe_call D.ok hr (by rfl) D.g D.kp D.bd .nil pass0 (pa_cons (pv 0) (pa_cons (pe_op op_pow pe_int pe_int) pa_nil))) (pe_op op_pow pe_int pe_int)) pe_int))) pss_nil)
      (pss_one (ps_ret (pe_op op_sub (pe_call D.ok hr (by rfl) D.g D.kp D.bd .nil pass0 (pa_cons (pv 0) (pa_cons pe_int pa_nil))) pe_int))))), ?_⟩
    refine ⟨_, rfl, p, n, 8, rfl, hp, by decide, log_of (n := 10) (by decide) (by decide) (by decide), ?_⟩
    have k0 : Keep p H (upd H p (.lst [.int (n / 8)])) := keep_upd
    have e0 : (upd H p (.lst [.int (n / 8)])) p = some (.lst [.int (n / 8)]) := upd_same
    generalize upd H p (.lst [.int (n / 8)]) = H0 at k0 e0
    refine ⟨_, rfl, rfl, _, rfl, ite2 (fun _ => ?_) (fun _ => ?_)⟩
    · refine ⟨by show 1 ≤ sizeLine; decide, fun t ht => ⟨by show 1 ≤ sizeLine; decide, fun l hl ml => fun c hc => ⟨by show 8 ≤ sizeLine; decide, fun L hL => ?_⟩⟩⟩
      have a1 : Same H0 (upd H0 t (.tup [.int 1])) := same_new ht
      have a2 := a1.trans (same_new (o := .lst [.int 1]) hl)
      have a3 := a2.trans (same_new (o := .dK []) hc)
      have a4 := a3.trans (same_new (o := .lst [.non, .bl true, .bl false, .str "1", .ref t, .ref l, .ref c, .str ""]) hL)
      have g1 := same_new (o := .lst [.non, .bl true, .bl false, .str "1", .ref t, .ref l, .ref c, .str ""]) hL _ _ (same_new (o := .dK []) hc _ _ (same_new (o := .lst [.int 1]) hl _ _ (upd_same (H := H0) (a := t) (o := .tup [.int 1]))))
      have g2 := same_new (o := .lst [.non, .bl true, .bl false, .str "1", .ref t, .ref l, .ref c, .str ""]) hL _ _ (same_new (o := .dK []) hc _ _ (upd_same (H := upd H0 t (.tup [.int 1])) (a := l) (o := .lst [.int 1])))
      have g3 := same_new (o := .lst [.non, .bl true, .bl false, .str "1", .ref t, .ref l, .ref c, .str ""]) hL _ _ (upd_same (H := upd (upd H0 t (.tup [.int 1])) l (.lst [.int 1])) (a := c) (o := .dK []))
      have g4 : (upd (upd (upd (upd H0 t (.tup [.int 1])) l (.lst [.int 1])) c (.dK [])) L (.lst [.non, .bl true, .bl false, .str "1", .ref t, .ref l, .ref c, .str ""])) L = some (.lst [.non, .bl true, .bl false, .str "1", .ref t, .ref l, .ref c, .str ""]) := upd_same
      have np1 : t ≠ p := fun z => by rw [z, e0] at ht; cases ht
      have np2 : l ≠ p := fun z => by rw [z, a1 _ _ e0] at hl; cases hl
      have np3 : c ≠ p := fun z => by rw [z, a2 _ _ e0] at hc; cases hc
      have np4 : L ≠ p := fun z => by rw [z, a3 _ _ e0] at hL; cases hL
      have e4 := a4 _ _ e0
      generalize upd (upd (upd (upd H0 t (.tup [.int 1])) l (.lst [.int 1])) c (.dK [])) L (.lst [.non, .bl true, .bl false, .str "1", .ref t, .ref l, .ref c, .str ""]) = H4 at a4 g1 g2 g3 g4 e4
      refine ⟨_, rfl, p, n / 8, 8, rfl, e4, by decide, log_of (n := 10) (by decide) (by decide) (by decide), ?_⟩
      have k5 : Keep p H4 (upd H4 p (.lst [.int (n / 8 / 8)])) := keep_upd
      have e5 : (upd H4 p (.lst [.int (n / 8 / 8)])) p = some (.lst [.int (n / 8 / 8)]) := upd_same
      generalize upd H4 p (.lst [.int (n / 8 / 8)]) = H5 at k5 e5
      have kk : Keep p H H5 := k0.trans ((keep_same a4).trans k5)
      have i1 := k5 _ _ np1 g1
      have i2 := k5 _ _ np2 g2
      have i3 := k5 _ _ np3 g3
      have i4 := k5 _ _ np4 g4
      have m0 := Int.emod_nonneg (n / 8) (show (8 : Int) ≠ 0 by decide)
      have m8 := Int.emod_lt_of_pos (n / 8) (show (0 : Int) < 8 by decide)
      generalize n / 8 % 8 = i at m0 m8
      have h : i = 0 ∨ i = 1 ∨ i = 2 ∨ i = 3 ∨ i = 4 ∨ i = 5 ∨ i = 6 ∨ i = 7 := by omega
      rcases h with rfl | rfl | rfl | rfl | rfl | rfl | rfl | rfl
      · exact ⟨L, _, 0, _, rfl, rfl, SqL.of i4, rfl, q H5 _ _ _ kk e5 .non (fun z => nomatch z)⟩
      · exact ⟨L, _, 1, _, rfl, rfl, SqL.of i4, rfl, q H5 _ _ _ kk e5 (.bl true) (fun z => nomatch z)⟩
      · exact ⟨L, _, 2, _, rfl, rfl, SqL.of i4, rfl, q H5 _ _ _ kk e5 (.bl false) (fun z => nomatch z)⟩
      · exact ⟨L, _, 3, _, rfl, rfl, SqL.of i4, rfl, q H5 _ _ _ kk e5 .one (fun z => nomatch z)⟩
      · exact ⟨L, _, 4, _, rfl, rfl, SqL.of i4, rfl, q H5 _ _ _ kk e5 (.tup i1) (fun z => np1 (V.ref.inj z))⟩
      · exact ⟨L, _, 5, _, rfl, rfl, SqL.of i4, rfl, q H5 _ _ _ kk e5 (.lst ml i2) (fun z => np2 (V.ref.inj z))⟩
      · exact ⟨L, _, 6, _, rfl, rfl, SqL.of i4, rfl, q H5 _ _ _ kk e5 (.dic i3) (fun z => np3 (V.ref.inj z))⟩
      · exact ⟨L, _, 7, _, rfl, rfl, SqL.of i4, rfl, q H5 _ _ _ kk e5 .emp (fun z => nomatch z)⟩
    · refine ⟨_, rfl, rfl, _, rfl, ite2 (fun _ => ?_) (fun _ => ?_)⟩
      · have A1 : ((10 : Int) ^ (30 : Int).toNat) = 1000000000000000000000000000000 := by decide
        have A2 : ((10 : Int) ^ (29 : Int).toNat) = 100000000000000000000000000000 := by decide
        refine ⟨_, rfl, 10, 30, rfl, rfl, ⟨by decide, by decide, by decide⟩, p, n / 8, _, rfl, e0, by rw [A1]; decide, log_of (n := 120) (by decide) (by decide) (by rw [A1]; decide), 10, 29, rfl, rfl, ⟨by decide, by decide, by decide⟩, _, _, rfl, rfl, _, _, rfl, rfl, .inr ⟨by decide, by decide⟩, ?_⟩
        rw [A1, A2]
        have t0 := Int.emod_nonneg (n / 8) (show (1000000000000000000000000000000 : Int) ≠ 0 by decide)
        have t1 := Int.emod_lt_of_pos (n / 8) (show (0 : Int) < 1000000000000000000000000000000 by decide)
        exact q _ _ _ _ (k0.trans keep_upd) upd_same (.int _ (by omega)) (fun z => nomatch z)
      · have t0 := Int.emod_nonneg (n / 8) (show (41 : Int) ≠ 0 by decide)
        have t1 := Int.emod_lt_of_pos (n / 8) (show (0 : Int) < 41 by decide)
        refine ⟨_, rfl, p, n / 8, 41, rfl, e0, by decide, log_of (n := 10) (by decide) (by decide) (by decide), _, _, rfl, rfl, ?_⟩
        exact q _ _ _ _ (k0.trans keep_upd) upd_same (.int _ (by omega)) (fun z => nomatch z)
theorem ok_is (F : Fun K "is_share" "is_share" sIs f fd) (W : Cl P w K mg base CX0 1 "is_whole" ["thing"] spWhole f1 d1) (D : Cl P w K mg base CX0 1 "divisor" ["one", "other"] spDiv f2 d2)
    (mi : mg "isinstance" = none) (mt : mg "tuple" = none) (ml : mg "len" = none) : FnOk P w K mg base CX0 2 f fd ["thing"] spIs := by
  refine F.ok scIs (fun vs H Q E h => ?_) (fun cdv A outer s H vs Q E hr h => ?_)
  · obtain ⟨v, d, rfl, _⟩ := h
    rfl
  · obtain ⟨v, d, rfl, hv, q⟩ := h
    refine ⟨_, pss_cons (ps_if (PW.pt (pw_or (pt_not (pt_val (pe_callB call_isi (by rfl) mi (by decide +kernel) (pa_cons (pv 0) (pa_cons (pe_bltn (v := .ty "tuple") (by rfl) mt (by decide +kernel) rfl) pa_nil)))))
        (pw_or1 (pt_cmpR op_ne (pe_callB call_len_seq (by rfl) ml PySem.boot_len (pa_cons (pv 0) pa_nil)) pe_int (nomark _))))) (pss_one (ps_ret pe_bl)) pss_nil)
      (pss_cons (ps_asg (pv 0) (pg_tup (by rfl) (pgs_cons (pg_name (i := 1) scIs.nd rfl (.inl rfl)) (pgs_cons (pg_name (i := 2) scIs.nd rfl (.inl rfl)) pgs_nil))))
      (pss_one (ps_ret (pe_and (pe_call W.ok hr (by rfl) W.g W.kp W.bd .nil pass0 (pa_cons (pv 1) pa_nil)) (pe_and (pe_call W.ok hr (by rfl) W.g W.kp W.bd .nil pass0 (pa_cons (pv 2) pa_nil))
        (pe_and (pe_cmpR op_ge (pv 2) pe_int (nomark _)) (pe_one (pe_cmpR op_eq (pe_call D.ok hr (by rfl) D.g D.kp D.bd .nil pass0 (pa_cons (pv 1) (pa_cons (pv 2) pa_nil))) pe_int (nomark _))))))))), ?_⟩
    rcases hv.two (K := K) with ⟨t, ty, kt, sh⟩ | ⟨a, xs, ds, rfl, rfl, ha, al⟩
    · refine ⟨_, rfl, _, _, t, _, false, rfl, .ty _, ty, kt, _, rfl, iteT (iteT ?_)⟩
      rw [sh] at q
      exact q
    · refine ⟨_, rfl, _, _, _, _, true, rfl, .ty _, .base (.tup ha), kit_ty (by decide +kernel), _, rfl, iteF ?_⟩
      refine ⟨_, rfl, a, xs, rfl, .inr (SqT.of ha), rfl, _, rfl, ?_⟩
      by_cases l2 : xs.length = 2
      · refine ite2 (fun e => ?_) (fun _ => ?_)
        · rw [decide_eq_true (show V.int (xs.length : Int) = V.int 2 by rw [l2]; rfl)] at e
          cases e
        · obtain ⟨v1, v2, e1, e2, rfl, rfl, h1, h2⟩ := al.pair l2
          refine ⟨_, rfl, a, _, rfl, SqT.of ha, rfl, v1, _, rfl, v2, _, rfl, rfl, ?_⟩
          refine ⟨_, rfl, v1, e1, rfl, h1, _, rfl, ?_⟩
          cases i1 : isI e1 with
          | false =>
            rw [shareOf_l i1] at q
            exact iteF q
          | true =>
            refine iteT ?_
            refine ⟨_, rfl, v2, e2, rfl, h2, _, rfl, ?_⟩
            cases i2 : isI e2 with
            | false =>
              rw [shareOf_r i2] at q
              exact iteF q
            | true =>
              refine iteT ?_
              obtain ⟨t, rfl, rfl, _⟩ := h1.isInt i1
              obtain ⟨b, rfl, rfl, _⟩ := h2.isInt i2
              refine ⟨_, rfl, b, 1, rfl, rfl, _, rfl, ?_⟩
              have q' : Q (.bl (decide (1 ≤ b) && decide (gI t b = 1))) H := q
              by_cases hb : 1 ≤ b
              · refine ite2 (fun _ => ?_) (fun z => absurd (decide_eq_true hb) z)
                rw [decide_eq_true hb] at q'
                refine ⟨_, rfl, _, rfl, t, b, rfl, rfl, ?_⟩
                have e : decide (V.int (gI t b) = V.int 1) = decide (gI t b = 1) := by
                  rw [dec_int]
                  rfl
                rw [e]
                exact q'
              · refine ite2 (fun z => absurd (of_decide_eq_true z) hb) (fun _ => ?_)
                rw [decide_eq_false hb] at q'
                exact q'
      · refine ite2 (fun _ => ?_) (fun e => ?_)
        · rw [shareOf_len (by rw [← al.len]; exact l2)] at q
          exact q
        · have z : decide (V.int (xs.length : Int) = V.int 2) = false := decide_eq_false fun z => l2 (by have := V.int.inj z; omega)
          rw [z] at e
          exact absurd rfl e
end
end K1

namespace K1
open PySem PySem.Spec PyProof.Rows L2 Gs
def dS (x : Int × Int) : PyData := .tuple [.int x.1, .int x.2]
/-- what is due: the word, and the thing that is shown -/
def dueA (d1 d2 : PyData) : Str × PyData :=
  match d1, d2 with
  | .int t, .int b => if b = 0 then ("none", d2) else ("told", dS (lw t b))
  | .int _, _ => ("none", d2)
  | _, _ => ("none", d1)
theorem due_l {d1 d2 : PyData} (h : isI d1 = false) : dueA d1 d2 = (("none" : Str), d1) := by
  cases d1 <;> first | rfl | (simp [isI] at h)
theorem due_r {t : Int} {d2 : PyData} (h : isI d2 = false) : dueA (.int t) d2 = (("none" : Str), d2) := by
  cases d2 <;> first | rfl | (simp [isI] at h)
theorem due_0 {t : Int} : dueA (.int t) (.int 0) = (("none" : Str), PyData.int 0) := rfl
theorem due_t {t b : Int} (h : b ≠ 0) : dueA (.int t) (.int b) = (("told" : Str), dS (lw t b)) := if_neg h
def spDue (x : List V → Prop) : Sp := fun vs H Q _ => ∃ (v1 v2 : V) (d1 d2 : PyData) (r : List V), vs = v1 :: v2 :: r ∧ r.length = (vs.length - 2) ∧ x vs ∧ Th H v1 d1 ∧ Th H v2 d2 ∧
  ∀ H' p, Same H H' → H' p = some (.lst [.str (dueA d1 d2).1, .str (dueA d1 d2).2.shown]) → Q (.ref p) H'
theorem sh_ok {t b : Int} (h : b ≠ 0) (ht : t.natAbs < 2 ^ 120) (hb : b.natAbs < 2 ^ 120) : (dS (lw t b)).showable = true ∧ (dS (lw t b)).depth ≤ 60 ∧ (dS (lw t b)).shown.length ≤ sizeLine := by
  have bd := lw_bd h ht hb
  have z1 := int_show bd.1
  have z2 := int_show bd.2
  refine ⟨by simp [dS, PyData.showable, PyData.showableAll, z1, z2], by simp [dS, PyData.depth, PyData.depthAll], ?_⟩
  have l1 := int_text_len_1921 z1
  have l2 := int_text_len_1921 z2
  have z := fmt_text [(toString (lw t b).1 : Str), (toString (lw t b).2 : Str)]
  rw [piled_cons, piled_cons, piled_nil] at z
  have e : PyData.shown (dS (lw t b)) = tupleText [(toString (lw t b).1 : Str), (toString (lw t b).2 : Str)] := by
    simp only [dS, PyData.shown, PyData.shownAll]
  rw [e, sizeLine_eq]
  omega
theorem th_small {H : Hp} {v : V} {d : PyData} (h : Th H v d) : d.showable = true ∧ d.depth ≤ 60 ∧ d.shown.length ≤ sizeLine := by
  obtain ⟨a, b, c⟩ := h.ok
  refine ⟨a, by omega, ?_⟩
  rw [sizeLine_eq]
  omega
section
variable {P : Program} {w : World} {K : PySem.W.Frag} {mg : Str → Option Value} {base : Heap} {f f1 f2 f3 C G NW fI : Addr} {fd d1 d2 d3 : FuncData} {k : Nat}
theorem ok_lis (F : Fun K "_law_is_share" "_law_is_share" sLIs f fd) (W : Cl P w K mg base CX0 1 "_law_whole" ["_law_thing"] spWhole f1 d1) (D : Cl P w K mg base CX0 1 "_law_common" ["_law_one", "_law_other"] spDiv f2 d2)
    (mi : mg "isinstance" = none) (mt : mg "tuple" = none) (ml : mg "len" = none) : FnOk P w K mg base CX0 2 f fd ["_law_thing"] spIs := by
  refine F.ok scLIs (fun vs H Q E h => ?_) (fun cdv A outer s H vs Q E hr h => ?_)
  · obtain ⟨v, d, rfl, _⟩ := h
    rfl
  · obtain ⟨v, d, rfl, hv, q⟩ := h
    refine ⟨_, pss_cons (ps_if (PW.pt (pw_or (pt_not (pt_val (pe_callB call_isi (by rfl) mi (by decide +kernel) (pa_cons (pv 0) (pa_cons (pe_bltn (v := .ty "tuple") (by rfl) mt (by decide +kernel) rfl) pa_nil)))))
        (pw_or (pt_cmpR op_ne (pe_callB call_len_seq (by rfl) ml PySem.boot_len (pa_cons (pv 0) pa_nil)) pe_int (nomark _))
        (pw_or (pt_not (pt_val (pe_call W.ok hr (by rfl) W.g W.kp W.bd .nil pass0 (pa_cons (pe_ix ix_tup (pv 0) pe_int (fun _ _ => rfl)) pa_nil))))
        (pw_or1 (pt_not (pt_val (pe_call W.ok hr (by rfl) W.g W.kp W.bd .nil pass0 (pa_cons (pe_ix ix_tup (pv 0) pe_int (fun _ _ => rfl)) pa_nil))))))))) (pss_one (ps_ret pe_bl)) pss_nil)
      (pss_one (ps_ret (pe_and (pe_cmpR op_gt (pe_ix ix_tup (pv 0) pe_int (fun _ _ => rfl)) pe_int (nomark _))
        (pe_one (pe_cmpR op_eq (pe_call D.ok hr (by rfl) D.g D.kp D.bd .nil pass0 (pa_cons (pe_ix ix_tup (pv 0) pe_int (fun _ _ => rfl)) (pa_cons (pe_ix ix_tup (pv 0) pe_int (fun _ _ => rfl)) pa_nil))) pe_int (nomark _)))))), ?_⟩
    rcases hv.two (K := K) with ⟨t, ty, kt, sh⟩ | ⟨a, xs, ds, rfl, rfl, ha, al⟩
    · refine ⟨_, rfl, _, _, t, _, false, rfl, .ty _, ty, kt, _, rfl, iteT (iteT ?_)⟩
      rw [sh] at q
      exact q
    · refine ⟨_, rfl, _, _, _, _, true, rfl, .ty _, .base (.tup ha), kit_ty (by decide +kernel), _, rfl, iteF ?_⟩
      refine ⟨_, rfl, a, xs, rfl, .inr (SqT.of ha), rfl, _, rfl, ?_⟩
      by_cases l2 : xs.length = 2
      · refine ite2 (fun e => ?_) (fun _ => ?_)
        · rw [decide_eq_true (show V.int (xs.length : Int) = V.int 2 by rw [l2]; rfl)] at e
          cases e
        · obtain ⟨v1, v2, e1, e2, rfl, rfl, h1, h2⟩ := al.pair l2
          refine ⟨_, rfl, a, _, 0, v1, rfl, rfl, SqT.of ha, atI_nat (j := 0) rfl, v1, e1, rfl, h1, _, rfl, ?_⟩
          cases i1 : isI e1 with
          | false =>
            rw [shareOf_l i1] at q
            exact iteT (iteT q)
          | true =>
            refine iteF ?_
            refine ⟨_, rfl, a, _, 1, v2, rfl, rfl, SqT.of ha, atI_nat (j := 1) rfl, v2, e2, rfl, h2, _, rfl, ?_⟩
            cases i2 : isI e2 with
            | false =>
              rw [shareOf_r i2] at q
              exact iteT q
            | true =>
              refine iteF ?_
              obtain ⟨t, rfl, rfl, _⟩ := h1.isInt i1
              obtain ⟨b, rfl, rfl, _⟩ := h2.isInt i2
              refine ⟨_, rfl, a, _, 1, _, rfl, rfl, SqT.of ha, atI_nat (j := 1) rfl, b, 0, rfl, rfl, _, rfl, ?_⟩
              have q' : Q (.bl (decide (1 ≤ b) && decide (gI t b = 1))) H := q
              by_cases hb : 0 < b
              · refine ite2 (fun _ => ?_) (fun z => absurd (decide_eq_true hb) z)
                rw [decide_eq_true (show 1 ≤ b by omega)] at q'
                refine ⟨_, rfl, a, _, 0, _, rfl, rfl, SqT.of ha, atI_nat (j := 0) rfl, _, rfl, a, _, 1, _, rfl, rfl, SqT.of ha, atI_nat (j := 1) rfl, t, b, rfl, rfl, ?_⟩
                have e : decide (V.int (gI t b) = V.int 1) = decide (gI t b = 1) := by
                  rw [dec_int]
                  rfl
                rw [e]
                exact q'
              · refine ite2 (fun z => absurd (of_decide_eq_true z) hb) (fun _ => ?_)
                rw [decide_eq_false (show ¬ 1 ≤ b by omega)] at q'
                exact q'
      · refine ite2 (fun _ => ?_) (fun e => ?_)
        · rw [shareOf_len (by rw [← al.len]; exact l2)] at q
          exact iteT q
        · have z : decide (V.int (xs.length : Int) = V.int 2) = false := decide_eq_false fun z => l2 (by have := V.int.inj z; omega)
          rw [z] at e
          exact absurd rfl e
theorem ok_due (F : Fun K "_law_due" "_law_due" sDue f fd) (W : Cl P w K mg base CX0 1 "_law_whole" ["_law_thing"] spWhole f1 d1) (D : Cl P w K mg base CX0 1 "_law_common" ["_law_one", "_law_other"] spDiv f2 d2)
    (mp : mg "repr" = none) : FnG P w K mg base CX0 2 f fd ["_law_high_one", "_law_low_one"] (spDue fun vs => vs.length = 2) := by
  refine okG F scDue (fun vs H Q E h => ?_) (fun cdv A outer s H vs Q E hg hr h => ?_)
  · obtain ⟨v1, v2, d1, d2, r, rfl, _, h, _⟩ := h
    exact h
  · obtain ⟨v1, v2, d1, d2, r, rfl, _, h, t1, t2, q⟩ := h
    obtain rfl : r = [] := List.eq_nil_of_length_eq_zero (by simpa using h)
    have gd : (A.deeper (envOfC "_law_due" (defScope sDue) s.heap.objs.size f cdv)).guards = some [] := hg
    refine ⟨_, pss_cons (ps_if (pt_not (pt_val (pe_call W.ok hr (by rfl) W.g W.kp W.bd .nil pass0 (pa_cons (pv 0) pa_nil))))
        (pss_one (ps_ret (pe_lst (pa_cons pe_str (pa_cons (pe_callB (call_reprQ gd hr.units) (by rfl) mp (by decide +kernel) (pa_cons (pv 0) pa_nil)) pa_nil))))) pss_nil)
      (pss_cons (ps_if (PW.pt (pw_or (pt_not (pt_val (pe_call W.ok hr (by rfl) W.g W.kp W.bd .nil pass0 (pa_cons (pv 1) pa_nil)))) (pw_or1 (pt_cmpR op_eq (pv 1) pe_int (nomark _)))))
        (pss_one (ps_ret (pe_lst (pa_cons pe_str (pa_cons (pe_callB (call_reprQ gd hr.units) (by rfl) mp (by decide +kernel) (pa_cons (pv 1) pa_nil)) pa_nil))))) pss_nil)
      (pss_cons (ps_set (i := 2) scDue.nd rfl (.inl rfl) (pe_call D.ok hr (by rfl) D.g D.kp D.bd .nil pass0 (pa_cons (pv 0) (pa_cons (pv 1) pa_nil))))
      (pss_cons (ps_if (pt_cmpR op_lt (pv 1) pe_int (nomark _)) (pss_one (ps_set (i := 2) scDue.nd rfl (.inl rfl) (pe_op op_sub pe_int (pv 2)))) pss_nil)
      (pss_one (ps_ret (pe_lst (pa_cons pe_str (pa_cons (pe_callB (call_reprQ gd hr.units) (by rfl) mp (by decide +kernel) (pa_cons (pe_tup (pa_cons (pe_op op_fdivZ (pv 0) (pv 2)) (pa_cons (pe_op op_fdivZ (pv 1) (pv 2)) pa_nil))) pa_nil)) pa_nil)))))))), ?_⟩
    obtain ⟨a1, a2, a3⟩ := th_small t1
    obtain ⟨b1, b2, b3⟩ := th_small t2
    refine ⟨_, rfl, v1, d1, rfl, t1, _, rfl, ?_⟩
    cases hI : isI d1 with
    | false =>
      rw [due_l hI] at q
      refine iteT ?_
      exact ⟨_, rfl, v1, d1, rfl, t1.q, a1, a2, a3, by show 2 ≤ sizeLine; decide, fun p hp => q _ p (same_new hp) upd_same⟩
    | true =>
      refine iteF ?_
      obtain ⟨t, rfl, rfl, ht⟩ := t1.isInt hI
      refine ⟨_, rfl, v2, d2, rfl, t2, _, rfl, ?_⟩
      cases hJ : isI d2 with
      | false =>
        rw [due_r hJ] at q
        refine iteT (iteT ?_)
        exact ⟨_, rfl, v2, d2, rfl, t2.q, b1, b2, b3, by show 2 ≤ sizeLine; decide, fun p hp => q _ p (same_new hp) upd_same⟩
      | true =>
        refine iteF ?_
        obtain ⟨b, rfl, rfl, hb⟩ := t2.isInt hJ
        refine ⟨_, rfl, rfl, _, rfl, ite2 (fun e => ?_) (fun e => ?_)⟩
        · have e1 : b = 0 := V.int.inj (of_decide_eq_true e)
          subst e1
          exact ⟨_, rfl, _, _, rfl, t2.q, b1, b2, b3, by show 2 ≤ sizeLine; decide, fun p hp => q _ p (same_new hp) upd_same⟩
        · have e1 : b ≠ 0 := fun z => e (decide_eq_true (by rw [z]))
          rw [due_t e1] at q
          obtain ⟨c1, c2, c3⟩ := sh_ok e1 ht hb
          obtain ⟨g0, gz⟩ := gI_bd (a := t) e1 hb
          have lg := log_of (by decide) (by decide) gz
          refine ⟨_, rfl, _, rfl, t, b, rfl, ?_⟩
          have fin : ∀ (p : Addr) (g : Int), lw t b = (t.fdiv g, b.fdiv g) → H p = none → Dq K (upd H p (.tup [.int (t.fdiv g), .int (b.fdiv g)])) (.ref p) (dS (lw t b)) := fun p g e hp => by
            refine .tup (SqT.of upd_same) ?_
            rw [e]
            exact .cons (.int _) (.cons (.int _) .nil)
          refine ⟨_, rfl, b, 0, rfl, rfl, _, rfl, ite2 (fun e2 => ?_) (fun e2 => ?_)⟩
          · have hn : b < 0 := of_decide_eq_true e2
            refine ⟨_, rfl, 0, gI t b, rfl, rfl, ?_⟩
            refine ⟨_, rfl, _, rfl, t, 0 - gI t b, rfl, rfl, ⟨by omega, by rw [Int.zero_sub, Int.natAbs_neg]; exact lg⟩, _, rfl, _, rfl, b, 0 - gI t b, rfl, rfl, ⟨by omega, by rw [Int.zero_sub, Int.natAbs_neg]; exact lg⟩, by show 2 ≤ sizeLine; decide, fun p hp => ?_⟩
            have el : lw t b = (t.fdiv (0 - gI t b), b.fdiv (0 - gI t b)) := by
              unfold lw
              rw [if_pos hn, Int.zero_sub]
            refine ⟨_, _, rfl, fin p _ el hp, c1, c2, c3, by show 2 ≤ sizeLine; decide, fun r hr0 => q _ r ((same_new hp).trans (same_new hr0)) upd_same⟩
          · have hn : ¬ b < 0 := fun z => e2 (decide_eq_true z)
            refine ⟨_, rfl, _, rfl, t, gI t b, rfl, rfl, ⟨by omega, lg⟩, _, rfl, _, rfl, b, gI t b, rfl, rfl, ⟨by omega, lg⟩, by show 2 ≤ sizeLine; decide, fun p hp => ?_⟩
            have el : lw t b = (t.fdiv (gI t b), b.fdiv (gI t b)) := by
              unfold lw
              rw [if_neg hn]
            refine ⟨_, _, rfl, fin p _ el hp, c1, c2, c3, by show 2 ≤ sizeLine; decide, fun r hr0 => q _ r ((same_new hp).trans (same_new hr0)) upd_same⟩
end
end K1

namespace K1
open PySem PySem.Spec PyProof.Rows L2 Gs
abbrev FunS (K : PySem.W.Frag) (f : Addr) (fd : FuncData) : Prop := FunD K "share" "share" (defArgs sShare) (defBody sShare) (defScope sShare) [V.int 1] [] f fd
def swap2 {α : Type} (_ l : List α) : List α := match l with | [b, t] => [t, b] | l => l
section
variable {K : PySem.W.Frag} {f : Addr} {fd : FuncData}
theorem b_one (F : FunS K f fd) : ∃ ds, Vals [V.int 1] ds ∧ Binds K fd ["top", "bottom"] ds := by
  refine FunD.binds1 F 1 0 (by simp) rfl (fun T kV doc pm an cdv ct us its h1 h2 => ?_)
  match us, h1, its, h2 with
  | [u], _, [v], _ => exact ⟨_, rfl, rfl⟩
theorem b_two (F : FunS K f fd) : Binds K fd ["top", "bottom"] [] := by
  obtain ⟨ds, h1, h2⟩ := FunD.binds1 F 2 1 (by simp) rfl (ps := ["top", "bottom"]) (fun T kV doc pm an cdv ct us its h1 h2 => by
    match us, h1, its, h2 with
    | [u, u'], _, [v], _ => exact ⟨_, rfl, rfl⟩)
  cases h1
  exact h2
theorem b_kw (F : FunS K f fd) : KBn K fd ["top", "bottom"] 0 ["bottom", "top"] swap2 swap2 := by
  obtain ⟨oc, od, dV, kV, doc, pm, an, cdv, ct, osl, rfl, lk, hcd, hD, hK⟩ := F.ex
  rcases hD with ⟨e, _⟩ | ⟨_, T, o, its, m, rfl, lT, oT, rT⟩
  · cases e
  · refine ⟨fun s us ws X l1 l2 => ?_, fun {vs us zs ws} r1 r2 => ?_⟩
    · match us, l1, ws, l2 with
      | [], _, [b, t], _ =>
        obtain ⟨u1, u2⟩ : ∃ u, its = [u] := by
          cases rT with
          | cons x r =>
            cases r
            exact ⟨_, rfl⟩
        subst u2
        refine BindsTo.of_looks fun M => ?_
        first
          | exact PySem.W.Looks.of_pure rfl
          | exact looks_items X lT oT (.of_pure rfl)
    · cases r2 with
      | nil => exact .nil
      | cons x r2 =>
        cases r2 with
        | nil => exact .cons x .nil
        | cons y r2 =>
          cases r2 with
          | nil => exact .cons y (.cons x .nil)
          | cons z r2 => exact .cons x (.cons y (.cons z r2))
end
section
variable {P : Program} {w : World} {K : PySem.W.Frag} {mg : Str → Option Value} {base : Heap} {f fS C G NW fI : Addr} {fd fdS : FuncData} {mc : Value}
theorem ok_told (F : Fun K "_law_told" "_law_told" sTold f fd) (S : FnOk P w K mg base (L2.CX P w) 3 fS fdS ["top", "bottom"] (spShare C)) (FS : FunS K fS fdS) (gS : mg "share" = some (.ref fS))
    (T : ErT K mg C G fI mc) (eC : PySem.W.exmOne K (.ref C) (.ref C) = some true) (CK : ExcC K C) (XF : XfC K C) (kG : PySem.W.kitOne K (.ref C) (.ref G) = some true)
    (gN : mg "NoWishes" = some (.ref NW)) (kN : PySem.W.kitOne K (.ref C) (.ref NW) = some false) (mi : mg "isinstance" = none) (mp : mg "repr" = none) :
    FnG P w K mg base CX0 4 f fd ["_law_high_one", "_law_low_one", "_law_way"] (spDue fun vs => vs.drop 2 = [.int 0] ∨ vs.drop 2 = [.int 1] ∨ vs.drop 1 = [.int 1, .int 2]) := by
  refine okG F scTold (fun vs H Q E h => ?_) (fun cdv A outer s H vs Q E hg hr h => ?_)
  · obtain ⟨v1, v2, d1, d2, r, rfl, _, h, _⟩ := h
    rcases h with h | h | h
    · have h : r = [.int 0] := h
      rw [h]
      rfl
    · have h : r = [.int 1] := h
      rw [h]
      rfl
    · have h : v2 :: r = [.int 1, .int 2] := h
      cases h
      rfl
  · obtain ⟨v1, v2, d1, d2, r, rfl, _, h, t1, t2, q⟩ := h
    have gd : (A.deeper (envOfC "_law_told" (defScope sTold) s.heap.objs.size f cdv)).guards = some [] := hg
    obtain ⟨ds, vds, bds⟩ := b_one FS
    have b2 := b_two FS
    have bk := b_kw FS
    refine ⟨_, pss_cons (ps_set (i := 3) scTold.nd rfl (.inl rfl) pe_non)
      (pss_cons (ps_set (i := 4) scTold.nd rfl (.inl rfl) pe_non)
      (pss_cons (ps_try_kept (i := 5) (j := 3) rfl rfl rfl scTold.nd rfl rfl rfl rfl (by decide) (by decide) (by show 5 < 6; decide) (by decide) ⟨rfl, by decide, .inl T.gC⟩ takes0 (by rfl)
        (fun W pn xe tk _ => pss_one (ps_if (pt_cmpR op_eq (pv 2) pe_int (nomark _))
          (pss_one (ps_set (i := 4) scTold.nd rfl (.inl rfl) (pe_callS S hr (by rfl) gS FS.kp b2 (fun σ => passAt tk σ) (pa_cons (pv 0) (pa_cons (pv 1) pa_nil)))))
          (pss_one (ps_if (pt_cmpR op_eq (pv 2) pe_int (nomark _))
            (pss_one (ps_set (i := 4) scTold.nd rfl (.inl rfl) (pe_callS0 S hr (by rfl) gS FS.kp bk (fun σ => passAt tk σ) (pk_cons (pv 1) (pk_cons (pv 0) pk_nil)))))
            (pss_one (ps_set (i := 4) scTold.nd rfl (.inl rfl) (pe_callSD S hr (by rfl) gS FS.kp bds vds (fun σ => passAt tk σ) (pa_cons (pv 0) pa_nil)))))))))
      (pss_cons (ps_if (pt_cmpR op_isN (pv 3) pe_non (nomark _)) (pss_one (ps_ret (pe_lst (pa_cons pe_str (pa_cons (pe_callB (call_reprQ gd hr.units) (by rfl) mp (by decide +kernel) (pa_cons (pv 4) pa_nil)) pa_nil))))) pss_nil)
      (pss_cons (ps_if (PW.pt (pw_or (pt_not (pt_val (pe_callB (call_isF CK) (by rfl) mi (by decide +kernel) (pa_cons (pv 3) (pa_cons (pe_glob (v := .ref G) rfl T.gG rfl) pa_nil)))))
          (pw_or1 (pt_val (pe_callB (call_isF CK) (by rfl) mi (by decide +kernel) (pa_cons (pv 3) (pa_cons (pe_glob (v := .ref NW) rfl gN rfl) pa_nil)))))))
        (pss_one (ps_ret (pe_lst (pa_cons pe_str pa_nil)))) pss_nil)
      (pss_one (ps_ret (pe_lst (pa_cons pe_str (pa_cons (pe_callB (call_reprQ gd hr.units) (by rfl) mp (by decide +kernel) (pa_cons (pe_fldK XF T.no (pv 3)) pa_nil)) pa_nil))))))))), ?_⟩
    obtain ⟨a1, a2, a3⟩ := th_small t1
    obtain ⟨b1, b2', b3⟩ := th_small t2
    rcases h with h | h | h
    · obtain rfl : r = [.int 0] := h
      refine ⟨_, rfl, rfl, _, rfl, iteT ?_⟩
      refine ⟨_, rfl, _, rfl, v1, v2, d1, d2, rfl, t1, t2, ?_, ?_, ?_, ?_⟩
      · intro hI d hd
        rw [due_l hI] at q
        refine ⟨true, eC, fun _ a ha => ?_, fun z => nomatch z⟩
        have ed := same_new (o := ExK (.ref C) (some d) a) ha _ _ (upd_same (H := H) (a := d) (o := .xd [("thing", v1)]))
        have sm := (same_new (o := .xd [("thing", v1)]) hd).trans (same_new (o := ExK (.ref C) (some d) a) ha)
        refine ⟨_, rfl, rfl, _, rfl, iteF ?_⟩
        refine ⟨_, rfl, a, d, _, _, _, true, rfl, upd_same, ed, fun u r => r, kG, _, rfl, iteF ?_⟩
        refine ⟨_, rfl, a, d, _, _, _, false, rfl, upd_same, ed, fun u r => r, kN, _, rfl, iteF ?_⟩
        refine ⟨_, rfl, a, d, _, v1, rfl, upd_same, ed, by simp [List.lookup], v1, d1, rfl, (t1.mono sm).q, a1, a2, a3, by show 2 ≤ sizeLine; decide, fun p hp => ?_⟩
        exact q _ p (sm.trans (same_new hp)) upd_same
      · intro hI hJ d hd
        obtain ⟨t, rfl, rfl, _⟩ := t1.isInt hI
        rw [due_r hJ] at q
        refine ⟨true, eC, fun _ a ha => ?_, fun z => nomatch z⟩
        have ed := same_new (o := ExK (.ref C) (some d) a) ha _ _ (upd_same (H := H) (a := d) (o := .xd [("thing", v2)]))
        have sm := (same_new (o := .xd [("thing", v2)]) hd).trans (same_new (o := ExK (.ref C) (some d) a) ha)
        refine ⟨_, rfl, rfl, _, rfl, iteF ?_⟩
        refine ⟨_, rfl, a, d, _, _, _, true, rfl, upd_same, ed, fun u r => r, kG, _, rfl, iteF ?_⟩
        refine ⟨_, rfl, a, d, _, _, _, false, rfl, upd_same, ed, fun u r => r, kN, _, rfl, iteF ?_⟩
        refine ⟨_, rfl, a, d, _, v2, rfl, upd_same, ed, by simp [List.lookup], v2, d2, rfl, (t2.mono sm).q, b1, b2', b3, by show 2 ≤ sizeLine; decide, fun p hp => ?_⟩
        exact q _ p (sm.trans (same_new hp)) upd_same
      · intro hI hz d hd
        obtain ⟨t, rfl, rfl, _⟩ := t1.isInt hI
        subst hz
        rw [due_0] at q
        refine ⟨true, eC, fun _ a ha => ?_, fun z => nomatch z⟩
        have ed := same_new (o := ExK (.ref C) (some d) a) ha _ _ (upd_same (H := H) (a := d) (o := .xd [("thing", v2)]))
        have sm := (same_new (o := .xd [("thing", v2)]) hd).trans (same_new (o := ExK (.ref C) (some d) a) ha)
        refine ⟨_, rfl, rfl, _, rfl, iteF ?_⟩
        refine ⟨_, rfl, a, d, _, _, _, true, rfl, upd_same, ed, fun u r => r, kG, _, rfl, iteF ?_⟩
        refine ⟨_, rfl, a, d, _, _, _, false, rfl, upd_same, ed, fun u r => r, kN, _, rfl, iteF ?_⟩
        refine ⟨_, rfl, a, d, _, v2, rfl, upd_same, ed, by simp [List.lookup], v2, (.int 0), rfl, (t2.mono sm).q, b1, b2', b3, by show 2 ≤ sizeLine; decide, fun p hp => ?_⟩
        exact q _ p (sm.trans (same_new hp)) upd_same
      · intro t b e1 e2 hb p hp
        subst e1
        subst e2
        rw [due_t hb] at q
        obtain ⟨_, x1, x2, ht⟩ := t1.isInt rfl
        cases x2
        obtain ⟨_, y1, y2, hb'⟩ := t2.isInt rfl
        cases y2
        obtain ⟨c1, c2, c3⟩ := sh_ok hb ht hb'
        refine ⟨_, rfl, rfl, _, rfl, iteT ?_⟩
        refine ⟨_, rfl, _, _, rfl, .tup (SqT.of upd_same) (.cons (.int _) (.cons (.int _) .nil)), c1, c2, c3, by show 2 ≤ sizeLine; decide, fun r hr0 => ?_⟩
        exact q _ r ((same_new hp).trans (same_new hr0)) upd_same
    · obtain rfl : r = [.int 1] := h
      refine ⟨_, rfl, rfl, _, rfl, iteF ?_⟩
      refine ⟨_, rfl, rfl, _, rfl, iteT ?_⟩
      refine ⟨_, rfl, _, rfl, rfl, v1, v2, d1, d2, rfl, t1, t2, ?_, ?_, ?_, ?_⟩
      · intro hI d hd
        rw [due_l hI] at q
        refine ⟨true, eC, fun _ a ha => ?_, fun z => nomatch z⟩
        have ed := same_new (o := ExK (.ref C) (some d) a) ha _ _ (upd_same (H := H) (a := d) (o := .xd [("thing", v1)]))
        have sm := (same_new (o := .xd [("thing", v1)]) hd).trans (same_new (o := ExK (.ref C) (some d) a) ha)
        refine ⟨_, rfl, rfl, _, rfl, iteF ?_⟩
        refine ⟨_, rfl, a, d, _, _, _, true, rfl, upd_same, ed, fun u r => r, kG, _, rfl, iteF ?_⟩
        refine ⟨_, rfl, a, d, _, _, _, false, rfl, upd_same, ed, fun u r => r, kN, _, rfl, iteF ?_⟩
        refine ⟨_, rfl, a, d, _, v1, rfl, upd_same, ed, by simp [List.lookup], v1, d1, rfl, (t1.mono sm).q, a1, a2, a3, by show 2 ≤ sizeLine; decide, fun p hp => ?_⟩
        exact q _ p (sm.trans (same_new hp)) upd_same
      · intro hI hJ d hd
        obtain ⟨t, rfl, rfl, _⟩ := t1.isInt hI
        rw [due_r hJ] at q
        refine ⟨true, eC, fun _ a ha => ?_, fun z => nomatch z⟩
        have ed := same_new (o := ExK (.ref C) (some d) a) ha _ _ (upd_same (H := H) (a := d) (o := .xd [("thing", v2)]))
        have sm := (same_new (o := .xd [("thing", v2)]) hd).trans (same_new (o := ExK (.ref C) (some d) a) ha)
        refine ⟨_, rfl, rfl, _, rfl, iteF ?_⟩
        refine ⟨_, rfl, a, d, _, _, _, true, rfl, upd_same, ed, fun u r => r, kG, _, rfl, iteF ?_⟩
        refine ⟨_, rfl, a, d, _, _, _, false, rfl, upd_same, ed, fun u r => r, kN, _, rfl, iteF ?_⟩
        refine ⟨_, rfl, a, d, _, v2, rfl, upd_same, ed, by simp [List.lookup], v2, d2, rfl, (t2.mono sm).q, b1, b2', b3, by show 2 ≤ sizeLine; decide, fun p hp => ?_⟩
        exact q _ p (sm.trans (same_new hp)) upd_same
      · intro hI hz d hd
        obtain ⟨t, rfl, rfl, _⟩ := t1.isInt hI
        subst hz
        rw [due_0] at q
        refine ⟨true, eC, fun _ a ha => ?_, fun z => nomatch z⟩
        have ed := same_new (o := ExK (.ref C) (some d) a) ha _ _ (upd_same (H := H) (a := d) (o := .xd [("thing", v2)]))
        have sm := (same_new (o := .xd [("thing", v2)]) hd).trans (same_new (o := ExK (.ref C) (some d) a) ha)
        refine ⟨_, rfl, rfl, _, rfl, iteF ?_⟩
        refine ⟨_, rfl, a, d, _, _, _, true, rfl, upd_same, ed, fun u r => r, kG, _, rfl, iteF ?_⟩
        refine ⟨_, rfl, a, d, _, _, _, false, rfl, upd_same, ed, fun u r => r, kN, _, rfl, iteF ?_⟩
        refine ⟨_, rfl, a, d, _, v2, rfl, upd_same, ed, by simp [List.lookup], v2, (.int 0), rfl, (t2.mono sm).q, b1, b2', b3, by show 2 ≤ sizeLine; decide, fun p hp => ?_⟩
        exact q _ p (sm.trans (same_new hp)) upd_same
      · intro t b e1 e2 hb p hp
        subst e1
        subst e2
        rw [due_t hb] at q
        obtain ⟨_, x1, x2, ht⟩ := t1.isInt rfl
        cases x2
        obtain ⟨_, y1, y2, hb'⟩ := t2.isInt rfl
        cases y2
        obtain ⟨c1, c2, c3⟩ := sh_ok hb ht hb'
        refine ⟨_, rfl, rfl, _, rfl, iteT ?_⟩
        refine ⟨_, rfl, _, _, rfl, .tup (SqT.of upd_same) (.cons (.int _) (.cons (.int _) .nil)), c1, c2, c3, by show 2 ≤ sizeLine; decide, fun r hr0 => ?_⟩
        exact q _ r ((same_new hp).trans (same_new hr0)) upd_same
    · have h : v2 :: r = [.int 1, .int 2] := h
      cases h
      refine ⟨_, rfl, rfl, _, rfl, iteF ?_⟩
      refine ⟨_, rfl, rfl, _, rfl, iteF ?_⟩
      refine ⟨_, rfl, v1, .int 1, d1, d2, rfl, t1, t2, ?_, ?_, ?_, ?_⟩
      · intro hI d hd
        rw [due_l hI] at q
        refine ⟨true, eC, fun _ a ha => ?_, fun z => nomatch z⟩
        have ed := same_new (o := ExK (.ref C) (some d) a) ha _ _ (upd_same (H := H) (a := d) (o := .xd [("thing", v1)]))
        have sm := (same_new (o := .xd [("thing", v1)]) hd).trans (same_new (o := ExK (.ref C) (some d) a) ha)
        refine ⟨_, rfl, rfl, _, rfl, iteF ?_⟩
        refine ⟨_, rfl, a, d, _, _, _, true, rfl, upd_same, ed, fun u r => r, kG, _, rfl, iteF ?_⟩
        refine ⟨_, rfl, a, d, _, _, _, false, rfl, upd_same, ed, fun u r => r, kN, _, rfl, iteF ?_⟩
        refine ⟨_, rfl, a, d, _, v1, rfl, upd_same, ed, by simp [List.lookup], v1, d1, rfl, (t1.mono sm).q, a1, a2, a3, by show 2 ≤ sizeLine; decide, fun p hp => ?_⟩
        exact q _ p (sm.trans (same_new hp)) upd_same
      · intro hI hJ d hd
        obtain ⟨t, rfl, rfl, _⟩ := t1.isInt hI
        rw [due_r hJ] at q
        refine ⟨true, eC, fun _ a ha => ?_, fun z => nomatch z⟩
        have ed := same_new (o := ExK (.ref C) (some d) a) ha _ _ (upd_same (H := H) (a := d) (o := .xd [("thing", (V.int 1))]))
        have sm := (same_new (o := .xd [("thing", (V.int 1))]) hd).trans (same_new (o := ExK (.ref C) (some d) a) ha)
        refine ⟨_, rfl, rfl, _, rfl, iteF ?_⟩
        refine ⟨_, rfl, a, d, _, _, _, true, rfl, upd_same, ed, fun u r => r, kG, _, rfl, iteF ?_⟩
        refine ⟨_, rfl, a, d, _, _, _, false, rfl, upd_same, ed, fun u r => r, kN, _, rfl, iteF ?_⟩
        refine ⟨_, rfl, a, d, _, (V.int 1), rfl, upd_same, ed, by simp [List.lookup], (V.int 1), d2, rfl, (t2.mono sm).q, b1, b2', b3, by show 2 ≤ sizeLine; decide, fun p hp => ?_⟩
        exact q _ p (sm.trans (same_new hp)) upd_same
      · intro hI hz d hd
        obtain ⟨t, rfl, rfl, _⟩ := t1.isInt hI
        subst hz
        rw [due_0] at q
        refine ⟨true, eC, fun _ a ha => ?_, fun z => nomatch z⟩
        have ed := same_new (o := ExK (.ref C) (some d) a) ha _ _ (upd_same (H := H) (a := d) (o := .xd [("thing", (V.int 1))]))
        have sm := (same_new (o := .xd [("thing", (V.int 1))]) hd).trans (same_new (o := ExK (.ref C) (some d) a) ha)
        refine ⟨_, rfl, rfl, _, rfl, iteF ?_⟩
        refine ⟨_, rfl, a, d, _, _, _, true, rfl, upd_same, ed, fun u r => r, kG, _, rfl, iteF ?_⟩
        refine ⟨_, rfl, a, d, _, _, _, false, rfl, upd_same, ed, fun u r => r, kN, _, rfl, iteF ?_⟩
        refine ⟨_, rfl, a, d, _, (V.int 1), rfl, upd_same, ed, by simp [List.lookup], (V.int 1), (.int 0), rfl, (t2.mono sm).q, b1, b2', b3, by show 2 ≤ sizeLine; decide, fun p hp => ?_⟩
        exact q _ p (sm.trans (same_new hp)) upd_same
      · intro t b e1 e2 hb p hp
        subst e1
        subst e2
        rw [due_t hb] at q
        obtain ⟨_, x1, x2, ht⟩ := t1.isInt rfl
        cases x2
        obtain ⟨_, y1, y2, hb'⟩ := t2.isInt rfl
        cases y2
        obtain ⟨c1, c2, c3⟩ := sh_ok hb ht hb'
        refine ⟨_, rfl, rfl, _, rfl, iteT ?_⟩
        refine ⟨_, rfl, _, _, rfl, .tup (SqT.of upd_same) (.cons (.int _) (.cons (.int _) .nil)), c1, c2, c3, by show 2 ≤ sizeLine; decide, fun r hr0 => ?_⟩
        exact q _ r ((same_new hp).trans (same_new hr0)) upd_same
end
end K1

namespace K1
open PySem PySem.Spec PyProof.Rows L2 Gs
abbrev NL : List Str := ["_law_script", "_law_cell", "_law_left_here", "_law_high_one", "_law_low_one", "_law_way", "_law_things", "_law_thing", "_law_kept", "_law_found"]
theorem scLaw : FnScope NL ["_law_script"] (defScope sLaw) := ⟨rfl, rfl, rfl, by decide +kernel, rfl, by decide +kernel, by decide +kernel⟩
theorem list_text_len : ∀ ts : List Str, (listText ts).length ≤ piled ts + 2
  | [] => by decide +kernel
  | t :: r => by
    unfold listText
    rw [strLen_append]
    have h := textFrom_length_pos r 1 (("[" : Str) ++ (if (0 : Nat) > 0 then ", " else "" : String) ++ t) Nat.one_pos
    rw [strLen_append, strLen_append] at h
    have e1 : (("[" : Str)).length = 1 := rfl
    have e2 : (((if (0 : Nat) > 0 then ", " else "" : String) : Str)).length = 0 := rfl
    have e3 : (("]" : Str)).length = 1 := rfl
    rw [e1, e2] at h
    have e4 : (textFrom 0 "[" (t :: r)).length = 1 + 0 + t.length + piled r := h
    rw [e4, e3, piled_cons]
    omega
theorem cut_take (xs : List V) (k : Nat) : cutV xs none (some (k : Int)) = xs.take k := by
  unfold cutV
  rw [HT.sIx_none, HT.sIx_nat, List.drop_zero, Nat.sub_zero]
  by_cases h : k ≤ xs.length
  · rw [Nat.min_eq_left h]
  · rw [Nat.min_eq_right (by omega), List.take_of_length_le (Nat.le_refl _), List.take_of_length_le (by omega)]
theorem cells_int {ns : List Int} {i : Nat} {x : V} (h : (cutV (ns.map V.int) none (some 20) ++ [V.int 4])[i]? = some x) : ∃ c : Int, x = .int c := by
  have m := List.mem_of_getElem? h
  rcases List.mem_append.mp m with m | m
  · rw [show (some (20 : Int)) = some ((20 : Nat) : Int) from rfl, cut_take] at m
    obtain ⟨c, _, rfl⟩ := List.mem_map.mp (List.mem_of_mem_take m)
    exact ⟨c, rfl⟩
  · rw [List.mem_singleton] at m
    exact ⟨4, m⟩

theorem ThAll.ok {H : Hp} : ∀ {vs : List V} {ds : List PyData}, ThAll H vs ds → PyData.showableAll ds = true ∧ PyData.depthAll ds ≤ 5 ∧ piled (PyData.shownAll ds) ≤ 2002 * ds.length
  | _, _, .nil => ⟨rfl, by simp [PyData.depthAll], Nat.zero_le _⟩
  | _, _, .cons h r => by
    obtain ⟨a1, a2, a3⟩ := h.ok
    obtain ⟨b1, b2, b3⟩ := ThAll.ok r
    refine ⟨by simp [PyData.showableAll, a1, b1], ?_, ?_⟩
    · rw [PyData.depthAll]
      omega
    · rw [PyData.shownAll, piled_cons, List.length_cons]
      omega
theorem Tg.small {H : Hp} {v : V} {d : PyData} (h : Tg H v d) : d.showable = true ∧ d.depth ≤ 60 ∧ d.shown.length ≤ sizeLine := by
  cases h with
  | th h => exact th_small h
  | tup h r l =>
    obtain ⟨a1, a2, a3⟩ := r.ok
    rename_i ds
    refine ⟨by simpa only [PyData.showable] using a1, by simp only [PyData.depth]; omega, ?_⟩
    have z := fmt_text (PyData.shownAll ds)
    simp only [PyData.shown]
    rw [sizeLine_eq]
    omega
  | lst n h r l =>
    obtain ⟨a1, a2, a3⟩ := r.ok
    rename_i ds
    refine ⟨by simpa only [PyData.showable] using a1, by simp only [PyData.depth]; omega, ?_⟩
    have z := list_text_len (PyData.shownAll ds)
    simp only [PyData.shown]
    rw [sizeLine_eq]
    omega
/-! texts whose signs are signs -/
def Sg (x : Str) : Prop := ∀ c ∈ x.cps.toList, c < 0x110000
theorem Sg.ok {x : Str} (h : Sg x) : PyData.strOk x = true := by
  unfold PyData.strOk
  rw [Array.all_eq_true']
  intro c hc
  exact decide_eq_true (h c (by simpa using hc))
theorem sg_of (s : String) : Sg (Str.ofString s) := by
  intro c hc
  rw [signs_ofString] at hc
  obtain ⟨ch, _, rfl⟩ := List.mem_map.mp hc
  have v := ch.valid
  show ch.val.toNat < 0x110000
  rcases v with v | ⟨_, v⟩
  · exact Nat.lt_trans v (by decide)
  · exact v
theorem Sg.app {x y : Str} (hx : Sg x) (hy : Sg y) : Sg (x ++ y) := fun c hc => by
  rcases mem_cps_append.mp hc with h | h
  · exact hx c h
  · exact hy c h
theorem sg_th {H : Hp} {v : V} {d : PyData} (h : Th H v d) : Sg d.shown := by
  cases h with
  | non => exact sg_of _
  | bl b => cases b <;> exact sg_of _
  | int i h => exact sg_of _
  | one =>
    have e : PyData.shown (.str "1") = Str.ofString "'1'" := by decide +kernel
    rw [e]
    exact sg_of _
  | emp =>
    have e : PyData.shown (.str "") = Str.ofString "''" := by decide +kernel
    rw [e]
    exact sg_of _
  | tup h =>
    have e : PyData.shown (.tuple [.int 1]) = Str.ofString "(1,)" := by decide +kernel
    rw [e]
    exact sg_of _
  | lst n h =>
    have e : PyData.shown (.list [.int 1]) = Str.ofString "[1]" := by decide +kernel
    rw [e]
    exact sg_of _
  | dic h =>
    have e : PyData.shown (.dict []) = Str.ofString "{}" := by decide +kernel
    rw [e]
    exact sg_of _
theorem sg_dS (x : Int × Int) : Sg (dS x).shown := by
  have e : PyData.shown (dS x) = (("(" : Str) ++ ((Str.ofString (toString x.1) ++ (", " : Str)) ++ Str.ofString (toString x.2))) ++ (")" : Str) := by
    simp only [dS, PyData.shown, PyData.shownAll]
    rfl
  rw [e]
  exact ((sg_of _).app (((sg_of _).app (sg_of _)).app (sg_of _))).app (sg_of _)
theorem sg_due {H : Hp} {v1 v2 : V} {d1 d2 : PyData} (t1 : Th H v1 d1) (t2 : Th H v2 d2) : Sg (dueA d1 d2).1 ∧ Sg (dueA d1 d2).2.shown := by
  cases h1 : isI d1 with
  | false =>
    rw [due_l h1]
    exact ⟨sg_of _, sg_th t1⟩
  | true =>
    obtain ⟨t, rfl, rfl, _⟩ := t1.isInt h1
    cases h2 : isI d2 with
    | false =>
      rw [due_r h2]
      exact ⟨sg_of _, sg_th t2⟩
    | true =>
      obtain ⟨b, rfl, rfl, _⟩ := t2.isInt h2
      by_cases hb : b = 0
      · subst hb
        rw [due_0]
        exact ⟨sg_of _, sg_of _⟩
      · rw [due_t hb]
        exact ⟨sg_of _, sg_dS _⟩
def dT (a b : Str) : PyData := .list [.str a, .str b]
theorem dp_dT {K : PySem.W.Frag} {H : Hp} {p : Addr} {a b : Str} (h : H p = some (.lst [.str a, .str b])) : Dp K H (.ref p) (dT a b) := .lst (SqL.of h) (.cons (.str _) (.cons (.str _) .nil))
theorem shaped_dT {a b : Str} (ha : Sg a) (hb : Sg b) : SeqAt.shaped (dT a b) = true := by
  unfold dT
  simp [ha.ok, hb.ok, SeqAt.shaped, PyData.canLay0, PyData.canLayAll0, PyData.depth, PyData.depthAll]
theorem eqv_dT (a b : Str) : PyData.eqv (dT a b) (dT a b) = true := by
  unfold dT
  simp [PyData.eqv, PyData.eqvAll]
/-- all things in a list may be asked of -/
def All (H : Hp) (xs : List V) : Prop := ∀ x ∈ xs, ∃ d, Tg H x d
theorem All.mono {H H' : Hp} (s : Same H H') {xs : List V} (h : All H xs) : All H' xs := fun x hx => let ⟨d, t⟩ := h x hx; ⟨d, t.mono s⟩
theorem dS_sh {K : PySem.W.Frag} {H : Hp} {r : Addr} {x : Int × Int} (h : SqT K H r (vp x)) : Dp K H (.ref r) (dS x) := .tup h (.cons (.int _) (.cons (.int _) .nil))
theorem shaped_dS (x : Int × Int) : SeqAt.shaped (dS x) = true := by
  unfold dS
  simp [SeqAt.shaped, PyData.canLay0, PyData.canLayAll0, PyData.depth, PyData.depthAll]
theorem eqv_dS (x : Int × Int) : PyData.eqv (dS x) (dS x) = true := by
  unfold dS
  simp [PyData.eqv, PyData.eqvAll]
section
variable {P : Program} {w : World} {K : PySem.W.Frag} {mg : Str → Option Value} {base : Heap} {f T0 T1 f1 f2 f3 f4 f5 f6 : Addr} {d1 d2 d3 d4 d5 d6 : FuncData}
theorem law_body {cdv : Value} {s : Shared} {H : Hp} {E : XK} {a : Addr} {ns : List Int}
    (LF : Cl P w K mg base CX0 1 "_law_left" ["_law_cell"] spLeft f1 d1) (NU : Cl P w K mg base CX0 2 "_law_number" ["_law_left_here"] spNum f2 d2)
    (TO : ClG P w K mg base CX0 4 "_law_told" ["_law_high_one", "_law_low_one", "_law_way"] (spDue fun vs => vs.drop 2 = [.int 0] ∨ vs.drop 2 = [.int 1] ∨ vs.drop 1 = [.int 1, .int 2]) f3 d3)
    (DU : ClG P w K mg base CX0 2 "_law_due" ["_law_high_one", "_law_low_one"] (spDue fun vs => vs.length = 2) f4 d4)
    (IS : Cl P w K mg base CX0 2 "is_share" ["thing"] spIs f5 d5) (LI : Cl P w K mg base CX0 2 "_law_is_share" ["_law_thing"] spIs f6 d6)
    (g0 : mg "NOUGHT" = some (.ref T0)) (g1 : mg "ONE" = some (.ref T1)) (h0 : ∀ H : Hp, SqT K H T0 (vp (0, 1))) (h1 : ∀ H : Hp, SqT K H T1 (vp (1, 1)))
    (mr : mg "range" = none) (mp : mg "repr" = none) (mi : mg "isinstance" = none) (mb : mg "bool" = none)
    (hr : Room 5 (callerA.deeper (envOfC "law" (defScope sLaw) s.heap.objs.size f cdv)))
    (hS : SqL K H a (ns.map V.int)) (hn : ns.length ≤ 63) :
    ∃ t, PSs (cxOf CX0 P w K mg base NL "law" (defScope sLaw) f cdv callerA [] s H E).nox (defBody sLaw) t ∧
      t { nx := fun _ _ => V.non = V.bl true, rt := fun v _ => v = V.bl true } (start NL [.ref a]) H := by
  have r1 := hr.mono (j := 1) (by decide)
  have r2 := hr.mono (j := 2) (by decide)
  have r4 := hr.mono (j := 4) (by decide)
  refine ⟨_, pss_cons (ps_if (PW.pt (pw_or (pt_cmpR (op_neD hr.units) (pe_glob (v := .ref T0) rfl g0 rfl) (pe_tup (pa_cons pe_int (pa_cons pe_int pa_nil))) (nomark _))
        (pw_or1 (pt_cmpR (op_neD hr.units) (pe_glob (v := .ref T1) rfl g1 rfl) (pe_tup (pa_cons pe_int (pa_cons pe_int pa_nil))) (nomark _))))) (pss_one (ps_ret pe_bl)) pss_nil)
    (pss_cons (ps_for PassesOwn.never rfl (pi_list (pe_op op_cat (pe_slice sl_list (pv 0) po_none (po_some pe_int)) (pe_lst (pa_cons pe_int pa_nil)))) (pg_name (i := 1) scLaw.nd rfl (Or.inl rfl))
      (pss_cons (ps_set (i := 2) scLaw.nd rfl (.inl rfl) (pe_call LF.ok r1 (by rfl) LF.g LF.kp LF.bd .nil pass0 (pa_cons (pv 1) pa_nil)))
      (pss_cons (ps_par (i := 3) (j := 4) (by rfl) scLaw.nd rfl rfl (by decide) rfl rfl (pa_cons (pe_call NU.ok r2 (by rfl) NU.g NU.kp NU.bd .nil pass0 (pa_cons (pv 2) pa_nil)) (pa_cons (pe_call NU.ok r2 (by rfl) NU.g NU.kp NU.bd .nil pass0 (pa_cons (pv 2) pa_nil)) pa_nil)) (by rfl))
      (pss_cons (ps_for PassesOwn.never rfl (pi_range1 (by rfl) mr (pa_cons pe_int pa_nil)) (pg_name (i := 5) scLaw.nd rfl (Or.inl rfl))
        (pss_one (ps_if (pt_cmpR (op_neD hr.units) (pe_callG TO.ok rfl r4 (by rfl) TO.g TO.kp TO.bd pass0 (pa_cons (pv 3) (pa_cons (pv 4) (pa_cons (pv 5) pa_nil)))) (pe_callG DU.ok rfl r2 (by rfl) DU.g DU.kp DU.bd pass0 (pa_cons (pv 3) (pa_cons (pv 4) pa_nil))) (nomark _))
          (pss_one (ps_ret pe_bl)) pss_nil)))
      (pss_cons (ps_if (pt_cmpR (op_neD hr.units) (pe_callG TO.ok rfl r4 (by rfl) TO.g TO.kp TO.bd pass0 (pa_cons (pv 3) (pa_cons pe_int (pa_cons pe_int pa_nil)))) (pe_callG DU.ok rfl r2 (by rfl) DU.g DU.kp DU.bd pass0 (pa_cons (pv 3) (pa_cons pe_int pa_nil))) (nomark _))
          (pss_one (ps_ret pe_bl)) pss_nil)
      (pss_cons (ps_set (i := 6) scLaw.nd rfl (.inl rfl) (pe_lst (pa_cons (pe_tup (pa_cons (pv 3) (pa_cons (pv 4) pa_nil))) (pa_cons (pe_lstM (pa_cons (pv 3) (pa_cons (pv 4) pa_nil))) (pa_cons (pe_tup (pa_cons (pv 3) (pa_cons (pv 4) (pa_cons pe_int pa_nil)))) (pa_cons (pe_tup (pa_cons (pv 3) pa_nil)) (pa_cons (pv 3) pa_nil)))))))
      (pss_cons (ps_set (i := 6) scLaw.nd rfl (.inl rfl) (pe_op op_cat (pv 6) (pe_lst (pa_cons (pe_tup (pa_cons (pv 4) (pa_cons pe_int pa_nil))) (pa_cons (pe_tup (pa_cons pe_int (pa_cons (pv 4) pa_nil))) (pa_cons (pe_tup (pa_cons pe_int (pa_cons pe_int pa_nil))) (pa_cons (pe_tup (pa_cons pe_int (pa_cons pe_int pa_nil))) pa_nil)))))))
      (pss_one (ps_for PassesOwn.never rfl (pi_list (pv 6)) (pg_name (i := 7) scLaw.nd rfl (Or.inl rfl))
        (pss_cons (ps_set (i := 8) scLaw.nd rfl (.inl rfl) (pe_callB (call_reprQ rfl hr.units) (by rfl) mp (by decide +kernel) (pa_cons (pv 7) pa_nil)))
        (pss_cons (ps_set (i := 9) scLaw.nd rfl (.inl rfl) (pe_call IS.ok r2 (by rfl) IS.g IS.kp IS.bd .nil pass0 (pa_cons (pv 7) pa_nil)))
        (pss_one (ps_if (PW.pt (pw_or (pt_not (pt_val (pe_callB call_isi (by rfl) mi (by decide +kernel) (pa_cons (pv 9) (pa_cons (pe_bltn (v := .ty "bool") (by rfl) mb (by decide +kernel) rfl) pa_nil)))))
            (pw_or (pt_cmpR op_ne (pv 9) (pe_call LI.ok r2 (by rfl) LI.g LI.kp LI.bd .nil pass0 (pa_cons (pv 7) pa_nil)) (nomark _))
            (pw_or1 (pt_cmpR op_ne (pe_callB (call_reprQ rfl hr.units) (by rfl) mp (by decide +kernel) (pa_cons (pv 7) pa_nil)) (pv 8) (nomark _))))))
          (pss_one (ps_ret pe_bl)) pss_nil)))))))))))))
    (pss_one (ps_ret pe_bl))), ?_⟩
  -- the constants
  refine ⟨by show 2 ≤ sizeLine; decide, fun t0 n0 => ?_⟩
  refine ⟨dS (0, 1), dS (0, 1), dS_sh (h0 _), dS_sh (SqT.of upd_same), shaped_dS _, shaped_dS _, _, rfl, ?_⟩
  rw [eqv_dS]
  refine iteF ?_
  have s0 : Same H (upd H t0 (.tup [.int 0, .int 1])) := same_new n0
  generalize upd H t0 (.tup [.int 0, .int 1]) = Ha at s0
  refine ⟨by show 2 ≤ sizeLine; decide, fun t1 n1 => ?_⟩
  refine ⟨dS (1, 1), dS (1, 1), dS_sh (h1 _), dS_sh (SqT.of upd_same), shaped_dS _, shaped_dS _, _, rfl, ?_⟩
  rw [eqv_dS]
  refine iteF ?_
  have s1 : Same H (upd Ha t1 (.tup [.int 1, .int 1])) := s0.trans (same_new n1)
  generalize upd Ha t1 (.tup [.int 1, .int 1]) = Hc at s1
  -- script[:20] + [4]
  refine ⟨_, rfl, 20, rfl, a, _, rfl, s1.seq hS, fun l1 h1 => ?_⟩
  refine ⟨by show 1 ≤ sizeLine; decide, fun l2 h2 => ?_⟩
  have n12 : l1 ≠ l2 := ne_of_none upd_same h2
  have lcut : (cutV (ns.map V.int) none (some 20)).length ≤ 63 := Nat.le_trans (cutV_length _ _ _) (by rw [List.length_map]; exact hn)
  refine ⟨l1, l2, _, _, rfl, rfl, by rw [upd_ne n12]; exact upd_same, upd_same, ?_, fun l3 h3 => ?_⟩
  · show _ + 1 ≤ sizeLine
    rw [sizeLine_eq]
    omega
  refine ⟨l3, rfl, ⟨_, SqL.of upd_same⟩, ?_⟩
  generalize eH0 : upd (upd (upd Hc l1 (.lst (cutV (ns.map V.int) none (some 20)))) l2 (.lst [V.int 4])) l3 (.lst (cutV (ns.map V.int) none (some 20) ++ [V.int 4])) = H0
  have e0 : H0 l3 = some (.lst (cutV (ns.map V.int) none (some 20) ++ [V.int 4])) := by
    rw [← eH0]
    exact upd_same
  refine for_list (K := K) (xs := cutV (ns.map V.int) none (some 20) ++ [V.int 4])
    (fun i σ H' => ∃ y1 y2 y3 y4 y5 y6 y7 y8 y9 : Option V, σ = [some (.ref a), y1, y2, y3, y4, y5, y6, y7, y8, y9] ∧ Same H0 H')
    ⟨_, _, _, _, _, _, _, _, _, rfl, Same.refl _⟩ (fun i σ H' _ hp => ?_) (fun i x σ Hb hx hp => ?_) (fun σ H' hp => ?_)
  · obtain ⟨_, _, _, _, _, _, _, _, _, _, sm⟩ := hp
    exact SqL.of (sm _ _ e0)
  · obtain ⟨y1, y2, y3, y4, y5, y6, y7, y8, y9, rfl, sm0⟩ := hp
    obtain ⟨c, rfl⟩ := cells_int hx
    -- left, high, low
    refine ⟨_, rfl, c, rfl, fun p n np => ?_⟩
    refine ⟨_, rfl, p, n, rfl, upd_same, fun H1 v1 d1 n1 k1 e1 q1 p1 => ?_⟩
    refine ⟨_, rfl, p, n1, rfl, e1, fun H2 v2 d2 n2 k2 e2 q2 p2 => ?_⟩
    have t1 : Th H2 v1 d1 := q1.keep k2 p1
    have sm2 : Same H0 H2 := fun b o e => by
      have e' := sm0 b o e
      have nb : b ≠ p := ne_of_none e' np
      exact k2 b o nb (k1 b o nb (same_new np b o e'))
    refine ⟨_, _, rfl, ?_⟩
    -- both ways
    refine ⟨2, rfl, by decide, by decide, for_range (n := 2) (fun i σ H' => ∃ y5 : Option V, σ = [some (.ref a), some (.int c), some (.ref p), some v1, some v2, y5, y6, y7, y8, y9] ∧ Same H2 H') ⟨_, rfl, Same.refl _⟩ (fun i σ H3 hi hp => ?_) (fun σ H3 hp => ?_)⟩
    · obtain ⟨y5, rfl, sm3⟩ := hp
      have u1 := t1.mono sm3
      have u2 := q2.mono sm3
      have hw : (([v1, v2, V.int (0 + (i : Int))] : List V).drop 2 = [.int 0] ∨ ([v1, v2, V.int (0 + (i : Int))] : List V).drop 2 = [.int 1] ∨ ([v1, v2, V.int (0 + (i : Int))] : List V).drop 1 = [.int 1, .int 2]) := by
        have h : i = 0 ∨ i = 1 := by omega
        rcases h with rfl | rfl
        · exact .inl rfl
        · exact .inr (.inl rfl)
      obtain ⟨g1, g2⟩ := sg_due u1 u2
      refine ⟨_, rfl, _, rfl, _, rfl, v1, v2, d1, d2, _, rfl, rfl, hw, u1, u2, fun H4 p4 m4 e4 => ?_⟩
      refine ⟨_, rfl, _, rfl, v1, v2, d1, d2, _, rfl, rfl, rfl, u1.mono m4, u2.mono m4, fun H5 p5 m5 e5 => ?_⟩
      refine ⟨dT _ _, dT _ _, dp_dT (m5 _ _ e4), dp_dT e5, shaped_dT g1 g2, shaped_dT g1 g2, _, rfl, ?_⟩
      rw [eqv_dT]
      refine iteF ?_
      exact ⟨_, rfl, sm3.trans (m4.trans m5)⟩
    · obtain ⟨y5, rfl, sm3⟩ := hp
      have u1 := t1.mono sm3
      have o1 : ∀ H' : Hp, Th H' (.int 1) (.int 1) := fun _ => .int 1 (by decide)
      obtain ⟨g1, g2⟩ := sg_due u1 (o1 H3)
      refine ⟨_, rfl, v1, .int 1, d1, .int 1, _, rfl, rfl, .inr (.inr rfl), u1, o1 _, fun H4 p4 m4 e4 => ?_⟩
      refine ⟨_, rfl, v1, .int 1, d1, .int 1, _, rfl, rfl, rfl, u1.mono m4, o1 _, fun H5 p5 m5 e5 => ?_⟩
      refine ⟨dT _ _, dT _ _, dp_dT (m5 _ _ e4), dp_dT e5, shaped_dT g1 g2, shaped_dT g1 g2, _, rfl, ?_⟩
      rw [eqv_dT]
      refine iteF ?_
      have sm5 : Same H2 H5 := sm3.trans (m4.trans m5)
      have w1 := t1.mono sm5
      have w2 := q2.mono sm5
      have small : ∀ n : Nat, n ≤ 100 → n ≤ sizeLine := fun n h => by
        rw [sizeLine_eq]
        omega
      -- things
      refine ⟨_, rfl, _, rfl, small 2 (by decide), fun a1 b1 => ?_⟩
      refine ⟨_, rfl, _, rfl, small 2 (by decide), fun a2 b2 ms => ?_⟩
      refine ⟨_, rfl, _, rfl, small 3 (by decide), fun a3 b3 => ?_⟩
      refine ⟨_, rfl, small 1 (by decide), fun a4 b4 => ?_⟩
      refine ⟨_, rfl, small 5 (by decide), fun a5 b5 => ?_⟩
      have c1 := same_new (o := .tup [v1, v2]) b1
      have c2 := same_new (o := .lst [v1, v2]) b2
      have c3 := same_new (o := .tup [v1, v2, .int 1]) b3
      have c4 := same_new (o := .tup [v1]) b4
      have c5 := same_new (o := .lst [.ref a1, .ref a2, .ref a3, .ref a4, v1]) b5
      have g5 : Same H5 _ := c1.trans (c2.trans (c3.trans (c4.trans c5)))
      have i1 := c5 _ _ (c4 _ _ (c3 _ _ (c2 _ _ (upd_same (H := H5) (a := a1) (o := .tup [v1, v2])))))
      have i2 := c5 _ _ (c4 _ _ (c3 _ _ (upd_same (H := upd H5 a1 (.tup [v1, v2])) (a := a2) (o := .lst [v1, v2]))))
      have i3 := c5 _ _ (c4 _ _ (upd_same (H := upd (upd H5 a1 (.tup [v1, v2])) a2 (.lst [v1, v2])) (a := a3) (o := .tup [v1, v2, .int 1])))
      have i4 := c5 _ _ (upd_same (H := upd (upd (upd H5 a1 (.tup [v1, v2])) a2 (.lst [v1, v2])) a3 (.tup [v1, v2, .int 1])) (a := a4) (o := .tup [v1]))
      have i5 : (upd (upd (upd (upd (upd H5 a1 (.tup [v1, v2])) a2 (.lst [v1, v2])) a3 (.tup [v1, v2, .int 1])) a4 (.tup [v1])) a5 (.lst [.ref a1, .ref a2, .ref a3, .ref a4, v1])) a5 = some (.lst [.ref a1, .ref a2, .ref a3, .ref a4, v1]) := upd_same
      generalize upd (upd (upd (upd (upd H5 a1 (.tup [v1, v2])) a2 (.lst [v1, v2])) a3 (.tup [v1, v2, .int 1])) a4 (.tup [v1])) a5 (.lst [.ref a1, .ref a2, .ref a3, .ref a4, v1]) = H6 at g5 i1 i2 i3 i4 i5
      have x1 := w1.mono g5
      have x2 := w2.mono g5
      have A6 : All H6 [.ref a1, .ref a2, .ref a3, .ref a4, v1] := by
        intro x hx
        simp only [List.mem_cons, List.not_mem_nil, or_false] at hx
        rcases hx with rfl | rfl | rfl | rfl | rfl
        · exact ⟨_, .tup i1 (.cons x1 (.cons x2 .nil)) (by simp)⟩
        · exact ⟨_, .lst ms i2 (.cons x1 (.cons x2 .nil)) (by simp)⟩
        · exact ⟨_, .tup i3 (.cons x1 (.cons x2 (.cons (o1 _) .nil))) (by simp)⟩
        · exact ⟨_, .tup i4 (.cons x1 .nil) (by simp)⟩
        · exact ⟨_, .th x1⟩
      -- and four more
      refine ⟨_, rfl, _, rfl, small 2 (by decide), fun a6 b6 => ?_⟩
      refine ⟨_, rfl, small 2 (by decide), fun a7 b7 => ?_⟩
      refine ⟨small 2 (by decide), fun a8 b8 => ?_⟩
      refine ⟨small 2 (by decide), fun a9 b9 => ?_⟩
      refine ⟨small 4 (by decide), fun aA bA => ?_⟩
      have c6 := same_new (o := .tup [v2, .int 1]) b6
      have c7 := same_new (o := .tup [.int 1, v2]) b7
      have c8 := same_new (o := .tup [.int 0, .int 2]) b8
      have c9 := same_new (o := .tup [.int 0, .int 0]) b9
      have cA := same_new (o := .lst [.ref a6, .ref a7, .ref a8, .ref a9]) bA
      have gA : Same H6 _ := c6.trans (c7.trans (c8.trans (c9.trans cA)))
      have i6 := cA _ _ (c9 _ _ (c8 _ _ (c7 _ _ (upd_same (H := H6) (a := a6) (o := .tup [v2, .int 1])))))
      have i7 := cA _ _ (c9 _ _ (c8 _ _ (upd_same (H := upd H6 a6 (.tup [v2, .int 1])) (a := a7) (o := .tup [.int 1, v2]))))
      have i8 := cA _ _ (c9 _ _ (upd_same (H := upd (upd H6 a6 (.tup [v2, .int 1])) a7 (.tup [.int 1, v2])) (a := a8) (o := .tup [.int 0, .int 2])))
      have i9 := cA _ _ (upd_same (H := upd (upd (upd H6 a6 (.tup [v2, .int 1])) a7 (.tup [.int 1, v2])) a8 (.tup [.int 0, .int 2])) (a := a9) (o := .tup [.int 0, .int 0]))
      have iA : (upd (upd (upd (upd (upd H6 a6 (.tup [v2, .int 1])) a7 (.tup [.int 1, v2])) a8 (.tup [.int 0, .int 2])) a9 (.tup [.int 0, .int 0])) aA (.lst [.ref a6, .ref a7, .ref a8, .ref a9])) aA = some (.lst [.ref a6, .ref a7, .ref a8, .ref a9]) := upd_same
      have iB := gA _ _ i5
      refine ⟨a5, aA, _, _, rfl, rfl, iB, iA, small 9 (by decide), fun aC bC => ?_⟩
      generalize upd (upd (upd (upd (upd H6 a6 (.tup [v2, .int 1])) a7 (.tup [.int 1, v2])) a8 (.tup [.int 0, .int 2])) a9 (.tup [.int 0, .int 0])) aA (.lst [.ref a6, .ref a7, .ref a8, .ref a9]) = H7 at gA i6 i7 i8 i9 iA iB bC
      have z2 := x2.mono gA
      have oi : ∀ (H' : Hp) (m : Int), m.natAbs < 5 → Th H' (.int m) (.int m) := fun _ m h => .int m (Nat.lt_trans h (by decide))
      have A7 : All H7 ([.ref a1, .ref a2, .ref a3, .ref a4, v1] ++ [.ref a6, .ref a7, .ref a8, .ref a9]) := by
        intro x hx
        rcases List.mem_append.mp hx with hx | hx
        · exact A6.mono gA x hx
        · simp only [List.mem_cons, List.not_mem_nil, or_false] at hx
          rcases hx with rfl | rfl | rfl | rfl
          · exact ⟨_, .tup i6 (.cons z2 (.cons (oi _ 1 (by decide)) .nil)) (by simp)⟩
          · exact ⟨_, .tup i7 (.cons (oi _ 1 (by decide)) (.cons z2 .nil)) (by simp)⟩
          · exact ⟨_, .tup i8 (.cons (oi _ 0 (by decide)) (.cons (oi _ 2 (by decide)) .nil)) (by simp)⟩
          · exact ⟨_, .tup i9 (.cons (oi _ 0 (by decide)) (.cons (oi _ 0 (by decide)) .nil)) (by simp)⟩
      generalize ([.ref a1, .ref a2, .ref a3, .ref a4, v1] ++ [.ref a6, .ref a7, .ref a8, .ref a9] : List V) = ts at A7
      have cC := same_new (o := .lst ts) bC
      have A8 := A7.mono cC
      have i8' : (upd H7 aC (.lst ts)) aC = some (.lst ts) := upd_same
      have sm8 : Same H0 (upd H7 aC (.lst ts)) := sm2.trans (sm5.trans (g5.trans (gA.trans cC)))
      generalize upd H7 aC (.lst ts) = H8 at A8 i8' sm8
      -- each of them
      refine ⟨_, rfl, aC, rfl, ⟨_, SqL.of i8'⟩, for_list (K := K) (xs := ts)
        (fun i σ H' => ∃ y7 y8 y9 : Option V, σ = [some (.ref a), some (.int c), some (.ref p), some v1, some v2, y5, some (.ref aC), y7, y8, y9] ∧ Same H8 H')
        ⟨_, _, _, rfl, Same.refl _⟩ (fun i σ H' _ hp => ?_) (fun i x σ H9 hx hp => ?_) (fun σ H9 hp => ?_)⟩
      · obtain ⟨_, _, _, _, sm⟩ := hp
        exact SqL.of (sm _ _ i8')
      · obtain ⟨y7, y8, y9, rfl, sm9⟩ := hp
        obtain ⟨d, hd⟩ := A8.mono sm9 x (List.mem_of_getElem? hx)
        obtain ⟨k1, k2, k3⟩ := hd.small
        refine ⟨_, rfl, x, d, rfl, hd.q, k1, k2, k3, ?_⟩
        refine ⟨_, rfl, x, d, rfl, hd, ?_⟩
        refine ⟨_, rfl, _, _, _, _, true, rfl, .ty _, .base (.bl _), kit_ty (by decide +kernel), _, rfl, iteF ?_⟩
        refine ⟨_, rfl, _, rfl, x, d, rfl, hd, rfl, _, rfl, iteNS rfl ?_⟩
        refine ⟨_, rfl, x, d, rfl, hd.q, k1, k2, k3, _, rfl, rfl, _, rfl, iteNS rfl ?_⟩
        exact ⟨_, _, _, rfl, sm9⟩
      · obtain ⟨y7, y8, y9, rfl, sm9⟩ := hp
        exact ⟨_, _, _, _, _, _, _, _, _, rfl, sm8.trans sm9⟩
  · obtain ⟨y1, y2, y3, y4, y5, y6, y7, y8, y9, rfl, sm0⟩ := hp
    exact rfl
end
end K1

namespace K1
open PySem PySem.Spec PyProof.Rows L2 Gs
/-! ### what the top has written -/
/-- a def of the text as the head tells it -/
abbrev FnL (K : PySem.W.Frag) (x q : Str) (st : Stmt) (dV kV : Value) (f : Addr) (oc dc pm cd ct : Value) (od an : Option Addr) (sl : Array (Option Value)) : Prop :=
  K.lookup f = some ⟨oc, od, .func (PySem.W.fnOf x q (defArgs st) (defBody st) (defScope st) dV kV dc pm an cd ct), sl⟩
theorem all_mk {P : Program} {w : World} {K : PySem.W.Frag} {h : Heap} {mg : Str → Option Value} {fa C G_ NW DT T0 T1 : Addr} {mc : Value} (X : K.In h) (G : h.Ns mainGlobals mg) (hfa : mg "law" = some (.ref fa))
    {f7 f8 f9 f10 f13 f14 f15 f16 f17 f18 f19 f20 f21 f11 f2 : Addr} {od7 an7 od8 an8 od9 an9 od10 an10 od13 an13 od14 an14 od15 an15 od16 an16 od17 an17 od18 an18 od19 an19 od20 an20 od21 an21 od11 an11 od2 an2 : Option Addr} {sl7 sl8 sl9 sl10 sl13 sl14 sl15 sl16 sl17 sl18 sl19 sl20 sl21 sl11 sl2 : Array (Option Value)}
    {oc7 kV7 dc7 pm7 cd7 ct7 oc8 kV8 dc8 pm8 cd8 ct8 oc9 kV9 dc9 pm9 cd9 ct9 oc10 kV10 dc10 pm10 cd10 ct10 oc13 kV13 dc13 pm13 cd13 ct13 oc14 kV14 dc14 pm14 cd14 ct14 oc15 kV15 dc15 pm15 cd15 ct15 oc16 kV16 dc16 pm16 cd16 ct16 oc17 kV17 dc17 pm17 cd17 ct17 oc18 kV18 dc18 pm18 cd18 ct18 oc19 kV19 dc19 pm19 cd19 ct19 oc20 kV20 dc20 pm20 cd20 ct20 oc21 kV21 dc21 pm21 cd21 ct21 oc11 kV11 dc11 pm11 cd11 ct11 oc2 kV2 dc2 pm2 cd2 ct2 : Value}
    (a7 : PySem.W.nsIn K mainGlobals "is_whole" = some (some (.ref f7))) (l7 : FnL K "is_whole" "is_whole" sWhole .none kV7 f7 oc7 dc7 pm7 cd7 ct7 od7 an7 sl7)
    (c7 : PySem.W.codeIn K cd7 "is_whole" = true) (k7 : PySem.W.keepIn K (.ref f7) = true)
    (a8 : PySem.W.nsIn K mainGlobals "divisor" = some (some (.ref f8))) (l8 : FnL K "divisor" "divisor" sDiv .none kV8 f8 oc8 dc8 pm8 cd8 ct8 od8 an8 sl8)
    (c8 : PySem.W.codeIn K cd8 "divisor" = true) (k8 : PySem.W.keepIn K (.ref f8) = true)
    (a9 : PySem.W.nsIn K mainGlobals "is_share" = some (some (.ref f9))) (l9 : FnL K "is_share" "is_share" sIs .none kV9 f9 oc9 dc9 pm9 cd9 ct9 od9 an9 sl9)
    (c9 : PySem.W.codeIn K cd9 "is_share" = true) (k9 : PySem.W.keepIn K (.ref f9) = true)
    (a10 : PySem.W.nsIn K mainGlobals "reduced" = some (some (.ref f10))) (l10 : FnL K "reduced" "reduced" sRed .none kV10 f10 oc10 dc10 pm10 cd10 ct10 od10 an10 sl10)
    (c10 : PySem.W.codeIn K cd10 "reduced" = true) (k10 : PySem.W.keepIn K (.ref f10) = true)
    (a13 : PySem.W.nsIn K mainGlobals "_law_left" = some (some (.ref f13))) (l13 : FnL K "_law_left" "_law_left" sLeft .none kV13 f13 oc13 dc13 pm13 cd13 ct13 od13 an13 sl13)
    (c13 : PySem.W.codeIn K cd13 "_law_left" = true) (k13 : PySem.W.keepIn K (.ref f13) = true)
    (a14 : PySem.W.nsIn K mainGlobals "_law_digit" = some (some (.ref f14))) (l14 : FnL K "_law_digit" "_law_digit" sDigit .none kV14 f14 oc14 dc14 pm14 cd14 ct14 od14 an14 sl14)
    (c14 : PySem.W.codeIn K cd14 "_law_digit" = true) (k14 : PySem.W.keepIn K (.ref f14) = true)
    (a15 : PySem.W.nsIn K mainGlobals "_law_common" = some (some (.ref f15))) (l15 : FnL K "_law_common" "_law_common" sCommon .none kV15 f15 oc15 dc15 pm15 cd15 ct15 od15 an15 sl15)
    (c15 : PySem.W.codeIn K cd15 "_law_common" = true) (k15 : PySem.W.keepIn K (.ref f15) = true)
    (a16 : PySem.W.nsIn K mainGlobals "_law_whole" = some (some (.ref f16))) (l16 : FnL K "_law_whole" "_law_whole" sLWhole .none kV16 f16 oc16 dc16 pm16 cd16 ct16 od16 an16 sl16)
    (c16 : PySem.W.codeIn K cd16 "_law_whole" = true) (k16 : PySem.W.keepIn K (.ref f16) = true)
    (a17 : PySem.W.nsIn K mainGlobals "_law_number" = some (some (.ref f17))) (l17 : FnL K "_law_number" "_law_number" sNumber .none kV17 f17 oc17 dc17 pm17 cd17 ct17 od17 an17 sl17)
    (c17 : PySem.W.codeIn K cd17 "_law_number" = true) (k17 : PySem.W.keepIn K (.ref f17) = true)
    (a18 : PySem.W.nsIn K mainGlobals "_law_due" = some (some (.ref f18))) (l18 : FnL K "_law_due" "_law_due" sDue .none kV18 f18 oc18 dc18 pm18 cd18 ct18 od18 an18 sl18)
    (c18 : PySem.W.codeIn K cd18 "_law_due" = true) (k18 : PySem.W.keepIn K (.ref f18) = true)
    (a19 : PySem.W.nsIn K mainGlobals "_law_told" = some (some (.ref f19))) (l19 : FnL K "_law_told" "_law_told" sTold .none kV19 f19 oc19 dc19 pm19 cd19 ct19 od19 an19 sl19)
    (c19 : PySem.W.codeIn K cd19 "_law_told" = true) (k19 : PySem.W.keepIn K (.ref f19) = true)
    (a20 : PySem.W.nsIn K mainGlobals "_law_is_share" = some (some (.ref f20))) (l20 : FnL K "_law_is_share" "_law_is_share" sLIs .none kV20 f20 oc20 dc20 pm20 cd20 ct20 od20 an20 sl20)
    (c20 : PySem.W.codeIn K cd20 "_law_is_share" = true) (k20 : PySem.W.keepIn K (.ref f20) = true)
    (a21 : PySem.W.nsIn K mainGlobals "law" = some (some (.ref f21))) (l21 : FnL K "law" "law" sLaw .none kV21 f21 oc21 dc21 pm21 cd21 ct21 od21 an21 sl21)
    (c21 : PySem.W.codeIn K cd21 "law" = true) (k21 : PySem.W.keepIn K (.ref f21) = true)
    (a11 : PySem.W.nsIn K mainGlobals "share" = some (some (.ref f11))) (l11 : FnL K "share" "share" sShare (.ref DT) kV11 f11 oc11 dc11 pm11 cd11 ct11 od11 an11 sl11)
    (c11 : PySem.W.codeIn K cd11 "share" = true) (k11 : PySem.W.keepIn K (.ref f11) = true)
    {oD : Obj} {nD : Nat} {tD : Tok} (u1 : K.lookup DT = some oD) (u2 : oD.data = .seq #[.int 1 tD] nD)
    (gC : PySem.W.nsIn K mainGlobals "NoShare" = some (some (.ref C))) (gG : PySem.W.nsIn K mainGlobals "GlassError" = some (some (.ref G_))) (gN : PySem.W.nsIn K mainGlobals "NoWishes" = some (some (.ref NW)))
    (iC : PySem.W.findIn K (.ref C) "__init__" = some (some (.ref f2)))
    (l2 : FnL K "__init__" "NoShare.__init__" sInit .none kV2 f2 oc2 dc2 pm2 cd2 ct2 od2 an2 sl2)
    (c2 : PySem.W.codeIn K cd2 "NoShare.__init__" = true) (k2 : PySem.W.keepIn K (.ref f2) = true)
    (tI : PySem.W.typeIn K (.ref f2) = some (.type "function"))
    {nm qn : Str} {N : Addr} {bs bm : List Value} {sn : List Str} {sub : List Value} {ab : Bool} {col : Option Bool} {dd : Option Addr} {x0 x1 x2 x3 x5 : Option Value}
    (oC : K.lookup C = some (excClassObj nm qn C N bs bm true sn sub ab col dd x0 x1 x2 x3 x5 "ValueError.__new__")) (oV : PySem.HandSPX.refsVE bm = true)
    (sA : PySem.W.findIn K (.ref C) "__setattr__" = some (some (.builtin "object.__setattr__")))
    (kC : PySem.W.keepIn K (.ref C) = true) (bC : PySem.W.subIn K (.ref C) (.type "BaseException") = some true) (tC : PySem.W.typeIn K (.ref C) = some (.type "type"))
    (sC : PySem.W.subIn K (.ref C) (.ref C) = some true) (nC : PySem.W.findIn K (.ref C) "thing" = some none)
    (rG : PySem.W.specialIn K (.ref G_) "__getattribute__" = some (some (.builtin "type.__getattribute__"))) (rR : PySem.W.readsIn K G_ mc = true)
    (rF : PySem.W.findCls K (.ref G_) mc "__init__" = some (.val (.builtin "ValueError.__init__")))
    (eg : PySem.W.findIn K (.ref C) "__getattribute__" = some (some (.builtin "BaseException.__getattribute__")))
    (ek : PySem.W.findIn K (.ref C) "__getattr__" = some none) (ed : PySem.W.hasDictIn K C = true)
    (ea : PySem.W.findIn K (.ref C) "__class__" = some (some (.builtin "object.__class__")))
    (en : PySem.W.specialIn K (.builtin "object.__class__") "__get__" = some (some (.builtin "getset_descriptor.__get__")))
    (et : PySem.W.takesIn K (.builtin "object.__class__") = some true) (em : PySem.W.mroIn K C (.type "object") = some true)
    (iG : PySem.W.kitOne K (.ref C) (.ref G_) = some true) (iN : PySem.W.kitOne K (.ref C) (.ref NW) = some false)
    (y0 : PySem.W.nsIn K mainGlobals "NOUGHT" = some (some (.ref T0))) (y1 : PySem.W.nsIn K mainGlobals "ONE" = some (some (.ref T1)))
    {o0 o1 : Obj} {m0 m1 : Nat} {ta tb tc td : Tok} (w0 : K.lookup T0 = some o0) (w1 : o0.cls = .type "tuple") (w2 : o0.data = .seq #[.int 0 ta, .int 1 tb] m0)
    (w3 : K.lookup T1 = some o1) (w4 : o1.cls = .type "tuple") (w5 : o1.data = .seq #[.int 1 tc, .int 1 td] m1)
    (zA : PySem.W.nsIn K mainGlobals "abs" = some none) (zR : PySem.W.nsIn K mainGlobals "range" = some none) (zP : PySem.W.nsIn K mainGlobals "repr" = some none)
    (zI : PySem.W.nsIn K mainGlobals "isinstance" = some none) (zN : PySem.W.nsIn K mainGlobals "int" = some none) (zB : PySem.W.nsIn K mainGlobals "bool" = some none)
    (zT : PySem.W.nsIn K mainGlobals "tuple" = some none) (zL : PySem.W.nsIn K mainGlobals "len" = some none)
    (base : Heap) (H : Hp) (s : Shared) (a : Addr) (ns : List Int) (hn : ns.length ≤ 63) (hS : SqL K H a (ns.map V.int))
    (e0 : Env0 P w K mg base callerA [] s H) :
    codeAny (model P w) callerA (.call (.ref fa) ⟨[.ref a], []⟩) (CR CX0 [] P w H s (fun v _ => v = .bl true) fun _ _ _ => False) s := by
  have e := hfa.symm.trans (PySem.W.mg_of X G a21)
  cases e
  have F7 := fun_mk (st := sWhole) l7 c7 k7
  have b7 := F7.binds (ps := ["thing"]) fun _ _ _ _ _ _ us hl => match us, hl with | [_], _ => rfl
  have g7 := PySem.W.mg_of X G a7
  have F8 := fun_mk (st := sDiv) l8 c8 k8
  have b8 := F8.binds (ps := ["one", "other"]) fun _ _ _ _ _ _ us hl => match us, hl with | [_, _], _ => rfl
  have g8 := PySem.W.mg_of X G a8
  have F9 := fun_mk (st := sIs) l9 c9 k9
  have b9 := F9.binds (ps := ["thing"]) fun _ _ _ _ _ _ us hl => match us, hl with | [_], _ => rfl
  have g9 := PySem.W.mg_of X G a9
  have F10 := fun_mk (st := sRed) l10 c10 k10
  have b10 := F10.binds (ps := ["top", "bottom"]) fun _ _ _ _ _ _ us hl => match us, hl with | [_, _], _ => rfl
  have g10 := PySem.W.mg_of X G a10
  have F13 := fun_mk (st := sLeft) l13 c13 k13
  have b13 := F13.binds (ps := ["_law_cell"]) fun _ _ _ _ _ _ us hl => match us, hl with | [_], _ => rfl
  have g13 := PySem.W.mg_of X G a13
  have F14 := fun_mk (st := sDigit) l14 c14 k14
  have b14 := F14.binds (ps := ["_law_left_here", "_law_upto"]) fun _ _ _ _ _ _ us hl => match us, hl with | [_, _], _ => rfl
  have g14 := PySem.W.mg_of X G a14
  have F15 := fun_mk (st := sCommon) l15 c15 k15
  have b15 := F15.binds (ps := ["_law_one", "_law_other"]) fun _ _ _ _ _ _ us hl => match us, hl with | [_, _], _ => rfl
  have g15 := PySem.W.mg_of X G a15
  have F16 := fun_mk (st := sLWhole) l16 c16 k16
  have b16 := F16.binds (ps := ["_law_thing"]) fun _ _ _ _ _ _ us hl => match us, hl with | [_], _ => rfl
  have g16 := PySem.W.mg_of X G a16
  have F17 := fun_mk (st := sNumber) l17 c17 k17
  have b17 := F17.binds (ps := ["_law_left_here"]) fun _ _ _ _ _ _ us hl => match us, hl with | [_], _ => rfl
  have g17 := PySem.W.mg_of X G a17
  have F18 := fun_mk (st := sDue) l18 c18 k18
  have b18 := F18.binds (ps := ["_law_high_one", "_law_low_one"]) fun _ _ _ _ _ _ us hl => match us, hl with | [_, _], _ => rfl
  have g18 := PySem.W.mg_of X G a18
  have F19 := fun_mk (st := sTold) l19 c19 k19
  have b19 := F19.binds (ps := ["_law_high_one", "_law_low_one", "_law_way"]) fun _ _ _ _ _ _ us hl => match us, hl with | [_, _, _], _ => rfl
  have g19 := PySem.W.mg_of X G a19
  have F20 := fun_mk (st := sLIs) l20 c20 k20
  have b20 := F20.binds (ps := ["_law_thing"]) fun _ _ _ _ _ _ us hl => match us, hl with | [_], _ => rfl
  have g20 := PySem.W.mg_of X G a20
  have g11 := PySem.W.mg_of X G a11
  have F2 := fun_mk (st := sInit) l2 c2 k2
  have b2 := F2.binds (ps := ["self", "thing"]) fun _ _ _ _ _ _ us hl => match us, hl with | [_, _], _ => rfl
  have mA := PySem.W.mg_none_of X G zA
  have mR := PySem.W.mg_none_of X G zR
  have mP := PySem.W.mg_none_of X G zP
  have mI := PySem.W.mg_none_of X G zI
  have mN := PySem.W.mg_none_of X G zN
  have mB := PySem.W.mg_none_of X G zB
  have mT := PySem.W.mg_none_of X G zT
  have mL := PySem.W.mg_none_of X G zL
  have FS : FunS K f11 _ := ⟨⟨oc11, od11, .ref DT, kV11, dc11, pm11, an11, cd11, ct11, sl11, rfl, l11, c11, .inr ⟨by simp, DT, oD, [.int 1 tD], nD, rfl, u1, u2, .cons ⟨tD, rfl⟩ .nil⟩, .inl rfl⟩, k11⟩
  have hT0 : ∀ H : Hp, SqT K H T0 (vp (0, 1)) := fun H => .inr ⟨o0, _, m0, w0, w1, w2, by show 2 ≤ sizeLine; decide, .cons ⟨ta, rfl⟩ (.cons ⟨tb, rfl⟩ .nil)⟩
  have hT1 : ∀ H : Hp, SqT K H T1 (vp (1, 1)) := fun H => .inr ⟨o1, _, m1, w3, w4, w5, by show 2 ≤ sizeLine; decide, .cons ⟨tc, rfl⟩ (.cons ⟨td, rfl⟩ .nil)⟩
  have OC : OexC K C := ⟨⟨nm, qn, N, bs, bm, sn, sub, ab, col, dd, x0, x1, x2, x3, x5, oC, oV⟩, sA, bC, tC, kC⟩
  have ET : ErT K mg C G_ f2 mc := ⟨OC, iC, tI, nC, PySem.W.mg_of X G gC, PySem.W.mg_of X G gG, rG, rR, rF⟩
  have CK : ExcC K C := ⟨eg, ek, bC, ed, ea, en, et, em⟩
  have XF : XfC K C := ⟨eg, ek, bC, ed⟩
  have WH : Cl P w K mg base CX0 1 "is_whole" ["thing"] spWhole f7 _ := ⟨g7, ok_whole F7 mI mN mB, k7, b7⟩
  have DV : Cl P w K mg base CX0 1 "divisor" ["one", "other"] spDiv f8 _ := ⟨g8, ok_div F8 mA, k8, b8⟩
  have IS : Cl P w K mg base CX0 2 "is_share" ["thing"] spIs f9 _ := ⟨g9, ok_is F9 WH DV mI mT mL, k9, b9⟩
  have RD : Cl P w K mg base CX0 2 "reduced" ["top", "bottom"] spRed f10 _ := ⟨g10, ok_red F10 F8 b8 g8 mA, k10, b10⟩
  have IN : FnOk P w K mg base CX0 1 f2 _ ["self", "thing"] (spInit K C) := ok_init F2 ET
  have SH : FnOk P w K mg base (L2.CX P w) 3 f11 _ ["top", "bottom"] (spShare C) := ok_share FS WH RD ET IN b2
  have LF : Cl P w K mg base CX0 1 "_law_left" ["_law_cell"] spLeft f13 _ := ⟨g13, ok_left F13 mA mR, k13, b13⟩
  have DI : Cl P w K mg base CX0 1 "_law_digit" ["_law_left_here", "_law_upto"] spDigit f14 _ := ⟨g14, ok_digit F14, k14, b14⟩
  have CM : Cl P w K mg base CX0 1 "_law_common" ["_law_one", "_law_other"] spDiv f15 _ := ⟨g15, ok_common F15 mA, k15, b15⟩
  have LW : Cl P w K mg base CX0 1 "_law_whole" ["_law_thing"] spWhole f16 _ := ⟨g16, ok_lwhole F16 mI mN mB, k16, b16⟩
  have NU : Cl P w K mg base CX0 2 "_law_number" ["_law_left_here"] spNum f17 _ := ⟨g17, ok_num F17 DI, k17, b17⟩
  have DU : ClG P w K mg base CX0 2 "_law_due" ["_law_high_one", "_law_low_one"] (spDue fun vs => vs.length = 2) f18 _ := ⟨g18, ok_due F18 LW CM mP, k18, b18⟩
  have TO : ClG P w K mg base CX0 4 "_law_told" ["_law_high_one", "_law_low_one", "_law_way"] (spDue fun vs => vs.drop 2 = [.int 0] ∨ vs.drop 2 = [.int 1] ∨ vs.drop 1 = [.int 1, .int 2]) f19 _ :=
    ⟨g19, ok_told F19 SH FS g11 ET (PySem.W.exm_ref bC ed tC sC) CK XF iG (PySem.W.mg_of X G gN) iN mI mP, k19, b19⟩
  have LI : Cl P w K mg base CX0 2 "_law_is_share" ["_law_thing"] spIs f20 _ := ⟨g20, ok_lis F20 LW CM mI mT mL, k20, b20⟩
  refine body_at (k := 5) (N := NL) (ps := ["_law_script"]) (vs := [.ref a]) (us := [.ref a]) l21 c21 scLaw rfl ⟨rfl, by decide, by decide⟩ e0 (.of_eq rfl) (.cons rfl .nil) fun hr => ?_
  exact law_body LF NU TO DU IS LI (PySem.W.mg_of X G y0) (PySem.W.mg_of X G y1) hT0 hT1 mR mP mI mB hr hS hn
end K1

open PySem PySem.W PyProof.Rows
set_option maxHeartbeats 0 in
theorem PySem.Challenge.cw_glassladder_k01_shares_made_holds : PySem.Challenge.rw_glassladder_k01_shares_made.Holds := by
  w_on; o_law; k_head; (case hw => w_witness2)
  k_fill
  refine Gs.walk_at1 (l := PySem.Challenge.rw_glassladder_k01_shares_made) (n := 63) rfl (by decide) rfl (fun w h Y => PySem.W.kIn_of Y) ?F
  case F =>
    intro w mg fa h KX G hmg base H s a ns hn _ _ hS e0
    refine' K1.all_mk (mc := .type "type") KX G hmg ?a7 ?l7 ?c7 ?k7 ?a8 ?l8 ?c8 ?k8 ?a9 ?l9 ?c9 ?k9 ?a10 ?l10 ?c10 ?k10 ?a13 ?l13 ?c13 ?k13 ?a14 ?l14 ?c14 ?k14 ?a15 ?l15 ?c15 ?k15 ?a16 ?l16 ?c16 ?k16 ?a17 ?l17 ?c17 ?k17 ?a18 ?l18 ?c18 ?k18 ?a19 ?l19 ?c19 ?k19 ?a20 ?l20 ?c20 ?k20 ?a21 ?l21 ?c21 ?k21 ?a11 ?l11 ?c11 ?k11 ?u1 ?u2 ?gC ?gG ?gN ?iC ?l2 ?c2 ?k2 ?tI ?oC ?oV ?sA ?kC ?bC ?tC ?sC ?nC ?rG ?rR ?rF ?eg ?ek ?ed ?ea ?en ?et ?em ?iG ?iN ?y0 ?y1 ?w0 ?w1 ?w2 ?w3 ?w4 ?w5 ?zA ?zR ?zP ?zI ?zN ?zB ?zT ?zL base H s a ns hn hS e0
    (case a7 => first | rfl | k_is)
    (case l7 => first | rfl | k_is)
    (case c7 => first | rfl | k_is)
    (case k7 => first | rfl | k_is)
    (case a8 => first | rfl | k_is)
    (case l8 => first | rfl | k_is)
    (case c8 => first | rfl | k_is)
    (case k8 => first | rfl | k_is)
    (case a9 => first | rfl | k_is)
    (case l9 => first | rfl | k_is)
    (case c9 => first | rfl | k_is)
    (case k9 => first | rfl | k_is)
    (case a10 => first | rfl | k_is)
    (case l10 => first | rfl | k_is)
    (case c10 => first | rfl | k_is)
    (case k10 => first | rfl | k_is)
    (case a13 => first | rfl | k_is)
    (case l13 => first | rfl | k_is)
    (case c13 => first | rfl | k_is)
    (case k13 => first | rfl | k_is)
    (case a14 => first | rfl | k_is)
    (case l14 => first | rfl | k_is)
    (case c14 => first | rfl | k_is)
    (case k14 => first | rfl | k_is)
    (case a15 => first | rfl | k_is)
    (case l15 => first | rfl | k_is)
    (case c15 => first | rfl | k_is)
    (case k15 => first | rfl | k_is)
    (case a16 => first | rfl | k_is)
    (case l16 => first | rfl | k_is)
    (case c16 => first | rfl | k_is)
    (case k16 => first | rfl | k_is)
    (case a17 => first | rfl | k_is)
    (case l17 => first | rfl | k_is)
    (case c17 => first | rfl | k_is)
    (case k17 => first | rfl | k_is)
    (case a18 => first | rfl | k_is)
    (case l18 => first | rfl | k_is)
    (case c18 => first | rfl | k_is)
    (case k18 => first | rfl | k_is)
    (case a19 => first | rfl | k_is)
    (case l19 => first | rfl | k_is)
    (case c19 => first | rfl | k_is)
    (case k19 => first | rfl | k_is)
    (case a20 => first | rfl | k_is)
    (case l20 => first | rfl | k_is)
    (case c20 => first | rfl | k_is)
    (case k20 => first | rfl | k_is)
    (case a21 => first | rfl | k_is)
    (case l21 => first | rfl | k_is)
    (case c21 => first | rfl | k_is)
    (case k21 => first | rfl | k_is)
    (case a11 => first | rfl | k_is)
    (case l11 => first | rfl | k_is)
    (case c11 => first | rfl | k_is)
    (case k11 => first | rfl | k_is)
    (case u1 => first | rfl | k_is)
    (case u2 => first | rfl | k_is)
    (case gC => first | rfl | k_is)
    (case gG => first | rfl | k_is)
    (case gN => first | rfl | k_is)
    (case iC => first | rfl | k_is)
    (case l2 => first | rfl | k_is)
    (case c2 => first | rfl | k_is)
    (case k2 => first | rfl | k_is)
    (case tI => first | rfl | k_is)
    (case oC => first | rfl | k_is)
    (case oV => decide +kernel)
    (case sA => first | rfl | k_is)
    (case kC => first | rfl | k_is)
    (case bC => first | rfl | k_is)
    (case tC => first | rfl | k_is)
    (case sC => first | rfl | k_is)
    (case nC => first | rfl | k_is)
    (case rG => first | rfl | k_is)
    (case rR => first | rfl | k_is)
    (case rF => first | rfl | k_is)
    (case eg => first | rfl | k_is)
    (case ek => first | rfl | k_is)
    (case ed => first | rfl | k_is)
    (case ea => first | rfl | k_is)
    (case en => first | rfl | k_is)
    (case et => first | rfl | k_is)
    (case em => first | rfl | k_is)
    (case iG => first | rfl | k_is)
    (case iN => first | rfl | k_is)
    (case y0 => first | rfl | k_is)
    (case y1 => first | rfl | k_is)
    (case w0 => first | rfl | k_is)
    (case w1 => first | rfl | k_is)
    (case w2 => first | rfl | k_is)
    (case w3 => first | rfl | k_is)
    (case w4 => first | rfl | k_is)
    (case w5 => first | rfl | k_is)
    (case zA => first | rfl | k_is)
    (case zR => first | rfl | k_is)
    (case zP => first | rfl | k_is)
    (case zI => first | rfl | k_is)
    (case zN => first | rfl | k_is)
    (case zB => first | rfl | k_is)
    (case zT => first | rfl | k_is)
    (case zL => first | rfl | k_is)
