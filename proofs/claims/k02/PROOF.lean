import PyProof.Rows.All
import Wide.All
import OpenK.AllK
import Wide.FinOn
import HandS.ForMost
import HandS.ForExc
import HandS.Wide
import HandS.Defaults
import HandS.ExcIs
import HandS.ExcValue
import PyProof.Rows.ReprR
import HandS.IsInst
import HandS.FStrTup
import PySem.Challenge.RW_glassladder_k02_shares_reckoned
set_option Elab.async false
set_option linter.all false
set_option maxRecDepth 100000
set_option maxHeartbeats 8000000
namespace Gs
/-! the mathematics of shares -/
def gI (a b : Int) : Int := ((Int.gcd a b : Nat) : Int)
def lw (t b : Int) : Int × Int :=
  if b < 0 then (t.fdiv (-(gI t b)), b.fdiv (-(gI t b))) else (t.fdiv (gI t b), b.fdiv (gI t b))
def Sh (x : Int × Int) : Prop := 0 < x.2 ∧ Int.gcd x.1 x.2 = 1
theorem lw_ex (t b : Int) (h : b ≠ 0) : ∃ (g : Int), 0 < g ∧ g = gI t b ∧ ∃ p q : Int, lw t b = (p, q) ∧ Sh (p, q) ∧
    ((b < 0 ∧ t = -g * p ∧ b = -g * q) ∨ (0 < b ∧ t = g * p ∧ b = g * q)) := by
  have g0 : 0 < Int.gcd t b := by
    rcases Nat.eq_zero_or_pos (Int.gcd t b) with e | e
    · exact absurd (Int.gcd_eq_zero_iff.mp e).2 h
    · exact e
  have gp : 0 < gI t b := by unfold gI; omega
  obtain ⟨t', ht⟩ : gI t b ∣ t := Int.gcd_dvd_left t b
  obtain ⟨b', hb⟩ : gI t b ∣ b := Int.gcd_dvd_right t b
  have cop : Int.gcd t' b' = 1 := by
    have e1 := Int.gcd_mul_left (gI t b) t' b'
    rw [← ht, ← hb] at e1
    have e2 : (gI t b).natAbs = Int.gcd t b := by unfold gI; omega
    rw [e2] at e1
    have e3 : Int.gcd t b * 1 = Int.gcd t b * Int.gcd t' b' := by rw [Nat.mul_one]; exact e1
    exact (Nat.eq_of_mul_eq_mul_left g0 e3).symm
  generalize eg : gI t b = g at *
  have gne : g ≠ 0 := by omega
  refine ⟨g, gp, rfl, ?_⟩
  by_cases hn : b < 0
  · refine ⟨-t', -b', ?_, ⟨?_, ?_⟩, .inl ⟨hn, ?_, ?_⟩⟩
    · unfold lw
      rw [if_pos hn, eg]
      have e1 : t = (-g) * (-t') := by rw [ht]; grind
      have e2 : b = (-g) * (-b') := by rw [hb]; grind
      have z1 : t.fdiv (-g) = -t' := by rw [e1]; exact Int.mul_fdiv_cancel_left _ (by omega)
      have z2 : b.fdiv (-g) = -b' := by rw [e2]; exact Int.mul_fdiv_cancel_left _ (by omega)
      rw [z1, z2]
    · show 0 < -b'
      by_cases e : b' < 0
      · omega
      · have := Int.mul_nonneg (Int.le_of_lt gp) (show 0 ≤ b' by omega)
        omega
    · show Int.gcd (-t') (-b') = 1
      rw [Int.neg_gcd, Int.gcd_neg]
      exact cop
    · rw [ht]; grind
    · rw [hb]; grind
  · have bp : 0 < b := by omega
    refine ⟨t', b', ?_, ⟨?_, cop⟩, .inr ⟨bp, ht, hb⟩⟩
    · unfold lw
      rw [if_neg hn, eg]
      have z1 : t.fdiv g = t' := by rw [ht]; exact Int.mul_fdiv_cancel_left _ gne
      have z2 : b.fdiv g = b' := by rw [hb]; exact Int.mul_fdiv_cancel_left _ gne
      rw [z1, z2]
    · show 0 < b'
      by_cases e : 0 < b'
      · exact e
      · have := Int.mul_nonneg (Int.le_of_lt gp) (show 0 ≤ -b' by omega)
        rw [Int.mul_neg] at this
        omega
theorem lw_sh {t b : Int} (h : b ≠ 0) : Sh (lw t b) := by
  obtain ⟨g, _, _, p, q, e, s, _⟩ := lw_ex t b h
  rw [e]; exact s
theorem lw_cross {t b : Int} (h : b ≠ 0) : (lw t b).1 * b = t * (lw t b).2 := by
  obtain ⟨g, _, _, p, q, e, s, ⟨_, e1, e2⟩ | ⟨_, e1, e2⟩⟩ := lw_ex t b h
  · rw [e]; show p * b = t * q; rw [e1, e2]; grind
  · rw [e]; show p * b = t * q; rw [e1, e2]; grind
theorem abs_le_mul {g p : Int} (h : 0 < g) : p.natAbs ≤ (g * p).natAbs := by
  rw [Int.natAbs_mul]
  exact Nat.le_mul_of_pos_left _ (by omega)
theorem lw_le {t b : Int} (h : b ≠ 0) : (lw t b).1.natAbs ≤ t.natAbs ∧ (lw t b).2.natAbs ≤ b.natAbs := by
  obtain ⟨g, gp, _, p, q, e, s, ⟨_, e1, e2⟩ | ⟨_, e1, e2⟩⟩ := lw_ex t b h
  · rw [e]
    have x1 : t = -(g * p) := by rw [e1]; grind
    have x2 : b = -(g * q) := by rw [e2]; grind
    show p.natAbs ≤ _ ∧ q.natAbs ≤ _
    rw [x1, x2, Int.natAbs_neg, Int.natAbs_neg]
    exact ⟨abs_le_mul gp, abs_le_mul gp⟩
  · rw [e, e1, e2]
    exact ⟨abs_le_mul gp, abs_le_mul gp⟩
theorem cop_dvd {p q r : Int} (c : Int.gcd p q = 1) (d : q ∣ p * r) : q ∣ r := by
  have d' : q.natAbs ∣ p.natAbs * r.natAbs := by
    rw [← Int.natAbs_mul]
    exact Int.natAbs_dvd_natAbs.mpr d
  have c' : Nat.Coprime q.natAbs p.natAbs := by
    have e : Nat.gcd p.natAbs q.natAbs = 1 := c
    rw [Nat.gcd_comm] at e
    exact e
  exact Int.natAbs_dvd_natAbs.mp (c'.dvd_of_dvd_mul_left d')
theorem sh_eq {x y : Int × Int} (hx : Sh x) (hy : Sh y) (h : x.1 * y.2 = y.1 * x.2) : x = y := by
  obtain ⟨p, q⟩ := x
  obtain ⟨r, s⟩ := y
  obtain ⟨q0, c1⟩ := hx
  obtain ⟨s0, c2⟩ := hy
  have h : p * s = r * q := h
  have q0 : 0 < q := q0
  have s0 : 0 < s := s0
  have c1 : Int.gcd p q = 1 := c1
  have c2 : Int.gcd r s = 1 := c2
  have d1 : q ∣ s := cop_dvd c1 ⟨r, by rw [h]; grind⟩
  have d2 : s ∣ q := cop_dvd c2 ⟨p, by rw [← h]; grind⟩
  have e : q = s := Int.le_antisymm (Int.le_of_dvd s0 d1) (Int.le_of_dvd q0 d2)
  subst e
  have e2 : p = r := Int.eq_of_mul_eq_mul_right (by omega) h
  rw [e2]
theorem lw_eq {t b t' b' : Int} (h : b ≠ 0) (h' : b' ≠ 0) (e : t * b' = t' * b) : lw t b = lw t' b' := by
  have c := lw_cross (t := t) h
  have c' := lw_cross (t := t') h'
  have s := lw_sh (t := t) h
  have s' := lw_sh (t := t') h'
  generalize lw t b = x at *
  generalize lw t' b' = y at *
  refine sh_eq s s' ?_
  have n : b * b' ≠ 0 := Int.mul_ne_zero h h'
  refine Int.eq_of_mul_eq_mul_right n ?_
  have a1 : x.1 * y.2 * (b * b') = t * x.2 * (y.2 * b') := by rw [← c]; grind
  have a2 : y.1 * x.2 * (b * b') = t' * y.2 * (x.2 * b) := by rw [← c']; grind
  rw [a1, a2]
  have a3 : t * x.2 * (y.2 * b') = t * b' * (x.2 * y.2) := by grind
  have a4 : t' * y.2 * (x.2 * b) = t' * b * (x.2 * y.2) := by grind
  rw [a3, a4, e]
theorem lw_id {x : Int × Int} (h : Sh x) : lw x.1 x.2 = x := by
  have n : x.2 ≠ 0 := by have := h.1; omega
  exact sh_eq (lw_sh n) h (lw_cross n)
def pl (x y : Int × Int) : Int × Int := lw (x.1 * y.2 + y.1 * x.2) (x.2 * y.2)
def tm (x y : Int × Int) : Int × Int := lw (x.1 * y.1) (x.2 * y.2)
def ng (x : Int × Int) : Int × Int := (-x.1, x.2)
theorem Sh.ne {x : Int × Int} (h : Sh x) : x.2 ≠ 0 := by have := h.1; omega
theorem Sh.ng {x : Int × Int} (h : Sh x) : Sh (ng x) := ⟨h.1, by show Int.gcd (-x.1) x.2 = 1; rw [Int.neg_gcd]; exact h.2⟩
theorem mul_ne {a b : Int} (h : a ≠ 0) (h' : b ≠ 0) : a * b ≠ 0 := Int.mul_ne_zero h h'
theorem pl_sh {x y : Int × Int} (hx : Sh x) (hy : Sh y) : Sh (pl x y) := lw_sh (mul_ne hx.ne hy.ne)
theorem pl_same {x y : Int × Int} (hx : Sh x) (hy : Sh y) (e : x.2 = y.2) : lw (x.1 + y.1) x.2 = pl x y :=
  lw_eq hx.ne (mul_ne hx.ne hy.ne) (by rw [← e]; grind)
theorem pl3 {x y z : Int × Int} (hx : Sh x) (hy : Sh y) (hz : Sh z) :
    pl (pl x y) z = lw (x.1 * y.2 * z.2 + y.1 * x.2 * z.2 + z.1 * x.2 * y.2) (x.2 * y.2 * z.2) := by
  have n := mul_ne hx.ne hy.ne
  have c := lw_cross (t := x.1 * y.2 + y.1 * x.2) n
  have s := pl_sh hx hy
  refine lw_eq (mul_ne s.ne hz.ne) (mul_ne n hz.ne) ?_
  have e : pl x y = lw (x.1 * y.2 + y.1 * x.2) (x.2 * y.2) := rfl
  rw [← e] at c
  generalize pl x y = u at *
  have a1 : (u.1 * z.2 + z.1 * u.2) * (x.2 * y.2 * z.2) = u.1 * (x.2 * y.2) * (z.2 * z.2) + z.1 * u.2 * (x.2 * y.2 * z.2) := by grind
  rw [a1, c]
  grind
theorem pl_rc {x y z : Int × Int} (hx : Sh x) (hy : Sh y) (hz : Sh z) : pl (pl x y) z = pl (pl x z) y := by
  rw [pl3 hx hy hz, pl3 hx hz hy]
  congr 1 <;> grind
theorem sh0 : Sh (0, 1) := by constructor <;> decide
theorem pl_0 {s : Int × Int} (h : Sh s) : pl (0, 1) s = s := by
  have e : pl (0, 1) s = lw s.1 s.2 := by
    unfold pl
    congr 1
    · show 0 * s.2 + s.1 * 1 = s.1; grind
    · show 1 * s.2 = s.2; grind
  rw [e]
  exact lw_id h
def sumS (a : Int × Int) (l : List (Int × Int)) : Int × Int := l.foldl pl a
theorem sum_sh : ∀ (l : List (Int × Int)) (a : Int × Int), Sh a → (∀ x ∈ l, Sh x) → Sh (sumS a l)
  | [], _, h, _ => h
  | x :: l, a, h, hl => sum_sh l (pl a x) (pl_sh h (hl x List.mem_cons_self)) fun y hy => hl y (List.mem_cons_of_mem _ hy)
theorem sum_rc : ∀ (l : List (Int × Int)) (a s : Int × Int), Sh a → Sh s → (∀ x ∈ l, Sh x) → sumS (pl a s) l = pl (sumS a l) s
  | [], _, _, _, _, _ => rfl
  | x :: l, a, s, ha, hs, hl => by
    have hx := hl x List.mem_cons_self
    show sumS (pl (pl a s) x) l = pl (sumS (pl a x) l) s
    rw [pl_rc ha hs hx]
    exact sum_rc l (pl a x) s (pl_sh ha hx) hs fun y hy => hl y (List.mem_cons_of_mem _ hy)
theorem sum_start {l : List (Int × Int)} {s : Int × Int} (hs : Sh s) (hl : ∀ x ∈ l, Sh x) : sumS s l = pl (sumS (0, 1) l) s := by
  have e := sum_rc l (0, 1) s sh0 hs hl
  rw [pl_0 hs] at e
  exact e
/-! how great they may be -/
def Bd (n : Nat) (x : Int × Int) : Prop := x.1.natAbs < 2 ^ n ∧ x.2.natAbs < 2 ^ n
theorem mul_bd {a b : Int} {n m : Nat} (ha : a.natAbs < 2 ^ n) (hb : b.natAbs < 2 ^ m) : (a * b).natAbs < 2 ^ (n + m) := by
  rw [Int.natAbs_mul, Nat.pow_add]
  exact Nat.mul_lt_mul'' ha hb
theorem add_bd {a b : Int} {n : Nat} (ha : a.natAbs < 2 ^ n) (hb : b.natAbs < 2 ^ n) : (a + b).natAbs < 2 ^ (n + 1) := by
  rw [Nat.pow_succ]
  have := Int.natAbs_add_le a b
  omega
theorem bd_mono {a : Int} {n m : Nat} (ha : a.natAbs < 2 ^ n) (h : n ≤ m) : a.natAbs < 2 ^ m := Nat.lt_of_lt_of_le ha (Nat.pow_le_pow_right (by decide) h)
theorem Bd.mono {x : Int × Int} {n m : Nat} (h : Bd n x) (hm : n ≤ m) : Bd m x := ⟨bd_mono h.1 hm, bd_mono h.2 hm⟩
theorem lw_bd {t b : Int} {n : Nat} (h : b ≠ 0) (h1 : t.natAbs < 2 ^ n) (h2 : b.natAbs < 2 ^ n) : Bd n (lw t b) :=
  ⟨Nat.lt_of_le_of_lt (lw_le h).1 h1, Nat.lt_of_le_of_lt (lw_le h).2 h2⟩
theorem pl_bd {x y : Int × Int} {n m : Nat} (hx : Sh x) (hy : Sh y) (b1 : Bd n x) (b2 : Bd m y) : Bd (n + m + 1) (pl x y) := by
  refine lw_bd (mul_ne hx.ne hy.ne) (add_bd (mul_bd b1.1 b2.2) ?_) (bd_mono (mul_bd b1.2 b2.2) (by omega))
  have := mul_bd b2.1 b1.2
  rw [Nat.add_comm m n] at this
  exact this
theorem sum_bd : ∀ (l : List (Int × Int)) (a : Int × Int) (n : Nat), Sh a → Bd n a → (∀ x ∈ l, Sh x ∧ Bd 70 x) → Bd (n + 71 * l.length) (sumS a l)
  | [], _, _, _, b, _ => b
  | x :: l, a, n, h, b, hl => by
    have hx := hl x List.mem_cons_self
    have z := sum_bd l (pl a x) (n + 70 + 1) (pl_sh h hx.1) (pl_bd h hx.1 b hx.2) fun y hy => hl y (List.mem_cons_of_mem _ hy)
    have e : n + 70 + 1 + 71 * l.length = n + 71 * (x :: l).length := by rw [List.length_cons]; omega
    rw [e] at z
    exact z
/-! the greatest number that divides both, by turns -/
theorem gcd_turn {a b : Int} (ha : 0 ≤ a) (hb : 0 < b) : Int.gcd b (a.fmod b) = Int.gcd a b := by
  rw [Int.fmod_eq_emod_of_nonneg _ (by omega)]
  show Nat.gcd b.natAbs (a % b).natAbs = Nat.gcd a.natAbs b.natAbs
  have e : (a % b).natAbs = a.natAbs % b.natAbs := by
    rw [Int.natAbs_emod_of_nonneg ha]
  rw [e, Nat.gcd_comm a.natAbs b.natAbs, Nat.gcd_rec b.natAbs a.natAbs, Nat.gcd_comm]
theorem gI_abs {a b : Int} : gI (if a < 0 then -a else a) (if b < 0 then -b else b) = gI a b := by
  unfold gI
  congr 1
  show Nat.gcd _ _ = Nat.gcd _ _
  have e : ∀ x : Int, (if x < 0 then -x else x).natAbs = x.natAbs := fun x => by split <;> omega
  rw [e a, e b]
theorem gI_bd {a b : Int} {n : Nat} (h : b ≠ 0) (hb : b.natAbs < 2 ^ n) : 0 < gI a b ∧ (gI a b).natAbs < 2 ^ n := by
  have g0 : 0 < Int.gcd a b := by
    rcases Nat.eq_zero_or_pos (Int.gcd a b) with e | e
    · exact absurd (Int.gcd_eq_zero_iff.mp e).2 h
    · exact e
  have d : Int.gcd a b ∣ b.natAbs := Nat.gcd_dvd_right _ _
  have l := Nat.le_of_dvd (by omega) d
  unfold gI
  constructor
  · omega
  · have e : ((Int.gcd a b : Nat) : Int).natAbs = Int.gcd a b := Int.natAbs_natCast _
    rw [e]
    omega
theorem lw_1 (t : Int) : lw t 1 = (t, 1) := by
  unfold lw gI
  rw [if_neg (by decide), Int.gcd_one]
  simp
end Gs

namespace Gs
open PySem PySem.Spec PyProof.Rows L2
/-! ### a caught error, kept behind its suite -/
/-- the error object of the class cls at a, its own dict d -/
def ExK (cls : Value) (d : Option Addr) (a : Addr) : HO :=
  .ext fun h => ∃ (o : Obj) (fs : Array Value), h.get? a = some o ∧ Zc cls d o ∧ o.data = .fields fs
section
variable {X : Cx} {pins : List (Addr × Obj)} {σ : L2.St} {H : Hp} {s : Shared}
theorem track {a : Addr} {o : Obj} {cls : Value} {d : Option Addr} {fs : Array Value}
    (I : Inv X ((a, o) :: pins) σ H s) (n0 : X.s_0.heap.get? a = none)
    (np : ∀ p ∈ X.pn ++ pins, p.1 ≠ a) (z : Zc cls d o) (hd : o.data = .fields fs) :
    Inv X pins σ (upd H a (ExK cls d a)) s := by
  have P := I.pin (a, o) (List.mem_append.mpr (.inr List.mem_cons_self))
  have g : s.heap.get? a = some o := P.1
  have hn : H a = none := P.2.1
  have b := I.base
  have nt : ∀ {c u}, H c = some u → c ≠ a := fun e => ne_of_none e hn
  have n1 : ∀ {c u}, X.s_0.heap.get? c = some u → c ≠ a := fun e q => by
    rw [q, n0] at e
    cases e
  refine ⟨I.ok, I.os, I.bare, ⟨b.keep, b.slot, ?_, b.there, ?_, ?_, ?_⟩, I.loc, I.cell, ?_, ?_, ?_, ?_, I.len⟩
  · intro c u e n x
    rw [upd_ne (n1 e)]
    exact b.free c u e n x
  · intro c xs e
    have q := b.tups c xs e
    rw [upd_ne (nt q)]
    exact q
  · intro c u v e
    have q := b.frzs c u v e
    rw [upd_ne (nt q)]
    exact q
  · intro c ps e
    obtain ⟨m, q⟩ := b.tbls c ps e
    refine ⟨m, ?_⟩
    rw [upd_ne (nt q)]
    exact q
  · rw [upd_ne (fun e => P.2.2.1 e.symm)]
    exact I.free
  · intro x c e
    have ne : c ≠ a := fun q => by
      obtain ⟨v, u, e1, e2⟩ := I.cell x c e
      rw [q, g] at e1
      cases e1
      exact P.2.2.2.2 _ e2
    rw [upd_ne ne]
    exact I.freeC x c e
  · intro p hp
    have hm : p ∈ X.pn ++ (a, o) :: pins := by
      rcases List.mem_append.mp hp with h | h
      · exact List.mem_append.mpr (.inl h)
      · exact List.mem_append.mpr (.inr (List.mem_cons_of_mem _ h))
    obtain ⟨e1, e2, e3⟩ := I.pin p hm
    refine ⟨e1, ?_, e3⟩
    rw [upd_ne (np p hp)]
    exact e2
  · refine HOk.laidN I.hok (fun _ _ e => e) hn ?_
    exact ⟨⟨o, fs, g, z, hd⟩, ⟨o, g⟩, fun h1 h2 ⟨o1, f1, e1, r⟩ k => ⟨o1, f1, k o1 e1, r⟩⟩
end
/-- what 'except x as n: y = n' wishes of an error of the body; slots i of n, j of y -/
def wKeep (K : PySem.W.Frag) (c : Value) (i j : Nat) (W0 : WX) (D : Ends) : WX := fun cls d σ H =>
  ∃ b, PySem.W.exmOne K cls c = some b ∧
    (b = true → ∀ a, H a = none → D.nx (((σ.set i (some (.ref a))).set j (some (.ref a))).set i none) (upd H a (ExK cls d a))) ∧
    (b = false → W0 cls d σ H)
section
variable {X : Cx} {x n y : Str} {c : Value} {i j : Nat} {body : List Stmt} {p1 p2 p3 np pos pos' : Pos} {tb : WX → TS} {W0 : WX}
theorem ps_try_kept (hs : X.stack = X.env :: X.outer) (hf : X.env.frame = some X.env.locals) (hex : X.ex = [])
    (hN : X.N.Nodup) (hi : X.N[i]? = some n) (hj : X.N[j]? = some y)
    (hln : X.env.kindOf n = some .local) (hly : X.env.kindOf y = some .local)
    (hdn : (n == ("__debug__" : Str)) = false) (hcn : (n == ("__classdict__" : Str)) = false)
    (hlt : i < X.N.length) (hij : i ≠ j)
    (hc : Names X x c) (tk : Takes X W0)
    (hsw : swapsWith (.Name n p2) (some (.Name y p1)) p3.line X.env = pure false)
    (hb : ∀ (W : WX) (pn : List (Addr × Obj)) (xe : Value → Shared → Prop), Takes (X.tr pn xe) W →
      PassesOwn (model X.prog X.w) X.A X.env xe → PSs (X.tr pn xe) body (tb W)) :
    PS X (.Try body [.ExceptHandler (some (.Name x np)) (some n) [.Assign [.Name y p1] (.Name n p2) p3] pos'] [] [] pos)
      (fun D σ H => tb (wKeep X.K c i j W0 D) D σ H) := by
  constructor
  intro pins s σ H D I h
  have ok := I.ok
  have hfr : X.A.frames = some (X.env :: X.outer) := by
    rw [ok.frames, hs]
  refine wpAny_Try_except ?_
  let hh : List ExceptHandler := [.ExceptHandler (some (.Name x np)) (some n) [.Assign [.Name y p1] (.Name n p2) p3] pos']
  let xe' : Value → Shared → Prop := fun e s₁ =>
    wpAny (model X.prog X.w) X.A (noteFrame e X.env) (fun _ s₂ =>
      wpAny (model X.prog X.w) X.A (setFlight e none) (fun _ s₃ =>
        wpAny (model X.prog X.w) X.A (handleBy e X.env hh) (SP X pins D) X.xe s₃) X.xe s₂) X.xe s₁
  have tk' : Takes (X.tr (X.pn ++ pins) xe') (wKeep X.K c i j W0 D) := by
    intro u s' xx
    obtain ⟨a, B, sI, pins', σ', H', cls, d, eu, J', nb, up, sky, na, os, ag, b, hb1, hyes, hno⟩ := xx
    subst eu
    have J : Inv X pins σ' H' sI := J'.ofTry ok
    have sky' : Sky B (X.env :: X.outer) a (Zc cls d) X.env.locals s'.heap := by
      rw [← hs]
      exact sky
    show wpAny (model X.prog X.w) X.A (noteFrame (.ref a) X.env) _ _ _
    refine Sky.land Zc.steady hfr hf sky' fun h3 fl3 up3 => ?_
    have J3 : Inv X pins σ' H' { s' with heap := h3 } := Inv.landed J nb fl3.1 (up.trans up3) os ag
    obtain ⟨o3, v3, e3, z3, d3⟩ := fl3.there
    have nfr : a ∉ frs (X.env :: X.outer) := by
      intro hm
      obtain ⟨_, o', e', q⟩ := fl3.2.2.1.mem hm
      rw [e3] at e'
      cases e'
      exact q _ d3
    have nL : a ≠ X.env.locals := fun z => nfr (by
      refine List.mem_filterMap.mpr ⟨X.env, List.mem_cons_self, ?_⟩
      rw [hf, z])
    have nF : a ∉ X.fs := fun hm => by
      obtain ⟨e, he, q⟩ := List.mem_filterMap.mp hm
      exact nfr (List.mem_filterMap.mpr ⟨e, List.mem_cons_of_mem _ he, q⟩)
    have new : sI.heap.get? a = none := by
      cases q : sI.heap.get? a with
      | none => rfl
      | some o =>
        have q2 := nb a o q (by rw [hs]; exact nfr)
        rw [fl3.2.1] at q2
        cases q2
    have n0 : X.s_0.heap.get? a = none := by
      cases q : X.s_0.heap.get? a with
      | none => rfl
      | some o =>
        obtain ⟨o', q2⟩ := J.base.there a o q (by rw [hex]; exact List.not_mem_nil)
        rw [new] at q2
        cases q2
    have npn : ∀ p ∈ X.pn ++ pins, p.1 ≠ a := fun p hp q => by
      have q2 := (J.pin p hp).1
      rw [q, new] at q2
      cases q2
    have S3 := J3.suite e3 d3 na nL nF
    refine wpAny_handleBy_cons (codeAny_handlers_test ?_) (by intro q; cases q)
    have LT : PySem.W.Looks (model X.prog X.w) h3 (typeOf (.ref a)) cls := by
      intro A Q E s k q
      refine wpAny_typeOf_ref (k _ _ e3) ?_
      rw [z3.1]
      exact q
    have LM := PySem.W.exm_one (M := model X.prog X.w) J3.kIn LT hb1
    have look : ∀ {Q : Value → Shared → Prop} {E : Value → Shared → Prop}, Q c { s' with heap := h3 } →
        wpAny (model X.prog X.w) (X.A.mark (some (.ref a))) (eval (.Name x np) X.env) Q E { s' with heap := h3 } := by
      intro Q E q
      obtain ⟨hg, hdbg, hm | ⟨hm, hv, hnn⟩⟩ := hc
      · exact ld_glob (X := X.suite a ((a, o3) :: (X.pn ++ pins))) S3 hg hm q hdbg
      · exact ld_blt (X := X.suite a ((a, o3) :: (X.pn ++ pins))) S3 hg hm hv q hnn hdbg
    refine look (LM.here ?_)
    cases b with
    | true =>
      refine codeAny_handlers_suite_as ?_
      refine HandSPX.lands_againZ fl3 fun h4 fl4 up4 => ?_
      have J4 : Inv X pins σ' H' { s' with heap := h4 } := Inv.landed J nb fl4.1 ((up.trans up3).trans up4) os ag
      obtain ⟨o4, v4, e4, z4, d4⟩ := fl4.there
      have S4 := J4.suite e4 d4 na nL nF
      refine store_ok (X := X.suite a ((a, o4) :: (X.pn ++ pins))) (v := .ref a) S4 hN hi (.inl hln) rfl (fun s5 S5 => ?_) (.inr hln)
      have st : PSs (X.suite a ((a, o4) :: (X.pn ++ pins))) [.Assign [.Name y p1] (.Name n p2) p3] _ :=
        pss_one (ps_set (i := j) hN hj (.inl hly) (pe_var hi (.inl hln) hdn hcn) hsw (.inr hly))
      have len : i < σ'.length := by
        rw [J.len]
        exact hlt
      have sl : (σ'.set i (some (V.ref a)))[i]? = some (some (V.ref a)) := by
        rw [List.getElem?_set_self len]
      refine wpAny_mono (st.run [] s5 _ H' { nx := fun σ6 H6 => σ6 = (σ'.set i (some (.ref a))).set j (some (.ref a)) ∧ H6 = H', rt := fun _ _ => False } S5 ⟨.ref a, sl, rfl, rfl⟩) (fun f s6 hsp => ?_) (fun _ _ z => False.elim z)
      cases f with
      | next =>
        obtain ⟨σ6, H6, S6, e6, e7⟩ := hsp
        subst e6
        subst e7
        have T6 : Inv X ((a, o4) :: pins) _ H6 s6 := ⟨ok, S6.os, S6.bare, S6.base, S6.loc, S6.cell, S6.free, S6.freeC, (fun p hp => S6.pin p (by
          show p ∈ ((a, o4) :: (X.pn ++ pins)) ++ []
          rw [List.append_nil]
          rcases List.mem_append.mp hp with h | h
          · exact List.mem_cons_of_mem _ (List.mem_append.mpr (.inl h))
          · rcases List.mem_cons.mp h with h | h
            · rw [h]
              exact List.mem_cons_self
            · exact List.mem_cons_of_mem _ (List.mem_append.mpr (.inr h)))), S6.hok, S6.len⟩
        refine gone_ok T6 hN hi hln fun s7 J7 => ?_
        exact ⟨_, _, track J7 n0 npn z4 d4, hyes rfl a na⟩
      | brk =>
        obtain ⟨_, _, _, q⟩ := hsp
        exact False.elim q
      | cont =>
        obtain ⟨_, _, _, q⟩ := hsp
        exact False.elim q
      | ret u =>
        obtain ⟨_, _, _, _, _, q⟩ := hsp
        exact False.elim q
    | false =>
      show wpAny _ X.A (handleBy (.ref a) X.env []) _ _ _
      refine wpAny_handleBy_nil ?_
      have T3 := fl3.2.2.2
      obtain ⟨oe, fv, T, oT, ts', he, hz, hd, h1, hr⟩ := T3
      unfold PySem.passOn
      refine wpAny_bind (wpAny_field he hd h1 ?_)
      rw [if_neg (by simp)]
      have fin : wpAny (model X.prog X.w) X.A (setFlight (.ref a) X.env.frame)
          (fun _ s4 => wpAny (model X.prog X.w) X.A (throw (.ref a) : Sem Flow) (SP X pins D) X.xe s4) X.xe { s' with heap := h3 } := by
        rw [hf]
        refine HandSPX.setFlight_upZ fl3 fun h4 hh4 up4 => wpAny_throw (tk _ _ ?_)
        refine ⟨a, B, sI, pins, σ', H', cls, d, rfl, J, nb, (up.trans up3).trans up4, .inr (.inr ?_), na, os, ag, hno rfl⟩
        rw [hs]
        exact hh4
      first
        | exact wpAny_bind (wpAny_pure (wpAny_bind fin))
        | exact wpAny_bind fin
  refine wpAny_mono ((hb _ (X.pn ++ pins) xe' tk' PassesOwn.looking).run [] s σ H D (I.toTry _) h) (fun f s1 hsp => ?_) (fun _ _ he => he)
  cases f with
  | next =>
    obtain ⟨σ', H', J', q⟩ := hsp
    exact wpAny_execs_nil ⟨σ', H', J'.ofTry ok, q⟩
  | brk =>
    obtain ⟨σ', H', J', q⟩ := hsp
    exact ⟨_, _, J'.ofTry ok, q⟩
  | cont =>
    obtain ⟨σ', H', J', q⟩ := hsp
    exact ⟨_, _, J'.ofTry ok, q⟩
  | ret u =>
    obtain ⟨v, σ', H', J', r, q⟩ := hsp
    exact ⟨_, _, _, J'.ofTry ok, r, q⟩
/-- isinstance(e, c) of a kept error -/
theorem call_isK {D : Addr} (C : ExcC X.K D) : CallR X (.builtin "isinstance") (fun xs H Q => ∃ (a : Addr) (t : V) (tv : Value) (b : Bool),
    xs = [.ref a, t] ∧ H a = some (ExK (.ref D) none a) ∧ (∀ u, RelV t u → u = tv) ∧ PySem.W.kitOne X.K (.ref D) tv = some b ∧ Q (.bl b) H) := by
  intro pins s σ H xs us Q I r h
  obtain ⟨a, t, tv, b, rfl, ha, ht, e, q⟩ := h
  cases r with
  | cons rx rr =>
    cases rr with
    | cons rt rr =>
      cases rr
      cases rx
      have ec := ht _ rt
      subst ec
      obtain ⟨⟨o, fs, g, z, hv⟩, _, _⟩ := I.hok a _ ha
      have W : PySem.W.InstAt s.heap a o D none := by
        obtain ⟨oc, od, oda, osl⟩ := o
        obtain ⟨h1, h2⟩ := z
        dsimp only at h1 h2 hv
        subst h1 h2 hv
        exact ⟨g, rfl, rfl, trivial⟩
      have kit := PySem.W.handS_kitx_exc (x := a) (ox := o) C.hg C.hk C.hs C.hd C.ha C.hn C.ht C.hm
      exact PySem.W.kia_one kit I.kIn W e (fun z => nomatch z) fun tk => ⟨.bl b, H, I.kept (t' := tk) fun _ _ z => z, rfl, q⟩
/-- repr of data, where no other repr is under way -/
theorem call_reprD (hg : X.A.guards = some []) (hu : X.A.units + 64 < cLine) : CallR X (.builtin "repr") (fun xs H Q => ∃ (a : Addr) (d : PyData),
    xs = [.ref a] ∧ Dp X.K H (.ref a) d ∧ d.showable = true ∧ d.hasDict = false ∧ d.depth ≤ 60 ∧ d.shown.length ≤ sizeLine ∧ Q (.str d.shown) H) := by
  intro pins s σ H xs us Q I r h
  obtain ⟨a, d, rfl, hd, h1, h2, h3, h4, q⟩ := h
  obtain ⟨u, rfl, ru⟩ := vals1 r
  cases ru
  obtain ⟨as, rd⟩ := Dp.reads I d _ _ hd rfl
  exact repr_of_reads' rd h1 (PyData.noDict_hsm h2) hg (by omega) (fun _ _ e => e) (fun h' u tk k => ⟨.str d.shown, H, I.kept k, ⟨u, rfl⟩, q⟩) h4
/-- // by any number but nought, below 2 ^ 9000 in size -/
theorem op_fdivZ : OpR X (binaryOp .FloorDiv) (rI (fun _ k => k ≠ 0 ∧ k.natAbs.log2 < 9000) fun m k => .int (m.fdiv k)) :=
  opI fun _ _ _ _ _ _ _ hc q => floordiv_int hc.1 q (.inl (PyProof.noPylong_of_log2 hc.2))
end
end Gs

namespace Gs
open PySem PySem.Spec PyProof.Rows L2
section
variable {P : Program} {w : World} {K : PySem.W.Frag} {mg : Str → Option Value} {f : Addr}
/-- a def's body, run at one place alone -/
theorem body_at {A : Around} {base : Heap} {name qual : Str} {params : Arguments} {body : List Stmt} {scope : Scope} {dV kV doc pm cdv ct oc : Value} {an od : Option Addr} {osl : Array (Option Value)}
    {N ps : List Str} {k : Nat} {s : Shared} {H : Hp} {vs : List V} {us : List Value} {args : Args} {Q : VK} {E : XK}
    (lk : K.lookup f = some ⟨oc, od, .func (PySem.W.fnOf name qual params body scope dV kV doc pm an cdv ct), osl⟩)
    (hcd : PySem.W.codeIn K cdv qual = true) (S : FnScope N ps scope) (hl : vs.length = ps.length) (hr : Room (k + 1) A)
    (e0 : Env0 P w K mg base A [] s H) (hb : BindsTo s (PySem.W.fnOf name qual params body scope dV kV doc pm an cdv ct) args (ps.zip us)) (r : Vals vs us)
    (hbody : Room k (A.deeper (envOfC qual scope s.heap.objs.size f cdv)) →
      ∃ t, PSs (cxOf CX0 P w K mg base N qual scope f cdv A [] s H E).nox body t ∧
        t { nx := fun _ H' => Q .non H', rt := Q } (start N vs) H) :
    codeAny (model P w) A (.call (.ref f) args) (CR CX0 [] P w H s Q E) s := by
  have kk : ∀ b o, base.get? b = some o → s.heap.get? b = some o := fun b o e => (e0.bs b o e).1
  have KX : K.In s.heap := e0.mod.kin.keeps kk
  have lim : s.heap.NoLimit := e0.mod.nolimit.keeps kk
  have kinds : ∀ q ∈ ps.zip us, scope.names.lookup q.1 = some .local ∨
      (scope.names.lookup q.1 = some .cell ∧ ((cellsFrom (s.heap.objs.size + 1) scope.names []).lookup q.1).isSome = true) := by
    intro q hq
    rcases S.par q.1 (List.of_mem_zip (a := q.1) (b := q.2) hq).1 with z | z
    · exact .inl z
    · exact .inr ⟨z, PySem.W.cellsFrom_some _ _ _ (.inl z)⟩
  refine codeAny_call_function hr.depth (KX _ _ lk) rfl S.co S.gen rfl (PySem.W.codeRec_of KX hcd) (hb _ _ _ _ ?_)
  refine wpAny_newFunctionEnv_cells S.kind kinds fun env he s1 x => ?_
  subst he
  refine ⟨lim.keeps x.toInCall.keep, codeAny_func ?_⟩
  obtain ⟨t, ht, hq⟩ := hbody (hr.deeper _)
  have I : Inv (cxOf CX0 P w K mg base N qual scope f cdv A [] s H E) [] (start N vs) H s1 := inv_start S hr.hd e0 hl r x
  refine wpAny_mono (ht.nox.run [] s1 (start N vs) H _ I hq) (fun fl s' hs => ?_) fun e s' hs => hs
  cases fl with
  | ret u =>
    obtain ⟨v, σ', H', J, rv, q⟩ := hs
    exact ⟨v, H', J.os, J.bare, J.base, J.hok, rv, q⟩
  | next =>
    obtain ⟨σ', H', J, q⟩ := hs
    exact ⟨.non, H', J.os, J.bare, J.base, J.hok, rfl, q⟩
  | brk =>
    obtain ⟨_, _, _, q⟩ := hs
    exact q.elim
  | cont =>
    obtain ⟨_, _, _, q⟩ := hs
    exact q.elim
/-- the law's call, from the promise at the caller's own place -/
theorem law_at {mb : Str → Option Value} {a : Addr} {s₁ : Shared} {vs : List Value} {ns : List Int}
    (KX : K.In s₁.heap) (hns : s₁.heap.Ns mainGlobals mg) (hbt : s₁.heap.Ns builtinsNs mb) (hbb : ∀ x : Str, x ≠ "__name__" → mb x = bootBuiltins x)
    (hlim : s₁.heap.NoLimit) (hg : s₁.gens = #[])
    (ha : s₁.heap.get? a = some { cls := .type "list", data := .seq vs.toArray }) (hi : IntsAre vs ns) (hl : ns.length ≤ sizeLine)
    (F : ∀ (base : Heap) (H : Hp), K.In base → base.Ns mainGlobals mg → SqL K H a (ns.map V.int) → Env0 P w K mg base callerA [] s₁ H →
      codeAny (model P w) callerA (.call (.ref f) ⟨[.ref a], []⟩) (CR CX0 [] P w H s₁ (fun v _ => v = .bl true) fun _ _ _ => False) s₁) :
    codeAny (model P w) callerA (.call (.ref f) ⟨[.ref a], []⟩)
      (fun r s' => r = .ok (.ret (.bool true)) ∧ OldK s₁.heap s'.heap ∧ s'.os = s₁.os ∧ AllBare s'.gens) s₁ := by
  have rv := vals_ints hi
  let so : Obj := { cls := .type "list", data := .seq vs.toArray }
  have go : ∀ H : Hp, (∀ b u, H b = some u → b = a ∧ u = .frz so (.lst (ns.map V.int)) ∧ K.lookup a = none) → SqL K H a (ns.map V.int) → HOk P w H s₁.heap →
      codeAny (model P w) callerA (.call (.ref f) ⟨[.ref a], []⟩)
        (fun r s' => r = .ok (.ret (.bool true)) ∧ OldK s₁.heap s'.heap ∧ s'.os = s₁.os ∧ AllBare s'.gens) s₁ := by
    intro H hH hS hok
    have stays : ∀ {b : Addr} {o : Obj}, s₁.heap.get? b = some o → b ≠ a → (hidT s₁.heap H).get? b = some o := by
      intro b o e nb
      refine hidT_get e ?_
      cases q : H b with
      | none => rfl
      | some u => exact absurd (hH b u q).1 nb
    have nsd : ∀ {b : Addr} {m : Str → Option Value}, s₁.heap.Ns b m → (hidT s₁.heap H).Ns b m := by
      intro b m ⟨o, es, ep, e, d, z⟩
      refine ⟨o, es, ep, stays e ?_, d, z⟩
      intro eb
      subst eb
      rw [ha] at e
      cases e
      have d' : Data.seq vs.toArray _ = Data.dict es ep := d
      cases d'
    have kin : K.In (hidT s₁.heap H) := by
      intro b o e
      refine hidT_get (KX b o e) ?_
      cases q : H b with
      | none => rfl
      | some u =>
        obtain ⟨e1, _, e2⟩ := hH b u q
        rw [e1, e2] at e
        cases e
    have md : Mod K mg (hidT s₁.heap H) := by
      obtain ⟨mc, h1, h2⟩ := hlim
      exact ⟨kin, nsd hns, ⟨mb, nsd hbt, hbb⟩, ⟨mc, nsd h1, h2⟩⟩
    have e0 : Env0 P w K mg (hidT s₁.heap H) callerA [] s₁ H := by
      refine ⟨rfl, md, fun b o e => of_hidT e, Nat.le_of_eq (hidT_size _ _), trivial, ?_, hok, .of_eq hg⟩
      intro b z
      exact absurd (show b ∈ ([] : List Addr) from z) List.not_mem_nil
    refine codeAny_mono (F _ H kin (nsd hns) hS e0) fun r s' h => ?_
    cases r with
    | error e => exact False.elim h
    | ok fl =>
      cases fl with
      | next => exact False.elim h
      | brk => exact False.elim h
      | cont => exact False.elim h
      | ret u =>
        obtain ⟨v, H', os, bare, un, hok', r', q⟩ := h
        have q' : v = .bl true := q
        subst q'
        obtain rfl : u = Value.bool true := r'
        refine ⟨rfl, OldK.of_keep fun b o e => ?_, os, bare⟩
        cases q : H b with
        | none =>
          exact un.keep b o e q (fun z => absurd (show b ∈ ([] : List Addr) from z) List.not_mem_nil) List.not_mem_nil
        | some u =>
          obtain ⟨e1, e2, _⟩ := hH b u q
          rw [e2] at q
          have z2 := un.frzs b so _ q
          obtain ⟨e3, _⟩ := hok' b _ z2
          rw [e1, ha] at e
          cases e
          exact e3
  cases hk : K.lookup a with
  | some o =>
    have e := KX a o hk
    rw [ha] at e
    cases e
    refine go (fun _ => none) (fun b u z => by cases z) (.inr ⟨_, vs.toArray, _, hk, rfl, rfl, rfl, ?_, by simpa using rv⟩) (fun b u z => by cases z)
    rw [List.size_toArray, hi.length]
    exact hl
  | none =>
    refine go (fun b => if b = a then some (.frz so (.lst (ns.map V.int))) else none) (fun b u z => ?_) (.inl (.inr ⟨so, if_pos rfl⟩)) (fun b u z => ?_)
    · by_cases eb : b = a
      · have z' := (if_pos eb).symm.trans z
        cases z'
        exact ⟨eb, rfl, hk⟩
      · have z' := (if_neg eb).symm.trans z
        cases z'
    · by_cases eb : b = a
      · have z' := (if_pos eb).symm.trans z
        cases z'
        subst eb
        exact ⟨ha, by rw [List.length_map]; exact hl, vs, _, rv, ha⟩
      · have z' := (if_neg eb).symm.trans z
        cases z'
end
/-- the goal that the head leaves -/
theorem walk_at1 {l : PySem.W.OpenLaw} {n : Nat} {q : Program} {loose : List Str} {XP : (Str → Option Value) → Heap → Prop} {YP : World → Heap → Prop} {d : DefRec} {K : Params → PySem.W.Frag}
    (hn : l.most = some n) (hn2 : n ≤ sizeLine) (hdf : d.params.defaults = [])
    (hY : ∀ (w : World) (h : Heap), YP w h → (K w.params).In h)
    (F : ∀ (w : World) (mg : Str → Option Value) (fa : Addr) (h : Heap), (K w.params).In h → h.Ns mainGlobals mg → mg d.name = some (.ref fa) →
      ∀ (base : Heap) (H : Hp) (s : Shared) (a : Addr) (ns : List Int), ns.length ≤ n → (K w.params).In base → base.Ns mainGlobals mg →
        SqL (K w.params) H a (ns.map V.int) → Env0 l.prog w (K w.params) mg base callerA [] s H →
        codeAny (model l.prog w) callerA (.call (.ref fa) ⟨[.ref a], []⟩) (CR CX0 [] l.prog w H s (fun v _ => v = .bl true) fun _ _ _ => False) s) :
    PySem.W.WalkO q loose XP YP l.row.toRowW d [] (fun f vs => PySem.call f vs) := by
  refine Att.attach_call hn hdf fun w s₀ s₁ mg mb fa o pm cd doc a vs ns G Y ho hd hcd hmg hobj hints hlen hg => ?_
  have KX := hY w _ Y
  refine law_at KX G.T.g G.T.b G.T.builtins G.T.nolimit hg hobj hints (Nat.le_trans hlen hn2) fun base H h1 h2 h3 h4 => ?_
  exact F w mg fa _ KX G.T.g hmg base H s₁ a ns hlen h1 h2 h3 h4
end Gs

namespace Gs
open PySem PySem.Spec PyProof.Rows L2
def topS (i : Nat) : Stmt := PySem.Challenge.pw_glassladder_k02_shares_reckoned.main.body.getD i (.Pass ⟨0, 0, 0, 0⟩)
abbrev sDiv : Stmt := topS 5
abbrev sRed : Stmt := topS 6
abbrev sPlus : Stmt := topS 7
abbrev sMinus : Stmt := topS 8
abbrev sTimes : Stmt := topS 9
abbrev sOver : Stmt := topS 10
abbrev sLess : Stmt := topS 11
abbrev sTotal : Stmt := topS 12
theorem scDiv : FnScope ["one", "other"] ["one", "other"] (defScope sDiv) := ⟨rfl, rfl, rfl, by decide +kernel, rfl, by decide +kernel, by decide +kernel⟩
theorem scRed : FnScope ["top", "bottom", "by"] ["top", "bottom"] (defScope sRed) := ⟨rfl, rfl, rfl, by decide +kernel, rfl, by decide +kernel, by decide +kernel⟩
theorem scPlus : FnScope ["one", "other"] ["one", "other"] (defScope sPlus) := ⟨rfl, rfl, rfl, by decide +kernel, rfl, by decide +kernel, by decide +kernel⟩
theorem scMinus : FnScope ["one", "other"] ["one", "other"] (defScope sMinus) := ⟨rfl, rfl, rfl, by decide +kernel, rfl, by decide +kernel, by decide +kernel⟩
theorem scTimes : FnScope ["one", "other"] ["one", "other"] (defScope sTimes) := ⟨rfl, rfl, rfl, by decide +kernel, rfl, by decide +kernel, by decide +kernel⟩
theorem scOver : FnScope ["one", "other"] ["one", "other"] (defScope sOver) := ⟨rfl, rfl, rfl, by decide +kernel, rfl, by decide +kernel, by decide +kernel⟩
theorem scLess : FnScope ["one", "other"] ["one", "other"] (defScope sLess) := ⟨rfl, rfl, rfl, by decide +kernel, rfl, by decide +kernel, by decide +kernel⟩
theorem scTotal : FnScope ["some", "start", "come_to", "one"] ["some", "start"] (defScope sTotal) := ⟨rfl, rfl, rfl, by decide +kernel, rfl, by decide +kernel, by decide +kernel⟩
/-! ### shares in the heap -/
abbrev vp (x : Int × Int) : List V := [.int x.1, .int x.2]
def TP (K : PySem.W.Frag) (H : Hp) (p : Addr) (x : Int × Int) : Prop := SqT K H p (vp x)
theorem same_tup {K : PySem.W.Frag} {H H' : Hp} {a : Addr} {xs : List V} (e : Same H H') (h : SqT K H a xs) : SqT K H' a xs := by
  rcases h with (h | ⟨o, h⟩) | h
  · exact .inl (.inl (e _ _ h))
  · exact .inl (.inr ⟨o, e _ _ h⟩)
  · exact .inr h
theorem same_new {H : Hp} {p : Addr} {o : HO} (h : H p = none) : Same H (upd H p o) := by
  intro b x e
  rw [upd_ne (ne_of_none e h)]
  exact e
theorem log_of {k : Int} {n : Nat} (h0 : 0 < n) (hn : n ≤ 9000) (h : k.natAbs < 2 ^ n) : k.natAbs.log2 < 9000 :=
  Nat.lt_of_lt_of_le (PySem.Flt.log2_lt_of h0 h) hn
theorem at0 {x : Int × Int} : atI (vp x) 0 = some (.int x.1) := atI_nat (j := 0) rfl
theorem at1 {x : Int × Int} : atI (vp x) 1 = some (.int x.2) := atI_nat (j := 1) rfl
/-! ### promises -/
def spDiv : Sp := fun vs H Q _ => ∃ a b : Int, vs = [.int a, .int b] ∧ Q (.int (gI a b)) H
def spRed : Sp := fun vs H Q _ => ∃ t b : Int, vs = [.int t, .int b] ∧ b ≠ 0 ∧ b.natAbs < 2 ^ 8000 ∧
  ∀ p, H p = none → Q (.ref p) (upd H p (.tup (vp (lw t b))))
/-- two shares in, a share out -/
def spTwo (K : PySem.W.Frag) (g : Int × Int → Int × Int → Int × Int) : Sp := fun vs H Q _ => ∃ (p q : Addr) (x y : Int × Int), vs = [.ref p, .ref q] ∧
  TP K H p x ∧ TP K H q y ∧ Sh x ∧ Sh y ∧ Bd 1000 x ∧ Bd 1000 y ∧ ∀ H' r, Same H H' → H r = none → H' r = some (.tup (vp (g x y))) → Q (.ref r) H'
def ov (x y : Int × Int) : Int × Int := lw (x.1 * y.2) (x.2 * y.1)
def spOver (K : PySem.W.Frag) (C : Addr) : Sp := fun vs H Q E => ∃ (p q : Addr) (x y : Int × Int), vs = [.ref p, .ref q] ∧
  TP K H p x ∧ TP K H q y ∧ Sh x ∧ Sh y ∧ Bd 1000 x ∧ Bd 1000 y ∧ (y.1 = 0 → E (.ref C) none H) ∧
  (y.1 ≠ 0 → ∀ H' r, Same H H' → H r = none → H' r = some (.tup (vp (ov x y))) → Q (.ref r) H')
def spLess (K : PySem.W.Frag) : Sp := fun vs H Q _ => ∃ (p q : Addr) (x y : Int × Int), vs = [.ref p, .ref q] ∧
  TP K H p x ∧ TP K H q y ∧ Bd 1000 x ∧ Bd 1000 y ∧ Q (.bl (decide (x.1 * y.2 < y.1 * x.2))) H
def spTotal (K : PySem.W.Frag) : Sp := fun vs H Q _ => ∃ (a s : Addr) (zs : List (Addr × (Int × Int))) (x0 : Int × Int), vs = [.ref a, .ref s] ∧
  SqL K H a (zs.map fun z => V.ref z.1) ∧ zs.length ≤ 4 ∧ (∀ z ∈ zs, TP K H z.1 z.2 ∧ Sh z.2 ∧ Bd 70 z.2) ∧ TP K H s x0 ∧ Sh x0 ∧ Bd 70 x0 ∧
  ∀ H' r, Same H H' → TP K H' r (sumS x0 (zs.map (·.2))) → Q (.ref r) H'
section
variable {P : Program} {w : World} {K : PySem.W.Frag} {mg : Str → Option Value} {base : Heap} {f fD fR fP : Addr} {fd fdD fdR fdP : FuncData} {k : Nat}
theorem ok_div (F : Fun K "divisor" "divisor" sDiv f fd) (ma : mg "abs" = none) : FnOk P w K mg base CX0 (k + 1) f fd ["one", "other"] spDiv := by
  refine F.ok scDiv (fun vs H Q E h => ?_) (fun cdv A outer s H vs Q E hr h => ?_)
  · obtain ⟨a, b, rfl, _⟩ := h
    rfl
  · obtain ⟨a, b, rfl, q⟩ := h
    refine ⟨_, pss_cons (ps_set (i := 0) scDiv.nd rfl (.inl rfl) (pe_callB call_abs (by rfl) ma (by decide +kernel) (pa_cons (pv 0) pa_nil)))
      (pss_cons (ps_set (i := 1) scDiv.nd rfl (.inl rfl) (pe_callB call_abs (by rfl) ma (by decide +kernel) (pa_cons (pv 1) pa_nil)))
      (pss_cons (ps_while PassesOwn.never (pt_truth (pv 1) (by intro _; rfl))
        (pss_one (ps_par (i := 0) (j := 1) (by rfl) scDiv.nd rfl rfl (by decide) rfl rfl (pa_cons (pv 1) (pa_cons (pe_op op_modN (pv 0) (pv 1)) pa_nil)) (by rfl))))
      (pss_one (ps_ret (pv 0))))), ?_⟩
    refine ⟨_, rfl, a, rfl, _, rfl, b, rfl, ?_⟩
    refine ⟨fun c σ H' => ∃ m n : Int, σ = [some (.int m), some (.int n)] ∧ H' = H ∧ 0 ≤ m ∧ 0 ≤ n ∧ gI m n = gI a b ∧ c = n.toNat,
      ⟨_, _, _, rfl, rfl, by split <;> omega, by split <;> omega, gI_abs, rfl⟩, fun c σ H' hp => ?_⟩
    obtain ⟨m, n, rfl, rfl, hm, hn, hg, rfl⟩ := hp
    refine ⟨_, rfl, (n != 0), rfl, ite2 (fun e => ?_) (fun e => ?_)⟩
    · have hn0 : n ≠ 0 := by simpa using e
      have e3 : m.fmod n = m % n := Int.fmod_eq_emod_of_nonneg _ hn
      have h1 := Int.emod_nonneg m hn0
      have h2 := Int.emod_lt_of_pos m (show 0 < n by omega)
      refine ⟨fun σ' H'' => ∃ m n' : Int, σ' = [some (.int m), some (.int n')] ∧ H'' = H' ∧ 0 ≤ m ∧ 0 ≤ n' ∧ gI m n' = gI a b ∧ n'.toNat < n.toNat, fun σ' H'' hN => ?_, ?_⟩
      · obtain ⟨m', n', e1, e2, p1, p2, p3, p4⟩ := hN
        exact ⟨_, p4, m', n', e1, e2, p1, p2, p3, rfl⟩
      · refine ⟨_, rfl, _, rfl, _, rfl, m, n, rfl, rfl, hn0, _, _, rfl, n, m.fmod n, rfl, rfl, hn, ?_, ?_, ?_⟩
        · rw [e3]
          exact h1
        · rw [← hg]
          unfold gI
          rw [gcd_turn hm (by omega)]
        · rw [e3]
          omega
    · have hn0 : n = 0 := by simpa using e
      subst hn0
      refine ⟨_, rfl, ?_⟩
      have e2 : gI m 0 = m := by
        unfold gI
        rw [Int.gcd_zero]
        omega
      rw [e2] at hg
      rw [hg]
      exact q
theorem ok_red (F : Fun K "reduced" "reduced" sRed f fd) (FD : Fun K "divisor" "divisor" sDiv fD fdD) (bD : Binds K fdD ["one", "other"] []) (gD : mg "divisor" = some (.ref fD)) (ma : mg "abs" = none) :
    FnOk P w K mg base CX0 2 f fd ["top", "bottom"] spRed := by
  have GD : FnOk P w K mg base CX0 1 fD fdD ["one", "other"] spDiv := ok_div FD ma
  refine F.ok scRed (fun vs H Q E h => ?_) (fun cdv A outer s H vs Q E hr h => ?_)
  · obtain ⟨a, b, rfl, _⟩ := h
    rfl
  · obtain ⟨t, b, rfl, hb, hz, q⟩ := h
    refine ⟨_, pss_cons (ps_if (pt_cmpR op_eq (pv 1) pe_int (nomark _)) (pss_one (ps_ret (pe_tup (pa_cons (pv 0) (pa_cons pe_int pa_nil))))) pss_nil)
      (pss_cons (ps_set (i := 2) scRed.nd rfl (.inl rfl) (pe_call GD hr (by rfl) gD FD.kp bD .nil pass0 (pa_cons (pv 0) (pa_cons (pv 1) pa_nil))))
      (pss_cons (ps_if (pt_cmpR op_lt (pv 1) pe_int (nomark _)) (pss_one (ps_set (i := 2) scRed.nd rfl (.inl rfl) (pe_un un_neg (pv 2)))) pss_nil)
      (pss_one (ps_ret (pe_tup (pa_cons (pe_op op_fdivZ (pv 0) (pv 2)) (pa_cons (pe_op op_fdivZ (pv 1) (pv 2)) pa_nil))))))), ?_⟩
    refine ⟨_, rfl, rfl, _, rfl, ite2 (fun e => ?_) (fun e => ?_)⟩
    · have e1 : b = 1 := V.int.inj (of_decide_eq_true e)
      subst e1
      refine ⟨_, rfl, by show 2 ≤ sizeLine; decide, fun p hp => ?_⟩
      have z := q p hp
      rw [lw_1] at z
      exact z
    · refine ⟨_, rfl, _, rfl, t, b, rfl, ?_⟩
      obtain ⟨g0, gz⟩ := gI_bd (a := t) hb hz
      have lg := log_of (by decide) (by decide) gz
      refine ⟨_, rfl, b, 0, rfl, rfl, _, rfl, ite2 (fun e2 => ?_) (fun e2 => ?_)⟩
      · have hn : b < 0 := of_decide_eq_true e2
        refine ⟨_, rfl, gI t b, rfl, ?_⟩
        refine ⟨_, rfl, _, rfl, t, -gI t b, rfl, rfl, ⟨by omega, by rw [Int.natAbs_neg]; exact lg⟩, _, rfl, _, rfl, b, -gI t b, rfl, rfl, ⟨by omega, by rw [Int.natAbs_neg]; exact lg⟩, by show 2 ≤ sizeLine; decide, fun p hp => ?_⟩
        have z := q p hp
        unfold lw at z
        rw [if_pos hn] at z
        exact z
      · have hn : ¬ b < 0 := fun z => e2 (decide_eq_true z)
        refine ⟨_, rfl, _, rfl, t, gI t b, rfl, rfl, ⟨by omega, lg⟩, _, rfl, _, rfl, b, gI t b, rfl, rfl, ⟨by omega, lg⟩, by show 2 ≤ sizeLine; decide, fun p hp => ?_⟩
        have z := q p hp
        unfold lw at z
        rw [if_neg hn] at z
        exact z
end
end Gs

namespace Gs
open PySem PySem.Spec PyProof.Rows L2
theorem mulOk {a b : Int} (h1 : a.natAbs < 2 ^ 1000) (h2 : b.natAbs < 2 ^ 1000) : CMulW a b := wide_mul h1 h2 (by decide) (by decide) (by decide)
theorem bd2 {a b : Int} (h1 : a.natAbs < 2 ^ 1000) (h2 : b.natAbs < 2 ^ 1000) : (a * b).natAbs < 2 ^ 8000 := bd_mono (mul_bd h1 h2) (by decide)
section
variable {P : Program} {w : World} {K : PySem.W.Frag} {mg : Str → Option Value} {base : Heap} {f fR fP : Addr} {fd fdR fdP : FuncData} {k : Nat}
theorem ok_plus (F : Fun K "plus" "plus" sPlus f fd) (GR : FnOk P w K mg base CX0 2 fR fdR ["top", "bottom"] spRed) (kR : PySem.W.keepIn K (.ref fR) = true) (bR : Binds K fdR ["top", "bottom"] []) (gR : mg "reduced" = some (.ref fR)) :
    FnOk P w K mg base CX0 3 f fd ["one", "other"] (spTwo K pl) := by
  refine F.ok scPlus (fun vs H Q E h => ?_) (fun cdv A outer s H vs Q E hr h => ?_)
  · obtain ⟨p, q, x, y, rfl, _⟩ := h
    rfl
  · obtain ⟨p, q, x, y, rfl, hp, hq, sx, sy, bx, by_, qq⟩ := h
    refine ⟨_, pss_cons (ps_if (pt_cmpR op_eq (pe_ix ix_tup (pv 0) pe_int (fun _ _ => rfl)) (pe_ix ix_tup (pv 1) pe_int (fun _ _ => rfl)) (nomark _))
        (pss_one (ps_ret (pe_call GR hr (by rfl) gR kR bR .nil pass0 (pa_cons (pe_op op_add (pe_ix ix_tup (pv 0) pe_int (fun _ _ => rfl)) (pe_ix ix_tup (pv 1) pe_int (fun _ _ => rfl))) (pa_cons (pe_ix ix_tup (pv 0) pe_int (fun _ _ => rfl)) pa_nil))))) pss_nil)
      (pss_one (ps_ret (pe_call GR hr (by rfl) gR kR bR .nil pass0
        (pa_cons (pe_op op_add (pe_op op_mulW (pe_ix ix_tup (pv 0) pe_int (fun _ _ => rfl)) (pe_ix ix_tup (pv 1) pe_int (fun _ _ => rfl))) (pe_op op_mulW (pe_ix ix_tup (pv 1) pe_int (fun _ _ => rfl)) (pe_ix ix_tup (pv 0) pe_int (fun _ _ => rfl))))
        (pa_cons (pe_op op_mulW (pe_ix ix_tup (pv 0) pe_int (fun _ _ => rfl)) (pe_ix ix_tup (pv 1) pe_int (fun _ _ => rfl))) pa_nil))))), ?_⟩
    refine ⟨_, rfl, p, _, 1, _, rfl, rfl, hp, at1, _, rfl, q, _, 1, _, rfl, rfl, hq, at1, rfl, _, rfl, ite2 (fun e => ?_) (fun e => ?_)⟩
    · have e1 : x.2 = y.2 := V.int.inj (of_decide_eq_true e)
      refine ⟨_, rfl, p, _, 0, _, rfl, rfl, hp, at0, _, rfl, q, _, 0, _, rfl, rfl, hq, at0, _, _, rfl, rfl, _, rfl, p, _, 1, _, rfl, rfl, hp, at1, _, _, rfl, sx.ne, bd_mono bx.2 (by decide), fun r hn => ?_⟩
      rw [pl_same sx sy e1]
      exact qq _ r (same_new hn) hn upd_same
    · refine ⟨_, rfl, p, _, 0, _, rfl, rfl, hp, at0, _, rfl, q, _, 1, _, rfl, rfl, hq, at1, _, _, rfl, rfl, mulOk bx.1 by_.2,
        _, rfl, q, _, 0, _, rfl, rfl, hq, at0, _, rfl, p, _, 1, _, rfl, rfl, hp, at1, _, _, rfl, rfl, mulOk by_.1 bx.2, _, _, rfl, rfl,
        _, rfl, p, _, 1, _, rfl, rfl, hp, at1, _, rfl, q, _, 1, _, rfl, rfl, hq, at1, _, _, rfl, rfl, mulOk bx.2 by_.2,
        _, _, rfl, mul_ne sx.ne sy.ne, bd2 bx.2 by_.2, fun r hn => ?_⟩
      exact qq _ r (same_new hn) hn upd_same
theorem ok_times (F : Fun K "times" "times" sTimes f fd) (GR : FnOk P w K mg base CX0 2 fR fdR ["top", "bottom"] spRed) (kR : PySem.W.keepIn K (.ref fR) = true) (bR : Binds K fdR ["top", "bottom"] []) (gR : mg "reduced" = some (.ref fR)) :
    FnOk P w K mg base CX0 3 f fd ["one", "other"] (spTwo K tm) := by
  refine F.ok scTimes (fun vs H Q E h => ?_) (fun cdv A outer s H vs Q E hr h => ?_)
  · obtain ⟨p, q, x, y, rfl, _⟩ := h
    rfl
  · obtain ⟨p, q, x, y, rfl, hp, hq, sx, sy, bx, by_, qq⟩ := h
    refine ⟨_, pss_one (ps_ret (pe_call GR hr (by rfl) gR kR bR .nil pass0
        (pa_cons (pe_op op_mulW (pe_ix ix_tup (pv 0) pe_int (fun _ _ => rfl)) (pe_ix ix_tup (pv 1) pe_int (fun _ _ => rfl)))
        (pa_cons (pe_op op_mulW (pe_ix ix_tup (pv 0) pe_int (fun _ _ => rfl)) (pe_ix ix_tup (pv 1) pe_int (fun _ _ => rfl))) pa_nil)))), ?_⟩
    refine ⟨_, rfl, p, _, 0, _, rfl, rfl, hp, at0, _, rfl, q, _, 0, _, rfl, rfl, hq, at0, _, _, rfl, rfl, mulOk bx.1 by_.1,
        _, rfl, p, _, 1, _, rfl, rfl, hp, at1, _, rfl, q, _, 1, _, rfl, rfl, hq, at1, _, _, rfl, rfl, mulOk bx.2 by_.2,
        _, _, rfl, mul_ne sx.ne sy.ne, bd2 bx.2 by_.2, fun r hn => ?_⟩
    exact qq _ r (same_new hn) hn upd_same
theorem ok_minus (F : Fun K "minus" "minus" sMinus f fd) (GP : FnOk P w K mg base CX0 3 fP fdP ["one", "other"] (spTwo K pl)) (kP : PySem.W.keepIn K (.ref fP) = true) (bP : Binds K fdP ["one", "other"] []) (gP : mg "plus" = some (.ref fP)) :
    FnOk P w K mg base CX0 4 f fd ["one", "other"] (spTwo K fun x y => pl x (ng y)) := by
  refine F.ok scMinus (fun vs H Q E h => ?_) (fun cdv A outer s H vs Q E hr h => ?_)
  · obtain ⟨p, q, x, y, rfl, _⟩ := h
    rfl
  · obtain ⟨p, q, x, y, rfl, hp, hq, sx, sy, bx, by_, qq⟩ := h
    refine ⟨_, pss_one (ps_ret (pe_call GP hr (by rfl) gP kP bP .nil pass0
        (pa_cons (pv 0) (pa_cons (pe_tup (pa_cons (pe_un un_neg (pe_ix ix_tup (pv 1) pe_int (fun _ _ => rfl))) (pa_cons (pe_ix ix_tup (pv 1) pe_int (fun _ _ => rfl)) pa_nil))) pa_nil)))), ?_⟩
    refine ⟨_, rfl, _, rfl, q, _, 0, _, rfl, rfl, hq, at0, _, rfl, _, rfl, q, _, 1, _, rfl, rfl, hq, at1, by show 2 ≤ sizeLine; decide, fun t ht => ?_⟩
    have s1 : Same H (upd H t (.tup (vp (ng y)))) := same_new ht
    refine ⟨p, t, x, ng y, rfl, same_tup s1 hp, SqT.of upd_same, sx, sy.ng, bx, ⟨by show (-y.1).natAbs < _; rw [Int.natAbs_neg]; exact by_.1, by_.2⟩, fun H' r sm hn e => ?_⟩
    exact qq H' r (s1.trans sm) (s1.free hn) e
theorem ok_less (F : Fun K "less" "less" sLess f fd) : FnOk P w K mg base CX0 (k + 1) f fd ["one", "other"] (spLess K) := by
  refine F.ok scLess (fun vs H Q E h => ?_) (fun cdv A outer s H vs Q E hr h => ?_)
  · obtain ⟨p, q, x, y, rfl, _⟩ := h
    rfl
  · obtain ⟨p, q, x, y, rfl, hp, hq, bx, by_, qq⟩ := h
    refine ⟨_, pss_one (ps_ret (pe_cmpR op_lt (pe_op op_mulW (pe_ix ix_tup (pv 0) pe_int (fun _ _ => rfl)) (pe_ix ix_tup (pv 1) pe_int (fun _ _ => rfl)))
       (pe_op op_mulW (pe_ix ix_tup (pv 1) pe_int (fun _ _ => rfl)) (pe_ix ix_tup (pv 0) pe_int (fun _ _ => rfl))) (nomark _))), ?_⟩
    refine ⟨_, rfl, p, _, 0, _, rfl, rfl, hp, at0, _, rfl, q, _, 1, _, rfl, rfl, hq, at1, _, _, rfl, rfl, mulOk bx.1 by_.2,
        _, rfl, q, _, 0, _, rfl, rfl, hq, at0, _, rfl, p, _, 1, _, rfl, rfl, hp, at1, _, _, rfl, rfl, mulOk by_.1 bx.2, _, _, rfl, rfl, ?_⟩
    exact qq
theorem ok_over {C : Addr} (F : Fun K "over" "over" sOver f fd) (GR : FnOk P w K mg base CX0 2 fR fdR ["top", "bottom"] spRed) (kR : PySem.W.keepIn K (.ref fR) = true) (bR : Binds K fdR ["top", "bottom"] []) (gR : mg "reduced" = some (.ref fR))
    (gC : mg "ByNought" = some (.ref C)) (xC : PySem.W.excIn K C [.type "ZeroDivisionError", .type "ArithmeticError", .type "Exception", .type "BaseException", .type "object"] "ZeroDivisionError.__new__" = true)
    (kC : PySem.W.keepIn K (.ref C) = true) (bC : PySem.W.subIn K (.ref C) (.type "BaseException") = some true) (tC : PySem.W.typeIn K (.ref C) = some (.type "type")) :
    FnOk P w K mg base (L2.CX P w) 3 f fd ["one", "other"] (spOver K C) := by
  refine F.okX scOver (fun vs H Q E h => ?_) (fun cdv A outer s H vs Q E hr h => ?_)
  · obtain ⟨p, q, x, y, rfl, _⟩ := h
    rfl
  · obtain ⟨p, q, x, y, rfl, hp, hq, sx, sy, bx, by_, qe, qq⟩ := h
    refine ⟨_, pss_cons (ps_if (pt_cmpR op_eq (pe_ix ix_tup (pv 1) pe_int (fun _ _ => rfl)) pe_int (nomark _))
        (pss_one (ps_raise rfl (takes_of rfl rfl rfl rfl) (pmk_own PySem.F.excBase_ZeroDivisionError xC gC kC (raises_own bC tC) rfl))) pss_nil)
      (pss_one (ps_ret (pe_call GR hr (by rfl) gR kR bR .nil pass0
        (pa_cons (pe_op op_mulW (pe_ix ix_tup (pv 0) pe_int (fun _ _ => rfl)) (pe_ix ix_tup (pv 1) pe_int (fun _ _ => rfl)))
        (pa_cons (pe_op op_mulW (pe_ix ix_tup (pv 0) pe_int (fun _ _ => rfl)) (pe_ix ix_tup (pv 1) pe_int (fun _ _ => rfl))) pa_nil))))), ?_⟩
    refine ⟨_, rfl, q, _, 0, _, rfl, rfl, hq, at0, rfl, _, rfl, ite2 (fun e => ?_) (fun e => ?_)⟩
    · exact qe (V.int.inj (of_decide_eq_true e))
    · have n0 : y.1 ≠ 0 := fun z => e (decide_eq_true (by rw [z]))
      refine ⟨_, rfl, p, _, 0, _, rfl, rfl, hp, at0, _, rfl, q, _, 1, _, rfl, rfl, hq, at1, _, _, rfl, rfl, mulOk bx.1 by_.2,
        _, rfl, p, _, 1, _, rfl, rfl, hp, at1, _, rfl, q, _, 0, _, rfl, rfl, hq, at0, _, _, rfl, rfl, mulOk bx.2 by_.1,
        _, _, rfl, mul_ne sx.ne n0, bd2 bx.2 by_.1, fun r hn => ?_⟩
      exact qq n0 _ r (same_new hn) hn upd_same
end
end Gs

namespace Gs
open PySem PySem.Spec PyProof.Rows L2
abbrev FunT (K : PySem.W.Frag) (T f : Addr) (fd : FuncData) : Prop := FunD K "total" "total" (defArgs sTotal) (defBody sTotal) (defScope sTotal) [] [("start", V.ref T)] f fd
section
variable {P : Program} {w : World} {K : PySem.W.Frag} {mg : Str → Option Value} {base : Heap} {f fP T : Addr} {fd fdP : FuncData} {k : Nat}
theorem sum_take1 {l : List (Int × Int)} {a x : Int × Int} {i : Nat} (h : l[i]? = some x) : sumS a (l.take (i + 1)) = pl (sumS a (l.take i)) x := by
  unfold sumS
  rw [List.take_add_one, h, List.foldl_append]
  rfl
theorem ok_total (F : FunT K T f fd) (GP : FnOk P w K mg base CX0 3 fP fdP ["one", "other"] (spTwo K pl)) (kP : PySem.W.keepIn K (.ref fP) = true) (bP : Binds K fdP ["one", "other"] []) (gP : mg "plus" = some (.ref fP)) :
    FnOk P w K mg base CX0 4 f fd ["some", "start"] (spTotal K) := by
  refine F.ok scTotal (fun vs H Q E h => ?_) (fun cdv A outer s H vs Q E hr h => ?_)
  · obtain ⟨a, s, zs, x0, rfl, _⟩ := h
    rfl
  · obtain ⟨a, s0, zs, x0, rfl, hS, hlen, hz, h0, sh0, bd0, qq⟩ := h
    have G : ∃ t, PSs (cxOf CX0 P w K mg base ["some", "start", "come_to", "one"] "total" (defScope sTotal) f cdv A outer s H E).nox (defBody sTotal) t ∧ t { nx := fun _ H' => Q .non H', rt := Q } (start ["some", "start", "come_to", "one"] [.ref a, .ref s0]) H := by
      refine ⟨_, pss_cons (ps_set (i := 2) scTotal.nd rfl (.inl rfl) (pv 1))
        (pss_cons (ps_for PassesOwn.never rfl (pi_list (pv 0)) (pg_name (i := 3) scTotal.nd rfl (Or.inl rfl))
          (pss_one (ps_set (i := 2) scTotal.nd rfl (.inl rfl) (pe_call GP hr (by rfl) gP kP bP .nil pass0 (pa_cons (pv 2) (pa_cons (pv 3) pa_nil))))))
        (pss_one (ps_ret (pv 2)))), ?_⟩
      refine ⟨_, rfl, _, rfl, a, rfl, ⟨_, hS⟩, for_list (K := K) (xs := zs.map fun z => V.ref z.1)
        (fun i σ H' => ∃ r y, σ = [some (.ref a), some (.ref s0), some (.ref r), y] ∧ Same H H' ∧ TP K H' r (sumS x0 ((zs.map (·.2)).take i)))
        ⟨s0, none, rfl, Same.refl H, h0⟩ (fun i σ H' _ hp => ?_) (fun i x σ H' hx hp => ?_) (fun σ H' hp => ?_)⟩
      · obtain ⟨r, y, _, sm, _⟩ := hp
        exact sm.seq hS
      · obtain ⟨r, y, rfl, sm, tr⟩ := hp
        rw [List.getElem?_map] at hx
        obtain ⟨z, ez, rfl⟩ := Option.map_eq_some_iff.mp hx
        obtain ⟨z1, z2, z3⟩ := hz z (List.mem_of_getElem? ez)
        have ex : (zs.map (·.2))[i]? = some z.2 := by
          rw [List.getElem?_map, ez]
          rfl
        have hall : ∀ x ∈ (zs.map (·.2)).take i, Sh x ∧ Bd 70 x := fun x hx => by
          obtain ⟨z', hz', rfl⟩ := List.mem_map.mp (List.mem_of_mem_take hx)
          exact (hz z' hz').2
        have hsh := sum_sh _ x0 sh0 fun x hx => (hall x hx).1
        have hbd := sum_bd _ x0 70 sh0 bd0 hall
        have hli : ((zs.map (·.2)).take i).length ≤ 4 := by
          rw [List.length_take, List.length_map]
          omega
        refine ⟨_, rfl, _, rfl, r, z.1, _, z.2, rfl, tr, same_tup sm z1, hsh, z2, hbd.mono (by omega), z3.mono (by omega), fun H2 r2 sm2 _ e2 => ?_⟩
        refine ⟨r2, _, rfl, sm.trans sm2, ?_⟩
        rw [sum_take1 ex]
        exact SqT.of e2
      · obtain ⟨r, y, rfl, sm, tr⟩ := hp
        refine ⟨_, rfl, qq H' r sm ?_⟩
        have e : (zs.map (·.2)).take (zs.map fun z => V.ref z.1).length = zs.map (·.2) := List.take_of_length_le (by rw [List.length_map, List.length_map]; exact Nat.le_refl _)
        rw [e] at tr
        exact tr
    obtain ⟨t, h1, h2⟩ := G
    exact ⟨t, h1.nox, h2⟩
theorem kb_total (F : FunT K T f fd) : KBn K fd ["some", "start"] 1 ["start"] (fun us ws => us ++ ws) (fun vs zs => vs ++ zs) := by
  obtain ⟨oc, od, dV, kV, doc, pm, an, cdv, ct, osl, rfl, lk, hcd, hD, hK⟩ := F.ex
  rcases hD with ⟨_, rfl⟩ | ⟨e, _⟩
  · refine ⟨fun s us ws X l1 l2 => ?_, fun r1 r2 => r1.append r2⟩
    match us, l1, ws, l2 with
    | [u], _, [v], _ => exact .of_eq rfl
  · exact absurd rfl e
theorem b_total (F : FunT K T f fd) : ∃ ds, Vals [V.ref T] ds ∧ Binds K fd ["some", "start"] ds := by
  refine FunD.binds0 F 1 (by simp) rfl (fun D doc pm an cdv ct us ks h1 h2 => ?_)
  match us, h1, ks, h2 with
  | [u], _, [v], _ => exact ⟨_, _, _, _, _, _, rfl, rfl, rfl⟩
end
end Gs

namespace Gs
open PySem PySem.Spec PyProof.Rows L2
abbrev sLeft : Stmt := topS 14
abbrev sDigit : Stmt := topS 15
abbrev sLow : Stmt := topS 16
abbrev sLPlus : Stmt := topS 17
abbrev sLTimes : Stmt := topS 18
abbrev sShare : Stmt := topS 19
abbrev sDrawn : Stmt := topS 20
theorem scLeft : FnScope ["_law_cell", "_law_left_here", "_law_drawn_here", "_law_turn"] ["_law_cell"] (defScope sLeft) := ⟨rfl, rfl, rfl, by decide +kernel, rfl, by decide +kernel, by decide +kernel⟩
theorem scDigit : FnScope ["_law_left_here", "_law_upto", "_law_found"] ["_law_left_here", "_law_upto"] (defScope sDigit) := ⟨rfl, rfl, rfl, by decide +kernel, rfl, by decide +kernel, by decide +kernel⟩
theorem scLow : FnScope ["_law_top", "_law_bottom", "_law_one", "_law_other"] ["_law_top", "_law_bottom"] (defScope sLow) := ⟨rfl, rfl, rfl, by decide +kernel, rfl, by decide +kernel, by decide +kernel⟩
theorem scLPlus : FnScope ["_law_one", "_law_other"] ["_law_one", "_law_other"] (defScope sLPlus) := ⟨rfl, rfl, rfl, by decide +kernel, rfl, by decide +kernel, by decide +kernel⟩
theorem scLTimes : FnScope ["_law_one", "_law_other"] ["_law_one", "_law_other"] (defScope sLTimes) := ⟨rfl, rfl, rfl, by decide +kernel, rfl, by decide +kernel, by decide +kernel⟩
theorem scShare : FnScope ["_law_left_here"] ["_law_left_here"] (defScope sShare) := ⟨rfl, rfl, rfl, by decide +kernel, rfl, by decide +kernel, by decide +kernel⟩
theorem scDrawn : FnScope ["_law_left_here"] ["_law_left_here"] (defScope sDrawn) := ⟨rfl, rfl, rfl, by decide +kernel, rfl, by decide +kernel, by decide +kernel⟩
def spLeft : Sp := fun vs H Q _ => ∃ c : Int, vs = [.int c] ∧ ∀ p n, H p = none → Q (.ref p) (upd H p (.lst [.int n]))
def spDigit : Sp := fun vs H Q _ => ∃ (p : Addr) (n u : Int), vs = [.ref p, .int u] ∧ H p = some (.lst [.int n]) ∧ 0 < u ∧ u.natAbs.log2 < 9000 ∧
  Q (.int (n % u)) (upd H p (.lst [.int (n / u)]))
def Keep (p : Addr) (H H' : Hp) : Prop := ∀ b o, b ≠ p → H b = some o → H' b = some o
theorem Keep.trans {p : Addr} {H H1 H2 : Hp} (a : Keep p H H1) (b : Keep p H1 H2) : Keep p H H2 := fun c o n h => b c o n (a c o n h)
theorem keep_upd {p : Addr} {H : Hp} {o : HO} : Keep p H (upd H p o) := fun b u n e => by
  rw [upd_ne n]
  exact e
theorem keep_same {p : Addr} {H H' : Hp} (s : Same H H') : Keep p H H' := fun b u _ e => s b u e
def spDraw : Sp := fun vs H Q _ => ∃ (p : Addr) (n : Int), vs = [.ref p] ∧ H p = some (.lst [.int n]) ∧
  ∀ H' r x n', Keep p H H' → H' p = some (.lst [.int n']) → H r = none → H' r = some (.tup (vp x)) → Sh x → Bd 70 x → Q (.ref r) H'
section
variable {P : Program} {w : World} {K : PySem.W.Frag} {mg : Str → Option Value} {base : Heap} {f fD fL fS : Addr} {fd fdD fdL fdS : FuncData} {k : Nat}
theorem ok_left (F : Fun K "_law_left" "_law_left" sLeft f fd) (ma : mg "abs" = none) (mr : mg "range" = none) : FnOk P w K mg base CX0 (k + 1) f fd ["_law_cell"] spLeft := by
  refine F.ok scLeft (fun vs H Q E h => ?_) (fun cdv A outer s H vs Q E hr h => ?_)
  · obtain ⟨a, rfl, _⟩ := h
    rfl
  · obtain ⟨c, rfl, q⟩ := h
    refine ⟨_, pss_cons (ps_set (i := 1) scLeft.nd rfl (.inl rfl) (pe_callB call_abs (by rfl) ma (by decide +kernel) (pa_cons (pv 0) pa_nil)))
      (pss_cons (ps_if (pt_cmpR op_lt (pv 1) (pe_op op_pow pe_int pe_int) (nomark _))
        (pss_cons (ps_set (i := 2) scLeft.nd rfl (.inl rfl) (pv 0))
        (pss_one (ps_for PassesOwn.never rfl (pi_range1 (by rfl) mr (pa_cons pe_int pa_nil)) (pg_name (i := 3) scLeft.nd rfl (Or.inl rfl))
          (pss_cons (ps_set (i := 2) scLeft.nd rfl (.inl rfl) (pe_op op_mod (pe_op op_mul (pe_op op_add (pe_op op_mod (pv 2) pe_int) pe_int) pe_int) pe_int))
          (pss_cons (ps_set (i := 2) scLeft.nd rfl (.inl rfl) (pe_op op_add (pe_op op_mod (pe_op op_mul (pv 2) pe_int) pe_int) (pv 3)))
          (pss_one (ps_set (i := 1) scLeft.nd rfl (.inl rfl) (pe_op op_add (pe_op op_mul (pv 1) pe_int) (pv 2)))))))))
        pss_nil)
      (pss_one (ps_ret (pe_lst (pa_cons (pv 1) pa_nil))))), ?_⟩
    refine ⟨_, rfl, c, rfl, _, rfl, 10, 18, rfl, rfl, ⟨by decide, by decide, by decide⟩, _, _, rfl, rfl, _, rfl, ite2 (fun _ => ?_) (fun _ => ?_)⟩
    · refine ⟨_, rfl, 60, rfl, by decide, by decide, for_range (n := 60) (fun i σ H' => ∃ (l d : Int) (y : Option V), σ = [some (.int c), some (.int l), some (.int d), y] ∧ H' = H) ⟨_, _, none, rfl, rfl⟩ (fun i σ H' _ hp => ?_) (fun σ H' hp => ?_)⟩
      · obtain ⟨l, d, y, rfl, rfl⟩ := hp
        refine ⟨_, rfl, _, _, rfl, rfl, by show (0 : Int) < 2147483629; decide, _, _, rfl, rfl, _, _, rfl, rfl, .inr ⟨by decide, by decide⟩, _, _, rfl, rfl, by show (0 : Int) < 2147483629; decide, ?_⟩
        refine ⟨_, rfl, _, _, rfl, rfl, .inr ⟨by decide, by decide⟩, _, _, rfl, rfl, by show (0 : Int) < 2147483647; decide, _, rfl, _, _, rfl, rfl, ?_⟩
        refine ⟨_, rfl, _, _, rfl, rfl, .inr ⟨by decide, by decide⟩, _, rfl, _, _, rfl, rfl, ?_⟩
        exact ⟨_, _, _, rfl, rfl⟩
      · obtain ⟨l, d, y, rfl, rfl⟩ := hp
        exact ⟨_, rfl, by show 1 ≤ sizeLine; decide, fun p hp => q p _ hp⟩
    · exact ⟨_, rfl, by show 1 ≤ sizeLine; decide, fun p hp => q p _ hp⟩
theorem ok_digit (F : Fun K "_law_digit" "_law_digit" sDigit f fd) : FnOk P w K mg base CX0 (k + 1) f fd ["_law_left_here", "_law_upto"] spDigit := by
  refine F.ok scDigit (fun vs H Q E h => ?_) (fun cdv A outer s H vs Q E hr h => ?_)
  · obtain ⟨p, n, u, rfl, _⟩ := h
    rfl
  · obtain ⟨p, n, u, rfl, hp, hu, hz, q⟩ := h
    refine ⟨_, pss_cons (ps_set (i := 2) scDigit.nd rfl (.inl rfl) (pe_op op_mod (pe_ix ix_list (pv 0) pe_int (fun _ _ => rfl)) (pv 1)))
      (pss_cons (ps_asg (pe_op op_fdivW (pe_ix ix_list (pv 0) pe_int (fun _ _ => rfl)) (pv 1)) (pg_sub (pv 0) pe_int set_list))
      (pss_one (ps_ret (pv 2)))), ?_⟩
    refine ⟨_, rfl, p, _, 0, _, rfl, rfl, SqL.of hp, atI_nat (j := 0) rfl, _, rfl, n, u, rfl, rfl, hu, ?_⟩
    refine ⟨_, rfl, p, _, 0, _, rfl, rfl, SqL.of hp, atI_nat (j := 0) rfl, _, rfl, n, u, rfl, rfl, ⟨hu, hz⟩, ?_⟩
    refine ⟨_, rfl, p, _, 0, 0, rfl, rfl, hp, rfl, ?_⟩
    exact ⟨_, rfl, q⟩
theorem ok_low (F : Fun K "_law_low" "_law_low" sLow f fd) (ma : mg "abs" = none) : FnOk P w K mg base CX0 (k + 1) f fd ["_law_top", "_law_bottom"] spRed := by
  refine F.ok scLow (fun vs H Q E h => ?_) (fun cdv A outer s H vs Q E hr h => ?_)
  · obtain ⟨a, b, rfl, _⟩ := h
    rfl
  · obtain ⟨t, b, rfl, hb, hz, q⟩ := h
    refine ⟨_, pss_cons (ps_par (i := 2) (j := 3) (by rfl) scLow.nd rfl rfl (by decide) rfl rfl (pa_cons (pe_callB call_abs (by rfl) ma (by decide +kernel) (pa_cons (pv 0) pa_nil)) (pa_cons (pe_callB call_abs (by rfl) ma (by decide +kernel) (pa_cons (pv 1) pa_nil)) pa_nil)) (by rfl))
      (pss_cons (ps_while PassesOwn.never (pt_cmpR op_gt (pv 3) pe_int (nomark _))
        (pss_one (ps_par (i := 2) (j := 3) (by rfl) scLow.nd rfl rfl (by decide) rfl rfl (pa_cons (pv 3) (pa_cons (pe_op op_modN (pv 2) (pv 3)) pa_nil)) (by rfl))))
      (pss_cons (ps_if (pt_cmpR op_lt (pv 1) pe_int (nomark _)) (pss_one (ps_set (i := 2) scLow.nd rfl (.inl rfl) (pe_op op_sub pe_int (pv 2)))) pss_nil)
      (pss_one (ps_ret (pe_tup (pa_cons (pe_op op_fdivZ (pv 0) (pv 2)) (pa_cons (pe_op op_fdivZ (pv 1) (pv 2)) pa_nil))))))), ?_⟩
    refine ⟨_, rfl, t, rfl, _, rfl, b, rfl, _, _, rfl, ?_⟩
    refine ⟨fun c σ H' => ∃ m n : Int, σ = [some (.int t), some (.int b), some (.int m), some (.int n)] ∧ H' = H ∧ 0 ≤ m ∧ 0 ≤ n ∧ gI m n = gI t b ∧ c = n.toNat,
      ⟨_, _, _, rfl, rfl, by split <;> omega, by split <;> omega, gI_abs, rfl⟩, fun c σ H' hp => ?_⟩
    obtain ⟨m, n, rfl, rfl, hm, hn, hg, rfl⟩ := hp
    refine ⟨_, rfl, n, 0, rfl, rfl, _, rfl, ite2 (fun e => ?_) (fun e => ?_)⟩
    · have hn0 : 0 < n := of_decide_eq_true e
      have e3 : m.fmod n = m % n := Int.fmod_eq_emod_of_nonneg _ hn
      have h1 := Int.emod_nonneg m (show n ≠ 0 by omega)
      have h2 := Int.emod_lt_of_pos m hn0
      refine ⟨fun σ' H'' => ∃ m n' : Int, σ' = [some (.int t), some (.int b), some (.int m), some (.int n')] ∧ H'' = H' ∧ 0 ≤ m ∧ 0 ≤ n' ∧ gI m n' = gI t b ∧ n'.toNat < n.toNat, fun σ' H'' hN => ?_, ?_⟩
      · obtain ⟨m', n', e1, e2, p1, p2, p3, p4⟩ := hN
        exact ⟨_, p4, m', n', e1, e2, p1, p2, p3, rfl⟩
      · refine ⟨_, rfl, _, rfl, _, rfl, m, n, rfl, rfl, by omega, _, _, rfl, n, m.fmod n, rfl, rfl, hn, ?_, ?_, ?_⟩
        · rw [e3]
          exact h1
        · rw [← hg]
          unfold gI
          rw [gcd_turn hm hn0]
        · rw [e3]
          omega
    · have hn0 : ¬ 0 < n := fun z => e (decide_eq_true z)
      have hn1 : n = 0 := by omega
      subst hn1
      have e2 : gI m 0 = m := by
        unfold gI
        rw [Int.gcd_zero]
        omega
      rw [e2] at hg
      subst hg
      obtain ⟨g0, gz⟩ := gI_bd (a := t) hb hz
      have lg := log_of (by decide) (by decide) gz
      refine ⟨_, rfl, b, 0, rfl, rfl, _, rfl, ite2 (fun e2 => ?_) (fun e2 => ?_)⟩
      · have hn : b < 0 := of_decide_eq_true e2
        refine ⟨_, rfl, 0, gI t b, rfl, rfl, ?_⟩
        refine ⟨_, rfl, _, rfl, t, 0 - gI t b, rfl, rfl, ⟨by omega, by rw [Int.zero_sub, Int.natAbs_neg]; exact lg⟩, _, rfl, _, rfl, b, 0 - gI t b, rfl, rfl, ⟨by omega, by rw [Int.zero_sub, Int.natAbs_neg]; exact lg⟩, by show 2 ≤ sizeLine; decide, fun p hp => ?_⟩
        have z := q p hp
        unfold lw at z
        rw [if_pos hn, ← Int.zero_sub] at z
        exact z
      · have hn : ¬ b < 0 := fun z => e2 (decide_eq_true z)
        refine ⟨_, rfl, _, rfl, t, gI t b, rfl, rfl, ⟨by omega, lg⟩, _, rfl, _, rfl, b, gI t b, rfl, rfl, ⟨by omega, lg⟩, by show 2 ≤ sizeLine; decide, fun p hp => ?_⟩
        have z := q p hp
        unfold lw at z
        rw [if_neg hn] at z
        exact z
theorem ok_lplus (F : Fun K "_law_plus" "_law_plus" sLPlus f fd) (GR : FnOk P w K mg base CX0 1 fL fdL ["_law_top", "_law_bottom"] spRed) (kR : PySem.W.keepIn K (.ref fL) = true) (bR : Binds K fdL ["_law_top", "_law_bottom"] []) (gR : mg "_law_low" = some (.ref fL)) :
    FnOk P w K mg base CX0 2 f fd ["_law_one", "_law_other"] (spTwo K pl) := by
  refine F.ok scLPlus (fun vs H Q E h => ?_) (fun cdv A outer s H vs Q E hr h => ?_)
  · obtain ⟨p, q, x, y, rfl, _⟩ := h
    rfl
  · obtain ⟨p, q, x, y, rfl, hp, hq, sx, sy, bx, by_, qq⟩ := h
    refine ⟨_, pss_one (ps_ret (pe_call GR hr (by rfl) gR kR bR .nil pass0
        (pa_cons (pe_op op_add (pe_op op_mulW (pe_ix ix_tup (pv 0) pe_int (fun _ _ => rfl)) (pe_ix ix_tup (pv 1) pe_int (fun _ _ => rfl))) (pe_op op_mulW (pe_ix ix_tup (pv 1) pe_int (fun _ _ => rfl)) (pe_ix ix_tup (pv 0) pe_int (fun _ _ => rfl))))
        (pa_cons (pe_op op_mulW (pe_ix ix_tup (pv 0) pe_int (fun _ _ => rfl)) (pe_ix ix_tup (pv 1) pe_int (fun _ _ => rfl))) pa_nil)))), ?_⟩
    refine ⟨_, rfl, p, _, 0, _, rfl, rfl, hp, at0, _, rfl, q, _, 1, _, rfl, rfl, hq, at1, _, _, rfl, rfl, mulOk bx.1 by_.2,
        _, rfl, q, _, 0, _, rfl, rfl, hq, at0, _, rfl, p, _, 1, _, rfl, rfl, hp, at1, _, _, rfl, rfl, mulOk by_.1 bx.2, _, _, rfl, rfl,
        _, rfl, p, _, 1, _, rfl, rfl, hp, at1, _, rfl, q, _, 1, _, rfl, rfl, hq, at1, _, _, rfl, rfl, mulOk bx.2 by_.2,
        _, _, rfl, mul_ne sx.ne sy.ne, bd2 bx.2 by_.2, fun r hn => ?_⟩
    exact qq _ r (same_new hn) hn upd_same
theorem ok_ltimes (F : Fun K "_law_times" "_law_times" sLTimes f fd) (GR : FnOk P w K mg base CX0 1 fL fdL ["_law_top", "_law_bottom"] spRed) (kR : PySem.W.keepIn K (.ref fL) = true) (bR : Binds K fdL ["_law_top", "_law_bottom"] []) (gR : mg "_law_low" = some (.ref fL)) :
    FnOk P w K mg base CX0 2 f fd ["_law_one", "_law_other"] (spTwo K tm) := by
  refine F.ok scLTimes (fun vs H Q E h => ?_) (fun cdv A outer s H vs Q E hr h => ?_)
  · obtain ⟨p, q, x, y, rfl, _⟩ := h
    rfl
  · obtain ⟨p, q, x, y, rfl, hp, hq, sx, sy, bx, by_, qq⟩ := h
    refine ⟨_, pss_one (ps_ret (pe_call GR hr (by rfl) gR kR bR .nil pass0
        (pa_cons (pe_op op_mulW (pe_ix ix_tup (pv 0) pe_int (fun _ _ => rfl)) (pe_ix ix_tup (pv 1) pe_int (fun _ _ => rfl)))
        (pa_cons (pe_op op_mulW (pe_ix ix_tup (pv 0) pe_int (fun _ _ => rfl)) (pe_ix ix_tup (pv 1) pe_int (fun _ _ => rfl))) pa_nil)))), ?_⟩
    refine ⟨_, rfl, p, _, 0, _, rfl, rfl, hp, at0, _, rfl, q, _, 0, _, rfl, rfl, hq, at0, _, _, rfl, rfl, mulOk bx.1 by_.1,
        _, rfl, p, _, 1, _, rfl, rfl, hp, at1, _, rfl, q, _, 1, _, rfl, rfl, hq, at1, _, _, rfl, rfl, mulOk bx.2 by_.2,
        _, _, rfl, mul_ne sx.ne sy.ne, bd2 bx.2 by_.2, fun r hn => ?_⟩
    exact qq _ r (same_new hn) hn upd_same
end
end Gs

namespace Gs
open PySem PySem.Spec PyProof.Rows L2
abbrev sLOver : Stmt := topS 21
abbrev sRight : Stmt := topS 22
theorem scLOver : FnScope ["_law_one", "_law_other", "_law_error", "_law_found", "e"] ["_law_one", "_law_other"] (defScope sLOver) := ⟨rfl, rfl, rfl, by decide +kernel, rfl, by decide +kernel, by decide +kernel⟩
theorem scRight : FnScope ["_law_one", "_law_other", "_law_turned", "_law_due", "_law_found"] ["_law_one", "_law_other"] (defScope sRight) := ⟨rfl, rfl, rfl, by decide +kernel, rfl, by decide +kernel, by decide +kernel⟩
theorem ne_new {H : Hp} {p l : Addr} {o : HO} (e : H p = some o) (h : H l = none) : p ≠ l := ne_of_none e h
theorem free_of {p : Addr} {H H' : Hp} (k : Keep p H H') {r : Addr} (hr : r ≠ p) (h : H' r = none) : H r = none := by
  cases e : H r with
  | none => rfl
  | some o =>
    have z := k r o hr e
    rw [h] at z
    cases z
theorem pick5 (i : Int) (h0 : 0 ≤ i) (h5 : i < 5) : ∃ b : Int, atI [V.int 1, V.int 1, V.int 1, V.int 2, V.int 3] i = some (.int b) ∧ 0 < b ∧ b < 4 := by
  have h : i = 0 ∨ i = 1 ∨ i = 2 ∨ i = 3 ∨ i = 4 := by omega
  rcases h with rfl | rfl | rfl | rfl | rfl
  · exact ⟨1, rfl, by decide, by decide⟩
  · exact ⟨1, rfl, by decide, by decide⟩
  · exact ⟨1, rfl, by decide, by decide⟩
  · exact ⟨2, rfl, by decide, by decide⟩
  · exact ⟨3, rfl, by decide, by decide⟩
theorem log_lit {u : Int} {n : Nat} (h0 : 0 < n) (hn : n ≤ 9000) (h : u.natAbs < 2 ^ n) : u.natAbs.log2 < 9000 := log_of h0 hn h
section
variable {P : Program} {w : World} {K : PySem.W.Frag} {mg : Str → Option Value} {base : Heap} {f fD fL fS : Addr} {fd fdD fdL fdS : FuncData} {k : Nat}
theorem ok_share (F : Fun K "_law_share" "_law_share" sShare f fd)
    (GL : FnOk P w K mg base CX0 1 fL fdL ["_law_top", "_law_bottom"] spRed) (kL : PySem.W.keepIn K (.ref fL) = true) (bL : Binds K fdL ["_law_top", "_law_bottom"] []) (gL : mg "_law_low" = some (.ref fL))
    (GD : FnOk P w K mg base CX0 1 fD fdD ["_law_left_here", "_law_upto"] spDigit) (kD : PySem.W.keepIn K (.ref fD) = true) (bD : Binds K fdD ["_law_left_here", "_law_upto"] []) (gD : mg "_law_digit" = some (.ref fD)) :
    FnOk P w K mg base CX0 2 f fd ["_law_left_here"] spDraw := by
  refine F.ok scShare (fun vs H Q E h => ?_) (fun cdv A outer s H vs Q E hr h => ?_)
  · obtain ⟨p, n, rfl, _⟩ := h
    rfl
  · obtain ⟨p, n, rfl, hp, q⟩ := h
    refine ⟨_, pss_one (ps_ret (pe_call GL hr (by rfl) gL kL bL .nil pass0
      (pa_cons (pe_op op_sub (pe_call GD hr (by rfl) gD kD bD .nil pass0 (pa_cons (pv 0) (pa_cons pe_int pa_nil))) pe_int)
      (pa_cons (pe_ix ix_list (pe_lst (pa_cons pe_int (pa_cons pe_int (pa_cons pe_int (pa_cons pe_int (pa_cons pe_int pa_nil)))))) (pe_call GD hr (by rfl) gD kD bD .nil pass0 (pa_cons (pv 0) (pa_cons pe_int pa_nil))) (fun _ _ => rfl)) pa_nil)))), ?_⟩
    refine ⟨_, rfl, p, n, 13, rfl, hp, by decide, log_lit (n := 10) (by decide) (by decide) (by decide), _, _, rfl, rfl, by show 5 ≤ sizeLine; decide, fun l hl => ?_⟩
    have npl : p ≠ l := ne_new upd_same hl
    refine ⟨_, rfl, p, n / 13, 5, rfl, by rw [upd_ne npl]; exact upd_same, by decide, log_lit (n := 10) (by decide) (by decide) (by decide), ?_⟩
    have m0 := Int.emod_nonneg (n / 13) (show (5 : Int) ≠ 0 by decide)
    have m5 := Int.emod_lt_of_pos (n / 13) (show (0 : Int) < 5 by decide)
    obtain ⟨b, eb, b0, b4⟩ := pick5 _ m0 m5
    have t0 := Int.emod_nonneg n (show (13 : Int) ≠ 0 by decide)
    have t13 := Int.emod_lt_of_pos n (show (0 : Int) < 13 by decide)
    refine ⟨l, _, _, .int b, rfl, rfl, SqL.of (by rw [upd_ne (fun z => npl z.symm)]; exact upd_same), eb, n % 13 - 6, b, rfl, by omega, bd_mono (n := 10) (by omega) (by decide), fun r hr0 => ?_⟩
    have nrl : r ≠ l := fun z => by
      rw [z, upd_ne (fun z => npl z.symm), upd_same] at hr0
      cases hr0
    have nrp : r ≠ p := fun z => by
      rw [z, upd_same] at hr0
      cases hr0
    refine q _ r (lw (n % 13 - 6) b) ((n / 13) / 5) ?_ ?_ ?_ upd_same (lw_sh (by omega)) (lw_bd (by omega) (bd_mono (n := 10) (by omega) (by decide)) (bd_mono (n := 10) (by omega) (by decide)))
    · exact keep_upd.trans ((keep_same (same_new hl)).trans (keep_upd.trans (keep_same (same_new hr0))))
    · rw [upd_ne (fun z => nrp z.symm)]
      exact upd_same
    · rw [upd_ne nrp, upd_ne nrl, upd_ne nrp] at hr0
      exact hr0
theorem ok_drawn (F : Fun K "_law_drawn" "_law_drawn" sDrawn f fd)
    (GL : FnOk P w K mg base CX0 1 fL fdL ["_law_top", "_law_bottom"] spRed) (kL : PySem.W.keepIn K (.ref fL) = true) (bL : Binds K fdL ["_law_top", "_law_bottom"] []) (gL : mg "_law_low" = some (.ref fL))
    (GD : FnOk P w K mg base CX0 1 fD fdD ["_law_left_here", "_law_upto"] spDigit) (kD : PySem.W.keepIn K (.ref fD) = true) (bD : Binds K fdD ["_law_left_here", "_law_upto"] []) (gD : mg "_law_digit" = some (.ref fD))
    (GS : FnOk P w K mg base CX0 2 fS fdS ["_law_left_here"] spDraw) (kS : PySem.W.keepIn K (.ref fS) = true) (bS : Binds K fdS ["_law_left_here"] []) (gS : mg "_law_share" = some (.ref fS)) :
    FnOk P w K mg base CX0 3 f fd ["_law_left_here"] spDraw := by
  refine F.ok scDrawn (fun vs H Q E h => ?_) (fun cdv A outer s H vs Q E hr h => ?_)
  · obtain ⟨p, n, rfl, _⟩ := h
    rfl
  · obtain ⟨p, n, rfl, hp, q⟩ := h
    have hr1 := hr.mono (j := 1) (by decide)
    refine ⟨_, pss_cons (ps_if (pt_cmpR op_eq (pe_call GD hr1 (by rfl) gD kD bD .nil pass0 (pa_cons (pv 0) (pa_cons pe_int pa_nil))) pe_int (nomark _))
      (pss_one (ps_ret (pe_call GL hr1 (by rfl) gL kL bL .nil pass0
        (pa_cons (pe_op op_sub (pe_call GD hr1 (by rfl) gD kD bD .nil pass0 (pa_cons (pv 0) (pa_cons (pe_op op_pow pe_int pe_int) pa_nil))) (pe_op op_pow pe_int pe_int))
        (pa_cons (pe_op op_add pe_int (pe_call GD hr1 (by rfl) gD kD bD .nil pass0 (pa_cons (pv 0) (pa_cons (pe_op op_pow pe_int pe_int) pa_nil)))) pa_nil))))) pss_nil)
      (pss_one (ps_ret (pe_call GS hr (by rfl) gS kS bS .nil pass0 (pa_cons (pv 0) pa_nil)))), ?_⟩
    refine ⟨_, rfl, p, n, 4, rfl, hp, by decide, log_lit (n := 10) (by decide) (by decide) (by decide), rfl, _, rfl, ite2 (fun _ => ?_) (fun _ => ?_)⟩
    · have A1 : ((10 : Int) ^ (20 : Int).toNat) = 100000000000000000000 := by decide
      have A2 : ((10 : Int) ^ (19 : Int).toNat) = 10000000000000000000 := by decide
      have A3 : ((10 : Int) ^ (15 : Int).toNat) = 1000000000000000 := by decide
      refine ⟨_, rfl, 10, 20, rfl, rfl, ⟨by decide, by decide, by decide⟩, p, n / 4, _, rfl, upd_same, by rw [A1]; decide, log_lit (n := 80) (by decide) (by decide) (by rw [A1]; decide), 10, 19, rfl, rfl, ⟨by decide, by decide, by decide⟩, _, _, rfl, rfl, ?_⟩
      rw [A1, A2]
      refine ⟨_, rfl, 10, 15, rfl, rfl, ⟨by decide, by decide, by decide⟩, p, _, _, rfl, upd_same, by rw [A3]; decide, log_lit (n := 80) (by decide) (by decide) (by rw [A3]; decide), _, _, rfl, rfl, ?_⟩
      rw [A3]
      have t0 := Int.emod_nonneg (n / 4) (show (100000000000000000000 : Int) ≠ 0 by decide)
      have t1 := Int.emod_lt_of_pos (n / 4) (show (0 : Int) < 100000000000000000000 by decide)
      have u0 := Int.emod_nonneg (n / 4 / 100000000000000000000) (show (1000000000000000 : Int) ≠ 0 by decide)
      have u1 := Int.emod_lt_of_pos (n / 4 / 100000000000000000000) (show (0 : Int) < 1000000000000000 by decide)
      refine ⟨_, _, rfl, by omega, bd_mono (n := 70) (by omega) (by decide), fun r hr0 => ?_⟩
      have nrp : r ≠ p := fun z => by
        rw [z, upd_same] at hr0
        cases hr0
      refine q _ r _ _ ?_ (by rw [upd_ne (fun z => nrp z.symm)]; exact upd_same) ?_ upd_same (lw_sh (by omega)) (lw_bd (by omega) (by omega) (by omega))
      · exact keep_upd.trans (keep_upd.trans (keep_upd.trans (keep_same (same_new hr0))))
      · rw [upd_ne nrp, upd_ne nrp, upd_ne nrp] at hr0
        exact hr0
    · refine ⟨_, rfl, p, n / 4, rfl, upd_same, fun H' r x n' kp e1 hn e2 sx bx => ?_⟩
      have nrp : r ≠ p := fun z => by
        rw [z, upd_same] at hn
        cases hn
      rw [upd_ne nrp] at hn
      exact q H' r x n' (keep_upd.trans kp) e1 hn e2 sx bx
end
end Gs

namespace Gs
open PySem PySem.Spec PyProof.Rows L2
/-- a def that may be called by the name x -/
structure Cl (P : Program) (w : World) (K : PySem.W.Frag) (mg : Str → Option Value) (base : Heap) (CX : CXT) (k : Nat) (x : Str) (ps : List Str) (sp : Sp) (f : Addr) (fd : FuncData) : Prop where
  g : mg x = some (.ref f)
  ok : FnOk P w K mg base CX k f fd ps sp
  kp : PySem.W.keepIn K (.ref f) = true
  bd : Binds K fd ps []
def dS (x : Int × Int) : PyData := .tuple [.int x.1, .int x.2]
theorem dp_sh {K : PySem.W.Frag} {H : Hp} {r : Addr} {x : Int × Int} (h : TP K H r x) : Dp K H (.ref r) (dS x) := .tup h (.cons (.int _) (.cons (.int _) .nil))
theorem shaped_dS (x : Int × Int) : SeqAt.shaped (dS x) = true := by
  unfold dS
  simp [SeqAt.shaped, PyData.canLay0, PyData.canLayAll0, PyData.depth, PyData.depthAll]
theorem eqv_dS (x : Int × Int) : PyData.eqv (dS x) (dS x) = true := by
  unfold dS
  simp [PyData.eqv, PyData.eqvAll]
def spLOver (K : PySem.W.Frag) : Sp := fun vs H Q _ => ∃ (p q : Addr) (x y : Int × Int), vs = [.ref p, .ref q] ∧
  TP K H p x ∧ TP K H q y ∧ Sh x ∧ Sh y ∧ Bd 1000 x ∧ Bd 1000 y ∧ (y.1 = 0 → ∀ H', Same H H' → Q (.str "none") H') ∧
  (y.1 ≠ 0 → ∀ H' r, Same H H' → H r = none → H' r = some (.tup (vp (ov x y))) → Q (.ref r) H')
def spRight (K : PySem.W.Frag) : Sp := fun vs H Q _ => ∃ (p q : Addr) (x y : Int × Int), vs = [.ref p, .ref q] ∧
  TP K H p x ∧ TP K H q y ∧ Sh x ∧ Sh y ∧ Bd 900 x ∧ Bd 900 y ∧ ∀ H', Same H H' → Q (.bl true) H'
section
variable {P : Program} {w : World} {K : PySem.W.Frag} {mg : Str → Option Value} {base : Heap} {f C G fO : Addr} {fd fdO : FuncData}
theorem ok_lover (F : Fun K "_law_over" "_law_over" sLOver f fd) (O : Cl P w K mg base (L2.CX P w) 3 "over" ["one", "other"] (spOver K C) fO fdO)
    (gC : mg "ByNought" = some (.ref C)) (eC : PySem.W.exmOne K (.ref C) (.ref C) = some true) (CK : ExcC K C) (kZ : PySem.W.kitOne K (.ref C) (.type "ZeroDivisionError") = some true)
    (gG : mg "GlassError" = some (.ref G)) (kG : PySem.W.kitOne K (.ref C) (.ref G) = some false) (mi : mg "isinstance" = none) (mz : mg "ZeroDivisionError" = none) :
    FnOk P w K mg base CX0 4 f fd ["_law_one", "_law_other"] (spLOver K) := by
  refine F.ok scLOver (fun vs H Q E h => ?_) (fun cdv A outer s H vs Q E hr h => ?_)
  · obtain ⟨p, q, x, y, rfl, _⟩ := h
    rfl
  · obtain ⟨p, q, x, y, rfl, hp, hq, sx, sy, bx, by_, q0, q1⟩ := h
    refine ⟨_, pss_cons (ps_set (i := 2) scLOver.nd rfl (.inl rfl) pe_non)
      (pss_cons (ps_set (i := 3) scLOver.nd rfl (.inl rfl) pe_non)
      (pss_cons (ps_try_kept (i := 4) (j := 2) rfl rfl rfl scLOver.nd rfl rfl rfl rfl (by decide) (by decide) (by show 4 < 5; decide) (by decide) ⟨rfl, by decide, .inl gC⟩ takes0 (by rfl)
        (fun W pn xe tk _ => pss_one (ps_set (i := 3) scLOver.nd rfl (.inl rfl) (pe_callS O.ok hr (by rfl) O.g O.kp O.bd (fun σ => passAt tk σ) (pa_cons (pv 0) (pa_cons (pv 1) pa_nil))))))
      (pss_cons (ps_if (pt_cmpR op_isN (pv 2) pe_non (nomark _)) (pss_one (ps_ret (pv 3))) pss_nil)
      (pss_one (ps_ret (pe_ifExp (PW.pt (pw_and (pt_val (pe_callB (call_isK CK) (by rfl) mi (by decide +kernel) (pa_cons (pv 2) (pa_cons (pe_bltn (v := .ty "ZeroDivisionError") (by rfl) mz (by decide +kernel) rfl) pa_nil))))
        (pw_and1 (pt_not (pt_val (pe_callB (call_isK CK) (by rfl) mi (by decide +kernel) (pa_cons (pv 2) (pa_cons (pe_glob (v := .ref G) rfl gG rfl) pa_nil)))))))) pe_str pe_str)))))), ?_⟩
    refine ⟨_, rfl, _, rfl, p, q, x, y, rfl, hp, hq, sx, sy, bx, by_, fun hy => ?_, fun hy H' r sm hn e => ?_⟩
    · refine ⟨true, eC, fun _ a ha => ?_, fun z => nomatch z⟩
      refine ⟨_, rfl, rfl, _, rfl, ?_⟩
      refine iteF ?_
      refine ⟨_, rfl, a, _, _, true, rfl, upd_same, fun u r => r, kZ, _, rfl, iteT ?_⟩
      refine ⟨_, rfl, a, _, _, false, rfl, upd_same, fun u r => r, kG, _, rfl, ?_⟩
      exact iteT (q0 hy _ (same_new ha))
    · refine ⟨_, rfl, rfl, _, rfl, ?_⟩
      exact iteT ⟨_, rfl, q1 hy H' r sm hn e⟩
end
end Gs

namespace Gs
open PySem PySem.Spec PyProof.Rows L2
theorem _root_.L2.Same.tp {K : PySem.W.Frag} {H H' : Hp} {p : Addr} {x : Int × Int} (s : Same H H') (h : TP K H p x) : TP K H' p x := same_tup s h
theorem vp_ng (y : Int × Int) : ([V.int (0 - y.1), V.int y.2] : List V) = vp (ng y) := by
  rw [Int.zero_sub]
  rfl
theorem ng_bd {n : Nat} {y : Int × Int} (h : Bd n y) : Bd n (ng y) := ⟨by show (-y.1).natAbs < _; rw [Int.natAbs_neg]; exact h.1, h.2⟩
section
variable {P : Program} {w : World} {K : PySem.W.Frag} {mg : Str → Option Value} {base : Heap} {f f1 f2 f3 f4 f5 f6 f7 f8 f9 : Addr} {fd d1 d2 d3 d4 d5 d6 d7 d8 d9 : FuncData}
theorem ok_right (F : Fun K "_law_right" "_law_right" sRight f fd)
    (PL : Cl P w K mg base CX0 3 "plus" ["one", "other"] (spTwo K pl) f1 d1) (LP : Cl P w K mg base CX0 2 "_law_plus" ["_law_one", "_law_other"] (spTwo K pl) f2 d2)
    (MI : Cl P w K mg base CX0 4 "minus" ["one", "other"] (spTwo K fun x y => pl x (ng y)) f3 d3)
    (TI : Cl P w K mg base CX0 3 "times" ["one", "other"] (spTwo K tm) f4 d4) (LT : Cl P w K mg base CX0 2 "_law_times" ["_law_one", "_law_other"] (spTwo K tm) f5 d5)
    (LO : Cl P w K mg base CX0 4 "_law_over" ["_law_one", "_law_other"] (spLOver K) f6 d6) (LW : Cl P w K mg base CX0 1 "_law_low" ["_law_top", "_law_bottom"] spRed f7 d7)
    (LE : Cl P w K mg base CX0 1 "less" ["one", "other"] (spLess K) f8 d8) (mi : mg "isinstance" = none) (mb : mg "bool" = none) :
    FnOk P w K mg base CX0 5 f fd ["_law_one", "_law_other"] (spRight K) := by
  refine F.ok scRight (fun vs H Q E h => ?_) (fun cdv A outer s H vs Q E hr h => ?_)
  · obtain ⟨p, q, x, y, rfl, _⟩ := h
    rfl
  · obtain ⟨p, q, x, y, rfl, hp, hq, sx, sy, bx9, by9, qq⟩ := h
    have bx := bx9.mono (m := 1000) (by decide)
    have by_ := by9.mono (m := 1000) (by decide)
    have r1 := hr.mono (j := 1) (by decide)
    have r2 := hr.mono (j := 2) (by decide)
    have r3 := hr.mono (j := 3) (by decide)
    refine ⟨_, pss_cons (ps_set (i := 2) scRight.nd rfl (.inl rfl) (pe_tup (pa_cons (pe_op op_sub pe_int (pe_ix ix_tup (pv 1) pe_int (fun _ _ => rfl))) (pa_cons (pe_ix ix_tup (pv 1) pe_int (fun _ _ => rfl)) pa_nil))))
      (pss_cons (ps_if (PW.pt (pw_or
          (pt_cmpR (op_neD hr.units) (pe_call PL.ok r3 (by rfl) PL.g PL.kp PL.bd .nil pass0 (pa_cons (pv 0) (pa_cons (pv 1) pa_nil))) (pe_call LP.ok r2 (by rfl) LP.g LP.kp LP.bd .nil pass0 (pa_cons (pv 0) (pa_cons (pv 1) pa_nil))) (nomark _))
          (pw_or1 (pt_cmpR (op_neD hr.units) (pe_call MI.ok hr (by rfl) MI.g MI.kp MI.bd .nil pass0 (pa_cons (pv 0) (pa_cons (pv 1) pa_nil))) (pe_call LP.ok r2 (by rfl) LP.g LP.kp LP.bd .nil pass0 (pa_cons (pv 0) (pa_cons (pv 2) pa_nil))) (nomark _)))))
        (pss_one (ps_ret pe_bl)) pss_nil)
      (pss_cons (ps_if (pt_cmpR (op_neD hr.units) (pe_call TI.ok r3 (by rfl) TI.g TI.kp TI.bd .nil pass0 (pa_cons (pv 0) (pa_cons (pv 1) pa_nil))) (pe_call LT.ok r2 (by rfl) LT.g LT.kp LT.bd .nil pass0 (pa_cons (pv 0) (pa_cons (pv 1) pa_nil))) (nomark _))
        (pss_one (ps_ret pe_bl)) pss_nil)
      (pss_cons (ps_set (i := 3) scRight.nd rfl (.inl rfl) (pe_ifExp (pt_cmpR op_eq (pe_ix ix_tup (pv 1) pe_int (fun _ _ => rfl)) pe_int (nomark _)) pe_str
        (pe_call LW.ok r1 (by rfl) LW.g LW.kp LW.bd .nil pass0 (pa_cons (pe_op op_mulW (pe_ix ix_tup (pv 0) pe_int (fun _ _ => rfl)) (pe_ix ix_tup (pv 1) pe_int (fun _ _ => rfl))) (pa_cons (pe_op op_mulW (pe_ix ix_tup (pv 0) pe_int (fun _ _ => rfl)) (pe_ix ix_tup (pv 1) pe_int (fun _ _ => rfl))) pa_nil)))))
      (pss_cons (ps_if (pt_cmpR (op_neD hr.units) (pe_call LO.ok hr (by rfl) LO.g LO.kp LO.bd .nil pass0 (pa_cons (pv 0) (pa_cons (pv 1) pa_nil))) (pv 3) (nomark _))
        (pss_one (ps_ret pe_bl)) pss_nil)
      (pss_cons (ps_set (i := 4) scRight.nd rfl (.inl rfl) (pe_call LE.ok r1 (by rfl) LE.g LE.kp LE.bd .nil pass0 (pa_cons (pv 0) (pa_cons (pv 1) pa_nil))))
      (pss_one (ps_ret (pe_and (pe_callB call_isi (by rfl) mi (by decide +kernel) (pa_cons (pv 4) (pa_cons (pe_bltn (v := .ty "bool") (by rfl) mb (by decide +kernel) rfl) pa_nil)))
        (pe_one (pe_cmpR op_eq (pv 4) (pe_cmpR op_lt (pe_op op_mulW (pe_ix ix_tup (pv 0) pe_int (fun _ _ => rfl)) (pe_ix ix_tup (pv 1) pe_int (fun _ _ => rfl))) (pe_op op_mulW (pe_ix ix_tup (pv 1) pe_int (fun _ _ => rfl)) (pe_ix ix_tup (pv 0) pe_int (fun _ _ => rfl))) (nomark _)) (nomark _))))))))))), ?_⟩
    -- turned
    refine ⟨_, rfl, q, _, 0, _, rfl, rfl, hq, at0, _, _, rfl, rfl, _, rfl, q, _, 1, _, rfl, rfl, hq, at1, by show 2 ≤ sizeLine; decide, fun t ht => ?_⟩
    have s0 : Same H (upd H t (.tup [V.int (0 - y.1), V.int y.2])) := same_new ht
    have ht0 : TP K (upd H t (.tup [V.int (0 - y.1), V.int y.2])) t (ng y) := SqT.of (by rw [upd_same, vp_ng])
    generalize upd H t (.tup [V.int (0 - y.1), V.int y.2]) = H0 at s0 ht0
    -- plus
    refine ⟨_, rfl, _, rfl, p, q, x, y, rfl, s0.tp hp, s0.tp hq, sx, sy, bx, by_, fun H1 a1 m1 _ e1 => ?_⟩
    refine ⟨_, rfl, _, rfl, p, q, x, y, rfl, m1.tp (s0.tp hp), m1.tp (s0.tp hq), sx, sy, bx, by_, fun H2 a2 m2 _ e2 => ?_⟩
    refine ⟨dS (pl x y), dS (pl x y), dp_sh (SqT.of (m2 _ _ e1)), dp_sh (SqT.of e2), shaped_dS _, shaped_dS _, _, rfl, ?_⟩
    rw [eqv_dS]
    refine iteF ?_
    have s2 : Same H H2 := s0.trans (m1.trans m2)
    -- minus
    refine ⟨_, rfl, _, rfl, p, q, x, y, rfl, s2.tp hp, s2.tp hq, sx, sy, bx, by_, fun H3 a3 m3 _ e3 => ?_⟩
    refine ⟨_, rfl, _, rfl, p, t, x, ng y, rfl, m3.tp (s2.tp hp), m3.tp (m2.tp (m1.tp ht0)), sx, sy.ng, bx, ng_bd by_, fun H4 a4 m4 _ e4 => ?_⟩
    refine ⟨dS (pl x (ng y)), dS (pl x (ng y)), dp_sh (SqT.of (m4 _ _ e3)), dp_sh (SqT.of e4), shaped_dS _, shaped_dS _, _, rfl, ?_⟩
    rw [eqv_dS]
    refine iteF ?_
    have s4 : Same H H4 := s2.trans (m3.trans m4)
    -- times
    refine ⟨_, rfl, _, rfl, p, q, x, y, rfl, s4.tp hp, s4.tp hq, sx, sy, bx, by_, fun H5 a5 m5 _ e5 => ?_⟩
    refine ⟨_, rfl, _, rfl, p, q, x, y, rfl, m5.tp (s4.tp hp), m5.tp (s4.tp hq), sx, sy, bx, by_, fun H6 a6 m6 _ e6 => ?_⟩
    refine ⟨dS (tm x y), dS (tm x y), dp_sh (SqT.of (m6 _ _ e5)), dp_sh (SqT.of e6), shaped_dS _, shaped_dS _, _, rfl, ?_⟩
    rw [eqv_dS]
    refine iteF ?_
    have s6 : Same H H6 := s4.trans (m5.trans m6)
    -- due and over
    refine ⟨_, rfl, q, _, 0, _, rfl, rfl, s6.tp hq, at0, rfl, _, rfl, ite2 (fun e => ?_) (fun e => ?_)⟩
    · have y0 : y.1 = 0 := V.int.inj (of_decide_eq_true e)
      refine ⟨_, rfl, _, rfl, p, q, x, y, rfl, s6.tp hp, s6.tp hq, sx, sy, bx, by_, fun _ H7 m7 => ?_, fun n => absurd y0 n⟩
      refine ⟨_, rfl, .str "none", .str "none", .str _, .str _, by decide +kernel, by decide +kernel, _, rfl, ?_⟩
      rw [show PyData.eqv (.str "none") (.str "none") = true by decide +kernel]
      refine iteF ?_
      have s7 := s6.trans m7
      refine ⟨_, rfl, _, rfl, p, q, x, y, rfl, s7.tp hp, s7.tp hq, bx, by_, ?_⟩
      refine ⟨_, rfl, _, _, _, _, true, rfl, .ty _, .base (.bl _), kit_ty (by decide +kernel), _, rfl, iteT ?_⟩
      refine ⟨_, rfl, _, rfl, p, _, 0, _, rfl, rfl, s7.tp hp, at0, _, rfl, q, _, 1, _, rfl, rfl, s7.tp hq, at1, _, _, rfl, rfl, mulOk bx.1 by_.2,
        _, rfl, q, _, 0, _, rfl, rfl, s7.tp hq, at0, _, rfl, p, _, 1, _, rfl, rfl, s7.tp hp, at1, _, _, rfl, rfl, mulOk by_.1 bx.2, _, _, rfl, rfl, rfl, ?_⟩
      rw [decide_eq_true rfl]
      exact qq _ s7
    · have y0 : y.1 ≠ 0 := fun z => e (decide_eq_true (by rw [z]))
      refine ⟨_, rfl, p, _, 0, _, rfl, rfl, s6.tp hp, at0, _, rfl, q, _, 1, _, rfl, rfl, s6.tp hq, at1, _, _, rfl, rfl, mulOk bx.1 by_.2,
        _, rfl, p, _, 1, _, rfl, rfl, s6.tp hp, at1, _, rfl, q, _, 0, _, rfl, rfl, s6.tp hq, at0, _, _, rfl, rfl, mulOk bx.2 by_.1,
        _, _, rfl, mul_ne sx.ne y0, bd2 bx.2 by_.1, fun u hu => ?_⟩
      have mu : Same H6 (upd H6 u (.tup (vp (ov x y)))) := same_new hu
      have eu : TP K (upd H6 u (.tup (vp (ov x y)))) u (ov x y) := SqT.of upd_same
      have s6' := s6.trans mu
      refine ⟨_, rfl, _, rfl, p, q, x, y, rfl, s6'.tp hp, s6'.tp hq, sx, sy, bx, by_, fun n => absurd n y0, fun _ H7 r7 m7 _ e7 => ?_⟩
      refine ⟨_, rfl, dS (ov x y), dS (ov x y), dp_sh (SqT.of e7), dp_sh (m7.tp eu), shaped_dS _, shaped_dS _, _, rfl, ?_⟩
      rw [eqv_dS]
      refine iteF ?_
      have s7 := s6'.trans m7
      refine ⟨_, rfl, _, rfl, p, q, x, y, rfl, s7.tp hp, s7.tp hq, bx, by_, ?_⟩
      refine ⟨_, rfl, _, _, _, _, true, rfl, .ty _, .base (.bl _), kit_ty (by decide +kernel), _, rfl, iteT ?_⟩
      refine ⟨_, rfl, _, rfl, p, _, 0, _, rfl, rfl, s7.tp hp, at0, _, rfl, q, _, 1, _, rfl, rfl, s7.tp hq, at1, _, _, rfl, rfl, mulOk bx.1 by_.2,
        _, rfl, q, _, 0, _, rfl, rfl, s7.tp hq, at0, _, rfl, p, _, 1, _, rfl, rfl, s7.tp hp, at1, _, _, rfl, rfl, mulOk by_.1 bx.2, _, _, rfl, rfl, rfl, ?_⟩
      rw [decide_eq_true rfl]
      exact qq _ s7
end
end Gs

namespace Gs
open PySem PySem.Spec PyProof.Rows L2
abbrev sLaw : Stmt := topS 23
abbrev NL : List Str := ["_law_script", "_law_cell", "_law_left_here", "_law_some", "_law_one", "_law_other", "_law_few", "_law_due", "_law_kept", "_law_turn"]
theorem scLaw : FnScope NL ["_law_script"] (defScope sLaw) := ⟨rfl, rfl, rfl, by decide +kernel, rfl, by decide +kernel, by decide +kernel⟩
/-! ### texts -/
theorem list_text_len : ∀ ts : List Str, (listText ts).length ≤ piled ts + 2
  | [] => by decide +kernel
  | t :: r => by
    unfold listText
    rw [strLen_append]
    have h := textFrom_length_pos r 1 (("[" : Str) ++ (if (0 : Nat) > 0 then ", " else "" : String) ++ t) Nat.one_pos
    rw [strLen_append, strLen_append] at h
    have e1 : (("[" : Str)).length = 1 := rfl
    have e2 : (((if (0 : Nat) > 0 then ", " else "" : String) : Str)).length = 0 := rfl
    have e3 : (("]" : Str)).length = 1 := rfl
    rw [e1, e2] at h
    have e4 : (textFrom 0 "[" (t :: r)).length = 1 + 0 + t.length + piled r := h
    rw [e4, e3, piled_cons]
    omega
theorem sh_text {x : Int × Int} (h : Bd 70 x) : (PyData.shown (dS x)).length ≤ 4000 := by
  have l1 := int_text_len_1921 (i := x.1) (Nat.lt_of_lt_of_le (PySem.Flt.log2_lt_of (by decide) h.1) (by decide))
  have l2 := int_text_len_1921 (i := x.2) (Nat.lt_of_lt_of_le (PySem.Flt.log2_lt_of (by decide) h.2) (by decide))
  have z := fmt_text [(toString x.1 : Str), (toString x.2 : Str)]
  rw [piled_cons, piled_cons, piled_nil] at z
  have e : PyData.shown (dS x) = tupleText [(toString x.1 : Str), (toString x.2 : Str)] := by
    simp only [dS, PyData.shown, PyData.shownAll]
  rw [e]
  omega
def dL (l : List (Int × Int)) : PyData := .list (l.map dS)
theorem piled_sh : ∀ l : List (Int × Int), (∀ x ∈ l, Bd 70 x) → piled (PyData.shownAll (l.map dS)) ≤ 4002 * l.length
  | [], _ => Nat.zero_le _
  | x :: l, h => by
    have h1 := sh_text (h x List.mem_cons_self)
    have h2 := piled_sh l fun y hy => h y (List.mem_cons_of_mem _ hy)
    rw [List.map_cons, PyData.shownAll, piled_cons, List.length_cons]
    omega
theorem dL_len {l : List (Int × Int)} (h : ∀ x ∈ l, Bd 70 x) (hl : l.length ≤ 4) : (PyData.shown (dL l)).length ≤ sizeLine := by
  have h1 := piled_sh l h
  have h2 := list_text_len (PyData.shownAll (l.map dS))
  have e : PyData.shown (dL l) = listText (PyData.shownAll (l.map dS)) := by simp only [dL, PyData.shown]
  rw [e, sizeLine_eq]
  omega
theorem showAll_dS : ∀ l : List (Int × Int), (∀ x ∈ l, Bd 70 x) → PyData.showableAll (l.map dS) = true
  | [], _ => rfl
  | x :: l, h => by
    have b := h x List.mem_cons_self
    have l1 : x.1.natAbs.log2 < 1920 := Nat.lt_of_lt_of_le (PySem.Flt.log2_lt_of (by decide) b.1) (by decide)
    have l2 : x.2.natAbs.log2 < 1920 := Nat.lt_of_lt_of_le (PySem.Flt.log2_lt_of (by decide) b.2) (by decide)
    rw [List.map_cons, PyData.showableAll, showAll_dS l fun y hy => h y (List.mem_cons_of_mem _ hy)]
    simp [dS, PyData.showable, PyData.showableAll, l1, l2]
theorem noDict_dS : ∀ l : List (Int × Int), PyData.hasDictAll (l.map dS) = false
  | [] => rfl
  | x :: l => by
    rw [List.map_cons, PyData.hasDictAll, noDict_dS l]
    simp [dS, PyData.hasDict, PyData.hasDictAll]
theorem depth_dS : ∀ l : List (Int × Int), PyData.depthAll (l.map dS) ≤ 10
  | [] => by simp [PyData.depthAll]
  | x :: l => by
    have z := depth_dS l
    rw [List.map_cons, PyData.depthAll]
    have e : (dS x).depth ≤ 10 := by simp [dS, PyData.depth, PyData.depthAll]
    omega
theorem dp_dL {K : PySem.W.Frag} {H : Hp} : ∀ zs : List (Addr × (Int × Int)), (∀ z ∈ zs, TP K H z.1 z.2) → DpAll K H (zs.map fun z => V.ref z.1) ((zs.map (·.2)).map dS)
  | [], _ => .nil
  | z :: zs, h => .cons (dp_sh (h z List.mem_cons_self)) (dp_dL zs fun y hy => h y (List.mem_cons_of_mem _ hy))
theorem cut_take (xs : List V) (k : Nat) : cutV xs none (some (k : Int)) = xs.take k := by
  unfold cutV
  rw [HT.sIx_none, HT.sIx_nat, List.drop_zero, Nat.sub_zero]
  by_cases h : k ≤ xs.length
  · rw [Nat.min_eq_left h]
  · rw [Nat.min_eq_right (by omega), List.take_of_length_le (Nat.le_refl _), List.take_of_length_le (by omega)]
/-! ### what stands between the turns -/
abbrev refs (zs : List (Addr × (Int × Int))) : List V := zs.map fun z => V.ref z.1
structure Stt (Hb H : Hp) (p S : Addr) (zs : List (Addr × (Int × Int))) : Prop where
  same : Same Hb H
  left : ∃ n : Int, H p = some (.lst [.int n])
  lst : H S = some (.lst (refs zs))
  sh : ∀ z ∈ zs, H z.1 = some (.tup (vp z.2)) ∧ Sh z.2 ∧ Bd 70 z.2
  ne : S ≠ p
  np : Hb p = none
theorem Stt.on {Hb H H' : Hp} {p S : Addr} {zs : List (Addr × (Int × Int))} (t : Stt Hb H p S zs) (s : Same H H') : Stt Hb H' p S zs :=
  ⟨t.same.trans s, let ⟨n, e⟩ := t.left; ⟨n, s _ _ e⟩, s _ _ t.lst, fun z hz => ⟨s _ _ (t.sh z hz).1, (t.sh z hz).2⟩, t.ne, t.np⟩
theorem Stt.turn {Hb H H' : Hp} {p S : Addr} {zs : List (Addr × (Int × Int))} (t : Stt Hb H p S zs) (s : Keep p H H') {n : Int} (e : H' p = some (.lst [.int n])) : Stt Hb H' p S zs := by
  have nz : ∀ z ∈ zs, z.1 ≠ p := fun z hz q => by
    obtain ⟨n, e⟩ := t.left
    have h := (t.sh z hz).1
    rw [q, e] at h
    cases h
  exact ⟨fun b o h => s b o (ne_of_none h t.np) (t.same b o h), ⟨n, e⟩, s _ _ t.ne t.lst, fun z hz => ⟨s _ _ (nz z hz) (t.sh z hz).1, (t.sh z hz).2⟩, t.ne, t.np⟩
end Gs

namespace Gs
open PySem PySem.Spec PyProof.Rows L2
theorem refs_at {zs : List (Addr × (Int × Int))} {i : Nat} {x : V} (h : (refs zs)[i]? = some x) : ∃ z, zs[i]? = some z ∧ z ∈ zs ∧ x = .ref z.1 := by
  rw [List.getElem?_map] at h
  obtain ⟨z, e, rfl⟩ := Option.map_eq_some_iff.mp h
  exact ⟨z, e, List.mem_of_getElem? e, rfl⟩
theorem cells_int {ns : List Int} {i : Nat} {x : V} (h : (cutV (ns.map V.int) none (some 20) ++ [V.int 4])[i]? = some x) : ∃ c : Int, x = .int c := by
  have m := List.mem_of_getElem? h
  rcases List.mem_append.mp m with m | m
  · rw [show (some (20 : Int)) = some ((20 : Nat) : Int) from rfl, cut_take] at m
    obtain ⟨c, _, rfl⟩ := List.mem_map.mp (List.mem_of_mem_take m)
    exact ⟨c, rfl⟩
  · rw [List.mem_singleton] at m
    exact ⟨4, m⟩
theorem bd01 : Bd 70 (0, 1) := ⟨by decide, by decide⟩
section
variable {P : Program} {w : World} {K : PySem.W.Frag} {mg : Str → Option Value} {base : Heap} {f T f1 f2 f3 f4 f5 f6 : Addr} {d1 d2 d3 d4 d5 d6 : FuncData}
theorem law_body {cdv : Value} {s : Shared} {H : Hp} {E : XK} {a : Addr} {ns : List Int}
    (LF : Cl P w K mg base CX0 1 "_law_left" ["_law_cell"] spLeft f1 d1) (DR : Cl P w K mg base CX0 3 "_law_drawn" ["_law_left_here"] spDraw f2 d2)
    (RI : Cl P w K mg base CX0 5 "_law_right" ["_law_one", "_law_other"] (spRight K) f3 d3) (DI : Cl P w K mg base CX0 1 "_law_digit" ["_law_left_here", "_law_upto"] spDigit f4 d4)
    (LP : Cl P w K mg base CX0 2 "_law_plus" ["_law_one", "_law_other"] (spTwo K pl) f5 d5)
    (GT : FnOk P w K mg base CX0 4 f6 d6 ["some", "start"] (spTotal K)) (gT : mg "total" = some (.ref f6)) (FT : FunT K T f6 d6) (hT : ∀ H : Hp, TP K H T (0, 1))
    (mr : mg "range" = none) (mp : mg "repr" = none)
    (hr : Room 5 (callerA.deeper (envOfC "law" (defScope sLaw) s.heap.objs.size f cdv)))
    (hS : SqL K H a (ns.map V.int)) (hn : ns.length ≤ 63) :
    ∃ t, PSs (cxOf CX0 P w K mg base NL "law" (defScope sLaw) f cdv callerA [] s H E).nox (defBody sLaw) t ∧
      t { nx := fun _ _ => V.non = V.bl true, rt := fun v _ => v = V.bl true } (start NL [.ref a]) H := by
  have r1 := hr.mono (j := 1) (by decide)
  have r2 := hr.mono (j := 2) (by decide)
  have r3 := hr.mono (j := 3) (by decide)
  have r4 := hr.mono (j := 4) (by decide)
  obtain ⟨ds, vds, bds⟩ := b_total FT
  have kb := kb_total FT
  refine ⟨_, pss_cons (ps_for PassesOwn.never rfl (pi_list (pe_op op_cat (pe_slice sl_list (pv 0) po_none (po_some pe_int)) (pe_lst (pa_cons pe_int pa_nil)))) (pg_name (i := 1) scLaw.nd rfl (Or.inl rfl))
    (pss_cons (ps_set (i := 2) scLaw.nd rfl (.inr rfl) (pe_call LF.ok r1 (by rfl) LF.g LF.kp LF.bd .nil pass0 (pa_cons (pv 1) pa_nil)))
    (pss_cons (ps_set (i := 3) scLaw.nd rfl (.inl rfl) (pe_op op_cat
        (pe_lc (own := [("_law_turn", 9)]) (g := gName 9) (tt := tYes) rfl scLaw.nd (pi_range1 (by rfl) mr (pa_cons pe_int pa_nil)) (blkOk_by (own := [("_law_turn", 9)]) (N := NL) (sc := defScope sLaw) (by decide +kernel))
          (fun _ _ _ _ _ => pg_name (i := 9) scLaw.nd rfl (Or.inl rfl)) (fun _ _ _ _ _ => pts_nil)
          (fun _ _ _ _ _ => pe_call DR.ok r3 (by rfl) DR.g DR.kp DR.bd .nil pass0 (pa_cons (pv 2) pa_nil)))
        (pe_lst (pa_cons (pe_tup (pa_cons pe_int (pa_cons pe_int pa_nil))) pa_nil))))
    (pss_cons (ps_for PassesOwn.never rfl (pi_list (pv 3)) (pg_name (i := 4) scLaw.nd rfl (Or.inl rfl))
      (pss_one (ps_for PassesOwn.never rfl (pi_list (pv 3)) (pg_name (i := 5) scLaw.nd rfl (Or.inl rfl))
        (pss_one (ps_if (pt_not (pt_val (pe_call RI.ok hr (by rfl) RI.g RI.kp RI.bd .nil pass0 (pa_cons (pv 4) (pa_cons (pv 5) pa_nil))))) (pss_one (ps_ret pe_bl)) pss_nil)))))
    (pss_cons (ps_set (i := 6) scLaw.nd rfl (.inl rfl) (pe_slice sl_list (pv 3) po_none (po_some (pe_call DI.ok r1 (by rfl) DI.g DI.kp DI.bd .nil pass0 (pa_cons (pv 2) (pa_cons pe_int pa_nil))))))
    (pss_cons (ps_set (i := 7) scLaw.nd rfl (.inl rfl) (pe_tup (pa_cons pe_int (pa_cons pe_int pa_nil))))
    (pss_cons (ps_for PassesOwn.never rfl (pi_list (pv 6)) (pg_name (i := 4) scLaw.nd rfl (Or.inl rfl))
      (pss_one (ps_set (i := 7) scLaw.nd rfl (.inl rfl) (pe_call LP.ok r2 (by rfl) LP.g LP.kp LP.bd .nil pass0 (pa_cons (pv 7) (pa_cons (pv 4) pa_nil))))))
    (pss_cons (ps_set (i := 8) scLaw.nd rfl (.inl rfl) (pe_callB (call_reprD rfl hr.units) (by rfl) mp (by decide +kernel) (pa_cons (pv 6) pa_nil)))
    (pss_one (ps_if (PW.pt (pw_or
        (pt_cmpR (op_neD hr.units) (pe_call GT r4 (by rfl) gT FT.kp bds vds pass0 (pa_cons (pv 6) pa_nil)) (pv 7) (nomark _))
        (pw_or (pt_cmpR (op_neD hr.units) (pe_callN GT r4 (by rfl) gT FT.kp kb pass0 (pa_cons (pv 6) pa_nil) (pk_cons (pe_ix ix_list (pv 3) pe_int (fun _ _ => rfl)) pk_nil))
            (pe_call LP.ok r2 (by rfl) LP.g LP.kp LP.bd .nil pass0 (pa_cons (pv 7) (pa_cons (pe_ix ix_list (pv 3) pe_int (fun _ _ => rfl)) pa_nil))) (nomark _))
          (pw_or1 (pt_cmpR op_ne (pe_callB (call_reprD rfl hr.units) (by rfl) mp (by decide +kernel) (pa_cons (pv 6) pa_nil)) (pv 8) (nomark _))))))
      (pss_one (ps_ret pe_bl)) pss_nil))))))))))
    (pss_one (ps_ret pe_bl)), ?_⟩
  -- script[:20] + [4]
  refine ⟨_, rfl, 20, rfl, a, _, rfl, hS, fun l1 h1 => ?_⟩
  refine ⟨by show 1 ≤ sizeLine; decide, fun l2 h2 => ?_⟩
  have n12 : l1 ≠ l2 := ne_of_none upd_same h2
  have lcut : (cutV (ns.map V.int) none (some 20)).length ≤ 63 := Nat.le_trans (cutV_length _ _ _) (by rw [List.length_map]; exact hn)
  refine ⟨l1, l2, _, _, rfl, rfl, by rw [upd_ne n12]; exact upd_same, upd_same, ?_, fun l3 h3 => ?_⟩
  · show _ + 1 ≤ sizeLine
    rw [sizeLine_eq]
    omega
  refine ⟨l3, rfl, ⟨_, SqL.of upd_same⟩, ?_⟩
  generalize eH0 : upd (upd (upd H l1 (.lst (cutV (ns.map V.int) none (some 20)))) l2 (.lst [V.int 4])) l3 (.lst (cutV (ns.map V.int) none (some 20) ++ [V.int 4])) = H0
  have e0 : H0 l3 = some (.lst (cutV (ns.map V.int) none (some 20) ++ [V.int 4])) := by
    rw [← eH0]
    exact upd_same
  refine for_list (K := K) (xs := cutV (ns.map V.int) none (some 20) ++ [V.int 4])
    (fun i σ H' => ∃ y1 y2 y3 y4 y5 y6 y7 y8 y9 : Option V, σ = [some (.ref a), y1, y2, y3, y4, y5, y6, y7, y8, y9] ∧ Same H0 H')
    ⟨_, _, _, _, _, _, _, _, _, rfl, Same.refl _⟩ (fun i σ H' _ hp => ?_) (fun i x σ Hb hx hp => ?_) (fun σ H' hp => ?_)
  · obtain ⟨_, _, _, _, _, _, _, _, _, _, sm⟩ := hp
    exact SqL.of (sm _ _ e0)
  · obtain ⟨y1, y2, y3, y4, y5, y6, y7, y8, y9, rfl, sm0⟩ := hp
    obtain ⟨c, rfl⟩ := cells_int hx
    -- left
    refine ⟨_, rfl, c, rfl, fun p n np => ?_⟩
    -- the drawn ones
    refine ⟨3, rfl, by decide, by decide, fun D nD => ?_⟩
    have nDp : D ≠ p := fun z => by
      rw [z, upd_same] at nD
      cases nD
    refine lc_range (lo := 0) (n := 3) (fun i H' => ∃ zs : List (Addr × (Int × Int)), zs.length = i ∧ Stt Hb H' p D zs) ?_ (fun i H1 hi hp => ?_) (fun H1 hp => ?_)
    · refine ⟨[], rfl, (same_new np).trans (same_new nD), ⟨n, ?_⟩, upd_same, fun z hz => (nomatch hz), nDp, np⟩
      rw [upd_ne (fun z => nDp z.symm)]
      exact upd_same
    · obtain ⟨zs, lz, st⟩ := hp
      obtain ⟨n1, en⟩ := st.left
      refine ⟨rfl, ?_⟩
      dsimp only [tYes]
      rw [if_pos rfl]
      refine ⟨_, rfl, p, n1, rfl, en, fun H2 r x n2 kp e1 hr0 e2 sx bx => ?_⟩
      have st2 := st.turn kp e1
      have nrD : r ≠ D := fun z => by
        rw [z, st.lst] at hr0
        cases hr0
      refine ⟨refs zs, st2.lst, ?_, zs ++ [(r, x)], ?_, ?_⟩
      · rw [List.length_map]
        exact small1000 (by omega)
      · rw [List.length_append, lz]
        rfl
      · have keep : ∀ b o, b ≠ D → H2 b = some o → (upd H2 D (.lst (refs zs ++ [V.ref r]))) b = some o := fun b o nb e => by
          rw [upd_ne nb]
          exact e
        have nbD : Hb D = none := by
          rw [upd_ne nDp] at nD
          exact nD
        refine ⟨fun b o e => keep b o (ne_of_none e nbD) (st2.same b o e), ?_, ?_, fun z hz => ?_, nDp, np⟩
        · obtain ⟨n3, e3⟩ := st2.left
          exact ⟨n3, keep _ _ (fun z => nDp z.symm) e3⟩
        · rw [upd_same]
          show _ = some (HO.lst (List.map _ (zs ++ [(r, x)])))
          rw [List.map_append]
          rfl
        · rcases List.mem_append.mp hz with hz | hz
          · refine ⟨keep _ _ (fun q => ?_) (st2.sh z hz).1, (st2.sh z hz).2⟩
            have q2 := (st2.sh z hz).1
            rw [q, st2.lst] at q2
            cases q2
          · rw [List.mem_singleton] at hz
            subst hz
            exact ⟨keep _ _ nrD e2, sx, bx⟩
    · obtain ⟨zs, lz, st⟩ := hp
      -- + [(0, 1)]
      refine ⟨by show 2 ≤ sizeLine; decide, fun t0 nt0 => ?_⟩
      refine ⟨by show 1 ≤ sizeLine; decide, fun l4 nl4 => ?_⟩
      have st1 := (st.on (same_new (o := .tup [V.int 0, V.int 1]) nt0)).on (same_new (o := .lst [V.ref t0]) nl4)
      have et0 : (upd (upd H1 t0 (.tup [V.int 0, V.int 1])) l4 (.lst [V.ref t0])) t0 = some (.tup (vp (0, 1))) := same_new nl4 _ _ upd_same
      have el4 : (upd (upd H1 t0 (.tup [V.int 0, V.int 1])) l4 (.lst [V.ref t0])) l4 = some (.lst [V.ref t0]) := upd_same
      refine ⟨D, l4, refs zs, _, rfl, rfl, st1.lst, el4, ?_, fun S nS => ?_⟩
      · rw [List.length_map, lz]
        show 3 + 1 ≤ sizeLine
        decide
      generalize upd (upd H1 t0 (.tup [V.int 0, V.int 1])) l4 (.lst [V.ref t0]) = H2 at st1 et0 el4 nS
      have st2 := st1.on (same_new (o := .lst (refs zs ++ [V.ref t0])) nS)
      have nSp : S ≠ p := fun z => by
        obtain ⟨n3, e3⟩ := st1.left
        rw [z, e3] at nS
        cases nS
      have et2 : (upd H2 S (.lst (refs zs ++ [V.ref t0]))) t0 = some (.tup (vp (0, 1))) := same_new nS _ _ et0
      have st3 : Stt Hb (upd H2 S (.lst (refs zs ++ [V.ref t0]))) p S (zs ++ [(t0, (0, 1))]) := by
        refine ⟨st2.same, st2.left, ?_, fun z hz => ?_, nSp, np⟩
        · rw [upd_same]
          show _ = some (HO.lst (List.map _ (zs ++ [(t0, (0, 1))])))
          rw [List.map_append]
          rfl
        · rcases List.mem_append.mp hz with hz | hz
          · exact st2.sh z hz
          · rw [List.mem_singleton] at hz
            subst hz
            exact ⟨et2, sh0, bd01⟩
      have l4z : (zs ++ [(t0, ((0 : Int), (1 : Int)))]).length = 4 := by
        rw [List.length_append, lz]
        rfl
      generalize zs ++ [(t0, ((0 : Int), (1 : Int)))] = ws at st3 l4z
      generalize upd H2 S (.lst (refs zs ++ [V.ref t0])) = H3 at st3
      -- the two loops
      refine ⟨_, rfl, S, rfl, ⟨_, SqL.of st3.lst⟩, for_list (K := K) (xs := refs ws)
        (fun _ σ H' => ∃ z4 z5 z6 z7 z8 z9 : Option V, σ = [some (.ref a), some (.int c), some (.ref p), some (.ref S), z4, z5, z6, z7, z8, z9] ∧ Stt Hb H' p S ws)
        ⟨_, _, _, _, _, _, rfl, st3⟩ (fun i σ H' _ hp => ?_) (fun i x σ H4 hx hp => ?_) (fun σ H4 hp => ?_)⟩
      · obtain ⟨_, _, _, _, _, _, _, st⟩ := hp
        exact SqL.of st.lst
      · obtain ⟨z4, z5, z6, z7, z8, z9, rfl, st4⟩ := hp
        obtain ⟨u, _, hu, rfl⟩ := refs_at hx
        refine ⟨_, rfl, S, rfl, ⟨_, SqL.of st4.lst⟩, for_list (K := K) (xs := refs ws)
          (fun _ σ H' => ∃ z5 z6 z7 z8 z9 : Option V, σ = [some (.ref a), some (.int c), some (.ref p), some (.ref S), some (.ref u.1), z5, z6, z7, z8, z9] ∧ Stt Hb H' p S ws)
          ⟨_, _, _, _, _, rfl, st4⟩ (fun i σ H' _ hp => ?_) (fun i x σ H5 hx hp => ?_) (fun σ H5 hp => ?_)⟩
        · obtain ⟨_, _, _, _, _, _, st⟩ := hp
          exact SqL.of st.lst
        · obtain ⟨z5, z6, z7, z8, z9, rfl, st5⟩ := hp
          obtain ⟨v, _, hv, rfl⟩ := refs_at hx
          obtain ⟨u1, u2, u3⟩ := st5.sh u hu
          obtain ⟨v1, v2, v3⟩ := st5.sh v hv
          refine ⟨_, rfl, _, rfl, u.1, v.1, u.2, v.2, rfl, SqT.of u1, SqT.of v1, u2, v2, u3.mono (by decide), v3.mono (by decide), fun H6 sm6 => ?_⟩
          refine ⟨true, rfl, iteF ?_⟩
          exact ⟨_, _, _, _, _, rfl, st5.on sm6⟩
        · obtain ⟨z5, z6, z7, z8, z9, rfl, st5⟩ := hp
          exact ⟨_, _, _, _, _, _, rfl, st5⟩
      · obtain ⟨z4, z5, z6, z7, z8, z9, rfl, st4⟩ := hp
        obtain ⟨n4, e4⟩ := st4.left
        have m0 := Int.emod_nonneg n4 (show (5 : Int) ≠ 0 by decide)
        obtain ⟨k, ek⟩ : ∃ k : Nat, n4 % 5 = (k : Int) := ⟨(n4 % 5).toNat, by omega⟩
        -- few
        refine ⟨_, rfl, _, rfl, p, n4, 5, rfl, e4, by decide, log_lit (n := 10) (by decide) (by decide) (by decide), _, rfl, S, refs ws, rfl, SqL.of ?_, fun Fw nF => ?_⟩
        · rw [upd_ne st4.ne]
          exact st4.lst
        have st5 : Stt Hb (upd H4 p (.lst [.int (n4 / 5)])) p S ws := st4.turn keep_upd upd_same
        generalize upd H4 p (.lst [.int (n4 / 5)]) = H5 at st5 nF
        have eF : cutV (refs ws) none (some (n4 % 5)) = refs (ws.take k) := by
          rw [ek, cut_take]
          show List.take k (List.map _ ws) = _
          rw [← List.map_take]
        rw [eF]
        have st6 := st5.on (same_new (o := .lst (refs (ws.take k))) nF)
        have fF : (upd H5 Fw (.lst (refs (ws.take k)))) Fw = some (.lst (refs (ws.take k))) := upd_same
        generalize upd H5 Fw (.lst (refs (ws.take k))) = H6 at st6 fF
        -- due
        refine ⟨by show 2 ≤ sizeLine; decide, fun q0 nq => ?_⟩
        have sq := same_new (o := .tup [V.int 0, V.int 1]) nq
        have st7 := st6.on sq
        have fF7 := sq _ _ fF
        have tq : TP K (upd H6 q0 (.tup [V.int 0, V.int 1])) q0 (sumS (0, 1) []) := SqT.of upd_same
        generalize upd H6 q0 (.tup [V.int 0, V.int 1]) = H7 at st7 fF7 tq
        have hz : ∀ z ∈ ws.take k, Sh z.2 ∧ Bd 70 z.2 := fun z hz => (st7.sh z (List.mem_of_mem_take hz)).2
        have hz2 : ∀ x ∈ (ws.take k).map (·.2), Sh x ∧ Bd 70 x := fun x hx => by
          obtain ⟨z, h1, rfl⟩ := List.mem_map.mp hx
          exact hz z h1
        have lk : (ws.take k).length ≤ 4 := by
          rw [List.length_take]
          omega
        refine ⟨_, rfl, Fw, rfl, ⟨_, SqL.of fF7⟩, for_list (K := K) (xs := refs (ws.take k))
          (fun i σ H' => ∃ (z4 : Option V) (r : Addr), σ = [some (.ref a), some (.int c), some (.ref p), some (.ref S), z4, z5, some (.ref Fw), some (.ref r), z8, z9] ∧ Stt Hb H' p S ws ∧
            H' Fw = some (.lst (refs (ws.take k))) ∧ TP K H' r (sumS (0, 1) (((ws.take k).map (·.2)).take i)))
          ⟨_, q0, rfl, st7, fF7, tq⟩ (fun i σ H' _ hp => ?_) (fun i x σ H8 hx hp => ?_) (fun σ H8 hp => ?_)⟩
        · obtain ⟨_, _, _, _, h, _⟩ := hp
          exact SqL.of h
        · obtain ⟨z4, r, rfl, st8, f8, t8⟩ := hp
          obtain ⟨u, eu, hu, rfl⟩ := refs_at hx
          obtain ⟨u1, u2, u3⟩ := st8.sh u (List.mem_of_mem_take hu)
          have ex : ((ws.take k).map (·.2))[i]? = some u.2 := by
            rw [List.getElem?_map, eu]
            rfl
          have hall : ∀ x ∈ ((ws.take k).map (·.2)).take i, Sh x ∧ Bd 70 x := fun x hx => hz2 x (List.mem_of_mem_take hx)
          have hli : (((ws.take k).map (·.2)).take i).length ≤ 4 := by
            rw [List.length_take, List.length_map]
            omega
          have hsh := sum_sh _ (0, 1) sh0 fun x hx => (hall x hx).1
          have hbd := sum_bd _ (0, 1) 70 sh0 bd01 hall
          refine ⟨_, rfl, _, rfl, r, u.1, _, u.2, rfl, t8, SqT.of u1, hsh, u2, hbd.mono (by omega), u3.mono (by decide), fun H9 r9 sm9 _ e9 => ?_⟩
          refine ⟨_, r9, rfl, st8.on sm9, sm9 _ _ f8, ?_⟩
          rw [sum_take1 ex]
          exact SqT.of e9
        · obtain ⟨z4, r, rfl, st8, f8, t8⟩ := hp
          have eT : ((ws.take k).map (·.2)).take (refs (ws.take k)).length = (ws.take k).map (·.2) := List.take_of_length_le (by rw [List.length_map, List.length_map]; exact Nat.le_refl _)
          rw [eT] at t8
          have hsh := sum_sh _ (0, 1) sh0 fun x hx => (hz2 x hx).1
          have hbd := sum_bd _ (0, 1) 70 sh0 bd01 hz2
          rw [List.length_map] at hbd
          have hb9 : Bd 1000 (sumS (0, 1) ((ws.take k).map (·.2))) := hbd.mono (by omega)
          have hBd : ∀ x ∈ (ws.take k).map (·.2), Bd 70 x := fun x hx => (hz2 x hx).2
          have sA : (dL ((ws.take k).map (·.2))).showable = true := by
            have z := showAll_dS _ hBd
            simpa only [dL, PyData.showable] using z
          have sB : (dL ((ws.take k).map (·.2))).hasDict = false := by
            have z := noDict_dS ((ws.take k).map (·.2))
            simpa only [dL, PyData.hasDict] using z
          have sC : (dL ((ws.take k).map (·.2))).depth ≤ 60 := by
            have z := depth_dS ((ws.take k).map (·.2))
            simp only [dL, PyData.depth]
            omega
          have sD := dL_len hBd (by rw [List.length_map]; exact lk)
          have dpF : ∀ {H' : Hp}, Stt Hb H' p S ws → H' Fw = some (.lst (refs (ws.take k))) → Dp K H' (.ref Fw) (dL ((ws.take k).map (·.2))) := fun st h =>
            .lst (SqL.of h) (dp_dL _ fun z hz => SqT.of (st.sh z (List.mem_of_mem_take hz)).1)
          -- kept
          refine ⟨_, rfl, Fw, _, rfl, dpF st8 f8, sA, sB, sC, sD, ?_⟩
          -- total
          refine ⟨_, rfl, Fw, T, ws.take k, (0, 1), rfl, SqL.of f8, lk, fun z hz => ⟨SqT.of (st8.sh z (List.mem_of_mem_take hz)).1, (st8.sh z (List.mem_of_mem_take hz)).2⟩, hT _, sh0, bd01, fun H9 r9 sm9 e9 => ?_⟩
          refine ⟨_, rfl, dS _, dS _, dp_sh e9, dp_sh (sm9.tp t8), shaped_dS _, shaped_dS _, _, rfl, ?_⟩
          rw [eqv_dS]
          refine iteF ?_
          have st9 := st8.on sm9
          have f9 := sm9 _ _ f8
          have t9 := sm9.tp t8
          -- total from the second on
          obtain ⟨w1, ew⟩ : ∃ w1, ws[1]? = some w1 := ⟨ws[1], List.getElem?_eq_getElem (by omega)⟩
          have hw1 : w1 ∈ ws := List.mem_of_getElem? ew
          obtain ⟨a1, a2, a3⟩ := st9.sh w1 hw1
          have at_ : atI (refs ws) 1 = some (.ref w1.1) := atI_nat (j := 1) (by
            show (List.map _ ws)[1]? = _
            rw [List.getElem?_map, ew]
            rfl)
          refine ⟨_, rfl, _, rfl, S, refs ws, 1, _, rfl, rfl, SqL.of st9.lst, at_, rfl, rfl, ?_⟩
          refine ⟨Fw, w1.1, ws.take k, w1.2, rfl, SqL.of f9, lk, fun z hz => ⟨SqT.of (st9.sh z (List.mem_of_mem_take hz)).1, (st9.sh z (List.mem_of_mem_take hz)).2⟩, SqT.of a1, a2, a3, fun HA rA smA eA => ?_⟩
          have stA := st9.on smA
          refine ⟨_, rfl, _, rfl, S, refs ws, 1, _, rfl, rfl, SqL.of stA.lst, at_, r, w1.1, _, w1.2, rfl, smA.tp t9, SqT.of (smA _ _ a1), hsh, a2, hb9, a3.mono (by decide), fun HB rB smB _ eB => ?_⟩
          have eq := sum_start (l := (ws.take k).map (·.2)) a2 fun x hx => (hz2 x hx).1
          rw [eq] at eA
          refine ⟨dS _, dS _, dp_sh (smB.tp eA), dp_sh (SqT.of eB), shaped_dS _, shaped_dS _, _, rfl, ?_⟩
          rw [eqv_dS]
          refine iteF ?_
          have stB := stA.on smB
          -- repr again
          refine ⟨_, rfl, Fw, _, rfl, dpF stB (smB _ _ (smA _ _ f9)), sA, sB, sC, sD, _, rfl, rfl, _, rfl, iteNS rfl ?_⟩
          exact ⟨_, _, _, _, _, _, _, _, _, rfl, sm0.trans stB.same⟩
  · obtain ⟨y1, y2, y3, y4, y5, y6, y7, y8, y9, rfl, sm0⟩ := hp
    exact rfl
end
end Gs

namespace Gs
open PySem PySem.Spec PyProof.Rows L2
/-! ### what the top has written -/
/-- a def of the text as the head tells it -/
abbrev FnL (K : PySem.W.Frag) (x : Str) (st : Stmt) (kV : Value) (f : Addr) (oc dc pm cd ct : Value) (od an : Option Addr) (sl : Array (Option Value)) : Prop :=
  K.lookup f = some ⟨oc, od, .func (PySem.W.fnOf x x (defArgs st) (defBody st) (defScope st) .none kV dc pm an cd ct), sl⟩
theorem all_mk {P : Program} {w : World} {K : PySem.W.Frag} {h : Heap} {mg : Str → Option Value} {fa C Gl_ D12 T : Addr} (X : K.In h) (G : h.Ns mainGlobals mg) (hfa : mg "law" = some (.ref fa))
    {f5 f6 f7 f8 f9 f10 f11 f14 f15 f16 f17 f18 f19 f20 f21 f22 f23 f12 : Addr} {od5 an5 od6 an6 od7 an7 od8 an8 od9 an9 od10 an10 od11 an11 od14 an14 od15 an15 od16 an16 od17 an17 od18 an18 od19 an19 od20 an20 od21 an21 od22 an22 od23 an23 od12 an12 : Option Addr} {sl5 sl6 sl7 sl8 sl9 sl10 sl11 sl14 sl15 sl16 sl17 sl18 sl19 sl20 sl21 sl22 sl23 sl12 : Array (Option Value)}
    {oc5 kV5 dc5 pm5 cd5 ct5 oc6 kV6 dc6 pm6 cd6 ct6 oc7 kV7 dc7 pm7 cd7 ct7 oc8 kV8 dc8 pm8 cd8 ct8 oc9 kV9 dc9 pm9 cd9 ct9 oc10 kV10 dc10 pm10 cd10 ct10 oc11 kV11 dc11 pm11 cd11 ct11 oc14 kV14 dc14 pm14 cd14 ct14 oc15 kV15 dc15 pm15 cd15 ct15 oc16 kV16 dc16 pm16 cd16 ct16 oc17 kV17 dc17 pm17 cd17 ct17 oc18 kV18 dc18 pm18 cd18 ct18 oc19 kV19 dc19 pm19 cd19 ct19 oc20 kV20 dc20 pm20 cd20 ct20 oc21 kV21 dc21 pm21 cd21 ct21 oc22 kV22 dc22 pm22 cd22 ct22 oc23 kV23 dc23 pm23 cd23 ct23 oc12 dc12 pm12 cd12 ct12 : Value}
    (a5 : PySem.W.nsIn K mainGlobals "divisor" = some (some (.ref f5))) (l5 : FnL K "divisor" sDiv kV5 f5 oc5 dc5 pm5 cd5 ct5 od5 an5 sl5)
    (c5 : PySem.W.codeIn K cd5 "divisor" = true) (k5 : PySem.W.keepIn K (.ref f5) = true)
    (a6 : PySem.W.nsIn K mainGlobals "reduced" = some (some (.ref f6))) (l6 : FnL K "reduced" sRed kV6 f6 oc6 dc6 pm6 cd6 ct6 od6 an6 sl6)
    (c6 : PySem.W.codeIn K cd6 "reduced" = true) (k6 : PySem.W.keepIn K (.ref f6) = true)
    (a7 : PySem.W.nsIn K mainGlobals "plus" = some (some (.ref f7))) (l7 : FnL K "plus" sPlus kV7 f7 oc7 dc7 pm7 cd7 ct7 od7 an7 sl7)
    (c7 : PySem.W.codeIn K cd7 "plus" = true) (k7 : PySem.W.keepIn K (.ref f7) = true)
    (a8 : PySem.W.nsIn K mainGlobals "minus" = some (some (.ref f8))) (l8 : FnL K "minus" sMinus kV8 f8 oc8 dc8 pm8 cd8 ct8 od8 an8 sl8)
    (c8 : PySem.W.codeIn K cd8 "minus" = true) (k8 : PySem.W.keepIn K (.ref f8) = true)
    (a9 : PySem.W.nsIn K mainGlobals "times" = some (some (.ref f9))) (l9 : FnL K "times" sTimes kV9 f9 oc9 dc9 pm9 cd9 ct9 od9 an9 sl9)
    (c9 : PySem.W.codeIn K cd9 "times" = true) (k9 : PySem.W.keepIn K (.ref f9) = true)
    (a10 : PySem.W.nsIn K mainGlobals "over" = some (some (.ref f10))) (l10 : FnL K "over" sOver kV10 f10 oc10 dc10 pm10 cd10 ct10 od10 an10 sl10)
    (c10 : PySem.W.codeIn K cd10 "over" = true) (k10 : PySem.W.keepIn K (.ref f10) = true)
    (a11 : PySem.W.nsIn K mainGlobals "less" = some (some (.ref f11))) (l11 : FnL K "less" sLess kV11 f11 oc11 dc11 pm11 cd11 ct11 od11 an11 sl11)
    (c11 : PySem.W.codeIn K cd11 "less" = true) (k11 : PySem.W.keepIn K (.ref f11) = true)
    (a14 : PySem.W.nsIn K mainGlobals "_law_left" = some (some (.ref f14))) (l14 : FnL K "_law_left" sLeft kV14 f14 oc14 dc14 pm14 cd14 ct14 od14 an14 sl14)
    (c14 : PySem.W.codeIn K cd14 "_law_left" = true) (k14 : PySem.W.keepIn K (.ref f14) = true)
    (a15 : PySem.W.nsIn K mainGlobals "_law_digit" = some (some (.ref f15))) (l15 : FnL K "_law_digit" sDigit kV15 f15 oc15 dc15 pm15 cd15 ct15 od15 an15 sl15)
    (c15 : PySem.W.codeIn K cd15 "_law_digit" = true) (k15 : PySem.W.keepIn K (.ref f15) = true)
    (a16 : PySem.W.nsIn K mainGlobals "_law_low" = some (some (.ref f16))) (l16 : FnL K "_law_low" sLow kV16 f16 oc16 dc16 pm16 cd16 ct16 od16 an16 sl16)
    (c16 : PySem.W.codeIn K cd16 "_law_low" = true) (k16 : PySem.W.keepIn K (.ref f16) = true)
    (a17 : PySem.W.nsIn K mainGlobals "_law_plus" = some (some (.ref f17))) (l17 : FnL K "_law_plus" sLPlus kV17 f17 oc17 dc17 pm17 cd17 ct17 od17 an17 sl17)
    (c17 : PySem.W.codeIn K cd17 "_law_plus" = true) (k17 : PySem.W.keepIn K (.ref f17) = true)
    (a18 : PySem.W.nsIn K mainGlobals "_law_times" = some (some (.ref f18))) (l18 : FnL K "_law_times" sLTimes kV18 f18 oc18 dc18 pm18 cd18 ct18 od18 an18 sl18)
    (c18 : PySem.W.codeIn K cd18 "_law_times" = true) (k18 : PySem.W.keepIn K (.ref f18) = true)
    (a19 : PySem.W.nsIn K mainGlobals "_law_share" = some (some (.ref f19))) (l19 : FnL K "_law_share" sShare kV19 f19 oc19 dc19 pm19 cd19 ct19 od19 an19 sl19)
    (c19 : PySem.W.codeIn K cd19 "_law_share" = true) (k19 : PySem.W.keepIn K (.ref f19) = true)
    (a20 : PySem.W.nsIn K mainGlobals "_law_drawn" = some (some (.ref f20))) (l20 : FnL K "_law_drawn" sDrawn kV20 f20 oc20 dc20 pm20 cd20 ct20 od20 an20 sl20)
    (c20 : PySem.W.codeIn K cd20 "_law_drawn" = true) (k20 : PySem.W.keepIn K (.ref f20) = true)
    (a21 : PySem.W.nsIn K mainGlobals "_law_over" = some (some (.ref f21))) (l21 : FnL K "_law_over" sLOver kV21 f21 oc21 dc21 pm21 cd21 ct21 od21 an21 sl21)
    (c21 : PySem.W.codeIn K cd21 "_law_over" = true) (k21 : PySem.W.keepIn K (.ref f21) = true)
    (a22 : PySem.W.nsIn K mainGlobals "_law_right" = some (some (.ref f22))) (l22 : FnL K "_law_right" sRight kV22 f22 oc22 dc22 pm22 cd22 ct22 od22 an22 sl22)
    (c22 : PySem.W.codeIn K cd22 "_law_right" = true) (k22 : PySem.W.keepIn K (.ref f22) = true)
    (a23 : PySem.W.nsIn K mainGlobals "law" = some (some (.ref f23))) (l23 : FnL K "law" sLaw kV23 f23 oc23 dc23 pm23 cd23 ct23 od23 an23 sl23)
    (c23 : PySem.W.codeIn K cd23 "law" = true) (k23 : PySem.W.keepIn K (.ref f23) = true)
    (a12 : PySem.W.nsIn K mainGlobals "total" = some (some (.ref f12))) (l12 : FnL K "total" sTotal (.ref D12) f12 oc12 dc12 pm12 cd12 ct12 od12 an12 sl12)
    (c12 : PySem.W.codeIn K cd12 "total" = true) (k12 : PySem.W.keepIn K (.ref f12) = true)
    (q1 : PySem.W.nsIn K D12 "start" = some (some (.ref T))) {oT : Obj} {nT : Nat} {t0 t1 : Tok}
    (q2 : K.lookup T = some oT) (q3 : oT.cls = .type "tuple") (q4 : oT.data = .seq #[.int 0 t0, .int 1 t1] nT)
    (gC : PySem.W.nsIn K mainGlobals "ByNought" = some (some (.ref C))) (gG : PySem.W.nsIn K mainGlobals "GlassError" = some (some (.ref Gl_)))
    (xC : PySem.W.excIn K C [.type "ZeroDivisionError", .type "ArithmeticError", .type "Exception", .type "BaseException", .type "object"] "ZeroDivisionError.__new__" = true)
    (kC : PySem.W.keepIn K (.ref C) = true) (bC : PySem.W.subIn K (.ref C) (.type "BaseException") = some true) (tC : PySem.W.typeIn K (.ref C) = some (.type "type"))
    (sC : PySem.W.subIn K (.ref C) (.ref C) = some true)
    (eg : PySem.W.findIn K (.ref C) "__getattribute__" = some (some (.builtin "BaseException.__getattribute__")))
    (ek : PySem.W.findIn K (.ref C) "__getattr__" = some none) (ed : PySem.W.hasDictIn K C = true)
    (ea : PySem.W.findIn K (.ref C) "__class__" = some (some (.builtin "object.__class__")))
    (en : PySem.W.specialIn K (.builtin "object.__class__") "__get__" = some (some (.builtin "getset_descriptor.__get__")))
    (et : PySem.W.takesIn K (.builtin "object.__class__") = some true) (em : PySem.W.mroIn K C (.type "object") = some true)
    (iZ : PySem.W.kitOne K (.ref C) (.type "ZeroDivisionError") = some true) (iG : PySem.W.kitOne K (.ref C) (.ref Gl_) = some false)
    (zA : PySem.W.nsIn K mainGlobals "abs" = some none) (zR : PySem.W.nsIn K mainGlobals "range" = some none) (zP : PySem.W.nsIn K mainGlobals "repr" = some none)
    (zI : PySem.W.nsIn K mainGlobals "isinstance" = some none) (zZ : PySem.W.nsIn K mainGlobals "ZeroDivisionError" = some none) (zB : PySem.W.nsIn K mainGlobals "bool" = some none)
    (base : Heap) (H : Hp) (s : Shared) (a : Addr) (ns : List Int) (hn : ns.length ≤ 63) (hS : SqL K H a (ns.map V.int))
    (e0 : Env0 P w K mg base callerA [] s H) :
    codeAny (model P w) callerA (.call (.ref fa) ⟨[.ref a], []⟩) (CR CX0 [] P w H s (fun v _ => v = .bl true) fun _ _ _ => False) s := by
  have e := hfa.symm.trans (PySem.W.mg_of X G a23)
  cases e
  have F5 := fun_mk (st := sDiv) l5 c5 k5
  have b5 := F5.binds (ps := ["one", "other"]) fun _ _ _ _ _ _ us hl => match us, hl with | [_, _], _ => rfl
  have g5 := PySem.W.mg_of X G a5
  have F6 := fun_mk (st := sRed) l6 c6 k6
  have b6 := F6.binds (ps := ["top", "bottom"]) fun _ _ _ _ _ _ us hl => match us, hl with | [_, _], _ => rfl
  have g6 := PySem.W.mg_of X G a6
  have F7 := fun_mk (st := sPlus) l7 c7 k7
  have b7 := F7.binds (ps := ["one", "other"]) fun _ _ _ _ _ _ us hl => match us, hl with | [_, _], _ => rfl
  have g7 := PySem.W.mg_of X G a7
  have F8 := fun_mk (st := sMinus) l8 c8 k8
  have b8 := F8.binds (ps := ["one", "other"]) fun _ _ _ _ _ _ us hl => match us, hl with | [_, _], _ => rfl
  have g8 := PySem.W.mg_of X G a8
  have F9 := fun_mk (st := sTimes) l9 c9 k9
  have b9 := F9.binds (ps := ["one", "other"]) fun _ _ _ _ _ _ us hl => match us, hl with | [_, _], _ => rfl
  have g9 := PySem.W.mg_of X G a9
  have F10 := fun_mk (st := sOver) l10 c10 k10
  have b10 := F10.binds (ps := ["one", "other"]) fun _ _ _ _ _ _ us hl => match us, hl with | [_, _], _ => rfl
  have g10 := PySem.W.mg_of X G a10
  have F11 := fun_mk (st := sLess) l11 c11 k11
  have b11 := F11.binds (ps := ["one", "other"]) fun _ _ _ _ _ _ us hl => match us, hl with | [_, _], _ => rfl
  have g11 := PySem.W.mg_of X G a11
  have F14 := fun_mk (st := sLeft) l14 c14 k14
  have b14 := F14.binds (ps := ["_law_cell"]) fun _ _ _ _ _ _ us hl => match us, hl with | [_], _ => rfl
  have g14 := PySem.W.mg_of X G a14
  have F15 := fun_mk (st := sDigit) l15 c15 k15
  have b15 := F15.binds (ps := ["_law_left_here", "_law_upto"]) fun _ _ _ _ _ _ us hl => match us, hl with | [_, _], _ => rfl
  have g15 := PySem.W.mg_of X G a15
  have F16 := fun_mk (st := sLow) l16 c16 k16
  have b16 := F16.binds (ps := ["_law_top", "_law_bottom"]) fun _ _ _ _ _ _ us hl => match us, hl with | [_, _], _ => rfl
  have g16 := PySem.W.mg_of X G a16
  have F17 := fun_mk (st := sLPlus) l17 c17 k17
  have b17 := F17.binds (ps := ["_law_one", "_law_other"]) fun _ _ _ _ _ _ us hl => match us, hl with | [_, _], _ => rfl
  have g17 := PySem.W.mg_of X G a17
  have F18 := fun_mk (st := sLTimes) l18 c18 k18
  have b18 := F18.binds (ps := ["_law_one", "_law_other"]) fun _ _ _ _ _ _ us hl => match us, hl with | [_, _], _ => rfl
  have g18 := PySem.W.mg_of X G a18
  have F19 := fun_mk (st := sShare) l19 c19 k19
  have b19 := F19.binds (ps := ["_law_left_here"]) fun _ _ _ _ _ _ us hl => match us, hl with | [_], _ => rfl
  have g19 := PySem.W.mg_of X G a19
  have F20 := fun_mk (st := sDrawn) l20 c20 k20
  have b20 := F20.binds (ps := ["_law_left_here"]) fun _ _ _ _ _ _ us hl => match us, hl with | [_], _ => rfl
  have g20 := PySem.W.mg_of X G a20
  have F21 := fun_mk (st := sLOver) l21 c21 k21
  have b21 := F21.binds (ps := ["_law_one", "_law_other"]) fun _ _ _ _ _ _ us hl => match us, hl with | [_, _], _ => rfl
  have g21 := PySem.W.mg_of X G a21
  have F22 := fun_mk (st := sRight) l22 c22 k22
  have b22 := F22.binds (ps := ["_law_one", "_law_other"]) fun _ _ _ _ _ _ us hl => match us, hl with | [_, _], _ => rfl
  have g22 := PySem.W.mg_of X G a22
  have g12 := PySem.W.mg_of X G a12
  have mA := PySem.W.mg_none_of X G zA
  have mR := PySem.W.mg_none_of X G zR
  have mP := PySem.W.mg_none_of X G zP
  have mI := PySem.W.mg_none_of X G zI
  have mZ := PySem.W.mg_none_of X G zZ
  have mB := PySem.W.mg_none_of X G zB
  have FT : FunT K T f12 _ := ⟨⟨oc12, od12, .none, .ref D12, dc12, pm12, an12, cd12, ct12, sl12, rfl, l12, c12, .inl ⟨rfl, rfl⟩, .inr ⟨D12, rfl, fun q hq => by
    rw [List.mem_singleton] at hq
    subst hq
    exact ⟨_, q1, rfl⟩⟩⟩, k12⟩
  have hT : ∀ H : Hp, TP K H T (0, 1) := fun H => .inr ⟨oT, _, nT, q2, q3, q4, by show 2 ≤ sizeLine; decide, .cons ⟨t0, rfl⟩ (.cons ⟨t1, rfl⟩ .nil)⟩
  have CK : ExcC K C := ⟨eg, ek, bC, ed, ea, en, et, em⟩
  have okR : FnOk P w K mg base CX0 2 f6 _ ["top", "bottom"] spRed := ok_red F6 F5 b5 g5 mA
  have PL : Cl P w K mg base CX0 3 "plus" ["one", "other"] (spTwo K pl) f7 _ := ⟨g7, ok_plus F7 okR k6 b6 g6, k7, b7⟩
  have MI : Cl P w K mg base CX0 4 "minus" ["one", "other"] (spTwo K fun x y => pl x (ng y)) f8 _ := ⟨g8, ok_minus F8 PL.ok k7 b7 g7, k8, b8⟩
  have TI : Cl P w K mg base CX0 3 "times" ["one", "other"] (spTwo K tm) f9 _ := ⟨g9, ok_times F9 okR k6 b6 g6, k9, b9⟩
  have OV : Cl P w K mg base (L2.CX P w) 3 "over" ["one", "other"] (spOver K C) f10 _ := ⟨g10, ok_over F10 okR k6 b6 g6 (PySem.W.mg_of X G gC) xC kC bC tC, k10, b10⟩
  have LE : Cl P w K mg base CX0 1 "less" ["one", "other"] (spLess K) f11 _ := ⟨g11, ok_less F11, k11, b11⟩
  have LF : Cl P w K mg base CX0 1 "_law_left" ["_law_cell"] spLeft f14 _ := ⟨g14, ok_left F14 mA mR, k14, b14⟩
  have DI : Cl P w K mg base CX0 1 "_law_digit" ["_law_left_here", "_law_upto"] spDigit f15 _ := ⟨g15, ok_digit F15, k15, b15⟩
  have LW : Cl P w K mg base CX0 1 "_law_low" ["_law_top", "_law_bottom"] spRed f16 _ := ⟨g16, ok_low F16 mA, k16, b16⟩
  have LP : Cl P w K mg base CX0 2 "_law_plus" ["_law_one", "_law_other"] (spTwo K pl) f17 _ := ⟨g17, ok_lplus F17 LW.ok k16 b16 g16, k17, b17⟩
  have LT : Cl P w K mg base CX0 2 "_law_times" ["_law_one", "_law_other"] (spTwo K tm) f18 _ := ⟨g18, ok_ltimes F18 LW.ok k16 b16 g16, k18, b18⟩
  have SH : FnOk P w K mg base CX0 2 f19 _ ["_law_left_here"] spDraw := ok_share F19 LW.ok k16 b16 g16 DI.ok k15 b15 g15
  have DR : Cl P w K mg base CX0 3 "_law_drawn" ["_law_left_here"] spDraw f20 _ := ⟨g20, ok_drawn F20 LW.ok k16 b16 g16 DI.ok k15 b15 g15 SH k19 b19 g19, k20, b20⟩
  have LO : Cl P w K mg base CX0 4 "_law_over" ["_law_one", "_law_other"] (spLOver K) f21 _ :=
    ⟨g21, ok_lover F21 OV (PySem.W.mg_of X G gC) (PySem.W.exm_ref bC ed tC sC) CK iZ (PySem.W.mg_of X G gG) iG mI mZ, k21, b21⟩
  have RI : Cl P w K mg base CX0 5 "_law_right" ["_law_one", "_law_other"] (spRight K) f22 _ := ⟨g22, ok_right F22 PL LP MI TI LT LO LW LE mI mB, k22, b22⟩
  have TO : FnOk P w K mg base CX0 4 f12 _ ["some", "start"] (spTotal K) := ok_total FT PL.ok k7 b7 g7
  refine body_at (k := 5) (N := NL) (ps := ["_law_script"]) (vs := [.ref a]) (us := [.ref a]) l23 c23 scLaw rfl ⟨rfl, by decide, by decide⟩ e0 (.of_eq rfl) (.cons rfl .nil) fun hr => ?_
  exact law_body LF DR RI DI LP TO g12 FT hT mR mP hr hS hn
end Gs

open PySem PySem.W PyProof.Rows
set_option maxHeartbeats 0 in
theorem PySem.Challenge.cw_glassladder_k02_shares_reckoned_holds : PySem.Challenge.rw_glassladder_k02_shares_reckoned.Holds := by
  w_on; o_law; k_head; (case hw => w_witness2)
  k_fill
  refine Gs.walk_at1 (l := PySem.Challenge.rw_glassladder_k02_shares_reckoned) (n := 63) rfl (by decide) rfl (fun w h Y => PySem.W.kIn_of Y) ?F
  case F =>
    intro w mg fa h KX G hmg base H s a ns hn _ _ hS e0
    refine' Gs.all_mk KX G hmg ?a5 ?l5 ?c5 ?k5 ?a6 ?l6 ?c6 ?k6 ?a7 ?l7 ?c7 ?k7 ?a8 ?l8 ?c8 ?k8 ?a9 ?l9 ?c9 ?k9 ?a10 ?l10 ?c10 ?k10 ?a11 ?l11 ?c11 ?k11 ?a14 ?l14 ?c14 ?k14 ?a15 ?l15 ?c15 ?k15 ?a16 ?l16 ?c16 ?k16 ?a17 ?l17 ?c17 ?k17 ?a18 ?l18 ?c18 ?k18 ?a19 ?l19 ?c19 ?k19 ?a20 ?l20 ?c20 ?k20 ?a21 ?l21 ?c21 ?k21 ?a22 ?l22 ?c22 ?k22 ?a23 ?l23 ?c23 ?k23 ?a12 ?l12 ?c12 ?k12 ?q1 ?q2 ?q3 ?q4 ?gC ?gG ?xC ?kC ?bC ?tC ?sC ?eg ?ek ?ed ?ea ?en ?et ?em ?iZ ?iG ?zA ?zR ?zP ?zI ?zZ ?zB base H s a ns hn hS e0
    (case a5 => first | rfl | k_is)
    (case l5 => first | rfl | k_is)
    (case c5 => first | rfl | k_is)
    (case k5 => first | rfl | k_is)
    (case a6 => first | rfl | k_is)
    (case l6 => first | rfl | k_is)
    (case c6 => first | rfl | k_is)
    (case k6 => first | rfl | k_is)
    (case a7 => first | rfl | k_is)
    (case l7 => first | rfl | k_is)
    (case c7 => first | rfl | k_is)
    (case k7 => first | rfl | k_is)
    (case a8 => first | rfl | k_is)
    (case l8 => first | rfl | k_is)
    (case c8 => first | rfl | k_is)
    (case k8 => first | rfl | k_is)
    (case a9 => first | rfl | k_is)
    (case l9 => first | rfl | k_is)
    (case c9 => first | rfl | k_is)
    (case k9 => first | rfl | k_is)
    (case a10 => first | rfl | k_is)
    (case l10 => first | rfl | k_is)
    (case c10 => first | rfl | k_is)
    (case k10 => first | rfl | k_is)
    (case a11 => first | rfl | k_is)
    (case l11 => first | rfl | k_is)
    (case c11 => first | rfl | k_is)
    (case k11 => first | rfl | k_is)
    (case a14 => first | rfl | k_is)
    (case l14 => first | rfl | k_is)
    (case c14 => first | rfl | k_is)
    (case k14 => first | rfl | k_is)
    (case a15 => first | rfl | k_is)
    (case l15 => first | rfl | k_is)
    (case c15 => first | rfl | k_is)
    (case k15 => first | rfl | k_is)
    (case a16 => first | rfl | k_is)
    (case l16 => first | rfl | k_is)
    (case c16 => first | rfl | k_is)
    (case k16 => first | rfl | k_is)
    (case a17 => first | rfl | k_is)
    (case l17 => first | rfl | k_is)
    (case c17 => first | rfl | k_is)
    (case k17 => first | rfl | k_is)
    (case a18 => first | rfl | k_is)
    (case l18 => first | rfl | k_is)
    (case c18 => first | rfl | k_is)
    (case k18 => first | rfl | k_is)
    (case a19 => first | rfl | k_is)
    (case l19 => first | rfl | k_is)
    (case c19 => first | rfl | k_is)
    (case k19 => first | rfl | k_is)
    (case a20 => first | rfl | k_is)
    (case l20 => first | rfl | k_is)
    (case c20 => first | rfl | k_is)
    (case k20 => first | rfl | k_is)
    (case a21 => first | rfl | k_is)
    (case l21 => first | rfl | k_is)
    (case c21 => first | rfl | k_is)
    (case k21 => first | rfl | k_is)
    (case a22 => first | rfl | k_is)
    (case l22 => first | rfl | k_is)
    (case c22 => first | rfl | k_is)
    (case k22 => first | rfl | k_is)
    (case a23 => first | rfl | k_is)
    (case l23 => first | rfl | k_is)
    (case c23 => first | rfl | k_is)
    (case k23 => first | rfl | k_is)
    (case a12 => first | rfl | k_is)
    (case l12 => first | rfl | k_is)
    (case c12 => first | rfl | k_is)
    (case k12 => first | rfl | k_is)
    (case q1 => first | rfl | k_is)
    (case q2 => first | rfl | k_is)
    (case q3 => first | rfl | k_is)
    (case q4 => first | rfl | k_is)
    (case gC => first | rfl | k_is)
    (case gG => first | rfl | k_is)
    (case xC => k_exc)
    (case kC => first | rfl | k_is)
    (case bC => first | rfl | k_is)
    (case tC => first | rfl | k_is)
    (case sC => first | rfl | k_is)
    (case eg => first | rfl | k_is)
    (case ek => first | rfl | k_is)
    (case ed => first | rfl | k_is)
    (case ea => first | rfl | k_is)
    (case en => first | rfl | k_is)
    (case et => first | rfl | k_is)
    (case em => first | rfl | k_is)
    (case iZ => first | rfl | k_is)
    (case iG => first | rfl | k_is)
    (case zA => first | rfl | k_is)
    (case zR => first | rfl | k_is)
    (case zP => first | rfl | k_is)
    (case zI => first | rfl | k_is)
    (case zZ => first | rfl | k_is)
    (case zB => first | rfl | k_is)
