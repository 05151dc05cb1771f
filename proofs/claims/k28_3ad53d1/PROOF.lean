import PyProof.Rows.All
import Wide.All
import OpenK.AllK
import Wide.FinOn
import ExtF
import PySem.Challenge.RW_tariffgate_k28_chief_and_alone
set_option linter.all false
namespace Mth
/-- the law's cell: the script's, or one made of it -/
def cell (ns : List Int) (k : Int) : Int :=
  if k < (ns.length : Int) then ns.getD k.toNat 0 % 10 ^ 60
  else (if 0 < (ns.length : Int) then ns.getD (k * 7 % (ns.length : Int)).toNat 0 % 10 ^ 60 * 48271 + k * k * 69621 else 7919 * k + 5) % 2147483647 * 16807 % 2147483629
theorem cell_in (ns : List Int) (k : Int) : 0 ≤ cell ns k ∧ cell ns k < 10 ^ 60 := by
  unfold cell
  split
  · have h1 := Int.emod_nonneg (ns.getD k.toNat 0) (show (10 ^ 60 : Int) ≠ 0 by decide)
    have h2 := Int.emod_lt_of_pos (ns.getD k.toNat 0) (show (0 : Int) < 10 ^ 60 by decide)
    exact ⟨h1, h2⟩
  · generalize (if 0 < (ns.length : Int) then ns.getD (k * 7 % (ns.length : Int)).toNat 0 % 10 ^ 60 * 48271 + k * k * 69621 else 7919 * k + 5) % 2147483647 * 16807 = z
    have h1 := Int.emod_nonneg z (show (2147483629 : Int) ≠ 0 by decide)
    have h2 := Int.emod_lt_of_pos z (show (0 : Int) < 2147483629 by decide)
    have h3 : (2147483629 : Int) ≤ 10 ^ 60 := by decide
    exact ⟨h1, by omega⟩

/-! the greatest common divisor -/
def gcd (a b : Int) : Int := (Int.gcd a b : Nat)
theorem gcd_nn (a b : Int) : 0 ≤ gcd a b := Int.natCast_nonneg _
theorem gcd_zero {a : Int} (h : 0 ≤ a) : gcd a 0 = a := by
  unfold gcd
  rw [Int.gcd_zero_right]
  omega
theorem gcd_comm (a b : Int) : gcd a b = gcd b a := by
  unfold gcd
  rw [Int.gcd_comm]
theorem gcd_abs (a b : Int) : gcd (if a < 0 then -a else a) (if b < 0 then -b else b) = gcd a b := by
  unfold gcd
  have e1 : (if a < 0 then -a else a).natAbs = a.natAbs := by split <;> omega
  have e2 : (if b < 0 then -b else b).natAbs = b.natAbs := by split <;> omega
  show ((Nat.gcd _ _ : Nat) : Int) = ((Nat.gcd _ _ : Nat) : Int)
  rw [e1, e2]
theorem gcd_abs1 (a b : Int) : gcd (if a < 0 then -a else a) b = gcd a b := by
  unfold gcd
  have e1 : (if a < 0 then -a else a).natAbs = a.natAbs := by split <;> omega
  show ((Nat.gcd _ _ : Nat) : Int) = ((Nat.gcd _ _ : Nat) : Int)
  rw [e1]
theorem gcd_step {a b : Int} (ha : 0 ≤ a) (hb : 0 < b) : gcd b (a % b) = gcd a b := by
  unfold gcd
  congr 1
  show Nat.gcd _ _ = Nat.gcd _ _
  have e : (a % b).natAbs = a.natAbs % b.natAbs := by
    rw [Int.natAbs_emod_of_nonneg ha]
  rw [e, Nat.gcd_comm a.natAbs, Nat.gcd_rec b.natAbs a.natAbs, Nat.gcd_comm]
  
theorem gcd_more {q x y : Int} : gcd (q * x + y) x = gcd x y := by
  unfold gcd
  congr 1
  rw [Int.gcd_comm]
  rw [Int.add_comm]
  exact Int.gcd_add_mul_right_right ..
theorem gcd_times {x y c s t : Int} (h : gcd x y = 1) (hc : 0 ≤ c) (hs : s = 1 ∨ s = -1) (ht : t = 1 ∨ t = -1) : gcd (x * c * s) (y * c * t) = c := by
  unfold gcd at *
  have e1 : (x * c * s).natAbs = x.natAbs * c.natAbs := by
    rw [Int.natAbs_mul, Int.natAbs_mul]
    rcases hs with rfl | rfl <;> simp
  have e2 : (y * c * t).natAbs = y.natAbs * c.natAbs := by
    rw [Int.natAbs_mul, Int.natAbs_mul]
    rcases ht with rfl | rfl <;> simp
  show ((Nat.gcd _ _ : Nat) : Int) = _
  rw [e1, e2, Nat.gcd_mul_right]
  have h' : Nat.gcd x.natAbs y.natAbs = 1 := by
    have : ((Nat.gcd x.natAbs y.natAbs : Nat) : Int) = 1 := h
    omega
  rw [h', Nat.one_mul]
  omega
theorem gcd_dvd_left (a b : Int) : gcd a b ∣ a := Int.gcd_dvd_left ..
theorem gcd_dvd_right (a b : Int) : gcd a b ∣ b := Int.gcd_dvd_right ..
theorem gcd_pos {a b : Int} (h : b ≠ 0) : 0 < gcd a b := by
  have : 0 < Int.gcd a b := Int.gcd_pos_of_ne_zero_right a h
  unfold gcd
  omega
/-- both by their divisor have no other -/
theorem gcd_div {a b : Int} (h : b ≠ 0) : gcd (a / gcd a b) (b / gcd a b) = 1 := by
  unfold gcd
  have hp : 0 < Int.gcd a b := Int.gcd_pos_of_ne_zero_right a h
  have := Int.gcd_ediv_gcd_ediv_gcd hp
  rw [this]
  rfl
theorem gcd_neg (a b : Int) : gcd (-a) (-b) = gcd a b := by
  unfold gcd
  rw [Int.gcd_neg, Int.neg_gcd]
/-! shares -/
/-- what a share's two numbers are worth, lowest -/
structure IsShare (t b x y : Int) : Prop where
  pos : 0 < y
  low : gcd x y = 1
  eq : x * b = t * y
  le1 : x.natAbs ≤ t.natAbs
  le2 : y.natAbs ≤ b.natAbs
theorem share_ok {t b : Int} (hb : b ≠ 0) : IsShare t b (t.fdiv (if b < 0 then -(gcd t b) else gcd t b)) (b.fdiv (if b < 0 then -(gcd t b) else gcd t b)) := by
  have hg := gcd_pos (a := t) hb
  obtain ⟨c, hc⟩ : ∃ c, c = (if b < 0 then -(gcd t b) else gcd t b) := ⟨_, rfl⟩
  rw [← hc]
  have c0 : c ≠ 0 := by rw [hc]; split <;> omega
  have cg : (c.natAbs : Int) = gcd t b := by rw [hc]; split <;> omega
  have d1 : c ∣ t := by
    rw [hc]; split
    · exact Int.neg_dvd.mpr (gcd_dvd_left t b)
    · exact gcd_dvd_left t b
  have d2 : c ∣ b := by
    rw [hc]; split
    · exact Int.neg_dvd.mpr (gcd_dvd_right t b)
    · exact gcd_dvd_right t b
  obtain ⟨k, hk⟩ := d1
  obtain ⟨m, hm⟩ := d2
  have e1 : t.fdiv c = k := by rw [hk]; exact Int.mul_fdiv_cancel_left k c0
  have e2 : b.fdiv c = m := by rw [hm]; exact Int.mul_fdiv_cancel_left m c0
  rw [e1, e2]
  have n1 : t.natAbs = c.natAbs * k.natAbs := by rw [hk, Int.natAbs_mul]
  have n2 : b.natAbs = c.natAbs * m.natAbs := by rw [hm, Int.natAbs_mul]
  have cp : 0 < c.natAbs := by omega
  refine ⟨?_, ?_, ?_, ?_, ?_⟩
  · -- the sign
    by_cases hneg : b < 0
    · have cn : c < 0 := by rw [hc, if_pos hneg]; omega
      rcases Int.lt_trichotomy m 0 with h | h | h
      · have := Int.mul_pos_of_neg_of_neg cn h; omega
      · rw [h, Int.mul_zero] at hm; omega
      · exact h
    · have cn : 0 < c := by rw [hc, if_neg hneg]; omega
      rcases Int.lt_trichotomy m 0 with h | h | h
      · have := Int.mul_neg_of_pos_of_neg cn h; omega
      · rw [h, Int.mul_zero] at hm; omega
      · exact h
  · have q : gcd t b = ((c.natAbs * Nat.gcd k.natAbs m.natAbs : Nat) : Int) := by
      show ((Nat.gcd t.natAbs b.natAbs : Nat) : Int) = _
      rw [n1, n2, Nat.gcd_mul_left]
    rw [← cg] at q
    have q' : c.natAbs = c.natAbs * Nat.gcd k.natAbs m.natAbs := by omega
    have q2 : Nat.gcd k.natAbs m.natAbs = 1 := by
      have := Nat.eq_of_mul_eq_mul_left cp (show c.natAbs * 1 = c.natAbs * Nat.gcd k.natAbs m.natAbs by omega)
      omega
    show ((Nat.gcd k.natAbs m.natAbs : Nat) : Int) = 1
    rw [q2]
    rfl
  · rw [hm, hk, Int.mul_left_comm, Int.mul_assoc]
  · rw [n1]; exact Nat.le_mul_of_pos_left _ cp
  · rw [n2]; exact Nat.le_mul_of_pos_left _ cp
/-- the law's own way down: by their divisor, the bottom above nought -/
theorem share_div {t b : Int} (hb : 0 < b) : IsShare t b (t / gcd t b) (b / gcd t b) := by
  have hg := gcd_pos (a := t) (b := b) (by omega)
  have h := share_ok (t := t) (b := b) (by omega)
  rw [if_neg (by omega), Int.fdiv_eq_ediv_of_nonneg _ (by omega), Int.fdiv_eq_ediv_of_nonneg _ (by omega)] at h
  exact h
theorem lowest {a b : Int} (h : gcd a b = 1) : gcd (if a < 0 then -a else a) b = 1 := by rw [gcd_abs1]; exact h
theorem div_le {t b : Int} (hb : 0 < b) : (t / b).natAbs ≤ t.natAbs := by
  have e := Int.mul_ediv_add_emod t b
  have r0 := Int.emod_nonneg t (show b ≠ 0 by omega)
  have r1 := Int.emod_lt_of_pos t hb
  generalize t / b = q at *
  generalize t % b = r at *
  rcases Int.lt_or_le q 0 with h | h
  · have h1 : b * (q + 1) ≤ 1 * (q + 1) := Int.mul_le_mul_of_nonpos_right (by omega) (by omega)
    have h2 : b * (q + 1) = b * q + b := by rw [Int.mul_add, Int.mul_one]
    omega
  · have h1 : 1 * q ≤ b * q := Int.mul_le_mul_of_nonneg_right (by omega) h
    omega
theorem div_mod (t b : Int) : t / b * b + t % b = t := by
  have e := Int.mul_ediv_add_emod t b
  rw [Int.mul_comm] at e
  exact e
/-! sums of shares -/
def tot (s r : Int × Int) : Int × Int := (s.1 * r.2 + r.1 * s.2, s.2 * r.2)
def sumS (l : List (Int × Int)) : Int × Int := l.foldl tot (0, 1)
theorem tot_comm (s a b : Int × Int) : tot (tot s a) b = tot (tot s b) a := by
  unfold tot
  refine Prod.ext ?_ ?_
  · show (s.1 * a.2 + a.1 * s.2) * b.2 + b.1 * (s.2 * a.2) = (s.1 * b.2 + b.1 * s.2) * a.2 + a.1 * (s.2 * b.2)
    rw [Int.add_mul, Int.add_mul, Int.mul_right_comm s.1 a.2 b.2, Int.mul_assoc a.1 s.2 b.2, Int.mul_assoc b.1 s.2 a.2]
    omega
  · show s.2 * a.2 * b.2 = s.2 * b.2 * a.2
    exact Int.mul_right_comm ..
theorem fold_tot (l : List (Int × Int)) : ∀ s a, tot (l.foldl tot s) a = l.foldl tot (tot s a) := by
  induction l with
  | nil => intro s a; rfl
  | cons b l ih => intro s a; rw [List.foldl_cons, List.foldl_cons, ih, tot_comm]
theorem sum_rev (l : List (Int × Int)) : ∀ s, l.reverse.foldl tot s = l.foldl tot s := by
  induction l with
  | nil => intro s; rfl
  | cons b l ih => intro s; rw [List.reverse_cons, List.foldl_append, ih, List.foldl_cons, List.foldl_cons, List.foldl_nil, fold_tot]
theorem sumS_rev (l : List (Int × Int)) : sumS l.reverse = sumS l := sum_rev l _
theorem sumS_snoc (l : List (Int × Int)) (r : Int × Int) : sumS (l ++ [r]) = tot (sumS l) r := by unfold sumS; rw [List.foldl_append]; rfl
theorem sumS_take {l : List (Int × Int)} {i : Nat} {r : Int × Int} (h : l[i]? = some r) : sumS (l.take (i + 1)) = tot (sumS (l.take i)) r := by
  rw [List.take_add_one, h]
  exact sumS_snoc ..
theorem sumS_pos (l : List (Int × Int)) : ∀ s, 0 < s.2 → (∀ r ∈ l, 0 < r.2) → 0 < (l.foldl tot s).2 := by
  induction l with
  | nil => intro s h _; exact h
  | cons b l ih =>
    intro s h hb
    exact ih _ (Int.mul_pos h (hb b (List.mem_cons_self ..))) fun r hr => hb r (List.mem_cons_of_mem _ hr)
/-- x / y is lowest and worth T -/
structure Low (T : Int × Int) (x y : Int) : Prop where
  pos : 0 < y
  low : gcd x y = 1
  eq : x * T.2 = T.1 * y
theorem low_zero : Low (0, 1) 0 1 := ⟨by decide, by decide, by decide⟩
theorem low_step {T : Int × Int} {x y u c x' y' : Int} (h : Low T x y) (hs : IsShare (x * c + u * y) (y * c) x' y') (hc : 0 < c) : Low (tot T (u, c)) x' y' := by
  refine ⟨hs.pos, hs.low, ?_⟩
  have e := hs.eq
  have e0 := h.eq
  show x' * (T.2 * c) = (T.1 * c + u * T.2) * y'
  have hy := h.pos
  apply Int.eq_of_mul_eq_mul_left (show y ≠ 0 by omega)
  have e1 : y * (x' * (T.2 * c)) = x' * (y * c) * T.2 := by
    rw [Int.mul_comm T.2 c, ← Int.mul_assoc x', ← Int.mul_assoc y, Int.mul_left_comm y x' c, ]
  rw [e1, e]
  have e2 : y * ((T.1 * c + u * T.2) * y') = (T.1 * y * c + u * y * T.2) * y' := by
    rw [← Int.mul_assoc, Int.mul_add]
    congr 2
    · rw [← Int.mul_assoc, Int.mul_comm y T.1]
    · rw [← Int.mul_assoc, Int.mul_comm y u]
  rw [e2, ← e0, Int.add_mul, Int.add_mul, Int.add_mul]
  congr 1
  · rw [Int.mul_right_comm (x * c), Int.mul_right_comm x c T.2]
  · rw [Int.mul_right_comm]
theorem dvd_low {x y z : Int} (h : gcd x y = 1) (d : y ∣ x * z) : y ∣ z := by
  have h1 : Nat.gcd x.natAbs y.natAbs = 1 := by
    have : ((Nat.gcd x.natAbs y.natAbs : Nat) : Int) = 1 := h
    omega
  have d1 : y.natAbs ∣ x.natAbs * z.natAbs := by
    rw [← Int.natAbs_mul]
    exact Int.natAbs_dvd_natAbs.mpr d
  exact Int.natAbs_dvd_natAbs.mp (Nat.Coprime.dvd_of_dvd_mul_left (Nat.Coprime.symm h1) d1)
theorem low_unique {T : Int × Int} {x y x' y' : Int} (h : Low T x y) (h' : Low T x' y') (hT : 0 < T.2) : x = x' ∧ y = y' := by
  have e : x * y' = x' * y := by
    apply Int.eq_of_mul_eq_mul_left (show T.2 ≠ 0 by omega)
    have a1 : T.2 * (x * y') = x * T.2 * y' := by rw [Int.mul_left_comm, Int.mul_assoc]
    have a2 : T.2 * (x' * y) = x' * T.2 * y := by rw [Int.mul_left_comm, Int.mul_assoc]
    rw [a1, a2, h.eq, h'.eq, Int.mul_right_comm]
  have d1 : y ∣ y' := by
    have : y ∣ x * y' := ⟨x', by rw [e, Int.mul_comm]⟩
    exact dvd_low h.low this
  have d2 : y' ∣ y := by
    have : y' ∣ x' * y := ⟨x, by rw [← e, Int.mul_comm]⟩
    exact dvd_low h'.low this
  have p1 := h.pos
  have p2 := h'.pos
  have l1 := Int.le_of_dvd p2 d1
  have l2 := Int.le_of_dvd p1 d2
  have ey : y = y' := by omega
  subst ey
  exact ⟨Int.eq_of_mul_eq_mul_right (by omega) e, rfl⟩
end Mth

set_option Elab.async false
set_option linter.all false
set_option maxRecDepth 100000
set_option maxHeartbeats 4000000
namespace My
open PySem L2
def spLaw (K : PySem.W.Frag) : Sp := fun vs H Q _ => ∃ (a : Addr) (ns : List Int), vs = [.ref a] ∧ SqL K H a (ns.map V.int) ∧ ns.length ≤ 63 ∧ ∀ H', Q (.bl true) H'
theorem atI_map {ns : List Int} {k : Int} (h0 : 0 ≤ k) (h1 : k < ns.length) : atI (ns.map V.int) k = some (.int (ns.getD k.toNat 0)) := by
  have e : k = ((k.toNat : Nat) : Int) := by omega
  have h2 : k.toNat < ns.length := by omega
  have q : (ns.map V.int)[k.toNat]? = some (.int (ns.getD k.toNat 0)) := by
    rw [List.getElem?_map, List.getElem?_eq_getElem h2]
    simp [List.getD, h2]
  have := atI_nat q
  rw [← e] at this
  exact this
theorem bitsN {n : Nat} {i : Int} (lo : -(10 ^ 61) ≤ i) (hi : i ≤ 10 ^ 61) (hn : 204 ≤ n := by decide) : Bits n i := (Bits.of (n := 204) (b := 10 ^ 61) lo hi (by decide)).mono hn
theorem same_new {H : Hp} {p : Addr} (h : H p = none) (o : HO) : Same H (upd H p o) := fun b u q => by rw [upd_ne (ne_of_none q h)]; exact q
theorem Same.tup {K : PySem.W.Frag} {H H' : Hp} {a : Addr} {xs : List V} (e : Same H H') (h : SqT K H a xs) : SqT K H' a xs := by
  rcases h with (h | ⟨o, h⟩) | h
  · exact .inl (.inl (e _ _ h))
  · exact .inl (.inr ⟨o, e _ _ h⟩)
  · exact .inr h
theorem cpow {n : Int} (h0 : 0 ≤ n := by decide) (h1 : n ≤ 1000000 := by decide) : CPow 10 n := ⟨h0, h1, by decide⟩
theorem ten_pos (n : Nat) : (0 : Int) < 10 ^ n := Int.pow_pos (by decide)
theorem cmul {i j : Int} (a : -(10 ^ 61) ≤ i) (b : i ≤ 10 ^ 61) (c : -(10 ^ 61) ≤ j) (d : j ≤ 10 ^ 61) : CMulB i j := ⟨bitsN a b, bitsN c d⟩
theorem cdiv {i j : Int} (a : 0 < j) (b : j ≤ 10 ^ 61) : CDivB i j := ⟨a, bitsN (by omega) b⟩
theorem getD_at {α : Type} {ws : List α} {j : Nat} {d : α} (h : j < ws.length) : ws.getD j d = ws[j] := by simp only [List.getD, List.getElem?_eq_getElem h, Option.getD_some]
theorem ixN_nat {n j : Nat} (h : j < n) : ixN n (j : Int) = some j := by
  unfold ixN
  rw [if_pos (by omega), if_pos (by omega)]
  rfl

def top (i : Nat) : Stmt := PySem.Challenge.pw_tariffgate_k28_chief_and_alone.main.body.getD i (.Pass ⟨0, 0, 0, 0⟩)
theorem dn_look : (("look" : Str) == ("__debug__" : Str)) = false := by decide
theorem dc_look : (("look" : Str) == ("__classdict__" : Str)) = false := by decide
theorem nn_look : ("look" : Str) ≠ "__name__" := by decide
theorem dn_max : (("max" : Str) == ("__debug__" : Str)) = false := by decide
theorem dc_max : (("max" : Str) == ("__classdict__" : Str)) = false := by decide
theorem nn_max : ("max" : Str) ≠ "__name__" := by decide
theorem dn_chief : (("chief" : Str) == ("__debug__" : Str)) = false := by decide
theorem dc_chief : (("chief" : Str) == ("__classdict__" : Str)) = false := by decide
theorem nn_chief : ("chief" : Str) ≠ "__name__" := by decide
theorem dn_chief_of : (("chief_of" : Str) == ("__debug__" : Str)) = false := by decide
theorem dc_chief_of : (("chief_of" : Str) == ("__classdict__" : Str)) = false := by decide
theorem nn_chief_of : ("chief_of" : Str) ≠ "__name__" := by decide
theorem dn_tuple : (("tuple" : Str) == ("__debug__" : Str)) = false := by decide
theorem dc_tuple : (("tuple" : Str) == ("__classdict__" : Str)) = false := by decide
theorem nn_tuple : ("tuple" : Str) ≠ "__name__" := by decide
theorem dn_place : (("place" : Str) == ("__debug__" : Str)) = false := by decide
theorem dc_place : (("place" : Str) == ("__classdict__" : Str)) = false := by decide
theorem nn_place : ("place" : Str) ≠ "__name__" := by decide
theorem dn_range : (("range" : Str) == ("__debug__" : Str)) = false := by decide
theorem dc_range : (("range" : Str) == ("__classdict__" : Str)) = false := by decide
theorem nn_range : ("range" : Str) ≠ "__name__" := by decide
theorem dn_len : (("len" : Str) == ("__debug__" : Str)) = false := by decide
theorem dc_len : (("len" : Str) == ("__classdict__" : Str)) = false := by decide
theorem nn_len : ("len" : Str) ≠ "__name__" := by decide
theorem dn__law_script : (("_law_script" : Str) == ("__debug__" : Str)) = false := by decide
theorem dc__law_script : (("_law_script" : Str) == ("__classdict__" : Str)) = false := by decide
theorem nn__law_script : ("_law_script" : Str) ≠ "__name__" := by decide
theorem dn__law_k : (("_law_k" : Str) == ("__debug__" : Str)) = false := by decide
theorem dc__law_k : (("_law_k" : Str) == ("__classdict__" : Str)) = false := by decide
theorem nn__law_k : ("_law_k" : Str) ≠ "__name__" := by decide
theorem dn__law_cell : (("_law_cell" : Str) == ("__debug__" : Str)) = false := by decide
theorem dc__law_cell : (("_law_cell" : Str) == ("__classdict__" : Str)) = false := by decide
theorem nn__law_cell : ("_law_cell" : Str) ≠ "__name__" := by decide
theorem dn__law_many : (("_law_many" : Str) == ("__debug__" : Str)) = false := by decide
theorem dc__law_many : (("_law_many" : Str) == ("__classdict__" : Str)) = false := by decide
theorem nn__law_many : ("_law_many" : Str) ≠ "__name__" := by decide
theorem dn__law_top : (("_law_top" : Str) == ("__debug__" : Str)) = false := by decide
theorem dc__law_top : (("_law_top" : Str) == ("__classdict__" : Str)) = false := by decide
theorem nn__law_top : ("_law_top" : Str) ≠ "__name__" := by decide
theorem dn__law_row : (("_law_row" : Str) == ("__debug__" : Str)) = false := by decide
theorem dc__law_row : (("_law_row" : Str) == ("__classdict__" : Str)) = false := by decide
theorem nn__law_row : ("_law_row" : Str) ≠ "__name__" := by decide
theorem dn__law_cell_at : (("_law_cell_at" : Str) == ("__debug__" : Str)) = false := by decide
theorem dc__law_cell_at : (("_law_cell_at" : Str) == ("__classdict__" : Str)) = false := by decide
theorem nn__law_cell_at : ("_law_cell_at" : Str) ≠ "__name__" := by decide
theorem dn__law_weight : (("_law_weight" : Str) == ("__debug__" : Str)) = false := by decide
theorem dc__law_weight : (("_law_weight" : Str) == ("__classdict__" : Str)) = false := by decide
theorem nn__law_weight : ("_law_weight" : Str) ≠ "__name__" := by decide
theorem dn__law_look_here : (("_law_look_here" : Str) == ("__debug__" : Str)) = false := by decide
theorem dc__law_look_here : (("_law_look_here" : Str) == ("__classdict__" : Str)) = false := by decide
theorem nn__law_look_here : ("_law_look_here" : Str) ≠ "__name__" := by decide
theorem dn__law_lower : (("_law_lower" : Str) == ("__debug__" : Str)) = false := by decide
theorem dc__law_lower : (("_law_lower" : Str) == ("__classdict__" : Str)) = false := by decide
theorem nn__law_lower : ("_law_lower" : Str) ≠ "__name__" := by decide
theorem dn__law_other : (("_law_other" : Str) == ("__debug__" : Str)) = false := by decide
theorem dc__law_other : (("_law_other" : Str) == ("__classdict__" : Str)) = false := by decide
theorem nn__law_other : ("_law_other" : Str) ≠ "__name__" := by decide
theorem dn__law_found : (("_law_found" : Str) == ("__debug__" : Str)) = false := by decide
theorem dc__law_found : (("_law_found" : Str) == ("__classdict__" : Str)) = false := by decide
theorem nn__law_found : ("_law_found" : Str) ≠ "__name__" := by decide
theorem dn__law_number : (("_law_number" : Str) == ("__debug__" : Str)) = false := by decide
theorem dc__law_number : (("_law_number" : Str) == ("__classdict__" : Str)) = false := by decide
theorem nn__law_number : ("_law_number" : Str) ≠ "__name__" := by decide
theorem dn_isinstance : (("isinstance" : Str) == ("__debug__" : Str)) = false := by decide
theorem dc_isinstance : (("isinstance" : Str) == ("__classdict__" : Str)) = false := by decide
theorem nn_isinstance : ("isinstance" : Str) ≠ "__name__" := by decide
theorem dn_bool : (("bool" : Str) == ("__debug__" : Str)) = false := by decide
theorem dc_bool : (("bool" : Str) == ("__classdict__" : Str)) = false := by decide
theorem nn_bool : ("bool" : Str) ≠ "__name__" := by decide
theorem dn_int : (("int" : Str) == ("__debug__" : Str)) = false := by decide
theorem dc_int : (("int" : Str) == ("__classdict__" : Str)) = false := by decide
theorem nn_int : ("int" : Str) ≠ "__name__" := by decide
theorem dn__law_chief : (("_law_chief" : Str) == ("__debug__" : Str)) = false := by decide
theorem dc__law_chief : (("_law_chief" : Str) == ("__classdict__" : Str)) = false := by decide
theorem nn__law_chief : ("_law_chief" : Str) ≠ "__name__" := by decide
theorem dn__law_alone : (("_law_alone" : Str) == ("__debug__" : Str)) = false := by decide
theorem dc__law_alone : (("_law_alone" : Str) == ("__classdict__" : Str)) = false := by decide
theorem nn__law_alone : ("_law_alone" : Str) ≠ "__name__" := by decide
theorem dn__law_look : (("_law_look" : Str) == ("__debug__" : Str)) = false := by decide
theorem dc__law_look : (("_law_look" : Str) == ("__classdict__" : Str)) = false := by decide
theorem nn__law_look : ("_law_look" : Str) ≠ "__name__" := by decide
theorem dn_alone_of : (("alone_of" : Str) == ("__debug__" : Str)) = false := by decide
theorem dc_alone_of : (("alone_of" : Str) == ("__classdict__" : Str)) = false := by decide
theorem nn_alone_of : ("alone_of" : Str) ≠ "__name__" := by decide
theorem dn__law_weights : (("_law_weights" : Str) == ("__debug__" : Str)) = false := by decide
theorem dc__law_weights : (("_law_weights" : Str) == ("__classdict__" : Str)) = false := by decide
theorem nn__law_weights : ("_law_weights" : Str) ≠ "__name__" := by decide
theorem dn__law_wholes : (("_law_wholes" : Str) == ("__debug__" : Str)) = false := by decide
theorem dc__law_wholes : (("_law_wholes" : Str) == ("__classdict__" : Str)) = false := by decide
theorem nn__law_wholes : ("_law_wholes" : Str) ≠ "__name__" := by decide
abbrev s_chief_of : Stmt := top 1
theorem sc_chief_of : FnScope ["look"] ["look"] (defScope s_chief_of) := ⟨rfl, rfl, rfl, by decide +kernel, rfl, by decide +kernel, by decide +kernel⟩
theorem v_chief_of_0 : Vis (defScope s_chief_of) "look" := by first | exact Or.inl rfl | exact Or.inr (Or.inl rfl) | exact Or.inr (Or.inr rfl)
theorem l_chief_of_0 : Loc (defScope s_chief_of) "look" := by first | exact Or.inl rfl | exact Or.inr rfl
theorem g_chief_of_max : (defScope s_chief_of).names.lookup ("max" : Str) = some .globalImplicit := by rfl
abbrev s_alone_of : Stmt := top 2
theorem sc_alone_of : FnScope ["look", "chief"] ["look"] (defScope s_alone_of) := ⟨rfl, rfl, rfl, by decide +kernel, rfl, by decide +kernel, by decide +kernel⟩
theorem v_alone_of_0 : Vis (defScope s_alone_of) "look" := by first | exact Or.inl rfl | exact Or.inr (Or.inl rfl) | exact Or.inr (Or.inr rfl)
theorem l_alone_of_0 : Loc (defScope s_alone_of) "look" := by first | exact Or.inl rfl | exact Or.inr rfl
theorem v_alone_of_1 : Vis (defScope s_alone_of) "chief" := by first | exact Or.inl rfl | exact Or.inr (Or.inl rfl) | exact Or.inr (Or.inr rfl)
theorem l_alone_of_1 : Loc (defScope s_alone_of) "chief" := by first | exact Or.inl rfl | exact Or.inr rfl
theorem g_alone_of_chief_of : (defScope s_alone_of).names.lookup ("chief_of" : Str) = some .globalImplicit := by rfl
theorem g_alone_of_tuple : (defScope s_alone_of).names.lookup ("tuple" : Str) = some .globalImplicit := by rfl
theorem g_alone_of_range : (defScope s_alone_of).names.lookup ("range" : Str) = some .globalImplicit := by rfl
theorem g_alone_of_len : (defScope s_alone_of).names.lookup ("len" : Str) = some .globalImplicit := by rfl
abbrev s_law_cell_at : Stmt := top 4
theorem sc_law_cell_at : FnScope ["_law_script", "_law_k"] ["_law_script", "_law_k"] (defScope s_law_cell_at) := ⟨rfl, rfl, rfl, by decide +kernel, rfl, by decide +kernel, by decide +kernel⟩
theorem v_law_cell_at_0 : Vis (defScope s_law_cell_at) "_law_script" := by first | exact Or.inl rfl | exact Or.inr (Or.inl rfl) | exact Or.inr (Or.inr rfl)
theorem l_law_cell_at_0 : Loc (defScope s_law_cell_at) "_law_script" := by first | exact Or.inl rfl | exact Or.inr rfl
theorem v_law_cell_at_1 : Vis (defScope s_law_cell_at) "_law_k" := by first | exact Or.inl rfl | exact Or.inr (Or.inl rfl) | exact Or.inr (Or.inr rfl)
theorem l_law_cell_at_1 : Loc (defScope s_law_cell_at) "_law_k" := by first | exact Or.inl rfl | exact Or.inr rfl
theorem g_law_cell_at_len : (defScope s_law_cell_at).names.lookup ("len" : Str) = some .globalImplicit := by rfl
abbrev s_law_weights : Stmt := top 5
theorem sc_law_weights : FnScope ["_law_script", "_law_cell", "_law_many", "_law_top", "_law_row", "_law_k", "_law_weight"] ["_law_script"] (defScope s_law_weights) := ⟨rfl, rfl, rfl, by decide +kernel, rfl, by decide +kernel, by decide +kernel⟩
theorem v_law_weights_0 : Vis (defScope s_law_weights) "_law_script" := by first | exact Or.inl rfl | exact Or.inr (Or.inl rfl) | exact Or.inr (Or.inr rfl)
theorem l_law_weights_0 : Loc (defScope s_law_weights) "_law_script" := by first | exact Or.inl rfl | exact Or.inr rfl
theorem v_law_weights_1 : Vis (defScope s_law_weights) "_law_cell" := by first | exact Or.inl rfl | exact Or.inr (Or.inl rfl) | exact Or.inr (Or.inr rfl)
theorem l_law_weights_1 : Loc (defScope s_law_weights) "_law_cell" := by first | exact Or.inl rfl | exact Or.inr rfl
theorem v_law_weights_2 : Vis (defScope s_law_weights) "_law_many" := by first | exact Or.inl rfl | exact Or.inr (Or.inl rfl) | exact Or.inr (Or.inr rfl)
theorem l_law_weights_2 : Loc (defScope s_law_weights) "_law_many" := by first | exact Or.inl rfl | exact Or.inr rfl
theorem v_law_weights_3 : Vis (defScope s_law_weights) "_law_top" := by first | exact Or.inl rfl | exact Or.inr (Or.inl rfl) | exact Or.inr (Or.inr rfl)
theorem l_law_weights_3 : Loc (defScope s_law_weights) "_law_top" := by first | exact Or.inl rfl | exact Or.inr rfl
theorem v_law_weights_4 : Vis (defScope s_law_weights) "_law_row" := by first | exact Or.inl rfl | exact Or.inr (Or.inl rfl) | exact Or.inr (Or.inr rfl)
theorem l_law_weights_4 : Loc (defScope s_law_weights) "_law_row" := by first | exact Or.inl rfl | exact Or.inr rfl
theorem v_law_weights_5 : Vis (defScope s_law_weights) "_law_k" := by first | exact Or.inl rfl | exact Or.inr (Or.inl rfl) | exact Or.inr (Or.inr rfl)
theorem l_law_weights_5 : Loc (defScope s_law_weights) "_law_k" := by first | exact Or.inl rfl | exact Or.inr rfl
theorem v_law_weights_6 : Vis (defScope s_law_weights) "_law_weight" := by first | exact Or.inl rfl | exact Or.inr (Or.inl rfl) | exact Or.inr (Or.inr rfl)
theorem l_law_weights_6 : Loc (defScope s_law_weights) "_law_weight" := by first | exact Or.inl rfl | exact Or.inr rfl
theorem g_law_weights__law_cell_at : (defScope s_law_weights).names.lookup ("_law_cell_at" : Str) = some .globalImplicit := by rfl
theorem g_law_weights_range : (defScope s_law_weights).names.lookup ("range" : Str) = some .globalImplicit := by rfl
theorem g_law_weights_max : (defScope s_law_weights).names.lookup ("max" : Str) = some .globalImplicit := by rfl
abbrev s_law_look : Stmt := top 6
theorem sc_law_look : FnScope ["_law_row", "_law_look_here", "_law_weight", "_law_lower", "_law_other"] ["_law_row"] (defScope s_law_look) := ⟨rfl, rfl, rfl, by decide +kernel, rfl, by decide +kernel, by decide +kernel⟩
theorem v_law_look_0 : Vis (defScope s_law_look) "_law_row" := by first | exact Or.inl rfl | exact Or.inr (Or.inl rfl) | exact Or.inr (Or.inr rfl)
theorem l_law_look_0 : Loc (defScope s_law_look) "_law_row" := by first | exact Or.inl rfl | exact Or.inr rfl
theorem v_law_look_1 : Vis (defScope s_law_look) "_law_look_here" := by first | exact Or.inl rfl | exact Or.inr (Or.inl rfl) | exact Or.inr (Or.inr rfl)
theorem l_law_look_1 : Loc (defScope s_law_look) "_law_look_here" := by first | exact Or.inl rfl | exact Or.inr rfl
theorem v_law_look_2 : Vis (defScope s_law_look) "_law_weight" := by first | exact Or.inl rfl | exact Or.inr (Or.inl rfl) | exact Or.inr (Or.inr rfl)
theorem l_law_look_2 : Loc (defScope s_law_look) "_law_weight" := by first | exact Or.inl rfl | exact Or.inr rfl
theorem v_law_look_3 : Vis (defScope s_law_look) "_law_lower" := by first | exact Or.inl rfl | exact Or.inr (Or.inl rfl) | exact Or.inr (Or.inr rfl)
theorem l_law_look_3 : Loc (defScope s_law_look) "_law_lower" := by first | exact Or.inl rfl | exact Or.inr rfl
theorem v_law_look_4 : Vis (defScope s_law_look) "_law_other" := by first | exact Or.inl rfl | exact Or.inr (Or.inl rfl) | exact Or.inr (Or.inr rfl)
theorem l_law_look_4 : Loc (defScope s_law_look) "_law_other" := by first | exact Or.inl rfl | exact Or.inr rfl
theorem g_law_look_len : (defScope s_law_look).names.lookup ("len" : Str) = some .globalImplicit := by rfl
theorem g_law_look_tuple : (defScope s_law_look).names.lookup ("tuple" : Str) = some .globalImplicit := by rfl
abbrev s_law_wholes : Stmt := top 7
theorem sc_law_wholes : FnScope ["_law_found", "_law_many", "_law_number"] ["_law_found", "_law_many"] (defScope s_law_wholes) := ⟨rfl, rfl, rfl, by decide +kernel, rfl, by decide +kernel, by decide +kernel⟩
theorem v_law_wholes_0 : Vis (defScope s_law_wholes) "_law_found" := by first | exact Or.inl rfl | exact Or.inr (Or.inl rfl) | exact Or.inr (Or.inr rfl)
theorem l_law_wholes_0 : Loc (defScope s_law_wholes) "_law_found" := by first | exact Or.inl rfl | exact Or.inr rfl
theorem v_law_wholes_1 : Vis (defScope s_law_wholes) "_law_many" := by first | exact Or.inl rfl | exact Or.inr (Or.inl rfl) | exact Or.inr (Or.inr rfl)
theorem l_law_wholes_1 : Loc (defScope s_law_wholes) "_law_many" := by first | exact Or.inl rfl | exact Or.inr rfl
theorem v_law_wholes_2 : Vis (defScope s_law_wholes) "_law_number" := by first | exact Or.inl rfl | exact Or.inr (Or.inl rfl) | exact Or.inr (Or.inr rfl)
theorem l_law_wholes_2 : Loc (defScope s_law_wholes) "_law_number" := by first | exact Or.inl rfl | exact Or.inr rfl
theorem g_law_wholes_isinstance : (defScope s_law_wholes).names.lookup ("isinstance" : Str) = some .globalImplicit := by rfl
theorem g_law_wholes_tuple : (defScope s_law_wholes).names.lookup ("tuple" : Str) = some .globalImplicit := by rfl
theorem g_law_wholes_len : (defScope s_law_wholes).names.lookup ("len" : Str) = some .globalImplicit := by rfl
theorem g_law_wholes_int : (defScope s_law_wholes).names.lookup ("int" : Str) = some .globalImplicit := by rfl
theorem g_law_wholes_bool : (defScope s_law_wholes).names.lookup ("bool" : Str) = some .globalImplicit := by rfl
abbrev s_law : Stmt := top 8
theorem sc_law : FnScope ["_law_script", "_law_look_here", "_law_chief", "_law_k", "_law_alone"] ["_law_script"] (defScope s_law) := ⟨rfl, rfl, rfl, by decide +kernel, rfl, by decide +kernel, by decide +kernel⟩
theorem v_law_0 : Vis (defScope s_law) "_law_script" := by first | exact Or.inl rfl | exact Or.inr (Or.inl rfl) | exact Or.inr (Or.inr rfl)
theorem l_law_0 : Loc (defScope s_law) "_law_script" := by first | exact Or.inl rfl | exact Or.inr rfl
theorem v_law_1 : Vis (defScope s_law) "_law_look_here" := by first | exact Or.inl rfl | exact Or.inr (Or.inl rfl) | exact Or.inr (Or.inr rfl)
theorem l_law_1 : Loc (defScope s_law) "_law_look_here" := by first | exact Or.inl rfl | exact Or.inr rfl
theorem v_law_2 : Vis (defScope s_law) "_law_chief" := by first | exact Or.inl rfl | exact Or.inr (Or.inl rfl) | exact Or.inr (Or.inr rfl)
theorem l_law_2 : Loc (defScope s_law) "_law_chief" := by first | exact Or.inl rfl | exact Or.inr rfl
theorem v_law_3 : Vis (defScope s_law) "_law_k" := by first | exact Or.inl rfl | exact Or.inr (Or.inl rfl) | exact Or.inr (Or.inr rfl)
theorem l_law_3 : Loc (defScope s_law) "_law_k" := by first | exact Or.inl rfl | exact Or.inr rfl
theorem v_law_4 : Vis (defScope s_law) "_law_alone" := by first | exact Or.inl rfl | exact Or.inr (Or.inl rfl) | exact Or.inr (Or.inr rfl)
theorem l_law_4 : Loc (defScope s_law) "_law_alone" := by first | exact Or.inl rfl | exact Or.inr rfl
theorem g_law__law_look : (defScope s_law).names.lookup ("_law_look" : Str) = some .globalImplicit := by rfl
theorem g_law__law_weights : (defScope s_law).names.lookup ("_law_weights" : Str) = some .globalImplicit := by rfl
theorem g_law_chief_of : (defScope s_law).names.lookup ("chief_of" : Str) = some .globalImplicit := by rfl
theorem g_law_isinstance : (defScope s_law).names.lookup ("isinstance" : Str) = some .globalImplicit := by rfl
theorem g_law_int : (defScope s_law).names.lookup ("int" : Str) = some .globalImplicit := by rfl
theorem g_law_bool : (defScope s_law).names.lookup ("bool" : Str) = some .globalImplicit := by rfl
theorem g_law_len : (defScope s_law).names.lookup ("len" : Str) = some .globalImplicit := by rfl
theorem g_law_range : (defScope s_law).names.lookup ("range" : Str) = some .globalImplicit := by rfl
theorem g_law_alone_of : (defScope s_law).names.lookup ("alone_of" : Str) = some .globalImplicit := by rfl
theorem g_law__law_wholes : (defScope s_law).names.lookup ("_law_wholes" : Str) = some .globalImplicit := by rfl

def cellAt (ns : List Int) (k : Int) : Int := if k < (ns.length : Int) then ns.getD k.toNat 0 else 0
def spCellAt (K : PySem.W.Frag) : Sp := fun vs H Q _ => ∃ (a : Addr) (ns : List Int) (k : Int), vs = [.ref a, .int k] ∧ SqL K H a (ns.map V.int) ∧ 0 ≤ k ∧ Q (.int (cellAt ns k)) H
theorem spCellAt_of {K : PySem.W.Frag} {H : Hp} {a : Addr} {ns : List Int} {k : Int} {Q : VK} {E : XK} (h : SqL K H a (ns.map V.int)) (h0 : 0 ≤ k) (q : Q (.int (cellAt ns k)) H) : spCellAt K [.ref a, .int k] H Q E := ⟨a, ns, k, rfl, h, h0, q⟩
section
variable {P : Program} {w : World} {K : PySem.W.Frag} {mg : Str → Option Value} {base : Heap} {f : Addr} {fd : FuncData}
theorem ok_law_cell_at (F : Fun K "_law_cell_at" "_law_cell_at" s_law_cell_at f fd) (M : Mg mg) : FnOk P w K mg base CX0 1 f fd ["_law_script", "_law_k"] (spCellAt K) := by
  refine F.ok sc_law_cell_at (fun vs H Q E h => ?_) (fun cdv A outer s H vs Q E hr h => ?_)
  · obtain ⟨a, ns, k, rfl, _⟩ := h
    rfl
  obtain ⟨a, ns, k, rfl, hS, h0, q⟩ := h
  refine ⟨_, (@pss_cons _ _ _ _ _ (@ps_if _ _ _ _ _ _ _ _ (@pt_cmpR _ _ _ _ _ _ _ _ (@op_lt _) (@pe_var _ 1 _ _ rfl v_law_cell_at_1 dn__law_k dc__law_k) (@pe_callB _ _ _ _ _ _ _ _ _ call_len_seq g_law_cell_at_len M.m_len b_len (@pa_cons _ _ _ _ _ (@pe_var _ 0 _ _ rfl v_law_cell_at_0 dn__law_script dc__law_script) (@pa_nil _) (star1 rfl)) nn_len dn_len (star1 rfl) nost0) (nomark _)) (@pss_one _ _ _ (@ps_ret _ _ _ _ (@pe_ix _ _ _ _ _ _ _ (@ix_list _) (@pe_var _ 0 _ _ rfl v_law_cell_at_0 dn__law_script dc__law_script) (@pe_var _ 1 _ _ rfl v_law_cell_at_1 dn__law_k dc__law_k) (fun _ _ => rfl)))) (@pss_nil _)) (@pss_one _ _ _ (@ps_ret _ _ _ _ (@pe_int _ _ _ _)))), ?_⟩
  unfold cellAt at q
  simp only [tDNewX, tTry, tRaise, iEnumL, iEnumT, iZip, iSeq, rIx, rSlTA, tComp_eq, tComp1, slots, Option.getD_some, Option.getD_none, tYes, tSeq, tAsg, gName, tOp, tUn, tC, tVar, tCB, tCons, tNil, tCall, rI, rI0, rU, tRet, tRetN, tIfS, tTest, tB, tAnd, tOr, tNot, tAndV, tOrV, tNotV, tIf, tChain, tMenu, tPar, tDrop, tTup, tLst, tNext, tSl, tPart, tNoPart, tNever, gTup, gCons, gNil, gSub, rSetL, tBM, rAppend, rEq, rNe, rIsi, rIxL, rIxT, rIxS, rSlL, isi_non_bl, isi_non_int, isi_non_str, isi_non_lst, isi_non_tup, isi_bl_bl, isi_bl_int, isi_bl_str, isi_bl_lst, isi_bl_tup, isi_int_bl, isi_int_int, isi_int_str, isi_int_lst, isi_int_tup, isi_str_bl, isi_str_int, isi_str_str, isi_str_lst, isi_str_tup, isi_lst_bl, isi_lst_int, isi_lst_str, isi_lst_lst, isi_lst_tup, isi_tup_bl, isi_tup_int, isi_tup_str, isi_tup_lst, isi_tup_tup, isi_dct_bl, isi_dct_int, isi_dct_str, isi_dct_lst, isi_dct_tup, Kd_non, Kd_bl, Kd_int, Kd_str, sc_non_non, sc_non_int, sc_int_non, sc_non_bl, sc_bl_non, sc_non_str, sc_str_non, sc_int_int, sc_bl_bl, sc_str_str, sc_int_str, sc_str_int, sc_bl_str, sc_str_bl, decide_true, decide_false, tFor_eq, iList, iTup, iRng1, iRng2, iRng3, rIndexT, tBM0, tBMT, tyK_int, tyK_bool, tyK_str, tyK_list, tyK_tuple, L2.start, cxK, Int.reduceToNat, List.map_cons, List.map_nil, List.length_cons, List.length_nil, Nat.reduceAdd, Nat.reduceSub, Nat.zero_add, List.replicate_succ, List.replicate_zero, List.cons_append, List.nil_append, List.append_nil, List.getElem?_cons_zero, List.getElem?_cons_succ, List.set_cons_zero, List.set_cons_succ, Option.some.injEq, V.int.injEq, V.bl.injEq, V.ref.injEq, V.str.injEq, V.ty.injEq, List.cons.injEq, exists_eq_left', exists_eq_left, exists_eq_right, exists_and_left, exists_and_right, and_true, true_and, and_assoc, exists_const, decide_eq_true_eq, Bool.not_eq_true', Bool.not_true, Bool.not_false, Bool.not_not, decide_eq_false_iff_not, ite_not, Bool.false_eq_true, if_true, if_false, reduceCtorEq, and_false, false_and, exists_false, or_false, false_or, ↓reduceIte, eq_self, reduceIte]
  refine ⟨_, .inl hS, ?_⟩
  rw [List.length_map]
  by_cases hk : k < (ns.length : Int)
  · rw [if_pos hk]
    rw [if_pos hk] at q
    exact ⟨_, hS, _, atI_map h0 hk, q⟩
  · rw [if_neg hk]
    rw [if_neg hk] at q
    exact q
end

def spWeights (K : PySem.W.Frag) : Sp := fun vs H Q _ => ∃ (a : Addr) (ns : List Int), vs = [.ref a] ∧ SqL K H a (ns.map V.int) ∧ ∀ (l : Addr) (ws : List Int) (H' : Hp), Same H H' → H l = none → H' l = some (.lst (ws.map V.int)) → 1 ≤ ws.length → ws.length ≤ 4 → (∀ w ∈ ws, 0 ≤ w ∧ w ≤ 10 ^ 15) → (∃ w ∈ ws, 0 < w) → Q (.ref l) H'
section
variable {P : Program} {w : World} {K : PySem.W.Frag} {mg : Str → Option Value} {base : Heap} {f : Addr} {fd : FuncData}
theorem ok_law_weights (F : Fun K "_law_weights" "_law_weights" s_law_weights f fd) (M : Mg mg) (C_law_cell_at : Cal P w K mg base CX0 "_law_cell_at" 1 ["_law_script", "_law_k"] (spCellAt K)) : FnOk P w K mg base CX0 2 f fd ["_law_script"] (spWeights K) := by
  refine F.ok sc_law_weights (fun vs H Q E h => ?_) (fun cdv A outer s H vs Q E hr h => ?_)
  · obtain ⟨a, ns, rfl, _⟩ := h
    rfl
  obtain ⟨a, ns, rfl, hS, q⟩ := h
  refine ⟨_, (@pss_cons _ _ _ _ _ (@ps_set _ _ 1 _ _ _ _ sc_law_weights.nd rfl l_law_weights_1 (@pe_callC _ _ _ _ _ _ _ _ _ _ _ C_law_cell_at hr g_law_weights__law_cell_at (@pa_cons _ _ _ _ _ (@pe_var _ 0 _ _ rfl v_law_weights_0 dn__law_script dc__law_script) (@pa_cons _ _ _ _ _ (@pe_int _ _ _ _) (@pa_nil _) (star1 rfl)) (star1 rfl)) (by decide) dn__law_cell_at (star1 rfl) (nost1 rfl nost0)) (swap1 rfl) (.inl rfl)) (@pss_cons _ _ _ _ _ (@ps_set _ _ 2 _ _ _ _ sc_law_weights.nd rfl l_law_weights_2 (@pe_op _ _ _ _ _ _ _ _ (@op_add _) (@pe_int _ _ _ _) (@pe_op _ _ _ _ _ _ _ _ (@op_mod _) (@pe_var _ 1 _ _ rfl v_law_weights_1 dn__law_cell dc__law_cell) (@pe_int _ _ _ _))) (swap1 rfl) (.inl rfl)) (@pss_cons _ _ _ _ _ (@ps_set _ _ 3 _ _ _ _ sc_law_weights.nd rfl l_law_weights_3 (@pe_menu _ _ _ _ _ _ _ (@pa_cons _ _ _ _ _ (@pe_int _ _ _ _) (@pa_cons _ _ _ _ _ (@pe_int _ _ _ _) (@pa_cons _ _ _ _ _ (@pe_op _ _ _ _ _ _ _ _ (@op_pow _) (@pe_int _ _ _ _) (@pe_int _ _ _ _)) (@pa_cons _ _ _ _ _ (@pe_op _ _ _ _ _ _ _ _ (@op_add _) (@pe_op _ _ _ _ _ _ _ _ (@op_pow _) (@pe_int _ _ _ _) (@pe_int _ _ _ _)) (@pe_int _ _ _ _)) (@pa_nil _) (star1 rfl)) (star1 rfl)) (star1 rfl)) (star1 rfl)) (@pe_op _ _ _ _ _ _ _ _ (@op_mod _) (@pe_op _ _ _ _ _ _ _ _ (@op_fdivB _) (@pe_var _ 1 _ _ rfl v_law_weights_1 dn__law_cell dc__law_cell) (@pe_int _ _ _ _)) (@pe_int _ _ _ _)) (fun _ _ => rfl)) (swap1 rfl) (.inl rfl)) (@pss_cons _ _ _ _ _ (@ps_set _ _ 4 _ _ _ _ sc_law_weights.nd rfl l_law_weights_4 (@pe_lst _ _ _ _ (@pa_nil _)) (swap1 rfl) (.inl rfl)) (@pss_cons _ _ _ _ _ (@ps_for _ _ _ _ _ _ _ _ PassesOwn.never rfl (@pi_range1 _ _ _ _ _ _ g_law_weights_range M.m_range (@pa_cons _ _ _ _ _ (@pe_var _ 2 _ _ rfl v_law_weights_2 dn__law_many dc__law_many) (@pa_nil _) (star1 rfl)) (star1' rfl)) (@pg_name _ _ 5 _ sc_law_weights.nd rfl l_law_weights_5 (.inl rfl)) (@pss_cons _ _ _ _ _ (@ps_set _ _ 6 _ _ _ _ sc_law_weights.nd rfl l_law_weights_6 (@pe_op _ _ _ _ _ _ _ _ (@op_mod _) (@pe_callC _ _ _ _ _ _ _ _ _ _ _ C_law_cell_at hr g_law_weights__law_cell_at (@pa_cons _ _ _ _ _ (@pe_var _ 0 _ _ rfl v_law_weights_0 dn__law_script dc__law_script) (@pa_cons _ _ _ _ _ (@pe_op _ _ _ _ _ _ _ _ (@op_add _) (@pe_int _ _ _ _) (@pe_var _ 5 _ _ rfl v_law_weights_5 dn__law_k dc__law_k)) (@pa_nil _) (star1 rfl)) (star1 rfl)) (by decide) dn__law_cell_at (star1 rfl) (nost1 rfl nost0)) (@pe_var _ 3 _ _ rfl v_law_weights_3 dn__law_top dc__law_top)) (swap1 rfl) (.inl rfl)) (@pss_cons _ _ _ _ _ (@ps_if _ _ _ _ _ _ _ _ (@PW.pt _ _ _ (@pw_and _ _ _ _ _ _ _ (@pt_cmpR _ _ _ _ _ _ _ _ (@op_eq _) (@pe_op _ _ _ _ _ _ _ _ (@op_mod _) (@pe_op _ _ _ _ _ _ _ _ (@op_fdivB _) (@pe_var _ 1 _ _ rfl v_law_weights_1 dn__law_cell dc__law_cell) (@pe_int _ _ _ _)) (@pe_int _ _ _ _)) (@pe_int _ _ _ _) (nomark _)) (@pw_and1 _ _ _ _ (@pt_cmpR _ _ _ _ _ _ _ _ (@op_gt _) (@pe_var _ 5 _ _ rfl v_law_weights_5 dn__law_k dc__law_k) (@pe_int _ _ _ _) (nomark _))))) (@pss_one _ _ _ (@ps_set _ _ 6 _ _ _ _ sc_law_weights.nd rfl l_law_weights_6 (@pe_menu _ _ _ _ _ _ _ (@pa_cons _ _ _ _ _ (@pe_ix _ _ _ _ _ _ _ (@ix_list _) (@pe_var _ 4 _ _ rfl v_law_weights_4 dn__law_row dc__law_row) (@pe_op _ _ _ _ _ _ _ _ (@op_sub _) (@pe_var _ 5 _ _ rfl v_law_weights_5 dn__law_k dc__law_k) (@pe_int _ _ _ _)) (fun _ _ => rfl)) (@pa_cons _ _ _ _ _ (@pe_int _ _ _ _) (@pa_cons _ _ _ _ _ (@pe_var _ 6 _ _ rfl v_law_weights_6 dn__law_weight dc__law_weight) (@pa_nil _) (star1 rfl)) (star1 rfl)) (star1 rfl)) (@pe_op _ _ _ _ _ _ _ _ (@op_mod _) (@pe_op _ _ _ _ _ _ _ _ (@op_fdivB _) (@pe_callC _ _ _ _ _ _ _ _ _ _ _ C_law_cell_at hr g_law_weights__law_cell_at (@pa_cons _ _ _ _ _ (@pe_var _ 0 _ _ rfl v_law_weights_0 dn__law_script dc__law_script) (@pa_cons _ _ _ _ _ (@pe_op _ _ _ _ _ _ _ _ (@op_add _) (@pe_int _ _ _ _) (@pe_var _ 5 _ _ rfl v_law_weights_5 dn__law_k dc__law_k)) (@pa_nil _) (star1 rfl)) (star1 rfl)) (by decide) dn__law_cell_at (star1 rfl) (nost1 rfl nost0)) (@pe_int _ _ _ _)) (@pe_int _ _ _ _)) (fun _ _ => rfl)) (swap1 rfl) (.inl rfl))) (@pss_nil _)) (@pss_one _ _ _ (@ps_expr _ _ _ _ (@pe_bm _ _ _ _ _ _ _ _ _ _ _ _ PySem.F.plainAttrs_list PySem.F.slot_list_append PySem.F.type_list_append mt_append (@pe_var _ 4 _ _ rfl v_law_weights_4 dn__law_row dc__law_row) (@pa_cons _ _ _ _ _ (@pe_var _ 6 _ _ rfl v_law_weights_6 dn__law_weight dc__law_weight) (@pa_nil _) (star1 rfl)) (by rfl) (by rfl) (by rfl) (by rfl) (by rfl)) (swap1 rfl))))) (by intro _; rfl)) (@pss_cons _ _ _ _ _ (@ps_if _ _ _ _ _ _ _ _ (@pt_cmpR _ _ _ _ _ _ _ _ (@op_eq _) (@pe_callB _ _ _ _ _ _ _ _ _ (call_max1 rfl) g_law_weights_max M.m_max b_max (@pa_cons _ _ _ _ _ (@pe_var _ 4 _ _ rfl v_law_weights_4 dn__law_row dc__law_row) (@pa_nil _) (star1 rfl)) nn_max dn_max (star1 rfl) nost0) (@pe_int _ _ _ _) (nomark _)) (@pss_one _ _ _ (@ps_asg _ _ _ _ _ _ (@pe_op _ _ _ _ _ _ _ _ (@op_add _) (@pe_int _ _ _ _) (@pe_op _ _ _ _ _ _ _ _ (@op_mod _) (@pe_callC _ _ _ _ _ _ _ _ _ _ _ C_law_cell_at hr g_law_weights__law_cell_at (@pa_cons _ _ _ _ _ (@pe_var _ 0 _ _ rfl v_law_weights_0 dn__law_script dc__law_script) (@pa_cons _ _ _ _ _ (@pe_int _ _ _ _) (@pa_nil _) (star1 rfl)) (star1 rfl)) (by decide) dn__law_cell_at (star1 rfl) (nost1 rfl nost0)) (@pe_op _ _ _ _ _ _ _ _ (@op_pow _) (@pe_int _ _ _ _) (@pe_int _ _ _ _)))) (@pg_sub _ _ _ _ _ _ _ (@pe_var _ 4 _ _ rfl v_law_weights_4 dn__law_row dc__law_row) (@pe_op _ _ _ _ _ _ _ _ (@op_mod _) (@pe_op _ _ _ _ _ _ _ _ (@op_fdivB _) (@pe_var _ 1 _ _ rfl v_law_weights_1 dn__law_cell dc__law_cell) (@pe_int _ _ _ _)) (@pe_var _ 2 _ _ rfl v_law_weights_2 dn__law_many dc__law_many)) set_list (by intro _; rfl)) (by rfl) (by rfl) (by rfl))) (@pss_nil _)) (@pss_one _ _ _ (@ps_ret _ _ _ _ (@pe_var _ 4 _ _ rfl v_law_weights_4 dn__law_row dc__law_row))))))))), ?_⟩
  simp only [tDNewX, tTry, tRaise, iEnumL, iEnumT, iZip, iSeq, rIx, rSlTA, tComp_eq, tComp1, slots, Option.getD_some, Option.getD_none, tYes, tSeq, tAsg, gName, tOp, tUn, tC, tVar, tCB, tCons, tNil, tCall, rI, rI0, rU, tRet, tRetN, tIfS, tTest, tB, tAnd, tOr, tNot, tAndV, tOrV, tNotV, tIf, tChain, tMenu, tPar, tDrop, tTup, tLst, tNext, tSl, tPart, tNoPart, tNever, gTup, gCons, gNil, gSub, rSetL, tBM, rAppend, rEq, rNe, rIsi, rIxL, rIxT, rIxS, rSlL, isi_non_bl, isi_non_int, isi_non_str, isi_non_lst, isi_non_tup, isi_bl_bl, isi_bl_int, isi_bl_str, isi_bl_lst, isi_bl_tup, isi_int_bl, isi_int_int, isi_int_str, isi_int_lst, isi_int_tup, isi_str_bl, isi_str_int, isi_str_str, isi_str_lst, isi_str_tup, isi_lst_bl, isi_lst_int, isi_lst_str, isi_lst_lst, isi_lst_tup, isi_tup_bl, isi_tup_int, isi_tup_str, isi_tup_lst, isi_tup_tup, isi_dct_bl, isi_dct_int, isi_dct_str, isi_dct_lst, isi_dct_tup, Kd_non, Kd_bl, Kd_int, Kd_str, sc_non_non, sc_non_int, sc_int_non, sc_non_bl, sc_bl_non, sc_non_str, sc_str_non, sc_int_int, sc_bl_bl, sc_str_str, sc_int_str, sc_str_int, sc_bl_str, sc_str_bl, decide_true, decide_false, tFor_eq, iList, iTup, iRng1, iRng2, iRng3, rIndexT, tBM0, tBMT, tyK_int, tyK_bool, tyK_str, tyK_list, tyK_tuple, L2.start, cxK, Int.reduceToNat, List.map_cons, List.map_nil, List.length_cons, List.length_nil, Nat.reduceAdd, Nat.reduceSub, Nat.zero_add, List.replicate_succ, List.replicate_zero, List.cons_append, List.nil_append, List.append_nil, List.getElem?_cons_zero, List.getElem?_cons_succ, List.set_cons_zero, List.set_cons_succ, Option.some.injEq, V.int.injEq, V.bl.injEq, V.ref.injEq, V.str.injEq, V.ty.injEq, List.cons.injEq, exists_eq_left', exists_eq_left, exists_eq_right, exists_and_left, exists_and_right, and_true, true_and, and_assoc, exists_const, decide_eq_true_eq, Bool.not_eq_true', Bool.not_true, Bool.not_false, Bool.not_not, decide_eq_false_iff_not, ite_not, Bool.false_eq_true, if_true, if_false, reduceCtorEq, and_false, false_and, exists_false, or_false, false_or, ↓reduceIte, eq_self, reduceIte]
  refine spCellAt_of hS (by decide) ?_
  simp only [tDNewX, tTry, tRaise, iEnumL, iEnumT, iZip, iSeq, rIx, rSlTA, tComp_eq, tComp1, slots, Option.getD_some, Option.getD_none, tYes, tSeq, tAsg, gName, tOp, tUn, tC, tVar, tCB, tCons, tNil, tCall, rI, rI0, rU, tRet, tRetN, tIfS, tTest, tB, tAnd, tOr, tNot, tAndV, tOrV, tNotV, tIf, tChain, tMenu, tPar, tDrop, tTup, tLst, tNext, tSl, tPart, tNoPart, tNever, gTup, gCons, gNil, gSub, rSetL, tBM, rAppend, rEq, rNe, rIsi, rIxL, rIxT, rIxS, rSlL, isi_non_bl, isi_non_int, isi_non_str, isi_non_lst, isi_non_tup, isi_bl_bl, isi_bl_int, isi_bl_str, isi_bl_lst, isi_bl_tup, isi_int_bl, isi_int_int, isi_int_str, isi_int_lst, isi_int_tup, isi_str_bl, isi_str_int, isi_str_str, isi_str_lst, isi_str_tup, isi_lst_bl, isi_lst_int, isi_lst_str, isi_lst_lst, isi_lst_tup, isi_tup_bl, isi_tup_int, isi_tup_str, isi_tup_lst, isi_tup_tup, isi_dct_bl, isi_dct_int, isi_dct_str, isi_dct_lst, isi_dct_tup, Kd_non, Kd_bl, Kd_int, Kd_str, sc_non_non, sc_non_int, sc_int_non, sc_non_bl, sc_bl_non, sc_non_str, sc_str_non, sc_int_int, sc_bl_bl, sc_str_str, sc_int_str, sc_str_int, sc_bl_str, sc_str_bl, decide_true, decide_false, tFor_eq, iList, iTup, iRng1, iRng2, iRng3, rIndexT, tBM0, tBMT, tyK_int, tyK_bool, tyK_str, tyK_list, tyK_tuple, L2.start, cxK, Int.reduceToNat, List.map_cons, List.map_nil, List.length_cons, List.length_nil, Nat.reduceAdd, Nat.reduceSub, Nat.zero_add, List.replicate_succ, List.replicate_zero, List.cons_append, List.nil_append, List.append_nil, List.getElem?_cons_zero, List.getElem?_cons_succ, List.set_cons_zero, List.set_cons_succ, Option.some.injEq, V.int.injEq, V.bl.injEq, V.ref.injEq, V.str.injEq, V.ty.injEq, List.cons.injEq, exists_eq_left', exists_eq_left, exists_eq_right, exists_and_left, exists_and_right, and_true, true_and, and_assoc, exists_const, decide_eq_true_eq, Bool.not_eq_true', Bool.not_true, Bool.not_false, Bool.not_not, decide_eq_false_iff_not, ite_not, Bool.false_eq_true, if_true, if_false, reduceCtorEq, and_false, false_and, exists_false, or_false, false_or, ↓reduceIte, eq_self, reduceIte]
  have k2 := Int.emod_nonneg (cellAt ns 0 / 4) (show (4 : Int) ≠ 0 by decide)
  have k2' := Int.emod_lt_of_pos (cellAt ns 0 / 4) (show (0 : Int) < 4 by decide)
  have n0 := Int.emod_nonneg (cellAt ns 0) (show (4 : Int) ≠ 0 by decide)
  have n1 := Int.emod_lt_of_pos (cellAt ns 0) (show (0 : Int) < 4 by decide)
  obtain ⟨top, htop, es⟩ := menu_at (xs := [2, 4, 10 ^ 6, 10 ^ 15 + 1]) k2 k2'
  have g1 : 0 < top ∧ top ≤ 10 ^ 15 + 1 := by
    simp only [List.mem_cons, List.not_mem_nil, or_false] at htop
    omega
  refine ⟨by decide, cpow, cpow, by decide, cdiv (by decide) (by decide), by decide, k2, _, es, by decide, fun l hl => ⟨by omega, by omega, ?_⟩⟩
  obtain ⟨Pv, hP⟩ : ∃ Pv : Nat → St → Hp → Prop, Pv = fun i σ H' => ∃ (ws : List Int) (y z : Option V), H' l = some (.lst (ws.map V.int)) ∧ ws.length = i ∧ (∀ w ∈ ws, 0 ≤ w ∧ w ≤ 10 ^ 15) ∧ Same H H' ∧ σ = [some (.ref a), some (.int (cellAt ns 0)), some (.int (1 + cellAt ns 0 % 4)), some (.int top), some (.ref l), y, z] := ⟨_, rfl⟩
  refine forW_range Pv ?_ ?_ ?_
  · rw [hP]
    exact ⟨[], _, _, upd_same, rfl, (fun _ h => by cases h), same_new hl _, rfl⟩
  · intro i σ H' hi h
    rw [hP] at h
    obtain ⟨ws, y, z, d1, len, all, e, rfl⟩ := h
    have li : i < 4 := by omega
    have p1 := Int.emod_nonneg (cellAt ns (1 + (0 + (i : Int)))) (show top ≠ 0 by omega)
    have p2 := Int.emod_lt_of_pos (cellAt ns (1 + (0 + (i : Int)))) g1.1
    have hS' := e.seq hS
    have key : ∀ (x : Int) (H2 : Hp), 0 ≤ x → x ≤ 10 ^ 15 → Same H' H2 → H2 l = some (.lst (ws.map V.int)) → ∀ y', Pv (i + 1) [some (.ref a), some (.int (cellAt ns 0)), some (.int (1 + cellAt ns 0 % 4)), some (.int top), some (.ref l), y', some (.int x)] (upd H2 l (.lst (ws.map V.int ++ [.int x]))) := by
      intro x H2 x0 x1 e2 d2 y'
      rw [hP]
      refine ⟨ws ++ [x], _, _, by rw [upd_same, List.map_append]; rfl, by rw [List.length_append, len]; rfl, fun w hw => ?_, fun b o hb => by rw [upd_ne (ne_of_none hb hl)]; exact (e.trans e2) _ _ hb, rfl⟩
      rcases List.mem_append.mp hw with hw | hw
      · exact all w hw
      · rw [List.mem_singleton.mp hw]
        exact ⟨x0, x1⟩
    simp only [tDNewX, tTry, tRaise, iEnumL, iEnumT, iZip, iSeq, rIx, rSlTA, tComp_eq, tComp1, slots, Option.getD_some, Option.getD_none, tYes, tSeq, tAsg, gName, tOp, tUn, tC, tVar, tCB, tCons, tNil, tCall, rI, rI0, rU, tRet, tRetN, tIfS, tTest, tB, tAnd, tOr, tNot, tAndV, tOrV, tNotV, tIf, tChain, tMenu, tPar, tDrop, tTup, tLst, tNext, tSl, tPart, tNoPart, tNever, gTup, gCons, gNil, gSub, rSetL, tBM, rAppend, rEq, rNe, rIsi, rIxL, rIxT, rIxS, rSlL, isi_non_bl, isi_non_int, isi_non_str, isi_non_lst, isi_non_tup, isi_bl_bl, isi_bl_int, isi_bl_str, isi_bl_lst, isi_bl_tup, isi_int_bl, isi_int_int, isi_int_str, isi_int_lst, isi_int_tup, isi_str_bl, isi_str_int, isi_str_str, isi_str_lst, isi_str_tup, isi_lst_bl, isi_lst_int, isi_lst_str, isi_lst_lst, isi_lst_tup, isi_tup_bl, isi_tup_int, isi_tup_str, isi_tup_lst, isi_tup_tup, isi_dct_bl, isi_dct_int, isi_dct_str, isi_dct_lst, isi_dct_tup, Kd_non, Kd_bl, Kd_int, Kd_str, sc_non_non, sc_non_int, sc_int_non, sc_non_bl, sc_bl_non, sc_non_str, sc_str_non, sc_int_int, sc_bl_bl, sc_str_str, sc_int_str, sc_str_int, sc_bl_str, sc_str_bl, decide_true, decide_false, tFor_eq, iList, iTup, iRng1, iRng2, iRng3, rIndexT, tBM0, tBMT, tyK_int, tyK_bool, tyK_str, tyK_list, tyK_tuple, L2.start, cxK, Int.reduceToNat, List.map_cons, List.map_nil, List.length_cons, List.length_nil, Nat.reduceAdd, Nat.reduceSub, Nat.zero_add, List.replicate_succ, List.replicate_zero, List.cons_append, List.nil_append, List.append_nil, List.getElem?_cons_zero, List.getElem?_cons_succ, List.set_cons_zero, List.set_cons_succ, Option.some.injEq, V.int.injEq, V.bl.injEq, V.ref.injEq, V.str.injEq, V.ty.injEq, List.cons.injEq, exists_eq_left', exists_eq_left, exists_eq_right, exists_and_left, exists_and_right, and_true, true_and, and_assoc, exists_const, decide_eq_true_eq, Bool.not_eq_true', Bool.not_true, Bool.not_false, Bool.not_not, decide_eq_false_iff_not, ite_not, Bool.false_eq_true, if_true, if_false, reduceCtorEq, and_false, false_and, exists_false, or_false, false_or, ↓reduceIte, eq_self, reduceIte]
    refine spCellAt_of hS' (by omega) ⟨_, rfl, g1.1, cdiv (by decide) (by decide), by decide, ?_⟩
    have fin : ∀ (x : Int), 0 ≤ x → x ≤ 10 ^ 15 → ∀ y', tyV K "list" (.ref l) H' ∧ ∃ xs, H' l = some (.lst xs) ∧ xs.length < sizeLine ∧ Pv (i + 1) [some (.ref a), some (.int (cellAt ns 0)), some (.int (1 + cellAt ns 0 % 4)), some (.int top), some (.ref l), y', some (.int x)] (upd H' l (.lst (xs ++ [.int x]))) := by
      intro x x0 x1 y'
      exact ⟨.inl ⟨rfl, _, SqL.of d1⟩, _, d1, by rw [List.length_map]; exact Nat.lt_of_lt_of_le (m := 64) (by omega) (by decide), key x H' x0 x1 (Same.refl _) d1 y'⟩
    split
    · split
      · have hix : atI (ws.map V.int) (0 + (i : Int) - 1) = some (.int (ws.getD (0 + (i : Int) - 1).toNat 0)) := atI_map (by omega) (by omega)
        have lo : (0 + (i : Int) - 1).toNat < ws.length := by omega
        have eg : ws.getD (0 + (i : Int) - 1).toNat 0 = ws[(0 + (i : Int) - 1).toNat] := getD_at lo
        have aw := all _ (List.getElem_mem lo)
        rw [← eg] at aw
        have m0 := Int.emod_nonneg (cellAt ns (1 + (0 + (i : Int))) / 7) (show (3 : Int) ≠ 0 by decide)
        have m1 := Int.emod_lt_of_pos (cellAt ns (1 + (0 + (i : Int))) / 7) (show (0 : Int) < 3 by decide)
        obtain ⟨x, hx, ex⟩ := menu_at (xs := [ws.getD (0 + (i : Int) - 1).toNat 0, 0, cellAt ns (1 + (0 + (i : Int))) % top]) m0 m1
        refine ⟨_, SqL.of d1, _, hix, by decide, spCellAt_of hS' (by omega) ⟨_, rfl, cdiv (by decide) (by decide), by decide, m0, _, ex, ?_⟩⟩
        simp only [List.mem_cons, List.not_mem_nil, or_false] at hx
        exact fin x (by omega) (by omega) _
      · exact fin _ p1 (by omega) _
    · exact fin _ p1 (by omega) _
  · intro σ H' h
    rw [hP] at h
    obtain ⟨ws, y, z, d1, len, all, e, rfl⟩ := h
    have hS' := e.seq hS
    simp only [tDNewX, tTry, tRaise, iEnumL, iEnumT, iZip, iSeq, rIx, rSlTA, tComp_eq, tComp1, slots, Option.getD_some, Option.getD_none, tYes, tSeq, tAsg, gName, tOp, tUn, tC, tVar, tCB, tCons, tNil, tCall, rI, rI0, rU, tRet, tRetN, tIfS, tTest, tB, tAnd, tOr, tNot, tAndV, tOrV, tNotV, tIf, tChain, tMenu, tPar, tDrop, tTup, tLst, tNext, tSl, tPart, tNoPart, tNever, gTup, gCons, gNil, gSub, rSetL, tBM, rAppend, rEq, rNe, rIsi, rIxL, rIxT, rIxS, rSlL, isi_non_bl, isi_non_int, isi_non_str, isi_non_lst, isi_non_tup, isi_bl_bl, isi_bl_int, isi_bl_str, isi_bl_lst, isi_bl_tup, isi_int_bl, isi_int_int, isi_int_str, isi_int_lst, isi_int_tup, isi_str_bl, isi_str_int, isi_str_str, isi_str_lst, isi_str_tup, isi_lst_bl, isi_lst_int, isi_lst_str, isi_lst_lst, isi_lst_tup, isi_tup_bl, isi_tup_int, isi_tup_str, isi_tup_lst, isi_tup_tup, isi_dct_bl, isi_dct_int, isi_dct_str, isi_dct_lst, isi_dct_tup, Kd_non, Kd_bl, Kd_int, Kd_str, sc_non_non, sc_non_int, sc_int_non, sc_non_bl, sc_bl_non, sc_non_str, sc_str_non, sc_int_int, sc_bl_bl, sc_str_str, sc_int_str, sc_str_int, sc_bl_str, sc_str_bl, decide_true, decide_false, tFor_eq, iList, iTup, iRng1, iRng2, iRng3, rIndexT, tBM0, tBMT, tyK_int, tyK_bool, tyK_str, tyK_list, tyK_tuple, L2.start, cxK, Int.reduceToNat, List.map_cons, List.map_nil, List.length_cons, List.length_nil, Nat.reduceAdd, Nat.reduceSub, Nat.zero_add, List.replicate_succ, List.replicate_zero, List.cons_append, List.nil_append, List.append_nil, List.getElem?_cons_zero, List.getElem?_cons_succ, List.set_cons_zero, List.set_cons_succ, Option.some.injEq, V.int.injEq, V.bl.injEq, V.ref.injEq, V.str.injEq, V.ty.injEq, List.cons.injEq, exists_eq_left', exists_eq_left, exists_eq_right, exists_and_left, exists_and_right, and_true, true_and, and_assoc, exists_const, decide_eq_true_eq, Bool.not_eq_true', Bool.not_true, Bool.not_false, Bool.not_not, decide_eq_false_iff_not, ite_not, Bool.false_eq_true, if_true, if_false, reduceCtorEq, and_false, false_and, exists_false, or_false, false_or, ↓reduceIte, eq_self, reduceIte]
    refine ⟨_, .inl (SqL.of d1), by omega, fun m hm hle => ?_⟩
    split
    · have m0 := Int.emod_nonneg (cellAt ns 0 / 48) (show (1 + cellAt ns 0 % 4 : Int) ≠ 0 by omega)
      have m1 := Int.emod_lt_of_pos (cellAt ns 0 / 48) (show (0 : Int) < 1 + cellAt ns 0 % 4 by omega)
      have r0 := Int.emod_nonneg (cellAt ns 5) (show (10 ^ 9 : Int) ≠ 0 by decide)
      have r1 := Int.emod_lt_of_pos (cellAt ns 5) (show (0 : Int) < 10 ^ 9 by decide)
      obtain ⟨j, hj⟩ : ∃ j : Nat, cellAt ns 0 / 48 % (1 + cellAt ns 0 % 4) = (j : Int) := ⟨(cellAt ns 0 / 48 % (1 + cellAt ns 0 % 4)).toNat, by omega⟩
      have lj : j < ws.length := by omega
      refine spCellAt_of hS' (by decide) ?_
      refine ⟨cpow, _, rfl, by decide, cdiv (by decide) (by decide), by omega, _, d1, j, ?_, ?_⟩
      · rw [hj, List.length_map]
        exact ixN_nat lj
      · refine q _ (ws.set j (1 + cellAt ns 5 % 10 ^ 9)) _ (fun b o hb => by rw [upd_ne (ne_of_none hb hl)]; exact e _ _ hb) hl (by rw [upd_same, List.map_set]) (by rw [List.length_set]; omega) (by rw [List.length_set]; omega) (fun w hw => ?_) ⟨_, List.mem_set lj _, by omega⟩
        rcases List.mem_or_eq_of_mem_set hw with hw | rfl
        · exact all w hw
        · omega
    · have := (all m hm).1
      exact q _ ws _ e hl d1 (by omega) (by omega) all ⟨m, hm, by omega⟩
end

/-- what is above nought and not above w, each once -/
def stepL (w : Int) (acc : List Int) (o : Int) : List Int := if 0 < o ∧ o ≤ w ∧ o ∉ acc then acc ++ [o] else acc
def lower (ws : List Int) (w : Int) : List Int := ws.foldl (stepL w) []
def look (ws : List Int) : List Int := ws.map fun w => ((lower ws w).length : Int)
theorem stepL_len (w : Int) (acc : List Int) (o : Int) : (stepL w acc o).length ≤ acc.length + 1 := by
  unfold stepL
  split
  · rw [List.length_append]
    exact Nat.le_refl _
  · exact Nat.le_succ _
theorem fold_len (w : Int) : ∀ (ws acc : List Int), (ws.foldl (stepL w) acc).length ≤ acc.length + ws.length
  | [], acc => Nat.le_refl _
  | o :: os, acc => by
    rw [List.foldl_cons, List.length_cons]
    have := fold_len w os (stepL w acc o)
    have := stepL_len w acc o
    omega
theorem inV_ints {o : Int} : ∀ (acc : List Int), inV (.int o) (acc.map V.int) = decide (o ∈ acc)
  | [] => rfl
  | a :: acc => by
    have ih := inV_ints (o := o) acc
    unfold inV at ih ⊢
    rw [List.map_cons, List.any_cons, ih]
    show (decide (a = o) || _) = _
    by_cases h : a = o
    · subst h
      simp
    · rw [decide_eq_false h, Bool.false_or]
      by_cases h2 : o ∈ acc
      · rw [decide_eq_true h2, decide_eq_true (List.mem_cons_of_mem _ h2)]
      · rw [decide_eq_false h2, decide_eq_false (by simp only [List.mem_cons, not_or]; exact ⟨fun e => h e.symm, h2⟩)]
theorem flat_ints (ns : List Int) : (ns.map V.int).all flatV = true := by
  rw [List.all_eq_true]
  intro x hx
  obtain ⟨i, _, rfl⟩ := List.mem_map.mp hx
  rfl
def spLook (K : PySem.W.Frag) : Sp := fun vs H Q _ => ∃ (p : Addr) (ws : List Int), vs = [.ref p] ∧ Sq K H p (ws.map V.int) ∧ ws.length ≤ 4 ∧ ∀ (t : Addr) (H' : Hp), Same H H' → H t = none → H' t = some (.tup ((look ws).map V.int)) → Q (.ref t) H'
section
variable {P : Program} {w : World} {K : PySem.W.Frag} {mg : Str → Option Value} {base : Heap} {f : Addr} {fd : FuncData}
theorem ok_law_look (F : Fun K "_law_look" "_law_look" s_law_look f fd) (M : Mg mg) : FnOk P w K mg base CX0 1 f fd ["_law_row"] (spLook K) := by
  refine F.ok sc_law_look (fun vs H Q E h => ?_) (fun cdv A outer s H vs Q E hr h => ?_)
  · obtain ⟨p, ws, rfl, _⟩ := h
    rfl
  obtain ⟨p, ws, rfl, hS, l4, q⟩ := h
  refine ⟨_, (@pss_cons _ _ _ _ _ (@ps_set _ _ 1 _ _ _ _ sc_law_look.nd rfl l_law_look_1 (@pe_lst _ _ _ _ (@pa_nil _)) (swap1 rfl) (.inl rfl)) (@pss_cons _ _ _ _ _ (@ps_for _ _ _ _ _ _ _ _ PassesOwn.never rfl (@pi_seq _ _ _ _ (@pe_var _ 0 _ _ rfl v_law_look_0 dn__law_row dc__law_row)) (@pg_name _ _ 2 _ sc_law_look.nd rfl l_law_look_2 (.inl rfl)) (@pss_cons _ _ _ _ _ (@ps_set _ _ 3 _ _ _ _ sc_law_look.nd rfl l_law_look_3 (@pe_lst _ _ _ _ (@pa_nil _)) (swap1 rfl) (.inl rfl)) (@pss_cons _ _ _ _ _ (@ps_for _ _ _ _ _ _ _ _ PassesOwn.never rfl (@pi_seq _ _ _ _ (@pe_var _ 0 _ _ rfl v_law_look_0 dn__law_row dc__law_row)) (@pg_name _ _ 4 _ sc_law_look.nd rfl l_law_look_4 (.inl rfl)) (@pss_one _ _ _ (@ps_if _ _ _ _ _ _ _ _ (@PW.pt _ _ _ (@pw_and _ _ _ _ _ _ _ (@pt_chain _ _ _ _ _ _ _ _ _ _ _ _ (@op_lt _) op_le (@pe_int _ _ _ _) (@pe_var _ 4 _ _ rfl v_law_look_4 dn__law_other dc__law_other) (@pe_var _ 2 _ _ rfl v_law_look_2 dn__law_weight dc__law_weight) (by with_unfolding_all rfl)) (@pw_and1 _ _ _ _ (@pt_cmpR _ _ _ _ _ _ _ _ (@op_notIn_seq _) (@pe_var _ 4 _ _ rfl v_law_look_4 dn__law_other dc__law_other) (@pe_var _ 3 _ _ rfl v_law_look_3 dn__law_lower dc__law_lower) (by with_unfolding_all rfl))))) (@pss_one _ _ _ (@ps_expr _ _ _ _ (@pe_bm _ _ _ _ _ _ _ _ _ _ _ _ PySem.F.plainAttrs_list PySem.F.slot_list_append PySem.F.type_list_append mt_append (@pe_var _ 3 _ _ rfl v_law_look_3 dn__law_lower dc__law_lower) (@pa_cons _ _ _ _ _ (@pe_var _ 4 _ _ rfl v_law_look_4 dn__law_other dc__law_other) (@pa_nil _) (star1 rfl)) (by rfl) (by rfl) (by rfl) (by rfl) (by rfl)) (swap1 rfl))) (@pss_nil _))) (by intro _; rfl)) (@pss_one _ _ _ (@ps_expr _ _ _ _ (@pe_bm _ _ _ _ _ _ _ _ _ _ _ _ PySem.F.plainAttrs_list PySem.F.slot_list_append PySem.F.type_list_append mt_append (@pe_var _ 1 _ _ rfl v_law_look_1 dn__law_look_here dc__law_look_here) (@pa_cons _ _ _ _ _ (@pe_callB _ _ _ _ _ _ _ _ _ call_len_seq g_law_look_len M.m_len b_len (@pa_cons _ _ _ _ _ (@pe_var _ 3 _ _ rfl v_law_look_3 dn__law_lower dc__law_lower) (@pa_nil _) (star1 rfl)) nn_len dn_len (star1 rfl) nost0) (@pa_nil _) (star1 rfl)) (by rfl) (by rfl) (by rfl) (by rfl) (by rfl)) (swap1 rfl))))) (by intro _; rfl)) (@pss_one _ _ _ (@ps_ret _ _ _ _ (@pe_callTy _ _ _ _ _ _ _ _ _ call_tuple_of g_law_look_tuple M.m_tuple b_tuple (@pa_cons _ _ _ _ _ (@pe_var _ 1 _ _ rfl v_law_look_1 dn__law_look_here dc__law_look_here) (@pa_nil _) (star1 rfl)) nn_tuple dn_tuple (star1 rfl) nost0))))), ?_⟩
  simp only [tDNewX, tTry, tRaise, iEnumL, iEnumT, iZip, iSeq, rIx, rSlTA, tComp_eq, tComp1, slots, Option.getD_some, Option.getD_none, tYes, tSeq, tAsg, gName, tOp, tUn, tC, tVar, tCB, tCons, tNil, tCall, rI, rI0, rU, tRet, tRetN, tIfS, tTest, tB, tAnd, tOr, tNot, tAndV, tOrV, tNotV, tIf, tChain, tMenu, tPar, tDrop, tTup, tLst, tNext, tSl, tPart, tNoPart, tNever, gTup, gCons, gNil, gSub, rSetL, tBM, rAppend, rEq, rNe, rIsi, rIxL, rIxT, rIxS, rSlL, isi_non_bl, isi_non_int, isi_non_str, isi_non_lst, isi_non_tup, isi_bl_bl, isi_bl_int, isi_bl_str, isi_bl_lst, isi_bl_tup, isi_int_bl, isi_int_int, isi_int_str, isi_int_lst, isi_int_tup, isi_str_bl, isi_str_int, isi_str_str, isi_str_lst, isi_str_tup, isi_lst_bl, isi_lst_int, isi_lst_str, isi_lst_lst, isi_lst_tup, isi_tup_bl, isi_tup_int, isi_tup_str, isi_tup_lst, isi_tup_tup, isi_dct_bl, isi_dct_int, isi_dct_str, isi_dct_lst, isi_dct_tup, Kd_non, Kd_bl, Kd_int, Kd_str, sc_non_non, sc_non_int, sc_int_non, sc_non_bl, sc_bl_non, sc_non_str, sc_str_non, sc_int_int, sc_bl_bl, sc_str_str, sc_int_str, sc_str_int, sc_bl_str, sc_str_bl, decide_true, decide_false, tFor_eq, iList, iTup, iRng1, iRng2, iRng3, rIndexT, tBM0, tBMT, tyK_int, tyK_bool, tyK_str, tyK_list, tyK_tuple, L2.start, cxK, Int.reduceToNat, List.map_cons, List.map_nil, List.length_cons, List.length_nil, Nat.reduceAdd, Nat.reduceSub, Nat.zero_add, List.replicate_succ, List.replicate_zero, List.cons_append, List.nil_append, List.append_nil, List.getElem?_cons_zero, List.getElem?_cons_succ, List.set_cons_zero, List.set_cons_succ, Option.some.injEq, V.int.injEq, V.bl.injEq, V.ref.injEq, V.str.injEq, V.ty.injEq, List.cons.injEq, exists_eq_left', exists_eq_left, exists_eq_right, exists_and_left, exists_and_right, and_true, true_and, and_assoc, exists_const, decide_eq_true_eq, Bool.not_eq_true', Bool.not_true, Bool.not_false, Bool.not_not, decide_eq_false_iff_not, ite_not, Bool.false_eq_true, if_true, if_false, reduceCtorEq, and_false, false_and, exists_false, or_false, false_or, ↓reduceIte, eq_self, reduceIte]
  refine ⟨by decide, fun l hl => ?_⟩
  obtain ⟨Pv, hP⟩ : ∃ Pv : Nat → St → Hp → Prop, Pv = fun i σ H' => ∃ (x y z : Option V), H' l = some (.lst (((look ws).take i).map V.int)) ∧ Same H H' ∧ σ = [some (.ref p), some (.ref l), x, y, z] := ⟨_, rfl⟩
  refine forW_seq (ws.map V.int) H hS Pv ?_ (fun i σ H' h => by rw [hP] at h; obtain ⟨_, _, _, _, e, _⟩ := h; exact e) ?_ ?_
  · rw [hP]
    exact ⟨_, _, _, upd_same, same_new hl _, rfl⟩
  · intro i v σ H' hi h
    rw [hP] at h
    obtain ⟨x, y, z, d1, e, rfl⟩ := h
    rw [List.getElem?_map] at hi
    obtain ⟨n, hn, rfl⟩ := Option.map_eq_some_iff.mp hi
    simp only [tDNewX, tTry, tRaise, iEnumL, iEnumT, iZip, iSeq, rIx, rSlTA, tComp_eq, tComp1, slots, Option.getD_some, Option.getD_none, tYes, tSeq, tAsg, gName, tOp, tUn, tC, tVar, tCB, tCons, tNil, tCall, rI, rI0, rU, tRet, tRetN, tIfS, tTest, tB, tAnd, tOr, tNot, tAndV, tOrV, tNotV, tIf, tChain, tMenu, tPar, tDrop, tTup, tLst, tNext, tSl, tPart, tNoPart, tNever, gTup, gCons, gNil, gSub, rSetL, tBM, rAppend, rEq, rNe, rIsi, rIxL, rIxT, rIxS, rSlL, isi_non_bl, isi_non_int, isi_non_str, isi_non_lst, isi_non_tup, isi_bl_bl, isi_bl_int, isi_bl_str, isi_bl_lst, isi_bl_tup, isi_int_bl, isi_int_int, isi_int_str, isi_int_lst, isi_int_tup, isi_str_bl, isi_str_int, isi_str_str, isi_str_lst, isi_str_tup, isi_lst_bl, isi_lst_int, isi_lst_str, isi_lst_lst, isi_lst_tup, isi_tup_bl, isi_tup_int, isi_tup_str, isi_tup_lst, isi_tup_tup, isi_dct_bl, isi_dct_int, isi_dct_str, isi_dct_lst, isi_dct_tup, Kd_non, Kd_bl, Kd_int, Kd_str, sc_non_non, sc_non_int, sc_int_non, sc_non_bl, sc_bl_non, sc_non_str, sc_str_non, sc_int_int, sc_bl_bl, sc_str_str, sc_int_str, sc_str_int, sc_bl_str, sc_str_bl, decide_true, decide_false, tFor_eq, iList, iTup, iRng1, iRng2, iRng3, rIndexT, tBM0, tBMT, tyK_int, tyK_bool, tyK_str, tyK_list, tyK_tuple, L2.start, cxK, Int.reduceToNat, List.map_cons, List.map_nil, List.length_cons, List.length_nil, Nat.reduceAdd, Nat.reduceSub, Nat.zero_add, List.replicate_succ, List.replicate_zero, List.cons_append, List.nil_append, List.append_nil, List.getElem?_cons_zero, List.getElem?_cons_succ, List.set_cons_zero, List.set_cons_succ, Option.some.injEq, V.int.injEq, V.bl.injEq, V.ref.injEq, V.str.injEq, V.ty.injEq, List.cons.injEq, exists_eq_left', exists_eq_left, exists_eq_right, exists_and_left, exists_and_right, and_true, true_and, and_assoc, exists_const, decide_eq_true_eq, Bool.not_eq_true', Bool.not_true, Bool.not_false, Bool.not_not, decide_eq_false_iff_not, ite_not, Bool.false_eq_true, if_true, if_false, reduceCtorEq, and_false, false_and, exists_false, or_false, false_or, ↓reduceIte, eq_self, reduceIte]
    refine ⟨by decide, fun c hc => ?_⟩
    have cl : l ≠ c := ne_of_none d1 hc
    have hcH : H c = none := e.free hc
    obtain ⟨Pw, hW⟩ : ∃ Pw : Nat → St → Hp → Prop, Pw = fun j σ H2 => ∃ (z : Option V), H2 c = some (.lst (((ws.take j).foldl (stepL n) []).map V.int)) ∧ Same H' H2 ∧ σ = [some (.ref p), some (.ref l), some (.int n), some (.ref c), z] := ⟨_, rfl⟩
    refine forW_seq (ws.map V.int) H hS Pw ?_ (fun i σ H2 h => by rw [hW] at h; obtain ⟨_, _, e2, _⟩ := h; exact e.trans e2) ?_ ?_
    · rw [hW]
      exact ⟨_, upd_same, same_new hc _, rfl⟩
    · intro j v σ H2 hj h
      rw [hW] at h
      obtain ⟨z', d2, e2, rfl⟩ := h
      rw [List.getElem?_map] at hj
      obtain ⟨o, ho, rfl⟩ := Option.map_eq_some_iff.mp hj
      have lj := (List.getElem?_eq_some_iff.mp ho).1
      have fl := fold_len n (ws.take j) []
      rw [List.length_take] at fl
      have fl' : ((ws.take j).foldl (stepL n) []).length ≤ 4 := by
        have : ([] : List Int).length = 0 := rfl
        omega
      have et : (ws.take (j + 1)).foldl (stepL n) [] = stepL n ((ws.take j).foldl (stepL n) []) o := by
        rw [List.take_add_one, ho, List.foldl_append]
        rfl
      generalize hacc : (ws.take j).foldl (stepL n) [] = acc at *
      simp only [tDNewX, tTry, tRaise, iEnumL, iEnumT, iZip, iSeq, rIx, rSlTA, tComp_eq, tComp1, slots, Option.getD_some, Option.getD_none, tYes, tSeq, tAsg, gName, tOp, tUn, tC, tVar, tCB, tCons, tNil, tCall, rI, rI0, rU, tRet, tRetN, tIfS, tTest, tB, tAnd, tOr, tNot, tAndV, tOrV, tNotV, tIf, tChain, tMenu, tPar, tDrop, tTup, tLst, tNext, tSl, tPart, tNoPart, tNever, gTup, gCons, gNil, gSub, rSetL, tBM, rAppend, rEq, rNe, rIsi, rIxL, rIxT, rIxS, rSlL, isi_non_bl, isi_non_int, isi_non_str, isi_non_lst, isi_non_tup, isi_bl_bl, isi_bl_int, isi_bl_str, isi_bl_lst, isi_bl_tup, isi_int_bl, isi_int_int, isi_int_str, isi_int_lst, isi_int_tup, isi_str_bl, isi_str_int, isi_str_str, isi_str_lst, isi_str_tup, isi_lst_bl, isi_lst_int, isi_lst_str, isi_lst_lst, isi_lst_tup, isi_tup_bl, isi_tup_int, isi_tup_str, isi_tup_lst, isi_tup_tup, isi_dct_bl, isi_dct_int, isi_dct_str, isi_dct_lst, isi_dct_tup, Kd_non, Kd_bl, Kd_int, Kd_str, sc_non_non, sc_non_int, sc_int_non, sc_non_bl, sc_bl_non, sc_non_str, sc_str_non, sc_int_int, sc_bl_bl, sc_str_str, sc_int_str, sc_str_int, sc_bl_str, sc_str_bl, decide_true, decide_false, tFor_eq, iList, iTup, iRng1, iRng2, iRng3, rIndexT, tBM0, tBMT, tyK_int, tyK_bool, tyK_str, tyK_list, tyK_tuple, L2.start, cxK, Int.reduceToNat, List.map_cons, List.map_nil, List.length_cons, List.length_nil, Nat.reduceAdd, Nat.reduceSub, Nat.zero_add, List.replicate_succ, List.replicate_zero, List.cons_append, List.nil_append, List.append_nil, List.getElem?_cons_zero, List.getElem?_cons_succ, List.set_cons_zero, List.set_cons_succ, Option.some.injEq, V.int.injEq, V.bl.injEq, V.ref.injEq, V.str.injEq, V.ty.injEq, List.cons.injEq, exists_eq_left', exists_eq_left, exists_eq_right, exists_and_left, exists_and_right, and_true, true_and, and_assoc, exists_const, decide_eq_true_eq, Bool.not_eq_true', Bool.not_true, Bool.not_false, Bool.not_not, decide_eq_false_iff_not, ite_not, Bool.false_eq_true, if_true, if_false, reduceCtorEq, and_false, false_and, exists_false, or_false, false_or, ↓reduceIte, eq_self, reduceIte]
      have stay : stepL n acc o = acc → Pw (j + 1) [some (.ref p), some (.ref l), some (.int n), some (.ref c), some (.int o)] H2 := fun es => by
        rw [hW]
        exact ⟨_, by rw [et, es]; exact d2, e2, rfl⟩
      by_cases h1 : 0 < o
      · rw [if_pos h1]
        by_cases h2 : o ≤ n
        · rw [if_pos h2]
          refine ⟨_, _, rfl, .inl (SqL.of d2), rfl, flat_ints _, _, rfl, ?_⟩
          rw [inV_ints]
          by_cases h3 : o ∈ acc
          · rw [decide_eq_true h3, if_neg (by decide)]
            exact stay (if_neg fun h => h.2.2 h3)
          · rw [decide_eq_false h3, if_pos (by decide)]
            refine ⟨.inl ⟨rfl, _, SqL.of d2⟩, _, d2, by rw [List.length_map]; exact Nat.lt_of_lt_of_le (m := 64) (by omega) (by decide), ?_⟩
            rw [hW]
            refine ⟨_, ?_, fun b u hb => by rw [upd_ne (ne_of_none hb hc)]; exact e2 _ _ hb, rfl⟩
            rw [upd_same, et, show stepL n acc o = acc ++ [o] from if_pos ⟨h1, h2, h3⟩, List.map_append]
            rfl
        · rw [if_neg h2]
          exact stay (if_neg fun h => h2 h.2.1)
      · rw [if_neg h1]
        exact stay (if_neg fun h => h1 h.1)
    · intro σ H2 h
      rw [hW] at h
      obtain ⟨z', d2, e2, rfl⟩ := h
      rw [List.length_map, List.take_of_length_le (Nat.le_refl _)] at d2
      have d3 := e2 _ _ d1
      simp only [tDNewX, tTry, tRaise, iEnumL, iEnumT, iZip, iSeq, rIx, rSlTA, tComp_eq, tComp1, slots, Option.getD_some, Option.getD_none, tYes, tSeq, tAsg, gName, tOp, tUn, tC, tVar, tCB, tCons, tNil, tCall, rI, rI0, rU, tRet, tRetN, tIfS, tTest, tB, tAnd, tOr, tNot, tAndV, tOrV, tNotV, tIf, tChain, tMenu, tPar, tDrop, tTup, tLst, tNext, tSl, tPart, tNoPart, tNever, gTup, gCons, gNil, gSub, rSetL, tBM, rAppend, rEq, rNe, rIsi, rIxL, rIxT, rIxS, rSlL, isi_non_bl, isi_non_int, isi_non_str, isi_non_lst, isi_non_tup, isi_bl_bl, isi_bl_int, isi_bl_str, isi_bl_lst, isi_bl_tup, isi_int_bl, isi_int_int, isi_int_str, isi_int_lst, isi_int_tup, isi_str_bl, isi_str_int, isi_str_str, isi_str_lst, isi_str_tup, isi_lst_bl, isi_lst_int, isi_lst_str, isi_lst_lst, isi_lst_tup, isi_tup_bl, isi_tup_int, isi_tup_str, isi_tup_lst, isi_tup_tup, isi_dct_bl, isi_dct_int, isi_dct_str, isi_dct_lst, isi_dct_tup, Kd_non, Kd_bl, Kd_int, Kd_str, sc_non_non, sc_non_int, sc_int_non, sc_non_bl, sc_bl_non, sc_non_str, sc_str_non, sc_int_int, sc_bl_bl, sc_str_str, sc_int_str, sc_str_int, sc_bl_str, sc_str_bl, decide_true, decide_false, tFor_eq, iList, iTup, iRng1, iRng2, iRng3, rIndexT, tBM0, tBMT, tyK_int, tyK_bool, tyK_str, tyK_list, tyK_tuple, L2.start, cxK, Int.reduceToNat, List.map_cons, List.map_nil, List.length_cons, List.length_nil, Nat.reduceAdd, Nat.reduceSub, Nat.zero_add, List.replicate_succ, List.replicate_zero, List.cons_append, List.nil_append, List.append_nil, List.getElem?_cons_zero, List.getElem?_cons_succ, List.set_cons_zero, List.set_cons_succ, Option.some.injEq, V.int.injEq, V.bl.injEq, V.ref.injEq, V.str.injEq, V.ty.injEq, List.cons.injEq, exists_eq_left', exists_eq_left, exists_eq_right, exists_and_left, exists_and_right, and_true, true_and, and_assoc, exists_const, decide_eq_true_eq, Bool.not_eq_true', Bool.not_true, Bool.not_false, Bool.not_not, decide_eq_false_iff_not, ite_not, Bool.false_eq_true, if_true, if_false, reduceCtorEq, and_false, false_and, exists_false, or_false, false_or, ↓reduceIte, eq_self, reduceIte]
      refine ⟨.inl ⟨rfl, _, SqL.of d3⟩, _, .inl (SqL.of d2), _, d3, ?_, ?_⟩
      · rw [List.length_map, List.length_take]
        unfold look
        rw [List.length_map]
        exact Nat.lt_of_lt_of_le (m := 64) (by omega) (by decide)
      · rw [hP]
        refine ⟨_, _, _, ?_, fun b u hb => by rw [upd_ne (ne_of_none hb hl)]; exact (e.trans e2) _ _ hb, rfl⟩
        have el : (look ws)[i]? = some (((lower ws n).length : Nat) : Int) := by
          unfold look
          rw [List.getElem?_map, hn]
          rfl
        rw [upd_same, List.take_add_one, el, List.map_append, List.length_map]
        rfl
  · intro σ H' h
    rw [hP] at h
    obtain ⟨x, y, z, d1, e, rfl⟩ := h
    rw [List.length_map, List.take_of_length_le (by unfold look; rw [List.length_map]; exact Nat.le_refl _)] at d1
    simp only [tDNewX, tTry, tRaise, iEnumL, iEnumT, iZip, iSeq, rIx, rSlTA, tComp_eq, tComp1, slots, Option.getD_some, Option.getD_none, tYes, tSeq, tAsg, gName, tOp, tUn, tC, tVar, tCB, tCons, tNil, tCall, rI, rI0, rU, tRet, tRetN, tIfS, tTest, tB, tAnd, tOr, tNot, tAndV, tOrV, tNotV, tIf, tChain, tMenu, tPar, tDrop, tTup, tLst, tNext, tSl, tPart, tNoPart, tNever, gTup, gCons, gNil, gSub, rSetL, tBM, rAppend, rEq, rNe, rIsi, rIxL, rIxT, rIxS, rSlL, isi_non_bl, isi_non_int, isi_non_str, isi_non_lst, isi_non_tup, isi_bl_bl, isi_bl_int, isi_bl_str, isi_bl_lst, isi_bl_tup, isi_int_bl, isi_int_int, isi_int_str, isi_int_lst, isi_int_tup, isi_str_bl, isi_str_int, isi_str_str, isi_str_lst, isi_str_tup, isi_lst_bl, isi_lst_int, isi_lst_str, isi_lst_lst, isi_lst_tup, isi_tup_bl, isi_tup_int, isi_tup_str, isi_tup_lst, isi_tup_tup, isi_dct_bl, isi_dct_int, isi_dct_str, isi_dct_lst, isi_dct_tup, Kd_non, Kd_bl, Kd_int, Kd_str, sc_non_non, sc_non_int, sc_int_non, sc_non_bl, sc_bl_non, sc_non_str, sc_str_non, sc_int_int, sc_bl_bl, sc_str_str, sc_int_str, sc_str_int, sc_bl_str, sc_str_bl, decide_true, decide_false, tFor_eq, iList, iTup, iRng1, iRng2, iRng3, rIndexT, tBM0, tBMT, tyK_int, tyK_bool, tyK_str, tyK_list, tyK_tuple, L2.start, cxK, Int.reduceToNat, List.map_cons, List.map_nil, List.length_cons, List.length_nil, Nat.reduceAdd, Nat.reduceSub, Nat.zero_add, List.replicate_succ, List.replicate_zero, List.cons_append, List.nil_append, List.append_nil, List.getElem?_cons_zero, List.getElem?_cons_succ, List.set_cons_zero, List.set_cons_succ, Option.some.injEq, V.int.injEq, V.bl.injEq, V.ref.injEq, V.str.injEq, V.ty.injEq, List.cons.injEq, exists_eq_left', exists_eq_left, exists_eq_right, exists_and_left, exists_and_right, and_true, true_and, and_assoc, exists_const, decide_eq_true_eq, Bool.not_eq_true', Bool.not_true, Bool.not_false, Bool.not_not, decide_eq_false_iff_not, ite_not, Bool.false_eq_true, if_true, if_false, reduceCtorEq, and_false, false_and, exists_false, or_false, false_or, ↓reduceIte, eq_self, reduceIte]
    refine ⟨_, .inl ⟨SqL.of d1, fun t ht => ?_⟩⟩
    exact q _ _ (e.trans (same_new ht _)) (e.free ht) upd_same
end

/-- the first place of the greatest -/
structure IsChief (ns : List Int) (j : Nat) : Prop where
  lt : j < ns.length
  top : ∀ x ∈ ns, x ≤ ns.getD j 0
  first : ∀ m, m < j → ns.getD m 0 < ns.getD j 0
theorem IsChief.uniq {ns : List Int} {i j : Nat} (a : IsChief ns i) (b : IsChief ns j) : i = j := by
  have ma : ns.getD i 0 ∈ ns := by rw [getD_at a.lt]; exact List.getElem_mem _
  have mb : ns.getD j 0 ∈ ns := by rw [getD_at b.lt]; exact List.getElem_mem _
  have h1 := a.top _ mb
  have h2 := b.top _ ma
  rcases Nat.lt_trichotomy i j with h | h | h
  · have := b.first i h
    omega
  · exact h
  · have := a.first j h
    omega
def alone (n j : Nat) : List Int := (List.range n).map fun i => if i = j then 1 else 0
theorem alone_len (n j : Nat) : (alone n j).length = n := by unfold alone; rw [List.length_map, List.length_range]
theorem alone_at {n j i : Nat} (h : i < n) : (alone n j)[i]? = some (if i = j then 1 else 0) := by
  unfold alone
  rw [List.getElem?_map, List.getElem?_range h]
  rfl
theorem alone_getD {n j i : Nat} (h : i < n) : (alone n j).getD i 0 = if i = j then 1 else 0 := by
  rw [List.getD, alone_at h]
  rfl
theorem alone_mem {n j : Nat} {x : Int} (h : x ∈ alone n j) : x = 0 ∨ x = 1 := by
  unfold alone at h
  obtain ⟨i, _, rfl⟩ := List.mem_map.mp h
  split
  · exact .inr rfl
  · exact .inl rfl
theorem alone_chief {n j : Nat} (h : j < n) : IsChief (alone n j) j := by
  refine ⟨by rw [alone_len]; exact h, fun x hx => ?_, fun m hm => ?_⟩
  · rw [alone_getD h, if_pos rfl]
    rcases alone_mem hx with rfl | rfl <;> decide
  · rw [alone_getD h, alone_getD (by omega), if_pos rfl, if_neg (by omega)]
    decide
theorem lower_zero (ws acc : List Int) : ws.foldl (stepL 0) acc = acc := by
  induction ws generalizing acc with
  | nil => rfl
  | cons o os ih =>
    rw [List.foldl_cons, show stepL 0 acc o = acc from if_neg (by omega)]
    exact ih acc
theorem lower_one1 (ws : List Int) (h : ∀ x ∈ ws, x = 0 ∨ x = 1) : ws.foldl (stepL 1) [1] = [1] := by
  induction ws with
  | nil => rfl
  | cons o os ih =>
    have e : stepL 1 [1] o = [1] := by
      rcases h o (List.mem_cons_self ..) with rfl | rfl
      · rfl
      · rfl
    rw [List.foldl_cons, e]
    exact ih fun x hx => h x (List.mem_cons_of_mem _ hx)
theorem lower_one (ws : List Int) (h : ∀ x ∈ ws, x = 0 ∨ x = 1) (h1 : (1 : Int) ∈ ws) : ws.foldl (stepL 1) [] = [1] := by
  induction ws with
  | nil => cases h1
  | cons o os ih =>
    have h' : ∀ x ∈ os, x = 0 ∨ x = 1 := fun x hx => h x (List.mem_cons_of_mem _ hx)
    rcases h o (List.mem_cons_self ..) with rfl | rfl
    · rw [List.foldl_cons, show stepL 1 [] 0 = [] from rfl]
      rcases List.mem_cons.mp h1 with e | e
      · cases e
      · exact ih h' e
    · rw [List.foldl_cons, show stepL 1 [] 1 = [1] from rfl]
      exact lower_one1 os h'
theorem look_alone {n j : Nat} (h : j < n) : look (alone n j) = alone n j := by
  have m1 : (1 : Int) ∈ alone n j := by
    have := alone_at (j := j) h
    rw [if_pos rfl] at this
    exact List.mem_of_getElem? this
  have e : ∀ x ∈ alone n j, ((lower (alone n j) x).length : Int) = x := by
    intro x hx
    unfold lower
    rcases alone_mem hx with rfl | rfl
    · rw [lower_zero]
      rfl
    · rw [lower_one _ (fun x hx => alone_mem hx) m1]
      rfl
  unfold look
  exact (List.map_congr_left e).trans (List.map_id _)
theorem first_at {m : Int} : ∀ {ns : List Int}, m ∈ ns → ∃ j, j < ns.length ∧ ns.getD j 0 = m ∧ ∀ i, i < j → ns.getD i 0 ≠ m
  | [], h => by cases h
  | a :: ns, h => by
    by_cases e : a = m
    · exact ⟨0, Nat.zero_lt_succ _, e, fun i hi => absurd hi (Nat.not_lt_zero _)⟩
    · rcases List.mem_cons.mp h with h | h
      · exact absurd h.symm e
      · obtain ⟨j, h1, h2, h3⟩ := first_at h
        refine ⟨j + 1, Nat.succ_lt_succ h1, h2, fun i hi => ?_⟩
        cases i with
        | zero => exact e
        | succ i => exact h3 i (Nat.lt_of_succ_lt_succ hi)
def spChief (K : PySem.W.Frag) : Sp := fun vs H Q _ => ∃ (p : Addr) (ns : List Int), vs = [.ref p] ∧ H p = some (.tup (ns.map V.int)) ∧ 0 < ns.length ∧ ∀ j : Nat, IsChief ns j → Q (.int j) H
def spAlone (K : PySem.W.Frag) : Sp := fun vs H Q _ => ∃ (p : Addr) (ns : List Int), vs = [.ref p] ∧ H p = some (.tup (ns.map V.int)) ∧ 0 < ns.length ∧ ns.length ≤ 4 ∧ ∀ (j : Nat) (t : Addr) (H' : Hp), IsChief ns j → Same H H' → H t = none → H' t = some (.tup ((alone ns.length j).map V.int)) → Q (.ref t) H'
def spWholes (K : PySem.W.Frag) : Sp := fun vs H Q _ => ∃ (p : Addr) (ns : List Int), vs = [.ref p, .int ns.length] ∧ SqT K H p (ns.map V.int) ∧ Q (.bl true) H
section
variable {P : Program} {w : World} {K : PySem.W.Frag} {mg : Str → Option Value} {base : Heap} {f : Addr} {fd : FuncData}
theorem ok_chief_of (F : Fun K "chief_of" "chief_of" s_chief_of f fd) (M : Mg mg) : FnOk P w K mg base CX0 1 f fd ["look"] (spChief K) := by
  refine F.ok sc_chief_of (fun vs H Q E h => ?_) (fun cdv A outer s H vs Q E hr h => ?_)
  · obtain ⟨p, ws, rfl, _⟩ := h
    rfl
  obtain ⟨p, ns, rfl, T0, l0, q⟩ := h
  have T : SqT K H p (ns.map V.int) := SqT.of T0
  refine ⟨_, (@pss_one _ _ _ (@ps_ret _ _ _ _ (@pe_bmT _ _ _ _ _ _ _ _ _ _ _ PySem.F.slot_tuple_index PySem.F.type_tuple_index mt_indexT (@pe_var _ 0 _ _ rfl v_chief_of_0 dn_look dc_look) (@pa_cons _ _ _ _ _ (@pe_callB _ _ _ _ _ _ _ _ _ (call_max1 rfl) g_chief_of_max M.m_max b_max (@pa_cons _ _ _ _ _ (@pe_var _ 0 _ _ rfl v_chief_of_0 dn_look dc_look) (@pa_nil _) (star1 rfl)) nn_max dn_max (star1 rfl) nost0) (@pa_nil _) (star1 rfl)) (by rfl) (by rfl) (by rfl) (by rfl) (by rfl)))), ?_⟩
  simp only [tDNewX, tTry, tRaise, iEnumL, iEnumT, iZip, iSeq, rIx, rSlTA, tComp_eq, tComp1, slots, Option.getD_some, Option.getD_none, tYes, tSeq, tAsg, gName, tOp, tUn, tC, tVar, tCB, tCons, tNil, tCall, rI, rI0, rU, tRet, tRetN, tIfS, tTest, tB, tAnd, tOr, tNot, tAndV, tOrV, tNotV, tIf, tChain, tMenu, tPar, tDrop, tTup, tLst, tNext, tSl, tPart, tNoPart, tNever, gTup, gCons, gNil, gSub, rSetL, tBM, rAppend, rEq, rNe, rIsi, rIxL, rIxT, rIxS, rSlL, isi_non_bl, isi_non_int, isi_non_str, isi_non_lst, isi_non_tup, isi_bl_bl, isi_bl_int, isi_bl_str, isi_bl_lst, isi_bl_tup, isi_int_bl, isi_int_int, isi_int_str, isi_int_lst, isi_int_tup, isi_str_bl, isi_str_int, isi_str_str, isi_str_lst, isi_str_tup, isi_lst_bl, isi_lst_int, isi_lst_str, isi_lst_lst, isi_lst_tup, isi_tup_bl, isi_tup_int, isi_tup_str, isi_tup_lst, isi_tup_tup, isi_dct_bl, isi_dct_int, isi_dct_str, isi_dct_lst, isi_dct_tup, Kd_non, Kd_bl, Kd_int, Kd_str, sc_non_non, sc_non_int, sc_int_non, sc_non_bl, sc_bl_non, sc_non_str, sc_str_non, sc_int_int, sc_bl_bl, sc_str_str, sc_int_str, sc_str_int, sc_bl_str, sc_str_bl, decide_true, decide_false, tFor_eq, iList, iTup, iRng1, iRng2, iRng3, rIndexT, tBM0, tBMT, tyK_int, tyK_bool, tyK_str, tyK_list, tyK_tuple, L2.start, cxK, Int.reduceToNat, List.map_cons, List.map_nil, List.length_cons, List.length_nil, Nat.reduceAdd, Nat.reduceSub, Nat.zero_add, List.replicate_succ, List.replicate_zero, List.cons_append, List.nil_append, List.append_nil, List.getElem?_cons_zero, List.getElem?_cons_succ, List.set_cons_zero, List.set_cons_succ, Option.some.injEq, V.int.injEq, V.bl.injEq, V.ref.injEq, V.str.injEq, V.ty.injEq, List.cons.injEq, exists_eq_left', exists_eq_left, exists_eq_right, exists_and_left, exists_and_right, and_true, true_and, and_assoc, exists_const, decide_eq_true_eq, Bool.not_eq_true', Bool.not_true, Bool.not_false, Bool.not_not, decide_eq_false_iff_not, ite_not, Bool.false_eq_true, if_true, if_false, reduceCtorEq, and_false, false_and, exists_false, or_false, false_or, ↓reduceIte, eq_self, reduceIte]
  refine ⟨⟨_, T0⟩, _, .inr T, l0, fun m hm hle => ?_⟩
  obtain ⟨j, h1, h2, h3⟩ := first_at hm
  refine ⟨_, T, rfl, flat_ints _, j, ⟨.int m, ?_, ?_⟩, ?_, q j ⟨h1, fun x hx => by rw [h2]; exact hle x hx, fun i hi => ?_⟩⟩
  · rw [List.getElem?_map, List.getElem?_eq_getElem h1, ← h2, getD_at h1]
    rfl
  · exact eqV_self rfl
  · intro i z hi hz
    have li : i < ns.length := by omega
    rw [List.getElem?_map, List.getElem?_eq_getElem li, ← getD_at (d := 0) li] at hz
    cases hz
    exact decide_eq_false (h3 i hi)
  · have li : i < ns.length := by omega
    have a := hle (ns.getD i 0) (by rw [getD_at li]; exact List.getElem_mem _)
    have b := h3 i hi
    rw [h2]
    omega
theorem ok_alone_of (F : Fun K "alone_of" "alone_of" s_alone_of f fd) (M : Mg mg) (C_chief_of : Cal P w K mg base CX0 "chief_of" 1 ["look"] (spChief K)) : FnOk P w K mg base CX0 2 f fd ["look"] (spAlone K) := by
  refine F.ok sc_alone_of (fun vs H Q E h => ?_) (fun cdv A outer s H vs Q E hr h => ?_)
  · obtain ⟨p, ws, rfl, _⟩ := h
    rfl
  obtain ⟨p, ns, rfl, T0, l0, l4, q⟩ := h
  have T : SqT K H p (ns.map V.int) := SqT.of T0
  refine ⟨_, (@pss_cons _ _ _ _ _ (@ps_set _ _ 1 _ _ _ _ sc_alone_of.nd rfl l_alone_of_1 (@pe_callC _ _ _ _ _ _ _ _ _ _ _ C_chief_of hr g_alone_of_chief_of (@pa_cons _ _ _ _ _ (@pe_var _ 0 _ _ rfl v_alone_of_0 dn_look dc_look) (@pa_nil _) (star1 rfl)) (by decide) dn_chief_of (star1 rfl) nost0) (swap1 rfl) (.inl rfl)) (@pss_one _ _ _ (@ps_ret _ _ _ _ (@pe_callTy _ _ _ _ _ _ _ _ _ call_tuple_of g_alone_of_tuple M.m_tuple b_tuple (@pa_cons _ _ _ _ _ (@pe_comp _ _ _ _ _ _ _ _ _ _ _ _ _ _ _ rfl (CompOk.make (N' := ["chief", "place"]) (ix := [1]) (nl := 1) (by rfl) (fm1 rfl fm0) (by rfl) (by decide +kernel) rfl (by decide +kernel) rfl (And.intro ⟨rfl, .inl rfl, .inl rfl⟩ True.intro)) (@pi_range1 _ _ _ _ _ _ g_alone_of_range M.m_range (@pa_cons _ _ _ _ _ (@pe_callB _ _ _ _ _ _ _ _ _ call_len_seq g_alone_of_len M.m_len b_len (@pa_cons _ _ _ _ _ (@pe_var _ 0 _ _ rfl v_alone_of_0 dn_look dc_look) (@pa_nil _) (star1 rfl)) nn_len dn_len (star1 rfl) nost0) (@pa_nil _) (star1 rfl)) (star1' rfl)) (fun _ _ _ _ _ => (@pg_name _ _ 1 _ (show List.Nodup (["chief", "place"] : List Str) from by decide) rfl (Or.inl rfl) (by first | exact .inl rfl | exact .inr rfl | assumption))) (fun _ _ _ _ _ => (@pif_nil _)) (fun _ _ _ _ _ => (@pe_ifExp _ _ _ _ _ _ _ _ (@pt_cmpR _ _ _ _ _ _ _ _ (@op_eq _) (@pv _ 1 _ _ (by rfl) (by first | exact Or.inl rfl | exact Or.inr (Or.inl rfl) | exact Or.inr (Or.inr rfl)) (by decide) (by decide)) (@pv _ 0 _ _ (by rfl) (by first | exact Or.inl rfl | exact Or.inr (Or.inl rfl) | exact Or.inr (Or.inr rfl)) (by decide) (by decide)) (nomark _)) (@pe_int _ _ _ _) (@pe_int _ _ _ _))) (by intro _; rfl)) (@pa_nil _) (star1 rfl)) nn_tuple dn_tuple (star1 rfl) nost0)))), ?_⟩
  simp only [tDNewX, tTry, tRaise, iEnumL, iEnumT, iZip, iSeq, rIx, rSlTA, tComp_eq, tComp1, slots, Option.getD_some, Option.getD_none, tYes, tSeq, tAsg, gName, tOp, tUn, tC, tVar, tCB, tCons, tNil, tCall, rI, rI0, rU, tRet, tRetN, tIfS, tTest, tB, tAnd, tOr, tNot, tAndV, tOrV, tNotV, tIf, tChain, tMenu, tPar, tDrop, tTup, tLst, tNext, tSl, tPart, tNoPart, tNever, gTup, gCons, gNil, gSub, rSetL, tBM, rAppend, rEq, rNe, rIsi, rIxL, rIxT, rIxS, rSlL, isi_non_bl, isi_non_int, isi_non_str, isi_non_lst, isi_non_tup, isi_bl_bl, isi_bl_int, isi_bl_str, isi_bl_lst, isi_bl_tup, isi_int_bl, isi_int_int, isi_int_str, isi_int_lst, isi_int_tup, isi_str_bl, isi_str_int, isi_str_str, isi_str_lst, isi_str_tup, isi_lst_bl, isi_lst_int, isi_lst_str, isi_lst_lst, isi_lst_tup, isi_tup_bl, isi_tup_int, isi_tup_str, isi_tup_lst, isi_tup_tup, isi_dct_bl, isi_dct_int, isi_dct_str, isi_dct_lst, isi_dct_tup, Kd_non, Kd_bl, Kd_int, Kd_str, sc_non_non, sc_non_int, sc_int_non, sc_non_bl, sc_bl_non, sc_non_str, sc_str_non, sc_int_int, sc_bl_bl, sc_str_str, sc_int_str, sc_str_int, sc_bl_str, sc_str_bl, decide_true, decide_false, tFor_eq, iList, iTup, iRng1, iRng2, iRng3, rIndexT, tBM0, tBMT, tyK_int, tyK_bool, tyK_str, tyK_list, tyK_tuple, L2.start, cxK, Int.reduceToNat, List.map_cons, List.map_nil, List.length_cons, List.length_nil, Nat.reduceAdd, Nat.reduceSub, Nat.zero_add, List.replicate_succ, List.replicate_zero, List.cons_append, List.nil_append, List.append_nil, List.getElem?_cons_zero, List.getElem?_cons_succ, List.set_cons_zero, List.set_cons_succ, Option.some.injEq, V.int.injEq, V.bl.injEq, V.ref.injEq, V.str.injEq, V.ty.injEq, List.cons.injEq, exists_eq_left', exists_eq_left, exists_eq_right, exists_and_left, exists_and_right, and_true, true_and, and_assoc, exists_const, decide_eq_true_eq, Bool.not_eq_true', Bool.not_true, Bool.not_false, Bool.not_not, decide_eq_false_iff_not, ite_not, Bool.false_eq_true, if_true, if_false, reduceCtorEq, and_false, false_and, exists_false, or_false, false_or, ↓reduceIte, eq_self, reduceIte]
  refine ⟨_, _, rfl, T0, l0, fun j hj => ?_⟩
  refine ⟨_, .inr T, by omega, by rw [List.length_map]; omega, fun D hD => ?_⟩
  rw [List.length_map]
  obtain ⟨Pc, hC⟩ : ∃ Pc : Nat → St → Hp → Prop, Pc = fun i τ H' => ∃ z, H' D = some (.lst (((alone ns.length j).take i).map V.int)) ∧ Same H H' ∧ τ = [some (.int j), z] := ⟨_, rfl⟩
  refine compS_range Pc ?_ ?_ ?_
  · rw [hC]
    exact ⟨_, upd_same, same_new hD _, rfl⟩
  · intro i τ H' R hi h next
    rw [hC] at h
    obtain ⟨z, d1, d2, rfl⟩ := h
    have li : i < ns.length := by omega
    have key : ∀ x : Int, x = (if i = j then 1 else 0) → ∃ ys, H' D = some (.lst ys) ∧ ys.length < sizeLine ∧ R [some (.int j), some (.int (0 + (i : Int)))] (upd H' D (.lst (ys ++ [.int x]))) := by
      intro x hx
      refine ⟨_, d1, ?_, next _ _ ?_⟩
      · rw [List.length_map, List.length_take, alone_len]
        exact Nat.lt_of_lt_of_le (m := 64) (by omega) (by decide)
      · rw [hC]
        refine ⟨_, ?_, fun b o hb => by rw [upd_ne (ne_of_none hb hD)]; exact d2 _ _ hb, rfl⟩
        rw [upd_same, List.take_add_one, alone_at li, List.map_append, hx]
        rfl
    simp only [tDNewX, tTry, tRaise, iEnumL, iEnumT, iZip, iSeq, rIx, rSlTA, tComp_eq, tComp1, slots, Option.getD_some, Option.getD_none, tYes, tSeq, tAsg, gName, tOp, tUn, tC, tVar, tCB, tCons, tNil, tCall, rI, rI0, rU, tRet, tRetN, tIfS, tTest, tB, tAnd, tOr, tNot, tAndV, tOrV, tNotV, tIf, tChain, tMenu, tPar, tDrop, tTup, tLst, tNext, tSl, tPart, tNoPart, tNever, gTup, gCons, gNil, gSub, rSetL, tBM, rAppend, rEq, rNe, rIsi, rIxL, rIxT, rIxS, rSlL, isi_non_bl, isi_non_int, isi_non_str, isi_non_lst, isi_non_tup, isi_bl_bl, isi_bl_int, isi_bl_str, isi_bl_lst, isi_bl_tup, isi_int_bl, isi_int_int, isi_int_str, isi_int_lst, isi_int_tup, isi_str_bl, isi_str_int, isi_str_str, isi_str_lst, isi_str_tup, isi_lst_bl, isi_lst_int, isi_lst_str, isi_lst_lst, isi_lst_tup, isi_tup_bl, isi_tup_int, isi_tup_str, isi_tup_lst, isi_tup_tup, isi_dct_bl, isi_dct_int, isi_dct_str, isi_dct_lst, isi_dct_tup, Kd_non, Kd_bl, Kd_int, Kd_str, sc_non_non, sc_non_int, sc_int_non, sc_non_bl, sc_bl_non, sc_non_str, sc_str_non, sc_int_int, sc_bl_bl, sc_str_str, sc_int_str, sc_str_int, sc_bl_str, sc_str_bl, decide_true, decide_false, tFor_eq, iList, iTup, iRng1, iRng2, iRng3, rIndexT, tBM0, tBMT, tyK_int, tyK_bool, tyK_str, tyK_list, tyK_tuple, L2.start, cxK, Int.reduceToNat, List.map_cons, List.map_nil, List.length_cons, List.length_nil, Nat.reduceAdd, Nat.reduceSub, Nat.zero_add, List.replicate_succ, List.replicate_zero, List.cons_append, List.nil_append, List.append_nil, List.getElem?_cons_zero, List.getElem?_cons_succ, List.set_cons_zero, List.set_cons_succ, Option.some.injEq, V.int.injEq, V.bl.injEq, V.ref.injEq, V.str.injEq, V.ty.injEq, List.cons.injEq, exists_eq_left', exists_eq_left, exists_eq_right, exists_and_left, exists_and_right, and_true, true_and, and_assoc, exists_const, decide_eq_true_eq, Bool.not_eq_true', Bool.not_true, Bool.not_false, Bool.not_not, decide_eq_false_iff_not, ite_not, Bool.false_eq_true, if_true, if_false, reduceCtorEq, and_false, false_and, exists_false, or_false, false_or, ↓reduceIte, eq_self, reduceIte]
    by_cases hij : i = j
    · rw [if_pos (by omega)]
      exact key _ (by rw [if_pos hij])
    · rw [if_neg (by omega)]
      exact key _ (by rw [if_neg hij])
  · intro τ H' h
    rw [hC] at h
    obtain ⟨z, d1, d2, rfl⟩ := h
    rw [List.take_of_length_le (by rw [alone_len]; omega)] at d1
    refine ⟨_, rfl, _, .inl ⟨SqL.of d1, fun t ht => ?_⟩⟩
    exact q j _ _ hj (d2.trans (same_new ht _)) (d2.free ht) upd_same
theorem ok_law_wholes (F : Fun K "_law_wholes" "_law_wholes" s_law_wholes f fd) (M : Mg mg) : FnOk P w K mg base CX0 1 f fd ["_law_found", "_law_many"] (spWholes K) := by
  refine F.ok sc_law_wholes (fun vs H Q E h => ?_) (fun cdv A outer s H vs Q E hr h => ?_)
  · obtain ⟨p, ws, rfl, _⟩ := h
    rfl
  obtain ⟨p, ns, rfl, T, q⟩ := h
  refine ⟨_, (@pss_cons _ _ _ _ _ (@ps_if _ _ _ _ _ _ _ _ (@PW.pt _ _ _ (@pw_or _ _ _ _ _ _ _ (@pt_not _ _ _ _ (@pt_val _ _ _ (@pe_callB _ _ _ _ _ _ _ _ _ call_isi g_law_wholes_isinstance M.m_isinstance b_isinstance (@pa_cons _ _ _ _ _ (@pe_var _ 0 _ _ rfl v_law_wholes_0 dn__law_found dc__law_found) (@pa_cons _ _ _ _ _ (@pe_bltn _ _ (.ty "tuple") _ _ g_law_wholes_tuple M.m_tuple b_tuple rfl nn_tuple dn_tuple) (@pa_nil _) (star1 rfl)) (star1 rfl)) nn_isinstance dn_isinstance (star1 rfl) (nost1 rfl nost0)) (test1 rfl))) (@pw_or1 _ _ _ _ (@pt_cmpR _ _ _ _ _ _ _ _ (@op_ne _) (@pe_callB _ _ _ _ _ _ _ _ _ call_len_seq g_law_wholes_len M.m_len b_len (@pa_cons _ _ _ _ _ (@pe_var _ 0 _ _ rfl v_law_wholes_0 dn__law_found dc__law_found) (@pa_nil _) (star1 rfl)) nn_len dn_len (star1 rfl) nost0) (@pe_var _ 1 _ _ rfl v_law_wholes_1 dn__law_many dc__law_many) (nomark _))))) (@pss_one _ _ _ (@ps_ret _ _ _ _ (@pe_bl _ _ _ _))) (@pss_nil _)) (@pss_cons _ _ _ _ _ (@ps_for _ _ _ _ _ _ _ _ PassesOwn.never rfl (@pi_tup _ _ _ _ (@pe_var _ 0 _ _ rfl v_law_wholes_0 dn__law_found dc__law_found)) (@pg_name _ _ 2 _ sc_law_wholes.nd rfl l_law_wholes_2 (.inl rfl)) (@pss_one _ _ _ (@ps_if _ _ _ _ _ _ _ _ (@PW.pt _ _ _ (@pw_or _ _ _ _ _ _ _ (@pt_not _ _ _ _ (@pt_val _ _ _ (@pe_callB _ _ _ _ _ _ _ _ _ call_isi g_law_wholes_isinstance M.m_isinstance b_isinstance (@pa_cons _ _ _ _ _ (@pe_var _ 2 _ _ rfl v_law_wholes_2 dn__law_number dc__law_number) (@pa_cons _ _ _ _ _ (@pe_bltn _ _ (.ty "int") _ _ g_law_wholes_int M.m_int b_int rfl nn_int dn_int) (@pa_nil _) (star1 rfl)) (star1 rfl)) nn_isinstance dn_isinstance (star1 rfl) (nost1 rfl nost0)) (test1 rfl))) (@pw_or1 _ _ _ _ (@pt_val _ _ _ (@pe_callB _ _ _ _ _ _ _ _ _ call_isi g_law_wholes_isinstance M.m_isinstance b_isinstance (@pa_cons _ _ _ _ _ (@pe_var _ 2 _ _ rfl v_law_wholes_2 dn__law_number dc__law_number) (@pa_cons _ _ _ _ _ (@pe_bltn _ _ (.ty "bool") _ _ g_law_wholes_bool M.m_bool b_bool rfl nn_bool dn_bool) (@pa_nil _) (star1 rfl)) (star1 rfl)) nn_isinstance dn_isinstance (star1 rfl) (nost1 rfl nost0)) (test1 rfl))))) (@pss_one _ _ _ (@ps_ret _ _ _ _ (@pe_bl _ _ _ _))) (@pss_nil _))) (by intro _; rfl)) (@pss_one _ _ _ (@ps_ret _ _ _ _ (@pe_bl _ _ _ _))))), ?_⟩
  simp only [tDNewX, tTry, tRaise, iEnumL, iEnumT, iZip, iSeq, rIx, rSlTA, tComp_eq, tComp1, slots, Option.getD_some, Option.getD_none, tYes, tSeq, tAsg, gName, tOp, tUn, tC, tVar, tCB, tCons, tNil, tCall, rI, rI0, rU, tRet, tRetN, tIfS, tTest, tB, tAnd, tOr, tNot, tAndV, tOrV, tNotV, tIf, tChain, tMenu, tPar, tDrop, tTup, tLst, tNext, tSl, tPart, tNoPart, tNever, gTup, gCons, gNil, gSub, rSetL, tBM, rAppend, rEq, rNe, rIsi, rIxL, rIxT, rIxS, rSlL, isi_non_bl, isi_non_int, isi_non_str, isi_non_lst, isi_non_tup, isi_bl_bl, isi_bl_int, isi_bl_str, isi_bl_lst, isi_bl_tup, isi_int_bl, isi_int_int, isi_int_str, isi_int_lst, isi_int_tup, isi_str_bl, isi_str_int, isi_str_str, isi_str_lst, isi_str_tup, isi_lst_bl, isi_lst_int, isi_lst_str, isi_lst_lst, isi_lst_tup, isi_tup_bl, isi_tup_int, isi_tup_str, isi_tup_lst, isi_tup_tup, isi_dct_bl, isi_dct_int, isi_dct_str, isi_dct_lst, isi_dct_tup, Kd_non, Kd_bl, Kd_int, Kd_str, sc_non_non, sc_non_int, sc_int_non, sc_non_bl, sc_bl_non, sc_non_str, sc_str_non, sc_int_int, sc_bl_bl, sc_str_str, sc_int_str, sc_str_int, sc_bl_str, sc_str_bl, decide_true, decide_false, tFor_eq, iList, iTup, iRng1, iRng2, iRng3, rIndexT, tBM0, tBMT, tyK_int, tyK_bool, tyK_str, tyK_list, tyK_tuple, L2.start, cxK, Int.reduceToNat, List.map_cons, List.map_nil, List.length_cons, List.length_nil, Nat.reduceAdd, Nat.reduceSub, Nat.zero_add, List.replicate_succ, List.replicate_zero, List.cons_append, List.nil_append, List.append_nil, List.getElem?_cons_zero, List.getElem?_cons_succ, List.set_cons_zero, List.set_cons_succ, Option.some.injEq, V.int.injEq, V.bl.injEq, V.ref.injEq, V.str.injEq, V.ty.injEq, List.cons.injEq, exists_eq_left', exists_eq_left, exists_eq_right, exists_and_left, exists_and_right, and_true, true_and, and_assoc, exists_const, decide_eq_true_eq, Bool.not_eq_true', Bool.not_true, Bool.not_false, Bool.not_not, decide_eq_false_iff_not, ite_not, Bool.false_eq_true, if_true, if_false, reduceCtorEq, and_false, false_and, exists_false, or_false, false_or, ↓reduceIte, eq_self, reduceIte]
  refine ⟨_, Kd.tup T, ?_⟩
  rw [if_neg (by decide)]
  refine ⟨_, .inr T, ?_⟩
  rw [if_pos (by rw [List.length_map])]
  refine ⟨⟨_, T⟩, ?_⟩
  obtain ⟨Pv, hP⟩ : ∃ Pv : Nat → St → Hp → Prop, Pv = fun i σ H' => H' = H ∧ ∃ z, σ = [some (.ref p), some (.int ns.length), z] := ⟨_, rfl⟩
  refine forW_tup (ns.map V.int) Pv ?_ (fun i σ H' _ h => by rw [hP] at h; rw [h.1]; exact T) ?_ ?_
  · rw [hP]
    exact ⟨rfl, _, rfl⟩
  · intro i v σ H' hi h
    rw [hP] at h
    obtain ⟨rfl, z, rfl⟩ := h
    rw [List.getElem?_map] at hi
    obtain ⟨n, hn, rfl⟩ := Option.map_eq_some_iff.mp hi
    simp only [tDNewX, tTry, tRaise, iEnumL, iEnumT, iZip, iSeq, rIx, rSlTA, tComp_eq, tComp1, slots, Option.getD_some, Option.getD_none, tYes, tSeq, tAsg, gName, tOp, tUn, tC, tVar, tCB, tCons, tNil, tCall, rI, rI0, rU, tRet, tRetN, tIfS, tTest, tB, tAnd, tOr, tNot, tAndV, tOrV, tNotV, tIf, tChain, tMenu, tPar, tDrop, tTup, tLst, tNext, tSl, tPart, tNoPart, tNever, gTup, gCons, gNil, gSub, rSetL, tBM, rAppend, rEq, rNe, rIsi, rIxL, rIxT, rIxS, rSlL, isi_non_bl, isi_non_int, isi_non_str, isi_non_lst, isi_non_tup, isi_bl_bl, isi_bl_int, isi_bl_str, isi_bl_lst, isi_bl_tup, isi_int_bl, isi_int_int, isi_int_str, isi_int_lst, isi_int_tup, isi_str_bl, isi_str_int, isi_str_str, isi_str_lst, isi_str_tup, isi_lst_bl, isi_lst_int, isi_lst_str, isi_lst_lst, isi_lst_tup, isi_tup_bl, isi_tup_int, isi_tup_str, isi_tup_lst, isi_tup_tup, isi_dct_bl, isi_dct_int, isi_dct_str, isi_dct_lst, isi_dct_tup, Kd_non, Kd_bl, Kd_int, Kd_str, sc_non_non, sc_non_int, sc_int_non, sc_non_bl, sc_bl_non, sc_non_str, sc_str_non, sc_int_int, sc_bl_bl, sc_str_str, sc_int_str, sc_str_int, sc_bl_str, sc_str_bl, decide_true, decide_false, tFor_eq, iList, iTup, iRng1, iRng2, iRng3, rIndexT, tBM0, tBMT, tyK_int, tyK_bool, tyK_str, tyK_list, tyK_tuple, L2.start, cxK, Int.reduceToNat, List.map_cons, List.map_nil, List.length_cons, List.length_nil, Nat.reduceAdd, Nat.reduceSub, Nat.zero_add, List.replicate_succ, List.replicate_zero, List.cons_append, List.nil_append, List.append_nil, List.getElem?_cons_zero, List.getElem?_cons_succ, List.set_cons_zero, List.set_cons_succ, Option.some.injEq, V.int.injEq, V.bl.injEq, V.ref.injEq, V.str.injEq, V.ty.injEq, List.cons.injEq, exists_eq_left', exists_eq_left, exists_eq_right, exists_and_left, exists_and_right, and_true, true_and, and_assoc, exists_const, decide_eq_true_eq, Bool.not_eq_true', Bool.not_true, Bool.not_false, Bool.not_not, decide_eq_false_iff_not, ite_not, Bool.false_eq_true, if_true, if_false, reduceCtorEq, and_false, false_and, exists_false, or_false, false_or, ↓reduceIte, eq_self, reduceIte]
    rw [hP]
    exact ⟨rfl, _, rfl⟩
  · intro σ H' h
    rw [hP] at h
    obtain ⟨rfl, z, rfl⟩ := h
    simp only [tDNewX, tTry, tRaise, iEnumL, iEnumT, iZip, iSeq, rIx, rSlTA, tComp_eq, tComp1, slots, Option.getD_some, Option.getD_none, tYes, tSeq, tAsg, gName, tOp, tUn, tC, tVar, tCB, tCons, tNil, tCall, rI, rI0, rU, tRet, tRetN, tIfS, tTest, tB, tAnd, tOr, tNot, tAndV, tOrV, tNotV, tIf, tChain, tMenu, tPar, tDrop, tTup, tLst, tNext, tSl, tPart, tNoPart, tNever, gTup, gCons, gNil, gSub, rSetL, tBM, rAppend, rEq, rNe, rIsi, rIxL, rIxT, rIxS, rSlL, isi_non_bl, isi_non_int, isi_non_str, isi_non_lst, isi_non_tup, isi_bl_bl, isi_bl_int, isi_bl_str, isi_bl_lst, isi_bl_tup, isi_int_bl, isi_int_int, isi_int_str, isi_int_lst, isi_int_tup, isi_str_bl, isi_str_int, isi_str_str, isi_str_lst, isi_str_tup, isi_lst_bl, isi_lst_int, isi_lst_str, isi_lst_lst, isi_lst_tup, isi_tup_bl, isi_tup_int, isi_tup_str, isi_tup_lst, isi_tup_tup, isi_dct_bl, isi_dct_int, isi_dct_str, isi_dct_lst, isi_dct_tup, Kd_non, Kd_bl, Kd_int, Kd_str, sc_non_non, sc_non_int, sc_int_non, sc_non_bl, sc_bl_non, sc_non_str, sc_str_non, sc_int_int, sc_bl_bl, sc_str_str, sc_int_str, sc_str_int, sc_bl_str, sc_str_bl, decide_true, decide_false, tFor_eq, iList, iTup, iRng1, iRng2, iRng3, rIndexT, tBM0, tBMT, tyK_int, tyK_bool, tyK_str, tyK_list, tyK_tuple, L2.start, cxK, Int.reduceToNat, List.map_cons, List.map_nil, List.length_cons, List.length_nil, Nat.reduceAdd, Nat.reduceSub, Nat.zero_add, List.replicate_succ, List.replicate_zero, List.cons_append, List.nil_append, List.append_nil, List.getElem?_cons_zero, List.getElem?_cons_succ, List.set_cons_zero, List.set_cons_succ, Option.some.injEq, V.int.injEq, V.bl.injEq, V.ref.injEq, V.str.injEq, V.ty.injEq, List.cons.injEq, exists_eq_left', exists_eq_left, exists_eq_right, exists_and_left, exists_and_right, and_true, true_and, and_assoc, exists_const, decide_eq_true_eq, Bool.not_eq_true', Bool.not_true, Bool.not_false, Bool.not_not, decide_eq_false_iff_not, ite_not, Bool.false_eq_true, if_true, if_false, reduceCtorEq, and_false, false_and, exists_false, or_false, false_or, ↓reduceIte, eq_self, reduceIte]
    exact q
end

section
variable {P : Program} {w : World} {K : PySem.W.Frag} {mg : Str → Option Value} {base : Heap} {f : Addr} {fd : FuncData}
theorem ok_law (F : Fun K "law" "law" s_law f fd) (M : Mg mg) (C_chief_of : Cal P w K mg base CX0 "chief_of" 1 ["look"] (spChief K)) (C_alone_of : Cal P w K mg base CX0 "alone_of" 2 ["look"] (spAlone K)) (C_law_weights : Cal P w K mg base CX0 "_law_weights" 2 ["_law_script"] (spWeights K)) (C_law_look : Cal P w K mg base CX0 "_law_look" 1 ["_law_row"] (spLook K))
    (C_law_wholes : Cal P w K mg base CX0 "_law_wholes" 1 ["_law_found", "_law_many"] (spWholes K)) : FnOk P w K mg base CX0 3 f fd ["_law_script"] (spLaw K) := by
  refine F.ok sc_law (fun vs H Q E h => ?_) (fun cdv A outer s H vs Q E hr h => ?_)
  · obtain ⟨a, ns, rfl, _⟩ := h
    rfl
  obtain ⟨a, ns, rfl, hS, hl, q⟩ := h
  refine ⟨_, (@pss_cons _ _ _ _ _ (@ps_set _ _ 1 _ _ _ _ sc_law.nd rfl l_law_1 (@pe_callC _ _ _ _ _ _ _ _ _ _ _ C_law_look hr g_law__law_look (@pa_cons _ _ _ _ _ (@pe_callC _ _ _ _ _ _ _ _ _ _ _ C_law_weights hr g_law__law_weights (@pa_cons _ _ _ _ _ (@pe_var _ 0 _ _ rfl v_law_0 dn__law_script dc__law_script) (@pa_nil _) (star1 rfl)) (by decide) dn__law_weights (star1 rfl) nost0) (@pa_nil _) (star1 rfl)) (by decide) dn__law_look (star1 rfl) nost0) (swap1 rfl) (.inl rfl)) (@pss_cons _ _ _ _ _ (@ps_set _ _ 2 _ _ _ _ sc_law.nd rfl l_law_2 (@pe_callC _ _ _ _ _ _ _ _ _ _ _ C_chief_of hr g_law_chief_of (@pa_cons _ _ _ _ _ (@pe_var _ 1 _ _ rfl v_law_1 dn__law_look_here dc__law_look_here) (@pa_nil _) (star1 rfl)) (by decide) dn_chief_of (star1 rfl) nost0) (swap1 rfl) (.inl rfl)) (@pss_cons _ _ _ _ _ (@ps_if _ _ _ _ _ _ _ _ (@PW.pt _ _ _ (@pw_or _ _ _ _ _ _ _ (@pt_not _ _ _ _ (@pt_val _ _ _ (@pe_callB _ _ _ _ _ _ _ _ _ call_isi g_law_isinstance M.m_isinstance b_isinstance (@pa_cons _ _ _ _ _ (@pe_var _ 2 _ _ rfl v_law_2 dn__law_chief dc__law_chief) (@pa_cons _ _ _ _ _ (@pe_bltn _ _ (.ty "int") _ _ g_law_int M.m_int b_int rfl nn_int dn_int) (@pa_nil _) (star1 rfl)) (star1 rfl)) nn_isinstance dn_isinstance (star1 rfl) (nost1 rfl nost0)) (test1 rfl))) (@pw_or _ _ _ _ _ _ _ (@pt_val _ _ _ (@pe_callB _ _ _ _ _ _ _ _ _ call_isi g_law_isinstance M.m_isinstance b_isinstance (@pa_cons _ _ _ _ _ (@pe_var _ 2 _ _ rfl v_law_2 dn__law_chief dc__law_chief) (@pa_cons _ _ _ _ _ (@pe_bltn _ _ (.ty "bool") _ _ g_law_bool M.m_bool b_bool rfl nn_bool dn_bool) (@pa_nil _) (star1 rfl)) (star1 rfl)) nn_isinstance dn_isinstance (star1 rfl) (nost1 rfl nost0)) (test1 rfl)) (@pw_or1 _ _ _ _ (@pt_not _ _ _ _ (@pt_chain _ _ _ _ _ _ _ _ _ _ _ _ op_le (@op_lt _) (@pe_int _ _ _ _) (@pe_var _ 2 _ _ rfl v_law_2 dn__law_chief dc__law_chief) (@pe_callB _ _ _ _ _ _ _ _ _ call_len_seq g_law_len M.m_len b_len (@pa_cons _ _ _ _ _ (@pe_var _ 1 _ _ rfl v_law_1 dn__law_look_here dc__law_look_here) (@pa_nil _) (star1 rfl)) nn_len dn_len (star1 rfl) nost0) (by with_unfolding_all rfl))))))) (@pss_one _ _ _ (@ps_ret _ _ _ _ (@pe_bl _ _ _ _))) (@pss_nil _)) (@pss_cons _ _ _ _ _ (@ps_for _ _ _ _ _ _ _ _ PassesOwn.never rfl (@pi_range1 _ _ _ _ _ _ g_law_range M.m_range (@pa_cons _ _ _ _ _ (@pe_callB _ _ _ _ _ _ _ _ _ call_len_seq g_law_len M.m_len b_len (@pa_cons _ _ _ _ _ (@pe_var _ 1 _ _ rfl v_law_1 dn__law_look_here dc__law_look_here) (@pa_nil _) (star1 rfl)) nn_len dn_len (star1 rfl) nost0) (@pa_nil _) (star1 rfl)) (star1' rfl)) (@pg_name _ _ 3 _ sc_law.nd rfl l_law_3 (.inl rfl)) (@pss_one _ _ _ (@ps_if _ _ _ _ _ _ _ _ (@PW.pt _ _ _ (@pw_or _ _ _ _ _ _ _ (@pt_cmpR _ _ _ _ _ _ _ _ (@op_gt _) (@pe_ix _ _ _ _ _ _ _ (@ix_tup _) (@pe_var _ 1 _ _ rfl v_law_1 dn__law_look_here dc__law_look_here) (@pe_var _ 3 _ _ rfl v_law_3 dn__law_k dc__law_k) (fun _ _ => rfl)) (@pe_ix _ _ _ _ _ _ _ (@ix_tup _) (@pe_var _ 1 _ _ rfl v_law_1 dn__law_look_here dc__law_look_here) (@pe_var _ 2 _ _ rfl v_law_2 dn__law_chief dc__law_chief) (fun _ _ => rfl)) (nomark _)) (@pw_or1 _ _ _ _ (@PW.pt _ _ _ (@pw_and _ _ _ _ _ _ _ (@pt_cmpR _ _ _ _ _ _ _ _ (@op_eq _) (@pe_ix _ _ _ _ _ _ _ (@ix_tup _) (@pe_var _ 1 _ _ rfl v_law_1 dn__law_look_here dc__law_look_here) (@pe_var _ 3 _ _ rfl v_law_3 dn__law_k dc__law_k) (fun _ _ => rfl)) (@pe_ix _ _ _ _ _ _ _ (@ix_tup _) (@pe_var _ 1 _ _ rfl v_law_1 dn__law_look_here dc__law_look_here) (@pe_var _ 2 _ _ rfl v_law_2 dn__law_chief dc__law_chief) (fun _ _ => rfl)) (nomark _)) (@pw_and1 _ _ _ _ (@pt_cmpR _ _ _ _ _ _ _ _ (@op_lt _) (@pe_var _ 3 _ _ rfl v_law_3 dn__law_k dc__law_k) (@pe_var _ 2 _ _ rfl v_law_2 dn__law_chief dc__law_chief) (nomark _)))))))) (@pss_one _ _ _ (@ps_ret _ _ _ _ (@pe_bl _ _ _ _))) (@pss_nil _))) (by intro _; rfl)) (@pss_cons _ _ _ _ _ (@ps_set _ _ 4 _ _ _ _ sc_law.nd rfl l_law_4 (@pe_callC _ _ _ _ _ _ _ _ _ _ _ C_alone_of hr g_law_alone_of (@pa_cons _ _ _ _ _ (@pe_var _ 1 _ _ rfl v_law_1 dn__law_look_here dc__law_look_here) (@pa_nil _) (star1 rfl)) (by decide) dn_alone_of (star1 rfl) nost0) (swap1 rfl) (.inl rfl)) (@pss_cons _ _ _ _ _ (@ps_if _ _ _ _ _ _ _ _ (@pt_not _ _ _ _ (@pt_val _ _ _ (@pe_callC _ _ _ _ _ _ _ _ _ _ _ C_law_wholes hr g_law__law_wholes (@pa_cons _ _ _ _ _ (@pe_var _ 4 _ _ rfl v_law_4 dn__law_alone dc__law_alone) (@pa_cons _ _ _ _ _ (@pe_callB _ _ _ _ _ _ _ _ _ call_len_seq g_law_len M.m_len b_len (@pa_cons _ _ _ _ _ (@pe_var _ 1 _ _ rfl v_law_1 dn__law_look_here dc__law_look_here) (@pa_nil _) (star1 rfl)) nn_len dn_len (star1 rfl) nost0) (@pa_nil _) (star1 rfl)) (star1 rfl)) (by decide) dn__law_wholes (star1 rfl) (nost1 rfl nost0)) (test1 rfl))) (@pss_one _ _ _ (@ps_ret _ _ _ _ (@pe_bl _ _ _ _))) (@pss_nil _)) (@pss_cons _ _ _ _ _ (@ps_for _ _ _ _ _ _ _ _ PassesOwn.never rfl (@pi_range1 _ _ _ _ _ _ g_law_range M.m_range (@pa_cons _ _ _ _ _ (@pe_callB _ _ _ _ _ _ _ _ _ call_len_seq g_law_len M.m_len b_len (@pa_cons _ _ _ _ _ (@pe_var _ 1 _ _ rfl v_law_1 dn__law_look_here dc__law_look_here) (@pa_nil _) (star1 rfl)) nn_len dn_len (star1 rfl) nost0) (@pa_nil _) (star1 rfl)) (star1' rfl)) (@pg_name _ _ 3 _ sc_law.nd rfl l_law_3 (.inl rfl)) (@pss_one _ _ _ (@ps_if _ _ _ _ _ _ _ _ (@pt_cmpR _ _ _ _ _ _ _ _ (@op_ne _) (@pe_ix _ _ _ _ _ _ _ (@ix_tup _) (@pe_var _ 4 _ _ rfl v_law_4 dn__law_alone dc__law_alone) (@pe_var _ 3 _ _ rfl v_law_3 dn__law_k dc__law_k) (fun _ _ => rfl)) (@pe_callTy _ _ _ _ _ _ _ _ _ call_int_bl g_law_int M.m_int b_int (@pa_cons _ _ _ _ _ (@pe_cmpR _ _ _ _ _ _ _ _ (@op_eq _) (@pe_var _ 3 _ _ rfl v_law_3 dn__law_k dc__law_k) (@pe_var _ 2 _ _ rfl v_law_2 dn__law_chief dc__law_chief) (nomark _)) (@pa_nil _) (star1 rfl)) nn_int dn_int (star1 rfl) nost0) (nomark _)) (@pss_one _ _ _ (@ps_ret _ _ _ _ (@pe_bl _ _ _ _))) (@pss_nil _))) (by intro _; rfl)) (@pss_one _ _ _ (@ps_ret _ _ _ _ (@pe_and _ _ _ _ _ _ _ (@pe_cmpR _ _ _ _ _ _ _ _ (@op_eq _) (@pe_callC _ _ _ _ _ _ _ _ _ _ _ C_chief_of hr g_law_chief_of (@pa_cons _ _ _ _ _ (@pe_var _ 4 _ _ rfl v_law_4 dn__law_alone dc__law_alone) (@pa_nil _) (star1 rfl)) (by decide) dn_chief_of (star1 rfl) nost0) (@pe_var _ 2 _ _ rfl v_law_2 dn__law_chief dc__law_chief) (nomark _)) (@pe_and _ _ _ _ _ _ _ (@pe_cmpR _ _ _ _ _ _ _ _ (@op_eqS _ (Nat.lt_of_succ_lt (hu_of hr))) (@pe_callC _ _ _ _ _ _ _ _ _ _ _ C_alone_of hr g_law_alone_of (@pa_cons _ _ _ _ _ (@pe_var _ 4 _ _ rfl v_law_4 dn__law_alone dc__law_alone) (@pa_nil _) (star1 rfl)) (by decide) dn_alone_of (star1 rfl) nost0) (@pe_var _ 4 _ _ rfl v_law_4 dn__law_alone dc__law_alone) (nomark _)) (@pe_one _ _ _ _ _ (@pe_cmpR _ _ _ _ _ _ _ _ (@op_eqS _ (Nat.lt_of_succ_lt (hu_of hr))) (@pe_callC _ _ _ _ _ _ _ _ _ _ _ C_law_look hr g_law__law_look (@pa_cons _ _ _ _ _ (@pe_var _ 4 _ _ rfl v_law_4 dn__law_alone dc__law_alone) (@pa_nil _) (star1 rfl)) (by decide) dn__law_look (star1 rfl) nost0) (@pe_var _ 4 _ _ rfl v_law_4 dn__law_alone dc__law_alone) (nomark _)))))))))))))), ?_⟩
  simp only [tDNewX, tTry, tRaise, iEnumL, iEnumT, iZip, iSeq, rIx, rSlTA, tComp_eq, tComp1, slots, Option.getD_some, Option.getD_none, tYes, tSeq, tAsg, gName, tOp, tUn, tC, tVar, tCB, tCons, tNil, tCall, rI, rI0, rU, tRet, tRetN, tIfS, tTest, tB, tAnd, tOr, tNot, tAndV, tOrV, tNotV, tIf, tChain, tMenu, tPar, tDrop, tTup, tLst, tNext, tSl, tPart, tNoPart, tNever, gTup, gCons, gNil, gSub, rSetL, tBM, rAppend, rEq, rNe, rIsi, rIxL, rIxT, rIxS, rSlL, isi_non_bl, isi_non_int, isi_non_str, isi_non_lst, isi_non_tup, isi_bl_bl, isi_bl_int, isi_bl_str, isi_bl_lst, isi_bl_tup, isi_int_bl, isi_int_int, isi_int_str, isi_int_lst, isi_int_tup, isi_str_bl, isi_str_int, isi_str_str, isi_str_lst, isi_str_tup, isi_lst_bl, isi_lst_int, isi_lst_str, isi_lst_lst, isi_lst_tup, isi_tup_bl, isi_tup_int, isi_tup_str, isi_tup_lst, isi_tup_tup, isi_dct_bl, isi_dct_int, isi_dct_str, isi_dct_lst, isi_dct_tup, Kd_non, Kd_bl, Kd_int, Kd_str, sc_non_non, sc_non_int, sc_int_non, sc_non_bl, sc_bl_non, sc_non_str, sc_str_non, sc_int_int, sc_bl_bl, sc_str_str, sc_int_str, sc_str_int, sc_bl_str, sc_str_bl, decide_true, decide_false, tFor_eq, iList, iTup, iRng1, iRng2, iRng3, rIndexT, tBM0, tBMT, tyK_int, tyK_bool, tyK_str, tyK_list, tyK_tuple, L2.start, cxK, Int.reduceToNat, List.map_cons, List.map_nil, List.length_cons, List.length_nil, Nat.reduceAdd, Nat.reduceSub, Nat.zero_add, List.replicate_succ, List.replicate_zero, List.cons_append, List.nil_append, List.append_nil, List.getElem?_cons_zero, List.getElem?_cons_succ, List.set_cons_zero, List.set_cons_succ, Option.some.injEq, V.int.injEq, V.bl.injEq, V.ref.injEq, V.str.injEq, V.ty.injEq, List.cons.injEq, exists_eq_left', exists_eq_left, exists_eq_right, exists_and_left, exists_and_right, and_true, true_and, and_assoc, exists_const, decide_eq_true_eq, Bool.not_eq_true', Bool.not_true, Bool.not_false, Bool.not_not, decide_eq_false_iff_not, ite_not, Bool.false_eq_true, if_true, if_false, reduceCtorEq, and_false, false_and, exists_false, or_false, false_or, ↓reduceIte, eq_self, reduceIte]
  refine ⟨_, _, rfl, hS, fun l ws H1 e1 hl1 L l1 l4 all pos => ?_⟩
  refine ⟨_, _, rfl, .inl (SqL.of L), l4, fun t H2 e2 ht T => ?_⟩
  have ll : (look ws).length = ws.length := by unfold look; rw [List.length_map]
  generalize look ws = ls at *
  simp only [tDNewX, tTry, tRaise, iEnumL, iEnumT, iZip, iSeq, rIx, rSlTA, tComp_eq, tComp1, slots, Option.getD_some, Option.getD_none, tYes, tSeq, tAsg, gName, tOp, tUn, tC, tVar, tCB, tCons, tNil, tCall, rI, rI0, rU, tRet, tRetN, tIfS, tTest, tB, tAnd, tOr, tNot, tAndV, tOrV, tNotV, tIf, tChain, tMenu, tPar, tDrop, tTup, tLst, tNext, tSl, tPart, tNoPart, tNever, gTup, gCons, gNil, gSub, rSetL, tBM, rAppend, rEq, rNe, rIsi, rIxL, rIxT, rIxS, rSlL, isi_non_bl, isi_non_int, isi_non_str, isi_non_lst, isi_non_tup, isi_bl_bl, isi_bl_int, isi_bl_str, isi_bl_lst, isi_bl_tup, isi_int_bl, isi_int_int, isi_int_str, isi_int_lst, isi_int_tup, isi_str_bl, isi_str_int, isi_str_str, isi_str_lst, isi_str_tup, isi_lst_bl, isi_lst_int, isi_lst_str, isi_lst_lst, isi_lst_tup, isi_tup_bl, isi_tup_int, isi_tup_str, isi_tup_lst, isi_tup_tup, isi_dct_bl, isi_dct_int, isi_dct_str, isi_dct_lst, isi_dct_tup, Kd_non, Kd_bl, Kd_int, Kd_str, sc_non_non, sc_non_int, sc_int_non, sc_non_bl, sc_bl_non, sc_non_str, sc_str_non, sc_int_int, sc_bl_bl, sc_str_str, sc_int_str, sc_str_int, sc_bl_str, sc_str_bl, decide_true, decide_false, tFor_eq, iList, iTup, iRng1, iRng2, iRng3, rIndexT, tBM0, tBMT, tyK_int, tyK_bool, tyK_str, tyK_list, tyK_tuple, L2.start, cxK, Int.reduceToNat, List.map_cons, List.map_nil, List.length_cons, List.length_nil, Nat.reduceAdd, Nat.reduceSub, Nat.zero_add, List.replicate_succ, List.replicate_zero, List.cons_append, List.nil_append, List.append_nil, List.getElem?_cons_zero, List.getElem?_cons_succ, List.set_cons_zero, List.set_cons_succ, Option.some.injEq, V.int.injEq, V.bl.injEq, V.ref.injEq, V.str.injEq, V.ty.injEq, List.cons.injEq, exists_eq_left', exists_eq_left, exists_eq_right, exists_and_left, exists_and_right, and_true, true_and, and_assoc, exists_const, decide_eq_true_eq, Bool.not_eq_true', Bool.not_true, Bool.not_false, Bool.not_not, decide_eq_false_iff_not, ite_not, Bool.false_eq_true, if_true, if_false, reduceCtorEq, and_false, false_and, exists_false, or_false, false_or, ↓reduceIte, eq_self, reduceIte]
  refine ⟨_, _, rfl, T, by omega, fun j hj => ?_⟩
  simp only [tDNewX, tTry, tRaise, iEnumL, iEnumT, iZip, iSeq, rIx, rSlTA, tComp_eq, tComp1, slots, Option.getD_some, Option.getD_none, tYes, tSeq, tAsg, gName, tOp, tUn, tC, tVar, tCB, tCons, tNil, tCall, rI, rI0, rU, tRet, tRetN, tIfS, tTest, tB, tAnd, tOr, tNot, tAndV, tOrV, tNotV, tIf, tChain, tMenu, tPar, tDrop, tTup, tLst, tNext, tSl, tPart, tNoPart, tNever, gTup, gCons, gNil, gSub, rSetL, tBM, rAppend, rEq, rNe, rIsi, rIxL, rIxT, rIxS, rSlL, isi_non_bl, isi_non_int, isi_non_str, isi_non_lst, isi_non_tup, isi_bl_bl, isi_bl_int, isi_bl_str, isi_bl_lst, isi_bl_tup, isi_int_bl, isi_int_int, isi_int_str, isi_int_lst, isi_int_tup, isi_str_bl, isi_str_int, isi_str_str, isi_str_lst, isi_str_tup, isi_lst_bl, isi_lst_int, isi_lst_str, isi_lst_lst, isi_lst_tup, isi_tup_bl, isi_tup_int, isi_tup_str, isi_tup_lst, isi_tup_tup, isi_dct_bl, isi_dct_int, isi_dct_str, isi_dct_lst, isi_dct_tup, Kd_non, Kd_bl, Kd_int, Kd_str, sc_non_non, sc_non_int, sc_int_non, sc_non_bl, sc_bl_non, sc_non_str, sc_str_non, sc_int_int, sc_bl_bl, sc_str_str, sc_int_str, sc_str_int, sc_bl_str, sc_str_bl, decide_true, decide_false, tFor_eq, iList, iTup, iRng1, iRng2, iRng3, rIndexT, tBM0, tBMT, tyK_int, tyK_bool, tyK_str, tyK_list, tyK_tuple, L2.start, cxK, Int.reduceToNat, List.map_cons, List.map_nil, List.length_cons, List.length_nil, Nat.reduceAdd, Nat.reduceSub, Nat.zero_add, List.replicate_succ, List.replicate_zero, List.cons_append, List.nil_append, List.append_nil, List.getElem?_cons_zero, List.getElem?_cons_succ, List.set_cons_zero, List.set_cons_succ, Option.some.injEq, V.int.injEq, V.bl.injEq, V.ref.injEq, V.str.injEq, V.ty.injEq, List.cons.injEq, exists_eq_left', exists_eq_left, exists_eq_right, exists_and_left, exists_and_right, and_true, true_and, and_assoc, exists_const, decide_eq_true_eq, Bool.not_eq_true', Bool.not_true, Bool.not_false, Bool.not_not, decide_eq_false_iff_not, ite_not, Bool.false_eq_true, if_true, if_false, reduceCtorEq, and_false, false_and, exists_false, or_false, false_or, ↓reduceIte, eq_self, reduceIte]
  have j1 := hj.lt
  have T2 : SqT K H2 t (ls.map V.int) := SqT.of T
  rw [if_pos (by omega)]
  refine ⟨_, .inr T2, ?_⟩
  rw [if_pos (by rw [List.length_map]; omega)]
  refine ⟨_, .inr T2, by omega, by rw [List.length_map]; omega, ?_⟩
  rw [List.length_map]
  have atj : atI (ls.map V.int) (j : Int) = some (.int (ls.getD j 0)) := atI_map (by omega) (by omega)
  obtain ⟨Pv, hP⟩ : ∃ Pv : Nat → St → Hp → Prop, Pv = fun i σ H' => H' = H2 ∧ ∃ z, σ = [some (.ref a), some (.ref t), some (.int j), z, none] := ⟨_, rfl⟩
  refine forW_range Pv ?_ ?_ ?_
  · rw [hP]
    exact ⟨rfl, _, rfl⟩
  · intro i σ H' hi h
    rw [hP] at h
    obtain ⟨rfl, z, rfl⟩ := h
    have li : i < ls.length := by omega
    have ati : atI (ls.map V.int) (0 + (i : Int)) = some (.int (ls.getD i 0)) := by
      have := atI_map (ns := ls) (k := 0 + (i : Int)) (by omega) (by omega)
      rwa [show (0 + (i : Int)).toNat = i by omega] at this
    have mi : ls.getD i 0 ∈ ls := by rw [getD_at li]; exact List.getElem_mem _
    have le := hj.top _ mi
    simp only [tDNewX, tTry, tRaise, iEnumL, iEnumT, iZip, iSeq, rIx, rSlTA, tComp_eq, tComp1, slots, Option.getD_some, Option.getD_none, tYes, tSeq, tAsg, gName, tOp, tUn, tC, tVar, tCB, tCons, tNil, tCall, rI, rI0, rU, tRet, tRetN, tIfS, tTest, tB, tAnd, tOr, tNot, tAndV, tOrV, tNotV, tIf, tChain, tMenu, tPar, tDrop, tTup, tLst, tNext, tSl, tPart, tNoPart, tNever, gTup, gCons, gNil, gSub, rSetL, tBM, rAppend, rEq, rNe, rIsi, rIxL, rIxT, rIxS, rSlL, isi_non_bl, isi_non_int, isi_non_str, isi_non_lst, isi_non_tup, isi_bl_bl, isi_bl_int, isi_bl_str, isi_bl_lst, isi_bl_tup, isi_int_bl, isi_int_int, isi_int_str, isi_int_lst, isi_int_tup, isi_str_bl, isi_str_int, isi_str_str, isi_str_lst, isi_str_tup, isi_lst_bl, isi_lst_int, isi_lst_str, isi_lst_lst, isi_lst_tup, isi_tup_bl, isi_tup_int, isi_tup_str, isi_tup_lst, isi_tup_tup, isi_dct_bl, isi_dct_int, isi_dct_str, isi_dct_lst, isi_dct_tup, Kd_non, Kd_bl, Kd_int, Kd_str, sc_non_non, sc_non_int, sc_int_non, sc_non_bl, sc_bl_non, sc_non_str, sc_str_non, sc_int_int, sc_bl_bl, sc_str_str, sc_int_str, sc_str_int, sc_bl_str, sc_str_bl, decide_true, decide_false, tFor_eq, iList, iTup, iRng1, iRng2, iRng3, rIndexT, tBM0, tBMT, tyK_int, tyK_bool, tyK_str, tyK_list, tyK_tuple, L2.start, cxK, Int.reduceToNat, List.map_cons, List.map_nil, List.length_cons, List.length_nil, Nat.reduceAdd, Nat.reduceSub, Nat.zero_add, List.replicate_succ, List.replicate_zero, List.cons_append, List.nil_append, List.append_nil, List.getElem?_cons_zero, List.getElem?_cons_succ, List.set_cons_zero, List.set_cons_succ, Option.some.injEq, V.int.injEq, V.bl.injEq, V.ref.injEq, V.str.injEq, V.ty.injEq, List.cons.injEq, exists_eq_left', exists_eq_left, exists_eq_right, exists_and_left, exists_and_right, and_true, true_and, and_assoc, exists_const, decide_eq_true_eq, Bool.not_eq_true', Bool.not_true, Bool.not_false, Bool.not_not, decide_eq_false_iff_not, ite_not, Bool.false_eq_true, if_true, if_false, reduceCtorEq, and_false, false_and, exists_false, or_false, false_or, ↓reduceIte, eq_self, reduceIte]
    refine ⟨_, T2, _, ati, _, T2, _, atj, _, rfl, _, rfl, ?_⟩
    rw [if_neg (by omega)]
    refine ⟨_, T2, _, ati, _, T2, _, atj, rfl, ?_⟩
    have nx : Pv (i + 1) [some (.ref a), some (.ref t), some (.int j), some (.int (0 + (i : Int))), none] H' := by
      rw [hP]
      exact ⟨rfl, _, rfl⟩
    split
    · rename_i heq
      rw [V.int.injEq] at heq
      rw [if_neg (fun hlt => by
        have := hj.first i (by omega)
        omega)]
      exact nx
    · exact nx
  intro σ H' h
  rw [hP] at h
  obtain ⟨rfl, z, rfl⟩ := h
  clear hP Pv
  simp only [tDNewX, tTry, tRaise, iEnumL, iEnumT, iZip, iSeq, rIx, rSlTA, tComp_eq, tComp1, slots, Option.getD_some, Option.getD_none, tYes, tSeq, tAsg, gName, tOp, tUn, tC, tVar, tCB, tCons, tNil, tCall, rI, rI0, rU, tRet, tRetN, tIfS, tTest, tB, tAnd, tOr, tNot, tAndV, tOrV, tNotV, tIf, tChain, tMenu, tPar, tDrop, tTup, tLst, tNext, tSl, tPart, tNoPart, tNever, gTup, gCons, gNil, gSub, rSetL, tBM, rAppend, rEq, rNe, rIsi, rIxL, rIxT, rIxS, rSlL, isi_non_bl, isi_non_int, isi_non_str, isi_non_lst, isi_non_tup, isi_bl_bl, isi_bl_int, isi_bl_str, isi_bl_lst, isi_bl_tup, isi_int_bl, isi_int_int, isi_int_str, isi_int_lst, isi_int_tup, isi_str_bl, isi_str_int, isi_str_str, isi_str_lst, isi_str_tup, isi_lst_bl, isi_lst_int, isi_lst_str, isi_lst_lst, isi_lst_tup, isi_tup_bl, isi_tup_int, isi_tup_str, isi_tup_lst, isi_tup_tup, isi_dct_bl, isi_dct_int, isi_dct_str, isi_dct_lst, isi_dct_tup, Kd_non, Kd_bl, Kd_int, Kd_str, sc_non_non, sc_non_int, sc_int_non, sc_non_bl, sc_bl_non, sc_non_str, sc_str_non, sc_int_int, sc_bl_bl, sc_str_str, sc_int_str, sc_str_int, sc_bl_str, sc_str_bl, decide_true, decide_false, tFor_eq, iList, iTup, iRng1, iRng2, iRng3, rIndexT, tBM0, tBMT, tyK_int, tyK_bool, tyK_str, tyK_list, tyK_tuple, L2.start, cxK, Int.reduceToNat, List.map_cons, List.map_nil, List.length_cons, List.length_nil, Nat.reduceAdd, Nat.reduceSub, Nat.zero_add, List.replicate_succ, List.replicate_zero, List.cons_append, List.nil_append, List.append_nil, List.getElem?_cons_zero, List.getElem?_cons_succ, List.set_cons_zero, List.set_cons_succ, Option.some.injEq, V.int.injEq, V.bl.injEq, V.ref.injEq, V.str.injEq, V.ty.injEq, List.cons.injEq, exists_eq_left', exists_eq_left, exists_eq_right, exists_and_left, exists_and_right, and_true, true_and, and_assoc, exists_const, decide_eq_true_eq, Bool.not_eq_true', Bool.not_true, Bool.not_false, Bool.not_not, decide_eq_false_iff_not, ite_not, Bool.false_eq_true, if_true, if_false, reduceCtorEq, and_false, false_and, exists_false, or_false, false_or, ↓reduceIte, eq_self, reduceIte]
  refine ⟨_, _, rfl, T, by omega, by omega, fun j' al H3 hj' e3 hal TA => ?_⟩
  have := hj.uniq hj'
  subst this
  have TA3 : SqT K H3 al ((alone ls.length j).map V.int) := SqT.of TA
  have T3 : SqT K H3 t (ls.map V.int) := Same.tup e3 T2
  have la := alone_len ls.length j
  simp only [tDNewX, tTry, tRaise, iEnumL, iEnumT, iZip, iSeq, rIx, rSlTA, tComp_eq, tComp1, slots, Option.getD_some, Option.getD_none, tYes, tSeq, tAsg, gName, tOp, tUn, tC, tVar, tCB, tCons, tNil, tCall, rI, rI0, rU, tRet, tRetN, tIfS, tTest, tB, tAnd, tOr, tNot, tAndV, tOrV, tNotV, tIf, tChain, tMenu, tPar, tDrop, tTup, tLst, tNext, tSl, tPart, tNoPart, tNever, gTup, gCons, gNil, gSub, rSetL, tBM, rAppend, rEq, rNe, rIsi, rIxL, rIxT, rIxS, rSlL, isi_non_bl, isi_non_int, isi_non_str, isi_non_lst, isi_non_tup, isi_bl_bl, isi_bl_int, isi_bl_str, isi_bl_lst, isi_bl_tup, isi_int_bl, isi_int_int, isi_int_str, isi_int_lst, isi_int_tup, isi_str_bl, isi_str_int, isi_str_str, isi_str_lst, isi_str_tup, isi_lst_bl, isi_lst_int, isi_lst_str, isi_lst_lst, isi_lst_tup, isi_tup_bl, isi_tup_int, isi_tup_str, isi_tup_lst, isi_tup_tup, isi_dct_bl, isi_dct_int, isi_dct_str, isi_dct_lst, isi_dct_tup, Kd_non, Kd_bl, Kd_int, Kd_str, sc_non_non, sc_non_int, sc_int_non, sc_non_bl, sc_bl_non, sc_non_str, sc_str_non, sc_int_int, sc_bl_bl, sc_str_str, sc_int_str, sc_str_int, sc_bl_str, sc_str_bl, decide_true, decide_false, tFor_eq, iList, iTup, iRng1, iRng2, iRng3, rIndexT, tBM0, tBMT, tyK_int, tyK_bool, tyK_str, tyK_list, tyK_tuple, L2.start, cxK, Int.reduceToNat, List.map_cons, List.map_nil, List.length_cons, List.length_nil, Nat.reduceAdd, Nat.reduceSub, Nat.zero_add, List.replicate_succ, List.replicate_zero, List.cons_append, List.nil_append, List.append_nil, List.getElem?_cons_zero, List.getElem?_cons_succ, List.set_cons_zero, List.set_cons_succ, Option.some.injEq, V.int.injEq, V.bl.injEq, V.ref.injEq, V.str.injEq, V.ty.injEq, List.cons.injEq, exists_eq_left', exists_eq_left, exists_eq_right, exists_and_left, exists_and_right, and_true, true_and, and_assoc, exists_const, decide_eq_true_eq, Bool.not_eq_true', Bool.not_true, Bool.not_false, Bool.not_not, decide_eq_false_iff_not, ite_not, Bool.false_eq_true, if_true, if_false, reduceCtorEq, and_false, false_and, exists_false, or_false, false_or, ↓reduceIte, eq_self, reduceIte]
  refine ⟨_, .inr T3, _, alone ls.length j, ?_, TA3, _, rfl, ?_⟩
  · rw [List.length_map, la]
  rw [if_neg (by decide)]
  refine ⟨_, .inr T3, by omega, by rw [List.length_map]; omega, ?_⟩
  rw [List.length_map]
  obtain ⟨Pv, hP⟩ : ∃ Pv : Nat → St → Hp → Prop, Pv = fun i σ H' => H' = H3 ∧ ∃ z, σ = [some (.ref a), some (.ref t), some (.int j), z, some (.ref al)] := ⟨_, rfl⟩
  refine forW_range Pv ?_ ?_ ?_
  · rw [hP]
    exact ⟨rfl, _, rfl⟩
  · intro i σ H' hi h
    rw [hP] at h
    obtain ⟨rfl, z, rfl⟩ := h
    have li : i < ls.length := by omega
    have ati : atI ((alone ls.length j).map V.int) (0 + (i : Int)) = some (.int (if i = j then 1 else 0)) := by
      have := atI_map (ns := alone ls.length j) (k := 0 + (i : Int)) (by omega) (by omega)
      rwa [show (0 + (i : Int)).toNat = i by omega, alone_getD li] at this
    have nx : Pv (i + 1) [some (.ref a), some (.ref t), some (.int j), some (.int (0 + (i : Int))), some (.ref al)] H' := by
      rw [hP]
      exact ⟨rfl, _, rfl⟩
    simp only [tDNewX, tTry, tRaise, iEnumL, iEnumT, iZip, iSeq, rIx, rSlTA, tComp_eq, tComp1, slots, Option.getD_some, Option.getD_none, tYes, tSeq, tAsg, gName, tOp, tUn, tC, tVar, tCB, tCons, tNil, tCall, rI, rI0, rU, tRet, tRetN, tIfS, tTest, tB, tAnd, tOr, tNot, tAndV, tOrV, tNotV, tIf, tChain, tMenu, tPar, tDrop, tTup, tLst, tNext, tSl, tPart, tNoPart, tNever, gTup, gCons, gNil, gSub, rSetL, tBM, rAppend, rEq, rNe, rIsi, rIxL, rIxT, rIxS, rSlL, isi_non_bl, isi_non_int, isi_non_str, isi_non_lst, isi_non_tup, isi_bl_bl, isi_bl_int, isi_bl_str, isi_bl_lst, isi_bl_tup, isi_int_bl, isi_int_int, isi_int_str, isi_int_lst, isi_int_tup, isi_str_bl, isi_str_int, isi_str_str, isi_str_lst, isi_str_tup, isi_lst_bl, isi_lst_int, isi_lst_str, isi_lst_lst, isi_lst_tup, isi_tup_bl, isi_tup_int, isi_tup_str, isi_tup_lst, isi_tup_tup, isi_dct_bl, isi_dct_int, isi_dct_str, isi_dct_lst, isi_dct_tup, Kd_non, Kd_bl, Kd_int, Kd_str, sc_non_non, sc_non_int, sc_int_non, sc_non_bl, sc_bl_non, sc_non_str, sc_str_non, sc_int_int, sc_bl_bl, sc_str_str, sc_int_str, sc_str_int, sc_bl_str, sc_str_bl, decide_true, decide_false, tFor_eq, iList, iTup, iRng1, iRng2, iRng3, rIndexT, tBM0, tBMT, tyK_int, tyK_bool, tyK_str, tyK_list, tyK_tuple, L2.start, cxK, Int.reduceToNat, List.map_cons, List.map_nil, List.length_cons, List.length_nil, Nat.reduceAdd, Nat.reduceSub, Nat.zero_add, List.replicate_succ, List.replicate_zero, List.cons_append, List.nil_append, List.append_nil, List.getElem?_cons_zero, List.getElem?_cons_succ, List.set_cons_zero, List.set_cons_succ, Option.some.injEq, V.int.injEq, V.bl.injEq, V.ref.injEq, V.str.injEq, V.ty.injEq, List.cons.injEq, exists_eq_left', exists_eq_left, exists_eq_right, exists_and_left, exists_and_right, and_true, true_and, and_assoc, exists_const, decide_eq_true_eq, Bool.not_eq_true', Bool.not_true, Bool.not_false, Bool.not_not, decide_eq_false_iff_not, ite_not, Bool.false_eq_true, if_true, if_false, reduceCtorEq, and_false, false_and, exists_false, or_false, false_or, ↓reduceIte, eq_self, reduceIte]
    refine ⟨_, TA3, _, ati, rfl, ?_⟩
    by_cases hij : i = j
    · rw [if_pos hij, if_pos (show 0 + (i : Int) = j by omega), if_pos rfl]
      exact nx
    · rw [if_neg hij, if_neg (show ¬(0 + (i : Int) = j) by omega), if_pos rfl]
      exact nx
  intro σ H' h
  rw [hP] at h
  obtain ⟨rfl, z, rfl⟩ := h
  clear hP Pv
  simp only [tDNewX, tTry, tRaise, iEnumL, iEnumT, iZip, iSeq, rIx, rSlTA, tComp_eq, tComp1, slots, Option.getD_some, Option.getD_none, tYes, tSeq, tAsg, gName, tOp, tUn, tC, tVar, tCB, tCons, tNil, tCall, rI, rI0, rU, tRet, tRetN, tIfS, tTest, tB, tAnd, tOr, tNot, tAndV, tOrV, tNotV, tIf, tChain, tMenu, tPar, tDrop, tTup, tLst, tNext, tSl, tPart, tNoPart, tNever, gTup, gCons, gNil, gSub, rSetL, tBM, rAppend, rEq, rNe, rIsi, rIxL, rIxT, rIxS, rSlL, isi_non_bl, isi_non_int, isi_non_str, isi_non_lst, isi_non_tup, isi_bl_bl, isi_bl_int, isi_bl_str, isi_bl_lst, isi_bl_tup, isi_int_bl, isi_int_int, isi_int_str, isi_int_lst, isi_int_tup, isi_str_bl, isi_str_int, isi_str_str, isi_str_lst, isi_str_tup, isi_lst_bl, isi_lst_int, isi_lst_str, isi_lst_lst, isi_lst_tup, isi_tup_bl, isi_tup_int, isi_tup_str, isi_tup_lst, isi_tup_tup, isi_dct_bl, isi_dct_int, isi_dct_str, isi_dct_lst, isi_dct_tup, Kd_non, Kd_bl, Kd_int, Kd_str, sc_non_non, sc_non_int, sc_int_non, sc_non_bl, sc_bl_non, sc_non_str, sc_str_non, sc_int_int, sc_bl_bl, sc_str_str, sc_int_str, sc_str_int, sc_bl_str, sc_str_bl, decide_true, decide_false, tFor_eq, iList, iTup, iRng1, iRng2, iRng3, rIndexT, tBM0, tBMT, tyK_int, tyK_bool, tyK_str, tyK_list, tyK_tuple, L2.start, cxK, Int.reduceToNat, List.map_cons, List.map_nil, List.length_cons, List.length_nil, Nat.reduceAdd, Nat.reduceSub, Nat.zero_add, List.replicate_succ, List.replicate_zero, List.cons_append, List.nil_append, List.append_nil, List.getElem?_cons_zero, List.getElem?_cons_succ, List.set_cons_zero, List.set_cons_succ, Option.some.injEq, V.int.injEq, V.bl.injEq, V.ref.injEq, V.str.injEq, V.ty.injEq, List.cons.injEq, exists_eq_left', exists_eq_left, exists_eq_right, exists_and_left, exists_and_right, and_true, true_and, and_assoc, exists_const, decide_eq_true_eq, Bool.not_eq_true', Bool.not_true, Bool.not_false, Bool.not_not, decide_eq_false_iff_not, ite_not, Bool.false_eq_true, if_true, if_false, reduceCtorEq, and_false, false_and, exists_false, or_false, false_or, ↓reduceIte, eq_self, reduceIte]
  refine ⟨_, _, rfl, TA, by omega, fun j2 hj2 => ⟨rfl, ?_⟩⟩
  have := hj2.uniq (alone_chief j1)
  subst this
  rw [if_pos rfl]
  refine ⟨_, _, rfl, TA, by omega, by omega, fun j3 a3 H4 hj3 e4 ha3 TA4 => ?_⟩
  have := hj3.uniq hj2
  subst this
  rw [la] at TA4
  refine rEqS_ints (.inr ⟨SqT.of TA4, Same.tup e4 TA3⟩) ⟨_, rfl, ?_⟩
  rw [if_pos (by simp)]
  refine ⟨_, _, rfl, .inr (Same.tup e4 TA3), by omega, fun t5 H5 e5 ht5 T5 => ?_⟩
  rw [look_alone j1] at T5
  refine rEqS_ints (.inr ⟨SqT.of T5, Same.tup (e4.trans e5) TA3⟩) ?_
  rw [if_neg Bool.false_ne_true, decide_eq_true rfl]
  exact q _
end
theorem all_mk {l : PySem.W.OpenLaw} {w : World} {K : PySem.W.Frag} {h : Heap} {mg : Str → Option Value} {fa f1 f2 f3 f4 f5 f6 f7 : Addr} (X : K.In h) (G : h.Ns mainGlobals mg) (hfa : mg "law" = some (.ref fa))
    {od1 an1 od2 an2 od3 an3 od4 an4 od5 an5 od6 an6 od7 an7 : Option Addr} {sl1 sl2 sl3 sl4 sl5 sl6 sl7 : Array (Option Value)} {oc1 kV1 dc1 pm1 cd1 ct1 oc2 kV2 dc2 pm2 cd2 ct2 oc3 kV3 dc3 pm3 cd3 ct3 oc4 kV4 dc4 pm4 cd4 ct4 oc5 kV5 dc5 pm5 cd5 ct5 oc6 kV6 dc6 pm6 cd6 ct6 oc7 kV7 dc7 pm7 cd7 ct7 : Value}
    (a1 : PySem.W.nsIn K mainGlobals "chief_of" = some (some (.ref f1))) (l1 : K.lookup f1 = some ⟨oc1, od1, .func (PySem.W.fnOf "chief_of" "chief_of" (defArgs s_chief_of) (defBody s_chief_of) (defScope s_chief_of) .none kV1 dc1 pm1 an1 cd1 ct1), sl1⟩) (c1 : PySem.W.codeIn K cd1 "chief_of" = true) (k1 : PySem.W.keepIn K (.ref f1) = true)
    (a2 : PySem.W.nsIn K mainGlobals "alone_of" = some (some (.ref f2))) (l2 : K.lookup f2 = some ⟨oc2, od2, .func (PySem.W.fnOf "alone_of" "alone_of" (defArgs s_alone_of) (defBody s_alone_of) (defScope s_alone_of) .none kV2 dc2 pm2 an2 cd2 ct2), sl2⟩) (c2 : PySem.W.codeIn K cd2 "alone_of" = true) (k2 : PySem.W.keepIn K (.ref f2) = true)
    (a3 : PySem.W.nsIn K mainGlobals "_law_cell_at" = some (some (.ref f3))) (l3 : K.lookup f3 = some ⟨oc3, od3, .func (PySem.W.fnOf "_law_cell_at" "_law_cell_at" (defArgs s_law_cell_at) (defBody s_law_cell_at) (defScope s_law_cell_at) .none kV3 dc3 pm3 an3 cd3 ct3), sl3⟩) (c3 : PySem.W.codeIn K cd3 "_law_cell_at" = true) (k3 : PySem.W.keepIn K (.ref f3) = true)
    (a4 : PySem.W.nsIn K mainGlobals "_law_weights" = some (some (.ref f4))) (l4 : K.lookup f4 = some ⟨oc4, od4, .func (PySem.W.fnOf "_law_weights" "_law_weights" (defArgs s_law_weights) (defBody s_law_weights) (defScope s_law_weights) .none kV4 dc4 pm4 an4 cd4 ct4), sl4⟩) (c4 : PySem.W.codeIn K cd4 "_law_weights" = true) (k4 : PySem.W.keepIn K (.ref f4) = true)
    (a5 : PySem.W.nsIn K mainGlobals "_law_look" = some (some (.ref f5))) (l5 : K.lookup f5 = some ⟨oc5, od5, .func (PySem.W.fnOf "_law_look" "_law_look" (defArgs s_law_look) (defBody s_law_look) (defScope s_law_look) .none kV5 dc5 pm5 an5 cd5 ct5), sl5⟩) (c5 : PySem.W.codeIn K cd5 "_law_look" = true) (k5 : PySem.W.keepIn K (.ref f5) = true)
    (a6 : PySem.W.nsIn K mainGlobals "_law_wholes" = some (some (.ref f6))) (l6 : K.lookup f6 = some ⟨oc6, od6, .func (PySem.W.fnOf "_law_wholes" "_law_wholes" (defArgs s_law_wholes) (defBody s_law_wholes) (defScope s_law_wholes) .none kV6 dc6 pm6 an6 cd6 ct6), sl6⟩) (c6 : PySem.W.codeIn K cd6 "_law_wholes" = true) (k6 : PySem.W.keepIn K (.ref f6) = true)
    (a7 : PySem.W.nsIn K mainGlobals "law" = some (some (.ref f7))) (l7 : K.lookup f7 = some ⟨oc7, od7, .func (PySem.W.fnOf "law" "law" (defArgs s_law) (defBody s_law) (defScope s_law) .none kV7 dc7 pm7 an7 cd7 ct7), sl7⟩) (c7 : PySem.W.codeIn K cd7 "law" = true) (k7 : PySem.W.keepIn K (.ref f7) = true)
    (z_len : PySem.W.nsIn K mainGlobals "len" = some none)
    (z_range : PySem.W.nsIn K mainGlobals "range" = some none)
    (z_abs : PySem.W.nsIn K mainGlobals "abs" = some none)
    (z_max : PySem.W.nsIn K mainGlobals "max" = some none)
    (z_min : PySem.W.nsIn K mainGlobals "min" = some none)
    (z_isinstance : PySem.W.nsIn K mainGlobals "isinstance" = some none)
    (z_int : PySem.W.nsIn K mainGlobals "int" = some none)
    (z_bool : PySem.W.nsIn K mainGlobals "bool" = some none)
    (z_str : PySem.W.nsIn K mainGlobals "str" = some none)
    (z_list : PySem.W.nsIn K mainGlobals "list" = some none)
    (z_tuple : PySem.W.nsIn K mainGlobals "tuple" = some none)
    (z_sum : PySem.W.nsIn K mainGlobals "sum" = some none)
    (z_all : PySem.W.nsIn K mainGlobals "all" = some none)
    (z_enumerate : PySem.W.nsIn K mainGlobals "enumerate" = some none)
    (z_zip : PySem.W.nsIn K mainGlobals "zip" = some none)
    (z_ValueError : PySem.W.nsIn K mainGlobals "ValueError" = some none)
    (z_any : PySem.W.nsIn K mainGlobals "any" = some none)
    : ∃ fd : FuncData, (∀ (s : Shared) (v : Value), BindsTo s fd ⟨[v], []⟩ [("_law_script", v)]) ∧ ∀ base : Heap, K.In base → base.Ns mainGlobals mg → FnOk l.prog w K mg base CX0 3 fa fd ["_law_script"] (spLaw K) := by
  have e := hfa.symm.trans (PySem.W.mg_of X G a7)
  cases e
  have F1 := fun_mk (st := s_chief_of) l1 c1 k1
  have F2 := fun_mk (st := s_alone_of) l2 c2 k2
  have F3 := fun_mk (st := s_law_cell_at) l3 c3 k3
  have F4 := fun_mk (st := s_law_weights) l4 c4 k4
  have F5 := fun_mk (st := s_law_look) l5 c5 k5
  have F6 := fun_mk (st := s_law_wholes) l6 c6 k6
  have F7 := fun_mk (st := s_law) l7 c7 k7
  have b1 := F1.binds (ps := ["look"]) fun _ _ _ _ _ _ us hl => match us, hl with | [_], _ => rfl
  have b2 := F2.binds (ps := ["look"]) fun _ _ _ _ _ _ us hl => match us, hl with | [_], _ => rfl
  have b3 := F3.binds (ps := ["_law_script", "_law_k"]) fun _ _ _ _ _ _ us hl => match us, hl with | [_, _], _ => rfl
  have b4 := F4.binds (ps := ["_law_script"]) fun _ _ _ _ _ _ us hl => match us, hl with | [_], _ => rfl
  have b5 := F5.binds (ps := ["_law_row"]) fun _ _ _ _ _ _ us hl => match us, hl with | [_], _ => rfl
  have b6 := F6.binds (ps := ["_law_found", "_law_many"]) fun _ _ _ _ _ _ us hl => match us, hl with | [_, _], _ => rfl
  have M : Mg mg := ⟨PySem.W.mg_none_of X G z_len, PySem.W.mg_none_of X G z_range, PySem.W.mg_none_of X G z_abs, PySem.W.mg_none_of X G z_max, PySem.W.mg_none_of X G z_min, PySem.W.mg_none_of X G z_isinstance, PySem.W.mg_none_of X G z_int, PySem.W.mg_none_of X G z_bool, PySem.W.mg_none_of X G z_str, PySem.W.mg_none_of X G z_list, PySem.W.mg_none_of X G z_tuple, PySem.W.mg_none_of X G z_sum, PySem.W.mg_none_of X G z_all, PySem.W.mg_none_of X G z_enumerate, PySem.W.mg_none_of X G z_zip, PySem.W.mg_none_of X G z_ValueError, PySem.W.mg_none_of X G z_any⟩
  refine ⟨PySem.W.fnOf "law" "law" (defArgs s_law) (defBody s_law) (defScope s_law) .none kV7 dc7 pm7 an7 cd7 ct7, fun s v => .of_eq rfl, fun base _ _ => ?_⟩
  have C_chief_of : Cal l.prog w K mg base CX0 "chief_of" 1 ["look"] (spChief K) := ⟨⟨_, _, ok_chief_of F1 M, b1, k1, PySem.W.mg_of X G a1⟩⟩
  have C_alone_of : Cal l.prog w K mg base CX0 "alone_of" 2 ["look"] (spAlone K) := ⟨⟨_, _, ok_alone_of F2 M C_chief_of, b2, k2, PySem.W.mg_of X G a2⟩⟩
  have C_law_cell_at : Cal l.prog w K mg base CX0 "_law_cell_at" 1 ["_law_script", "_law_k"] (spCellAt K) := ⟨⟨_, _, ok_law_cell_at F3 M, b3, k3, PySem.W.mg_of X G a3⟩⟩
  have C_law_weights : Cal l.prog w K mg base CX0 "_law_weights" 2 ["_law_script"] (spWeights K) := ⟨⟨_, _, ok_law_weights F4 M C_law_cell_at, b4, k4, PySem.W.mg_of X G a4⟩⟩
  have C_law_look : Cal l.prog w K mg base CX0 "_law_look" 1 ["_law_row"] (spLook K) := ⟨⟨_, _, ok_law_look F5 M, b5, k5, PySem.W.mg_of X G a5⟩⟩
  have C_law_wholes : Cal l.prog w K mg base CX0 "_law_wholes" 1 ["_law_found", "_law_many"] (spWholes K) := ⟨⟨_, _, ok_law_wholes F6 M, b6, k6, PySem.W.mg_of X G a6⟩⟩
  exact ok_law F7 M C_chief_of C_alone_of C_law_weights C_law_look C_law_wholes
theorem walk {l : PySem.W.OpenLaw} {q : Program} {loose : List Str} {XP : (Str → Option Value) → Heap → Prop} {YP : World → Heap → Prop} {d : DefRec} {K : Params → PySem.W.Frag} (hn : l.most = some 63) (hdf : d.params.defaults = [])
    (hY : ∀ (w : World) (h : Heap), YP w h → (K w.params).In h)
    (F : ∀ (w : World) (mg : Str → Option Value) (fa : Addr) (h : Heap), (K w.params).In h → h.Ns mainGlobals mg → mg d.name = some (.ref fa) →
      ∃ fd : FuncData, (∀ (s : Shared) (u : Value), BindsTo s fd ⟨[u], []⟩ [("_law_script", u)]) ∧ ∀ base : Heap, (K w.params).In base → base.Ns mainGlobals mg → FnOk l.prog w (K w.params) mg base CX0 3 fa fd ["_law_script"] (spLaw (K w.params))) :
    PySem.W.WalkO q loose XP YP l.row.toRowW d [] (fun f vs => PySem.call f vs) :=
  L2.walk_of (n := 63) (k := 3) (x := "_law_script") (CX := fun _ => CX0) (sp := fun w => spLaw (K w.params)) hn (by decide) hdf ⟨rfl, by decide, by decide⟩ hY F (fun _ _ a ns hl _ hS => ⟨a, ns, rfl, hS, hl, fun _ => rfl⟩) fun _ _ _ _ _ z => z
end My
open PySem PySem.W PyProof.Rows
set_option maxRecDepth 100000 in
set_option maxHeartbeats 0 in
theorem PySem.Challenge.cw_tariffgate_k28_chief_and_alone_holds : PySem.Challenge.rw_tariffgate_k28_chief_and_alone.Holds := by
  w_on; o_law; k_head; (case hw => w_witness2)
  k_fill
  refine My.walk (l := PySem.Challenge.rw_tariffgate_k28_chief_and_alone) rfl rfl (fun w h Y => PySem.W.kIn_of Y) ?F
  case F =>
    intro w mg fa h KX G hmg
    refine' My.all_mk KX G hmg ?a1 ?l1 ?c1 ?k1 ?a2 ?l2 ?c2 ?k2 ?a3 ?l3 ?c3 ?k3 ?a4 ?l4 ?c4 ?k4 ?a5 ?l5 ?c5 ?k5 ?a6 ?l6 ?c6 ?k6 ?a7 ?l7 ?c7 ?k7 ?z_len ?z_range ?z_abs ?z_max ?z_min ?z_isinstance ?z_int ?z_bool ?z_str ?z_list ?z_tuple ?z_sum ?z_all ?z_enumerate ?z_zip ?z_ValueError ?z_any
    (case a1 => first | k_is | k_exc | kit_is)
    (case l1 => first | k_is | k_exc | kit_is)
    (case c1 => first | k_is | k_exc | kit_is)
    (case k1 => first | k_is | k_exc | kit_is)
    (case a2 => first | k_is | k_exc | kit_is)
    (case l2 => first | k_is | k_exc | kit_is)
    (case c2 => first | k_is | k_exc | kit_is)
    (case k2 => first | k_is | k_exc | kit_is)
    (case a3 => first | k_is | k_exc | kit_is)
    (case l3 => first | k_is | k_exc | kit_is)
    (case c3 => first | k_is | k_exc | kit_is)
    (case k3 => first | k_is | k_exc | kit_is)
    (case a4 => first | k_is | k_exc | kit_is)
    (case l4 => first | k_is | k_exc | kit_is)
    (case c4 => first | k_is | k_exc | kit_is)
    (case k4 => first | k_is | k_exc | kit_is)
    (case a5 => first | k_is | k_exc | kit_is)
    (case l5 => first | k_is | k_exc | kit_is)
    (case c5 => first | k_is | k_exc | kit_is)
    (case k5 => first | k_is | k_exc | kit_is)
    (case a6 => first | k_is | k_exc | kit_is)
    (case l6 => first | k_is | k_exc | kit_is)
    (case c6 => first | k_is | k_exc | kit_is)
    (case k6 => first | k_is | k_exc | kit_is)
    (case a7 => first | k_is | k_exc | kit_is)
    (case l7 => first | k_is | k_exc | kit_is)
    (case c7 => first | k_is | k_exc | kit_is)
    (case k7 => first | k_is | k_exc | kit_is)
    (case z_len => first | k_is | k_exc | kit_is)
    (case z_range => first | k_is | k_exc | kit_is)
    (case z_abs => first | k_is | k_exc | kit_is)
    (case z_max => first | k_is | k_exc | kit_is)
    (case z_min => first | k_is | k_exc | kit_is)
    (case z_isinstance => first | k_is | k_exc | kit_is)
    (case z_int => first | k_is | k_exc | kit_is)
    (case z_bool => first | k_is | k_exc | kit_is)
    (case z_str => first | k_is | k_exc | kit_is)
    (case z_list => first | k_is | k_exc | kit_is)
    (case z_tuple => first | k_is | k_exc | kit_is)
    (case z_sum => first | k_is | k_exc | kit_is)
    (case z_all => first | k_is | k_exc | kit_is)
    (case z_enumerate => first | k_is | k_exc | kit_is)
    (case z_zip => first | k_is | k_exc | kit_is)
    (case z_ValueError => first | k_is | k_exc | kit_is)
    (case z_any => first | k_is | k_exc | kit_is)
#print axioms PySem.Challenge.cw_tariffgate_k28_chief_and_alone_holds
