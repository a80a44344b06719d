import PyProof.Rows.All
import Wide.All
import OpenK.AllK
import Wide.FinOn
import HandS.Base
import HandS.Call
import HandS.List
import HandS.Comp
import HandS.Ends
import HandS.Iter
import HandS.Text
import HandS.Words
import HandS.WordsList
import HandS.IsInst
import HandS.Wide
import HandS.Defaults
import HandS.MakeKw
import HandS.Style
import HandS.Codes
import KE.KEqSeq
import PySem.Challenge.RW_hotpass_k05_metals_put_otherwise
set_option Elab.async false
set_option linter.all false
set_option maxRecDepth 100000
set_option maxHeartbeats 4000000
namespace HM
/-- what is lost behind so many beats -/
def lostOf : List (Int × Int) → Int → Int
  | [], _ => 0
  | [(_, l)], left => left * l
  | (n, l) :: p :: r, left => (if n < left then n else left) * l + lostOf (p :: r) (left - (if n < left then n else left))
/-- one turn of the walk over all but the last pair: (left, lost) -/
def step (s : Int × Int) (p : Int × Int) : Int × Int := (s.1 - (if p.1 < s.1 then p.1 else s.1), s.2 + (if p.1 < s.1 then p.1 else s.1) * p.2)
theorem fold_lost : ∀ (L : List (Int × Int)) (q : Int × Int) (left lost : Int),
    (L.foldl step (left, lost)).2 + (L.foldl step (left, lost)).1 * q.2 = lost + lostOf (L ++ [q]) left
  | [], q, left, lost => by
    obtain ⟨m, l⟩ := q
    rfl
  | (n, l) :: r, q, left, lost => by
    have ih := fold_lost r q (left - (if n < left then n else left)) (lost + (if n < left then n else left) * l)
    have e : lostOf ((n, l) :: r ++ [q]) left = (if n < left then n else left) * l + lostOf (r ++ [q]) (left - (if n < left then n else left)) := by
      cases r with
      | nil => rfl
      | cons a b => rfl
    rw [List.foldl_cons, e]
    show ((r.foldl step (left - (if n < left then n else left), lost + (if n < left then n else left) * l)).2) + _ = _
    have ih2 : (r.foldl step (step (left, lost) (n, l))).2 + (r.foldl step (step (left, lost) (n, l))).1 * q.2 = lost + (if n < left then n else left) * l + lostOf (r ++ [q]) (left - (if n < left then n else left)) := ih
    rw [show (r.foldl step (left - (if n < left then n else left), lost + (if n < left then n else left) * l)) = r.foldl step (step (left, lost) (n, l)) from rfl, ih2]
    omega
/-- the losses of the first m beats, one by one -/
def eachOf : List (Int × Int) → Nat → List Int
  | [], _ => []
  | [(_, l)], m => List.replicate m l
  | (n, l) :: p :: r, m => List.replicate (min n.toNat m) l ++ eachOf (p :: r) (m - min n.toNat m)
theorem sum_rep (j : Nat) (l : Int) : (List.replicate j l).sum = j * l := by
  induction j with
  | zero => simp
  | succ k ih =>
    rw [List.replicate_succ, List.sum_cons, ih]
    have : ((k + 1 : Nat) : Int) * l = (k : Int) * l + l := by
      rw [Int.natCast_add, Int.add_mul]
      simp
    rw [this]
    omega
theorem lostOf_zero : ∀ L : List (Int × Int), (∀ p ∈ L, 1 ≤ p.1) → lostOf L 0 = 0
  | [], _ => rfl
  | [(_, l)], _ => by show 0 * l = 0; simp
  | (n, l) :: p :: r, h => by
    have h1 : 1 ≤ n := h (n, l) List.mem_cons_self
    have e : (if n < 0 then n else 0) = 0 := if_neg (by omega)
    have ih := lostOf_zero (p :: r) (fun q hq => h q (List.mem_cons_of_mem _ hq))
    show (if n < 0 then n else 0) * l + lostOf (p :: r) (0 - (if n < 0 then n else 0)) = 0
    rw [e]
    simp [ih]
theorem each_sum : ∀ (L : List (Int × Int)) (m j : Nat), L ≠ [] → (∀ p ∈ L, 1 ≤ p.1) → j ≤ m → ((eachOf L m).take j).sum = lostOf L j
  | [], _, _, h, _, _ => absurd rfl h
  | [(n, l)], m, j, _, _, hj => by
    show ((List.replicate m l).take j).sum = (j : Int) * l
    rw [List.take_replicate, sum_rep]
    have : min j m = j := by omega
    rw [this]
  | (n, l) :: p :: r, m, j, _, h, hj => by
    have h1 : 1 ≤ n := h (n, l) List.mem_cons_self
    have hr : ∀ q ∈ p :: r, 1 ≤ q.1 := fun q hq => h q (List.mem_cons_of_mem _ hq)
    show ((List.replicate (min n.toNat m) l ++ eachOf (p :: r) (m - min n.toNat m)).take j).sum = (if n < (j : Int) then n else (j : Int)) * l + lostOf (p :: r) ((j : Int) - (if n < (j : Int) then n else (j : Int)))
    rw [List.take_append, List.sum_append, List.take_replicate, List.length_replicate, sum_rep]
    by_cases c : n < (j : Int)
    · rw [if_pos c]
      have e1 : min n.toNat m = n.toNat := by omega
      have e2 : min j n.toNat = n.toNat := by omega
      rw [e1, e2, each_sum (p :: r) (m - n.toNat) (j - n.toNat) (by simp) hr (by omega)]
      have e3 : ((n.toNat : Nat) : Int) = n := by omega
      have e4 : ((j - n.toNat : Nat) : Int) = (j : Int) - n := by omega
      rw [e3, e4]
    · rw [if_neg c]
      have e1 : min j (min n.toNat m) = j := by omega
      have e2 : j - min n.toNat m = 0 := by omega
      have e3 : (j : Int) - (j : Int) = 0 := by omega
      rw [e1, e2, List.take_zero, e3, lostOf_zero _ hr]
      simp
theorem each_len : ∀ (L : List (Int × Int)) (m : Nat), L ≠ [] → (eachOf L m).length = m
  | [], _, h => absurd rfl h
  | [(n, l)], m, _ => by show (List.replicate m l).length = m; simp
  | (n, l) :: p :: r, m, _ => by
    show (List.replicate (min n.toNat m) l ++ eachOf (p :: r) (m - min n.toNat m)).length = m
    rw [List.length_append, List.length_replicate, each_len (p :: r) _ (by simp)]
    omega
theorem each_nonneg : ∀ (L : List (Int × Int)) (m : Nat), (∀ p ∈ L, 0 ≤ p.2) → ∀ e ∈ eachOf L m, 0 ≤ e
  | [], _, _ => fun e he => by cases he
  | [(n, l)], m, h => fun e he => by
    have : e ∈ List.replicate m l := he
    rw [List.mem_replicate] at this
    rw [this.2]
    exact h (n, l) List.mem_cons_self
  | (n, l) :: p :: r, m, h => fun e he => by
    have he' : e ∈ List.replicate (min n.toNat m) l ++ eachOf (p :: r) (m - min n.toNat m) := he
    rcases List.mem_append.mp he' with h1 | h1
    · rw [List.mem_replicate] at h1
      rw [h1.2]
      exact h (n, l) List.mem_cons_self
    · exact each_nonneg (p :: r) _ (fun q hq => h q (List.mem_cons_of_mem _ hq)) e h1
/-- the loop that fills: what stands behind the pairs taken -/
def fill (m : Nat) (acc : List Int) (p : Int × Int) : List Int := acc ++ List.replicate (min p.1.toNat (m - acc.length)) p.2
theorem fill_each : ∀ (L : List (Int × Int)) (q : Int × Int) (m : Nat) (acc : List Int), acc.length ≤ m →
    ((L ++ [q]).foldl (fill m) acc) ++ List.replicate (m - ((L ++ [q]).foldl (fill m) acc).length) q.2 = acc ++ eachOf (L ++ [q]) (m - acc.length)
  | [], (n, l), m, acc, h => by
    show (acc ++ List.replicate (min n.toNat (m - acc.length)) l) ++ List.replicate (m - (acc ++ List.replicate (min n.toNat (m - acc.length)) l).length) l = acc ++ List.replicate (m - acc.length) l
    rw [List.append_assoc, List.replicate_append_replicate, List.length_append, List.length_replicate]
    congr 2
    omega
  | (n, l) :: r, q, m, acc, h => by
    have hl : (fill m acc (n, l)).length = acc.length + min n.toNat (m - acc.length) := by
      show (acc ++ List.replicate (min n.toNat (m - acc.length)) l).length = _
      rw [List.length_append, List.length_replicate]
    have ih := fill_each r q m (fill m acc (n, l)) (by rw [hl]; omega)
    have e0 : ((n, l) :: r ++ [q]).foldl (fill m) acc = (r ++ [q]).foldl (fill m) (fill m acc (n, l)) := rfl
    rw [e0, ih, hl]
    have e : eachOf ((n, l) :: r ++ [q]) (m - acc.length) = List.replicate (min n.toNat (m - acc.length)) l ++ eachOf (r ++ [q]) ((m - acc.length) - min n.toNat (m - acc.length)) := by
      cases r with
      | nil => rfl
      | cons a b => rfl
    rw [e, show m - (acc.length + min n.toNat (m - acc.length)) = (m - acc.length) - min n.toNat (m - acc.length) by omega]
    show (acc ++ List.replicate (min n.toNat (m - acc.length)) l) ++ _ = _
    rw [List.append_assoc]
/-- Python's max of two -/
def mx (a b : Int) : Int := if b > a then b else a
theorem mx_step (air full s e : Int) (he : 0 ≤ e) : mx air (mx air (full - s) - e) = mx air (full - (s + e)) := by
  unfold mx
  split <;> split <;> (try split) <;> omega
theorem mx_start (air full : Int) (h : air ≤ full) : full = mx air (full - 0) := by
  unfold mx
  split <;> omega
end HM
namespace HM
/-- behind how many beats so much is lost -/
def cool : List (Int × Int) → Int → Int → Option Int
  | [], _, _ => none
  | [(_, l)], left, beats => if l = 0 then none else some (beats + (left + l - 1) / l)
  | (m, l) :: p :: r, left, beats => if left ≤ m * l then some (beats + (left + l - 1) / l) else cool (p :: r) (left - m * l) (beats + m)
def GL (L : List (Int × Int)) : Prop := ∀ p ∈ L, 1 ≤ p.1 ∧ p.1 ≤ 1000000 ∧ 0 ≤ p.2 ∧ p.2 ≤ 1000000
theorem GL.tail {p : Int × Int} {L : List (Int × Int)} (h : GL (p :: L)) : GL L := fun q hq => h q (List.mem_cons_of_mem _ hq)
theorem lost_step {n l : Int} {p : Int × Int} {r : List (Int × Int)} (b : Int) : lostOf ((n, l) :: p :: r) b = (if n < b then n else b) * l + lostOf (p :: r) (b - (if n < b then n else b)) := rfl
theorem lost_zero {L : List (Int × Int)} (h : GL L) : lostOf L 0 = 0 := lostOf_zero L fun p hp => (h p hp).1
theorem lost_few {n l : Int} {p : Int × Int} {r : List (Int × Int)} {b : Int} (h : GL ((n, l) :: p :: r)) (hb : b ≤ n) : lostOf ((n, l) :: p :: r) b = b * l := by
  rw [lost_step, if_neg (by omega), Int.sub_self, lost_zero h.tail]
  omega
theorem lost_many {n l : Int} {p : Int × Int} {r : List (Int × Int)} {b : Int} (h : GL ((n, l) :: p :: r)) (hb : n ≤ b) : lostOf ((n, l) :: p :: r) b = n * l + lostOf (p :: r) (b - n) := by
  by_cases c : n < b
  · rw [lost_step, if_pos c]
  · have e : b = n := by omega
    subst e
    rw [lost_few h (Int.le_refl _), Int.sub_self, lost_zero h.tail]
    omega
theorem lost_mono : ∀ (L : List (Int × Int)) (a b : Int), GL L → 0 ≤ a → a ≤ b → lostOf L a ≤ lostOf L b
  | [], _, _, _, _, _ => Int.le_refl _
  | [(n, l)], a, b, h, h0, h1 => by
    show a * l ≤ b * l
    exact Int.mul_le_mul_of_nonneg_right h1 (h (n, l) List.mem_cons_self).2.2.1
  | (n, l) :: p :: r, a, b, h, h0, h1 => by
    have hl : 0 ≤ l := (h (n, l) List.mem_cons_self).2.2.1
    by_cases c1 : b ≤ n
    · rw [lost_few h (by omega), lost_few h c1]
      exact Int.mul_le_mul_of_nonneg_right h1 hl
    · by_cases c2 : a ≤ n
      · rw [lost_few h c2, lost_many h (by omega)]
        have i1 : a * l ≤ n * l := Int.mul_le_mul_of_nonneg_right c2 hl
        have i2 := lost_mono (p :: r) 0 (b - n) h.tail (Int.le_refl _) (by omega)
        rw [lost_zero h.tail] at i2
        omega
      · rw [lost_many h (by omega), lost_many h (by omega)]
        have i2 := lost_mono (p :: r) (a - n) (b - n) h.tail (by omega) (by omega)
        omega
theorem ceil_of {left l : Int} (hl : 1 ≤ l) (h : 1 ≤ left) : left ≤ (left + l - 1) / l * l ∧ ((left + l - 1) / l - 1) * l < left ∧ 1 ≤ (left + l - 1) / l ∧ (left + l - 1) / l ≤ left := by
  have e1 := Int.mul_ediv_add_emod (left + l - 1) l
  have e2 := Int.emod_nonneg (left + l - 1) (b := l) (by omega)
  have e3 := Int.emod_lt_of_pos (left + l - 1) (b := l) (by omega)
  generalize (left + l - 1) / l = k at *
  generalize (left + l - 1) % l = r at *
  have e4 : k * l = l * k := Int.mul_comm k l
  have e5 : (k - 1) * l = l * k - l := by rw [Int.sub_mul, Int.one_mul, e4]
  have k1 : 1 ≤ k := by
    by_cases c : 1 ≤ k
    · exact c
    · have : l * k ≤ l * 0 := Int.mul_le_mul_of_nonneg_left (by omega) (by omega)
      omega
  refine ⟨by omega, by omega, k1, ?_⟩
  by_cases c : k ≤ left
  · exact c
  · have : l * (left + 1) ≤ l * k := Int.mul_le_mul_of_nonneg_left (by omega) (by omega)
    have e6 : l * (left + 1) = l * left + l := by rw [Int.mul_add, Int.mul_one]
    have e7 : 1 * left ≤ l * left := Int.mul_le_mul_of_nonneg_right hl (by omega)
    have e8 : 1 * left = left := Int.one_mul left
    omega
/-- what cool tells -/
theorem cool_spec : ∀ (L : List (Int × Int)) (left beats : Int), GL L → L ≠ [] → 1 ≤ left →
    (∀ n, cool L left beats = some n → 1 ≤ n - beats ∧ n - beats ≤ 1000000 * (L.length : Int) + left ∧ left ≤ lostOf L (n - beats) ∧ lostOf L (n - beats - 1) < left) ∧
    (cool L left beats = none → ∀ b, 0 ≤ b → lostOf L b < left)
  | [], _, _, _, h, _ => absurd rfl h
  | [(m, l)], left, beats, h, _, h1 => by
    obtain ⟨g1, g2, g3, g4⟩ := h (m, l) List.mem_cons_self
    have g3' : 0 ≤ l := g3
    by_cases c : l = 0
    · subst c
      refine ⟨fun n hn => ?_, fun _ b hb => ?_⟩
      · have : (none : Option Int) = some n := hn
        cases this
      · show b * 0 < left
        omega
    · obtain ⟨e1, e2, e3, e4⟩ := ceil_of (l := l) (by omega) h1
      refine ⟨fun n hn => ?_, fun hn => ?_⟩
      · have hn' : (if l = 0 then none else some (beats + (left + l - 1) / l)) = some n := hn
        rw [if_neg c] at hn'
        have := Option.some.inj hn'
        have en : n - beats = (left + l - 1) / l := by omega
        rw [en]
        refine ⟨e3, ?_, e1, e2⟩
        show (left + l - 1) / l ≤ 1000000 * ((1 : Nat) : Int) + left
        omega
      · have hn' : (if l = 0 then none else some (beats + (left + l - 1) / l)) = none := hn
        rw [if_neg c] at hn'
        cases hn'
  | (m, l) :: p :: r, left, beats, h, _, h1 => by
    obtain ⟨g1, g2, g3, g4⟩ := h (m, l) List.mem_cons_self
    have g1' : 1 ≤ m := g1
    have g2' : m ≤ 1000000 := g2
    have g3' : 0 ≤ l := g3
    have hlen : (((m, l) :: p :: r).length : Int) = ((p :: r).length : Int) + 1 := by simp
    by_cases c : left ≤ m * l
    · have hl : 1 ≤ l := by
        by_cases c2 : 1 ≤ l
        · exact c2
        · have : l = 0 := by omega
          subst this
          omega
      obtain ⟨e1, e2, e3, e4⟩ := ceil_of (l := l) hl h1
      have ec : cool ((m, l) :: p :: r) left beats = some (beats + (left + l - 1) / l) := if_pos c
      rw [ec]
      refine ⟨fun n hn => ?_, fun hn => by cases hn⟩
      have := Option.some.inj hn
      have en : n - beats = (left + l - 1) / l := by omega
      have km : (left + l - 1) / l ≤ m := by
        by_cases c3 : (left + l - 1) / l ≤ m
        · exact c3
        · have : m * l ≤ ((left + l - 1) / l - 1) * l := Int.mul_le_mul_of_nonneg_right (by omega) g3'
          omega
      rw [en, lost_few h km, lost_few h (by omega)]
      exact ⟨e3, by omega, e1, e2⟩
    · have ec : cool ((m, l) :: p :: r) left beats = cool (p :: r) (left - m * l) (beats + m) := if_neg c
      rw [ec]
      have ih := cool_spec (p :: r) (left - m * l) (beats + m) h.tail (by simp) (by omega)
      have ml : 0 ≤ m * l := Int.mul_nonneg (by omega) g3'
      refine ⟨fun n hn => ?_, fun hn b hb => ?_⟩
      · obtain ⟨i1, i2, i3, i4⟩ := ih.1 n hn
        have e1 : n - (beats + m) = n - beats - m := by omega
        rw [e1] at i1 i2 i3 i4
        rw [lost_many h (by omega), lost_many h (by omega)]
        have e2 : n - beats - 1 - m = n - beats - m - 1 := by omega
        rw [e2]
        exact ⟨by omega, by omega, by omega, by omega⟩
      · have i1 := ih.2 hn
        by_cases c2 : b ≤ m
        · rw [lost_few h c2]
          have : b * l ≤ m * l := Int.mul_le_mul_of_nonneg_right c2 g3'
          omega
        · rw [lost_many h (by omega)]
          have := i1 (b - m) (by omega)
          omega
def heatAt (full air : Int) (L : List (Int × Int)) (b : Int) : Int := mx air (full - lostOf L b)
def coolsTo (full air : Int) (L : List (Int × Int)) (h : Int) : Option Int := if full ≤ h then some 0 else if h < air then none else cool L (full - h) 0
theorem heat_le {full air h b : Int} {L : List (Int × Int)} : heatAt full air L b ≤ h ↔ air ≤ h ∧ full - lostOf L b ≤ h := by
  unfold heatAt mx
  split <;> omega
theorem heat_anti {full air a b : Int} {L : List (Int × Int)} (G : GL L) (h0 : 0 ≤ a) (h1 : a ≤ b) : heatAt full air L b ≤ heatAt full air L a := by
  have := lost_mono L a b G h0 h1
  unfold heatAt mx
  split <;> split <;> omega
/-- the least number of beats behind which it is no hotter -/
def Least (full air : Int) (L : List (Int × Int)) (h n : Int) : Prop := 0 ≤ n ∧ n ≤ 10000000000000 ∧ heatAt full air L n ≤ h ∧ ∀ b, 0 ≤ b → b < n → h < heatAt full air L b
theorem Least.uniq {full air h n m : Int} {L : List (Int × Int)} (a : Least full air L h n) (b : Least full air L h m) : n = m := by
  obtain ⟨a1, _, a2, a3⟩ := a
  obtain ⟨b1, _, b2, b3⟩ := b
  by_cases c1 : n < m
  · have := b3 n a1 c1
    omega
  · by_cases c2 : m < n
    · have := a3 m b1 c2
      omega
    · omega
theorem cools_spec {full air h : Int} {L : List (Int × Int)} (G : GL L) (hne : L ≠ []) (hlen : L.length ≤ 6) (h1 : full ≤ 1000000) (h2 : air ≤ full) (h3 : -1 ≤ h) (h4 : 0 ≤ air) :
    (∀ n, coolsTo full air L h = some n → Least full air L h n) ∧ (coolsTo full air L h = none → ∀ b, 0 ≤ b → h < heatAt full air L b) := by
  unfold coolsTo
  by_cases c1 : full ≤ h
  · rw [if_pos c1]
    refine ⟨fun n hn => ?_, fun hn => by cases hn⟩
    have := Option.some.inj hn
    subst this
    refine ⟨Int.le_refl _, by decide, heat_le.mpr ⟨by omega, ?_⟩, fun b hb hb2 => by omega⟩
    rw [lost_zero G]
    omega
  · rw [if_neg c1]
    by_cases c2 : h < air
    · rw [if_pos c2]
      refine ⟨fun n hn => (by cases hn), fun _ b hb => ?_⟩
      unfold heatAt mx
      split <;> omega
    · rw [if_neg c2]
      have S := cool_spec L (full - h) 0 G hne (by omega)
      refine ⟨fun n hn => ?_, fun hn b hb => ?_⟩
      · obtain ⟨i1, i2, i3, i4⟩ := S.1 n hn
        rw [Int.sub_zero] at i1 i2 i3 i4
        refine ⟨by omega, by omega, heat_le.mpr ⟨by omega, by omega⟩, fun b hb hb2 => ?_⟩
        have := lost_mono L b (n - 1) G hb (by omega)
        by_cases c : h < heatAt full air L b
        · exact c
        · have := heat_le.mp (Int.not_lt.mp c)
          omega
      · have := S.2 hn b hb
        by_cases c : h < heatAt full air L b
        · exact c
        · have := heat_le.mp (Int.not_lt.mp c)
          omega
/-- one turn of the halving -/
structure Half (full air : Int) (L : List (Int × Int)) (h low high : Int) (gap : Int) : Prop where
  z : 0 ≤ low
  le : low ≤ high
  top : high ≤ 10000000000000
  hot : heatAt full air L high ≤ h
  cold : ∀ b, 0 ≤ b → b < low → h < heatAt full air L b
  near : high - low ≤ gap
theorem Half.done {full air h low high : Int} {L : List (Int × Int)} (H : Half full air L h low high 0) : Least full air L h high := by
  have : low = high := by have := H.le; have := H.near; omega
  exact ⟨by have := H.z; omega, H.top, H.hot, fun b b0 b1 => H.cold b b0 (by omega)⟩
theorem Half.down {full air h low high gap : Int} {L : List (Int × Int)} (H : Half full air L h low high gap) (c : heatAt full air L ((low + high) / 2) ≤ h) : Half full air L h (if (low + high) / 2 < low then (low + high) / 2 else low) ((low + high) / 2) (gap / 2) := by
  obtain ⟨z, le, top, hot, cold, near⟩ := H
  have e : (if (low + high) / 2 < low then (low + high) / 2 else low) = low := if_neg (by omega)
  rw [e]
  exact ⟨z, by omega, by omega, c, cold, by omega⟩
theorem Half.up {full air h low high gap : Int} {L : List (Int × Int)} (G : GL L) (H : Half full air L h low high gap) (c : h < heatAt full air L ((low + high) / 2)) : Half full air L h (if high < (low + high) / 2 + 1 then high else (low + high) / 2 + 1) high (gap / 2) := by
  obtain ⟨z, le, top, hot, cold, near⟩ := H
  have nlt : (low + high) / 2 < high := by
    by_cases c2 : (low + high) / 2 < high
    · exact c2
    · have : (low + high) / 2 = high := by omega
      rw [this] at c
      omega
  have e : (if high < (low + high) / 2 + 1 then high else (low + high) / 2 + 1) = (low + high) / 2 + 1 := if_neg (by omega)
  rw [e]
  refine ⟨by omega, by omega, top, hot, fun b b0 b1 => ?_, by omega⟩
  have := heat_anti (full := full) (air := air) G b0 (show b ≤ (low + high) / 2 by omega)
  omega
/-- the gap behind so many turns -/
def gapAt : Nat → Int
  | 0 => 10000000000000
  | i + 1 => gapAt i / 2
theorem gap50 : gapAt 50 = 0 := by decide
end HM
namespace HM
theorem lost_last (l c d : Int) : ∀ (L : List (Int × Int)) (b : Int), lostOf (L ++ [(c, l)]) b = lostOf (L ++ [(d, l)]) b
  | [], b => rfl
  | [(n, k)], b => rfl
  | (n, k) :: p :: r, b => by
    have ih := lost_last l c d (p :: r) (b - (if n < b then n else b))
    show (if n < b then n else b) * k + lostOf (p :: r ++ [(c, l)]) (b - (if n < b then n else b)) = (if n < b then n else b) * k + lostOf (p :: r ++ [(d, l)]) (b - (if n < b then n else b))
    rw [ih]
theorem lost_split : ∀ (A B : List (Int × Int)) (n l p b : Int), GL (A ++ (n, l) :: B) → 1 ≤ p → p < n → 0 ≤ b → lostOf (A ++ (p, l) :: (n - p, l) :: B) b = lostOf (A ++ (n, l) :: B) b
  | [], [], n, l, p, b, h, h1, h2, hb => by
    show (if p < b then p else b) * l + (b - (if p < b then p else b)) * l = b * l
    rw [← Int.add_mul]
    congr 1
    omega
  | [], q :: B, n, l, p, b, h, h1, h2, hb => by
    obtain ⟨g1, g2, g3, g4⟩ := h (n, l) List.mem_cons_self
    have g2' : n ≤ 1000000 := g2
    have hB : GL (q :: B) := h.tail
    have h' : GL ((p, l) :: (n - p, l) :: q :: B) := by
      intro x hx
      rcases List.mem_cons.mp hx with e | hx
      · rw [e]; exact ⟨h1, by show p ≤ 1000000; omega, g3, g4⟩
      · rcases List.mem_cons.mp hx with e | hx
        · rw [e]; exact ⟨by show 1 ≤ n - p; omega, by show n - p ≤ 1000000; omega, g3, g4⟩
        · exact hB x hx
    show lostOf ((p, l) :: (n - p, l) :: q :: B) b = lostOf ((n, l) :: q :: B) b
    by_cases c1 : b ≤ p
    · rw [lost_few h' c1, lost_few h (by omega)]
    · rw [lost_many h' (by omega)]
      by_cases c2 : b ≤ n
      · rw [lost_few h'.tail (by omega), lost_few h c2, ← Int.add_mul]
        congr 1
        omega
      · rw [lost_many h'.tail (by omega), lost_many h (by omega), ← Int.add_assoc, ← Int.add_mul]
        have e1 : p + (n - p) = n := by omega
        have e2 : b - p - (n - p) = b - n := by omega
        rw [e1, e2]
  | (m, k) :: A, B, n, l, p, b, h, h1, h2, hb => by
    have e1 : lostOf ((m, k) :: A ++ (p, l) :: (n - p, l) :: B) b = (if m < b then m else b) * k + lostOf (A ++ (p, l) :: (n - p, l) :: B) (b - (if m < b then m else b)) := by
      cases A <;> rfl
    have e2 : lostOf ((m, k) :: A ++ (n, l) :: B) b = (if m < b then m else b) * k + lostOf (A ++ (n, l) :: B) (b - (if m < b then m else b)) := by
      cases A <;> rfl
    rw [e1, e2, lost_split A B n l p _ h.tail h1 h2 (by split <;> omega)]
def dbl (p : Int × Int) : Int × Int := (p.1, 2 * p.2)
theorem lost_twice : ∀ (L : List (Int × Int)) (b : Int), lostOf (L.map dbl) b = 2 * lostOf L b
  | [], b => rfl
  | [(n, l)], b => by
    show b * (2 * l) = 2 * (b * l)
    rw [← Int.mul_assoc, Int.mul_comm b 2, Int.mul_assoc]
  | (n, l) :: p :: r, b => by
    have ih := lost_twice (p :: r) (b - (if n < b then n else b))
    show (if n < b then n else b) * (2 * l) + lostOf ((p :: r).map dbl) (b - (if n < b then n else b)) = 2 * ((if n < b then n else b) * l + lostOf (p :: r) (b - (if n < b then n else b)))
    rw [ih, Int.mul_add, ← Int.mul_assoc, Int.mul_comm (if n < b then n else b) 2, Int.mul_assoc]
theorem lost_later {L : List (Int × Int)} (hne : L ≠ []) (late b : Int) (hb : 0 ≤ b) : lostOf ((late, 0) :: L) (b + late) = lostOf L b := by
  cases L with
  | nil => exact absurd rfl hne
  | cons p r =>
    show (if late < b + late then late else b + late) * 0 + lostOf (p :: r) (b + late - (if late < b + late then late else b + late)) = lostOf (p :: r) b
    have e : b + late - (if late < b + late then late else b + late) = b := by split <;> omega
    rw [e, Int.mul_zero, Int.zero_add]
theorem lost_early {L : List (Int × Int)} (G : GL L) (hne : L ≠ []) (late b : Int) (hb : b ≤ late) : lostOf ((late, 0) :: L) b = 0 := by
  cases L with
  | nil => exact absurd rfl hne
  | cons p r =>
    show (if late < b then late else b) * 0 + lostOf (p :: r) (b - (if late < b then late else b)) = 0
    have e : b - (if late < b then late else b) = 0 := by split <;> omega
    rw [e, Int.mul_zero, Int.zero_add, lost_zero G]
structure Vd (full least air : Int) (L : List (Int × Int)) : Prop where
  g : GL L
  ne : L ≠ []
  len : L.length ≤ 6
  n1 : 0 ≤ least
  n2 : least ≤ full
  n3 : full ≤ 1000000
  n4 : 0 ≤ air
  n5 : air ≤ full
theorem Vd.spec {full least air : Int} {L : List (Int × Int)} (V : Vd full least air L) : (∀ n, coolsTo full air L (least - 1) = some n → Least full air L (least - 1) n) ∧ (coolsTo full air L (least - 1) = none → ∀ b, 0 ≤ b → least - 1 < heatAt full air L b) :=
  cools_spec V.g V.ne V.len V.n3 V.n5 (by have := V.n1; omega) V.n4
/-- where the one is no hotter than its least the other one is so too -/
theorem cools_le {f1 l1 a1 f2 l2 a2 : Int} {L1 L2 : List (Int × Int)} (V1 : Vd f1 l1 a1 L1) (V2 : Vd f2 l2 a2 L2) (h : ∀ b, 0 ≤ b → heatAt f1 a1 L1 b ≤ l1 - 1 → heatAt f2 a2 L2 b ≤ l2 - 1) {n : Int} (e : coolsTo f1 a1 L1 (l1 - 1) = some n) :
    ∃ m, coolsTo f2 a2 L2 (l2 - 1) = some m ∧ m ≤ n := by
  obtain ⟨i1, i2, i3, i4⟩ := V1.spec.1 n e
  have k := h n i1 i3
  cases e2 : coolsTo f2 a2 L2 (l2 - 1) with
  | none =>
    have := V2.spec.2 e2 n i1
    omega
  | some m =>
    obtain ⟨j1, j2, j3, j4⟩ := V2.spec.1 m e2
    refine ⟨m, rfl, ?_⟩
    by_cases c : m ≤ n
    · exact c
    · have := j4 n i1 (by omega)
      omega
theorem cools_eq {f1 l1 a1 f2 l2 a2 : Int} {L1 L2 : List (Int × Int)} (V1 : Vd f1 l1 a1 L1) (V2 : Vd f2 l2 a2 L2) (h : ∀ b, 0 ≤ b → (heatAt f1 a1 L1 b ≤ l1 - 1 ↔ heatAt f2 a2 L2 b ≤ l2 - 1)) : coolsTo f1 a1 L1 (l1 - 1) = coolsTo f2 a2 L2 (l2 - 1) := by
  cases e1 : coolsTo f1 a1 L1 (l1 - 1) with
  | none =>
    cases e2 : coolsTo f2 a2 L2 (l2 - 1) with
    | none => rfl
    | some m =>
      obtain ⟨n, k, _⟩ := cools_le V2 V1 (fun b hb => (h b hb).mpr) e2
      rw [e1] at k
      cases k
  | some n =>
    obtain ⟨m, k1, k2⟩ := cools_le V1 V2 (fun b hb => (h b hb).mp) e1
    obtain ⟨n', k3, k4⟩ := cools_le V2 V1 (fun b hb => (h b hb).mpr) k1
    rw [e1] at k3
    have : n = n' := Option.some.inj k3
    rw [k1]
    congr 1
    omega
theorem heat_twice (full air : Int) (L : List (Int × Int)) (b : Int) : heatAt (2 * full) (2 * air) (L.map dbl) b = 2 * heatAt full air L b := by
  unfold heatAt mx
  rw [lost_twice]
  split <;> split <;> omega
theorem heat_colder {full air air' : Int} {L : List (Int × Int)} {b : Int} (h : air' ≤ air) : heatAt full air' L b ≤ heatAt full air L b := by
  unfold heatAt mx
  split <;> split <;> omega
theorem heat_later {full air : Int} {L : List (Int × Int)} (hne : L ≠ []) (late b : Int) (hb : 0 ≤ b) : heatAt full air ((late, 0) :: L) (b + late) = heatAt full air L b := by
  unfold heatAt
  rw [lost_later hne late b hb]
theorem heat_early {full air : Int} {L : List (Int × Int)} (G : GL L) (hne : L ≠ []) (late b : Int) (hb : b ≤ late) (h : air ≤ full) : heatAt full air ((late, 0) :: L) b = full := by
  unfold heatAt
  rw [lost_early G hne late b hb]
  exact (mx_start air full h).symm
theorem cools_later {full least air late : Int} {L : List (Int × Int)} (V : Vd full least air L) (V' : Vd full least air ((late, 0) :: L)) (hl : 1 ≤ late) :
    coolsTo full air ((late, 0) :: L) (least - 1) = (coolsTo full air L (least - 1)).map (· + late) := by
  cases e : coolsTo full air L (least - 1) with
  | none =>
    cases e2 : coolsTo full air ((late, 0) :: L) (least - 1) with
    | none => rfl
    | some m =>
      obtain ⟨j1, j2, j3, j4⟩ := V'.spec.1 m e2
      by_cases c : m ≤ late
      · rw [heat_early V.g V.ne late m c V.n5] at j3
        have := V.n2
        omega
      · have := V.spec.2 e (m - late) (by omega)
        have k := heat_later (full := full) (air := air) V.ne late (m - late) (by omega)
        rw [show m - late + late = m by omega] at k
        omega
  | some n =>
    obtain ⟨i1, i2, i3, i4⟩ := V.spec.1 n e
    cases e2 : coolsTo full air ((late, 0) :: L) (least - 1) with
    | none =>
      have := V'.spec.2 e2 (n + late) (by omega)
      rw [heat_later V.ne late n i1] at this
      omega
    | some m =>
      obtain ⟨j1, j2, j3, j4⟩ := V'.spec.1 m e2
      show some m = some (n + late)
      congr 1
      have c1 : late < m := by
        by_cases c : late < m
        · exact c
        · rw [heat_early V.g V.ne late m (by omega) V.n5] at j3
          have := V.n2
          omega
      have k := heat_later (full := full) (air := air) V.ne late (m - late) (by omega)
      rw [show m - late + late = m by omega] at k
      by_cases c2 : m < n + late
      · have := i4 (m - late) (by omega) (by omega)
        omega
      · by_cases c3 : n + late < m
        · have := j4 (n + late) (by omega) c3
          rw [heat_later V.ne late n i1] at this
          omega
        · omega
end HM
namespace HP
open PySem L2
def top (i : Nat) : Stmt := PySem.Challenge.pw_hotpass_k05_metals_put_otherwise.main.body.getD i (.Pass ⟨0, 0, 0, 0⟩)
/-! ### a def called by its name -/
structure Df (P : Program) (w : World) (K : PySem.W.Frag) (mg : Str → Option Value) (base : Heap) (x : Str) (k : Nat) (ps : List Str) (sp : Sp) : Prop where
  ex : ∃ (f : Addr) (fd : FuncData), FnOk P w K mg base CX0 k f fd ps sp ∧ mg x = some (.ref f) ∧ PySem.W.keepIn K (.ref f) = true ∧ Binds K fd ps []
theorem pe_fn {X : Cx} {x : Str} {k : Nat} {ps : List Str} {sp : Sp} {p pos : Pos} {e : Expr} {es : List Expr} {t : TA} (D : Df X.prog X.w X.K X.mg X.base x k ps sp) (hr : Room k X.A) (ha : PA X (e :: es) t)
    (hg : Gl X x := by rfl) (hdb : (x == ("__debug__" : Str)) = false := by decide) (he : starEach (e :: es) X.env = (false, eval e X.env) :: starEach es X.env := by rfl) (hpl : (backTo pos (starEach es X.env)).any (·.1) = false := by rfl) :
    PE X (.Call (.Name x p) (e :: es) [] pos) (tCall sp [] E0 t) := by
  obtain ⟨f, fd, F, hm, kp, b⟩ := D.ex
  exact pe_call F hr hg hm kp b .nil pass0 ha hdb he hpl
/-! ### o.m(k = v) -/
def tMethK (C : Addr) (m : Str) (n : Nat) (sp : Sp) (gV : List V → List V → List V) (E : XK) (ta : TE) (tk : TA) : TE := fun σ H Q => ta σ H fun x H1 => ∃ a dx fs, x = .ref a ∧ H1 a = some (.ins C dx fs) ∧ fs.lookup m = none ∧
  tk σ H1 fun zs H2 => zs.length = n ∧ sp (gV [x] zs) H2 Q E
theorem pe_methK0 {X : Cx} {CX : CXT} {k : Nat} {f C : Addr} {fd : FuncData} {ps ks : List Str} {sp : Sp} {E : XK} {m : Str} {apos pos : Pos} {o : Expr} {kws : List Keyword} {ta : TE} {tk : TA} {g : List Value → List Value → List Value} {gV : List V → List V → List V} {pl : Sem Bool}
    (he : PE X o ta) (c : Cls X.K C) (hm : Meth X.K C m f) (F : FnOk X.prog X.w X.K X.mg X.base CX k f fd ps sp) (hr : Room k X.A) (hb : KBn X.K fd ps 1 ks g gV) (hx : Passes CX X E) (hkw : PK X kws tk)
    (hall : (backToKw pos (keywordEach kws X.env)).all (·.1.isSome) = true := by rfl) (hks : (backToKw pos (keywordEach kws X.env)).filterMap (·.1) = ks := by rfl)
    (hpl : ((backTo pos (starEach [] X.env)).any (·.1) || (backToKw pos (keywordEach kws X.env)).any (·.1.isNone)) = false := by rfl)
    (ht : eval (.Call (.Attribute o m apos) [] kws pos) X.env = (do
      let ov ← eval o X.env
      standAt apos.atName
      let (f, first) ← holding [ov] (getMethod ov m pl)
      callWith pos f first (backTo pos (starEach [] X.env)) (backToKw pos (keywordEach kws X.env))) := by rfl) :
    PE X (.Call (.Attribute o m apos) [] kws pos) (tMethK C m ks.length sp gV E ta tk) := by
  refine ⟨fun pins s σ H Q I h => ?_⟩
  refine PySem.W.methodCall_KW (pl := pl) (thn (he.run pins s σ H _ I h) fun u s1 ⟨x, H1, I1, rx, a, dx, fs, ex, ea, l, q⟩ => ?_) ht
  subst ex
  obtain rfl : u = Value.ref a := rx
  refine getmeth_ok I1 ea c hm l ?_
  refine PySem.W.callWith_KW0 (first := [.ref a]) (h₀ := X.base) I.ok.mod.kin hm.kp hall ?_ hpl
  refine thn (hkw.run pos pins s1 σ H1 _ I1 q) fun ws s2 ⟨zs, H2, I2, rz, l2, q2⟩ => ⟨I2.kIn, ?_⟩
  rw [hks]
  exact run_fnN (us := [.ref a]) (vs := [.ref a]) F hr hb hx I2 (.cons rfl .nil) rz rfl l2 q2
/-! ### the names of Python's own that the text reads, its constants -/
structure Txt (mg : Str → Option Value) (tM tL : Tok) : Prop where
  zlen : mg "len" = none
  zrange : mg "range" = none
  zenumerate : mg "enumerate" = none
  zabs : mg "abs" = none
  zmin : mg "min" = none
  zmax : mg "max" = none
  zany : mg "any" = none
  zall : mg "all" = none
  zisinstance : mg "isinstance" = none
  zint : mg "int" = none
  zbool : mg "bool" = none
  zlist : mg "list" = none
  ztuple : mg "tuple" = none
  gMOST : mg "MOST" = some (.int 1000000 tM)
  gMOST_LOSSES : mg "MOST_LOSSES" = some (.int 6 tL)
theorem iteD {c A B : Prop} [Decidable c] (h1 : c → A) (h2 : ¬ c → B) : if decide c = true then A else B := by
  by_cases h : c
  · rw [decide_eq_true h, if_pos rfl]
    exact h1 h
  · rw [decide_eq_false h, if_neg Bool.false_ne_true]
    exact h2 h
/-! ### heaps -/
/-- all but t is as it was -/
def SameBut (t : Addr) (H H' : Hp) : Prop := ∀ b o, H b = some o → b ≠ t → H' b = some o
theorem SameBut.trans {t : Addr} {H H1 H2 : Hp} (a : SameBut t H H1) (b : SameBut t H1 H2) : SameBut t H H2 := fun c o h n => b c o (a c o h n) n
theorem Same.but {t : Addr} {H H' : Hp} (s : Same H H') : SameBut t H H' := fun b o h _ => s b o h
theorem same_new {H : Hp} {p : Addr} {o : HO} (h : H p = none) : Same H (upd H p o) := fun b u e => by
  rw [upd_ne (ne_of_none e h)]
  exact e
/-- a tape of which at most c numbers were counted -/
def TapeAt (H : Hp) (t : Addr) (c : Int) : Prop := ∃ a b k : Int, H t = some (.lst [.int a, .int b, .int k]) ∧ 0 ≤ a ∧ 0 ≤ b ∧ b ≤ 2305843009300000000 ∧ 0 ≤ k ∧ k ≤ c
theorem TapeAt.mono {H : Hp} {t : Addr} {c d : Int} (h : TapeAt H t c) (l : c ≤ d) : TapeAt H t d := by
  obtain ⟨a, b, k, h1, h2, h3, h4, h5, h6⟩ := h
  exact ⟨a, b, k, h1, h2, h3, h4, h5, Int.le_trans h6 l⟩
theorem TapeAt.same {H H' : Hp} {t : Addr} {c : Int} (h : TapeAt H t c) (s : Same H H') : TapeAt H' t c := by
  obtain ⟨a, b, k, h1, h2⟩ := h
  exact ⟨a, b, k, s _ _ h1, h2⟩
theorem TapeAt.some {H : Hp} {t : Addr} {c : Int} (h : TapeAt H t c) : ∃ zs, H t = some (.lst zs) := by
  obtain ⟨a, b, k, h1, h2⟩ := h
  exact ⟨_, h1⟩
theorem SameBut.tup {t : Addr} {c : Int} {H H' : Hp} {a : Addr} {xs : List V} (s : SameBut t H H') (ht : TapeAt H t c) (h : H a = some (.tup xs)) : H' a = some (.tup xs) := by
  obtain ⟨zs, hz⟩ := ht.some
  exact s _ _ h (ne_of h hz (by intro z; cases z))
theorem SameBut.ins {t : Addr} {c : Int} {H H' : Hp} {a C dx : Addr} {fs : List (Str × V)} (s : SameBut t H H') (ht : TapeAt H t c) (h : H a = some (.ins C dx fs)) : H' a = some (.ins C dx fs) := by
  obtain ⟨zs, hz⟩ := ht.some
  exact s _ _ h (ne_of h hz (by intro z; cases z))
/-- pairs of numbers, each a tuple -/
inductive PairsAt (H : Hp) : List V → List (Int × Int) → Prop
  | nil : PairsAt H [] []
  | cons {t : Addr} {m l : Int} {xs : List V} {L : List (Int × Int)} (h : H t = some (.tup [.int m, .int l])) (r : PairsAt H xs L) : PairsAt H (.ref t :: xs) ((m, l) :: L)
theorem PairsAt.len {H : Hp} {xs : List V} {L : List (Int × Int)} (h : PairsAt H xs L) : xs.length = L.length := by
  induction h with
  | nil => rfl
  | cons _ _ ih => rw [List.length_cons, List.length_cons, ih]
theorem PairsAt.get {H : Hp} {xs : List V} {L : List (Int × Int)} (h : PairsAt H xs L) : ∀ {i : Nat} {x : V}, xs[i]? = some x → ∃ t m l, x = .ref t ∧ H t = some (.tup [.int m, .int l]) ∧ L[i]? = some (m, l) := by
  induction h with
  | nil => intro i x e; simp at e
  | @cons t m l xs L h1 r ih =>
    intro i x e
    cases i with
    | zero =>
      have e' : V.ref t = x := Option.some.inj e
      exact ⟨t, m, l, e'.symm, h1, rfl⟩
    | succ j => exact ih (i := j) e
theorem PairsAt.move {H H' : Hp} {xs : List V} {L : List (Int × Int)} (h : PairsAt H xs L) (s : ∀ a ys, H a = some (.tup ys) → H' a = some (.tup ys)) : PairsAt H' xs L := by
  induction h with
  | nil => exact .nil
  | cons h1 _ ih => exact .cons (s _ _ h1) ih
theorem PairsAt.snoc {H : Hp} {xs : List V} {L : List (Int × Int)} {t : Addr} {m l : Int} (h : PairsAt H xs L) (ht : H t = some (.tup [.int m, .int l])) : PairsAt H (xs ++ [.ref t]) (L ++ [(m, l)]) := by
  induction h with
  | nil => exact .cons ht .nil
  | cons h1 _ ih => exact .cons h1 ih
theorem PairsAt.take {H : Hp} {xs : List V} {L : List (Int × Int)} (h : PairsAt H xs L) : ∀ n : Nat, PairsAt H (xs.take n) (L.take n) := by
  induction h with
  | nil => intro n; simp only [List.take_nil]; exact .nil
  | cons h1 _ ih =>
    intro n
    cases n with
    | zero => exact .nil
    | succ j => exact .cons h1 (ih j)
def GoodL (L : List (Int × Int)) : Prop := L ≠ [] ∧ L.length ≤ 6 ∧ ∀ p ∈ L, 1 ≤ p.1 ∧ p.1 ≤ 1000000 ∧ 0 ≤ p.2 ∧ p.2 ≤ 1000000
/-! ### _law_draw -/
def spDraw : Sp := fun vs H Q _ => ∃ (t : Addr) (c many : Int), vs = [.ref t, .int many] ∧ TapeAt H t c ∧ c ≤ 100000 ∧ 0 < many ∧ many ≤ 10000000000000 ∧
  ∀ (r : Int) (H' : Hp), 0 ≤ r → r < many → TapeAt H' t (c + 1) → SameBut t H H' → Q (.int r) H'
section
variable {P : Program} {w : World} {K : PySem.W.Frag} {mg : Str → Option Value} {base : Heap}
abbrev sLdraw : Stmt := top 14
theorem scLdraw : FnScope ["_law_tape_here", "_law_many", "_law_found", "_law_once", "_law_twice", "_law_wide"] ["_law_tape_here", "_law_many"] (defScope sLdraw) := ⟨rfl, rfl, rfl, by decide +kernel, rfl, by decide +kernel, by decide +kernel⟩
theorem wd {i j : Int} (h : 0 < j) (h2 : j ≤ 10000000000000) : CDivW i j := wide_div (b := 64) h (by omega) (by decide) (by decide)
theorem ok_draw {f : Addr} {fd : FuncData} (F : Fun K "_law_draw" "_law_draw" sLdraw f fd) : FnOk P w K mg base CX0 1 f fd ["_law_tape_here", "_law_many"] spDraw := by
  refine F.ok scLdraw (fun vs H Q E h => ?_) (fun cdv A outer s H vs Q E hr h => ?_)
  · obtain ⟨t, c, many, rfl, _⟩ := h
    rfl
  · obtain ⟨t, c, many, rfl, ⟨a, b, k, ht, ha, hb, hb2, hk, hkc⟩, hc, hm, hm2, q⟩ := h
    refine ⟨_, (pss_cons (ps_if (pt_cmp (pc_gt (pe_ix ix_list (pv 0) pe_int (fun _ _ => rfl)) pe_int)) (pss_cons (ps_set (i := 2) scLdraw.nd rfl (Or.inl rfl) (pe_op op_mod (pe_ix ix_list (pv 0) pe_int (fun _ _ => rfl)) (pv 1)))
    (pss_cons (ps_asg (pe_op op_fdivW (pe_ix ix_list (pv 0) pe_int (fun _ _ => rfl)) (pv 1)) (pg_sub (pv 0) pe_int set_list))
    (pss_one (ps_ret (pv 2))))) pss_nil)
    (pss_cons (ps_asg (pe_op op_add (pe_ix ix_list (pv 0) pe_int (fun _ _ => rfl)) pe_int) (pg_sub (pv 0) pe_int set_list))
    (pss_cons (ps_set (i := 3) scLdraw.nd rfl (Or.inl rfl) (pe_op op_mod (pe_op op_pow (pe_op op_add (pe_ix ix_list (pv 0) pe_int (fun _ _ => rfl)) (pe_op op_mul pe_int (pe_ix ix_list (pv 0) pe_int (fun _ _ => rfl)))) pe_int) pe_int))
    (pss_cons (ps_set (i := 4) scLdraw.nd rfl (Or.inl rfl) (pe_op op_mod (pe_op op_mul (pe_op op_add (pv 3) (pe_ix ix_list (pv 0) pe_int (fun _ _ => rfl))) (pe_op op_add (pe_op op_add (pe_op op_mod (pv 3) pe_int) pe_int) (pe_ix ix_list (pv 0) pe_int (fun _ _ => rfl)))) pe_int))
    (pss_cons (ps_set (i := 5) scLdraw.nd rfl (Or.inl rfl) (pe_op op_mod (pe_op op_add (pe_op op_add (pe_op op_fdivW (pe_ix ix_list (pv 0) pe_int (fun _ _ => rfl)) pe_int) (pe_op op_mul (pv 4) pe_int)) (pe_ix ix_list (pv 0) pe_int (fun _ _ => rfl))) pe_int))
    (pss_one (ps_ret (pe_op op_mod (pe_op op_fdivW (pe_op op_mod (pe_op op_add (pe_op op_add (pe_op op_mul (pv 4) pe_int) (pe_op op_mul (pv 5) pe_int)) (pv 3)) pe_int) pe_int) (pv 1))))))))), ?_⟩
    have S0 : SqL K H t [.int a, .int b, .int k] := SqL.of ht
    refine ⟨_, rfl, t, _, 0, .int a, rfl, rfl, S0, rfl, a, 0, rfl, rfl, _, rfl, ?_⟩
    refine iteD (fun ca => ?_) (fun ca => ?_)
    · show tSeq _ _ _ _ _
      refine ⟨_, rfl, t, _, 0, .int a, rfl, rfl, S0, rfl, _, rfl, a, many, rfl, rfl, hm, ?_⟩
      refine ⟨_, rfl, t, _, 0, .int a, rfl, rfl, S0, rfl, _, rfl, a, many, rfl, rfl, wd hm hm2, ?_⟩
      refine ⟨_, rfl, t, _, 0, 0, rfl, rfl, ht, rfl, ?_⟩
      refine ⟨_, rfl, ?_⟩
      refine q (a % many) _ (Int.emod_nonneg _ (by omega)) (Int.emod_lt_of_pos _ hm) ⟨a / many, b, k, upd_same, Int.ediv_nonneg (by omega) (by omega), hb, hb2, hk, by omega⟩ (fun x o e n => ?_)
      rw [upd_ne n]
      exact e
    · show tNext _ _ _
      refine ⟨_, rfl, t, _, 2, .int k, rfl, rfl, S0, rfl, k, 1, rfl, rfl, ?_⟩
      refine ⟨_, rfl, t, _, 2, 2, rfl, rfl, ht, rfl, ?_⟩
      have S1 : SqL K (upd H t (.lst [.int a, .int b, .int (k + 1)])) t [.int a, .int b, .int (k + 1)] := SqL.of upd_same
      show tSeq _ _ _ _ (upd H t (.lst [.int a, .int b, .int (k + 1)]))
      refine ⟨_, rfl, t, _, 1, .int b, rfl, rfl, S1, rfl, _, rfl, t, _, 2, .int (k + 1), rfl, rfl, S1, rfl, 39373, k + 1, rfl, rfl, .inl ⟨by decide, by decide⟩, b, 39373 * (k + 1), rfl, rfl, _, 5, rfl, rfl, ⟨by decide, by decide, by omega⟩, _, 2147483647, rfl, rfl, (show (0 : Int) < 2147483647 by decide), ?_⟩
      dsimp only
      have o1 : 0 ≤ ((b + 39373 * (k + 1)) ^ (5 : Int).toNat) % 2147483647 := Int.emod_nonneg _ (by decide)
      have o2 : ((b + 39373 * (k + 1)) ^ (5 : Int).toNat) % 2147483647 < 2147483647 := Int.emod_lt_of_pos _ (by decide)
      generalize ((b + 39373 * (k + 1)) ^ (5 : Int).toNat) % 2147483647 = once at o1 o2
      refine ⟨_, rfl, _, rfl, t, _, 2, .int (k + 1), rfl, rfl, S1, rfl, once, k + 1, rfl, rfl, _, rfl, once, 40009, rfl, rfl, (show (0 : Int) < 40009 by decide), _, 7, rfl, rfl, _, rfl, t, _, 2, .int (k + 1), rfl, rfl, S1, rfl, _, k + 1, rfl, rfl, _, _, rfl, rfl, .inl ⟨by omega, by omega⟩, _, 2147483629, rfl, rfl, (show (0 : Int) < 2147483629 by decide), ?_⟩
      dsimp only
      generalize hz2 : ((once + (k + 1)) * (once % 40009 + 7 + (k + 1))) % 2147483629 = twice
      have t1 : 0 ≤ twice := by rw [← hz2]; exact Int.emod_nonneg _ (by decide)
      have t2 : twice < 2147483629 := by rw [← hz2]; exact Int.emod_lt_of_pos _ (by decide)
      refine ⟨_, rfl, t, _, 1, .int b, rfl, rfl, S1, rfl, b, 2147483647, rfl, rfl, wd (by decide) (by decide), _, rfl, twice, 40009, rfl, rfl, .inl ⟨by omega, by omega⟩, _, _, rfl, rfl, _, rfl, t, _, 2, .int (k + 1), rfl, rfl, S1, rfl, _, k + 1, rfl, rfl, _, 2305843009213693951, rfl, rfl, (show (0 : Int) < 2305843009213693951 by decide), ?_⟩
      dsimp only
      generalize hz3 : (b / 2147483647 + twice * 40009 + (k + 1)) % 2305843009213693951 = wide
      have w1 : 0 ≤ wide := by rw [← hz3]; exact Int.emod_nonneg _ (by decide)
      have w2 : wide < 2305843009213693951 := by rw [← hz3]; exact Int.emod_lt_of_pos _ (by decide)
      refine ⟨_, rfl, twice, 48271, rfl, rfl, .inl ⟨by omega, by omega⟩, _, rfl, wide, 39373, rfl, rfl, .inl ⟨by omega, by omega⟩, _, _, rfl, rfl, _, rfl, _, once, rfl, rfl, _, 2305843009213693921, rfl, rfl, (show (0 : Int) < 2305843009213693921 by decide), _, 64, rfl, rfl, wd (by decide) (by decide), _, rfl, _, many, rfl, rfl, hm, ?_⟩
      refine q _ _ (Int.emod_nonneg _ (by omega)) (Int.emod_lt_of_pos _ hm) ⟨a, b, k + 1, upd_same, ha, hb, hb2, by omega, by omega⟩ (fun x o e n => ?_)
      rw [upd_ne n]
      exact e
end
end HP
namespace HP
open PySem L2
section
variable {P : Program} {w : World} {K : PySem.W.Frag} {mg : Str → Option Value} {base : Heap} {tM tL : Tok}
/-! ### _law_tape -/
def spTape (K : PySem.W.Frag) : Sp := fun vs H Q _ => ∃ (a : Addr) (ns : List Int) (k : Int), vs = [.ref a, .int k] ∧ SqL K H a (ns.map V.int) ∧ 0 ≤ k ∧ k ≤ 1000 ∧
  ∀ (t : Addr) (H' : Hp), H t = none → TapeAt H' t 0 → Same H H' → Q (.ref t) H'
abbrev sLtape : Stmt := top 13
theorem scLtape : FnScope ["_law_script", "_law_k", "_law_cell"] ["_law_script", "_law_k"] (defScope sLtape) := ⟨rfl, rfl, rfl, by decide +kernel, rfl, by decide +kernel, by decide +kernel⟩
theorem map_int {ns : List Int} {i : Nat} {y : V} (h : (ns.map V.int)[i]? = some y) : ∃ z, ns[i]? = some z ∧ y = .int z := by
  rw [List.getElem?_map] at h
  cases e : ns[i]? with
  | none => rw [e] at h; cases h
  | some z => rw [e] at h; exact ⟨z, rfl, (Option.some.inj h).symm⟩
theorem at_int {ns : List Int} {k : Int} (h0 : 0 ≤ k) (h1 : k < ((ns.map V.int).length : Int)) : ∃ z, atI (ns.map V.int) k = some (V.int z) := by
  have hl : k.toNat < ns.length := by rw [List.length_map] at h1; omega
  refine ⟨ns[k.toNat], at_of (j := k.toNat) (by omega) ?_⟩
  rw [List.getElem?_map, List.getElem?_eq_getElem hl]
  rfl
theorem cm01 (x : Int) (b : Bool) : CMul x (if b = true then 1 else 0) := .inr (by cases b <;> decide)
theorem ok_tape {f : Addr} {fd : FuncData} (F : Fun K "_law_tape" "_law_tape" sLtape f fd) (T : Txt mg tM tL) : FnOk P w K mg base CX0 1 f fd ["_law_script", "_law_k"] (spTape K) := by
  refine F.ok scLtape (fun vs H Q E h => ?_) (fun cdv A outer s H vs Q E hr h => ?_)
  · obtain ⟨a, ns, k, rfl, _⟩ := h
    rfl
  · obtain ⟨a, ns, k, rfl, hS, h0, h1, q⟩ := h
    refine ⟨_, (pss_cons (ps_set (i := 2) scLtape.nd rfl (Or.inl rfl) (pe_ifExp (pt_cmp (pc_lt (pv 1) (pe_callB call_len_seq (by rfl) T.zlen (by decide +kernel) (pa_cons (pv 0) pa_nil)))) (pe_ix ix_list (pv 0) (pv 1) (fun _ _ => rfl)) pe_int))
    (pss_one (ps_ret (pe_lst (pa_cons (pe_op op_mul (pe_callB call_abs (by rfl) T.zabs (by decide +kernel) (pa_cons (pv 2) pa_nil)) (pe_callTy call_int1 (by rfl) T.zint (by decide +kernel) (pa_cons (pe_cmp (pc_ge (pe_callB call_abs (by rfl) T.zabs (by decide +kernel) (pa_cons (pv 2) pa_nil)) (pe_op op_pow pe_int pe_int))) pa_nil))) (pa_cons (pe_op op_add (pe_op op_add (pe_op op_mod (pv 2) pe_int) (pe_op op_mul pe_int (pv 1))) pe_int) (pa_cons pe_int pa_nil))))))), ?_⟩
    have fin : ∀ z : Int, ∀ p, H p = none → Q (.ref p) (upd H p (.lst [.int ((if z < 0 then -z else z) * (if decide ((10 : Int) ^ (18 : Int).toNat ≤ (if z < 0 then -z else z)) then 1 else 0)), .int (z % 2305843009213693951 + 39373 * k + 17), .int 0])) := by
      intro z p hp
      refine q p _ hp ⟨_, _, _, upd_same, ?_, ?_, ?_, Int.le_refl _, Int.le_refl _⟩ (same_new hp)
      · refine Int.mul_nonneg ?_ ?_ <;> split <;> omega
      · omega
      · omega
    refine ⟨_, rfl, _, rfl, a, _, rfl, .inl hS, k, _, rfl, rfl, _, rfl, ?_⟩
    refine iteD (fun c1 => ?_) (fun c1 => ?_)
    · obtain ⟨z, hz⟩ := at_int h0 c1
      refine ⟨_, rfl, _, rfl, a, _, k, .int z, rfl, rfl, hS, hz, ?_⟩
      refine ⟨_, rfl, z, rfl, _, rfl, z, rfl, 10, 18, rfl, rfl, ⟨by decide, by decide, by decide⟩, _, _, rfl, rfl, .inr ⟨_, rfl, _, _, rfl, rfl, cm01 _ _, ?_⟩⟩
      refine ⟨_, rfl, z, 2305843009213693951, rfl, rfl, (show (0 : Int) < 2305843009213693951 by decide), _, rfl, 39373, k, rfl, rfl, .inl ⟨by decide, by decide⟩, _, _, rfl, rfl, _, 17, rfl, rfl, (by show 3 ≤ sizeLine; decide), fun p hp => ?_⟩
      exact fin z p hp
    · refine ⟨_, rfl, 0, rfl, _, rfl, 0, rfl, 10, 18, rfl, rfl, ⟨by decide, by decide, by decide⟩, _, _, rfl, rfl, .inr ⟨_, rfl, _, _, rfl, rfl, cm01 _ _, ?_⟩⟩
      refine ⟨_, rfl, 0, 2305843009213693951, rfl, rfl, (show (0 : Int) < 2305843009213693951 by decide), _, rfl, 39373, k, rfl, rfl, .inl ⟨by decide, by decide⟩, _, _, rfl, rfl, _, 17, rfl, rfl, (by show 3 ≤ sizeLine; decide), fun p hp => ?_⟩
      exact fin 0 p hp
/-! ### over enumerate -/
theorem for_enum {K : PySem.W.Frag} {a : Addr} {xs : List V} {g : TG} {tb : TS} {D : Ends} {σ : L2.St} {H : Hp} (Pv : Nat → L2.St → Hp → Prop) (h0 : Pv 0 σ H) (hl : ∀ i σ H, i ≤ xs.length → Pv i σ H → SqL K H a xs)
    (hs : ∀ i x σ H T, xs[i]? = some x → Pv i σ H → H T = none → g (.ref T) σ (upd H T (.tup [.int (i : Nat), x])) fun σ2 H2 => tb { D with nx := Pv (i + 1), ct := Pv (i + 1), bk := D.nx } σ2 H2) (hd : ∀ σ H, Pv xs.length σ H → D.nx σ H) :
    ∃ W : Nat → Nat → L2.St → Hp → Prop, (∃ m, W 0 m σ H) ∧ ∀ i m σ H, W i m σ H →
      ((Ite K a).stop i H ∧ D.nx σ H) ∨ ((Ite K a).go i H ∧ ∃ N : L2.St → Hp → Prop, (∀ σ' H', N σ' H' → ∃ m', m' < m ∧ W (i + 1) m' σ' H') ∧ ∀ x H', (Ite K a).yld i H x H' → g x σ H' fun σ2 H2 => tb { D with nx := N, ct := N, bk := D.nx } σ2 H2) := by
  refine ⟨fun i m σ H => m = xs.length - i ∧ i ≤ xs.length ∧ Pv i σ H, ⟨xs.length, by simp, Nat.zero_le _, h0⟩, ?_⟩
  rintro i m σ H ⟨rfl, hi, p⟩
  have q := hl i σ H hi p
  by_cases hlt : i < xs.length
  · refine .inr ⟨⟨xs, xs[i], q, by simp [hlt]⟩, Pv (i + 1), fun σ' H' p' => ⟨xs.length - (i + 1), by omega, rfl, hlt, p'⟩, fun x H' y => ?_⟩
    obtain ⟨T, z, rfl, hT, rfl, y⟩ := y
    exact hs i z σ H T (y xs q) p hT
  · have e : i = xs.length := by omega
    subst e
    exact .inl ⟨⟨xs, q, Nat.le_refl _⟩, hd σ H p⟩
/-! ### _law_folded -/
theorem cut_ints (ns : List Int) (lo hi : Option Int) : ∃ ys : List Int, cutV (ns.map V.int) lo hi = ys.map V.int ∧ ys.length = min (HT.sIx ns.length ns.length hi - HT.sIx ns.length 0 lo) (ns.length - HT.sIx ns.length 0 lo) := by
  refine ⟨(ns.drop (HT.sIx ns.length 0 lo)).take (HT.sIx ns.length ns.length hi - HT.sIx ns.length 0 lo), ?_, ?_⟩
  · unfold cutV
    rw [List.length_map, List.map_take, List.map_drop]
  · rw [List.length_take, List.length_drop]
def spFolded (K : PySem.W.Frag) : Sp := fun vs H Q _ => ∃ (a : Addr) (ns : List Int) (m : Nat), vs = [.ref a, .int (m : Int)] ∧ SqL K H a (ns.map V.int) ∧ 0 < m ∧ m ≤ 100 ∧ ns.length ≤ 63 ∧
  ∀ (p : Addr) (cs : List Int) (H' : Hp), H p = none → cs.length = min m ns.length → H' p = some (.lst (cs.map V.int)) → Same H H' → Q (.ref p) H'
abbrev sLfolded : Stmt := top 15
theorem scLfolded : FnScope ["_law_script", "_law_many", "_law_cells", "_law_k", "_law_cell"] ["_law_script", "_law_many"] (defScope sLfolded) := ⟨rfl, rfl, rfl, by decide +kernel, rfl, by decide +kernel, by decide +kernel⟩
theorem sIx_pos (n d : Nat) (m : Nat) : HT.sIx n d (some (m : Int)) = min m n := HT.sIx_nat n d m
theorem ok_folded {f : Addr} {fd : FuncData} (F : Fun K "_law_folded" "_law_folded" sLfolded f fd) (T : Txt mg tM tL) : FnOk P w K mg base CX0 1 f fd ["_law_script", "_law_many"] (spFolded K) := by
  refine F.ok scLfolded (fun vs H Q E h => ?_) (fun cdv A outer s H vs Q E hr h => ?_)
  · obtain ⟨a, ns, m, rfl, _⟩ := h
    rfl
  · obtain ⟨a, ns, m, rfl, hS, h0, h1, hn, q⟩ := h
    refine ⟨_, (pss_cons (ps_set (i := 2) scLfolded.nd rfl (Or.inl rfl) (pe_callTy call_list_of (by rfl) T.zlist (by decide +kernel) (pa_cons (pe_slice sl_list (pv 0) po_none (po_some (pv 1))) pa_nil)))
    (pss_cons (ps_for PassesOwn.never rfl (pi_enum (by rfl) T.zenumerate (pa_cons (pe_slice sl_list (pv 0) (po_some (pv 1)) (po_some pe_int)) pa_nil)) (pg_tup rfl (pgs_cons (pg_name (i := 3) scLfolded.nd rfl (Or.inl rfl)) (pgs_cons (pg_name (i := 4) scLfolded.nd rfl (Or.inl rfl)) pgs_nil)))
    (pss_one (ps_asg (pe_op op_add (pe_ix ix_list (pv 2) (pe_op op_mod (pv 3) (pv 1)) (fun _ _ => rfl)) (pe_op op_mul (pv 4) (pe_op op_add (pv 3) pe_int))) (pg_sub (pv 2) (pe_op op_mod (pv 3) (pv 1)) set_list))))
    (pss_one (ps_ret (pv 2))))), ?_⟩
    obtain ⟨c0, e0, l0⟩ := cut_ints ns none (some (m : Int))
    obtain ⟨ys, ey, ly⟩ := cut_ints ns (some (m : Int)) (some 63)
    rw [sIx_pos, HT.sIx_none] at l0
    rw [sIx_pos, show HT.sIx ns.length ns.length (some 63) = min 63 ns.length from HT.sIx_nat ns.length ns.length 63] at ly
    -- _law_cells = list(_law_script[:_law_many])
    refine ⟨_, rfl, _, rfl, _, rfl, a, _, rfl, hS, fun p hp => ⟨p, _, rfl, .inl (SqL.of upd_same), fun l hl => ?_⟩⟩
    have npl : p ≠ l := fun e => by
      rw [e, upd_same] at hl
      cases hl
    have hl0 : H l = none := by
      rw [upd_ne npl.symm] at hl
      exact hl
    have s1 : Same H (upd (upd H p (.lst (cutV (ns.map V.int) none (some (m : Int))))) l (.lst (cutV (ns.map V.int) none (some (m : Int))))) := fun b o e => by
      rw [upd_ne (ne_of_none e hl0), upd_ne (ne_of_none e hp)]
      exact e
    -- for _law_k, _law_cell in enumerate(_law_script[_law_many:63])
    refine ⟨_, rfl, _, rfl, _, rfl, _, rfl, a, _, rfl, s1.seq hS, fun z hz => ⟨z, _, rfl, SqL.of upd_same, ?_⟩⟩
    have nlz : l ≠ z := fun e => by
      rw [← e, upd_same] at hz
      cases hz
    have hz0 : H z = none := s1.free hz
    refine for_enum (K := K) (a := z) (xs := ys.map V.int) (fun i σ H' => ∃ (cs : List Int) (u v : Option V), σ = [some (.ref a), some (.int (m : Int)), some (.ref l), u, v] ∧ H' l = some (.lst (cs.map V.int)) ∧ cs.length = c0.length ∧ H' z = some (.lst (ys.map V.int)) ∧ Same H H')
      ⟨c0, _, _, rfl, by rw [upd_ne nlz, upd_same, e0], rfl, by rw [upd_same, ey], fun b o e => by rw [upd_ne (ne_of_none e hz0)]; exact s1 b o e⟩ (fun i σ H' _ ⟨_, _, _, _, _, _, h, _⟩ => SqL.of h) ?_ ?_
    · rintro i x σ H' T hi ⟨cs, u, v, rfl, hcs, lcs, hys, s2⟩ hT
      obtain ⟨y, hy, rfl⟩ := map_int hi
      have hil : i < ys.length := (List.getElem?_eq_some_iff.mp hy).1
      have lm : cs.length = m := by omega
      have nTl : l ≠ T := ne_of_none hcs hT
      have nTz : z ≠ T := ne_of_none hys hT
      have hcs' : (upd H' T (.tup [.int (i : Nat), .int y])) l = some (.lst (cs.map V.int)) := by rw [upd_ne nTl]; exact hcs
      refine ⟨T, _, rfl, SqT.of upd_same, rfl, _, _, rfl, _, _, rfl, rfl, ?_⟩
      have im0 : 0 ≤ ((i : Nat) : Int) % (m : Int) := Int.emod_nonneg _ (by omega)
      have im1 : ((i : Nat) : Int) % (m : Int) < (m : Int) := Int.emod_lt_of_pos _ (by omega)
      obtain ⟨c, hc⟩ := at_int (ns := cs) (k := ((i : Nat) : Int) % (m : Int)) im0 (by rw [List.length_map]; omega)
      refine ⟨_, rfl, _, rfl, _, rfl, _, _, rfl, rfl, (show (0 : Int) < (m : Int) by omega), l, _, _, _, rfl, rfl, SqL.of hcs', hc, _, rfl, _, rfl, _, 2, rfl, rfl, y, _, rfl, rfl, .inr ⟨?_, ?_⟩, _, _, rfl, rfl, ?_⟩
      · omega
      · omega
      refine ⟨_, rfl, _, rfl, _, rfl, _, _, rfl, rfl, (show (0 : Int) < (m : Int) by omega), l, _, _, (((i : Nat) : Int) % (m : Int)).toNat, rfl, rfl, hcs', ?_, ?_⟩
      · unfold ixN
        rw [if_pos im0, if_pos (by rw [List.length_map]; omega)]
      refine ⟨cs.set (((i : Nat) : Int) % (m : Int)).toNat (c + y * (((i : Nat) : Int) + 2)), _, _, rfl, ?_, ?_, ?_, ?_⟩
      · rw [upd_same, List.map_set]
      · rw [List.length_set]
        exact lcs
      · rw [upd_ne nlz.symm, upd_ne nTz]
        exact hys
      · intro b o e
        rw [upd_ne (ne_of_none e hl0), upd_ne (ne_of_none (s2 _ _ e) hT)]
        exact s2 _ _ e
    · rintro σ H' ⟨cs, u, v, rfl, hcs, lcs, hys, s2⟩
      refine ⟨_, rfl, ?_⟩
      exact q l cs H' hl0 (by rw [lcs, l0]; omega) hcs s2
end
end HP
namespace HP
open PySem L2
section
variable {P : Program} {w : World} {K : PySem.W.Frag} {mg : Str → Option Value} {base : Heap} {tM tL : Tok}
theorem at3 {x y z r : Int} (h0 : 0 ≤ r) (h1 : r < 3) : ∃ b : Int, atI [V.int x, V.int y, V.int z] r = some (V.int b) ∧ (b = x ∨ b = y ∨ b = z) := by
  have : r = 0 ∨ r = 1 ∨ r = 2 := by omega
  rcases this with rfl | rfl | rfl
  · exact ⟨x, rfl, .inl rfl⟩
  · exact ⟨y, rfl, .inr (.inl rfl)⟩
  · exact ⟨z, rfl, .inr (.inr rfl)⟩
theorem at4 {x y z u r : Int} (h0 : 0 ≤ r) (h1 : r < 4) : ∃ b : Int, atI [V.int x, V.int y, V.int z, V.int u] r = some (V.int b) ∧ (b = x ∨ b = y ∨ b = z ∨ b = u) := by
  have : r = 0 ∨ r = 1 ∨ r = 2 ∨ r = 3 := by omega
  rcases this with rfl | rfl | rfl | rfl
  · exact ⟨x, rfl, .inl rfl⟩
  · exact ⟨y, rfl, .inr (.inl rfl)⟩
  · exact ⟨z, rfl, .inr (.inr (.inl rfl))⟩
  · exact ⟨u, rfl, .inr (.inr (.inr rfl))⟩
theorem TapeAt.ne {H : Hp} {t p : Addr} {c : Int} (h : TapeAt H t c) (hp : H p = none) : p ≠ t := by
  obtain ⟨zs, hz⟩ := h.some
  exact (ne_of_none hz hp).symm
theorem TapeAt.new {H : Hp} {t p : Addr} {c : Int} {o : HO} (h : TapeAt H t c) (hp : H p = none) : TapeAt (upd H p o) t c := h.same (same_new hp)
theorem SameBut.new {t p : Addr} {H H' : Hp} {o : HO} (s : SameBut t H H') (hp : H' p = none) : SameBut t H (upd H' p o) := s.trans (Same.but (same_new hp))
theorem SameBut.free {t p : Addr} {c : Int} {H H' : Hp} (s : SameBut t H H') (ht : TapeAt H' t c) (hp : H' p = none) : H p = none := by
  cases q : H p with
  | none => rfl
  | some o =>
    have n : p ≠ t := ht.ne hp
    rw [s p o q n] at hp
    cases hp
theorem SameBut.pairs {t : Addr} {c : Int} {H H' : Hp} {xs : List V} {L : List (Int × Int)} (s : SameBut t H H') (ht : TapeAt H t c) (h : PairsAt H xs L) : PairsAt H' xs L := h.move fun _ _ e => s.tup ht e
theorem Same.pairs {H H' : Hp} {xs : List V} {L : List (Int × Int)} (s : Same H H') (h : PairsAt H xs L) : PairsAt H' xs L := h.move fun _ _ e => s _ _ e
theorem pow6 : CPow 10 6 := ⟨by decide, by decide, by decide⟩
theorem pow12 : CPow 10 12 := ⟨by decide, by decide, by decide⟩
/-! ### _law_losses -/
def spLosses : Sp := fun vs H Q _ => ∃ (t : Addr) (c : Int), vs = [.ref t] ∧ TapeAt H t c ∧ c ≤ 90000 ∧
  ∀ (p : Addr) (xs : List V) (L : List (Int × Int)) (H' : Hp), H p = none → H' p = some (.lst xs) → PairsAt H' xs L → GoodL L → TapeAt H' t (c + 30) → SameBut t H H' → Q (.ref p) H'
abbrev sLlosses : Stmt := top 16
theorem scLlosses : FnScope ["_law_tape_here", "_law_found", "_law_turn", "_law_many"] ["_law_tape_here"] (defScope sLlosses) := ⟨rfl, rfl, rfl, by decide +kernel, rfl, by decide +kernel, by decide +kernel⟩
abbrev DDraw (P : Program) (w : World) (K : PySem.W.Frag) (mg : Str → Option Value) (base : Heap) : Prop := Df P w K mg base "_law_draw" 1 ["_law_tape_here", "_law_many"] spDraw
theorem ok_losses {f : Addr} {fd : FuncData} (F : Fun K "_law_losses" "_law_losses" sLlosses f fd) (T : Txt mg tM tL) (DLdraw : DDraw P w K mg base) : FnOk P w K mg base CX0 2 f fd ["_law_tape_here"] spLosses := by
  refine F.ok scLlosses (fun vs H Q E h => ?_) (fun cdv A outer s H vs Q E hr h => ?_)
  · obtain ⟨t, c, rfl, _⟩ := h
    rfl
  · obtain ⟨t, c, rfl, hT, hc, q⟩ := h
    refine ⟨_, (pss_cons (ps_set (i := 1) scLlosses.nd rfl (Or.inl rfl) (pe_lst pa_nil))
    (pss_cons (ps_for PassesOwn.never rfl (pi_range1 (by rfl) T.zrange (pa_cons (pe_op op_add pe_int (pe_fn DLdraw (hr.mono (by decide)) (pa_cons (pv 0) (pa_cons pe_int pa_nil)))) pa_nil)) (pg_name (i := 2) scLlosses.nd rfl (Or.inl rfl))
    (pss_cons (ps_set (i := 3) scLlosses.nd rfl (Or.inl rfl) (pe_op op_add pe_int (pe_fn DLdraw (hr.mono (by decide)) (pa_cons (pv 0) (pa_cons (pe_ix ix_list (pe_lst (pa_cons pe_int (pa_cons pe_int (pa_cons (pe_op op_pow pe_int pe_int) pa_nil)))) (pe_fn DLdraw (hr.mono (by decide)) (pa_cons (pv 0) (pa_cons pe_int pa_nil))) (fun _ _ => rfl)) pa_nil)))))
    (pss_one (ps_expr (pe_bm PySem.F.plainAttrs_list PySem.F.slot_list_append PySem.F.type_list_append mt_append (pv 1) (pa_cons (pe_tup (pa_cons (pv 3) (pa_cons (pe_fn DLdraw (hr.mono (by decide)) (pa_cons (pv 0) (pa_cons (pe_ix ix_list (pe_lst (pa_cons pe_int (pa_cons pe_int (pa_cons pe_int (pa_cons (pe_op op_pow pe_int pe_int) pa_nil))))) (pe_fn DLdraw (hr.mono (by decide)) (pa_cons (pv 0) (pa_cons pe_int pa_nil))) (fun _ _ => rfl)) pa_nil))) pa_nil))) pa_nil))))))
    (pss_one (ps_ret (pv 1))))), ?_⟩
    refine ⟨Nat.zero_le _, fun l hl => ?_⟩
    have nlt : l ≠ t := hT.ne hl
    refine ⟨_, rfl, t, c, 6, rfl, hT.new hl, by omega, by decide, by decide, fun r0 H1 a0 a1 T1 S1 => ?_⟩
    refine ⟨1, r0, rfl, rfl, 1 + r0, rfl, by omega, by omega, ?_⟩
    have SB1 : SameBut t H H1 := (Same.but (same_new hl)).trans S1
    have hl1 : H1 l = some (.lst []) := S1 _ _ upd_same nlt
    refine for_range (lo := 0) (n := (1 + r0).toNat) (fun i σ H' => ∃ (xs : List V) (L : List (Int × Int)) (u v : Option V), σ = [some (.ref t), some (.ref l), u, v] ∧ H' l = some (.lst xs) ∧ PairsAt H' xs L ∧ L.length = i ∧ (∀ p ∈ L, 1 ≤ p.1 ∧ p.1 ≤ 1000000 ∧ 0 ≤ p.2 ∧ p.2 ≤ 1000000) ∧ TapeAt H' t (c + 1 + 4 * (i : Int)) ∧ SameBut t H H')
      ⟨[], [], _, _, rfl, hl1, .nil, rfl, (fun p hp => by cases hp), T1.mono (by omega), SB1⟩ ?_ ?_
    · rintro i σ H2 hi ⟨xs, L, u, v, rfl, hx, hP, hL, hB, T2, SB2⟩
      -- _law_many
      refine ⟨_, rfl, 10, 6, rfl, rfl, pow6, (by show 3 ≤ sizeLine; decide), fun d hd => ?_⟩
      refine ⟨_, rfl, t, _, 3, rfl, T2.new hd, by omega, by decide, by decide, fun r1 H3 b0 b1 T3 S3 => ?_⟩
      have hd3 : H3 d = some (.lst [.int 3, .int 40, .int ((10 : Int) ^ (6 : Int).toNat)]) := S3 _ _ upd_same (T2.ne hd)
      obtain ⟨m1, hm1, em1⟩ := at3 (x := 3) (y := 40) (z := (10 : Int) ^ (6 : Int).toNat) b0 b1
      have e6 : (10 : Int) ^ (6 : Int).toNat = 1000000 := by decide
      rw [e6] at em1
      refine ⟨d, _, _, _, rfl, rfl, SqL.of hd3, hm1, t, _, m1, rfl, T3, by omega, by omega, by omega, fun r2 H4 c0 c1 T4 S4 => ?_⟩
      refine ⟨1, r2, rfl, rfl, ?_⟩
      have SB4 : SameBut t H2 H4 := ((Same.but (same_new hd)).trans S3).trans S4
      have hx4 : H4 l = some (.lst xs) := SB4 _ _ hx nlt
      -- _law_found.append(..)
      refine ⟨_, rfl, .inl ⟨rfl, _, SqL.of hx4⟩, _, rfl, _, rfl, 10, 6, rfl, rfl, pow6, (by show 4 ≤ sizeLine; decide), fun d2 hd2 => ?_⟩
      refine ⟨_, rfl, t, _, 4, rfl, T4.new hd2, by omega, by decide, by decide, fun r3 H5 e0 e1 T5 S5 => ?_⟩
      have hd5 : H5 d2 = some (.lst [.int 2, .int 9, .int 200, .int ((10 : Int) ^ (6 : Int).toNat)]) := S5 _ _ upd_same (T4.ne hd2)
      obtain ⟨m2, hm2, em2⟩ := at4 (x := 2) (y := 9) (z := 200) (u := (10 : Int) ^ (6 : Int).toNat) e0 e1
      rw [e6] at em2
      refine ⟨d2, _, _, _, rfl, rfl, SqL.of hd5, hm2, t, _, m2, rfl, T5, by omega, by omega, by omega, fun r4 H6 f0 f1 T6 S6 => ?_⟩
      have SB6 : SameBut t H2 H6 := (SB4.trans ((Same.but (same_new hd2)).trans S5)).trans S6
      refine ⟨(by show 2 ≤ sizeLine; decide), fun tp htp => ?_⟩
      have hx6 : H6 l = some (.lst xs) := SB6 _ _ hx nlt
      have nlp : l ≠ tp := ne_of_none hx6 htp
      have hx7 : (upd H6 tp (.tup [.int (1 + r2), .int r4])) l = some (.lst xs) := by rw [upd_ne nlp]; exact hx6
      refine ⟨l, xs, _, rfl, rfl, hx7, Nat.lt_of_le_of_lt (show xs.length ≤ 6 by rw [hP.len]; omega) (by decide), ?_⟩
      have P6 : PairsAt H6 xs L := SB6.pairs T2 hP
      refine ⟨xs ++ [.ref tp], L ++ [(1 + r2, r4)], _, _, rfl, upd_same, ?_, ?_, ?_, ?_, ?_⟩
      · refine PairsAt.snoc (P6.move fun a ys e => ?_) ?_
        · rw [upd_ne (ne_of e hx6 (by intro z; cases z)), upd_ne (ne_of_none e htp)]
          exact e
        · rw [upd_ne nlp.symm, upd_same]
      · rw [List.length_append, hL]
        rfl
      · intro p hp
        rcases List.mem_append.mp hp with h | h
        · exact hB p h
        · rw [List.mem_singleton] at h
          subst h
          exact ⟨by show 1 ≤ 1 + r2; omega, by show 1 + r2 ≤ 1000000; omega, f0, by show r4 ≤ 1000000; omega⟩
      · obtain ⟨a', b', k', g1, g2⟩ := T6
        refine ⟨a', b', k', ?_, g2.1, g2.2.1, g2.2.2.1, g2.2.2.2.1, by have := g2.2.2.2.2; omega⟩
        rw [upd_ne nlt.symm, upd_ne (ne_of_none g1 htp)]
        exact g1
      · intro b o e n
        have nbl : b ≠ l := ne_of_none e hl
        rw [upd_ne nbl, upd_ne (ne_of_none (SB6 _ _ (SB2 _ _ e n) n) htp)]
        exact SB6 _ _ (SB2 _ _ e n) n
    · rintro σ H2 ⟨xs, L, u, v, rfl, hx, hP, hL, hB, T2, SB2⟩
      refine ⟨_, rfl, ?_⟩
      refine q l xs L H2 hl hx hP ⟨fun e => ?_, ?_, hB⟩ (T2.mono (by omega)) SB2
      · rw [e] at hL
        simp at hL
        omega
      · omega
/-! ### _law_metal -/
structure RowAt (t : Addr) (H : Hp) (r : Addr) (full least air : Int) (L : List (Int × Int)) : Prop where
  ex : ∃ (ll : Addr) (xs : List V), H r = some (.tup [.int full, .int least, .ref ll, .int air]) ∧ H ll = some (.lst xs) ∧ ll ≠ t ∧ PairsAt H xs L
  good : GoodL L
  n1 : 0 ≤ least
  n2 : least ≤ full
  n3 : full ≤ 1000000
  n4 : 0 ≤ air
  n5 : air ≤ full
theorem RowAt.but {t r : Addr} {c : Int} {H H' : Hp} {full least air : Int} {L : List (Int × Int)} (R : RowAt t H r full least air L) (s : SameBut t H H') (ht : TapeAt H t c) : RowAt t H' r full least air L := by
  obtain ⟨⟨ll, xs, h1, h2, h3, h4⟩, g, n1, n2, n3, n4, n5⟩ := R
  exact ⟨⟨ll, xs, s.tup ht h1, s _ _ h2 h3, h3, s.pairs ht h4⟩, g, n1, n2, n3, n4, n5⟩
def spMetal : Sp := fun vs H Q _ => ∃ (t : Addr) (c : Int), vs = [.ref t] ∧ TapeAt H t c ∧ c ≤ 80000 ∧
  ∀ (r : Addr) (full least air : Int) (L : List (Int × Int)) (H' : Hp), RowAt t H' r full least air L → TapeAt H' t (c + 40) → SameBut t H H' → Q (.ref r) H'
abbrev sLmetal : Stmt := top 17
theorem scLmetal : FnScope ["_law_tape_here", "_law_full", "_law_least", "_law_low"] ["_law_tape_here"] (defScope sLmetal) := ⟨rfl, rfl, rfl, by decide +kernel, rfl, by decide +kernel, by decide +kernel⟩
theorem ok_metal {f : Addr} {fd : FuncData} (F : Fun K "_law_metal" "_law_metal" sLmetal f fd) (T : Txt mg tM tL) (DLdraw : DDraw P w K mg base) (DLlosses : Df P w K mg base "_law_losses" 2 ["_law_tape_here"] spLosses) : FnOk P w K mg base CX0 3 f fd ["_law_tape_here"] spMetal := by
  refine F.ok scLmetal (fun vs H Q E h => ?_) (fun cdv A outer s H vs Q E hr h => ?_)
  · obtain ⟨t, c, rfl, _⟩ := h
    rfl
  · obtain ⟨t, c, rfl, hT, hc, q⟩ := h
    refine ⟨_, (pss_cons (ps_set (i := 1) scLmetal.nd rfl (Or.inl rfl) (pe_fn DLdraw (hr.mono (by decide)) (pa_cons (pv 0) (pa_cons (pe_ix ix_list (pe_lst (pa_cons pe_int (pa_cons pe_int (pa_cons (pe_op op_add (pe_op op_pow pe_int pe_int) pe_int) pa_nil)))) (pe_fn DLdraw (hr.mono (by decide)) (pa_cons (pv 0) (pa_cons pe_int pa_nil))) (fun _ _ => rfl)) pa_nil))))
    (pss_cons (ps_par (i := 2) (j := 3) (by rfl) scLmetal.nd rfl rfl (by decide) rfl rfl (pa_cons (pe_fn DLdraw (hr.mono (by decide)) (pa_cons (pv 0) (pa_cons (pe_op op_add (pv 1) pe_int) pa_nil))) (pa_cons (pe_fn DLdraw (hr.mono (by decide)) (pa_cons (pv 0) (pa_cons pe_int pa_nil))) pa_nil)) (by rfl))
    (pss_one (ps_ret (pe_tup (pa_cons (pv 1) (pa_cons (pv 2) (pa_cons (pe_fn DLlosses (hr.mono (by decide)) (pa_cons (pv 0) pa_nil)) (pa_cons (pe_ix ix_list (pe_lst (pa_cons pe_int (pa_cons (pe_fn DLdraw (hr.mono (by decide)) (pa_cons (pv 0) (pa_cons (pe_op op_add (pv 1) pe_int) pa_nil))) (pa_cons (pe_callB (call_min2 rfl) (by rfl) T.zmin (by decide +kernel) (pa_cons (pv 1) (pa_cons (pv 2) pa_nil))) pa_nil)))) (pv 3) (fun _ _ => rfl)) pa_nil))))))))), ?_⟩
    have e6 : (10 : Int) ^ (6 : Int).toNat + 1 = 1000001 := by decide
    refine ⟨_, rfl, 10, 6, rfl, rfl, pow6, _, 1, rfl, rfl, (by show 3 ≤ sizeLine; decide), fun d hd => ?_⟩
    refine ⟨_, rfl, t, _, 3, rfl, hT.new hd, by omega, by decide, by decide, fun r1 H1 b0 b1 T1 S1 => ?_⟩
    have hd1 : H1 d = some (.lst [.int 10, .int 1000, .int ((10 : Int) ^ (6 : Int).toNat + 1)]) := S1 _ _ upd_same (hT.ne hd)
    obtain ⟨m1, hm1, em1⟩ := at3 (x := 10) (y := 1000) (z := (10 : Int) ^ (6 : Int).toNat + 1) b0 b1
    rw [e6] at em1
    refine ⟨d, _, _, _, rfl, rfl, SqL.of hd1, hm1, t, _, m1, rfl, T1, by omega, by omega, by omega, fun full H2 c0 c1 T2 S2 => ?_⟩
    refine ⟨_, rfl, _, rfl, full, 1, rfl, rfl, t, _, full + 1, rfl, T2, by omega, by omega, by omega, fun least H3 d0 d1 T3 S3 => ?_⟩
    refine ⟨_, rfl, t, _, 3, rfl, T3, by omega, by decide, by decide, fun low H4 e0 e1 T4 S4 => ?_⟩
    refine ⟨_, _, rfl, ?_⟩
    -- return (..)
    refine ⟨_, rfl, _, rfl, _, rfl, t, _, rfl, T4, by omega, fun ll xs L H5 hll hx5 P5 G5 T5 S5 => ?_⟩
    refine ⟨_, rfl, _, rfl, full, 1, rfl, rfl, t, _, full + 1, rfl, T5, by omega, by omega, by omega, fun r5 H6 f0 f1 T6 S6 => ?_⟩
    refine ⟨_, rfl, _, rfl, full, least, rfl, (by show 3 ≤ sizeLine; decide), fun d2 hd2 => ?_⟩
    obtain ⟨air, hair, eair⟩ := at3 (x := 0) (y := r5) (z := if least < full then least else full) e0 e1
    refine ⟨_, rfl, d2, _, _, _, rfl, rfl, SqL.of upd_same, hair, (by show 4 ≤ sizeLine; decide), fun r hr' => ?_⟩
    have nll : ll ≠ t := T4.ne hll
    have hx6 : H6 ll = some (.lst xs) := S6 _ _ hx5 nll
    have hx7 : (upd H6 d2 (.lst [.int 0, .int r5, .int (if least < full then least else full)])) ll = some (.lst xs) := by rw [upd_ne (ne_of_none hx6 hd2)]; exact hx6
    have P7 := (S6.pairs T5 P5)
    refine q r full least air L _ ⟨⟨ll, xs, upd_same, ?_, nll, ?_⟩, G5, d0, by omega, ?_, ?_, ?_⟩ ?_ ?_
    · rw [upd_ne (ne_of_none hx7 hr')]
      exact hx7
    · exact Same.pairs (same_new hr') (Same.pairs (same_new hd2) P7)
    · rcases em1 with h | h | h <;> omega
    · rcases eair with h | h | h
      · omega
      · omega
      · rw [h]; split <;> omega
    · rcases eair with h | h | h
      · omega
      · omega
      · rw [h]; split <;> omega
    · exact ((T6.new hd2).new hr').mono (by omega)
    · refine SameBut.new (SameBut.new ?_ hd2) hr'
      exact ((((((Same.but (same_new hd)).trans S1).trans S2).trans S3).trans S4).trans S5).trans S6
end
end HP
namespace HP
open PySem L2
section
variable {P : Program} {w : World} {K : PySem.W.Frag} {mg : Str → Option Value} {base : Heap} {tM tL : Tok}
theorem FunD_ok0 {x qual : Str} {st : Stmt} {dvs : List V} {f : Addr} {fd : FuncData} {N ps : List Str} {k : Nat} {sp : Sp} (F : FunD K x qual (defArgs st) (defBody st) (defScope st) dvs [] f fd) (S : FnScope N ps (defScope st)) (len : ∀ vs H Q E, sp vs H Q E → vs.length = ps.length)
    (hbody : ∀ (cdv : Value) (A : Around) (outer : List Env) (s : Shared) (H : Hp) (vs : List V) (Q : VK) (E : XK), Room k (A.deeper (PyProof.Rows.envOfC qual (defScope st) s.heap.objs.size f cdv)) → sp vs H Q E →
      ∃ t, PSs (cxOf CX0 P w K mg base N qual (defScope st) f cdv A outer s H E).nox (defBody st) t ∧ t { nx := fun _ H' => Q .non H', rt := Q } (start N vs) H) : FnOk P w K mg base CX0 (k + 1) f fd ps sp :=
  F.ok S len fun cdv A outer s H vs Q E hr h => let ⟨t, a, b⟩ := hbody cdv A outer s H vs Q E hr h; ⟨t, a.nox, b⟩
/-! ### is_number, of a number -/
def spIsNumber : Sp := fun vs H Q _ => ∃ (i lo hi : Int), vs = [.int i, .int lo, .int hi] ∧ lo ≤ i ∧ i ≤ hi ∧ Q (.bl true) H
abbrev sis_number : Stmt := top 1
theorem scis_number : FnScope ["thing", "least", "most"] ["thing", "least", "most"] (defScope sis_number) := ⟨rfl, rfl, rfl, by decide +kernel, rfl, by decide +kernel, by decide +kernel⟩
theorem kit1 : kitB "int" "int" = some true := by decide +kernel
theorem kit2 : kitB "int" "bool" = some false := by decide +kernel
theorem kit3 : kitB "tuple" "tuple" = some true := by decide +kernel
theorem kit4 : kitB "list" "list" = some true := by decide +kernel
theorem ok_is_number {f : Addr} {fd : FuncData} {dvs : List V} (F : FunD K "is_number" "is_number" (defArgs sis_number) (defBody sis_number) (defScope sis_number) dvs [] f fd) (T : Txt mg tM tL) : FnOk P w K mg base CX0 1 f fd ["thing", "least", "most"] spIsNumber := by
  refine FunD_ok0 F scis_number (fun vs H Q E h => ?_) (fun cdv A outer s H vs Q E hr h => ?_)
  · obtain ⟨i, lo, hi, rfl, _⟩ := h
    rfl
  · obtain ⟨i, lo, hi, rfl, h1, h2, q⟩ := h
    refine ⟨_, (pss_cons (ps_if (PW.pt (pw_or (pt_not (pt_val (pe_callB call_isi (by rfl) T.zisinstance (by decide +kernel) (pa_cons (pv 0) (pa_cons (pe_bltn (v := .ty "int") (u := .type "int") (by rfl) T.zint (by decide +kernel) rfl) pa_nil))))) (pw_or1 (pt_val (pe_callB call_isi (by rfl) T.zisinstance (by decide +kernel) (pa_cons (pv 0) (pa_cons (pe_bltn (v := .ty "bool") (u := .type "bool") (by rfl) T.zbool (by decide +kernel) rfl) pa_nil))))))) (pss_one (ps_ret pe_bl)) pss_nil)
      (pss_one (ps_ret (pe_and (pe_cmp (pc_le (pv 1) (pv 0)) rfl) (pe_one (pe_or (pe_cmp (pc_isN (pv 2)) rfl) (pe_one (pe_cmp (pc_le (pv 0) (pv 2)) rfl)))))))), ?_⟩
    refine ⟨_, rfl, _, _, _, _, true, rfl, .ty "int", .base (.int i), kit_ty kit1, true, rfl, iteF ?_⟩
    refine ⟨_, rfl, _, _, _, _, false, rfl, .ty "bool", .base (.int i), kit_ty kit2, false, rfl, iteF ?_⟩
    refine ⟨_, rfl, _, rfl, lo, i, rfl, rfl, _, rfl, iteD (fun _ => ?_) (fun c => absurd h1 c)⟩
    refine ⟨_, rfl, _, rfl, iteD (fun c => absurd c (by simp)) (fun _ => ?_)⟩
    refine ⟨_, rfl, _, rfl, i, hi, rfl, rfl, ?_⟩
    show Q (.bl (decide (i ≤ hi))) H
    rw [decide_eq_true h2]
    exact q
abbrev DIsNumber (P : Program) (w : World) (K : PySem.W.Frag) (mg : Str → Option Value) (base : Heap) : Prop := Df P w K mg base "is_number" 1 ["thing", "least", "most"] spIsNumber
/-! ### is_row, of a list -/
def spIsRow : Sp := fun vs H Q _ => ∃ (p : Addr) (xs : List V) (lo hi : Int), vs = [.ref p, .int lo, .int hi] ∧ H p = some (.lst xs) ∧ lo ≤ (xs.length : Int) ∧ (xs.length : Int) ≤ hi ∧ ∀ H', Same H H' → Q (.bl true) H'
abbrev sis_row : Stmt := top 2
theorem scis_row : FnScope ["thing", "least", "most"] ["thing", "least", "most"] (defScope sis_row) := ⟨rfl, rfl, rfl, by decide +kernel, rfl, by decide +kernel, by decide +kernel⟩
theorem ok_is_row {f : Addr} {fd : FuncData} (F : Fun K "is_row" "is_row" sis_row f fd) (T : Txt mg tM tL) : FnOk P w K mg base CX0 1 f fd ["thing", "least", "most"] spIsRow := by
  refine F.ok scis_row (fun vs H Q E h => ?_) (fun cdv A outer s H vs Q E hr h => ?_)
  · obtain ⟨p, xs, lo, hi, rfl, _⟩ := h
    rfl
  · obtain ⟨p, xs, lo, hi, rfl, hp, h1, h2, q⟩ := h
    refine ⟨_, (pss_one (ps_ret (pe_and (pe_callB call_isiT (by rfl) T.zisinstance (by decide +kernel) (pa_cons (pv 0) (pa_cons (pe_tup (pa_cons (pe_bltn (v := .ty "list") (u := .type "list") (by rfl) T.zlist (by decide +kernel) rfl) (pa_cons (pe_bltn (v := .ty "tuple") (u := .type "tuple") (by rfl) T.ztuple (by decide +kernel) rfl) pa_nil))) pa_nil))) (pe_one (pe_chain op_le op_le (pv 1) (pe_callB call_len_seq (by rfl) T.zlen (by decide +kernel) (pa_cons (pv 0) pa_nil)) (pv 2)))))), ?_⟩
    refine ⟨_, rfl, (by show 2 ≤ sizeLine; decide), fun d hd => ?_⟩
    have hp1 : (upd H d (.tup [.ty "list", .ty "tuple"])) p = some (.lst xs) := by rw [upd_ne (ne_of_none hp hd)]; exact hp
    refine ⟨_, d, _, _, _, true, rfl, upd_same, .cons (.ty "list") (.cons (.ty "tuple") .nil), .base (.lst hp1), kitAny_cons (b := true) (kit_ty kit4) (fun z => by cases z) (fun _ => rfl), true, rfl, iteT ?_⟩
    refine ⟨_, rfl, _, rfl, p, _, rfl, .inl (SqL.of hp1), lo, _, rfl, rfl, _, rfl, iteD (fun _ => ?_) (fun c => absurd h1 c)⟩
    refine ⟨_, rfl, _, hi, rfl, rfl, ?_⟩
    show Q (.bl (decide ((xs.length : Int) ≤ hi))) _
    rw [decide_eq_true h2]
    exact q _ (same_new hd)
/-! ### is_loss, of a pair -/
def spIsLoss : Sp := fun vs H Q _ => ∃ (p : Addr) (m l : Int), vs = [.ref p] ∧ H p = some (.tup [.int m, .int l]) ∧ 1 ≤ m ∧ m ≤ 1000000 ∧ 0 ≤ l ∧ l ≤ 1000000 ∧ Q (.bl true) H
abbrev sis_loss : Stmt := top 8
theorem scis_loss : FnScope ["thing"] ["thing"] (defScope sis_loss) := ⟨rfl, rfl, rfl, by decide +kernel, rfl, by decide +kernel, by decide +kernel⟩
theorem ok_is_loss {f : Addr} {fd : FuncData} (F : Fun K "is_loss" "is_loss" sis_loss f fd) (T : Txt mg tM tL) (Dis_number : DIsNumber P w K mg base) : FnOk P w K mg base CX0 2 f fd ["thing"] spIsLoss := by
  refine F.ok scis_loss (fun vs H Q E h => ?_) (fun cdv A outer s H vs Q E hr h => ?_)
  · obtain ⟨p, m, l, rfl, _⟩ := h
    rfl
  · obtain ⟨p, m, l, rfl, hp, h1, h2, h3, h4, q⟩ := h
    refine ⟨_, (pss_cons (ps_if (PW.pt (pw_or (pt_not (pt_val (pe_callB call_isi (by rfl) T.zisinstance (by decide +kernel) (pa_cons (pv 0) (pa_cons (pe_bltn (v := .ty "tuple") (u := .type "tuple") (by rfl) T.ztuple (by decide +kernel) rfl) pa_nil))))) (pw_or1 (pt_cmp (pc_neI (pe_callB call_len_seq (by rfl) T.zlen (by decide +kernel) (pa_cons (pv 0) pa_nil)) pe_int))))) (pss_one (ps_ret pe_bl)) pss_nil)
    (pss_one (ps_ret (pe_and (pe_fn Dis_number (hr.mono (by decide)) (pa_cons (pe_ix ix_tup (pv 0) pe_int (fun _ _ => rfl)) (pa_cons pe_int (pa_cons (pe_glob (v := .int 1000000) rfl T.gMOST ⟨_, rfl⟩) pa_nil)))) (pe_one (pe_fn Dis_number (hr.mono (by decide)) (pa_cons (pe_ix ix_tup (pv 0) pe_int (fun _ _ => rfl)) (pa_cons pe_int (pa_cons (pe_glob (v := .int 1000000) rfl T.gMOST ⟨_, rfl⟩) pa_nil))))))))), ?_⟩
    refine ⟨_, rfl, _, _, _, _, true, rfl, .ty "tuple", .base (.tup hp), kit_ty kit3, true, rfl, iteF ?_⟩
    refine ⟨_, rfl, p, _, rfl, .inr (SqT.of hp), _, _, rfl, rfl, false, rfl, iteF ?_⟩
    refine ⟨_, rfl, p, _, 0, .int m, rfl, rfl, SqT.of hp, rfl, m, 1, 1000000, rfl, h1, h2, true, rfl, iteT ?_⟩
    exact ⟨_, rfl, p, _, 1, .int l, rfl, rfl, SqT.of hp, rfl, l, 0, 1000000, rfl, h3, h4, q⟩
/-! ### are_losses, of a list of pairs -/
def spAreLosses : Sp := fun vs H Q _ => ∃ (p : Addr) (xs : List V) (L : List (Int × Int)), vs = [.ref p] ∧ H p = some (.lst xs) ∧ PairsAt H xs L ∧ GoodL L ∧ ∀ H', Same H H' → Q (.bl true) H'
abbrev sare_losses : Stmt := top 9
theorem scare_losses : FnScope ["thing", "pair"] ["thing"] (defScope sare_losses) := ⟨rfl, rfl, rfl, by decide +kernel, rfl, by decide +kernel, by decide +kernel⟩
theorem rep_snoc {α : Type} (i : Nat) (x : α) : List.replicate i x ++ [x] = List.replicate (i + 1) x := by
  rw [List.replicate_succ']
theorem all_rep (n : Nat) : (List.replicate n true).all id = true := by
  induction n with
  | zero => rfl
  | succ k ih => rw [List.replicate_succ, List.all_cons, ih]; rfl
theorem good_at {L : List (Int × Int)} (G : GoodL L) {i : Nat} {m l : Int} (h : L[i]? = some (m, l)) : 1 ≤ m ∧ m ≤ 1000000 ∧ 0 ≤ l ∧ l ≤ 1000000 := G.2.2 _ (List.mem_of_getElem? h)
theorem ok_are_losses {f : Addr} {fd : FuncData} (F : Fun K "are_losses" "are_losses" sare_losses f fd) (T : Txt mg tM tL) (Dis_row : Df P w K mg base "is_row" 1 ["thing", "least", "most"] spIsRow) (Dis_loss : Df P w K mg base "is_loss" 2 ["thing"] spIsLoss) :
    FnOk P w K mg base CX0 3 f fd ["thing"] spAreLosses := by
  refine F.ok scare_losses (fun vs H Q E h => ?_) (fun cdv A outer s H vs Q E hr h => ?_)
  · obtain ⟨p, xs, L, rfl, _⟩ := h
    rfl
  · obtain ⟨p, xs, L, rfl, hp, hP, G, q⟩ := h
    refine ⟨_, (pss_one (ps_ret (pe_and (pe_fn Dis_row (hr.mono (by decide)) (pa_cons (pv 0) (pa_cons pe_int (pa_cons (pe_glob (v := .int 6) rfl T.gMOST_LOSSES ⟨_, rfl⟩) pa_nil)))) (pe_one (pe_callB (cr_all rfl) (by rfl) T.zall (by decide +kernel) (pa_cons (pe_lc (own := [("pair", 1)]) (g := gName 1) (tt := tYes) (by rfl) scare_losses.nd (pi_list (pv 0)) (blkOk_by (own := [("pair", 1)]) (N := ["thing", "pair"]) (sc := defScope sare_losses) (by decide +kernel)) (fun _ _ _ _ _ => (pg_name (i := 1) scare_losses.nd rfl (Or.inl rfl))) (fun _ _ _ _ _ => pts_nil) (fun _ _ _ _ _ => (pe_fn Dis_loss (hr.mono (by decide)) (pa_cons (pv 1) pa_nil)))) pa_nil)))))), ?_⟩
    have hl := hP.len
    have g2 := G.2.1
    have g1 : 0 < L.length := List.length_pos_iff.mpr G.1
    refine ⟨_, rfl, p, xs, 1, 6, rfl, hp, by omega, by omega, fun H1 s1 => ⟨true, rfl, iteT ?_⟩⟩
    refine ⟨_, rfl, p, rfl, ⟨_, SqL.of (s1 _ _ hp)⟩, fun D hD => ?_⟩
    refine lc_list (K := K) (a := p) (xs := xs) (fun i H' => H' D = some (.lst ((List.replicate i true).map V.bl)) ∧ Same H H')
      ⟨upd_same, fun b o e => (same_new hD) b o (s1 b o e)⟩ (fun i H' _ ⟨_, h⟩ => SqL.of (h _ _ hp)) ?_ ?_
    · rintro i x H' hi ⟨hd, s2⟩
      obtain ⟨t, m, l, rfl, ht, hL⟩ := hP.get hi
      have hil : i < xs.length := (List.getElem?_eq_some_iff.mp hi).1
      obtain ⟨k1, k2, k3, k4⟩ := good_at G hL
      refine ⟨rfl, ?_⟩
      refine ⟨_, rfl, t, m, l, rfl, s2 _ _ ht, k1, k2, k3, k4, _, hd, ?_, ?_, ?_⟩
      · rw [List.length_map, List.length_replicate]
        exact Nat.lt_of_lt_of_le (show i < 6 by omega) (by decide)
      · rw [upd_same, ← rep_snoc, List.map_append]
        rfl
      · intro b o e
        rw [upd_ne (ne_of_none e (s1.free hD))]
        exact s2 _ _ e
    · rintro H' ⟨hd, s2⟩
      refine ⟨D, List.replicate xs.length true, rfl, SqL.of hd, ?_⟩
      rw [all_rep]
      exact q _ s2
/-! ### Metal.__init__ -/
def mf (full least : Int) (tt : Addr) (air : Int) : List (Str × V) := [("full", .int full), ("least", .int least), ("losses", .ref tt), ("air", .int air)]
theorem ne1 : ¬ (("full" : Str) = "least") := by decide +kernel
theorem ne2 : ¬ (("full" : Str) = "losses") := by decide +kernel
theorem ne3 : ¬ (("full" : Str) = "air") := by decide +kernel
theorem ne4 : ¬ (("least" : Str) = "losses") := by decide +kernel
theorem ne5 : ¬ (("least" : Str) = "air") := by decide +kernel
theorem ne6 : ¬ (("losses" : Str) = "air") := by decide +kernel
theorem mf_eq (full least : Int) (tt : Addr) (air : Int) : putF "air" (.int air) (putF "losses" (.ref tt) (putF "least" (.int least) (putF "full" (.int full) []))) = mf full least tt air := by
  simp only [putF, if_neg ne1, if_neg ne2, if_neg ne3, if_neg ne4, if_neg ne5, if_neg ne6]
  rfl
theorem mf_full (full least : Int) (tt : Addr) (air : Int) : (mf full least tt air).lookup ("full" : Str) = some (.int full) := by rw [← mf_eq]; simp only [lookup_putF, if_neg ne1, if_neg ne2, if_neg ne3, if_pos]
theorem mf_losses (full least : Int) (tt : Addr) (air : Int) : (mf full least tt air).lookup ("losses" : Str) = some (.ref tt) := by rw [← mf_eq]; simp only [lookup_putF, if_neg ne6, if_pos]
theorem mf_air (full least : Int) (tt : Addr) (air : Int) : (mf full least tt air).lookup ("air" : Str) = some (.int air) := by rw [← mf_eq]; simp only [lookup_putF, if_pos]
theorem mf_heat (full least : Int) (tt : Addr) (air : Int) : (mf full least tt air).lookup ("heat" : Str) = none := by
  rw [← mf_eq]
  simp only [lookup_putF, if_neg (show ¬ (("heat" : Str) = "air") by decide +kernel), if_neg (show ¬ (("heat" : Str) = "losses") by decide +kernel), if_neg (show ¬ (("heat" : Str) = "least") by decide +kernel), if_neg (show ¬ (("heat" : Str) = "full") by decide +kernel)]
  rfl
structure MetalTxt (K : PySem.W.Frag) (C : Addr) : Prop where
  cl : Cls K C
  n1 : NoAttr K C "full"
  n2 : NoAttr K C "least"
  n3 : NoAttr K C "losses"
  n4 : NoAttr K C "air"
def spInit (C : Addr) : Sp := fun vs H Q _ => ∃ (x dx ll : Addr) (xs : List V) (L : List (Int × Int)) (full least air : Int), vs = [.ref x, .int full, .int least, .ref ll, .int air] ∧ H x = some (.ins C dx []) ∧ H ll = some (.lst xs) ∧ PairsAt H xs L ∧ GoodL L ∧
  0 ≤ least ∧ least ≤ full ∧ full ≤ 1000000 ∧ 0 ≤ air ∧ air ≤ full ∧
  ∀ (tt : Addr) (ys : List V) (H' : Hp), H' x = some (.ins C dx (mf full least tt air)) → H' tt = some (.tup ys) → PairsAt H' ys L → (∀ b o, H b = some o → b ≠ x → H' b = some o) → Q .non H'
abbrev sMetal_init : Stmt := inClass (top 11) 0
theorem scMetal_init : FnScope ["self", "full", "least", "losses", "air", "many", "loss"] ["self", "full", "least", "losses", "air"] (defScope sMetal_init) := ⟨rfl, rfl, rfl, by decide +kernel, rfl, by decide +kernel, by decide +kernel⟩
theorem ok_init {f C : Addr} {fd : FuncData} {dvs : List V} (F : FunD K "__init__" "Metal.__init__" (defArgs sMetal_init) (defBody sMetal_init) (defScope sMetal_init) dvs [] f fd) (T : Txt mg tM tL) (MT : MetalTxt K C) (Dis_number : DIsNumber P w K mg base)
    (Dare_losses : Df P w K mg base "are_losses" 3 ["thing"] spAreLosses) : FnOk P w K mg base CX0 4 f fd ["self", "full", "least", "losses", "air"] (spInit C) := by
  refine FunD_ok0 F scMetal_init (fun vs H Q E h => ?_) (fun cdv A outer s H vs Q E hr h => ?_)
  · obtain ⟨x, dx, ll, xs, L, full, least, air, rfl, _⟩ := h
    rfl
  · obtain ⟨x, dx, ll, xs, L, full, least, air, rfl, hx, hll, hP, G, n1, n2, n3, n4, n5, q⟩ := h
    refine ⟨_, (pss_cons (ps_if (pt_not (pt_val (pe_fn Dis_number (hr.mono (by decide)) (pa_cons (pv 1) (pa_cons pe_int (pa_cons (pe_glob (v := .int 1000000) rfl T.gMOST ⟨_, rfl⟩) pa_nil)))))) (pss_one ps_never) pss_nil)
    (pss_cons (ps_if (pt_not (pt_val (pe_fn Dis_number (hr.mono (by decide)) (pa_cons (pv 2) (pa_cons pe_int (pa_cons (pv 1) pa_nil)))))) (pss_one ps_never) pss_nil)
    (pss_cons (ps_if (pt_not (pt_val (pe_fn Dis_number (hr.mono (by decide)) (pa_cons (pv 4) (pa_cons pe_int (pa_cons (pv 1) pa_nil)))))) (pss_one ps_never) pss_nil)
    (pss_cons (ps_if (pt_not (pt_val (pe_fn Dare_losses (hr.mono (by decide)) (pa_cons (pv 3) pa_nil)))) (pss_one ps_never) pss_nil)
    (pss_cons (ps_fld (pv 0) (pv 1) rfl)
    (pss_cons (ps_fld (pv 0) (pv 2) rfl)
    (pss_cons (ps_fld (pv 0) (pe_callTy call_tuple_of (by rfl) T.ztuple (by decide +kernel) (pa_cons (pe_lc (own := [("many", 5), ("loss", 6)]) (g := gTup K 2 (gCons (gName 5) (gCons (gName 6) gNil))) (tt := tYes) (by rfl) scMetal_init.nd (pi_list (pv 3)) (blkOk_by (own := [("many", 5), ("loss", 6)]) (N := ["self", "full", "least", "losses", "air", "many", "loss"]) (sc := defScope sMetal_init) (by decide +kernel)) (fun _ _ _ _ _ => (pg_tup rfl (pgs_cons (pg_name (i := 5) scMetal_init.nd rfl (Or.inl rfl)) (pgs_cons (pg_name (i := 6) scMetal_init.nd rfl (Or.inl rfl)) pgs_nil)))) (fun _ _ _ _ _ => pts_nil) (fun _ _ _ _ _ => (pe_tup (pa_cons (pv 5) (pa_cons (pv 6) pa_nil))))) pa_nil)) rfl)
    (pss_one (ps_fld (pv 0) (pv 4) rfl))))))))), ?_⟩
    refine ⟨_, rfl, full, 0, 1000000, rfl, by omega, n3, true, rfl, iteF ?_⟩
    refine ⟨_, rfl, _, rfl, least, 0, full, rfl, n1, n2, true, rfl, iteF ?_⟩
    refine ⟨_, rfl, _, rfl, air, 0, full, rfl, n4, n5, true, rfl, iteF ?_⟩
    refine ⟨_, rfl, ll, xs, L, rfl, hll, hP, G, fun H1 s1 => ⟨true, rfl, iteF ?_⟩⟩
    have hx1 : H1 x = some (.ins C dx []) := s1 _ _ hx
    refine ⟨_, rfl, _, rfl, x, C, dx, _, rfl, hx1, MT.cl, MT.n1, (by show 0 < 1000; decide), ?_⟩
    refine ⟨_, rfl, _, rfl, x, C, dx, _, rfl, upd_same, MT.cl, MT.n2, (by show 1 < 1000; decide), ?_⟩
    rw [upd_upd]
    have nxl : ll ≠ x := ne_of hll hx (by intro z; cases z)
    generalize hH2 : upd H1 x (.ins C dx (putF "least" (.int least) (putF "full" (.int full) []))) = H2
    have hx2 : H2 x = some (.ins C dx (putF "least" (.int least) (putF "full" (.int full) []))) := by rw [← hH2]; exact upd_same
    have s2 : ∀ b o, H b = some o → b ≠ x → H2 b = some o := fun b o e n => by rw [← hH2, upd_ne n]; exact s1 _ _ e
    have P2 : PairsAt H2 xs L := hP.move fun a ys e => s2 _ _ e (ne_of e hx (by intro z; cases z))
    have hll2 : H2 ll = some (.lst xs) := s2 _ _ hll nxl
    refine ⟨_, rfl, ll, rfl, ⟨_, SqL.of hll2⟩, fun D hD => ?_⟩
    refine lc_list (K := K) (a := ll) (xs := xs) (fun i H' => ∃ ys, H' D = some (.lst ys) ∧ PairsAt H' ys (L.take i) ∧ Same H2 H')
      ⟨[], upd_same, (by rw [List.take_zero]; exact .nil), same_new hD⟩ (fun i H' _ ⟨_, _, _, h⟩ => SqL.of (h _ _ hll2)) ?_ ?_
    · rintro i y H' hi ⟨ys, hys, hPy, s3⟩
      obtain ⟨t, m, l, rfl, ht, hL⟩ := P2.get hi
      refine ⟨t, _, rfl, SqT.of (s3 _ _ ht), rfl, _, _, rfl, _, _, rfl, rfl, ?_⟩
      refine ⟨rfl, ?_⟩
      refine ⟨_, rfl, _, rfl, (by show 2 ≤ sizeLine; decide), fun p hp => ?_⟩
      have nDp : D ≠ p := ne_of_none hys hp
      refine ⟨ys, (by rw [upd_ne nDp]; exact hys), ?_, ys ++ [.ref p], upd_same, ?_, ?_⟩
      · have e1 := hPy.len
        rw [List.length_take] at e1
        exact Nat.lt_of_le_of_lt (show ys.length ≤ 6 by have := G.2.1; omega) (by decide)
      · have et : L.take (i + 1) = L.take i ++ [(m, l)] := by
          rw [List.take_add_one, hL]
          rfl
        rw [et]
        refine PairsAt.snoc (hPy.move fun a zs e => ?_) ?_
        · rw [upd_ne (ne_of e hys (by intro z; cases z)), upd_ne (ne_of_none e hp)]
          exact e
        · rw [upd_ne nDp.symm, upd_same]
      · intro b o e
        rw [upd_ne (ne_of_none e hD), upd_ne (ne_of_none (s3 _ _ e) hp)]
        exact s3 _ _ e
    · rintro H' ⟨ys, hys, hPy, s3⟩
      rw [hP.len, List.take_length] at hPy
      refine ⟨D, ys, rfl, .inl ⟨SqL.of hys, fun tt htt => ?_⟩⟩
      have hx3 : H' x = some (.ins C dx (putF "least" (.int least) (putF "full" (.int full) []))) := s3 _ _ hx2
      have nxt : x ≠ tt := ne_of_none hx3 htt
      refine ⟨_, rfl, x, C, dx, _, rfl, (by rw [upd_ne nxt]; exact hx3), MT.cl, MT.n3, (by simp only [putF, if_neg ne1]; show 2 < 1000; decide), ?_⟩
      refine ⟨_, rfl, _, rfl, x, C, dx, _, rfl, upd_same, MT.cl, MT.n4, (by simp only [putF, if_neg ne1, if_neg ne2, if_neg ne4]; show 3 < 1000; decide), ?_⟩
      rw [upd_upd, mf_eq]
      refine q tt ys _ upd_same (by rw [upd_ne nxt.symm, upd_same]) ?_ ?_
      · refine hPy.move fun a zs e => ?_
        rw [upd_ne (ne_of e hx3 (by intro z; cases z)), upd_ne (ne_of_none e htt)]
        exact e
      · intro b o e n
        rw [upd_ne n, upd_ne (ne_of_none (s3 _ _ (s2 _ _ e n)) htt)]
        exact s3 _ _ (s2 _ _ e n)
end
end HP
namespace HP
open PySem L2
section
variable {P : Program} {w : World} {K : PySem.W.Frag} {mg : Str → Option Value} {base : Heap} {tM tL : Tok}
theorem PairsAt.unsnoc {H : Hp} : ∀ {L : List (Int × Int)} {ys : List V} {q : Int × Int}, PairsAt H ys (L ++ [q]) → ∃ zs t, ys = zs ++ [.ref t] ∧ PairsAt H zs L ∧ H t = some (.tup [.int q.1, .int q.2])
  | [], ys, q, h => by
    obtain ⟨m, l⟩ := q
    cases h with
    | @cons t _ _ xs _ h1 r =>
      cases r
      exact ⟨[], t, rfl, .nil, h1⟩
  | p :: L, ys, q, h => by
    obtain ⟨m, l⟩ := p
    cases h with
    | @cons t _ _ xs _ h1 r =>
      obtain ⟨zs, u, e, r1, r2⟩ := PairsAt.unsnoc (L := L) r
      exact ⟨.ref t :: zs, u, by rw [e]; rfl, .cons h1 r1, r2⟩
theorem cut_last (zs : List V) (v : V) : cutV (zs ++ [v]) none (some (-1)) = zs := by
  unfold cutV
  rw [HT.sIx_none]
  have e : HT.sIx (zs ++ [v]).length (zs ++ [v]).length (some (-1)) = zs.length := by
    show (if (-1 : Int) < 0 then ((-1 : Int) + ((zs ++ [v]).length : Int)).toNat else min (-1 : Int).toNat (zs ++ [v]).length) = zs.length
    rw [if_pos (by decide), List.length_append, List.length_singleton]
    omega
  rw [e]
  simp
theorem cut_last_ne (zs : List V) (v : V) : ¬ (HT.sIx (zs ++ [v]).length 0 none = 0 ∧ HT.sIx (zs ++ [v]).length (zs ++ [v]).length (some (-1)) = (zs ++ [v]).length) := by
  rintro ⟨_, h⟩
  have e : HT.sIx (zs ++ [v]).length (zs ++ [v]).length (some (-1)) = zs.length := by
    show (if (-1 : Int) < 0 then ((-1 : Int) + ((zs ++ [v]).length : Int)).toNat else min (-1 : Int).toNat (zs ++ [v]).length) = zs.length
    rw [if_pos (by decide), List.length_append, List.length_singleton]
    omega
  rw [e, List.length_append, List.length_singleton] at h
  omega
theorem GoodL.split {L : List (Int × Int)} (G : GoodL L) : ∃ L0 q, L = L0 ++ [q] := by
  rcases List.eq_nil_or_concat L with h | ⟨L0, q, h⟩
  · exact absurd h G.1
  · exact ⟨L0, q, by rw [h, List.concat_eq_append]⟩
structure MetalAt (C : Addr) (H : Hp) (p : Addr) (full least air : Int) (L : List (Int × Int)) : Prop where
  ex : ∃ (dx tt : Addr) (ys : List V), H p = some (.ins C dx (mf full least tt air)) ∧ H tt = some (.tup ys) ∧ PairsAt H ys L
theorem MetalAt.same {C p : Addr} {H H' : Hp} {full least air : Int} {L : List (Int × Int)} (M : MetalAt C H p full least air L) (s : Same H H') : MetalAt C H' p full least air L := by
  obtain ⟨dx, tt, ys, h1, h2, h3⟩ := M.ex
  exact ⟨dx, tt, ys, s _ _ h1, s _ _ h2, Same.pairs s h3⟩
theorem MetalAt.but {C p t : Addr} {c : Int} {H H' : Hp} {full least air : Int} {L : List (Int × Int)} (M : MetalAt C H p full least air L) (s : SameBut t H H') (ht : TapeAt H t c) : MetalAt C H' p full least air L := by
  obtain ⟨dx, tt, ys, h1, h2, h3⟩ := M.ex
  exact ⟨dx, tt, ys, s.ins ht h1, s.tup ht h2, s.pairs ht h3⟩
def spHeat (C : Addr) : Sp := fun vs H Q _ => ∃ (p : Addr) (b full least air : Int) (L : List (Int × Int)), vs = [.ref p, .int b] ∧ MetalAt C H p full least air L ∧ GoodL L ∧ 0 ≤ b ∧ b ≤ 10000000000000 ∧
  ∀ H', Same H H' → Q (.int (HM.mx air (full - HM.lostOf L b))) H'
abbrev sMetal_heat : Stmt := inClass (top 11) 4
theorem scMetal_heat : FnScope ["self", "beats", "left", "lost", "many", "loss", "spent"] ["self", "beats"] (defScope sMetal_heat) := ⟨rfl, rfl, rfl, by decide +kernel, rfl, by decide +kernel, by decide +kernel⟩
theorem take_more {α : Type} {l : List α} {i : Nat} {x : α} (h : l[i]? = some x) : l.take (i + 1) = l.take i ++ [x] := by
  rw [List.take_add_one, h]
  rfl
theorem fold_more {L : List (Int × Int)} {i : Nat} {p : Int × Int} {s : Int × Int} (h : L[i]? = some p) : (L.take (i + 1)).foldl HM.step s = HM.step ((L.take i).foldl HM.step s) p := by
  rw [take_more h, List.foldl_append]
  rfl
theorem ok_heat {f C : Addr} {fd : FuncData} {dvs : List V} (F : FunD K "heat" "Metal.heat" (defArgs sMetal_heat) (defBody sMetal_heat) (defScope sMetal_heat) dvs [] f fd) (T : Txt mg tM tL) (MT : MetalTxt K C) : FnOk P w K mg base CX0 1 f fd ["self", "beats"] (spHeat C) := by
  refine FunD_ok0 F scMetal_heat (fun vs H Q E h => ?_) (fun cdv A outer s H vs Q E hr h => ?_)
  · obtain ⟨p, b, full, least, air, L, rfl, _⟩ := h
    rfl
  · obtain ⟨p, b, full, least, air, L, rfl, M, G, hb0, hb1, q⟩ := h
    obtain ⟨L0, lq, rfl⟩ := G.split
    obtain ⟨dx, tt, ys, hp, htt, hP⟩ := M.ex
    obtain ⟨zs, u, rfl, hZ, hu⟩ := hP.unsnoc
    refine ⟨_, (pss_cons (ps_set (i := 2) scMetal_heat.nd rfl (Or.inl rfl) (pv 1))
    (pss_cons (ps_set (i := 3) scMetal_heat.nd rfl (Or.inl rfl) pe_int)
    (pss_cons (ps_for PassesOwn.never rfl (pi_tup (pe_slice sl_tup (pe_fld (pv 0) rfl) po_none (po_some (pe_un un_neg pe_int)))) (pg_tup rfl (pgs_cons (pg_name (i := 4) scMetal_heat.nd rfl (Or.inl rfl)) (pgs_cons (pg_name (i := 5) scMetal_heat.nd rfl (Or.inl rfl)) pgs_nil)))
    (pss_cons (ps_set (i := 6) scMetal_heat.nd rfl (Or.inl rfl) (pe_callB (call_min2 rfl) (by rfl) T.zmin (by decide +kernel) (pa_cons (pv 2) (pa_cons (pv 4) pa_nil))))
    (pss_cons (ps_aug (i := 3) scMetal_heat.nd rfl (Or.inl rfl) (pe_op op_mul (pv 6) (pv 5)) ip_add)
    (pss_one (ps_aug (i := 2) scMetal_heat.nd rfl (Or.inl rfl) (pv 6) ip_sub)))))
    (pss_cons (ps_aug (i := 3) scMetal_heat.nd rfl (Or.inl rfl) (pe_op op_mul (pv 2) (pe_ix ix_tup (pe_ix ix_tup (pe_fld (pv 0) rfl) (pe_un un_neg pe_int) (fun _ _ => rfl)) pe_int (fun _ _ => rfl))) ip_add)
    (pss_one (ps_ret (pe_callB (call_max2 rfl) (by rfl) T.zmax (by decide +kernel) (pa_cons (pe_fld (pv 0) rfl) (pa_cons (pe_op op_sub (pe_fld (pv 0) rfl) (pv 3)) pa_nil))))))))), ?_⟩
    refine ⟨_, rfl, ?_⟩
    refine ⟨_, rfl, p, C, dx, _, _, rfl, hp, MT.cl, MT.n3, mf_losses _ _ _ _, 1, rfl, _, rfl, tt, _, rfl, SqT.of htt, cut_last_ne _ _, fun sl hsl => ⟨sl, rfl, ⟨_, SqT.of upd_same⟩, ?_⟩⟩
    have e1 : cutV (zs ++ [V.ref u]) none (some (-1)) = zs := cut_last _ _
    refine for_tup (K := K) (a := sl) (xs := zs) (fun i σ H' => ∃ (left lost : Int) (v4 v5 v6 : Option V), σ = [some (.ref p), some (.int b), some (.int left), some (.int lost), v4, v5, v6] ∧ (left, lost) = (L0.take i).foldl HM.step (b, 0) ∧ 0 ≤ left ∧ left ≤ b ∧ H' sl = some (.tup zs) ∧ Same H H')
      ⟨b, 0, _, _, _, rfl, by rw [List.take_zero]; rfl, hb0, Int.le_refl _, (by rw [upd_same, e1]), same_new hsl⟩ (fun i σ H' _ ⟨_, _, _, _, _, _, _, _, _, h, _⟩ => SqT.of h) ?_ ?_
    · rintro i y σ H' hi ⟨left, lost, v4, v5, v6, rfl, hf, l0, l1, hs1, s1⟩
      obtain ⟨t, m, l, rfl, ht, hL⟩ := hZ.get hi
      obtain ⟨k1, k2, k3, k4⟩ := G.2.2 (m, l) (List.mem_append_left _ (List.mem_of_getElem? hL))
      refine ⟨t, _, rfl, SqT.of (s1 _ _ ht), rfl, _, _, rfl, _, _, rfl, rfl, ?_⟩
      refine ⟨_, rfl, _, rfl, left, m, rfl, ?_⟩
      have w0 : 0 ≤ (if m < left then m else left) := by split <;> omega
      have w1 : (if m < left then m else left) ≤ left := by split <;> omega
      refine ⟨_, rfl, _, rfl, _, rfl, _, l, rfl, rfl, .inl ⟨by omega, by omega⟩, lost, _, rfl, rfl, ?_⟩
      refine ⟨_, rfl, _, rfl, left, _, rfl, rfl, ?_⟩
      refine ⟨left - (if m < left then m else left), lost + (if m < left then m else left) * l, _, _, _, rfl, ?_, by omega, by omega, hs1, s1⟩
      rw [fold_more hL, ← hf]
      rfl
    · rintro σ H' ⟨left, lost, v4, v5, v6, rfl, hf, l0, l1, hs1, s1⟩
      rw [hZ.len, List.take_length] at hf
      refine ⟨_, rfl, _, rfl, _, rfl, p, C, dx, _, _, rfl, s1 _ _ hp, MT.cl, MT.n3, mf_losses _ _ _ _, 1, rfl, tt, _, _, _, rfl, rfl, SqT.of (s1 _ _ htt), atI_last _ _, u, _, 1, .int lq.2, rfl, rfl, SqT.of (s1 _ _ hu), rfl, left, lq.2, rfl, rfl, .inl ⟨by omega, by omega⟩, lost, _, rfl, rfl, ?_⟩
      refine ⟨_, rfl, p, C, dx, _, _, rfl, s1 _ _ hp, MT.cl, MT.n4, mf_air _ _ _ _, _, rfl, p, C, dx, _, _, rfl, s1 _ _ hp, MT.cl, MT.n1, mf_full _ _ _ _, _, rfl, full, _, rfl, rfl, air, _, rfl, ?_⟩
      have hz := HM.fold_lost L0 lq b 0
      rw [← hf] at hz
      have hz2 : lost + left * lq.2 = HM.lostOf (L0 ++ [lq]) b := by
        have : lost + left * lq.2 = 0 + HM.lostOf (L0 ++ [lq]) b := hz
        omega
      show Q (.int (if full - (lost + left * lq.2) > air then full - (lost + left * lq.2) else air)) H'
      rw [hz2]
      exact q _ s1
/-! ### metal.heat(b), metal.heat(beats=b), metal.heat() -/
structure DHeat (P : Program) (w : World) (K : PySem.W.Frag) (mg : Str → Option Value) (base : Heap) (C : Addr) : Prop where
  ex : ∃ (f : Addr) (fd : FuncData) (ds : List Value), FnOk P w K mg base CX0 1 f fd ["self", "beats"] (spHeat C) ∧ Cls K C ∧ Meth K C "heat" f ∧ Binds K fd ["self", "beats"] [] ∧ Vals [.int 0] ds ∧ Binds K fd ["self", "beats"] ds ∧
    KBn K fd ["self", "beats"] 1 ["beats"] (fun us ws => us ++ ws) (fun vs zs => vs ++ zs)
theorem pe_heat1 {X : Cx} {C : Addr} {apos pos : Pos} {o e : Expr} {es : List Expr} {ta : TE} {t : TA} {pl : Sem Bool} (Z : DHeat X.prog X.w X.K X.mg X.base C) (hr : Room 1 X.A) (he : PE X o ta) (ha : PA X (e :: es) t)
    (hst : starEach (e :: es) X.env = (false, eval e X.env) :: starEach es X.env := by rfl) (hpl : (backTo pos (starEach es X.env)).any (·.1) = false := by rfl)
    (ht : eval (.Call (.Attribute o "heat" apos) (e :: es) [] pos) X.env = (do
      let ov ← eval o X.env
      standAt apos.atName
      let (f, first) ← holding [ov] (getMethod ov "heat" pl)
      callWith pos f first (backTo pos (starEach (e :: es) X.env)) (backToKw pos (keywordEach [] X.env))) := by rfl) :
    PE X (.Call (.Attribute o "heat" apos) (e :: es) [] pos) (tMeth C "heat" (spHeat C) [] E0 ta t) := by
  obtain ⟨f, fd, ds, F, c, m, b1, v, b2, b3⟩ := Z.ex
  exact pe_meth he c m F hr b1 .nil pass0 ha hst hpl ht
theorem pe_heat0 {X : Cx} {C : Addr} {apos pos : Pos} {o : Expr} {ta : TE} {pl : Sem Bool} (Z : DHeat X.prog X.w X.K X.mg X.base C) (hr : Room 1 X.A) (he : PE X o ta)
    (ht : eval (.Call (.Attribute o "heat" apos) [] [] pos) X.env = (do
      let ov ← eval o X.env
      standAt apos.atName
      let (f, first) ← holding [ov] (getMethod ov "heat" pl)
      callWith pos f first (backTo pos (starEach [] X.env)) (backToKw pos (keywordEach [] X.env))) := by rfl) :
    PE X (.Call (.Attribute o "heat" apos) [] [] pos) (tMeth C "heat" (spHeat C) [.int 0] E0 ta tNil) := by
  obtain ⟨f, fd, ds, F, c, m, b1, v, b2, b3⟩ := Z.ex
  exact pe_meth0 he c m F hr b2 v pass0 ht
theorem pe_heatK {X : Cx} {C : Addr} {apos pos : Pos} {o : Expr} {kws : List Keyword} {ta : TE} {tk : TA} {pl : Sem Bool} (Z : DHeat X.prog X.w X.K X.mg X.base C) (hr : Room 1 X.A) (he : PE X o ta) (hkw : PK X kws tk)
    (hall : (backToKw pos (keywordEach kws X.env)).all (·.1.isSome) = true := by rfl) (hks : (backToKw pos (keywordEach kws X.env)).filterMap (·.1) = ([("beats" : Str)] : List Str) := by rfl)
    (hpl : ((backTo pos (starEach [] X.env)).any (·.1) || (backToKw pos (keywordEach kws X.env)).any (·.1.isNone)) = false := by rfl)
    (ht : eval (.Call (.Attribute o "heat" apos) [] kws pos) X.env = (do
      let ov ← eval o X.env
      standAt apos.atName
      let (f, first) ← holding [ov] (getMethod ov "heat" pl)
      callWith pos f first (backTo pos (starEach [] X.env)) (backToKw pos (keywordEach kws X.env))) := by rfl) :
    PE X (.Call (.Attribute o "heat" apos) [] kws pos) (tMethK C "heat" 1 (spHeat C) (fun vs zs => vs ++ zs) E0 ta tk) := by
  obtain ⟨f, fd, ds, F, c, m, b1, v, b2, b3⟩ := Z.ex
  exact pe_methK0 (ks := ["beats"]) he c m F hr b3 pass0 hkw hall hks hpl ht
end
end HP
namespace HP
open PySem L2
theorem dp_ints {K : PySem.W.Frag} {H : Hp} : ∀ ns : List Int, DpAll K H (ns.map V.int) (ns.map PyData.int)
  | [] => .nil
  | n :: ns => .cons (.int n) (dp_ints ns)
structure DMk (P : Program) (w : World) (K : PySem.W.Frag) (mg : Str → Option Value) (base : Heap) (C : Addr) : Prop where
  ex : ∃ (f : Addr) (fd : FuncData), Mk K C f ∧ FnOk P w K mg base CX0 4 f fd ["self", "full", "least", "losses", "air"] (spInit C) ∧ mg "Metal" = some (.ref C) ∧ Binds K fd ["self", "full", "least", "losses", "air"] []
theorem pe_metal {X : Cx} {C : Addr} {p pos : Pos} {e : Expr} {es : List Expr} {t : TA} (M : DMk X.prog X.w X.K X.mg X.base C) (hr : Room 5 X.A) (ha : PA X (e :: es) t) (hg : Gl X "Metal" := by rfl)
    (he : starEach (e :: es) X.env = (false, eval e X.env) :: starEach es X.env := by rfl) (hpl : (backTo pos (starEach es X.env)).any (·.1) = false := by rfl) :
    PE X (.Call (.Name "Metal" p) (e :: es) [] pos) (tMake C (spInit C) [] E0 t) := by
  obtain ⟨f, fd, mk, F, hm, b⟩ := M.ex
  exact pe_make mk F hr hg hm b .nil pass0 ha (by decide) he hpl
def spLaw (K : PySem.W.Frag) : Sp := fun vs H Q _ => ∃ (a : Addr) (ns : List Int), vs = [.ref a] ∧ SqL K H a (ns.map V.int) ∧ ns.length ≤ 63 ∧ ∀ H', Q (.bl true) H'
end HP
namespace HP
open PySem L2
section
variable {P : Program} {w : World} {K : PySem.W.Frag} {mg : Str → Option Value} {base : Heap} {tM tL : Tok}
/-! ### a method of an own class, called -/
structure Dm (P : Program) (w : World) (K : PySem.W.Frag) (mg : Str → Option Value) (base : Heap) (C : Addr) (m : Str) (k : Nat) (ps : List Str) (sp : Sp) : Prop where
  ex : ∃ (f : Addr) (fd : FuncData), FnOk P w K mg base CX0 k f fd ps sp ∧ Cls K C ∧ Meth K C m f ∧ Binds K fd ps []
theorem pe_mt {X : Cx} {C : Addr} {m : Str} {k : Nat} {ps : List Str} {sp : Sp} {apos pos : Pos} {o e : Expr} {es : List Expr} {ta : TE} {t : TA} {pl : Sem Bool} (Z : Dm X.prog X.w X.K X.mg X.base C m k ps sp) (hr : Room k X.A) (he : PE X o ta) (ha : PA X (e :: es) t)
    (hst : starEach (e :: es) X.env = (false, eval e X.env) :: starEach es X.env := by rfl) (hpl : (backTo pos (starEach es X.env)).any (·.1) = false := by rfl)
    (ht : eval (.Call (.Attribute o m apos) (e :: es) [] pos) X.env = (do
      let ov ← eval o X.env
      standAt apos.atName
      let (f, first) ← holding [ov] (getMethod ov m pl)
      callWith pos f first (backTo pos (starEach (e :: es) X.env)) (backToKw pos (keywordEach [] X.env))) := by rfl) :
    PE X (.Call (.Attribute o m apos) (e :: es) [] pos) (tMeth C m sp [] E0 ta t) := by
  obtain ⟨f, fd, F, c, m, b⟩ := Z.ex
  exact pe_meth he c m F hr b .nil pass0 ha hst hpl ht
theorem pe_mt0 {X : Cx} {C : Addr} {m : Str} {k : Nat} {ps : List Str} {sp : Sp} {apos pos : Pos} {o : Expr} {ta : TE} {pl : Sem Bool} (Z : Dm X.prog X.w X.K X.mg X.base C m k ps sp) (hr : Room k X.A) (he : PE X o ta)
    (ht : eval (.Call (.Attribute o m apos) [] [] pos) X.env = (do
      let ov ← eval o X.env
      standAt apos.atName
      let (f, first) ← holding [ov] (getMethod ov m pl)
      callWith pos f first (backTo pos (starEach [] X.env)) (backToKw pos (keywordEach [] X.env))) := by rfl) :
    PE X (.Call (.Attribute o m apos) [] [] pos) (tMeth C m sp [] E0 ta tNil) := by
  obtain ⟨f, fd, F, c, m, b⟩ := Z.ex
  exact pe_meth0 he c m F hr b .nil pass0 ht
/-- the same by keywords alone, all that lacks given -/
structure DmK (P : Program) (w : World) (K : PySem.W.Frag) (mg : Str → Option Value) (base : Heap) (C : Addr) (m : Str) (k : Nat) (ps ks : List Str) (sp : Sp) : Prop where
  ex : ∃ (f : Addr) (fd : FuncData), FnOk P w K mg base CX0 k f fd ps sp ∧ Cls K C ∧ Meth K C m f ∧ KBn K fd ps 1 ks (fun us ws => us ++ ws) (fun vs zs => vs ++ zs)
theorem pe_mtK {X : Cx} {C : Addr} {m : Str} {k : Nat} {ps ks : List Str} {sp : Sp} {apos pos : Pos} {o : Expr} {kws : List Keyword} {ta : TE} {tk : TA} {pl : Sem Bool} (Z : DmK X.prog X.w X.K X.mg X.base C m k ps ks sp) (hr : Room k X.A) (he : PE X o ta) (hkw : PK X kws tk)
    (hall : (backToKw pos (keywordEach kws X.env)).all (·.1.isSome) = true := by rfl) (hks : (backToKw pos (keywordEach kws X.env)).filterMap (·.1) = ks := by rfl)
    (hpl : ((backTo pos (starEach [] X.env)).any (·.1) || (backToKw pos (keywordEach kws X.env)).any (·.1.isNone)) = false := by rfl)
    (ht : eval (.Call (.Attribute o m apos) [] kws pos) X.env = (do
      let ov ← eval o X.env
      standAt apos.atName
      let (f, first) ← holding [ov] (getMethod ov m pl)
      callWith pos f first (backTo pos (starEach [] X.env)) (backToKw pos (keywordEach kws X.env))) := by rfl) :
    PE X (.Call (.Attribute o m apos) [] kws pos) (tMethK C m ks.length sp (fun vs zs => vs ++ zs) E0 ta tk) := by
  obtain ⟨f, fd, F, c, m, b⟩ := Z.ex
  exact pe_methK0 he c m F hr b pass0 hkw hall hks hpl ht
/-- keywords of a def without defaults -/
theorem fun_kbn {x qual : Str} {st : Stmt} {f : Addr} {fd : FuncData} {ps ks : List Str} {n : Nat} (F : Fun K x qual st f fd)
    (h : ∀ (kV doc pm : Value) (an : Option Addr) (cdv ct : Value) (us ws : List Value), us.length = n → ws.length = ks.length → bindArgs (PySem.W.fnOf x qual (defArgs st) (defBody st) (defScope st) .none kV doc pm an cdv ct) ⟨us, ks.zip ws⟩ = pure (ps.zip (us ++ ws))) :
    KBn K fd ps n ks (fun us ws => us ++ ws) (fun vs zs => vs ++ zs) := by
  obtain ⟨oc, od, kV, doc, pm, an, cdv, ct, osl, rfl, lk, hcd⟩ := F.ex
  exact ⟨fun s us ws _ l1 l2 => .of_eq (h kV doc pm an cdv ct us ws l1 l2), fun r1 r2 => r1.append r2⟩
end
end HP
namespace HP
open PySem L2
section
variable {P : Program} {w : World} {K : PySem.W.Frag} {mg : Str → Option Value} {base : Heap} {tM tL : Tok}
def optV : Option Int → V
  | none => .non
  | some n => .int n
/-! ### beats_to_lose -/
def spLose : Sp := fun vs H Q _ => ∃ a l : Int, vs = [.int a, .int l] ∧ 0 < l ∧ l ≤ 1000000 ∧ Q (.int ((a + l - 1) / l)) H
abbrev sbeats_to_lose : Stmt := top 10
theorem scbeats_to_lose : FnScope ["heat", "loss"] ["heat", "loss"] (defScope sbeats_to_lose) := ⟨rfl, rfl, rfl, by decide +kernel, rfl, by decide +kernel, by decide +kernel⟩
theorem ok_lose {f : Addr} {fd : FuncData} (F : Fun K "beats_to_lose" "beats_to_lose" sbeats_to_lose f fd) : FnOk P w K mg base CX0 1 f fd ["heat", "loss"] spLose := by
  refine F.ok scbeats_to_lose (fun vs H Q E h => ?_) (fun cdv A outer s H vs Q E hr h => ?_)
  · obtain ⟨a, l, rfl, _⟩ := h
    rfl
  · obtain ⟨a, l, rfl, h1, h2, q⟩ := h
    refine ⟨_, (pss_one (ps_ret (pe_op op_fdivW (pe_op op_sub (pe_op op_add (pv 0) (pv 1)) pe_int) (pv 1)))), ?_⟩
    exact ⟨_, rfl, _, rfl, a, l, rfl, rfl, _, 1, rfl, rfl, _, rfl, _, l, rfl, rfl, wd h1 (by omega), q⟩
/-! ### Metal.cools_to -/
theorem mf_no (full least : Int) (tt : Addr) (air : Int) {m : Str} (h1 : ¬ m = "air") (h2 : ¬ m = "losses") (h3 : ¬ m = "least") (h4 : ¬ m = "full") : (mf full least tt air).lookup m = none := by
  rw [← mf_eq]
  simp only [lookup_putF, if_neg h1, if_neg h2, if_neg h3, if_neg h4]
  rfl
theorem mf_least (full least : Int) (tt : Addr) (air : Int) : (mf full least tt air).lookup ("least" : Str) = some (.int least) := by rw [← mf_eq]; simp only [lookup_putF, if_neg ne5, if_neg ne4, if_pos]
theorem mf_cools (full least : Int) (tt : Addr) (air : Int) : (mf full least tt air).lookup ("cools_to" : Str) = none := mf_no _ _ _ _ (by decide +kernel) (by decide +kernel) (by decide +kernel) (by decide +kernel)
theorem mf_life (full least : Int) (tt : Addr) (air : Int) : (mf full least tt air).lookup ("life" : Str) = none := mf_no _ _ _ _ (by decide +kernel) (by decide +kernel) (by decide +kernel) (by decide +kernel)
def spCools (C : Addr) : Sp := fun vs H Q _ => ∃ (p : Addr) (h full least air : Int) (L : List (Int × Int)), vs = [.ref p, .int h] ∧ MetalAt C H p full least air L ∧ GoodL L ∧ full ≤ 1000000 ∧ -1 ≤ h ∧
  ∀ H', Same H H' → Q (optV (HM.coolsTo full air L h)) H'
abbrev sMetal_cools_to : Stmt := inClass (top 11) 6
theorem scMetal_cools_to : FnScope ["self", "heat", "left", "beats", "many", "loss"] ["self", "heat"] (defScope sMetal_cools_to) := ⟨rfl, rfl, rfl, by decide +kernel, rfl, by decide +kernel, by decide +kernel⟩
theorem drop_at {α : Type} {l : List α} {i : Nat} {x : α} (h : l[i]? = some x) : l.drop i = x :: l.drop (i + 1) := by
  obtain ⟨hi, e⟩ := List.getElem?_eq_some_iff.mp h
  rw [List.drop_eq_getElem_cons hi, e]
theorem ok_cools {f C : Addr} {fd : FuncData} (F : Fun K "cools_to" "Metal.cools_to" sMetal_cools_to f fd) (T : Txt mg tM tL) (MT : MetalTxt K C) (Dbeats_to_lose : Df P w K mg base "beats_to_lose" 1 ["heat", "loss"] spLose) : FnOk P w K mg base CX0 2 f fd ["self", "heat"] (spCools C) := by
  refine F.ok scMetal_cools_to (fun vs H Q E h => ?_) (fun cdv A outer s H vs Q E hr h => ?_)
  · obtain ⟨p, h, full, least, air, L, rfl, _⟩ := h
    rfl
  · obtain ⟨p, h, full, least, air, L, rfl, M, G, hf, hh, q⟩ := h
    obtain ⟨dx, tt, ys, hp, htt, hP⟩ := M.ex
    refine ⟨_, (pss_cons (ps_if (pt_cmp (pc_ge (pv 1) (pe_fld (pv 0) rfl))) (pss_one (ps_ret pe_int)) pss_nil)
    (pss_cons (ps_if (pt_cmp (pc_lt (pv 1) (pe_fld (pv 0) rfl))) (pss_one (ps_ret pe_non)) pss_nil)
    (pss_cons (ps_set (i := 2) scMetal_cools_to.nd rfl (Or.inl rfl) (pe_op op_sub (pe_fld (pv 0) rfl) (pv 1)))
    (pss_cons (ps_set (i := 3) scMetal_cools_to.nd rfl (Or.inl rfl) pe_int)
    (pss_cons (ps_for PassesOwn.never rfl (pi_tup (pe_slice sl_tup (pe_fld (pv 0) rfl) po_none (po_some (pe_un un_neg pe_int)))) (pg_tup rfl (pgs_cons (pg_name (i := 4) scMetal_cools_to.nd rfl (Or.inl rfl)) (pgs_cons (pg_name (i := 5) scMetal_cools_to.nd rfl (Or.inl rfl)) pgs_nil)))
    (pss_cons (ps_if (pt_cmp (pc_ge (pe_op op_mul (pv 4) (pv 5)) (pv 2))) (pss_one (ps_ret (pe_op op_add (pv 3) (pe_fn Dbeats_to_lose (hr.mono (by decide)) (pa_cons (pv 2) (pa_cons (pv 5) pa_nil)))))) pss_nil)
    (pss_cons (ps_aug (i := 2) scMetal_cools_to.nd rfl (Or.inl rfl) (pe_op op_mul (pv 4) (pv 5)) ip_sub)
    (pss_one (ps_aug (i := 3) scMetal_cools_to.nd rfl (Or.inl rfl) (pv 4) ip_add)))))
    (pss_cons (ps_set (i := 5) scMetal_cools_to.nd rfl (Or.inl rfl) (pe_ix ix_tup (pe_ix ix_tup (pe_fld (pv 0) rfl) (pe_un un_neg pe_int) (fun _ _ => rfl)) pe_int (fun _ _ => rfl)))
    (pss_cons (ps_if (pt_cmp (pc_eqI (pv 5) pe_int)) (pss_one (ps_ret pe_non)) pss_nil)
    (pss_one (ps_ret (pe_op op_add (pv 3) (pe_fn Dbeats_to_lose (hr.mono (by decide)) (pa_cons (pv 2) (pa_cons (pv 5) pa_nil))))))))))))), ?_⟩
    refine ⟨_, rfl, _, rfl, p, C, dx, _, _, rfl, hp, MT.cl, MT.n1, mf_full _ _ _ _, h, full, rfl, rfl, _, rfl, iteD (fun c1 => ?_) (fun c1 => ?_)⟩
    · have := q H (Same.refl H)
      unfold HM.coolsTo at this
      rw [if_pos c1] at this
      exact this
    · refine ⟨_, rfl, _, rfl, p, C, dx, _, _, rfl, hp, MT.cl, MT.n4, mf_air _ _ _ _, h, air, rfl, rfl, _, rfl, iteD (fun c2 => ?_) (fun c2 => ?_)⟩
      · have := q H (Same.refl H)
        unfold HM.coolsTo at this
        rw [if_neg c1, if_pos c2] at this
        exact this
      · have q' : ∀ H', Same H H' → Q (optV (HM.cool L (full - h) 0)) H' := fun H' s => by
          have := q H' s
          unfold HM.coolsTo at this
          rw [if_neg c1, if_neg c2] at this
          exact this
        obtain ⟨L0, lq, rfl⟩ := G.split
        obtain ⟨zs, u, rfl, hZ, hu⟩ := hP.unsnoc
        refine ⟨_, rfl, p, C, dx, _, _, rfl, hp, MT.cl, MT.n1, mf_full _ _ _ _, _, rfl, full, h, rfl, rfl, ?_⟩
        refine ⟨_, rfl, p, C, dx, _, _, rfl, hp, MT.cl, MT.n3, mf_losses _ _ _ _, 1, rfl, _, rfl, tt, _, rfl, SqT.of htt, cut_last_ne _ _, fun sl hsl => ⟨sl, rfl, ⟨_, SqT.of upd_same⟩, ?_⟩⟩
        have e1 : cutV (zs ++ [V.ref u]) none (some (-1)) = zs := cut_last _ _
        refine for_tup (K := K) (a := sl) (xs := zs) (fun i σ H' => ∃ (left beats : Int) (v4 v5 : Option V), σ = [some (.ref p), some (.int h), some (.int left), some (.int beats), v4, v5] ∧ HM.cool ((L0 ++ [lq]).drop i) left beats = HM.cool (L0 ++ [lq]) (full - h) 0 ∧ 1 ≤ left ∧ left ≤ 1000001 ∧ H' sl = some (.tup zs) ∧ Same H H')
          ⟨full - h, 0, _, _, rfl, rfl, by omega, by omega, (by rw [upd_same, e1]), same_new hsl⟩ (fun i σ H' _ ⟨_, _, _, _, _, _, _, _, h, _⟩ => SqT.of h) ?_ ?_
        · rintro i y σ H' hi ⟨left, beats, v4, v5, rfl, hc, l0, l1, hs1, s1⟩
          obtain ⟨t, m, l, rfl, ht, hL⟩ := hZ.get hi
          have hiL : i < L0.length := (List.getElem?_eq_some_iff.mp hL).1
          obtain ⟨k1, k2, k3, k4⟩ := G.2.2 (m, l) (List.mem_append_left _ (List.mem_of_getElem? hL))
          have hd : (L0 ++ [lq]).drop i = (m, l) :: (L0 ++ [lq]).drop (i + 1) := drop_at (by rw [List.getElem?_append_left hiL]; exact hL)
          have hne : ∃ p r, (L0 ++ [lq]).drop (i + 1) = p :: r := by
            cases hdr : (L0 ++ [lq]).drop (i + 1) with
            | nil =>
              have := congrArg List.length hdr
              rw [List.length_drop, List.length_append] at this
              simp at this
              omega
            | cons p r => exact ⟨p, r, rfl⟩
          obtain ⟨np, nr, hpr⟩ := hne
          rw [hd, hpr] at hc
          refine ⟨t, _, rfl, SqT.of (s1 _ _ ht), rfl, _, _, rfl, _, _, rfl, rfl, ?_⟩
          have cm : CMul m l := .inl ⟨by have : 1 ≤ m := k1; omega, by have : m ≤ 1000000 := k2; omega⟩
          have ml : 0 ≤ m * l := Int.mul_nonneg (by have : 1 ≤ m := k1; omega) k3
          refine ⟨_, rfl, _, rfl, m, l, rfl, rfl, cm, _, rfl, _, left, rfl, rfl, _, rfl, iteD (fun c3 => ?_) (fun c3 => ?_)⟩
          · have hl : 0 < l := by
              by_cases cc : 0 < l
              · exact cc
              · have : l = 0 := by have : 0 ≤ l := k3; omega
                subst this
                omega
            refine ⟨_, rfl, _, rfl, _, rfl, left, l, rfl, hl, k4, beats, _, rfl, rfl, ?_⟩
            have ec : HM.cool ((m, l) :: np :: nr) left beats = some (beats + (left + l - 1) / l) := if_pos c3
            rw [← hc, ec] at q'
            exact q' _ s1
          · refine ⟨_, rfl, _, rfl, _, rfl, m, l, rfl, rfl, cm, left, _, rfl, rfl, ?_⟩
            refine ⟨_, rfl, _, rfl, beats, m, rfl, rfl, ?_⟩
            have ec : HM.cool ((m, l) :: np :: nr) left beats = HM.cool (np :: nr) (left - m * l) (beats + m) := if_neg c3
            refine ⟨left - m * l, beats + m, _, _, rfl, ?_, by omega, by omega, hs1, s1⟩
            rw [hpr, ← ec, hc]
        · rintro σ H' ⟨left, beats, v4, v5, rfl, hc, l0, l1, hs1, s1⟩
          have hdl : (L0 ++ [lq]).drop zs.length = [lq] := by
            rw [hZ.len]
            simp
          rw [hdl] at hc
          obtain ⟨m, l⟩ := lq
          obtain ⟨k1, k2, k3, k4⟩ := G.2.2 (m, l) (List.mem_append_right _ (List.mem_singleton.mpr rfl))
          refine ⟨_, rfl, p, C, dx, _, _, rfl, s1 _ _ hp, MT.cl, MT.n3, mf_losses _ _ _ _, 1, rfl, tt, _, _, _, rfl, rfl, SqT.of (s1 _ _ htt), atI_last _ _, u, _, 1, .int l, rfl, rfl, SqT.of (s1 _ _ hu), rfl, ?_⟩
          refine ⟨_, rfl, l, 0, rfl, rfl, _, rfl, iteD (fun c3 => ?_) (fun c3 => ?_)⟩
          · have ec : HM.cool [(m, l)] left beats = none := if_pos c3
            rw [← hc, ec] at q'
            exact q' _ s1
          · have hl : 0 < l := by have : 0 ≤ l := k3; omega
            refine ⟨_, rfl, _, rfl, _, rfl, left, l, rfl, hl, k4, beats, _, rfl, rfl, ?_⟩
            have ec : HM.cool [(m, l)] left beats = some (beats + (left + l - 1) / l) := if_neg c3
            rw [← hc, ec] at q'
            exact q' _ s1
/-! ### Metal.life -/
def lifeOf (full least air : Int) (L : List (Int × Int)) : Option Int := match HM.coolsTo full air L (least - 1) with
  | none => none
  | some n => some (n - 1)
def spLife (C : Addr) : Sp := fun vs H Q _ => ∃ (p : Addr) (full least air : Int) (L : List (Int × Int)), vs = [.ref p] ∧ MetalAt C H p full least air L ∧ GoodL L ∧ full ≤ 1000000 ∧ 0 ≤ least ∧
  ∀ H', Same H H' → Q (optV (lifeOf full least air L)) H'
abbrev sMetal_life : Stmt := inClass (top 11) 5
theorem scMetal_life : FnScope ["self", "too_cold"] ["self"] (defScope sMetal_life) := ⟨rfl, rfl, rfl, by decide +kernel, rfl, by decide +kernel, by decide +kernel⟩
theorem ok_life {f C : Addr} {fd : FuncData} (F : Fun K "life" "Metal.life" sMetal_life f fd) (MT : MetalTxt K C) (Dcools_to : Dm P w K mg base C "cools_to" 2 ["self", "heat"] (spCools C)) : FnOk P w K mg base CX0 3 f fd ["self"] (spLife C) := by
  refine F.ok scMetal_life (fun vs H Q E h => ?_) (fun cdv A outer s H vs Q E hr h => ?_)
  · obtain ⟨p, full, least, air, L, rfl, _⟩ := h
    rfl
  · obtain ⟨p, full, least, air, L, rfl, M, G, hf, hl, q⟩ := h
    obtain ⟨dx, tt, ys, hp, htt, hP⟩ := M.ex
    refine ⟨_, (pss_cons (ps_set (i := 1) scMetal_life.nd rfl (Or.inl rfl) (pe_mt (C := C) Dcools_to (hr.mono (by decide)) (pv 0) (pa_cons (pe_op op_sub (pe_fld (pv 0) rfl) pe_int) pa_nil)))
    (pss_cons (ps_if (pt_cmp (pc_isN (pv 1))) (pss_one (ps_ret pe_non)) pss_nil)
    (pss_one (ps_ret (pe_op op_sub (pv 1) pe_int))))), ?_⟩
    refine ⟨_, rfl, p, dx, _, rfl, hp, mf_cools _ _ _ _, _, rfl, p, C, dx, _, _, rfl, hp, MT.cl, MT.n2, mf_least _ _ _ _, least, 1, rfl, rfl, p, _, full, least, air, L, rfl, M, G, hf, by omega, fun H1 s1 => ?_⟩
    unfold lifeOf at q
    cases e : HM.coolsTo full air L (least - 1) with
    | none =>
      rw [e] at q
      refine ⟨_, rfl, true, rfl, iteT ?_⟩
      exact q _ s1
    | some n =>
      rw [e] at q
      refine ⟨_, rfl, false, rfl, iteF ?_⟩
      exact ⟨_, rfl, n, 1, rfl, rfl, q _ s1⟩
end
end HP
namespace HP
open PySem L2
section
variable {P : Program} {w : World} {K : PySem.W.Frag} {mg : Str → Option Value} {base : Heap} {tM tL : Tok}
theorem RowAt.same {t r : Addr} {H H' : Hp} {full least air : Int} {L : List (Int × Int)} (R : RowAt t H r full least air L) (s : Same H H') : RowAt t H' r full least air L := by
  obtain ⟨⟨ll, xs, h1, h2, h3, h4⟩, g, n1, n2, n3, n4, n5⟩ := R
  exact ⟨⟨ll, xs, s _ _ h1, s _ _ h2, h3, Same.pairs s h4⟩, g, n1, n2, n3, n4, n5⟩
theorem RowAt.vd {t r : Addr} {H : Hp} {full least air : Int} {L : List (Int × Int)} (R : RowAt t H r full least air L) : HM.Vd full least air L :=
  ⟨R.good.2.2, R.good.1, R.good.2.1, R.n1, R.n2, R.n3, R.n4, R.n5⟩
theorem Vd.good {full least air : Int} {L : List (Int × Int)} (V : HM.Vd full least air L) : GoodL L := ⟨V.ne, V.len, V.g⟩
/-- a list made of a list of numbers -/
theorem lc_ints {a : Addr} {bs : List Int} {te : TE} {o : Nat} {σ : L2.St} {H1 : Hp} {D : Addr} {Qd : Hp → Prop} (F : Int → V) (hp : H1 a = some (.lst (bs.map V.int))) (hD : H1 D = none) (hlen : bs.length ≤ 1000)
    (hw : ∀ v, wipe ((wipe σ [o]).set o v) [o] = wipe σ [o])
    (hte : ∀ z ∈ bs, ∀ H', Same H1 H' → ∀ Q' : VK, (∀ H'', Same H' H'' → Q' (F z) H'') → te ((wipe σ [o]).set o (some (.int z))) H' Q')
    (hq : ∀ H', H' D = some (.lst (bs.map F)) → Same H1 H' → Qd H') :
    ∃ W : Nat → Nat → Hp → Prop, (∃ m, W 0 m (upd H1 D (.lst []))) ∧ ∀ i m H, W i m H →
      ((Itl K a).stop i H ∧ Qd H) ∨ ((Itl K a).go i H ∧ ∃ Nx : Hp → Prop, (∀ H', Nx H' → ∃ m', m' < m ∧ W (i + 1) m' H') ∧ ∀ x H', (Itl K a).yld i H x H' → gName o x (wipe σ [o]) H' fun σ2 H2 => wipe σ2 [o] = wipe σ [o] ∧ tYes σ2 H2 fun b H3 =>
        if b = true then te σ2 H3 fun y H4 => ∃ acc, H4 D = some (.lst acc) ∧ acc.length < sizeLine ∧ Nx (upd H4 D (.lst (acc ++ [y]))) else Nx H3) := by
  refine lc_list (K := K) (a := a) (xs := bs.map V.int) (fun i H' => H' D = some (.lst ((bs.take i).map F)) ∧ Same H1 H')
    ⟨by rw [upd_same, List.take_zero]; rfl, same_new hD⟩ (fun i H' _ ⟨_, h⟩ => SqL.of (h _ _ hp)) ?_ ?_
  · rintro i x H' hi ⟨hd, s1⟩
    obtain ⟨z, hz, rfl⟩ := map_int hi
    have hil : i < bs.length := (List.getElem?_eq_some_iff.mp hz).1
    refine ⟨hw _, ?_⟩
    show te _ _ _
    refine hte z (List.mem_of_getElem? hz) H' s1 _ fun H'' s2 => ⟨_, s2 _ _ hd, ?_, ?_, ?_⟩
    · rw [List.length_map, List.length_take]
      exact Nat.lt_of_le_of_lt (show min i bs.length ≤ 1000 by omega) (by decide)
    · rw [upd_same, take_more hz, List.map_append]
      rfl
    · intro c u e
      rw [upd_ne (ne_of_none e hD)]
      exact s2 _ _ (s1 _ _ e)
  · rintro H' ⟨hd, s1⟩
    rw [List.length_map, List.take_length] at hd
    exact hq H' hd s1
theorem scal_opt (o : Option Int) : scal (optV o) (optV o) = true := by cases o <;> rfl
/-! ### _law_made -/
def spMade (C : Addr) : Sp := fun vs H Q _ => ∃ (r ll : Addr) (xs : List V) (L : List (Int × Int)) (full least air : Int), vs = [.ref r] ∧ H r = some (.tup [.int full, .int least, .ref ll, .int air]) ∧ H ll = some (.lst xs) ∧ PairsAt H xs L ∧ HM.Vd full least air L ∧
  ∀ (p : Addr) (H' : Hp), MetalAt C H' p full least air L → Same H H' → Q (.ref p) H'
abbrev sLmade : Stmt := top 19
theorem scLmade : FnScope ["_law_row"] ["_law_row"] (defScope sLmade) := ⟨rfl, rfl, rfl, by decide +kernel, rfl, by decide +kernel, by decide +kernel⟩
theorem ok_made {f C : Addr} {fd : FuncData} (F : Fun K "_law_made" "_law_made" sLmade f fd) (DM : DMk P w K mg base C) : FnOk P w K mg base CX0 6 f fd ["_law_row"] (spMade C) := by
  refine F.ok scLmade (fun vs H Q E h => ?_) (fun cdv A outer s H vs Q E hr h => ?_)
  · obtain ⟨r, ll, xs, L, full, least, air, rfl, _⟩ := h
    rfl
  · obtain ⟨r, ll, xs, L, full, least, air, rfl, hrow, hll, hP, V, q⟩ := h
    refine ⟨_, (pss_one (ps_ret (pe_metal (C := C) DM (hr.mono (by decide)) (pa_cons (pe_ix ix_tup (pv 0) pe_int (fun _ _ => rfl)) (pa_cons (pe_ix ix_tup (pv 0) pe_int (fun _ _ => rfl)) (pa_cons (pe_ix ix_tup (pv 0) pe_int (fun _ _ => rfl)) (pa_cons (pe_ix ix_tup (pv 0) pe_int (fun _ _ => rfl)) pa_nil))))))), ?_⟩
    refine ⟨_, rfl, r, _, 0, _, rfl, rfl, SqT.of hrow, rfl, _, rfl, r, _, 1, _, rfl, rfl, SqT.of hrow, rfl, _, rfl, r, _, 2, _, rfl, rfl, SqT.of hrow, rfl, _, rfl, r, _, 3, _, rfl, rfl, SqT.of hrow, rfl, fun x dx hx hdx ne => ?_⟩
    have s6 : Same H (upd (upd H dx (.own x)) x (.ins C dx [])) := fun b o e => by
      rw [upd_ne (ne_of_none e hx), upd_ne (ne_of_none e hdx)]
      exact e
    refine ⟨x, dx, ll, xs, L, full, least, air, rfl, upd_same, s6 _ _ hll, Same.pairs s6 hP, Vd.good V, V.n1, V.n2, V.n3, V.n4, V.n5, fun tt ys H6 k1 k2 k3 k4 => ⟨rfl, ?_⟩⟩
    exact q x H6 ⟨dx, tt, ys, k1, k2, k3⟩ fun b o e => k4 b o (s6 b o e) (ne_of_none e hx)
/-! ### _law_as_long -/
def asLong (o1 o2 : Option Int) : Prop := o2 = none ∨ ∃ m n, o1 = some m ∧ o2 = some n ∧ m ≤ n
def spAsLong : Sp := fun vs H Q _ => ∃ o1 o2 : Option Int, vs = [optV o1, optV o2] ∧ asLong o1 o2 ∧ Q (.bl true) H
abbrev sLas_long : Stmt := top 20
theorem scLas_long : FnScope ["_law_one", "_law_other"] ["_law_one", "_law_other"] (defScope sLas_long) := ⟨rfl, rfl, rfl, by decide +kernel, rfl, by decide +kernel, by decide +kernel⟩
theorem ok_as_long {f : Addr} {fd : FuncData} (F : Fun K "_law_as_long" "_law_as_long" sLas_long f fd) : FnOk P w K mg base CX0 1 f fd ["_law_one", "_law_other"] spAsLong := by
  refine F.ok scLas_long (fun vs H Q E h => ?_) (fun cdv A outer s H vs Q E hr h => ?_)
  · obtain ⟨o1, o2, rfl, _⟩ := h
    rfl
  · obtain ⟨o1, o2, rfl, h, q⟩ := h
    refine ⟨_, (pss_one (ps_ret (pe_or (pe_cmp (pc_isN (pv 1))) (pe_one (pe_and (pe_cmp (pc_notN (pv 0))) (pe_one (pe_cmp (pc_le (pv 0) (pv 1))))))))), ?_⟩
    rcases h with rfl | ⟨m, n, rfl, rfl, hmn⟩
    · exact ⟨_, rfl, true, rfl, iteT q⟩
    · refine ⟨_, rfl, false, rfl, iteF ?_⟩
      refine ⟨_, rfl, true, rfl, iteT ?_⟩
      refine ⟨_, rfl, _, rfl, m, n, rfl, rfl, ?_⟩
      show Q (.bl (decide (m ≤ n))) H
      rw [decide_eq_true hmn]
      exact q
/-! ### _law_some_beats -/
def spSome : Sp := fun vs H Q _ => ∃ (t r : Addr) (c full least air : Int) (L : List (Int × Int)), vs = [.ref t, .ref r] ∧ TapeAt H t c ∧ c ≤ 90000 ∧ RowAt t H r full least air L ∧
  ∀ (p : Addr) (ns : List Int) (H' : Hp), H p = none → (∀ z ∈ ns, 0 ≤ z ∧ z ≤ 5000000000000) → ns.length ≤ 50 → H' p = some (.lst (ns.map V.int)) → TapeAt H' t (c + 3) → SameBut t H H' → Q (.ref p) H'
abbrev sLsome_beats : Stmt := top 18
theorem scLsome_beats : FnScope ["_law_tape_here", "_law_row", "_law_found", "_law_end", "_law_number", "_law_loss"] ["_law_tape_here", "_law_row"] (defScope sLsome_beats) := ⟨rfl, rfl, rfl, by decide +kernel, rfl, by decide +kernel, by decide +kernel⟩
theorem pow7 : CPow 10 7 := ⟨by decide, by decide, by decide⟩
theorem ok_some {f : Addr} {fd : FuncData} (F : Fun K "_law_some_beats" "_law_some_beats" sLsome_beats f fd) (T : Txt mg tM tL) (DLdraw : DDraw P w K mg base) : FnOk P w K mg base CX0 2 f fd ["_law_tape_here", "_law_row"] spSome := by
  refine F.ok scLsome_beats (fun vs H Q E h => ?_) (fun cdv A outer s H vs Q E hr h => ?_)
  · obtain ⟨t, r, c, full, least, air, L, rfl, _⟩ := h
    rfl
  · obtain ⟨t, r, c, full, least, air, L, rfl, hT, hc, R, q⟩ := h
    refine ⟨_, (pss_cons (ps_par (i := 2) (j := 3) (by rfl) scLsome_beats.nd rfl rfl (by decide) rfl rfl (pa_cons (pe_lst (pa_cons pe_int (pa_cons pe_int (pa_cons (pe_op op_sub (pe_op op_pow pe_int pe_int) (pe_op op_pow pe_int pe_int)) (pa_cons (pe_fn DLdraw (hr.mono (by decide)) (pa_cons (pv 0) (pa_cons (pe_op op_pow pe_int pe_int) pa_nil))) (pa_cons (pe_fn DLdraw (hr.mono (by decide)) (pa_cons (pv 0) (pa_cons pe_int pa_nil))) pa_nil)))))) (pa_cons pe_int pa_nil)) (by rfl))
    (pss_cons (ps_for PassesOwn.never rfl (pi_list (pe_ix ix_tup (pv 1) pe_int (fun _ _ => rfl))) (pg_tup rfl (pgs_cons (pg_name (i := 4) scLsome_beats.nd rfl (Or.inl rfl)) (pgs_cons (pg_name (i := 5) scLsome_beats.nd rfl (Or.inl rfl)) pgs_nil)))
    (pss_cons (ps_set (i := 3) scLsome_beats.nd rfl (Or.inl rfl) (pe_op op_add (pv 3) (pv 4)))
    (pss_one (ps_expr (pe_bm PySem.F.plainAttrs_list PySem.F.slot_list_extend PySem.F.type_list_extend mt_extend (pv 2) (pa_cons (pe_lst (pa_cons (pe_op op_sub (pv 3) pe_int) (pa_cons (pv 3) (pa_cons (pe_op op_add (pv 3) pe_int) pa_nil)))) pa_nil))))))
    (pss_one (ps_ret (pv 2))))), ?_⟩
    have e12 : (10 : Int) ^ (12 : Int).toNat - (10 : Int) ^ (6 : Int).toNat = 999999000000 := by decide
    have e7 : (10 : Int) ^ (7 : Int).toNat = 10000000 := by decide
    refine ⟨10, 12, rfl, rfl, pow12, 10, 6, rfl, rfl, pow6, _, _, rfl, rfl, ?_⟩
    refine ⟨_, rfl, 10, 7, rfl, rfl, pow7, t, c, _, rfl, hT, by omega, (by rw [e7]; decide), (by rw [e7]; decide), fun d1 H1 a0 a1 T1 S1 => ?_⟩
    refine ⟨_, rfl, t, _, 100, rfl, T1, by omega, by decide, by decide, fun d2 H2 b0 b1 T2 S2 => ?_⟩
    refine ⟨(by show 5 ≤ sizeLine; decide), fun fo hfo => ⟨_, _, rfl, ?_⟩⟩
    have SB : SameBut t H H2 := S1.trans S2
    have hfo0 : H fo = none := SB.free T2 hfo
    obtain ⟨⟨ll, xs, hrow, hll, nlt, hP⟩, G, m1, m2, m3, m4, m5⟩ := (R.but SB hT)
    rw [e7] at a1
    refine ⟨_, rfl, r, _, 2, .ref ll, rfl, rfl, SqT.of ((same_new hfo) _ _ hrow), rfl, ll, rfl, ⟨_, SqL.of ((same_new hfo) _ _ hll)⟩, ?_⟩
    refine for_list (K := K) (a := ll) (xs := xs) (fun i σ H' => ∃ (ns : List Int) (e : Int) (v4 v5 : Option V), σ = [some (.ref t), some (.ref r), some (.ref fo), some (.int e), v4, v5] ∧ H' fo = some (.lst (ns.map V.int)) ∧ ns.length = 5 + 3 * i ∧ (∀ z ∈ ns, 0 ≤ z ∧ z ≤ 5000000000000) ∧ 0 ≤ e ∧ e ≤ 1000000 * (i : Int) ∧ Same H2 H')
      ⟨[0, 1, (10 : Int) ^ (12 : Int).toNat - (10 : Int) ^ (6 : Int).toNat, d1, d2], 0, _, _, rfl, upd_same, rfl, ?_, Int.le_refl _, by omega, same_new hfo⟩ (fun i σ H' _ ⟨_, _, _, _, _, _, _, _, _, _, h⟩ => SqL.of (h _ _ hll)) ?_ ?_
    · intro z hz
      simp only [List.mem_cons, List.not_mem_nil, or_false] at hz
      rw [e12] at hz
      rcases hz with h | h | h | h | h <;> omega
    · rintro i y σ H' hi ⟨ns, e, v4, v5, rfl, hf, hl, hB, z0, z1, s2⟩
      obtain ⟨tp, m, l, rfl, htp, hL⟩ := hP.get hi
      obtain ⟨k1, k2, k3, k4⟩ := good_at G hL
      have hil : i < xs.length := (List.getElem?_eq_some_iff.mp hi).1
      have h6 : xs.length ≤ 6 := by rw [hP.len]; exact G.2.1
      refine ⟨tp, _, rfl, SqT.of (s2 _ _ htp), rfl, _, _, rfl, _, _, rfl, rfl, ?_⟩
      refine ⟨_, rfl, _, rfl, e, m, rfl, rfl, ?_⟩
      refine ⟨_, rfl, .inl ⟨rfl, _, SqL.of hf⟩, _, rfl, e + m, 1, rfl, rfl, _, rfl, _, rfl, e + m, 1, rfl, rfl, (by show 3 ≤ sizeLine; decide), fun d hd => ?_⟩
      have hf1 : ∀ o, (upd H' d o) fo = some (.lst (ns.map V.int)) := fun o => by rw [upd_ne (ne_of_none hf hd)]; exact hf
      refine ⟨fo, d, _, _, rfl, rfl, hf1 _, upd_same, ?_, ?_⟩
      · rw [List.length_map, hl]
        exact Nat.le_trans (show 5 + 3 * i + 3 ≤ 30 by omega) (by decide)
      refine ⟨ns ++ [e + m - 1, e + m, e + m + 1], e + m, _, _, rfl, ?_, ?_, ?_, by omega, by omega, ?_⟩
      · rw [upd_same, List.map_append]
        rfl
      · rw [List.length_append, hl]
        show 5 + 3 * i + 3 = _
        omega
      · intro z hz
        rcases List.mem_append.mp hz with h | h
        · exact hB z h
        · simp only [List.mem_cons, List.not_mem_nil, or_false] at h
          rcases h with h | h | h <;> omega
      · intro b o e'
        rw [upd_ne (ne_of_none e' hfo), upd_ne (ne_of_none (s2 _ _ e') hd)]
        exact s2 _ _ e'
    · rintro σ H' ⟨ns, e, v4, v5, rfl, hf, hl, hB, z0, z1, s2⟩
      have h6 : xs.length ≤ 6 := by rw [hP.len]; exact G.2.1
      refine ⟨_, rfl, ?_⟩
      exact q fo ns H' hfo0 hB (by omega) hf ((T2.same s2).mono (by omega)) (SB.trans (Same.but s2))
end
end HP
namespace HP
open PySem L2
section
variable {P : Program} {w : World} {K : PySem.W.Frag} {mg : Str → Option Value} {base : Heap} {tM tL : Tok}
theorem eqv_ints (ns : List Int) : PyData.eqv (.list (ns.map PyData.int)) (.list (ns.map PyData.int)) = true := SeqAt.eqv_refl _ (SeqAt.canLay_of_shaped (PySem.W.ke_shaped_ints ns))
theorem map_V (f : Int → Int) (bs : List Int) : bs.map (fun z => V.int (f z)) = (bs.map f).map V.int := by
  rw [List.map_map]
  rfl
theorem iteN {c A B : Prop} [Decidable c] (hc : c) (h : B) : if (!decide c) = true then A else B := by
  rw [decide_eq_true hc]
  exact iteF h
/-- a list of pairs by which as much is lost -/
def MoreAt (t : Addr) (H : Hp) (m : V) (L : List (Int × Int)) : Prop := ∃ (q : Addr) (ys : List V) (L' : List (Int × Int)), m = .ref q ∧ H q = some (.lst ys) ∧ q ≠ t ∧ PairsAt H ys L' ∧ GoodL L' ∧ ∀ b, 0 ≤ b → HM.lostOf L' b = HM.lostOf L b
theorem MoreAt.same {t : Addr} {H H' : Hp} {m : V} {L : List (Int × Int)} (M : MoreAt t H m L) (s : Same H H') : MoreAt t H' m L := by
  obtain ⟨q, ys, L', e, h1, h2, h3, h4, h5⟩ := M
  exact ⟨q, ys, L', e, s _ _ h1, h2, Same.pairs s h3, h4, h5⟩
theorem PairsAt.drop {H : Hp} {xs : List V} {L : List (Int × Int)} (h : PairsAt H xs L) : ∀ n : Nat, PairsAt H (xs.drop n) (L.drop n) := by
  induction h with
  | nil => intro n; simp only [List.drop_nil]; exact .nil
  | cons h1 r ih =>
    intro n
    cases n with
    | zero => exact .cons h1 r
    | succ j => exact ih j
theorem PairsAt.append {H : Hp} {xs ys : List V} {L M : List (Int × Int)} (h : PairsAt H xs L) (k : PairsAt H ys M) : PairsAt H (xs ++ ys) (L ++ M) := by
  induction h with
  | nil => exact k
  | cons h1 _ ih => exact .cons h1 ih
theorem cut_take (xs : List V) (n : Nat) : cutV xs none (some (n : Int)) = xs.take n := by
  unfold cutV
  rw [HT.sIx_none, HT.sIx_nat, List.drop_zero, Nat.sub_zero]
  by_cases c : n ≤ xs.length
  · rw [Nat.min_eq_left c]
  · rw [Nat.min_eq_right (by omega), List.take_length, List.take_of_length_le (by omega)]
theorem cut_drop (xs : List V) (n : Nat) : cutV xs (some (n : Int)) none = xs.drop n := by
  unfold cutV
  rw [HT.sIx_none, HT.sIx_nat]
  by_cases c : n ≤ xs.length
  · rw [Nat.min_eq_left c, List.take_of_length_le]
    rw [List.length_drop]
    omega
  · rw [Nat.min_eq_right (by omega), List.drop_of_length_le (Nat.le_refl _), List.drop_of_length_le (by omega), List.take_nil]
/-- the heats of a metal by the beats of a list: what each item's call asks -/
theorem heat_item {C : Addr} {H0 : Hp} {p : Addr} {full least air : Int} {L : List (Int × Int)} {z : Int} {H' : Hp} {Q' : VK} (M : MetalAt C H0 p full least air L) (G : GoodL L) (z0 : 0 ≤ z) (z1 : z ≤ 10000000000000) (s : Same H0 H') (q : ∀ H'', Same H' H'' → Q' (.int (HM.heatAt full air L z)) H'') :
    spHeat C [.ref p, .int z] H' Q' E0 := ⟨p, z, full, least, air, L, rfl, M.same s, G, z0, z1, q⟩
def spRight (C : Addr) : Sp := fun vs H Q _ => ∃ (t r p pb : Addr) (c full least air : Int) (L : List (Int × Int)) (bs : List Int), vs = [.ref t, .ref r, .ref p, .ref pb] ∧ TapeAt H t c ∧ c ≤ 90000 ∧ RowAt t H r full least air L ∧ MetalAt C H p full least air L ∧
  H pb = some (.lst (bs.map V.int)) ∧ pb ≠ t ∧ bs.length ≤ 50 ∧ (∀ z ∈ bs, 0 ≤ z ∧ z ≤ 5000000000000) ∧ ∀ H', TapeAt H' t (c + 5) → SameBut t H H' → Q (.bl true) H'
abbrev sLsame_right : Stmt := top 21
theorem scLsame_right : FnScope ["_law_tape_here", "_law_row", "_law_own", "_law_beats", "_law_full", "_law_least", "_law_losses_here", "_law_air", "_law_at", "_law_part", "_law_number", "_law_loss", "_law_some", "_law_more", "_law_other", "_law_twice", "_law_one"] ["_law_tape_here", "_law_row", "_law_own", "_law_beats"] (defScope sLsame_right) := ⟨rfl, rfl, rfl, by decide +kernel, rfl, by decide +kernel, by decide +kernel⟩
theorem ok_same_right {f C : Addr} {fd : FuncData} (F : Fun K "_law_same_right" "_law_same_right" sLsame_right f fd) (T : Txt mg tM tL) (DLdraw : DDraw P w K mg base) (DLmade : Df P w K mg base "_law_made" 6 ["_law_row"] (spMade C)) (Dlife : Dm P w K mg base C "life" 3 ["self"] (spLife C)) (Dheat : DHeat P w K mg base C) :
    FnOk P w K mg base CX0 7 f fd ["_law_tape_here", "_law_row", "_law_own", "_law_beats"] (spRight C) := by
  refine F.ok scLsame_right (fun vs H Q E h => ?_) (fun cdv A outer s H vs Q E hr h => ?_)
  · obtain ⟨t, r, p, pb, c, full, least, air, L, bs, rfl, _⟩ := h
    rfl
  · obtain ⟨t, r, p, pb, c, full, least, air, L, bs, rfl, hT, hc, R, M, hpb, npb, lbs, hbs, q⟩ := h
    refine ⟨_, (pss_cons (ps_asg (pv 1) (pg_tup rfl (pgs_cons (pg_name (i := 4) scLsame_right.nd rfl (Or.inl rfl)) (pgs_cons (pg_name (i := 5) scLsame_right.nd rfl (Or.inl rfl)) (pgs_cons (pg_name (i := 6) scLsame_right.nd rfl (Or.inl rfl)) (pgs_cons (pg_name (i := 7) scLsame_right.nd rfl (Or.inl rfl)) pgs_nil))))))
    (pss_cons (ps_par (i := 8) (j := 9) (by rfl) scLsame_right.nd rfl rfl (by decide) rfl rfl (pa_cons (pe_fn DLdraw (hr.mono (by decide)) (pa_cons (pv 0) (pa_cons (pe_callB call_len_seq (by rfl) T.zlen (by decide +kernel) (pa_cons (pv 6) pa_nil)) pa_nil))) (pa_cons (pe_op op_add pe_int (pe_fn DLdraw (hr.mono (by decide)) (pa_cons (pv 0) (pa_cons pe_int pa_nil)))) pa_nil)) (by rfl))
    (pss_cons (ps_asg (pe_ix ix_list (pv 6) (pv 8) (fun _ _ => rfl)) (pg_tup rfl (pgs_cons (pg_name (i := 10) scLsame_right.nd rfl (Or.inl rfl)) (pgs_cons (pg_name (i := 11) scLsame_right.nd rfl (Or.inl rfl)) pgs_nil))))
    (pss_cons (ps_set (i := 12) scLsame_right.nd rfl (Or.inl rfl) (pe_lst (pa_cons (pe_op op_cat (pe_slice sl_list (pv 6) po_none (po_some (pe_un un_neg pe_int))) (pe_lst (pa_cons (pe_tup (pa_cons (pe_op op_add pe_int (pe_fn DLdraw (hr.mono (by decide)) (pa_cons (pv 0) (pa_cons (pe_op op_pow pe_int pe_int) pa_nil)))) (pa_cons (pe_ix ix_tup (pe_ix ix_list (pv 6) (pe_un un_neg pe_int) (fun _ _ => rfl)) pe_int (fun _ _ => rfl)) pa_nil))) pa_nil))) pa_nil)))
    (C8.pss_cut (ps_if (PW.pt (pw_and (pt_cmp (pc_gt (pv 10) (pv 9))) (pw_and1 (pt_cmp (pc_lt (pe_callB call_len_seq (by rfl) T.zlen (by decide +kernel) (pa_cons (pv 6) pa_nil)) pe_int))))) (pss_one (ps_expr (pe_bm PySem.F.plainAttrs_list PySem.F.slot_list_append PySem.F.type_list_append mt_append (pv 12) (pa_cons (pe_op op_cat (pe_op op_cat (pe_slice sl_list (pv 6) po_none (po_some (pv 8))) (pe_lst (pa_cons (pe_tup (pa_cons (pv 9) (pa_cons (pv 11) pa_nil))) (pa_cons (pe_tup (pa_cons (pe_op op_sub (pv 10) (pv 9)) (pa_cons (pv 11) pa_nil))) pa_nil)))) (pe_slice sl_list (pv 6) (po_some (pe_op op_add (pv 8) pe_int)) po_none)) pa_nil)))) pss_nil)
    (pss_cons (ps_for PassesOwn.never rfl (pi_list (pv 12)) (pg_name (i := 13) scLsame_right.nd rfl (Or.inl rfl))
    (pss_cons (ps_set (i := 14) scLsame_right.nd rfl (Or.inr rfl) (pe_fn DLmade (hr.mono (by decide)) (pa_cons (pe_tup (pa_cons (pv 4) (pa_cons (pv 5) (pa_cons (pv 13) (pa_cons (pv 7) pa_nil))))) pa_nil)))
    (pss_cons (ps_if (pt_cmpR (op_neD hr.units) (pe_lc (own := [("_law_one", 16)]) (g := gName 16) (tt := tYes) (by rfl) scLsame_right.nd (pi_list (pv 3)) (blkOk_by (own := [("_law_one", 16)]) (N := ["_law_tape_here", "_law_row", "_law_own", "_law_beats", "_law_full", "_law_least", "_law_losses_here", "_law_air", "_law_at", "_law_part", "_law_number", "_law_loss", "_law_some", "_law_more", "_law_other", "_law_twice", "_law_one"]) (sc := defScope sLsame_right) (by decide +kernel)) (fun _ _ _ _ _ => (pg_name (i := 16) scLsame_right.nd rfl (Or.inl rfl))) (fun _ _ _ _ _ => pts_nil) (fun _ _ _ _ _ => (pe_heat1 (C := C) Dheat (hr.mono (by decide)) (pv 14) (pa_cons (pv 16) pa_nil)))) (pe_lc (own := [("_law_one", 16)]) (g := gName 16) (tt := tYes) (by rfl) scLsame_right.nd (pi_list (pv 3)) (blkOk_by (own := [("_law_one", 16)]) (N := ["_law_tape_here", "_law_row", "_law_own", "_law_beats", "_law_full", "_law_least", "_law_losses_here", "_law_air", "_law_at", "_law_part", "_law_number", "_law_loss", "_law_some", "_law_more", "_law_other", "_law_twice", "_law_one"]) (sc := defScope sLsame_right) (by decide +kernel)) (fun _ _ _ _ _ => (pg_name (i := 16) scLsame_right.nd rfl (Or.inl rfl))) (fun _ _ _ _ _ => pts_nil) (fun _ _ _ _ _ => (pe_heat1 (C := C) Dheat (hr.mono (by decide)) (pv 2) (pa_cons (pv 16) pa_nil)))) (nomark _)) (pss_one (ps_ret pe_bl)) pss_nil)
    (pss_one (ps_if (pt_cmpR op_ne (pe_mt0 (C := C) Dlife (hr.mono (by decide)) (pv 14)) (pe_mt0 (C := C) Dlife (hr.mono (by decide)) (pv 2)) (nomark _)) (pss_one (ps_ret pe_bl)) pss_nil)))))
    (pss_cons (ps_if (PW.pt (pw_or (pt_cmp (pc_gt (pv 4) pe_int)) (pw_or1 (pt_cmp (pc_gt (pe_callB (cr_max rfl) (by rfl) T.zmax (by decide +kernel) (pa_cons (pe_lc (own := [("_law_number", 10), ("_law_loss", 11)]) (g := gTup K 2 (gCons (gName 10) (gCons (gName 11) gNil))) (tt := tYes) (by rfl) scLsame_right.nd (pi_list (pv 6)) (blkOk_by (own := [("_law_number", 10), ("_law_loss", 11)]) (N := ["_law_tape_here", "_law_row", "_law_own", "_law_beats", "_law_full", "_law_least", "_law_losses_here", "_law_air", "_law_at", "_law_part", "_law_number", "_law_loss", "_law_some", "_law_more", "_law_other", "_law_twice", "_law_one"]) (sc := defScope sLsame_right) (by decide +kernel)) (fun _ _ _ _ _ => (pg_tup rfl (pgs_cons (pg_name (i := 10) scLsame_right.nd rfl (Or.inl rfl)) (pgs_cons (pg_name (i := 11) scLsame_right.nd rfl (Or.inl rfl)) pgs_nil)))) (fun _ _ _ _ _ => pts_nil) (fun _ _ _ _ _ => (pv 11))) pa_nil)) pe_int))))) (pss_one (ps_ret pe_bl)) pss_nil)
    (pss_cons (ps_set (i := 15) scLsame_right.nd rfl (Or.inr rfl) (pe_fn DLmade (hr.mono (by decide)) (pa_cons (pe_tup (pa_cons (pe_op op_mul pe_int (pv 4)) (pa_cons (pe_op op_mul pe_int (pv 5)) (pa_cons (pe_lc (own := [("_law_number", 10), ("_law_loss", 11)]) (g := gTup K 2 (gCons (gName 10) (gCons (gName 11) gNil))) (tt := tYes) (by rfl) scLsame_right.nd (pi_list (pv 6)) (blkOk_by (own := [("_law_number", 10), ("_law_loss", 11)]) (N := ["_law_tape_here", "_law_row", "_law_own", "_law_beats", "_law_full", "_law_least", "_law_losses_here", "_law_air", "_law_at", "_law_part", "_law_number", "_law_loss", "_law_some", "_law_more", "_law_other", "_law_twice", "_law_one"]) (sc := defScope sLsame_right) (by decide +kernel)) (fun _ _ _ _ _ => (pg_tup rfl (pgs_cons (pg_name (i := 10) scLsame_right.nd rfl (Or.inl rfl)) (pgs_cons (pg_name (i := 11) scLsame_right.nd rfl (Or.inl rfl)) pgs_nil)))) (fun _ _ _ _ _ => pts_nil) (fun _ _ _ _ _ => (pe_tup (pa_cons (pv 10) (pa_cons (pe_op op_mul pe_int (pv 11)) pa_nil))))) (pa_cons (pe_op op_mul pe_int (pv 7)) pa_nil))))) pa_nil)))
    (pss_cons (ps_if (pt_cmpR op_ne (pe_mt0 (C := C) Dlife (hr.mono (by decide)) (pv 15)) (pe_mt0 (C := C) Dlife (hr.mono (by decide)) (pv 2)) (nomark _)) (pss_one (ps_ret pe_bl)) pss_nil)
    (pss_one (ps_ret (pe_cmpR (op_eqD hr.units) (pe_lc (own := [("_law_one", 16)]) (g := gName 16) (tt := tYes) (by rfl) scLsame_right.nd (pi_list (pv 3)) (blkOk_by (own := [("_law_one", 16)]) (N := ["_law_tape_here", "_law_row", "_law_own", "_law_beats", "_law_full", "_law_least", "_law_losses_here", "_law_air", "_law_at", "_law_part", "_law_number", "_law_loss", "_law_some", "_law_more", "_law_other", "_law_twice", "_law_one"]) (sc := defScope sLsame_right) (by decide +kernel)) (fun _ _ _ _ _ => (pg_name (i := 16) scLsame_right.nd rfl (Or.inl rfl))) (fun _ _ _ _ _ => pts_nil) (fun _ _ _ _ _ => (pe_heat1 (C := C) Dheat (hr.mono (by decide)) (pv 15) (pa_cons (pv 16) pa_nil)))) (pe_lc (own := [("_law_one", 16)]) (g := gName 16) (tt := tYes) (by rfl) scLsame_right.nd (pi_list (pv 3)) (blkOk_by (own := [("_law_one", 16)]) (N := ["_law_tape_here", "_law_row", "_law_own", "_law_beats", "_law_full", "_law_least", "_law_losses_here", "_law_air", "_law_at", "_law_part", "_law_number", "_law_loss", "_law_some", "_law_more", "_law_other", "_law_twice", "_law_one"]) (sc := defScope sLsame_right) (by decide +kernel)) (fun _ _ _ _ _ => (pg_name (i := 16) scLsame_right.nd rfl (Or.inl rfl))) (fun _ _ _ _ _ => pts_nil) (fun _ _ _ _ _ => (pe_op op_mul pe_int (pe_heat1 (C := C) Dheat (hr.mono (by decide)) (pv 2) (pa_cons (pv 16) pa_nil))))) (nomark _))))))))))))), ?_⟩
    have VD := R.vd
    have G := R.good
    obtain ⟨⟨ll, xs, hrow, hll, nlt, hP⟩, _, n1, n2, n3, n4, n5⟩ := id R
    have hxl := hP.len
    have L0pos : 0 < L.length := List.length_pos_iff.mpr G.1
    have L6 := G.2.1
    -- _law_full, .. = _law_row
    refine ⟨_, rfl, r, _, rfl, SqT.of hrow, rfl, _, _, rfl, _, _, rfl, _, _, rfl, _, _, rfl, rfl, ?_⟩
    -- _law_at, _law_part
    refine ⟨_, rfl, _, rfl, ll, _, rfl, .inl (SqL.of hll), t, c, _, rfl, hT, by omega, by omega, by omega, fun at_ H1 a0 a1 T1 S1 => ?_⟩
    refine ⟨_, rfl, t, _, 50, rfl, T1, by omega, by decide, by decide, fun pt H2 b0 b1 T2 S2 => ?_⟩
    refine ⟨1, pt, rfl, rfl, _, _, rfl, ?_⟩
    have SB2 : SameBut t H H2 := S1.trans S2
    have hll2 : H2 ll = some (.lst xs) := SB2 _ _ hll nlt
    have P2 : PairsAt H2 xs L := SB2.pairs hT hP
    -- _law_number, _law_loss = _law_losses_here[_law_at]
    have hat : at_.toNat < xs.length := by omega
    obtain ⟨tp, num, los, hx, htp, hLat⟩ := P2.get (List.getElem?_eq_getElem hat)
    obtain ⟨k1, k2, k3, k4⟩ := good_at G hLat
    refine ⟨_, rfl, _, rfl, ll, _, at_, .ref tp, rfl, rfl, SqL.of hll2, at_of (j := at_.toNat) (by omega) (by rw [List.getElem?_eq_getElem hat, hx]), tp, _, rfl, SqT.of htp, rfl, _, _, rfl, _, _, rfl, rfl, ?_⟩
    -- _law_some
    obtain ⟨L0, lq, eL⟩ := G.split
    have P2' := P2
    rw [eL] at P2'
    obtain ⟨zs, u, ex, hZ, hu⟩ := P2'.unsnoc
    refine ⟨_, rfl, 1, rfl, _, rfl, ll, _, rfl, SqL.of hll2, fun s1 hs1 => ?_⟩
    have cutz : cutV xs none (some (-1)) = zs := by rw [ex]; exact cut_last _ _
    have e6 : (10 : Int) ^ (6 : Int).toNat = 1000000 := by decide
    have ns1t : s1 ≠ t := T2.ne hs1
    refine ⟨_, rfl, 10, 6, rfl, rfl, pow6, t, _, _, rfl, T2.new hs1, by omega, (by rw [e6]; decide), (by rw [e6]; decide), fun rr H4 c0 c1 T4 S4 => ?_⟩
    refine ⟨1, rr, rfl, rfl, ?_⟩
    rw [e6] at c1
    have SB4 : SameBut t H2 H4 := (Same.but (same_new hs1)).trans S4
    have hs14 : H4 s1 = some (.lst zs) := by
      have := S4 _ _ (upd_same (H := H2) (a := s1) (o := .lst (cutV xs none (some (-1))))) ns1t
      rw [cutz] at this
      exact this
    have hll4 : H4 ll = some (.lst xs) := SB4 _ _ hll2 nlt
    have hu4 := SB4.tup T2 hu
    refine ⟨_, rfl, 1, rfl, ll, _, _, .ref u, rfl, rfl, SqL.of hll4, (by rw [ex]; exact atI_last _ _), u, _, 1, .int lq.2, rfl, rfl, SqT.of hu4, rfl, (by show 2 ≤ sizeLine; decide), fun tq htq => ?_⟩
    refine ⟨(by show 1 ≤ sizeLine; decide), fun l1 hl1 => ?_⟩
    have s45 : Same H4 (upd H4 tq (.tup [.int (1 + rr), .int lq.2])) := same_new htq
    have s46 : Same H4 (upd (upd H4 tq (.tup [.int (1 + rr), .int lq.2])) l1 (.lst [.ref tq])) := s45.trans (same_new hl1)
    refine ⟨s1, l1, _, _, rfl, rfl, s46 _ _ hs14, upd_same, ?_, fun cc hcc => ?_⟩
    · have := hZ.len
      have e2 := congrArg List.length eL
      rw [List.length_append] at e2
      exact Nat.le_trans (show zs.length + 1 ≤ 7 by simp at e2; omega) (by decide)
    refine ⟨(by show 1 ≤ sizeLine; decide), fun so hso => ?_⟩
    generalize hH5 : upd (upd (upd (upd H4 tq (.tup [.int (1 + rr), .int lq.2])) l1 (.lst [.ref tq])) cc (.lst (zs ++ [.ref tq]))) so (.lst [.ref cc]) = H5
    have s6 : Same (upd (upd H4 tq (.tup [.int (1 + rr), .int lq.2])) l1 (.lst [.ref tq])) H5 := by
      rw [← hH5]
      exact (same_new hcc).trans (same_new hso)
    have s5 : Same H4 H5 := s46.trans s6
    have hso5 : H5 so = some (.lst [.ref cc]) := by rw [← hH5]; exact upd_same
    have hcc5 : H5 cc = some (.lst (zs ++ [.ref tq])) := by
      rw [← hH5]
      exact (same_new hso) _ _ upd_same
    have htq5 : H5 tq = some (.tup [.int (1 + rr), .int lq.2]) := s6 _ _ ((same_new hl1) _ _ upd_same)
    have T5 : TapeAt H5 t (c + 3) := (T4.same s5).mono (by omega)
    have SB5 : SameBut t H H5 := (SB2.trans SB4).trans (Same.but s5)
    have ncct : cc ≠ t := (T4.same s46).ne hcc
    have nsot : so ≠ t := ((T4.same s46).same (same_new hcc)).ne hso
    have P5 : PairsAt H5 xs L := SB5.pairs hT hP
    have hZ5 : PairsAt H5 zs L0 := Same.pairs s5 (SB4.pairs T2 hZ)
    have M1 : MoreAt t H5 (.ref cc) L := by
      refine ⟨cc, _, L0 ++ [(1 + rr, lq.2)], rfl, hcc5, ncct, hZ5.snoc htq5, ⟨by simp, ?_, ?_⟩, fun b hb => ?_⟩
      · have := congrArg List.length eL
        rw [List.length_append] at this ⊢
        simp at this ⊢
        omega
      · intro x hx'
        rcases List.mem_append.mp hx' with h | h
        · exact G.2.2 x (by rw [eL]; exact List.mem_append_left _ h)
        · rw [List.mem_singleton] at h
          have := G.2.2 lq (by rw [eL]; exact List.mem_append_right _ (List.mem_singleton.mpr rfl))
          rw [h]
          exact ⟨by show 1 ≤ 1 + rr; omega, by show 1 + rr ≤ 1000000; omega, this.2.2.1, this.2.2.2⟩
      · rw [eL]
        exact HM.lost_last lq.2 (1 + rr) lq.1 L0 b
    show C8.tCut _ _ _ _ H5
    -- the list of what is otherwise
    refine ⟨fun σ H6 => ∃ ms : List V, σ = [some (.ref t), some (.ref r), some (.ref p), some (.ref pb), some (.int full), some (.int least), some (.ref ll), some (.int air), some (.int at_), some (.int (1 + pt)), some (.int num), some (.int los), some (.ref so), none, none, none, none] ∧
      H6 so = some (.lst ms) ∧ ms.length ≤ 2 ∧ (∀ m ∈ ms, MoreAt t H6 m L) ∧ TapeAt H6 t (c + 3) ∧ SameBut t H H6, ?_, ?_⟩
    · have base1 : ∃ ms : List V, [some (V.ref t), some (V.ref r), some (V.ref p), some (V.ref pb), some (V.int full), some (V.int least), some (V.ref ll), some (V.int air), some (V.int at_), some (V.int (1 + pt)), some (V.int num), some (V.int los), some (V.ref so), none, none, none, none] = [some (V.ref t), some (V.ref r), some (V.ref p), some (V.ref pb), some (V.int full), some (V.int least), some (V.ref ll), some (V.int air), some (V.int at_), some (V.int (1 + pt)), some (V.int num), some (V.int los), some (V.ref so), none, none, none, none] ∧
          H5 so = some (.lst ms) ∧ ms.length ≤ 2 ∧ (∀ m ∈ ms, MoreAt t H5 m L) ∧ TapeAt H5 t (c + 3) ∧ SameBut t H H5 :=
        ⟨[.ref cc], rfl, hso5, (by show 1 ≤ 2; decide), fun m hm => by rw [List.mem_singleton] at hm; rw [hm]; exact M1, T5, SB5⟩
      refine ⟨_, rfl, _, rfl, num, 1 + pt, rfl, rfl, _, rfl, iteD (fun d1 => ?_) (fun d1 => iteF base1)⟩
      have hll5 : H5 ll = some (.lst xs) := SB5 _ _ hll nlt
      refine ⟨_, rfl, ll, _, rfl, .inl (SqL.of hll5), _, 6, rfl, rfl, _, rfl, iteD (fun d2 => ?_) (fun d2 => base1)⟩
      -- parted in two
      refine ⟨_, rfl, .inl ⟨rfl, _, SqL.of hso5⟩, _, rfl, _, rfl, _, rfl, ll, _, rfl, SqL.of hll5, fun x1 hx1 => ?_⟩
      refine ⟨_, rfl, _, rfl, (by show 2 ≤ sizeLine; decide), fun t1 ht1 => ?_⟩
      refine ⟨_, rfl, _, rfl, num, 1 + pt, rfl, rfl, _, rfl, (by show 2 ≤ sizeLine; decide), fun t2 ht2 => ?_⟩
      refine ⟨(by show 2 ≤ sizeLine; decide), fun x2 hx2 => ?_⟩
      have ca : cutV xs none (some at_) = xs.take at_.toNat := by
        have := cut_take xs at_.toNat
        rw [show ((at_.toNat : Nat) : Int) = at_ by omega] at this
        exact this
      have cb : cutV xs (some (at_ + 1)) none = xs.drop (at_.toNat + 1) := by
        have := cut_drop xs (at_.toNat + 1)
        rw [show ((at_.toNat + 1 : Nat) : Int) = at_ + 1 by omega] at this
        exact this
      generalize hK1 : upd (upd (upd H5 x1 (.lst (cutV xs none (some at_)))) t1 (.tup [.int (1 + pt), .int los])) t2 (.tup [.int (num - (1 + pt)), .int los]) = K1 at hx2
      have q1 : Same (upd H5 x1 (.lst (cutV xs none (some at_)))) K1 := by rw [← hK1]; exact (same_new ht1).trans (same_new ht2)
      have q0 : Same H5 K1 := (same_new hx1).trans q1
      have hx1K : K1 x1 = some (.lst (xs.take at_.toNat)) := by rw [← ca]; exact q1 _ _ upd_same
      have ht1K : K1 t1 = some (.tup [.int (1 + pt), .int los]) := by rw [← hK1]; exact (same_new ht2) _ _ upd_same
      have ht2K : K1 t2 = some (.tup [.int (num - (1 + pt)), .int los]) := by rw [← hK1]; exact upd_same
      refine ⟨x1, x2, _, _, rfl, rfl, (same_new hx2) _ _ hx1K, upd_same, ?_, fun x3 hx3 => ?_⟩
      · rw [List.length_take]
        exact Nat.le_trans (show min at_.toNat xs.length + 2 ≤ 8 by omega) (by decide)
      have q2 : Same K1 (upd (upd K1 x2 (.lst [.ref t1, .ref t2])) x3 (.lst (xs.take at_.toNat ++ [.ref t1, .ref t2]))) := (same_new hx2).trans (same_new hx3)
      refine ⟨_, rfl, _, rfl, at_, 1, rfl, rfl, _, rfl, ll, _, rfl, SqL.of (q2 _ _ (q0 _ _ hll5)), fun x4 hx4 => ?_⟩
      refine ⟨x3, x4, _, _, rfl, rfl, (same_new hx4) _ _ upd_same, upd_same, ?_, fun x5 hx5 => ?_⟩
      · rw [List.length_append, List.length_take]
        have := cutV_length xs (some (at_ + 1)) none
        exact Nat.le_trans (show min at_.toNat xs.length + 2 + (cutV xs (some (at_ + 1)) none).length ≤ 14 by omega) (by decide)
      generalize hK2 : upd (upd (upd (upd K1 x2 (.lst [.ref t1, .ref t2])) x3 (.lst (xs.take at_.toNat ++ [.ref t1, .ref t2]))) x4 (.lst (cutV xs (some (at_ + 1)) none))) x5 (.lst (xs.take at_.toNat ++ [.ref t1, .ref t2] ++ cutV xs (some (at_ + 1)) none)) = K2
      have q3 : Same K1 K2 := by rw [← hK2]; exact (q2.trans (same_new hx4)).trans (same_new hx5)
      have hx5K : K2 x5 = some (.lst (xs.take at_.toNat ++ [.ref t1, .ref t2] ++ cutV xs (some (at_ + 1)) none)) := by rw [← hK2]; exact upd_same
      have hsoK : K2 so = some (.lst [.ref cc]) := q3 _ _ (q0 _ _ hso5)
      have T6 : TapeAt K2 t (c + 3) := (T5.same q0).same q3
      have nx5 : x5 ≠ t := by
        refine TapeAt.ne (H := upd (upd (upd K1 x2 (.lst [.ref t1, .ref t2])) x3 (.lst (xs.take at_.toNat ++ [.ref t1, .ref t2]))) x4 (.lst (cutV xs (some (at_ + 1)) none))) (c := c + 3) ?_ hx5
        exact ((T5.same q0).same q2).new hx4
      have nx5s : x5 ≠ so := by
        intro e
        rw [e, hsoK] at hx5K
        have e3 := congrArg (fun o : Option HO => match o with | some (.lst l) => l.length | _ => 0) hx5K
        simp at e3
        omega
      show ∃ _, _
      refine ⟨so, _, _, rfl, rfl, hsoK, (by show 1 < sizeLine; decide), ?_⟩
      have P6 : PairsAt K2 xs L := Same.pairs (q0.trans q3) P5
      have mem_t : ∀ (K3 : Hp), (∀ b o, K2 b = some o → b ≠ so → K3 b = some o) → ∀ m, MoreAt t H5 m L → MoreAt t K3 m L := by
        intro K3 hk m hm
        obtain ⟨qq, ys, L', e, h1, h2, h3, h4, h5⟩ := hm
        have hq2 : K2 qq = some (.lst ys) := q3 _ _ (q0 _ _ h1)
        have nqs : qq ≠ so := by
          intro e'
          rw [e', hso5] at h1
          have h1' : [V.ref cc] = ys := by injection (Option.some.inj h1)
          have e3 := h3.len
          cases h3 with
          | nil => cases h1'
          | @cons t3 m3 l3 xs3 L3 hh rr3 =>
            injection h1' with g1 g2
            injection g1 with g1
            rw [← g1, hcc5] at hh
            cases hh
        refine ⟨qq, ys, L', e, hk _ _ hq2 nqs, h2, h3.move fun a zs' e' => ?_, h4, h5⟩
        exact hk _ _ (q3 _ _ (q0 _ _ e')) (ne_of (q3 _ _ (q0 _ _ e')) hsoK (by intro z; cases z))
      refine ⟨[.ref cc, .ref x5], rfl, upd_same, (by show 2 ≤ 2; decide), ?_, ?_, ?_⟩
      · intro m hm
        simp only [List.mem_cons, List.not_mem_nil, or_false] at hm
        have hk : ∀ b o, K2 b = some o → b ≠ so → (upd K2 so (.lst ([.ref cc] ++ [.ref x5]))) b = some o := fun b o e n => by rw [upd_ne n]; exact e
        rcases hm with h | h
        · rw [h]
          exact mem_t _ hk _ M1
        · rw [h]
          have eL2 : L = L.take at_.toNat ++ (num, los) :: L.drop (at_.toNat + 1) := by
            have := drop_at hLat
            rw [← this, List.take_append_drop]
          have hkt : ∀ a ys, K2 a = some (.tup ys) → (upd K2 so (.lst ([.ref cc] ++ [.ref x5]))) a = some (.tup ys) := fun a ys e => hk _ _ e (ne_of e hsoK (by intro z; cases z))
          refine ⟨x5, _, L.take at_.toNat ++ (1 + pt, los) :: (num - (1 + pt), los) :: L.drop (at_.toNat + 1), rfl, hk _ _ hx5K nx5s, nx5, ?_, ⟨by simp, ?_, ?_⟩, fun b hb => ?_⟩
          · rw [cb]
            have z1 : PairsAt K2 (xs.take at_.toNat ++ [.ref t1, .ref t2] ++ xs.drop (at_.toNat + 1)) ((L.take at_.toNat ++ [(1 + pt, los), (num - (1 + pt), los)]) ++ L.drop (at_.toNat + 1)) :=
              ((P6.take _).append (.cons (q3 _ _ ht1K) (.cons (q3 _ _ ht2K) .nil))).append (P6.drop _)
            have z2 : (L.take at_.toNat ++ [(1 + pt, los), (num - (1 + pt), los)]) ++ L.drop (at_.toNat + 1) = L.take at_.toNat ++ (1 + pt, los) :: (num - (1 + pt), los) :: L.drop (at_.toNat + 1) := by
              rw [List.append_assoc]
              rfl
            rw [z2] at z1
            exact z1.move hkt
          · rw [List.length_append, List.length_cons, List.length_cons, List.length_take, List.length_drop]
            have : (xs.length : Int) < 6 := d2
            omega
          · intro x hx'
            have k1' : 1 ≤ num := k1
            have k2' : num ≤ 1000000 := k2
            have d1' : 1 + pt < num := d1
            rcases List.mem_append.mp hx' with h | h
            · exact G.2.2 x (List.mem_of_mem_take h)
            · rcases List.mem_cons.mp h with h | h
              · rw [h]; exact ⟨by show 1 ≤ 1 + pt; omega, by show 1 + pt ≤ 1000000; omega, k3, k4⟩
              · rcases List.mem_cons.mp h with h | h
                · rw [h]; exact ⟨by show 1 ≤ num - (1 + pt); omega, by show num - (1 + pt) ≤ 1000000; omega, k3, k4⟩
                · exact G.2.2 x (List.mem_of_mem_drop h)
          · have := HM.lost_split (L.take at_.toNat) (L.drop (at_.toNat + 1)) num los (1 + pt) b (by rw [← eL2]; exact VD.g) (by omega) d1 hb
            rw [← eL2] at this
            exact this
      · obtain ⟨a', b', k', g1, g2⟩ := T6
        exact ⟨a', b', k', by rw [upd_ne nsot.symm]; exact g1, g2⟩
      · intro b o e n
        have hfree : H so = none := by
          refine SB2.free T2 ?_
          refine SB4.free T4 ?_
          exact s46.free ((same_new hcc).free hso)
        rw [upd_ne (ne_of_none e hfree)]
        exact q3 _ _ (q0 _ _ (SB5 _ _ e n))
    · rintro σ H6 ⟨ms, rfl, hso6, lms, hMs, T6, SB6⟩
      have M6 : MetalAt C H6 p full least air L := M.but SB6 hT
      have hpb6 : H6 pb = some (.lst (bs.map V.int)) := SB6 _ _ hpb npb
      -- for _law_more in _law_some
      refine ⟨_, rfl, so, rfl, ⟨_, SqL.of hso6⟩, ?_⟩
      refine for_list (K := K) (a := so) (xs := ms) (fun i σ H7 => ∃ v13 v14 : Option V, σ = [some (.ref t), some (.ref r), some (.ref p), some (.ref pb), some (.int full), some (.int least), some (.ref ll), some (.int air), some (.int at_), some (.int (1 + pt)), some (.int num), some (.int los), some (.ref so), v13, v14, none, none] ∧ Same H6 H7)
        ⟨_, _, rfl, Same.refl _⟩ (fun i σ H7 _ ⟨_, _, _, h⟩ => SqL.of (h _ _ hso6)) ?_ ?_
      · rintro i x σ H7 hi ⟨v13, v14, rfl, s7⟩
        obtain ⟨qq, ys, L', rfl, h1, h2, h3, h4, h5⟩ := (hMs x (List.mem_of_getElem? hi)).same s7
        refine ⟨_, rfl, _, rfl, _, rfl, _, rfl, (by show 4 ≤ sizeLine; decide), fun tp2 htp2 => ?_⟩
        have V' : HM.Vd full least air L' := ⟨h4.2.2, h4.1, h4.2.1, n1, n2, n3, n4, n5⟩
        refine ⟨tp2, qq, ys, L', full, least, air, rfl, upd_same, (same_new htp2) _ _ h1, Same.pairs (same_new htp2) h3, V', fun p2 H8 M8 s8 => ?_⟩
        have s78 : Same H7 H8 := (same_new htp2).trans s8
        have s68 : Same H6 H8 := s7.trans s78
        have hh : ∀ b, 0 ≤ b → HM.heatAt full air L' b = HM.heatAt full air L b := fun b hb => by
          unfold HM.heatAt
          rw [h5 b hb]
        obtain ⟨dx8, tt8, ys8, hm8, _, _⟩ := id M8.ex
        obtain ⟨dx9, tt9, ys9, hm9, _, _⟩ := id (M6.same s68).ex
        refine ⟨_, rfl, pb, rfl, ⟨_, SqL.of (s68 _ _ hpb6)⟩, fun D1 hD1 => lc_ints (fun z => V.int (HM.heatAt full air L z)) (s68 _ _ hpb6) hD1 (by omega) (fun _ => rfl) (fun z hz H' s' Q' q' => ?_) (fun H9 hD1' s9 => ?_)⟩
        · refine ⟨_, rfl, p2, dx8, _, rfl, s' _ _ hm8, mf_heat _ _ _ _, _, rfl, ?_⟩
          refine heat_item M8 h4 (hbs z hz).1 (by have := (hbs z hz).2; omega) s' fun H'' s'' => ?_
          rw [hh z (hbs z hz).1]
          exact q' H'' s''
        refine ⟨_, rfl, pb, rfl, ⟨_, SqL.of (s9 _ _ (s68 _ _ hpb6))⟩, fun D2 hD2 => lc_ints (fun z => V.int (HM.heatAt full air L z)) (s9 _ _ (s68 _ _ hpb6)) hD2 (by omega) (fun _ => rfl) (fun z hz H' s' Q' q' => ?_) (fun H10 hD2' s10 => ?_)⟩
        · refine ⟨_, rfl, p, dx9, _, rfl, s' _ _ (s9 _ _ hm9), mf_heat _ _ _ _, _, rfl, ?_⟩
          exact heat_item ((M6.same s68).same s9) G (hbs z hz).1 (by have := (hbs z hz).2; omega) s' q'
        rw [map_V] at hD1' hD2'
        refine ⟨_, _, .lst (SqL.of (s10 _ _ hD1')) (dp_ints _), .lst (SqL.of hD2') (dp_ints _), PySem.W.ke_shaped_ints _, PySem.W.ke_shaped_ints _, _, rfl, ?_⟩
        rw [eqv_ints]
        refine iteF ?_
        -- as long
        have s810 : Same H8 H10 := s9.trans s10
        refine ⟨_, rfl, p2, dx8, _, rfl, s810 _ _ hm8, mf_life _ _ _ _, p2, full, least, air, L', rfl, M8.same s810, h4, n3, n1, fun H11 s11 => ?_⟩
        have M11 := ((M6.same s68).same s810).same s11
        obtain ⟨dx11, tt11, ys11, hm11, _, _⟩ := id M11.ex
        refine ⟨_, rfl, p, dx11, _, rfl, hm11, mf_life _ _ _ _, p, full, least, air, L, rfl, M11, G, n3, n1, fun H12 s12 => ?_⟩
        have el : lifeOf full least air L' = lifeOf full least air L := by
          unfold lifeOf
          rw [HM.cools_eq V' VD (fun b hb => by rw [hh b hb])]
        rw [el]
        refine ⟨scal_opt _, _, rfl, iteN rfl ?_⟩
        exact ⟨_, _, rfl, ((s68.trans s810).trans s11).trans s12⟩
      · rintro σ H7 ⟨v13, v14, rfl, s7⟩
        have M7 := M6.same s7
        have T7 := T6.same s7
        have hpb7 := s7 _ _ hpb6
        have SB7 : SameBut t H H7 := SB6.trans (Same.but s7)
        have hll7 : H7 ll = some (.lst xs) := SB7 _ _ hll nlt
        have P7 : PairsAt H7 xs L := SB7.pairs hT hP
        have fin : ∀ H', Same H7 H' → Q (.bl true) H' := fun H' s' => q H' ((T7.same s').mono (by omega)) (SB7.trans (Same.but s'))
        refine ⟨_, rfl, full, 500000, rfl, rfl, _, rfl, iteD (fun d1 => iteT (fin H7 (Same.refl _))) (fun d1 => ?_)⟩
        -- the greatest loss
        refine ⟨_, rfl, ll, rfl, ⟨_, SqL.of hll7⟩, fun D hD => ?_⟩
        refine lc_list (K := K) (a := ll) (xs := xs) (fun i H' => H' D = some (.lst (((L.map (·.2)).take i).map V.int)) ∧ Same H7 H')
          ⟨by rw [upd_same, List.take_zero]; rfl, same_new hD⟩ (fun i H' _ ⟨_, h⟩ => SqL.of (h _ _ hll7)) ?_ ?_
        · rintro i x H' hi ⟨hd, s8⟩
          obtain ⟨tp3, m3, l3, rfl, htp3, hL3⟩ := P7.get hi
          refine ⟨tp3, _, rfl, SqT.of (s8 _ _ htp3), rfl, _, _, rfl, _, _, rfl, rfl, ?_⟩
          refine ⟨rfl, ?_⟩
          refine ⟨_, rfl, _, hd, ?_, ?_, ?_⟩
          · rw [List.length_map, List.length_take, List.length_map]
            exact Nat.lt_of_le_of_lt (show min i L.length ≤ 6 by omega) (by decide)
          · have : (L.map (·.2))[i]? = some l3 := by rw [List.getElem?_map, hL3]; rfl
            rw [upd_same, take_more this, List.map_append]
            rfl
          · intro b o e
            rw [upd_ne (ne_of_none e hD)]
            exact s8 _ _ e
        · rintro H' ⟨hd, s8⟩
          rw [hxl, List.take_of_length_le (by rw [List.length_map]; exact Nat.le_refl _)] at hd
          refine ⟨D, L.map (·.2), rfl, SqL.of hd, (by rw [List.length_map]; exact L0pos), fun mm hmm hle => ?_⟩
          refine ⟨mm, 500000, rfl, rfl, _, rfl, iteD (fun d2 => fin H' s8) (fun d2 => ?_)⟩
          have hle2 : ∀ x ∈ L, x.2 ≤ 500000 := fun x hx => Int.le_trans (hle x.2 (List.mem_map_of_mem hx)) (Int.not_lt.mp d2)
          have hll8 := s8 _ _ hll7
          have P8 : PairsAt H' xs L := Same.pairs s8 P7
          have dd1 : full ≤ 500000 := Int.not_lt.mp d1
          -- twice as great
          refine ⟨_, rfl, 2, full, rfl, rfl, .inl ⟨by decide, by decide⟩, _, rfl, 2, least, rfl, rfl, .inl ⟨by decide, by decide⟩, ?_⟩
          refine ⟨_, rfl, ll, rfl, ⟨_, SqL.of hll8⟩, fun D3 hD3 => ?_⟩
          refine lc_list (K := K) (a := ll) (xs := xs) (fun i H'' => ∃ ys, H'' D3 = some (.lst ys) ∧ PairsAt H'' ys ((L.take i).map HM.dbl) ∧ Same H' H'')
            ⟨[], upd_same, (by rw [List.take_zero]; exact .nil), same_new hD3⟩ (fun i H'' _ ⟨_, _, _, h⟩ => SqL.of (h _ _ hll8)) ?_ ?_
          · rintro i x H'' hi ⟨ys, hys, hPy, s9⟩
            obtain ⟨tp3, m3, l3, rfl, htp3, hL3⟩ := P8.get hi
            refine ⟨tp3, _, rfl, SqT.of (s9 _ _ htp3), rfl, _, _, rfl, _, _, rfl, rfl, ?_⟩
            refine ⟨rfl, ?_⟩
            refine ⟨_, rfl, _, rfl, 2, l3, rfl, rfl, .inl ⟨by decide, by decide⟩, (by show 2 ≤ sizeLine; decide), fun tn htn => ?_⟩
            have nDn : D3 ≠ tn := ne_of_none hys htn
            refine ⟨ys, (by rw [upd_ne nDn]; exact hys), ?_, ys ++ [.ref tn], upd_same, ?_, ?_⟩
            · have e1 := hPy.len
              rw [List.length_map, List.length_take] at e1
              exact Nat.lt_of_le_of_lt (show ys.length ≤ 6 by omega) (by decide)
            · rw [take_more hL3, List.map_append]
              refine PairsAt.snoc (hPy.move fun a zs' e => ?_) ?_
              · rw [upd_ne (ne_of e hys (by intro z; cases z)), upd_ne (ne_of_none e htn)]
                exact e
              · rw [upd_ne nDn.symm, upd_same]
            · intro b o e
              rw [upd_ne (ne_of_none e hD3), upd_ne (ne_of_none (s9 _ _ e) htn)]
              exact s9 _ _ e
          · rintro H'' ⟨ys, hys, hPy, s9⟩
            rw [hxl, List.take_length] at hPy
            refine ⟨_, rfl, 2, air, rfl, rfl, .inl ⟨by decide, by decide⟩, (by show 4 ≤ sizeLine; decide), fun tp4 htp4 => ?_⟩
            have V2 : HM.Vd (2 * full) (2 * least) (2 * air) (L.map HM.dbl) := by
              refine ⟨?_, by simpa using G.1, by rw [List.length_map]; exact L6, by omega, by omega, by omega, by omega, by omega⟩
              intro x hx
              obtain ⟨y, hy, rfl⟩ := List.mem_map.mp hx
              obtain ⟨g1, g2, g3, g4⟩ := G.2.2 y hy
              have := hle2 y hy
              exact ⟨g1, g2, by show 0 ≤ 2 * y.2; omega, by show 2 * y.2 ≤ 1000000; omega⟩
            refine ⟨tp4, D3, ys, L.map HM.dbl, 2 * full, 2 * least, 2 * air, rfl, upd_same, (same_new htp4) _ _ hys, Same.pairs (same_new htp4) hPy, V2, fun p2 K8 M8 s10 => ?_⟩
            have s78 : Same H7 K8 := ((s8.trans s9).trans (same_new htp4)).trans s10
            have MK := M7.same s78
            obtain ⟨dx8, tt8, ys8, hm8, _, _⟩ := id M8.ex
            refine ⟨_, rfl, p2, dx8, _, rfl, hm8, mf_life _ _ _ _, p2, 2 * full, 2 * least, 2 * air, _, rfl, M8, Vd.good V2, V2.n3, V2.n1, fun K9 s11 => ?_⟩
            have M11 := MK.same s11
            obtain ⟨dx11, tt11, ys11, hm11, _, _⟩ := id M11.ex
            refine ⟨_, rfl, p, dx11, _, rfl, hm11, mf_life _ _ _ _, p, full, least, air, L, rfl, M11, G, n3, n1, fun K10 s12 => ?_⟩
            have el : lifeOf (2 * full) (2 * least) (2 * air) (L.map HM.dbl) = lifeOf full least air L := by
              unfold lifeOf
              rw [HM.cools_eq V2 VD (fun b hb => by rw [HM.heat_twice]; omega)]
            rw [el]
            refine ⟨scal_opt _, _, rfl, iteN rfl ?_⟩
            have s79 : Same H7 K10 := (s78.trans s11).trans s12
            have hpb10 := s79 _ _ hpb7
            have M2' := (M8.same s11).same s12
            have M3' := M7.same s79
            obtain ⟨dxa, tta, ysa, hma, _, _⟩ := id M2'.ex
            obtain ⟨dxb, ttb, ysb, hmb, _, _⟩ := id M3'.ex
            refine ⟨_, rfl, pb, rfl, ⟨_, SqL.of hpb10⟩, fun E1 hE1 => lc_ints (fun z => V.int (2 * HM.heatAt full air L z)) hpb10 hE1 (by omega) (fun _ => rfl) (fun z hz H' s' Q' q' => ?_) (fun J9 hE1' t9 => ?_)⟩
            · refine ⟨_, rfl, p2, dxa, _, rfl, s' _ _ hma, mf_heat _ _ _ _, _, rfl, ?_⟩
              refine heat_item M2' (Vd.good V2) (hbs z hz).1 (by have := (hbs z hz).2; omega) s' fun H'' s'' => ?_
              rw [HM.heat_twice]
              exact q' H'' s''
            refine ⟨_, rfl, pb, rfl, ⟨_, SqL.of (t9 _ _ hpb10)⟩, fun E2 hE2 => lc_ints (fun z => V.int (2 * HM.heatAt full air L z)) (t9 _ _ hpb10) hE2 (by omega) (fun _ => rfl) (fun z hz H' s' Q' q' => ?_) (fun J10 hE2' t10 => ?_)⟩
            · refine ⟨_, rfl, p, dxb, _, rfl, s' _ _ (t9 _ _ hmb), mf_heat _ _ _ _, _, rfl, ?_⟩
              refine ⟨p, z, full, least, air, L, rfl, (M3'.same t9).same s', G, (hbs z hz).1, (by have := (hbs z hz).2; omega), fun H'' s'' => ?_⟩
              exact ⟨2, _, rfl, rfl, .inl ⟨by decide, by decide⟩, q' H'' s''⟩
            rw [map_V (fun z => 2 * HM.heatAt full air L z)] at hE1' hE2'
            refine ⟨_, _, .lst (SqL.of (t10 _ _ hE1')) (dp_ints _), .lst (SqL.of hE2') (dp_ints _), PySem.W.ke_shaped_ints _, PySem.W.ke_shaped_ints _, ?_⟩
            rw [eqv_ints]
            exact fin _ ((s79.trans t9).trans t10)
end
end HP
namespace HP
open PySem L2
section
variable {P : Program} {w : World} {K : PySem.W.Frag} {mg : Str → Option Value} {base : Heap} {tM tL : Tok}
theorem any_falses (n : Nat) : (List.replicate n false).any id = false := by
  induction n with
  | zero => rfl
  | succ k ih => rw [List.replicate_succ, List.any_cons, ih]; rfl
theorem map_false : ∀ bs : List Int, bs.map (fun _ => V.bl false) = (List.replicate bs.length false).map V.bl
  | [] => rfl
  | b :: bs => by rw [List.map_cons, List.length_cons, List.replicate_succ, List.map_cons, map_false bs]
theorem life_long {f1 l1 a1 f2 l2 a2 : Int} {L1 L2 : List (Int × Int)} (V1 : HM.Vd f1 l1 a1 L1) (V2 : HM.Vd f2 l2 a2 L2) (h : ∀ b, 0 ≤ b → HM.heatAt f2 a2 L2 b ≤ l2 - 1 → HM.heatAt f1 a1 L1 b ≤ l1 - 1) : asLong (lifeOf f1 l1 a1 L1) (lifeOf f2 l2 a2 L2) := by
  unfold lifeOf
  cases e2 : HM.coolsTo f2 a2 L2 (l2 - 1) with
  | none => exact .inl rfl
  | some n =>
    obtain ⟨m, k1, k2⟩ := HM.cools_le V2 V1 h e2
    rw [k1]
    exact .inr ⟨m - 1, n - 1, rfl, rfl, by omega⟩
abbrev sLless_right : Stmt := top 22
theorem scLless_right : FnScope ["_law_tape_here", "_law_row", "_law_own", "_law_beats", "_law_full", "_law_least", "_law_losses_here", "_law_air", "_law_colder", "_law_late", "_law_later", "_law_life", "_law_one"] ["_law_tape_here", "_law_row", "_law_own", "_law_beats"] (defScope sLless_right) := ⟨rfl, rfl, rfl, by decide +kernel, rfl, by decide +kernel, by decide +kernel⟩
theorem ok_less_right {f C : Addr} {fd : FuncData} (F : Fun K "_law_less_right" "_law_less_right" sLless_right f fd) (T : Txt mg tM tL) (DLdraw : DDraw P w K mg base) (DLmade : Df P w K mg base "_law_made" 6 ["_law_row"] (spMade C)) (DLas_long : Df P w K mg base "_law_as_long" 1 ["_law_one", "_law_other"] spAsLong)
    (Dlife : Dm P w K mg base C "life" 3 ["self"] (spLife C)) (Dheat : DHeat P w K mg base C) : FnOk P w K mg base CX0 7 f fd ["_law_tape_here", "_law_row", "_law_own", "_law_beats"] (spRight C) := by
  refine F.ok scLless_right (fun vs H Q E h => ?_) (fun cdv A outer s H vs Q E hr h => ?_)
  · obtain ⟨t, r, p, pb, c, full, least, air, L, bs, rfl, _⟩ := h
    rfl
  · obtain ⟨t, r, p, pb, c, full, least, air, L, bs, rfl, hT, hc, R, M, hpb, npb, lbs, hbs, q⟩ := h
    refine ⟨_, (pss_cons (ps_asg (pv 1) (pg_tup rfl (pgs_cons (pg_name (i := 4) scLless_right.nd rfl (Or.inl rfl)) (pgs_cons (pg_name (i := 5) scLless_right.nd rfl (Or.inl rfl)) (pgs_cons (pg_name (i := 6) scLless_right.nd rfl (Or.inl rfl)) (pgs_cons (pg_name (i := 7) scLless_right.nd rfl (Or.inl rfl)) pgs_nil))))))
    (pss_cons (ps_set (i := 8) scLless_right.nd rfl (Or.inr rfl) (pe_fn DLmade (hr.mono (by decide)) (pa_cons (pe_tup (pa_cons (pv 4) (pa_cons (pv 5) (pa_cons (pv 6) (pa_cons (pe_fn DLdraw (hr.mono (by decide)) (pa_cons (pv 0) (pa_cons (pe_op op_add (pv 7) pe_int) pa_nil))) pa_nil))))) pa_nil)))
    (pss_cons (ps_if (PW.pt (pw_or (pt_val (pe_callB (cr_any rfl) (by rfl) T.zany (by decide +kernel) (pa_cons (pe_lc (own := [("_law_one", 12)]) (g := gName 12) (tt := tYes) (by rfl) scLless_right.nd (pi_list (pv 3)) (blkOk_by (own := [("_law_one", 12)]) (N := ["_law_tape_here", "_law_row", "_law_own", "_law_beats", "_law_full", "_law_least", "_law_losses_here", "_law_air", "_law_colder", "_law_late", "_law_later", "_law_life", "_law_one"]) (sc := defScope sLless_right) (by decide +kernel)) (fun _ _ _ _ _ => (pg_name (i := 12) scLless_right.nd rfl (Or.inl rfl))) (fun _ _ _ _ _ => pts_nil) (fun _ _ _ _ _ => (pe_cmp (pc_gt (pe_heat1 (C := C) Dheat (hr.mono (by decide)) (pv 8) (pa_cons (pv 12) pa_nil)) (pe_heat1 (C := C) Dheat (hr.mono (by decide)) (pv 2) (pa_cons (pv 12) pa_nil)))))) pa_nil))) (pw_or1 (pt_not (pt_val (pe_fn DLas_long (hr.mono (by decide)) (pa_cons (pe_mt0 (C := C) Dlife (hr.mono (by decide)) (pv 8)) (pa_cons (pe_mt0 (C := C) Dlife (hr.mono (by decide)) (pv 2)) pa_nil)))))))) (pss_one (ps_ret pe_bl)) pss_nil)
    (pss_cons (ps_if (pt_not (pt_val (pe_fn DLas_long (hr.mono (by decide)) (pa_cons (pe_mt0 (C := C) Dlife (hr.mono (by decide)) (pv 2)) (pa_cons (pe_mt0 (C := C) Dlife (hr.mono (by decide)) (pe_fn DLmade (hr.mono (by decide)) (pa_cons (pe_tup (pa_cons (pv 4) (pa_cons (pe_fn DLdraw (hr.mono (by decide)) (pa_cons (pv 0) (pa_cons (pe_op op_add (pv 5) pe_int) pa_nil))) (pa_cons (pv 6) (pa_cons (pv 7) pa_nil))))) pa_nil))) pa_nil))))) (pss_one (ps_ret pe_bl)) pss_nil)
    (pss_cons (ps_if (pt_cmp (pc_eqI (pe_callB call_len_seq (by rfl) T.zlen (by decide +kernel) (pa_cons (pv 6) pa_nil)) pe_int)) (pss_one (ps_ret pe_bl)) pss_nil)
    (pss_cons (ps_set (i := 9) scLless_right.nd rfl (Or.inr rfl) (pe_op op_add pe_int (pe_fn DLdraw (hr.mono (by decide)) (pa_cons (pv 0) (pa_cons (pe_op op_pow pe_int pe_int) pa_nil)))))
    (pss_cons (ps_asg (pe_tup (pa_cons (pe_fn DLmade (hr.mono (by decide)) (pa_cons (pe_tup (pa_cons (pv 4) (pa_cons (pv 5) (pa_cons (pe_op op_cat (pe_lst (pa_cons (pe_tup (pa_cons (pv 9) (pa_cons pe_int pa_nil))) pa_nil)) (pv 6)) (pa_cons (pv 7) pa_nil))))) pa_nil)) (pa_cons (pe_mt0 (C := C) Dlife (hr.mono (by decide)) (pv 2)) pa_nil))) (pg_tup rfl (pgs_cons (pg_name (i := 10) scLless_right.nd rfl (Or.inr rfl)) (pgs_cons (pg_name (i := 11) scLless_right.nd rfl (Or.inl rfl)) pgs_nil))))
    (pss_cons (ps_if (PW.pt (pw_or (pt_cmpR op_ne (pe_mt0 (C := C) Dlife (hr.mono (by decide)) (pv 10)) (pe_ifExp (pt_cmp (pc_isN (pv 11))) pe_non (pe_op op_add (pv 11) (pv 9))) (nomark _)) (pw_or1 (pt_cmp (pc_neI (pe_heat1 (C := C) Dheat (hr.mono (by decide)) (pv 10) (pa_cons (pv 9) pa_nil)) (pv 4)))))) (pss_one (ps_ret pe_bl)) pss_nil)
    (pss_one (ps_ret (pe_cmpR (op_eqD hr.units) (pe_lc (own := [("_law_one", 12)]) (g := gName 12) (tt := tYes) (by rfl) scLless_right.nd (pi_list (pv 3)) (blkOk_by (own := [("_law_one", 12)]) (N := ["_law_tape_here", "_law_row", "_law_own", "_law_beats", "_law_full", "_law_least", "_law_losses_here", "_law_air", "_law_colder", "_law_late", "_law_later", "_law_life", "_law_one"]) (sc := defScope sLless_right) (by decide +kernel)) (fun _ _ _ _ _ => (pg_name (i := 12) scLless_right.nd rfl (Or.inl rfl))) (fun _ _ _ _ _ => pts_nil) (fun _ _ _ _ _ => (pe_heat1 (C := C) Dheat (hr.mono (by decide)) (pv 10) (pa_cons (pe_op op_add (pv 12) (pv 9)) pa_nil)))) (pe_lc (own := [("_law_one", 12)]) (g := gName 12) (tt := tYes) (by rfl) scLless_right.nd (pi_list (pv 3)) (blkOk_by (own := [("_law_one", 12)]) (N := ["_law_tape_here", "_law_row", "_law_own", "_law_beats", "_law_full", "_law_least", "_law_losses_here", "_law_air", "_law_colder", "_law_late", "_law_later", "_law_life", "_law_one"]) (sc := defScope sLless_right) (by decide +kernel)) (fun _ _ _ _ _ => (pg_name (i := 12) scLless_right.nd rfl (Or.inl rfl))) (fun _ _ _ _ _ => pts_nil) (fun _ _ _ _ _ => (pe_heat1 (C := C) Dheat (hr.mono (by decide)) (pv 2) (pa_cons (pv 12) pa_nil)))) (nomark _)))))))))))), ?_⟩
    have VD := R.vd
    have G := R.good
    obtain ⟨⟨ll, xs, hrow, hll, nlt, hP⟩, _, n1, n2, n3, n4, n5⟩ := id R
    have hxl := hP.len
    have L6 := G.2.1
    have e6 : (10 : Int) ^ (6 : Int).toNat = 1000000 := by decide
    refine ⟨_, rfl, r, _, rfl, SqT.of hrow, rfl, _, _, rfl, _, _, rfl, _, _, rfl, _, _, rfl, rfl, ?_⟩
    -- with less air
    refine ⟨_, rfl, _, rfl, _, rfl, _, rfl, _, rfl, air, 1, rfl, rfl, t, c, _, rfl, hT, by omega, by omega, by omega, fun a2 H1 a0 a1 T1 S1 => ?_⟩
    refine ⟨(by show 4 ≤ sizeLine; decide), fun tp htp => ?_⟩
    have V2 : HM.Vd full least a2 L := ⟨VD.g, VD.ne, VD.len, n1, n2, n3, a0, by omega⟩
    have hll1 := S1 _ _ hll nlt
    have P1 : PairsAt H1 xs L := S1.pairs hT hP
    have M1 := M.but S1 hT
    have hpb1 := S1 _ _ hpb npb
    refine ⟨tp, ll, xs, L, full, least, a2, rfl, upd_same, (same_new htp) _ _ hll1, Same.pairs (same_new htp) P1, V2, fun p2 H2 MC s2 => ?_⟩
    have s12 : Same H1 H2 := (same_new htp).trans s2
    have M2 := M1.same s12
    have hpb2 := s12 _ _ hpb1
    have T2 := T1.same s12
    obtain ⟨dxc, ttc, ysc, hmc, _, _⟩ := id MC.ex
    obtain ⟨dxo, tto, yso, hmo, _, _⟩ := id M2.ex
    refine ⟨_, rfl, pb, rfl, ⟨_, SqL.of hpb2⟩, fun D1 hD1 => lc_ints (fun _ => V.bl false) hpb2 hD1 (by omega) (fun _ => rfl) (fun z hz H' s' Q' q' => ?_) (fun H3 hD1' s3 => ?_)⟩
    · refine ⟨_, rfl, p2, dxc, _, rfl, s' _ _ hmc, mf_heat _ _ _ _, _, rfl, ?_⟩
      refine ⟨p2, z, full, least, a2, L, rfl, MC.same s', G, (hbs z hz).1, (by have := (hbs z hz).2; omega), fun H'' s'' => ?_⟩
      refine ⟨_, rfl, p, dxo, _, rfl, s'' _ _ (s' _ _ hmo), mf_heat _ _ _ _, _, rfl, ?_⟩
      refine ⟨p, z, full, least, air, L, rfl, (M2.same s').same s'', G, (hbs z hz).1, (by have := (hbs z hz).2; omega), fun H3 s3 => ?_⟩
      refine ⟨_, _, rfl, rfl, ?_⟩
      have hle := HM.heat_colder (full := full) (L := L) (b := z) (show a2 ≤ air by omega)
      show Q' (.bl (decide (HM.heatAt full air L z < HM.heatAt full a2 L z))) H3
      rw [decide_eq_false (by omega)]
      exact q' H3 (s''.trans s3)
    have hrep := map_false bs
    rw [hrep] at hD1'
    refine ⟨D1, _, rfl, SqL.of hD1', _, rfl, ?_⟩
    rw [any_falses]
    refine iteF ?_
    have M3 := M2.same s3
    have MC3 := MC.same s3
    refine ⟨_, rfl, p2, dxc, _, rfl, s3 _ _ hmc, mf_life _ _ _ _, p2, full, least, a2, L, rfl, MC3, G, n3, n1, fun H4 s4 => ?_⟩
    refine ⟨_, rfl, p, dxo, _, rfl, s4 _ _ (s3 _ _ hmo), mf_life _ _ _ _, p, full, least, air, L, rfl, M3.same s4, G, n3, n1, fun H5 s5 => ?_⟩
    refine ⟨_, _, rfl, life_long V2 VD (fun b hb hh => Int.le_trans (HM.heat_colder (by omega)) hh), true, rfl, iteF ?_⟩
    have s25 : Same H2 H5 := (s3.trans s4).trans s5
    have T5 := T2.same s25
    have M5 := M2.same s25
    have hmo5 := s25 _ _ hmo
    -- with a lesser least
    refine ⟨_, rfl, p, dxo, _, rfl, hmo5, mf_life _ _ _ _, p, full, least, air, L, rfl, M5, G, n3, n1, fun H6 s6 => ?_⟩
    refine ⟨_, rfl, _, rfl, _, rfl, least, 1, rfl, rfl, t, _, _, rfl, T5.same s6, by omega, by omega, by omega, fun le2 H7 b0 b1 T7 S7 => ?_⟩
    refine ⟨_, rfl, _, rfl, (by show 4 ≤ sizeLine; decide), fun tp2 htp2 => ?_⟩
    have V3 : HM.Vd full le2 air L := ⟨VD.g, VD.ne, VD.len, b0, by omega, n3, n4, n5⟩
    have SB7 : SameBut t H H7 := ((S1.trans (Same.but (s12.trans s25))).trans (Same.but s6)).trans S7
    have hll7 := SB7 _ _ hll nlt
    have P7 : PairsAt H7 xs L := SB7.pairs hT hP
    refine ⟨tp2, ll, xs, L, full, le2, air, rfl, upd_same, (same_new htp2) _ _ hll7, Same.pairs (same_new htp2) P7, V3, fun p3 H8 ML s8 => ?_⟩
    obtain ⟨dxl, ttl, ysl, hml, _, _⟩ := id ML.ex
    refine ⟨p3, dxl, _, rfl, hml, mf_life _ _ _ _, p3, full, le2, air, L, rfl, ML, G, n3, b0, fun H9 s9 => ?_⟩
    refine ⟨_, _, rfl, life_long VD V3 (fun b hb hh => by omega), true, rfl, iteF ?_⟩
    have s79 : Same H7 H9 := ((same_new htp2).trans s8).trans s9
    have SB9 : SameBut t H H9 := SB7.trans (Same.but s79)
    have T9 := T7.same s79
    have hll9 := SB9 _ _ hll nlt
    have P9 : PairsAt H9 xs L := SB9.pairs hT hP
    have M9 := M.but SB9 hT
    have hpb9 := SB9 _ _ hpb npb
    -- six pairs
    refine ⟨_, rfl, ll, _, rfl, .inl (SqL.of hll9), _, 6, rfl, rfl, _, rfl, iteD (fun d1 => ?_) (fun d1 => ?_)⟩
    · exact q _ (T9.mono (by omega)) SB9
    have hl5 : L.length ≤ 5 := by
      have : ¬ ((xs.length : Int) = 6) := d1
      omega
    -- behind beats of no loss
    refine ⟨_, rfl, 10, 6, rfl, rfl, pow6, t, _, _, rfl, T9, by omega, (by rw [e6]; decide), (by rw [e6]; decide), fun rr K1 c0 c1 U1 W1 => ?_⟩
    refine ⟨1, rr, rfl, rfl, ?_⟩
    rw [e6] at c1
    have SBK : SameBut t H K1 := SB9.trans W1
    have hllK := SBK _ _ hll nlt
    have PK1 : PairsAt K1 xs L := SBK.pairs hT hP
    have MK := M.but SBK hT
    have hpbK := SBK _ _ hpb npb
    refine ⟨_, rfl, _, rfl, _, rfl, (by show 2 ≤ sizeLine; decide), fun tq htq => ?_⟩
    refine ⟨(by show 1 ≤ sizeLine; decide), fun l1 hl1 => ?_⟩
    have u1 : Same K1 (upd (upd K1 tq (.tup [.int (1 + rr), .int 0])) l1 (.lst [.ref tq])) := (same_new htq).trans (same_new hl1)
    refine ⟨_, rfl, l1, ll, _, _, rfl, rfl, upd_same, u1 _ _ hllK, Nat.le_trans (show 1 + xs.length ≤ 8 by omega) (by decide), fun cc hcc => ?_⟩
    refine ⟨_, rfl, (by show 4 ≤ sizeLine; decide), fun tp3 htp3 => ?_⟩
    have u2 : Same K1 (upd (upd (upd K1 tq (.tup [.int (1 + rr), .int 0])) l1 (.lst [.ref tq])) cc (.lst ([.ref tq] ++ xs))) := u1.trans (same_new hcc)
    have htq2 : (upd (upd (upd K1 tq (.tup [.int (1 + rr), .int 0])) l1 (.lst [.ref tq])) cc (.lst ([.ref tq] ++ xs))) tq = some (.tup [.int (1 + rr), .int 0]) := (same_new hcc) _ _ ((same_new hl1) _ _ upd_same)
    have V4 : HM.Vd full least air ((1 + rr, 0) :: L) := by
      refine ⟨fun x hx => ?_, by simp, by rw [List.length_cons]; omega, n1, n2, n3, n4, n5⟩
      rcases List.mem_cons.mp hx with h | h
      · rw [h]; exact ⟨by show 1 ≤ 1 + rr; omega, by show 1 + rr ≤ 1000000; omega, by show (0 : Int) ≤ 0; omega, by show (0 : Int) ≤ 1000000; omega⟩
      · exact VD.g x h
    refine ⟨tp3, cc, [.ref tq] ++ xs, (1 + rr, 0) :: L, full, least, air, rfl, upd_same, (same_new htp3) _ _ upd_same, .cons ((same_new htp3) _ _ htq2) (Same.pairs (u2.trans (same_new htp3)) PK1), V4, fun p4 K2 ML4 v2 => ?_⟩
    have uK2 : Same K1 K2 := (u2.trans (same_new htp3)).trans v2
    have MK2 := MK.same uK2
    obtain ⟨dxk, ttk, ysk, hmk, _, _⟩ := id MK2.ex
    refine ⟨_, rfl, p, dxk, _, rfl, hmk, mf_life _ _ _ _, p, full, least, air, L, rfl, MK2, G, n3, n1, fun K3 v3 => ?_⟩
    refine ⟨(by show 2 ≤ sizeLine; decide), fun tp5 htp5 => ⟨tp5, _, rfl, SqT.of upd_same, rfl, _, _, rfl, _, _, rfl, rfl, ?_⟩⟩
    have v4 : Same K2 (upd K3 tp5 (.tup [.ref p4, optV (lifeOf full least air L)])) := v3.trans (same_new htp5)
    have ML5 := ML4.same v4
    have MK5 := MK2.same v4
    obtain ⟨dx5, tt5, ys5, hm5, _, _⟩ := id ML5.ex
    -- later: as long, so many beats later
    refine ⟨_, rfl, p4, dx5, _, rfl, hm5, mf_life _ _ _ _, p4, full, least, air, _, rfl, ML5, Vd.good V4, n3, n1, fun K6 v6 => ?_⟩
    have ecl := HM.cools_later VD V4 (by omega)
    have ML6 := ML5.same v6
    have MK6 := MK5.same v6
    obtain ⟨dx6, tt6, ys6, hm6, _, _⟩ := id ML6.ex
    obtain ⟨dx7, tt7, ys7, hm7, _, _⟩ := id MK6.ex
    have u6 : SameBut t H K6 := SBK.trans (Same.but ((uK2.trans v4).trans v6))
    have T6 : TapeAt K6 t (c + 5) := (U1.same ((uK2.trans v4).trans v6)).mono (by omega)
    have hpb6 := u6 _ _ hpb npb
    have rest : ∀ K7, Same K6 K7 → ∀ x : V, x = optV (lifeOf full least air L) → ∀ (y : V), True := fun _ _ _ _ _ => trivial
    have fin : ∀ K7, Same K6 K7 → Q (.bl true) K7 := fun K7 z => q K7 (T6.same z) (u6.trans (Same.but z))
    have heq : HM.heatAt full air ((1 + rr, 0) :: L) (1 + rr) = full := HM.heat_early VD.g VD.ne (1 + rr) (1 + rr) (Int.le_refl _) n5
    cases eo : HM.coolsTo full air L (least - 1) with
    | none =>
      have el : lifeOf full least air L = none := by unfold lifeOf; rw [eo]
      have el4 : lifeOf full least air ((1 + rr, 0) :: L) = none := by unfold lifeOf; rw [ecl, eo]; rfl
      rw [el, el4]
      refine ⟨_, rfl, true, rfl, iteT ?_⟩
      refine ⟨rfl, _, rfl, iteN rfl ?_⟩
      refine ⟨_, rfl, p4, dx6, _, rfl, hm6, mf_heat _ _ _ _, _, rfl, p4, 1 + rr, full, least, air, _, rfl, ML6, Vd.good V4, by omega, by omega, fun K7 v7 => ?_⟩
      refine ⟨_, rfl, _, full, rfl, rfl, _, rfl, iteN heq ?_⟩
      refine ⟨_, rfl, pb, rfl, ⟨_, SqL.of (v7 _ _ hpb6)⟩, fun E1 hE1 => lc_ints (fun z => V.int (HM.heatAt full air L z)) (v7 _ _ hpb6) hE1 (by omega) (fun _ => rfl) (fun z hz H' s' Q' q' => ?_) (fun J9 hE1' t9 => ?_)⟩
      · refine ⟨_, rfl, p4, dx6, _, rfl, s' _ _ (v7 _ _ hm6), mf_heat _ _ _ _, _, rfl, _, rfl, z, 1 + rr, rfl, rfl, ?_⟩
        refine ⟨p4, z + (1 + rr), full, least, air, _, rfl, (ML6.same v7).same s', Vd.good V4, (by have := (hbs z hz).1; omega), (by have := (hbs z hz).2; omega), fun H'' s'' => ?_⟩
        have := HM.heat_later (full := full) (air := air) VD.ne (1 + rr) z (hbs z hz).1
        show Q' (.int (HM.heatAt full air ((1 + rr, 0) :: L) (z + (1 + rr)))) H''
        rw [this]
        exact q' H'' s''
      refine ⟨_, rfl, pb, rfl, ⟨_, SqL.of (t9 _ _ (v7 _ _ hpb6))⟩, fun E2 hE2 => lc_ints (fun z => V.int (HM.heatAt full air L z)) (t9 _ _ (v7 _ _ hpb6)) hE2 (by omega) (fun _ => rfl) (fun z hz H' s' Q' q' => ?_) (fun J10 hE2' t10 => ?_)⟩
      · refine ⟨_, rfl, p, dx7, _, rfl, s' _ _ (t9 _ _ (v7 _ _ hm7)), mf_heat _ _ _ _, _, rfl, ?_⟩
        exact ⟨p, z, full, least, air, L, rfl, ((MK6.same v7).same t9).same s', G, (hbs z hz).1, (by have := (hbs z hz).2; omega), q'⟩
      rw [map_V] at hE1' hE2'
      refine ⟨_, _, .lst (SqL.of (t10 _ _ hE1')) (dp_ints _), .lst (SqL.of hE2') (dp_ints _), PySem.W.ke_shaped_ints _, PySem.W.ke_shaped_ints _, ?_⟩
      rw [eqv_ints]
      exact fin _ ((v7.trans t9).trans t10)
    | some n =>
      have el : lifeOf full least air L = some (n - 1) := by unfold lifeOf; rw [eo]
      have el4 : lifeOf full least air ((1 + rr, 0) :: L) = some (n - 1 + (1 + rr)) := by
        unfold lifeOf
        rw [ecl, eo]
        show some (n + (1 + rr) - 1) = _
        congr 1
        omega
      rw [el, el4]
      refine ⟨_, rfl, false, rfl, iteF ?_⟩
      refine ⟨_, rfl, _, rfl, n - 1, 1 + rr, rfl, rfl, rfl, _, rfl, iteN rfl ?_⟩
      refine ⟨_, rfl, p4, dx6, _, rfl, hm6, mf_heat _ _ _ _, _, rfl, p4, 1 + rr, full, least, air, _, rfl, ML6, Vd.good V4, by omega, by omega, fun K7 v7 => ?_⟩
      refine ⟨_, rfl, _, full, rfl, rfl, _, rfl, iteN heq ?_⟩
      refine ⟨_, rfl, pb, rfl, ⟨_, SqL.of (v7 _ _ hpb6)⟩, fun E1 hE1 => lc_ints (fun z => V.int (HM.heatAt full air L z)) (v7 _ _ hpb6) hE1 (by omega) (fun _ => rfl) (fun z hz H' s' Q' q' => ?_) (fun J9 hE1' t9 => ?_)⟩
      · refine ⟨_, rfl, p4, dx6, _, rfl, s' _ _ (v7 _ _ hm6), mf_heat _ _ _ _, _, rfl, _, rfl, z, 1 + rr, rfl, rfl, ?_⟩
        refine ⟨p4, z + (1 + rr), full, least, air, _, rfl, (ML6.same v7).same s', Vd.good V4, (by have := (hbs z hz).1; omega), (by have := (hbs z hz).2; omega), fun H'' s'' => ?_⟩
        have := HM.heat_later (full := full) (air := air) VD.ne (1 + rr) z (hbs z hz).1
        show Q' (.int (HM.heatAt full air ((1 + rr, 0) :: L) (z + (1 + rr)))) H''
        rw [this]
        exact q' H'' s''
      refine ⟨_, rfl, pb, rfl, ⟨_, SqL.of (t9 _ _ (v7 _ _ hpb6))⟩, fun E2 hE2 => lc_ints (fun z => V.int (HM.heatAt full air L z)) (t9 _ _ (v7 _ _ hpb6)) hE2 (by omega) (fun _ => rfl) (fun z hz H' s' Q' q' => ?_) (fun J10 hE2' t10 => ?_)⟩
      · refine ⟨_, rfl, p, dx7, _, rfl, s' _ _ (t9 _ _ (v7 _ _ hm7)), mf_heat _ _ _ _, _, rfl, ?_⟩
        exact ⟨p, z, full, least, air, L, rfl, ((MK6.same v7).same t9).same s', G, (hbs z hz).1, (by have := (hbs z hz).2; omega), q'⟩
      rw [map_V] at hE1' hE2'
      refine ⟨_, _, .lst (SqL.of (t10 _ _ hE1')) (dp_ints _), .lst (SqL.of hE2') (dp_ints _), PySem.W.ke_shaped_ints _, PySem.W.ke_shaped_ints _, ?_⟩
      rw [eqv_ints]
      exact fin _ ((v7.trans t9).trans t10)
/-! ### the law -/
abbrev slaw : Stmt := top 23
theorem sclaw : FnScope ["_law_script", "_law_cells", "_law_k", "_law_tape_here", "_law_turn", "_law_row", "_law_own", "_law_beats"] ["_law_script"] (defScope slaw) := ⟨rfl, rfl, rfl, by decide +kernel, rfl, by decide +kernel, by decide +kernel⟩
theorem ok_law {f C : Addr} {fd : FuncData} (F : Fun K "law" "law" slaw f fd) (T : Txt mg tM tL) (DLfolded : Df P w K mg base "_law_folded" 1 ["_law_script", "_law_many"] (spFolded K)) (DLtape : Df P w K mg base "_law_tape" 1 ["_law_script", "_law_k"] (spTape K))
    (DLmetal : Df P w K mg base "_law_metal" 3 ["_law_tape_here"] spMetal) (DLmade : Df P w K mg base "_law_made" 6 ["_law_row"] (spMade C)) (DLsome_beats : Df P w K mg base "_law_some_beats" 2 ["_law_tape_here", "_law_row"] spSome)
    (DLsame_right : Df P w K mg base "_law_same_right" 7 ["_law_tape_here", "_law_row", "_law_own", "_law_beats"] (spRight C)) (DLless_right : Df P w K mg base "_law_less_right" 7 ["_law_tape_here", "_law_row", "_law_own", "_law_beats"] (spRight C)) : FnOk P w K mg base CX0 8 f fd ["_law_script"] (spLaw K) := by
  refine F.ok sclaw (fun vs H Q E h => ?_) (fun cdv A outer s H vs Q E hr h => ?_)
  · obtain ⟨a, ns, rfl, _⟩ := h
    rfl
  · obtain ⟨a, ns, rfl, hS, hn, q⟩ := h
    refine ⟨_, (C8.pss_cut (ps_set (i := 1) sclaw.nd rfl (Or.inl rfl) (pe_ifExp (pt_cmpR (op_neD hr.units) (pv 0) (pe_lst pa_nil) (nomark _)) (pe_fn DLfolded (hr.mono (by decide)) (pa_cons (pv 0) (pa_cons pe_int pa_nil))) (pe_lst (pa_cons pe_int pa_nil))))
    (pss_cons (ps_for PassesOwn.never rfl (pi_range1 (by rfl) T.zrange (pa_cons (pe_callB call_len_seq (by rfl) T.zlen (by decide +kernel) (pa_cons (pv 1) pa_nil)) pa_nil)) (pg_name (i := 2) sclaw.nd rfl (Or.inl rfl))
    (pss_cons (ps_set (i := 3) sclaw.nd rfl (Or.inl rfl) (pe_fn DLtape (hr.mono (by decide)) (pa_cons (pv 1) (pa_cons (pv 2) pa_nil))))
    (pss_one (ps_for PassesOwn.never rfl (pi_range1 (by rfl) T.zrange (pa_cons pe_int pa_nil)) (pg_name (i := 4) sclaw.nd rfl (Or.inl rfl))
    (pss_cons (ps_set (i := 5) sclaw.nd rfl (Or.inl rfl) (pe_fn DLmetal (hr.mono (by decide)) (pa_cons (pv 3) pa_nil)))
    (pss_cons (ps_par (i := 6) (j := 7) (by rfl) sclaw.nd rfl rfl (by decide) rfl rfl (pa_cons (pe_fn DLmade (hr.mono (by decide)) (pa_cons (pv 5) pa_nil)) (pa_cons (pe_fn DLsome_beats (hr.mono (by decide)) (pa_cons (pv 3) (pa_cons (pv 5) pa_nil))) pa_nil)) (by rfl))
    (pss_one (ps_if (PW.pt (pw_or (pt_not (pt_val (pe_fn DLsame_right (hr.mono (by decide)) (pa_cons (pv 3) (pa_cons (pv 5) (pa_cons (pv 6) (pa_cons (pv 7) pa_nil))))))) (pw_or1 (pt_not (pt_val (pe_fn DLless_right (hr.mono (by decide)) (pa_cons (pv 3) (pa_cons (pv 5) (pa_cons (pv 6) (pa_cons (pv 7) pa_nil)))))))))) (pss_one (ps_ret pe_bl)) pss_nil))))))))
    (pss_one (ps_ret pe_bl)))), ?_⟩
    refine ⟨fun σ H1 => ∃ (pc : Addr) (cs : List Int), σ = [some (.ref a), some (.ref pc), none, none, none, none, none, none] ∧ H1 pc = some (.lst (cs.map V.int)) ∧ cs.length ≤ 5, ?_, ?_⟩
    · refine ⟨_, rfl, (by show 0 ≤ sizeLine; decide), fun d hd => ?_⟩
      have hS' : SqL K (upd H d (.lst [])) a (ns.map V.int) := Same.seq (same_new hd) hS
      refine ⟨_, _, .lst hS' (dp_ints ns), .lst (SqL.of upd_same) .nil, PySem.W.ke_shaped_ints ns, PySem.W.ke_shaped_ints [], _, rfl, ?_⟩
      refine ite2 (fun _ => ?_) (fun _ => ?_)
      · refine ⟨_, rfl, a, ns, 5, rfl, hS', by decide, by decide, hn, fun p cs H1 hp hl hc s1 => ?_⟩
        exact ⟨p, cs, rfl, hc, by omega⟩
      · refine ⟨(by show 1 ≤ sizeLine; decide), fun p hp => ?_⟩
        exact ⟨p, [0], rfl, upd_same, by decide⟩
    · rintro σ H1 ⟨pc, cs, rfl, hpc, hcs⟩
      refine ⟨_, rfl, pc, _, rfl, .inl (SqL.of hpc), _, rfl, ?_, ?_, ?_⟩
      · rw [List.length_map]; omega
      · rw [List.length_map]; omega
      refine for_range (lo := 0) (n := ((cs.map V.int).length : Int).toNat) (fun i σ H' => ∃ (v2 v3 v4 v5 v6 v7 : Option V), σ = [some (.ref a), some (.ref pc), v2, v3, v4, v5, v6, v7] ∧ H' pc = some (.lst (cs.map V.int)))
        ⟨_, _, _, _, _, _, rfl, hpc⟩ ?_ ?_
      · rintro i σ H2 hi ⟨v2, v3, v4, v5, v6, v7, rfl, hpc2⟩
        rw [List.length_map] at hi
        refine ⟨_, rfl, _, rfl, pc, cs, _, rfl, SqL.of hpc2, by omega, by omega, fun t H3 ht T3 s3 => ?_⟩
        have hpc3 := s3 _ _ hpc2
        have npc : pc ≠ t := ne_of_none hpc2 ht
        refine ⟨3, rfl, by decide, by decide, ?_⟩
        refine for_range (lo := 0) (n := (3 : Int).toNat) (fun j σ H'' => ∃ (v2 v4 v5 v6 v7 : Option V), σ = [some (.ref a), some (.ref pc), v2, some (.ref t), v4, v5, v6, v7] ∧ H'' pc = some (.lst (cs.map V.int)) ∧ TapeAt H'' t (60 * (j : Int)))
          ⟨_, _, _, _, _, rfl, hpc3, T3.mono (by omega)⟩ ?_ ?_
        · rintro j σ H4 hj ⟨v2, v4, v5, v6, v7, rfl, hpc4, T4⟩
          have hj3 : j < 3 := hj
          refine ⟨_, rfl, t, _, rfl, T4, by omega, fun r full least air L H5 R5 T5 S5 => ?_⟩
          have hpc5 := S5 _ _ hpc4 npc
          obtain ⟨⟨ll, xs, hrow, hll, nlt, hP⟩, G, n1, n2, n3, n4, n5⟩ := id R5
          refine ⟨_, rfl, r, ll, xs, L, full, least, air, rfl, hrow, hll, hP, R5.vd, fun p H6 M6 s6 => ?_⟩
          have R6 := R5.same s6
          have T6 := T5.same s6
          refine ⟨_, rfl, _, rfl, t, r, _, full, least, air, L, rfl, T6, by omega, R6, fun pb bs H7 hpb hB lB hbs T7 S7 => ?_⟩
          refine ⟨_, _, rfl, ?_⟩
          have npb : pb ≠ t := T6.ne hpb
          have R7 := R6.but S7 T6
          have M7 := M6.but S7 T6
          have hpc7 := S7 _ _ (s6 _ _ hpc5) npc
          refine ⟨_, rfl, _, rfl, _, rfl, _, rfl, t, r, p, pb, _, full, least, air, L, bs, rfl, T7, by omega, R7, M7, hbs, npb, lB, hB, fun H8 T8 S8 => ⟨true, rfl, iteF ?_⟩⟩
          have R8 := R7.but S8 T7
          have M8 := M7.but S8 T7
          have hbs8 := S8 _ _ hbs npb
          have hpc8 := S8 _ _ hpc7 npc
          refine ⟨_, rfl, _, rfl, _, rfl, _, rfl, t, r, p, pb, _, full, least, air, L, bs, rfl, T8, by omega, R8, M8, hbs8, npb, lB, hB, fun H9 T9 S9 => ⟨true, rfl, iteF ?_⟩⟩
          exact ⟨_, _, _, _, _, rfl, S9 _ _ hpc8 npc, T9.mono (by omega)⟩
        · rintro σ H4 ⟨v2, v4, v5, v6, v7, rfl, hpc4, T4⟩
          exact ⟨_, _, _, _, _, _, rfl, hpc4⟩
      · rintro σ H2 ⟨v2, v3, v4, v5, v6, v7, rfl, hpc2⟩
        exact q H2
end
end HP
namespace HP
open PySem L2
theorem all_mk {l : PySem.W.OpenLaw} {w : World} {K : PySem.W.Frag} {h : Heap} {mg : Str → Option Value} {fa : Addr} {C : Addr} {f_isn T_isn : Addr} {oc_isn kV_isn dc_isn pm_isn cd_isn ct_isn ot_isn : Value} {od_isn an_isn dt_isn : Option Addr} {sl_isn st_isn : Array (Option Value)} {n_isn : Nat} {f_isr : Addr} {oc_isr kV_isr dc_isr pm_isr cd_isr ct_isr : Value} {od_isr an_isr : Option Addr} {sl_isr : Array (Option Value)} {f_isl : Addr} {oc_isl kV_isl dc_isl pm_isl cd_isl ct_isl : Value} {od_isl an_isl : Option Addr} {sl_isl : Array (Option Value)} {f_arl : Addr} {oc_arl kV_arl dc_arl pm_arl cd_arl ct_arl : Value} {od_arl an_arl : Option Addr} {sl_arl : Array (Option Value)} {f_btl : Addr} {oc_btl kV_btl dc_btl pm_btl cd_btl ct_btl : Value} {od_btl an_btl : Option Addr} {sl_btl : Array (Option Value)} {f_tape : Addr} {oc_tape kV_tape dc_tape pm_tape cd_tape ct_tape : Value} {od_tape an_tape : Option Addr} {sl_tape : Array (Option Value)} {f_draw : Addr} {oc_draw kV_draw dc_draw pm_draw cd_draw ct_draw : Value} {od_draw an_draw : Option Addr} {sl_draw : Array (Option Value)} {f_fold : Addr} {oc_fold kV_fold dc_fold pm_fold cd_fold ct_fold : Value} {od_fold an_fold : Option Addr} {sl_fold : Array (Option Value)} {f_los : Addr} {oc_los kV_los dc_los pm_los cd_los ct_los : Value} {od_los an_los : Option Addr} {sl_los : Array (Option Value)} {f_met : Addr} {oc_met kV_met dc_met pm_met cd_met ct_met : Value} {od_met an_met : Option Addr} {sl_met : Array (Option Value)} {f_sb : Addr} {oc_sb kV_sb dc_sb pm_sb cd_sb ct_sb : Value} {od_sb an_sb : Option Addr} {sl_sb : Array (Option Value)} {f_made : Addr} {oc_made kV_made dc_made pm_made cd_made ct_made : Value} {od_made an_made : Option Addr} {sl_made : Array (Option Value)} {f_asl : Addr} {oc_asl kV_asl dc_asl pm_asl cd_asl ct_asl : Value} {od_asl an_asl : Option Addr} {sl_asl : Array (Option Value)} {f_sr : Addr} {oc_sr kV_sr dc_sr pm_sr cd_sr ct_sr : Value} {od_sr an_sr : Option Addr} {sl_sr : Array (Option Value)} {f_lr : Addr} {oc_lr kV_lr dc_lr pm_lr cd_lr ct_lr : Value} {od_lr an_lr : Option Addr} {sl_lr : Array (Option Value)} {f_law : Addr} {oc_law kV_law dc_law pm_law cd_law ct_law : Value} {od_law an_law : Option Addr} {sl_law : Array (Option Value)} {f_init T_init : Addr} {oc_init kV_init dc_init pm_init cd_init ct_init ot_init : Value} {od_init an_init dt_init : Option Addr} {sl_init st_init : Array (Option Value)} {n_init : Nat} {tk_init0 : Tok} {f_heat T_heat : Addr} {oc_heat kV_heat dc_heat pm_heat cd_heat ct_heat ot_heat : Value} {od_heat an_heat dt_heat : Option Addr} {sl_heat st_heat : Array (Option Value)} {n_heat : Nat} {tk_heat0 : Tok} {f_life : Addr} {oc_life kV_life dc_life pm_life cd_life ct_life : Value} {od_life an_life : Option Addr} {sl_life : Array (Option Value)} {f_cools : Addr} {oc_cools kV_cools dc_cools pm_cools cd_cools ct_cools : Value} {od_cools an_cools : Option Addr} {sl_cools : Array (Option Value)} {tM : Tok} {tL : Tok} (X : K.In h) (G : h.Ns mainGlobals mg) (hfa : mg "law" = some (.ref fa))
    (g_C : PySem.W.nsIn K mainGlobals "Metal" = some (some (.ref C)))
    (pg_C : PySem.W.plainGet K C Str.empty = true)
    (hd_C : PySem.W.hasDictIn K C = true)
    (po_C : PySem.W.plainOver K C = true)
    (sa_C : PySem.W.findIn K (.ref C) "__setattr__" = some (some (.builtin "object.__setattr__")))
    (mk_C : PySem.W.makesIn K C = true)
    (kc_C : PySem.W.keepIn K (.ref C) = true)
    (at_C_full : PySem.W.findIn K (.ref C) "full" = some none)
    (at_C_least : PySem.W.findIn K (.ref C) "least" = some none)
    (at_C_losses : PySem.W.findIn K (.ref C) "losses" = some none)
    (at_C_air : PySem.W.findIn K (.ref C) "air" = some none)
    (a_isn : PySem.W.nsIn K mainGlobals "is_number" = some (some (.ref f_isn)))
    (l_isn : K.lookup f_isn = some ⟨oc_isn, od_isn, .func (PySem.W.fnOf "is_number" "is_number" (defArgs sis_number) (defBody sis_number) (defScope sis_number) (.ref T_isn) kV_isn dc_isn pm_isn an_isn cd_isn ct_isn), sl_isn⟩)
    (c_isn : PySem.W.codeIn K cd_isn "is_number" = true)
    (k_isn : PySem.W.keepIn K (.ref f_isn) = true)
    (d_isn : K.lookup T_isn = some ⟨ot_isn, dt_isn, .seq #[.none] n_isn, st_isn⟩)
    (a_isr : PySem.W.nsIn K mainGlobals "is_row" = some (some (.ref f_isr)))
    (l_isr : K.lookup f_isr = some ⟨oc_isr, od_isr, .func (PySem.W.fnOf "is_row" "is_row" (defArgs sis_row) (defBody sis_row) (defScope sis_row) .none kV_isr dc_isr pm_isr an_isr cd_isr ct_isr), sl_isr⟩)
    (c_isr : PySem.W.codeIn K cd_isr "is_row" = true)
    (k_isr : PySem.W.keepIn K (.ref f_isr) = true)
    (a_isl : PySem.W.nsIn K mainGlobals "is_loss" = some (some (.ref f_isl)))
    (l_isl : K.lookup f_isl = some ⟨oc_isl, od_isl, .func (PySem.W.fnOf "is_loss" "is_loss" (defArgs sis_loss) (defBody sis_loss) (defScope sis_loss) .none kV_isl dc_isl pm_isl an_isl cd_isl ct_isl), sl_isl⟩)
    (c_isl : PySem.W.codeIn K cd_isl "is_loss" = true)
    (k_isl : PySem.W.keepIn K (.ref f_isl) = true)
    (a_arl : PySem.W.nsIn K mainGlobals "are_losses" = some (some (.ref f_arl)))
    (l_arl : K.lookup f_arl = some ⟨oc_arl, od_arl, .func (PySem.W.fnOf "are_losses" "are_losses" (defArgs sare_losses) (defBody sare_losses) (defScope sare_losses) .none kV_arl dc_arl pm_arl an_arl cd_arl ct_arl), sl_arl⟩)
    (c_arl : PySem.W.codeIn K cd_arl "are_losses" = true)
    (k_arl : PySem.W.keepIn K (.ref f_arl) = true)
    (a_btl : PySem.W.nsIn K mainGlobals "beats_to_lose" = some (some (.ref f_btl)))
    (l_btl : K.lookup f_btl = some ⟨oc_btl, od_btl, .func (PySem.W.fnOf "beats_to_lose" "beats_to_lose" (defArgs sbeats_to_lose) (defBody sbeats_to_lose) (defScope sbeats_to_lose) .none kV_btl dc_btl pm_btl an_btl cd_btl ct_btl), sl_btl⟩)
    (c_btl : PySem.W.codeIn K cd_btl "beats_to_lose" = true)
    (k_btl : PySem.W.keepIn K (.ref f_btl) = true)
    (a_tape : PySem.W.nsIn K mainGlobals "_law_tape" = some (some (.ref f_tape)))
    (l_tape : K.lookup f_tape = some ⟨oc_tape, od_tape, .func (PySem.W.fnOf "_law_tape" "_law_tape" (defArgs sLtape) (defBody sLtape) (defScope sLtape) .none kV_tape dc_tape pm_tape an_tape cd_tape ct_tape), sl_tape⟩)
    (c_tape : PySem.W.codeIn K cd_tape "_law_tape" = true)
    (k_tape : PySem.W.keepIn K (.ref f_tape) = true)
    (a_draw : PySem.W.nsIn K mainGlobals "_law_draw" = some (some (.ref f_draw)))
    (l_draw : K.lookup f_draw = some ⟨oc_draw, od_draw, .func (PySem.W.fnOf "_law_draw" "_law_draw" (defArgs sLdraw) (defBody sLdraw) (defScope sLdraw) .none kV_draw dc_draw pm_draw an_draw cd_draw ct_draw), sl_draw⟩)
    (c_draw : PySem.W.codeIn K cd_draw "_law_draw" = true)
    (k_draw : PySem.W.keepIn K (.ref f_draw) = true)
    (a_fold : PySem.W.nsIn K mainGlobals "_law_folded" = some (some (.ref f_fold)))
    (l_fold : K.lookup f_fold = some ⟨oc_fold, od_fold, .func (PySem.W.fnOf "_law_folded" "_law_folded" (defArgs sLfolded) (defBody sLfolded) (defScope sLfolded) .none kV_fold dc_fold pm_fold an_fold cd_fold ct_fold), sl_fold⟩)
    (c_fold : PySem.W.codeIn K cd_fold "_law_folded" = true)
    (k_fold : PySem.W.keepIn K (.ref f_fold) = true)
    (a_los : PySem.W.nsIn K mainGlobals "_law_losses" = some (some (.ref f_los)))
    (l_los : K.lookup f_los = some ⟨oc_los, od_los, .func (PySem.W.fnOf "_law_losses" "_law_losses" (defArgs sLlosses) (defBody sLlosses) (defScope sLlosses) .none kV_los dc_los pm_los an_los cd_los ct_los), sl_los⟩)
    (c_los : PySem.W.codeIn K cd_los "_law_losses" = true)
    (k_los : PySem.W.keepIn K (.ref f_los) = true)
    (a_met : PySem.W.nsIn K mainGlobals "_law_metal" = some (some (.ref f_met)))
    (l_met : K.lookup f_met = some ⟨oc_met, od_met, .func (PySem.W.fnOf "_law_metal" "_law_metal" (defArgs sLmetal) (defBody sLmetal) (defScope sLmetal) .none kV_met dc_met pm_met an_met cd_met ct_met), sl_met⟩)
    (c_met : PySem.W.codeIn K cd_met "_law_metal" = true)
    (k_met : PySem.W.keepIn K (.ref f_met) = true)
    (a_sb : PySem.W.nsIn K mainGlobals "_law_some_beats" = some (some (.ref f_sb)))
    (l_sb : K.lookup f_sb = some ⟨oc_sb, od_sb, .func (PySem.W.fnOf "_law_some_beats" "_law_some_beats" (defArgs sLsome_beats) (defBody sLsome_beats) (defScope sLsome_beats) .none kV_sb dc_sb pm_sb an_sb cd_sb ct_sb), sl_sb⟩)
    (c_sb : PySem.W.codeIn K cd_sb "_law_some_beats" = true)
    (k_sb : PySem.W.keepIn K (.ref f_sb) = true)
    (a_made : PySem.W.nsIn K mainGlobals "_law_made" = some (some (.ref f_made)))
    (l_made : K.lookup f_made = some ⟨oc_made, od_made, .func (PySem.W.fnOf "_law_made" "_law_made" (defArgs sLmade) (defBody sLmade) (defScope sLmade) .none kV_made dc_made pm_made an_made cd_made ct_made), sl_made⟩)
    (c_made : PySem.W.codeIn K cd_made "_law_made" = true)
    (k_made : PySem.W.keepIn K (.ref f_made) = true)
    (a_asl : PySem.W.nsIn K mainGlobals "_law_as_long" = some (some (.ref f_asl)))
    (l_asl : K.lookup f_asl = some ⟨oc_asl, od_asl, .func (PySem.W.fnOf "_law_as_long" "_law_as_long" (defArgs sLas_long) (defBody sLas_long) (defScope sLas_long) .none kV_asl dc_asl pm_asl an_asl cd_asl ct_asl), sl_asl⟩)
    (c_asl : PySem.W.codeIn K cd_asl "_law_as_long" = true)
    (k_asl : PySem.W.keepIn K (.ref f_asl) = true)
    (a_sr : PySem.W.nsIn K mainGlobals "_law_same_right" = some (some (.ref f_sr)))
    (l_sr : K.lookup f_sr = some ⟨oc_sr, od_sr, .func (PySem.W.fnOf "_law_same_right" "_law_same_right" (defArgs sLsame_right) (defBody sLsame_right) (defScope sLsame_right) .none kV_sr dc_sr pm_sr an_sr cd_sr ct_sr), sl_sr⟩)
    (c_sr : PySem.W.codeIn K cd_sr "_law_same_right" = true)
    (k_sr : PySem.W.keepIn K (.ref f_sr) = true)
    (a_lr : PySem.W.nsIn K mainGlobals "_law_less_right" = some (some (.ref f_lr)))
    (l_lr : K.lookup f_lr = some ⟨oc_lr, od_lr, .func (PySem.W.fnOf "_law_less_right" "_law_less_right" (defArgs sLless_right) (defBody sLless_right) (defScope sLless_right) .none kV_lr dc_lr pm_lr an_lr cd_lr ct_lr), sl_lr⟩)
    (c_lr : PySem.W.codeIn K cd_lr "_law_less_right" = true)
    (k_lr : PySem.W.keepIn K (.ref f_lr) = true)
    (a_law : PySem.W.nsIn K mainGlobals "law" = some (some (.ref f_law)))
    (l_law : K.lookup f_law = some ⟨oc_law, od_law, .func (PySem.W.fnOf "law" "law" (defArgs slaw) (defBody slaw) (defScope slaw) .none kV_law dc_law pm_law an_law cd_law ct_law), sl_law⟩)
    (c_law : PySem.W.codeIn K cd_law "law" = true)
    (k_law : PySem.W.keepIn K (.ref f_law) = true)
    (a_init : PySem.W.findIn K (.ref C) "__init__" = some (some (.ref f_init)))
    (i_init : PySem.W.isFn K (.ref f_init) = true)
    (l_init : K.lookup f_init = some ⟨oc_init, od_init, .func (PySem.W.fnOf "__init__" "Metal.__init__" (defArgs sMetal_init) (defBody sMetal_init) (defScope sMetal_init) (.ref T_init) kV_init dc_init pm_init an_init cd_init ct_init), sl_init⟩)
    (c_init : PySem.W.codeIn K cd_init "Metal.__init__" = true)
    (k_init : PySem.W.keepIn K (.ref f_init) = true)
    (d_init : K.lookup T_init = some ⟨ot_init, dt_init, .seq #[.int 0 tk_init0] n_init, st_init⟩)
    (a_heat : PySem.W.findIn K (.ref C) "heat" = some (some (.ref f_heat)))
    (i_heat : PySem.W.isFn K (.ref f_heat) = true)
    (l_heat : K.lookup f_heat = some ⟨oc_heat, od_heat, .func (PySem.W.fnOf "heat" "Metal.heat" (defArgs sMetal_heat) (defBody sMetal_heat) (defScope sMetal_heat) (.ref T_heat) kV_heat dc_heat pm_heat an_heat cd_heat ct_heat), sl_heat⟩)
    (c_heat : PySem.W.codeIn K cd_heat "Metal.heat" = true)
    (k_heat : PySem.W.keepIn K (.ref f_heat) = true)
    (d_heat : K.lookup T_heat = some ⟨ot_heat, dt_heat, .seq #[.int 0 tk_heat0] n_heat, st_heat⟩)
    (a_life : PySem.W.findIn K (.ref C) "life" = some (some (.ref f_life)))
    (i_life : PySem.W.isFn K (.ref f_life) = true)
    (l_life : K.lookup f_life = some ⟨oc_life, od_life, .func (PySem.W.fnOf "life" "Metal.life" (defArgs sMetal_life) (defBody sMetal_life) (defScope sMetal_life) .none kV_life dc_life pm_life an_life cd_life ct_life), sl_life⟩)
    (c_life : PySem.W.codeIn K cd_life "Metal.life" = true)
    (k_life : PySem.W.keepIn K (.ref f_life) = true)
    (a_cools : PySem.W.findIn K (.ref C) "cools_to" = some (some (.ref f_cools)))
    (i_cools : PySem.W.isFn K (.ref f_cools) = true)
    (l_cools : K.lookup f_cools = some ⟨oc_cools, od_cools, .func (PySem.W.fnOf "cools_to" "Metal.cools_to" (defArgs sMetal_cools_to) (defBody sMetal_cools_to) (defScope sMetal_cools_to) .none kV_cools dc_cools pm_cools an_cools cd_cools ct_cools), sl_cools⟩)
    (c_cools : PySem.W.codeIn K cd_cools "Metal.cools_to" = true)
    (k_cools : PySem.W.keepIn K (.ref f_cools) = true)
    (z_len : PySem.W.nsIn K mainGlobals "len" = some none)
    (z_range : PySem.W.nsIn K mainGlobals "range" = some none)
    (z_enumerate : PySem.W.nsIn K mainGlobals "enumerate" = some none)
    (z_abs : PySem.W.nsIn K mainGlobals "abs" = some none)
    (z_min : PySem.W.nsIn K mainGlobals "min" = some none)
    (z_max : PySem.W.nsIn K mainGlobals "max" = some none)
    (z_any : PySem.W.nsIn K mainGlobals "any" = some none)
    (z_all : PySem.W.nsIn K mainGlobals "all" = some none)
    (z_isinstance : PySem.W.nsIn K mainGlobals "isinstance" = some none)
    (z_int : PySem.W.nsIn K mainGlobals "int" = some none)
    (z_bool : PySem.W.nsIn K mainGlobals "bool" = some none)
    (z_list : PySem.W.nsIn K mainGlobals "list" = some none)
    (z_tuple : PySem.W.nsIn K mainGlobals "tuple" = some none)
    (g_MOST : PySem.W.nsIn K mainGlobals "MOST" = some (some (.int 1000000 tM)))
    (g_MOST_LOSSES : PySem.W.nsIn K mainGlobals "MOST_LOSSES" = some (some (.int 6 tL))) :
    ∃ fd : FuncData, (∀ (s : Shared) (v : Value), BindsTo s fd ⟨[v], []⟩ [("_law_script", v)]) ∧ ∀ base : Heap, K.In base → base.Ns mainGlobals mg → FnOk l.prog w K mg base CX0 8 fa fd ["_law_script"] (spLaw K) := by
  have e := hfa.symm.trans (PySem.W.mg_of X G a_law)
  cases e
  have T : Txt mg tM tL := ⟨PySem.W.mg_none_of X G z_len, PySem.W.mg_none_of X G z_range, PySem.W.mg_none_of X G z_enumerate, PySem.W.mg_none_of X G z_abs, PySem.W.mg_none_of X G z_min, PySem.W.mg_none_of X G z_max, PySem.W.mg_none_of X G z_any, PySem.W.mg_none_of X G z_all, PySem.W.mg_none_of X G z_isinstance, PySem.W.mg_none_of X G z_int, PySem.W.mg_none_of X G z_bool, PySem.W.mg_none_of X G z_list, PySem.W.mg_none_of X G z_tuple, PySem.W.mg_of X G g_MOST, PySem.W.mg_of X G g_MOST_LOSSES⟩
  have MT : MetalTxt K C := ⟨⟨pg_C, hd_C, po_C, sa_C⟩, at_C_full, at_C_least, at_C_losses, at_C_air⟩
  have F_isn : FunD K "is_number" "is_number" (defArgs sis_number) (defBody sis_number) (defScope sis_number) [.non] [] f_isn _ := ⟨⟨_, _, _, _, _, _, _, _, _, _, rfl, l_isn, c_isn, .inr ⟨by simp, T_isn, _, [.none], _, rfl, d_isn, rfl, .cons rfl .nil⟩, .inl rfl⟩, k_isn⟩
  obtain ⟨ds_isn, vd_isn, b_isn⟩ := F_isn.binds1 (ps := ["thing", "least", "most"]) 3 1 (by simp) rfl fun T kV doc pm an cdv ct us its h1 h2 => match us, h1, its, h2 with | [_, _, _], _, [_], _ => ⟨_, rfl, rfl⟩
  cases vd_isn
  have F_isr := fun_mk (st := sis_row) l_isr c_isr k_isr
  have b_isr := F_isr.binds (ps := ["thing", "least", "most"]) fun _ _ _ _ _ _ us hl => match us, hl with | [_, _, _], _ => rfl
  have F_isl := fun_mk (st := sis_loss) l_isl c_isl k_isl
  have b_isl := F_isl.binds (ps := ["thing"]) fun _ _ _ _ _ _ us hl => match us, hl with | [_], _ => rfl
  have F_arl := fun_mk (st := sare_losses) l_arl c_arl k_arl
  have b_arl := F_arl.binds (ps := ["thing"]) fun _ _ _ _ _ _ us hl => match us, hl with | [_], _ => rfl
  have F_btl := fun_mk (st := sbeats_to_lose) l_btl c_btl k_btl
  have b_btl := F_btl.binds (ps := ["heat", "loss"]) fun _ _ _ _ _ _ us hl => match us, hl with | [_, _], _ => rfl
  have F_tape := fun_mk (st := sLtape) l_tape c_tape k_tape
  have b_tape := F_tape.binds (ps := ["_law_script", "_law_k"]) fun _ _ _ _ _ _ us hl => match us, hl with | [_, _], _ => rfl
  have F_draw := fun_mk (st := sLdraw) l_draw c_draw k_draw
  have b_draw := F_draw.binds (ps := ["_law_tape_here", "_law_many"]) fun _ _ _ _ _ _ us hl => match us, hl with | [_, _], _ => rfl
  have F_fold := fun_mk (st := sLfolded) l_fold c_fold k_fold
  have b_fold := F_fold.binds (ps := ["_law_script", "_law_many"]) fun _ _ _ _ _ _ us hl => match us, hl with | [_, _], _ => rfl
  have F_los := fun_mk (st := sLlosses) l_los c_los k_los
  have b_los := F_los.binds (ps := ["_law_tape_here"]) fun _ _ _ _ _ _ us hl => match us, hl with | [_], _ => rfl
  have F_met := fun_mk (st := sLmetal) l_met c_met k_met
  have b_met := F_met.binds (ps := ["_law_tape_here"]) fun _ _ _ _ _ _ us hl => match us, hl with | [_], _ => rfl
  have F_sb := fun_mk (st := sLsome_beats) l_sb c_sb k_sb
  have b_sb := F_sb.binds (ps := ["_law_tape_here", "_law_row"]) fun _ _ _ _ _ _ us hl => match us, hl with | [_, _], _ => rfl
  have F_made := fun_mk (st := sLmade) l_made c_made k_made
  have b_made := F_made.binds (ps := ["_law_row"]) fun _ _ _ _ _ _ us hl => match us, hl with | [_], _ => rfl
  have F_asl := fun_mk (st := sLas_long) l_asl c_asl k_asl
  have b_asl := F_asl.binds (ps := ["_law_one", "_law_other"]) fun _ _ _ _ _ _ us hl => match us, hl with | [_, _], _ => rfl
  have F_sr := fun_mk (st := sLsame_right) l_sr c_sr k_sr
  have b_sr := F_sr.binds (ps := ["_law_tape_here", "_law_row", "_law_own", "_law_beats"]) fun _ _ _ _ _ _ us hl => match us, hl with | [_, _, _, _], _ => rfl
  have F_lr := fun_mk (st := sLless_right) l_lr c_lr k_lr
  have b_lr := F_lr.binds (ps := ["_law_tape_here", "_law_row", "_law_own", "_law_beats"]) fun _ _ _ _ _ _ us hl => match us, hl with | [_, _, _, _], _ => rfl
  have F_life := fun_mk (st := sMetal_life) l_life c_life k_life
  have b_life := F_life.binds (ps := ["self"]) fun _ _ _ _ _ _ us hl => match us, hl with | [_], _ => rfl
  have F_cools := fun_mk (st := sMetal_cools_to) l_cools c_cools k_cools
  have b_cools := F_cools.binds (ps := ["self", "heat"]) fun _ _ _ _ _ _ us hl => match us, hl with | [_, _], _ => rfl
  have F_init : FunD K "__init__" "Metal.__init__" (defArgs sMetal_init) (defBody sMetal_init) (defScope sMetal_init) [.int 0] [] f_init _ := ⟨⟨_, _, _, _, _, _, _, _, _, _, rfl, l_init, c_init, .inr ⟨by simp, T_init, _, [.int 0 tk_init0], _, rfl, d_init, rfl, .cons ⟨_, rfl⟩ .nil⟩, .inl rfl⟩, k_init⟩
  have F_heat : FunD K "heat" "Metal.heat" (defArgs sMetal_heat) (defBody sMetal_heat) (defScope sMetal_heat) [.int 0] [] f_heat _ := ⟨⟨_, _, _, _, _, _, _, _, _, _, rfl, l_heat, c_heat, .inr ⟨by simp, T_heat, _, [.int 0 tk_heat0], _, rfl, d_heat, rfl, .cons ⟨_, rfl⟩ .nil⟩, .inl rfl⟩, k_heat⟩
  obtain ⟨ds1, vd1, b_init⟩ := F_init.binds1 (ps := ["self", "full", "least", "losses", "air"]) 5 1 (by simp) rfl fun T kV doc pm an cdv ct us its h1 h2 => match us, h1, its, h2 with | [_, _, _, _, _], _, [_], _ => ⟨_, rfl, rfl⟩
  cases vd1
  obtain ⟨ds2, vd2, b_heat⟩ := F_heat.binds1 (ps := ["self", "beats"]) 2 1 (by simp) rfl fun T kV doc pm an cdv ct us its h1 h2 => match us, h1, its, h2 with | [_, _], _, [_], _ => ⟨_, rfl, rfl⟩
  cases vd2
  obtain ⟨ds3, vd3, b_heat0⟩ := F_heat.binds1 (ps := ["self", "beats"]) 1 0 (by simp) rfl fun T kV doc pm an cdv ct us its h1 h2 => match us, h1, its, h2 with | [_], _, [_], _ => ⟨_, rfl, rfl⟩
  obtain ⟨its, kb_heat⟩ := F_heat.kbindsD (ps := ["self", "beats"]) 1 ["beats"] (fun us _ ws => us ++ ws) (by simp) (fun r1 _ r2 => r1.append r2) fun T kV doc pm an cdv ct us its ws h1 h2 h3 => match us, h1, its, h2, ws, h3 with | [_], _, [_], _, [_], _ => ⟨_, rfl, rfl⟩
  refine ⟨PySem.W.fnOf "law" "law" (defArgs slaw) (defBody slaw) (defScope slaw) .none kV_law dc_law pm_law an_law cd_law ct_law, fun s v => .of_eq rfl, fun base _ _ => ?_⟩
  have Disn : DIsNumber l.prog w K mg base := ⟨⟨_, _, ok_is_number F_isn T, PySem.W.mg_of X G a_isn, k_isn, b_isn⟩⟩
  have Disr : Df l.prog w K mg base "is_row" 1 ["thing", "least", "most"] spIsRow := ⟨⟨_, _, ok_is_row F_isr T, PySem.W.mg_of X G a_isr, k_isr, b_isr⟩⟩
  have Disl : Df l.prog w K mg base "is_loss" 2 ["thing"] spIsLoss := ⟨⟨_, _, ok_is_loss F_isl T Disn, PySem.W.mg_of X G a_isl, k_isl, b_isl⟩⟩
  have Darl : Df l.prog w K mg base "are_losses" 3 ["thing"] spAreLosses := ⟨⟨_, _, ok_are_losses F_arl T Disr Disl, PySem.W.mg_of X G a_arl, k_arl, b_arl⟩⟩
  have Dbtl : Df l.prog w K mg base "beats_to_lose" 1 ["heat", "loss"] spLose := ⟨⟨_, _, ok_lose F_btl, PySem.W.mg_of X G a_btl, k_btl, b_btl⟩⟩
  have Ddraw : DDraw l.prog w K mg base := ⟨⟨_, _, ok_draw F_draw, PySem.W.mg_of X G a_draw, k_draw, b_draw⟩⟩
  have Dtape : Df l.prog w K mg base "_law_tape" 1 ["_law_script", "_law_k"] (spTape K) := ⟨⟨_, _, ok_tape F_tape T, PySem.W.mg_of X G a_tape, k_tape, b_tape⟩⟩
  have Dfold : Df l.prog w K mg base "_law_folded" 1 ["_law_script", "_law_many"] (spFolded K) := ⟨⟨_, _, ok_folded F_fold T, PySem.W.mg_of X G a_fold, k_fold, b_fold⟩⟩
  have Dlos : Df l.prog w K mg base "_law_losses" 2 ["_law_tape_here"] spLosses := ⟨⟨_, _, ok_losses F_los T Ddraw, PySem.W.mg_of X G a_los, k_los, b_los⟩⟩
  have Dmet : Df l.prog w K mg base "_law_metal" 3 ["_law_tape_here"] spMetal := ⟨⟨_, _, ok_metal F_met T Ddraw Dlos, PySem.W.mg_of X G a_met, k_met, b_met⟩⟩
  have Dsb : Df l.prog w K mg base "_law_some_beats" 2 ["_law_tape_here", "_law_row"] spSome := ⟨⟨_, _, ok_some F_sb T Ddraw, PySem.W.mg_of X G a_sb, k_sb, b_sb⟩⟩
  have DH : DHeat l.prog w K mg base C := ⟨⟨f_heat, _, ds3, ok_heat F_heat T MT, MT.cl, ⟨a_heat, i_heat, k_heat⟩, b_heat, vd3, b_heat0, kb_heat⟩⟩
  have DC : Dm l.prog w K mg base C "cools_to" 2 ["self", "heat"] (spCools C) := ⟨⟨f_cools, _, ok_cools F_cools T MT Dbtl, MT.cl, ⟨a_cools, i_cools, k_cools⟩, b_cools⟩⟩
  have DL : Dm l.prog w K mg base C "life" 3 ["self"] (spLife C) := ⟨⟨f_life, _, ok_life F_life MT DC, MT.cl, ⟨a_life, i_life, k_life⟩, b_life⟩⟩
  have DM : DMk l.prog w K mg base C := ⟨⟨f_init, _, ⟨mk_C, a_init, i_init, kc_C⟩, ok_init F_init T MT Disn Darl, PySem.W.mg_of X G g_C, b_init⟩⟩
  have Dmade : Df l.prog w K mg base "_law_made" 6 ["_law_row"] (spMade C) := ⟨⟨_, _, ok_made F_made DM, PySem.W.mg_of X G a_made, k_made, b_made⟩⟩
  have Dasl : Df l.prog w K mg base "_law_as_long" 1 ["_law_one", "_law_other"] spAsLong := ⟨⟨_, _, ok_as_long F_asl, PySem.W.mg_of X G a_asl, k_asl, b_asl⟩⟩
  have Dsr : Df l.prog w K mg base "_law_same_right" 7 ["_law_tape_here", "_law_row", "_law_own", "_law_beats"] (spRight C) := ⟨⟨_, _, ok_same_right F_sr T Ddraw Dmade DL DH, PySem.W.mg_of X G a_sr, k_sr, b_sr⟩⟩
  have Dlr : Df l.prog w K mg base "_law_less_right" 7 ["_law_tape_here", "_law_row", "_law_own", "_law_beats"] (spRight C) := ⟨⟨_, _, ok_less_right F_lr T Ddraw Dmade Dasl DL DH, PySem.W.mg_of X G a_lr, k_lr, b_lr⟩⟩
  exact ok_law (fun_mk (st := slaw) l_law c_law k_law) T Dfold Dtape Dmet Dmade Dsb Dsr Dlr
theorem walk {l : PySem.W.OpenLaw} {q : Program} {loose : List Str} {XP : (Str → Option Value) → Heap → Prop} {YP : World → Heap → Prop} {d : DefRec} {K : Params → PySem.W.Frag} (hn : l.most = some 63) (hdf : d.params.defaults = [])
    (hY : ∀ (w : World) (h : Heap), YP w h → (K w.params).In h)
    (F : ∀ (w : World) (mg : Str → Option Value) (fa : Addr) (h : Heap), (K w.params).In h → h.Ns mainGlobals mg → mg d.name = some (.ref fa) →
      ∃ fd : FuncData, (∀ (s : Shared) (u : Value), BindsTo s fd ⟨[u], []⟩ [("_law_script", u)]) ∧ ∀ base : Heap, (K w.params).In base → base.Ns mainGlobals mg → FnOk l.prog w (K w.params) mg base CX0 8 fa fd ["_law_script"] (spLaw (K w.params))) :
    PySem.W.WalkO q loose XP YP l.row.toRowW d [] (fun f vs => PySem.call f vs) :=
  L2.walk_of (n := 63) (k := 8) (x := "_law_script") (CX := fun _ => CX0) (sp := fun w => spLaw (K w.params)) hn (by decide) hdf ⟨rfl, by decide, by decide⟩ hY F (fun _ _ a ns hl _ hS => ⟨a, ns, rfl, hS, hl, fun _ => rfl⟩) fun _ _ _ _ _ z => z
end HP
open PySem PySem.W PyProof.Rows in
set_option maxRecDepth 100000 in
set_option maxHeartbeats 0 in
theorem PySem.Challenge.cw_hotpass_k05_metals_put_otherwise_holds : PySem.Challenge.rw_hotpass_k05_metals_put_otherwise.Holds := by
  w_on; o_law; k_head; (case hw => w_witness2)
  k_fill
  refine HP.walk (l := PySem.Challenge.rw_hotpass_k05_metals_put_otherwise) rfl rfl (fun w h Y => PySem.W.kIn_of Y) ?F
  case F =>
    intro w mg fa h KX G hmg
    refine' HP.all_mk KX G hmg ?g_C ?pg_C ?hd_C ?po_C ?sa_C ?mk_C ?kc_C ?at_C_full ?at_C_least ?at_C_losses ?at_C_air ?a_isn ?l_isn ?c_isn ?k_isn ?d_isn ?a_isr ?l_isr ?c_isr ?k_isr ?a_isl ?l_isl ?c_isl ?k_isl ?a_arl ?l_arl ?c_arl ?k_arl ?a_btl ?l_btl ?c_btl ?k_btl ?a_tape ?l_tape ?c_tape ?k_tape ?a_draw ?l_draw ?c_draw ?k_draw ?a_fold ?l_fold ?c_fold ?k_fold ?a_los ?l_los ?c_los ?k_los ?a_met ?l_met ?c_met ?k_met ?a_sb ?l_sb ?c_sb ?k_sb ?a_made ?l_made ?c_made ?k_made ?a_asl ?l_asl ?c_asl ?k_asl ?a_sr ?l_sr ?c_sr ?k_sr ?a_lr ?l_lr ?c_lr ?k_lr ?a_law ?l_law ?c_law ?k_law ?a_init ?i_init ?l_init ?c_init ?k_init ?d_init ?a_heat ?i_heat ?l_heat ?c_heat ?k_heat ?d_heat ?a_life ?i_life ?l_life ?c_life ?k_life ?a_cools ?i_cools ?l_cools ?c_cools ?k_cools ?z_len ?z_range ?z_enumerate ?z_abs ?z_min ?z_max ?z_any ?z_all ?z_isinstance ?z_int ?z_bool ?z_list ?z_tuple ?g_MOST ?g_MOST_LOSSES
    (case g_C => k_is)
    (case pg_C => k_is)
    (case hd_C => k_is)
    (case po_C => k_is)
    (case sa_C => k_is)
    (case mk_C => k_is)
    (case kc_C => k_is)
    (case at_C_full => k_is)
    (case at_C_least => k_is)
    (case at_C_losses => k_is)
    (case at_C_air => k_is)
    (case a_isn => k_is)
    (case l_isn => k_is)
    (case c_isn => k_is)
    (case k_isn => k_is)
    (case d_isn => k_is)
    (case a_isr => k_is)
    (case l_isr => k_is)
    (case c_isr => k_is)
    (case k_isr => k_is)
    (case a_isl => k_is)
    (case l_isl => k_is)
    (case c_isl => k_is)
    (case k_isl => k_is)
    (case a_arl => k_is)
    (case l_arl => k_is)
    (case c_arl => k_is)
    (case k_arl => k_is)
    (case a_btl => k_is)
    (case l_btl => k_is)
    (case c_btl => k_is)
    (case k_btl => k_is)
    (case a_tape => k_is)
    (case l_tape => k_is)
    (case c_tape => k_is)
    (case k_tape => k_is)
    (case a_draw => k_is)
    (case l_draw => k_is)
    (case c_draw => k_is)
    (case k_draw => k_is)
    (case a_fold => k_is)
    (case l_fold => k_is)
    (case c_fold => k_is)
    (case k_fold => k_is)
    (case a_los => k_is)
    (case l_los => k_is)
    (case c_los => k_is)
    (case k_los => k_is)
    (case a_met => k_is)
    (case l_met => k_is)
    (case c_met => k_is)
    (case k_met => k_is)
    (case a_sb => k_is)
    (case l_sb => k_is)
    (case c_sb => k_is)
    (case k_sb => k_is)
    (case a_made => k_is)
    (case l_made => k_is)
    (case c_made => k_is)
    (case k_made => k_is)
    (case a_asl => k_is)
    (case l_asl => k_is)
    (case c_asl => k_is)
    (case k_asl => k_is)
    (case a_sr => k_is)
    (case l_sr => k_is)
    (case c_sr => k_is)
    (case k_sr => k_is)
    (case a_lr => k_is)
    (case l_lr => k_is)
    (case c_lr => k_is)
    (case k_lr => k_is)
    (case a_law => k_is)
    (case l_law => k_is)
    (case c_law => k_is)
    (case k_law => k_is)
    (case a_init => k_is)
    (case i_init => k_is)
    (case l_init => k_is)
    (case c_init => k_is)
    (case k_init => k_is)
    (case d_init => k_is)
    (case a_heat => k_is)
    (case i_heat => k_is)
    (case l_heat => k_is)
    (case c_heat => k_is)
    (case k_heat => k_is)
    (case d_heat => k_is)
    (case a_life => k_is)
    (case i_life => k_is)
    (case l_life => k_is)
    (case c_life => k_is)
    (case k_life => k_is)
    (case a_cools => k_is)
    (case i_cools => k_is)
    (case l_cools => k_is)
    (case c_cools => k_is)
    (case k_cools => k_is)
    (case z_len => k_is)
    (case z_range => k_is)
    (case z_enumerate => k_is)
    (case z_abs => k_is)
    (case z_min => k_is)
    (case z_max => k_is)
    (case z_any => k_is)
    (case z_all => k_is)
    (case z_isinstance => k_is)
    (case z_int => k_is)
    (case z_bool => k_is)
    (case z_list => k_is)
    (case z_tuple => k_is)
    (case g_MOST => k_is)
    (case g_MOST_LOSSES => k_is)

