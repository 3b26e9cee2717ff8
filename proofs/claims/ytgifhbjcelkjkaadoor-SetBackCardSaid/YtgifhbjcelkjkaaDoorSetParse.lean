/- Plain facts on reading a set from its text: numerals, runs, commas; what is read shows as it was, and what is shown is read as it was; no condition. -/
import Derived.Test.YtgifhbjcelkjkaaDoorSetText
import Derived.Lib.Split
import Derived.Lib.CountLaws
import Derived.Lib.IndexMore
namespace Go.Proofs.YtgifhbjcelkjkaaDoor

def isDig (c : UInt8) : Bool := decide (48 ≤ c.toNat ∧ c.toNat ≤ 57)
/-- the number that digits tell, behind n -/
def stepN (n : Nat) (c : UInt8) : Nat := n * 10 + (c.toNat - 48)
def numFrom (n : Nat) (l : List UInt8) : Nat := l.foldl stepN n
theorem numFrom_nil (n : Nat) : numFrom n [] = n := rfl
theorem numFrom_cons (n : Nat) (c : UInt8) (t : List UInt8) : numFrom n (c :: t) = numFrom (stepN n c) t := by
  unfold numFrom
  rw [List.foldl_cons]
/-- a numeral without needless noughts, below 256 -/
def rn (l : List UInt8) : Option Nat :=
  if l = [] then none else if l.head? = some 48 ∧ 1 < l.length then none else if l.all isDig ∧ numFrom 0 l < 256 then some (numFrom 0 l) else none

theorem numFrom_append (n : Nat) (a b : List UInt8) : numFrom n (a ++ b) = numFrom (numFrom n a) b := by
  induction a generalizing n with
  | nil => rfl
  | cons c t ih => rw [List.cons_append, numFrom_cons, numFrom_cons]; exact ih _
theorem numFrom_ge (n : Nat) (l : List UInt8) : n ≤ numFrom n l := by
  induction l generalizing n with
  | nil => exact Nat.le_refl _
  | cons c t ih =>
    have h : n ≤ stepN n c := by unfold stepN; omega
    rw [numFrom_cons]
    exact Nat.le_trans h (ih _)
theorem numFrom_mono {n m : Nat} (h : n ≤ m) (l : List UInt8) : numFrom n l ≤ numFrom m l := by
  induction l generalizing n m with
  | nil => exact h
  | cons c t ih =>
    rw [numFrom_cons, numFrom_cons]
    exact ih (by unfold stepN; omega)
theorem numFrom_pow (n : Nat) (l : List UInt8) : n * 10 ^ l.length ≤ numFrom n l := by
  induction l generalizing n with
  | nil => rw [numFrom_nil]; simp
  | cons c t ih =>
    rw [numFrom_cons]
    have hm : n * 10 ≤ stepN n c := Nat.le_add_right _ _
    generalize stepN n c = m at hm
    have h := ih m
    have e : n * 10 ^ (c :: t).length = n * 10 * 10 ^ t.length := by
      rw [List.length_cons, Nat.pow_succ, Nat.mul_comm (10 ^ t.length) 10, Nat.mul_assoc]
    rw [e]
    exact Nat.le_trans (Nat.mul_le_mul_right _ hm) h

theorem dig_eq {c : UInt8} (h : isDig c = true) : UInt8.ofNat (48 + (c.toNat - 48)) = c := by
  simp [isDig] at h
  apply UInt8.toNat_inj.1
  rw [UInt8.toNat_ofNat']
  omega
theorem toNat_dig {d : Nat} (h : d < 10) : (UInt8.ofNat (48 + d)).toNat = 48 + d := by
  rw [UInt8.toNat_ofNat']; omega
theorem isDig_ofNat {d : Nat} (h : d < 10) : isDig (UInt8.ofNat (48 + d)) = true := by
  simp only [isDig, toNat_dig h, decide_eq_true_eq]; omega

/-- what a numeral tells has just this numeral -/
theorem decDigits_num : ∀ (k : Nat) (l : List UInt8), l.length = k → l ≠ [] → l.all isDig = true → (l.head? = some 48 → l.length ≤ 1) → Lib.decDigits (numFrom 0 l) = l := by
  intro k
  induction k with
  | zero => intro l hl hne; exact absurd (List.eq_nil_of_length_eq_zero hl) hne
  | succ k ih =>
    intro l hl hne hd hz
    obtain ⟨t, c, rfl⟩ : ∃ t c, l = t ++ [c] := ⟨l.dropLast, l.getLast hne, (List.dropLast_concat_getLast hne).symm⟩
    have hlt : t.length = k := by simpa using hl
    have hdt : t.all isDig = true ∧ isDig c = true := by simpa using hd
    have hc : c.toNat - 48 < 10 := by have := hdt.2; simp [isDig] at this; omega
    rw [numFrom_append]
    rw [numFrom_cons, numFrom_nil]
    unfold stepN
    cases t with
    | nil =>
      rw [numFrom_nil, Nat.zero_mul, Nat.zero_add, Lib.decDigits, dif_pos hc, dig_eq hdt.2]; rfl
    | cons x t =>
      have hx0 : ¬ x = 48 := fun e => by
        have := hz (by simp [e])
        simp at this
      have hx : isDig x = true := by have := hdt.1; simp at this; exact this.1
      have hpos : 1 ≤ numFrom 0 (x :: t) := by
        rw [numFrom_cons]
        refine Nat.le_trans ?_ (numFrom_ge _ t)
        unfold stepN
        have h48 : x.toNat ≠ 48 := fun e => hx0 (UInt8.toNat_inj.1 e)
        simp [isDig] at hx
        omega
      have hm := ih (x :: t) hlt (by simp) hdt.1 (fun e => by simp at e; exact absurd e hx0)
      rw [Lib.decDigits, dif_neg (by omega)]
      have e1 : (numFrom 0 (x :: t) * 10 + (c.toNat - 48)) / 10 = numFrom 0 (x :: t) := by omega
      have e2 : (numFrom 0 (x :: t) * 10 + (c.toNat - 48)) % 10 = c.toNat - 48 := by omega
      rw [e1, e2, hm, dig_eq hdt.2]

theorem decDigits_facts (u : Nat) : (Lib.decDigits u) ≠ [] ∧ (Lib.decDigits u).all isDig = true ∧ numFrom 0 (Lib.decDigits u) = u ∧ ((Lib.decDigits u).head? = some 48 → u = 0) := by
  induction u using Nat.strongRecOn with
  | ind u ih =>
    rw [Lib.decDigits]
    split
    · rename_i h
      refine ⟨by simp, by rw [List.all_cons, isDig_ofNat h]; rfl, ?_, ?_⟩
      · rw [numFrom_cons, numFrom_nil]
        unfold stepN
        rw [toNat_dig h]; omega
      · intro e
        simp only [List.head?_cons, Option.some.injEq] at e
        have := congrArg UInt8.toNat e
        rw [toNat_dig h] at this
        have h48 : (48 : UInt8).toNat = 48 := rfl
        omega
    · rename_i h
      obtain ⟨h1, h2, h3, h4⟩ := ih (u / 10) (by omega)
      have hd : u % 10 < 10 := by omega
      refine ⟨by simp, by rw [List.all_append, h2, List.all_cons, isDig_ofNat hd]; rfl, ?_, ?_⟩
      · rw [numFrom_append, h3]
        rw [numFrom_cons, numFrom_nil]
        unfold stepN
        rw [toNat_dig hd]; omega
      · intro e
        obtain ⟨x, t, hxt⟩ := List.exists_cons_of_ne_nil h1
        rw [hxt] at e h4
        have := h4 (by simpa using e)
        omega

theorem itoa_nat (v : Nat) : Lib.itoa (v : Int) = Lib.decDigits v := by
  unfold Lib.itoa
  rw [if_neg (by omega), Int.toNat_natCast]
theorem decDigits_zero : Lib.decDigits 0 = [48] := by rw [Lib.decDigits, dif_pos (by omega)]; rfl
theorem rn_itoa {v : Nat} (hv : v < 256) : rn (Lib.decDigits v) = some v := by
  obtain ⟨h1, h2, h3, h4⟩ := decDigits_facts v
  unfold rn
  rw [if_neg h1, if_neg, if_pos ⟨h2, by omega⟩, h3]
  rintro ⟨e, hl⟩
  have := h4 e
  subst this
  rw [decDigits_zero] at hl
  simp at hl
theorem rn_some {l : List UInt8} {v : Nat} (h : rn l = some v) : l = Lib.decDigits v ∧ v < 256 := by
  unfold rn at h
  split at h
  · cases h
  · rename_i h1
    split at h
    · cases h
    · rename_i h2
      split at h
      · rename_i h3
        injection h with h
        subst h
        refine ⟨(decDigits_num _ l rfl h1 h3.1 fun e => ?_).symm, h3.2⟩
        rcases Nat.lt_or_ge 1 l.length with hl | hl
        · exact absurd ⟨e, hl⟩ h2
        · exact hl
      · cases h

/-- cut at commas -/
def splitC : List UInt8 → List (List UInt8)
  | [] => [[]]
  | c :: t => if c = 44 then [] :: splitC t else match splitC t with
    | [] => [[c]]
    | r :: rs => (c :: r) :: rs
theorem splitC_ne (l : List UInt8) : splitC l ≠ [] := by
  cases l with
  | nil => simp [splitC]
  | cons c t =>
    unfold splitC
    split
    · simp
    · split <;> simp
theorem splitC_free {a : List UInt8} (h : (44 : UInt8) ∉ a) : splitC a = [a] := by
  induction a with
  | nil => rfl
  | cons c t ih =>
    have hc : ¬ c = 44 := fun e => h (by simp [e])
    unfold splitC
    rw [if_neg hc, ih (fun e => h (by simp [e]))]
theorem splitC_hit {a r : List UInt8} (h : (44 : UInt8) ∉ a) : splitC (a ++ 44 :: r) = a :: splitC r := by
  induction a with
  | nil => simp [splitC]
  | cons c t ih =>
    have hc : ¬ c = 44 := fun e => h (by simp [e])
    rw [List.cons_append]
    conv => lhs; unfold splitC
    rw [if_neg hc, ih (fun e => h (by simp [e]))]
theorem joinC_splitC (l : List UInt8) : joinC (splitC l) = l := by
  induction l with
  | nil => rfl
  | cons c t ih =>
    unfold splitC
    split
    · rename_i hc
      rw [joinC_cons (splitC_ne t), ih, hc]; rfl
    · cases h : splitC t with
      | nil => exact absurd h (splitC_ne t)
      | cons r rs =>
        rw [h] at ih
        simp only
        cases rs with
        | nil => rw [← ih]; rfl
        | cons r2 rs2 => rw [← ih]; rfl
theorem splitC_joinC {ds : List (List UInt8)} (h : ds ≠ []) (hx : ∀ x ∈ ds, (44 : UInt8) ∉ x) : splitC (joinC ds) = ds := by
  induction ds with
  | nil => exact absurd rfl h
  | cons y t ih =>
    cases t with
    | nil => exact splitC_free (hx y (by simp))
    | cons z t =>
      show splitC (y ++ 44 :: joinC (z :: t)) = _
      rw [splitC_hit (hx y (by simp)), ih (by simp) fun x hxx => hx x (List.mem_cons_of_mem _ hxx)]

theorem len_ne (n : Nat) : ((n : Int) == -1) = false := by
  rw [← Bool.not_eq_true, beq_iff_eq]; omega
/-- where one byte stands first -/
theorem index_one (c : UInt8) (l : List UInt8) : (Lib.index l [c] = -1 ∧ c ∉ l) ∨ ∃ a r, l = a ++ c :: r ∧ c ∉ a ∧ Lib.index l [c] = a.length := by
  induction l with
  | nil => left; simp [Lib.index]
  | cons x t ih =>
    unfold Lib.index
    by_cases hx : c = x
    · right
      subst hx
      exact ⟨[], t, rfl, by simp, by simp⟩
    · have hp : ([c].isPrefixOf (x :: t)) = false := by
        show (c == x && _) = false
        rw [beq_eq_false_iff_ne.2 hx, Bool.false_and]
      rw [hp]
      rcases ih with ⟨h1, h2⟩ | ⟨a, r, h1, h2, h3⟩
      · left
        rw [h1]
        exact ⟨rfl, by simp [hx, h2]⟩
      · right
        refine ⟨x :: a, r, by simp [h1], by simp [hx, h2], ?_⟩
        rw [h3]
        simp only [Bool.false_eq_true, if_false, len_ne]
        simp
theorem splitK_splitC : ∀ (n : Nat) (s : List UInt8), s.length ≤ n → Lib.splitK [44] 0 (Lib.count s [44]) s = splitC s := by
  intro n
  induction n with
  | zero =>
    intro s hs
    have : s = [] := List.eq_nil_of_length_eq_zero (by omega)
    subst this
    rw [Lib.count_miss rfl]; rfl
  | succ n ih =>
    intro s hs
    rcases index_one 44 s with ⟨h1, h2⟩ | ⟨a, r, rfl, h2, h3⟩
    · rw [Lib.count_miss h1, splitC_free h2]; rfl
    · rw [Lib.count_hit (by simp) h3, splitC_hit h2, Nat.add_comm, Lib.splitK, if_neg (by rw [h3, len_ne]; simp), h3]
      have e1 : (a ++ 44 :: r).drop (a.length + [(44 : UInt8)].length) = r := by
        rw [List.drop_append]; simp
      have e2 : (((a.length : Nat) : Int).toNat + 0) = a.length := by simp
      have e3 : (((a.length : Nat) : Int).toNat + [(44 : UInt8)].length) = a.length + [(44 : UInt8)].length := by simp
      rw [e2, e3, e1, List.take_left, ih r (by simp at hs; omega)]

/-- cut at the first '-' -/
def cutD (r : List UInt8) : List UInt8 × Option (List UInt8) :=
  if (45 : UInt8) ∈ r then (r.takeWhile (· != 45), some (r.drop ((r.takeWhile (· != 45)).length + 1))) else (r, none)
theorem takeWhile_hit {c : UInt8} {a r : List UInt8} (h : c ∉ a) : (a ++ c :: r).takeWhile (· != c) = a := by
  induction a with
  | nil => simp
  | cons x t ih =>
    have hx : (x != c) = true := by rw [bne_iff_ne]; exact fun e => h (by simp [e])
    rw [List.cons_append, List.takeWhile_cons, hx]
    simp only [if_true]
    rw [ih fun e => h (by simp [e])]
theorem cutD_hit {a r : List UInt8} (h : (45 : UInt8) ∉ a) : cutD (a ++ 45 :: r) = (a, some r) := by
  unfold cutD
  rw [if_pos (by simp), takeWhile_hit h, List.drop_append]
  simp
theorem cutD_free {a : List UInt8} (h : (45 : UInt8) ∉ a) : cutD a = (a, none) := by
  unfold cutD
  rw [if_neg h]
/-- one run's text -/
def rrun (r : List UInt8) : Option (Nat × Nat) :=
  match cutD r with
  | (h, none) => (rn h).map fun a => (a, a)
  | (h, some t) => match rn h, rn t with
    | some a, some b => if a < b then some (a, b) else none
    | _, _ => none
def rangeL (a b : Nat) : List Int := (List.range' a (b + 1 - a)).map fun (n : Nat) => (n : Int)
def pruns : List (List UInt8) → Nat → Option (List Int)
  | [], _ => some []
  | r :: rs, least => match rrun r with
    | none => none
    | some (a, b) => if a < least then none else (pruns rs (b + 2)).map (rangeL a b ++ ·)
/-- the document's answer: the set and the error's number -/
def parseL (t : List UInt8) : List Int × Int :=
  if 8192 < t.length then ([], 4) else if t = [] then ([], 0) else match pruns (splitC t) 0 with
    | none => ([], 3)
    | some l => (l, 0)

end Go.Proofs.YtgifhbjcelkjkaaDoor
