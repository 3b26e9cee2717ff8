/- Plain facts: to read a set byte by byte is to read it run by run; no condition. -/
import Derived.Test.YtgifhbjcelkjkaaDoorSetBack
namespace Go.Proofs.YtgifhbjcelkjkaaDoor

def numD (rest : List UInt8) : Option (Nat × List UInt8) :=
  match rn (rest.takeWhile isDig) with
  | none => none
  | some v => some (v, rest.dropWhile isDig)
def scanOne (rest : List UInt8) (least : Nat) : Option (Nat × Nat × List UInt8) :=
  match numD rest with
  | none => none
  | some (a, r1) => if a < least then none else match r1 with
    | [] => some (a, a, [])
    | c :: r2 => if c = 45 then match numD r2 with
      | none => none
      | some (b, r3) => if b ≤ a then none else some (a, b, r3)
      else some (a, a, c :: r2)
def scan : Nat → List UInt8 → Nat → Option (List Int)
  | 0, _, _ => none
  | f + 1, rest, least => match scanOne rest least with
    | none => none
    | some (a, b, []) => some (rangeL a b)
    | some (a, b, c :: r) => if c = 44 then (scan f r (b + 2)).map (rangeL a b ++ ·) else none

theorem rn_notdig {l : List UInt8} (h : l.all isDig = false) : rn l = none := by
  unfold rn
  split
  · rfl
  · split
    · rfl
    · rw [if_neg (by rw [h]; simp)]
theorem take_drop_dig (r tail : List UInt8) (ht : tail = [] ∨ ∃ c t, tail = c :: t ∧ isDig c = false) : (r ++ tail).takeWhile isDig = r.takeWhile isDig ∧ (r ++ tail).dropWhile isDig = r.dropWhile isDig ++ tail := by
  induction r with
  | nil =>
    rcases ht with rfl | ⟨c, t, rfl, hc⟩
    · exact ⟨rfl, rfl⟩
    · simp [hc]
  | cons x r ih =>
    rw [List.cons_append, List.takeWhile_cons, List.dropWhile_cons, List.takeWhile_cons, List.dropWhile_cons]
    cases isDig x with
    | true => simp only [if_true]; rw [ih.1, ih.2]; exact ⟨rfl, rfl⟩
    | false => simp
theorem dig_split (r : List UInt8) : (r.all isDig = true ∧ r.takeWhile isDig = r ∧ r.dropWhile isDig = []) ∨ ∃ c x, r.dropWhile isDig = c :: x ∧ c ∈ r ∧ isDig c = false ∧ r.all isDig = false := by
  induction r with
  | nil => left; exact ⟨rfl, rfl, rfl⟩
  | cons x r ih =>
    rw [List.takeWhile_cons, List.dropWhile_cons, List.all_cons]
    cases hx : isDig x with
    | true =>
      simp only [if_true, Bool.true_and]
      rcases ih with ⟨h1, h2, h3⟩ | ⟨c, y, h1, h2, h3, h4⟩
      · left; exact ⟨h1, by rw [h2], h3⟩
      · right; exact ⟨c, y, h1, List.mem_cons_of_mem _ h2, h3, h4⟩
    | false =>
      right
      simp only [Bool.false_eq_true, if_false, Bool.false_and]
      exact ⟨x, r, rfl, by simp, hx, by simp⟩

def Bad (res : Option (Nat × Nat × List UInt8)) : Prop := res = none ∨ ∃ a b c s, res = some (a, b, c :: s) ∧ c ≠ 44
theorem scanOne_bad {rest : List UInt8} {least : Nat} {c : UInt8} {x : List UInt8} (h : numD rest = none ∨ ∃ v, numD rest = some (v, c :: x)) (hc : c ≠ 45) (hc' : c ≠ 44) : Bad (scanOne rest least) := by
  unfold scanOne
  rcases h with h | ⟨v, h⟩
  · rw [h]; exact .inl rfl
  · rw [h]
    simp only
    by_cases hl : v < least
    · rw [if_pos hl]; exact .inl rfl
    · rw [if_neg hl, if_neg hc]
      exact .inr ⟨_, _, _, _, rfl, hc'⟩

theorem scanOne_run (r tail : List UInt8) (least : Nat) (hr : (44 : UInt8) ∉ r) (ht : tail = [] ∨ ∃ t, tail = 44 :: t) :
    match rrun r with
    | none => Bad (scanOne (r ++ tail) least)
    | some (a, b) => scanOne (r ++ tail) least = if a < least then none else some (a, b, tail) := by
  have ht' : tail = [] ∨ ∃ c t, tail = c :: t ∧ isDig c = false := by
    rcases ht with h | ⟨t, h⟩
    · exact .inl h
    · exact .inr ⟨44, t, h, rfl⟩
  unfold rrun
  rcases cutD_eq r with ⟨e, hno⟩ | ⟨h, t, rfl, hno, e⟩
  · rw [e]
    simp only
    obtain ⟨e1, e2⟩ := take_drop_dig r tail ht'
    rcases dig_split r with ⟨g1, g2, g3⟩ | ⟨c, x, g1, g2, g3, g4⟩
    · rw [g2] at e1
      rw [g3, List.nil_append] at e2
      cases hrn : rn r with
      | none =>
        simp only [Option.map_none]
        left
        unfold scanOne numD
        rw [e1, hrn]
      | some v =>
        simp only [Option.map_some]
        unfold scanOne numD
        rw [e1, hrn, e2]
        simp only
        rcases ht with rfl | ⟨t, rfl⟩
        · rfl
        · simp only
          rw [if_neg (show ¬ (44 : UInt8) = 45 by decide)]
    · rw [rn_notdig g4]
      simp only [Option.map_none]
      refine scanOne_bad (c := c) (x := x ++ tail) ?_ (fun e => hno (e ▸ g2)) (fun e => hr (e ▸ g2))
      unfold numD
      rw [e1, e2, g1]
      cases rn (r.takeWhile isDig) with
      | none => exact .inl rfl
      | some v => exact .inr ⟨v, rfl⟩
  · rw [e]
    simp only
    have hr1 : (44 : UInt8) ∉ h := fun k => hr (by simp [k])
    have hr2 : (44 : UInt8) ∉ t := fun k => hr (by simp [k])
    have ha : (h ++ 45 :: t) ++ tail = h ++ (45 :: (t ++ tail)) := by simp
    rw [ha]
    obtain ⟨e1, e2⟩ := take_drop_dig h (45 :: (t ++ tail)) (.inr ⟨45, _, rfl, rfl⟩)
    rcases dig_split h with ⟨g1, g2, g3⟩ | ⟨c, x, g1, g2, g3, g4⟩
    · rw [g2] at e1
      rw [g3, List.nil_append] at e2
      cases hrn : rn h with
      | none =>
        have hb : scanOne (h ++ 45 :: (t ++ tail)) least = none := by
          unfold scanOne numD
          rw [e1, hrn]
        cases rn t <;> exact .inl hb
      | some v =>
        have hs : scanOne (h ++ 45 :: (t ++ tail)) least = if v < least then none else match numD (t ++ tail) with
            | none => none
            | some (b, r3) => if b ≤ v then none else some (v, b, r3) := by
          unfold scanOne
          have : numD (h ++ 45 :: (t ++ tail)) = some (v, 45 :: (t ++ tail)) := by
            unfold numD
            rw [e1, hrn, e2]
          rw [this]
          simp only [if_true]
        rw [hs]
        obtain ⟨k1, k2⟩ := take_drop_dig t tail ht'
        rcases dig_split t with ⟨p1, p2, p3⟩ | ⟨c, x, p1, p2, p3, p4⟩
        · rw [p2] at k1
          rw [p3, List.nil_append] at k2
          cases hrt : rn t with
          | none =>
            have : numD (t ++ tail) = none := by unfold numD; rw [k1, hrt]
            rw [this]
            left
            simp only
            split <;> rfl
          | some b =>
            have : numD (t ++ tail) = some (b, tail) := by unfold numD; rw [k1, hrt, k2]
            rw [this]
            simp only
            by_cases hvb : v < b
            · rw [if_pos hvb]
              simp only
              rw [if_neg (show ¬ b ≤ v by omega)]
            · rw [if_neg hvb]
              left
              rw [if_pos (show b ≤ v by omega)]
              split <;> rfl
        · rw [rn_notdig p4]
          simp only
          have hc : c ≠ 44 := fun e => hr2 (e ▸ p2)
          unfold numD
          rw [k1, k2, p1]
          cases rn (t.takeWhile isDig) with
          | none =>
            left
            simp only
            split <;> rfl
          | some b =>
            simp only
            by_cases hl : v < least
            · left; rw [if_pos hl]
            · rw [if_neg hl]
              by_cases hb : b ≤ v
              · left; rw [if_pos hb]
              · rw [if_neg hb]
                exact .inr ⟨_, _, _, _, rfl, hc⟩
    · rw [rn_notdig g4]
      have hb : Bad (scanOne (h ++ 45 :: (t ++ tail)) least) := by
        refine scanOne_bad (c := c) (x := x ++ 45 :: (t ++ tail)) ?_ (fun e => hno (e ▸ g2)) (fun e => hr1 (e ▸ g2))
        unfold numD
        rw [e1, e2, g1]
        cases rn (h.takeWhile isDig) with
        | none => exact .inl rfl
        | some v => exact .inr ⟨v, rfl⟩
      cases rn t <;> exact hb

theorem scan_bad {f : Nat} {rest : List UInt8} {least : Nat} (h : Bad (scanOne rest least)) : scan (f + 1) rest least = none := by
  unfold scan
  rcases h with h | ⟨a, b, c, s, h, hc⟩
  · rw [h]
  · rw [h]
    simp only
    rw [if_neg hc]
theorem scan_eq : ∀ (f : Nat) (rest : List UInt8) (least : Nat), rest.length < f → scan f rest least = pruns (splitC rest) least
  | 0, _, _, h => absurd h (by omega)
  | f + 1, rest, least, h => by
    obtain ⟨r, tail, hrest, hr, ht, hsp⟩ : ∃ r tail, rest = r ++ tail ∧ (44 : UInt8) ∉ r ∧ (tail = [] ∨ ∃ t, tail = 44 :: t) ∧ splitC rest = r :: (match tail with | [] => [] | _ :: t => splitC t) := by
      rcases index_one 44 rest with ⟨_, h2⟩ | ⟨a, t, rfl, h2, _⟩
      · exact ⟨rest, [], by simp, h2, .inl rfl, splitC_free h2⟩
      · exact ⟨a, 44 :: t, rfl, h2, .inr ⟨t, rfl⟩, splitC_hit h2⟩
    have one := scanOne_run r tail least hr ht
    rw [hsp, pruns]
    subst hrest
    cases hrr : rrun r with
    | none =>
      rw [hrr] at one
      exact scan_bad one
    | some ab =>
      obtain ⟨a, b⟩ := ab
      rw [hrr] at one
      simp only at one ⊢
      by_cases hl : a < least
      · rw [if_pos hl] at one ⊢
        exact scan_bad (.inl one)
      · rw [if_neg hl] at one ⊢
        rw [scan, one]
        rcases ht with rfl | ⟨t, rfl⟩
        · simp [pruns]
        · simp only [if_true]
          rw [scan_eq f t (b + 2) (by simp at h; omega)]

end Go.Proofs.YtgifhbjcelkjkaaDoor
