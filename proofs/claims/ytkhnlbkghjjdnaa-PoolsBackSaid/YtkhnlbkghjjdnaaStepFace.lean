/- What the program's functions of layers 2 and 3 answer, as one list of contracts: the statements' walks lean on it alone. -/
import Derived.Test.YtkhnlbkghjjdnaaStepFirstMath
import Derived.Test.YtkhnlbkghjjdnaaWhen
namespace Go.Proofs.Ytkhnlbkghjjdnaa
open Go.RowKit

def newR (k : Int) : List (Int × Int) × Int := if 0 ≤ k ∧ k ≤ 1048576 then ([(0, k)], 0) else ([], 1)
def leastE (p : List (Int × Int)) (a b : Int) : Int × Int := if mayP p a b = true then (leastL p a b, 0) else (0, 1)

structure StepOk : Prop where
  right : ∀ (A : Option Addr) (n c : Nat) (p : List (Int × Int)) (w : World), RS w w.heap.size A n p → n ≤ 2000 →
    Calls Try.prog 27 #[.slice A n c] w fun e w' => e = .returned (.bool (rightP p)) ∧ Below w.heap.size w w'
  new : ∀ (k : Int) (w : World), I64 k → Calls Try.prog 37 #[.int .i64 k] w (SPost (newR k).1 (newR k).2 w)
  at_ : ∀ (A : Option Addr) (n c : Nat) (p : List (Int × Int)) (t : Int) (w : World), RS w w.heap.size A n p → n ≤ 2000 → I64 t →
    Calls Try.prog 29 #[.slice A n c, .int .i64 t] w fun e w' => e = .returned (.int .i64 (atR p t)) ∧ Below w.heap.size w w'
  take : ∀ (A : Option Addr) (n c : Nat) (p : List (Int × Int)) (a b k : Int) (w : World), RS w w.heap.size A n p → (A = none → c = 0) → n ≤ c → n ≤ 2000 → I64 a → I64 b → I64 k →
    Calls Try.prog 25 #[.slice A n c, .int .i64 a, .int .i64 b, .int .i64 k] w (SPost (takeR p a b k).1 (takeR p a b k).2 w)
  give : ∀ (A : Option Addr) (n c : Nat) (p : List (Int × Int)) (a b k : Int) (w : World), RS w w.heap.size A n p → (A = none → c = 0) → n ≤ c → n ≤ 2000 → I64 a → I64 b → I64 k →
    Calls Try.prog 33 #[.slice A n c, .int .i64 a, .int .i64 b, .int .i64 k] w (SPost (giveR p a b k).1 (giveR p a b k).2 w)
  first : ∀ (A : Option Addr) (n c : Nat) (p : List (Int × Int)) (a l k : Int) (w : World), RS w w.heap.size A n p → n ≤ 2000 → I64 a → I64 l → I64 k →
    Calls Try.prog 26 #[.slice A n c, .int .i64 a, .int .i64 l, .int .i64 k] w fun e w' => e = .returned (.tuple #[.int .i64 (firstR p a l k).1, .bool (firstR p a l k).2]) ∧ Below w.heap.size w w'
  time : ∀ (t : Int) (w : World), I64 t → Calls Try.prog 21 #[.int .i64 t] w fun e w' => e = .returned (.bool (timeB t)) ∧ Below w.heap.size w w'
  plus : ∀ (t l : Int) (w : World), I64 t → I64 l → Calls Try.prog 24 #[.int .i64 t, .int .i64 l] w fun e w' => e = .returned (.int .i64 (plusZ t l)) ∧ Below w.heap.size w w'

/-! The reference's functions in the same form -/
section
variable {A A' : Option Addr} {n c n' c' : Nat} {p q : List (Int × Int)} {w : World}
theorem ml2000 (h : n ≤ 2000) : n ≤ maxLen := by unfold maxLen; omega
theorem s_right (hr : RS w w.heap.size A n p) (hn : n ≤ 2000) : Calls Try.prog 35 #[.slice A n c] w fun e w' => e = .returned (.bool (rightP p)) ∧ Below w.heap.size w w' :=
  (refRightS_any A n c p w _ hr (ml2000 hn)).mono fun _ _ ⟨h1, q, h2⟩ => ⟨h1, by rw [h2]; exact bel_drew w q⟩
theorem s_at {t : Int} (hr : RS w w.heap.size A n p) (hn : n ≤ 2000) : Calls Try.prog 17 #[.slice A n c, .int .i64 t] w fun e w' => e = .returned (.int .i64 (atR p t)) ∧ Below w.heap.size w w' :=
  (refAtS_any A n c p t w _ hr (ml2000 hn)).mono fun _ _ ⟨h1, q, h2⟩ => ⟨h1, by rw [h2]; exact bel_drew w q⟩
theorem s_may {a b : Int} (hr : RS w w.heap.size A n p) (hn : n ≤ 2000) : Calls Try.prog 51 #[.slice A n c, .int .i64 a, .int .i64 b] w fun e w' => e = .returned (.bool (mayP p a b)) ∧ Below w.heap.size w w' :=
  (refMay_any A n c p a b w _ hr (ml2000 hn)).mono fun _ _ ⟨h1, q, h2⟩ => ⟨h1, by rw [h2]; exact bel_drew w q⟩
theorem s_least {a b : Int} (hr : RS w w.heap.size A n p) (hn : n ≤ 2000) : Calls Try.prog 52 #[.slice A n c, .int .i64 a, .int .i64 b] w fun e w' => e = .returned (.int .i64 (leastR p a b)) ∧ Below w.heap.size w w' :=
  (refleast_any A n c p a b w _ hr hn).mono fun _ _ ⟨h1, h2⟩ => ⟨h1, by rw [← h2]; exact Below.refl _ _⟩
theorem s_same (hr : RS w w.heap.size A n p) (hr' : RS w w.heap.size A' n' q) (hn : n ≤ 2000) (hn' : n' ≤ 2000) (h : p = q) :
    Calls Try.prog 28 #[.slice A n c, .slice A' n' c'] w fun e w' => e = .returned (.bool true) ∧ Below w.heap.size w w' :=
  (refSameS_any A A' n c n' c' p q w _ _ hr hr' (ml2000 hn) (ml2000 hn')).mono fun _ _ ⟨h1, k, h2⟩ => ⟨by rw [h1]; unfold sameP; rw [decide_eq_true h], by rw [h2]; exact bel_drew w k⟩
theorem s_take {a b k : Int} (hr : RS w w.heap.size A n p) (hnil : A = none → c = 0) (hnc : n ≤ c) (hn : n ≤ 2000) (hk : I64 k) :
    Calls Try.prog 31 #[.slice A n c, .int .i64 a, .int .i64 b, .int .i64 k] w (SPost (takeR p a b k).1 (takeR p a b k).2 w) := refTake_any A n c p a b k w hr hnil hnc (ml2000 hn) hk.1 hk.2
theorem s_give {a b k : Int} (hr : RS w w.heap.size A n p) (hnil : A = none → c = 0) (hnc : n ≤ c) (hn : n ≤ 2000) (hk : I64 k) :
    Calls Try.prog 32 #[.slice A n c, .int .i64 a, .int .i64 b, .int .i64 k] w (SPost (giveR p a b k).1 (giveR p a b k).2 w) := refGive_any A n c p a b k w hr hnil hnc (ml2000 hn) hk.1 hk.2
end

theorem takeR_len (p : List (Int × Int)) (a b k : Int) : (takeR p a b k).1.length ≤ p.length ∨ (takeR p a b k).1.length ≤ 1024 := by
  unfold takeR
  split
  · exact .inl (Nat.le_refl _)
  · split
    · exact .inl (Nat.le_refl _)
    · split
      · exact .inl (Nat.le_refl _)
      · exact .inr (by show (changeL p a b (-k)).length ≤ 1024; omega)
theorem giveR_len (p : List (Int × Int)) (a b k : Int) : (giveR p a b k).1.length ≤ p.length ∨ (giveR p a b k).1.length ≤ 1024 := by
  unfold giveR
  split
  · exact .inl (Nat.le_refl _)
  · split
    · exact .inl (Nat.le_refl _)
    · split
      · exact .inl (Nat.le_refl _)
      · exact .inr (by show (changeL p a b k).length ≤ 1024; omega)

/-- append(out, p...), p nil or not, p of steps -/
theorem wpList_append_RS {P : Program} (w : World) {ops : Array Oper} {rest : List Oper} {o : Oper} {a : Act} {Q : Exit → Act → World → Prop} (hgd : o.guard = none) (s x : Operand) (t : TypeId)
    (ho : o.op = .call { callee := .builtin .append, args := #[s, x], argTypes := #[t, t] })
    (base : Nat) (e : TypeId) (i : TypeInfo) (z : Value) (bytes : Nat) (ht : P.underlying t = some (.slice e)) (hi : P.info? e = some i) (hz : i.zero = some z)
    (hsize : i.size = 2) (hby : i.bytes = bytes) (hzs : z.cells.size = 2)
    (v : Value) (n : Nat) (ys : List Value) (hs : a.eval s = v) (hown : w.ownsRow base e 2 v n ys)
    (B : Nat) (A : Option Addr) (m c : Nat) (xs : List (Int × Int)) (hx : a.eval x = .slice A m c) (hr : RS w B A m xs) (hnil : A = none → c = 0)
    (h63 : n + m ≤ maxLen) (hbytes : (n + m) * bytes ≤ 140737488355328) (hbase : base ≤ w.heap.size)
    (h : ∀ v' w', w'.ownsRow base e 2 v' (n + m) (ys ++ sCells xs) → w.grownBy w' v.ownBlock → wpList P ops Q rest (a.put o.dst v') w') : wpList P ops Q (o :: rest) a w := by
  cases A with
  | none =>
    have hc := hnil rfl
    subst hc
    have hm : m = 0 := by
      rcases Nat.eq_zero_or_pos m with h0 | h0
      · exact h0
      · obtain ⟨b, off, e', _⟩ := hr.2 h0; cases e'
    subst hm
    have hxs : xs = [] := List.eq_nil_of_length_eq_zero hr.1
    subst hxs
    exact wpList_append_own_none hgd s x t ho base e i 2 ht hi v n ys hs hown hx (h v w (by simpa [sCells] using hown) (World.grownBy.refl w _))
  | some ad =>
    refine wpList_append_own w hgd s x t ho base e i z 2 bytes ht hi hz hsize hby hzs (by omega) v n ys hs hown ad m c (sCells xs) hx (by rw [sCells_length, hr.1]) ?_ ?_ h63 hbytes hbase fun v' w' h1 h2 _ => h v' w' h1 h2
    · intro j u hj
      have hjl : j < xs.length * 2 := by
        have := (List.getElem?_eq_some_iff.1 hj).1
        rwa [sCells_length] at this
      obtain ⟨b, off, e', _, hc⟩ := hr.2 (by have := hr.1; omega)
      injection e' with e'
      subst e'
      rw [add_none]
      have hk := hc (j / 2) (by have := hr.1; omega)
      have hk' := sCells_at xs (j / 2) (by omega)
      obtain ⟨q, hq⟩ : ∃ q, j / 2 = q := ⟨_, rfl⟩
      rw [hq] at hk hk'
      by_cases h2 : j % 2 = 0
      · obtain rfl : j = q * 2 := by omega
        rw [hk'.1] at hj
        rw [← hj]
        exact hk.1
      · obtain rfl : j = q * 2 + 1 := by omega
        rw [hk'.2] at hj
        rw [← hj]
        exact hk.2
    · have : ∀ (l : List (Int × Int)), ∀ u ∈ sCells l, u.oneCell' = true := by
        intro l
        induction l with
        | nil => intro u hu; cases hu
        | cons s r ih =>
          intro u hu
          simp only [sCells, List.mem_cons] at hu
          rcases hu with rfl | rfl | hu
          · rfl
          · rfl
          · exact ih u hu
      exact this xs

theorem calls_spost {P : Program} {f : FuncId} {args : Array Value} {w : World} {r : List (Int × Int) × Int} {l : List (Int × Int)} {er : Int} (h : Calls P f args w (SPost r.1 r.2 w)) (e : r = (l, er)) : Calls P f args w (SPost l er w) := by
  subst e; exact h

end Go.Proofs.Ytkhnlbkghjjdnaa
