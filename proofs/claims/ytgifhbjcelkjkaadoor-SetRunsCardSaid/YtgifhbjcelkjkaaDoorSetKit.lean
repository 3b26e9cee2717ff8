/- The contracts of layer 1's functions in one form, for the statements: each call keeps all that was there; the tables of Go's library as its text lays them. -/
import Derived.Test.YtgifhbjcelkjkaaDoorSetAwake
import Derived.Test.YtgifhbjcelkjkaaDoorSetWhich
import Derived.Test.YtgifhbjcelkjkaaDoorSetRefParse
import Derived.Laws.AppendOwnNone
namespace Go.Proofs.YtgifhbjcelkjkaaDoor
open Go.RowKit Go.Shelf

theorem RI.next {w w' : World} {A : Option Addr} {n : Nat} {xs : List Int} (h : RI w w.heap.size A n xs) (hb : Below w.heap.size w w') : RI w' w'.heap.size A n xs := (h.below hb).more hb.size
theorem ml256 {n : Nat} (h : n ≤ 256) : n ≤ maxLen := by unfold maxLen; omega
theorem ml_which (how : Nat) (a b : List Int) : (whichL how a b).length ≤ maxLen := ml256 (length_whichL how a b)
theorem ml_join (a b : List Int) : (joinL a b).length ≤ maxLen := ml_which 0 a b
theorem ml_meet (a b : List Int) : (meetL a b).length ≤ maxLen := ml_which 1 a b
theorem ml_less (a b : List Int) : (lessL a b).length ≤ maxLen := ml_which 2 a b

theorem k_right {A : Option Addr} {n c : Nat} {xs : List Int} {w : World} {v : Bool} (hr : RI w w.heap.size A n xs) (hn : n ≤ maxLen) (h : rightB xs = v) :
    Calls Tryd.prog 12 #[.slice A n c] w fun e w' => e = .returned (.bool v) ∧ Below w.heap.size w w' :=
  (right_any A n c xs w _ hr hn).mono fun _ _ ⟨h1, h2⟩ => ⟨by rw [h1, h], by rw [← h2]; exact Below.refl _ _⟩
theorem k_refRight {A : Option Addr} {n c : Nat} {xs : List Int} {w : World} {v : Bool} (hr : RI w w.heap.size A n xs) (hn : n ≤ maxLen) (h : rightB xs = v) :
    Calls Tryd.prog 11 #[.slice A n c] w fun e w' => e = .returned (.bool v) ∧ Below w.heap.size w w' :=
  (refRight_any A n c xs w _ hr hn).mono fun _ _ ⟨h1, k, h2⟩ => ⟨by rw [h1, h], by rw [h2]; exact below_drewN (Below.refl _ _) k⟩
theorem k_same {A A' : Option Addr} {n c n' c' : Nat} {xs ys : List Int} {w : World} (hr : RI w w.heap.size A n xs) (hr' : RI w w.heap.size A' n' ys) (hn : n ≤ maxLen) (hn' : n' ≤ maxLen) (h : xs = ys) :
    Calls Tryd.prog 13 #[.slice A n c, .slice A' n' c'] w fun e w' => e = .returned (.bool true) ∧ Below w.heap.size w w' :=
  (same_any A A' n c n' c' xs ys w _ _ hr hr' hn hn').mono fun _ _ ⟨h1, k, h2⟩ => ⟨by rw [h1, sameB_iff.2 h], by rw [h2]; exact below_drewN (Below.refl _ _) k⟩
theorem k_refHas {A : Option Addr} {n c : Nat} {xs : List Int} {v : Int} {w : World} (hr : RI w w.heap.size A n xs) (hn : n ≤ maxLen) :
    Calls Tryd.prog 18 #[.slice A n c, .int .i64 v] w fun e w' => e = .returned (.bool (hasB xs v)) ∧ Below w.heap.size w w' :=
  (refHas_any A n c xs v w hr hn).mono fun _ _ ⟨h1, k, h2⟩ => ⟨h1, by rw [h2]; exact below_drewN (Below.refl _ _) k⟩
theorem k_refShow {A : Option Addr} {n c : Nat} {xs : List Int} {w : World} (hr : RI w w.heap.size A n xs) (hn : n ≤ maxLen) :
    Calls Tryd.prog 24 #[.slice A n c] w fun e w' => e = .returned (.string (ShowB xs)) ∧ Below w.heap.size w w' :=
  (refShow_any A n c xs w _ hr hn).mono fun _ _ ⟨h1, k, h2⟩ => ⟨h1, by rw [h2]; exact below_drewN (Below.refl _ _) k⟩

/-- append(out, xs...), xs nil or not -/
theorem wpList_append_RI {P : Program} (w : World) {ops : Array Oper} {rest : List Oper} {o : Oper} {a : Act} {Q : Exit → Act → World → Prop} (hgd : o.guard = none) (s x : Operand) (t : TypeId)
    (ho : o.op = .call { callee := .builtin .append, args := #[s, x], argTypes := #[t, t] })
    (base : Nat) (e : TypeId) (i : TypeInfo) (z : Value) (bytes : Nat) (ht : P.underlying t = some (.slice e)) (hi : P.info? e = some i) (hz : i.zero = some z)
    (hsize : i.size = 1) (hby : i.bytes = bytes) (hzs : z.cells.size = 1)
    (v : Value) (n : Nat) (ys : List Value) (hs : a.eval s = v) (hown : w.ownsRow base e 1 v n ys)
    (B : Nat) (A : Option Addr) (m c : Nat) (xs : List Int) (hx : a.eval x = .slice A m c) (hr : RI w B A m xs) (hnil : A = none → c = 0)
    (h63 : n + m ≤ maxLen) (hbytes : (n + m) * bytes ≤ 140737488355328) (hbase : base ≤ w.heap.size)
    (h : ∀ v' w', w'.ownsRow base e 1 v' (n + m) (ys ++ xs.map (Value.int .i64)) → w.grownBy w' v.ownBlock → wpList P ops Q rest (a.put o.dst v') w') : wpList P ops Q (o :: rest) a w := by
  cases A with
  | none =>
    have hc := hnil rfl
    subst hc
    have hm : m = 0 := by
      rcases Nat.eq_zero_or_pos m with h0 | h0
      · exact h0
      · obtain ⟨b, off, e', _⟩ := hr.2 h0; cases e'
    subst hm
    have hxs : xs = [] := List.eq_nil_of_length_eq_zero hr.1
    subst hxs
    exact wpList_append_own_none hgd s x t ho base e i 1 ht hi v n ys hs hown hx (h v w (by simpa using hown) (World.grownBy.refl w _))
  | some ad =>
    refine wpList_append_own w hgd s x t ho base e i z 1 bytes ht hi hz hsize hby hzs (by omega) v n ys hs hown ad m c (xs.map (Value.int .i64)) hx (by simp [hr.1]) ?_ (by intro u hu; obtain ⟨k, _, rfl⟩ := List.mem_map.1 hu; rfl) h63 hbytes hbase fun v' w' h1 h2 _ => h v' w' h1 h2
    intro j u hj
    have hjl : j < xs.length := by
      have := (List.getElem?_eq_some_iff.1 hj).1
      simpa using this
    obtain ⟨b, off, e', _, hc⟩ := hr.2 (by have := hr.1; omega)
    injection e' with e'
    subst e'
    have h1 := hc j (by have := hr.1; omega)
    have ha : (⟨b, off, none⟩ : Addr).add j = ⟨b, off + j, none⟩ := by unfold Addr.add; split <;> simp_all
    rw [ha, h1]
    simp [hjl] at hj
    rw [← hj]
    simp [List.getD, hjl]

end Go.Proofs.YtgifhbjcelkjkaaDoor
