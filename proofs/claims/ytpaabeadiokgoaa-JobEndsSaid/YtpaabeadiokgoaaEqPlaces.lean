/- == of struct values, field by field, at any program: by the fields' places alone. General: nothing of the program stands here. -/
import Derived.Test.YtpaabeadiokgoaaWords
import Derived.Laws.StructEq
namespace Go.Proofs.Ytpaabeadiokgoaa
open Go.RowKit

/-- == of structs, by the fields' places alone -/
def eqPlaces (d : Nat) (xs ys : Array Value) : List (Bool × TypeId × Nat) → Sem Bool
  | [] => pure true
  | (n, t, o) :: fs =>
    if n = true then do
      let a ← part t xs o
      let b ← part t ys o
      let r ← Op.equalIn d t a b
      if (!r) = true then pure false else eqPlaces d xs ys fs
    else eqPlaces d xs ys fs
theorem eqPlaces_of (d : Nat) (xs ys : Array Value) : ∀ fs : List Field, Op.eqFields d xs ys fs = eqPlaces d xs ys (fs.map fun f => (f.name != "_", f.type, f.offset))
  | [] => rfl
  | f :: fs => by
    have ih := eqPlaces_of d xs ys fs
    rw [List.map_cons]
    unfold Op.eqFields eqPlaces
    rw [ih]
    by_cases h : f.name = "_"
    · rw [if_neg (by simpa using h), if_neg (by simp [h])]
    · rw [if_pos h, if_pos (by simp [h])]
theorem eqPlaces_step {d o : Nat} {xs ys : Array Value} {t : TypeId} {fs : List (Bool × TypeId × Nat)} {va vb : Value} {b c : Bool} {W : World} (h1 : (part t xs o).run Try.prog W = .ok va W) (h2 : (part t ys o).run Try.prog W = .ok vb W)
    (h3 : (Op.equalIn d t va vb).run Try.prog W = .ok b W) (h4 : (eqPlaces d xs ys fs).run Try.prog W = .ok c W) : (eqPlaces d xs ys ((true, t, o) :: fs)).run Try.prog W = .ok (b && c) W := by
  unfold eqPlaces
  rw [if_pos rfl]
  simp only [Sem.run_bind, h1, h2, h3, Result.andThen_ok]
  cases b
  · simp
  · simpa using h4

end Go.Proofs.Ytpaabeadiokgoaa
