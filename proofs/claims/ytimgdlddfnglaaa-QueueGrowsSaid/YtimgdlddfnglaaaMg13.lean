/- == of struct values, field by field, at any program: by the fields' places alone. General: nothing of the program stands here. == of two specs, as the language runs it: no condition. The reference's Next, Do and Same of layer 11. Written by gen/gen_job.py. The reference's Do of layer 11. Written by gen/gen_job.py. -/
import Derived.Laws.StructEq
import Derived.Test.YtimgdlddfnglaaaMg01
import Derived.Test.YtimgdlddfnglaaaMg03
import Derived.Test.YtimgdlddfnglaaaMg12
import Derived.Test.YtimgdlddfnglaaaMg06
namespace Go.Proofs.Ytimgdlddfnglaaa
open Go.RowKit

/-- == of structs, by the fields' places alone -/
def eqPlaces (d : Nat) (xs ys : Array Value) : List (Bool × TypeId × Nat) → Sem Bool
  | [] => pure true
  | (n, t, o) :: fs =>
    if n = true then do
      let a ← part t xs o
      let b ← part t ys o
      let r ← Op.equalIn d t a b
      if (!r) = true then pure false else eqPlaces d xs ys fs
    else eqPlaces d xs ys fs
theorem eqPlaces_of (d : Nat) (xs ys : Array Value) : ∀ fs : List Field, Op.eqFields d xs ys fs = eqPlaces d xs ys (fs.map fun f => (f.name != "_", f.type, f.offset))
  | [] => rfl
  | f :: fs => by
    have ih := eqPlaces_of d xs ys fs
    rw [List.map_cons]
    unfold Op.eqFields eqPlaces
    rw [ih]
    by_cases h : f.name = "_"
    · rw [if_neg (by simpa using h), if_neg (by simp [h])]
    · rw [if_pos h, if_pos (by simp [h])]
theorem eqPlaces_step {d o : Nat} {xs ys : Array Value} {t : TypeId} {fs : List (Bool × TypeId × Nat)} {va vb : Value} {b c : Bool} {W : World} (h1 : (part t xs o).run Try.prog W = .ok va W) (h2 : (part t ys o).run Try.prog W = .ok vb W)
    (h3 : (Op.equalIn d t va vb).run Try.prog W = .ok b W) (h4 : (eqPlaces d xs ys fs).run Try.prog W = .ok c W) : (eqPlaces d xs ys ((true, t, o) :: fs)).run Try.prog W = .ok (b && c) W := by
  unfold eqPlaces
  rw [if_pos rfl]
  simp only [Sem.run_bind, h1, h2, h3, Result.andThen_ok]
  cases b
  · simp
  · simpa using h4

end Go.Proofs.Ytimgdlddfnglaaa

namespace Go.Proofs.Ytimgdlddfnglaaa
open Go.RowKit

def sameSp (s t : Sp) : Bool := s.nodes == t.nodes && (s.cores == t.cores && (s.gpus == t.gpus && (s.tag.toList == t.tag.toList && (s.whole == t.whole && (s.long == t.long && s.prio == t.prio)))))
theorem sameSp_iff {s t : Sp} : sameSp s t = true ↔ s = t := by
  obtain ⟨s0, s1, s2, s3, s4, s5, s6⟩ := s
  obtain ⟨t0, t1, t2, t3, t4, t5, t6⟩ := t
  unfold sameSp
  simp only [Bool.and_eq_true, beq_iff_eq, Sp.mk.injEq]
  constructor
  · rintro ⟨h0, h1, h2, h3, h4, h5, h6⟩
    refine ⟨h0, h1, h2, ?_, h4, h5, h6⟩
    rw [ByteArray.toList_eq, ByteArray.toList_eq] at h3
    apply ByteArray.ext
    exact Array.ext' h3
  · rintro ⟨h0, h1, h2, h3, h4, h5, h6⟩
    exact ⟨h0, h1, h2, by rw [h3], h4, h5, h6⟩
set_option maxRecDepth 100000 in
theorem run_eqS (s0 s1 s2 t0 t1 t2 s5 s6 t5 t6 : Int) (s3 t3 : ByteArray) (s4 t4 : Bool) (W : World) :
    (Op.equalIn 10000 27 (.agg #[.int .i64 s0, .int .i64 s1, .int .i64 s2, .string s3, .bool s4, .int .i64 s5, .int .i64 s6]) (.agg #[.int .i64 t0, .int .i64 t1, .int .i64 t2, .string t3, .bool t4, .int .i64 t5, .int .i64 t6])).run Try.prog W = .ok (sameSp ⟨s0, s1, s2, s3, s4, s5, s6⟩ ⟨t0, t1, t2, t3, t4, t5, t6⟩) W := by
  have hf : ((Try.prog.fieldsOf 27).toList.map fun f => (f.name != "_", f.type, f.offset)) = [(true, 3, 0), (true, 3, 1), (true, 3, 2), (true, 9, 3), (true, 4, 4), (true, 2, 5), (true, 3, 6)] := by kernel_rfl
  have pi := fun (xs : Array Value) (o : Nat) (v : Value) (h : xs[o]? = some v) => (show (part 3 xs o).run Try.prog W = .ok v W by simp [part, isAgg, run_underlying Try.underlying3, h])
  have pl := fun (xs : Array Value) (o : Nat) (v : Value) (h : xs[o]? = some v) => (show (part 2 xs o).run Try.prog W = .ok v W by simp [part, isAgg, run_underlying Try.underlying2, h])
  have ps := fun (xs : Array Value) (o : Nat) (v : Value) (h : xs[o]? = some v) => (show (part 9 xs o).run Try.prog W = .ok v W by simp [part, isAgg, run_underlying Try.underlying9, h])
  have pb := fun (xs : Array Value) (o : Nat) (v : Value) (h : xs[o]? = some v) => (show (part 4 xs o).run Try.prog W = .ok v W by simp [part, isAgg, run_underlying Try.underlying4, h])
  have ei := fun a b => run_equalIn_int (P := Try.prog) W 9998 3 .i64 .i64 a b Try.underlying3
  have el := fun a b => run_equalIn_int (P := Try.prog) W 9998 2 .i64 .i64 a b Try.underlying2
  have es := fun a b => run_equalIn_string (P := Try.prog) W 9998 9 a b Try.underlying9
  have eb := fun a b => run_equalIn_bool' (P := Try.prog) W 9998 4 a b Try.underlying4
  rw [show (10000 : Nat) = 9999 + 1 from rfl, run_equalIn_struct W 9999 _ _ _ (by kernel_rfl) (by kernel_rfl), eqPlaces_of, hf]
  have hlast : sameSp ⟨s0, s1, s2, s3, s4, s5, s6⟩ ⟨t0, t1, t2, t3, t4, t5, t6⟩ = (s0 == t0 && (s1 == t1 && (s2 == t2 && (s3.toList == t3.toList && (s4 == t4 && (s5 == t5 && (s6 == t6 && true))))))) := by unfold sameSp; simp
  rw [hlast]
  exact eqPlaces_step (pi _ 0 _ rfl) (pi _ 0 _ rfl) (ei s0 t0) (eqPlaces_step (pi _ 1 _ rfl) (pi _ 1 _ rfl) (ei s1 t1) (eqPlaces_step (pi _ 2 _ rfl) (pi _ 2 _ rfl) (ei s2 t2) (eqPlaces_step (ps _ 3 _ rfl) (ps _ 3 _ rfl) (es s3 t3) (eqPlaces_step (pb _ 4 _ rfl) (pb _ 4 _ rfl) (eb s4 t4) (eqPlaces_step (pl _ 5 _ rfl) (pl _ 5 _ rfl) (el s5 t5) (eqPlaces_step (pi _ 6 _ rfl) (pi _ 6 _ rfl) (ei s6 t6) rfl))))))

end Go.Proofs.Ytimgdlddfnglaaa

namespace Go.Proofs.Ytimgdlddfnglaaa
open Go.RowKit

end Go.Proofs.Ytimgdlddfnglaaa

namespace Go.Proofs.Ytimgdlddfnglaaa
open Go.RowKit

theorem jAsk_turn {w : World} {A : Option Addr} {m c : Nat} {j : Jb} {s f e : Int} (h : JAsk w A m c j) (hs : I64 s) (hf : I64 f) (he : I64 e) : JAsk w A m c ⟨j.id, j.spec, j.needs, s, j.came, f, e⟩ :=
  ⟨h.reads, h.nil, h.cap, h.few, h.spec, h.int.1, hs, h.int.2.2.1, hf, he, h.int.2.2.2.2.2⟩












end Go.Proofs.Ytimgdlddfnglaaa
