/- == of two specs, as the language runs it: no condition. -/
import Derived.Test.YtpaabeadiokgoaaSpecMem
import Derived.Test.YtpaabeadiokgoaaEqPlaces
namespace Go.Proofs.Ytpaabeadiokgoaa
open Go.RowKit

def sameSp (s t : Sp) : Bool := s.nodes == t.nodes && (s.cores == t.cores && (s.gpus == t.gpus && (s.tag.toList == t.tag.toList && (s.whole == t.whole && (s.long == t.long && s.prio == t.prio)))))
theorem sameSp_iff {s t : Sp} : sameSp s t = true ↔ s = t := by
  obtain ⟨s0, s1, s2, s3, s4, s5, s6⟩ := s
  obtain ⟨t0, t1, t2, t3, t4, t5, t6⟩ := t
  unfold sameSp
  simp only [Bool.and_eq_true, beq_iff_eq, Sp.mk.injEq]
  constructor
  · rintro ⟨h0, h1, h2, h3, h4, h5, h6⟩
    refine ⟨h0, h1, h2, ?_, h4, h5, h6⟩
    rw [ByteArray.toList_eq, ByteArray.toList_eq] at h3
    apply ByteArray.ext
    exact Array.ext' h3
  · rintro ⟨h0, h1, h2, h3, h4, h5, h6⟩
    exact ⟨h0, h1, h2, by rw [h3], h4, h5, h6⟩
set_option maxRecDepth 100000 in
theorem run_eqS (s0 s1 s2 t0 t1 t2 s5 s6 t5 t6 : Int) (s3 t3 : ByteArray) (s4 t4 : Bool) (W : World) :
    (Op.equalIn 10000 23 (.agg #[.int .i64 s0, .int .i64 s1, .int .i64 s2, .string s3, .bool s4, .int .i64 s5, .int .i64 s6]) (.agg #[.int .i64 t0, .int .i64 t1, .int .i64 t2, .string t3, .bool t4, .int .i64 t5, .int .i64 t6])).run Try.prog W = .ok (sameSp ⟨s0, s1, s2, s3, s4, s5, s6⟩ ⟨t0, t1, t2, t3, t4, t5, t6⟩) W := by
  have hf : ((Try.prog.fieldsOf 23).toList.map fun f => (f.name != "_", f.type, f.offset)) = [(true, 3, 0), (true, 3, 1), (true, 3, 2), (true, 9, 3), (true, 4, 4), (true, 2, 5), (true, 3, 6)] := by kernel_rfl
  have pi := fun (xs : Array Value) (o : Nat) (v : Value) (h : xs[o]? = some v) => (show (part 3 xs o).run Try.prog W = .ok v W by simp [part, isAgg, run_underlying Try.underlying3, h])
  have pl := fun (xs : Array Value) (o : Nat) (v : Value) (h : xs[o]? = some v) => (show (part 2 xs o).run Try.prog W = .ok v W by simp [part, isAgg, run_underlying Try.underlying2, h])
  have ps := fun (xs : Array Value) (o : Nat) (v : Value) (h : xs[o]? = some v) => (show (part 9 xs o).run Try.prog W = .ok v W by simp [part, isAgg, run_underlying Try.underlying9, h])
  have pb := fun (xs : Array Value) (o : Nat) (v : Value) (h : xs[o]? = some v) => (show (part 4 xs o).run Try.prog W = .ok v W by simp [part, isAgg, run_underlying Try.underlying4, h])
  have ei := fun a b => run_equalIn_int (P := Try.prog) W 9998 3 .i64 .i64 a b Try.underlying3
  have el := fun a b => run_equalIn_int (P := Try.prog) W 9998 2 .i64 .i64 a b Try.underlying2
  have es := fun a b => run_equalIn_string (P := Try.prog) W 9998 9 a b Try.underlying9
  have eb := fun a b => run_equalIn_bool' (P := Try.prog) W 9998 4 a b Try.underlying4
  rw [show (10000 : Nat) = 9999 + 1 from rfl, run_equalIn_struct W 9999 _ _ _ (by kernel_rfl) (by kernel_rfl), eqPlaces_of, hf]
  have hlast : sameSp ⟨s0, s1, s2, s3, s4, s5, s6⟩ ⟨t0, t1, t2, t3, t4, t5, t6⟩ = (s0 == t0 && (s1 == t1 && (s2 == t2 && (s3.toList == t3.toList && (s4 == t4 && (s5 == t5 && (s6 == t6 && true))))))) := by unfold sameSp; simp
  rw [hlast]
  exact eqPlaces_step (pi _ 0 _ rfl) (pi _ 0 _ rfl) (ei s0 t0) (eqPlaces_step (pi _ 1 _ rfl) (pi _ 1 _ rfl) (ei s1 t1) (eqPlaces_step (pi _ 2 _ rfl) (pi _ 2 _ rfl) (ei s2 t2) (eqPlaces_step (ps _ 3 _ rfl) (ps _ 3 _ rfl) (es s3 t3) (eqPlaces_step (pb _ 4 _ rfl) (pb _ 4 _ rfl) (eb s4 t4) (eqPlaces_step (pl _ 5 _ rfl) (pl _ 5 _ rfl) (el s5 t5) (eqPlaces_step (pi _ 6 _ rfl) (pi _ 6 _ rfl) (ei s6 t6) rfl))))))

end Go.Proofs.Ytpaabeadiokgoaa
