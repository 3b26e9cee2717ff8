/- What the program's functions of layer 7 (spec) answer, as one list of contracts: the statements' walks lean on it alone. The program's putSpec and Spec: a spec's bytes. Written by gen/gen_codepputspec.py. The program's runs of a set: one behind the other, in a row of its own. The program's putSet and Set: a set's bytes. -/
import Derived.Test.YtlpogkcfjbabaaaMg03
import Derived.Test.YtlpogkcfjbabaaaMg04
import Derived.Test.YtlpogkcfjbabaaaMg06
import Derived.Laws.OwnMore
namespace Go.Proofs.Ytlpogkcfjbabaaa
open Go.RowKit

structure SpecOk : Prop where
  right : ∀ (s : Sp) (w : World), SAsk s → Glob w → Calls Try.prog 15 #[spV s] w fun e w' => e = .returned (.bool (rightS s)) ∧ Below w.heap.size w w'

section
variable (H : SpecOk) {s t : Sp} {w : World} (hs : SAsk s) (hG : Glob w)
include H hs hG
theorem s7_right {b : Bool} (h : rightS s = b) : Calls Try.prog 15 #[.agg #[.int .i64 s.nodes, .int .i64 s.cores, .int .i64 s.gpus, .string s.tag, .bool s.whole, .int .i64 s.long, .int .i64 s.prio]] w fun e w' => e = .returned (.bool b) ∧ Below w.heap.size w w' := by
  subst h; exact H.right s w hs hG
end
theorem i64_of {x : Int} (h1 : -2000000000000 ≤ x) (h2 : x ≤ 2000000000000) : I64 x := by unfold I64; omega

end Go.Proofs.Ytlpogkcfjbabaaa

namespace Go.Proofs.Ytlpogkcfjbabaaa
open Go.RowKit

set_option maxRecDepth 100000 in
set_option maxHeartbeats 8000000 in
theorem putSpec_any (s : Sp) (w : World) (hr : rightS s = true) :
    Calls Try.prog 22 #[.agg #[.int .i64 s.nodes, .int .i64 s.cores, .int .i64 s.gpus, .string s.tag, .bool s.whole, .int .i64 s.long, .int .i64 s.prio]] w fun e w' => ∃ W, Below w.heap.size w W ∧ Put W (specB s) e w' := by
  obtain ⟨W, hW⟩ : ∃ W, W = w.alloc (spO s) := ⟨_, rfl⟩
  have BX0 : Hid (BoxS W w.heap.size s) := Lib.hid (by rw [hW]; exact box_new w s)
  have BW : Hid (Below w.heap.size w W) := Lib.hid (by rw [hW]; exact (Below.refl _ _).alloc (Nat.le_refl _) _)
  unfold spO at hW
  obtain ⟨q0, q1, q2, q3, q4, q5, q6⟩ := rightS_is hr
  have qt := tagB_size q0
  obtain ⟨n1, hn1⟩ : ∃ n : Nat, s.nodes = (n : Int) := ⟨s.nodes.toNat, by omega⟩
  obtain ⟨n2, hn2⟩ : ∃ n : Nat, s.cores = (n : Int) := ⟨s.cores.toNat, by omega⟩
  obtain ⟨n3, hn3⟩ : ∃ n : Nat, s.gpus = (n : Int) := ⟨s.gpus.toNat, by omega⟩
  obtain ⟨n4, hn4⟩ : ∃ n : Nat, s.long = (n : Int) := ⟨s.long.toNat, by omega⟩
  have K1 : Hid (n1 < 9223372036854775808) := Lib.hid (by omega)
  have K2 : Hid (n2 < 9223372036854775808) := Lib.hid (by omega)
  have K3 : Hid (n3 < 9223372036854775808) := Lib.hid (by omega)
  have K4 : Hid (n4 < 9223372036854775808) := Lib.hid (by omega)
  have KT : Hid (s.tag.size ≤ 16) := Lib.hid qt
  have HTL : Hid (s.tag.data.toList.length = s.tag.size) := Lib.hid (by rw [Array.length_toList]; rfl)
  have KP : Hid (-1000 ≤ s.prio ∧ s.prio ≤ 1000) := Lib.hid q6
  have hsp : Hid (([1] : Bs) ++ numB n1 ++ numB n2 ++ numB n3 ++ (numB s.tag.size ++ s.tag.data.toList) ++ [if s.whole = true then 1 else 0] ++ numB n4 ++ numB (signN s.prio) = specB s) := Lib.hid (by
    unfold specB; rw [hn1, hn2, hn3, hn4]; simp [List.append_assoc])
  clear hr q0 q1 q2 q3 q4 q5 q6 qt
  have N1 := Lib.hid hn1
  have N2 := Lib.hid hn2
  have N3 := Lib.hid hn3
  have N4 := Lib.hid hn4
  clear hn1 hn2 hn3 hn4
  have H0 : Hid (ON EB 1 5 W (.slice (some ⟨w.heap.size + 1, 0, none⟩) 1 1) [1] (W.alloc (.cells #[.int .u8 1] 5))) := Lib.hid (by have := onb_one (t := 5) W 1 (by omega); rwa [show W.heap.size = w.heap.size + 1 by rw [hW]; simp] at this)
  have L0 : Hid (([1] : Bs).length ≤ 1) := Lib.hid (by simp)
  have BX := Lib.hid (BX0.out.next H0.out.below)
  go_enter Try.func22, Try.ntmps22
  go_wp2_with fail
  rw [← hW, N1.out]
  clear hW
  refine (putNumber_any n1 K1.out W _ _ (([1] : Bs)) H0.out (Nat.le_trans L0.out (by omega))).mono ?_
  rintro e w1 ⟨v1, rfl, h1⟩
  have BX1 := Lib.hid (BX0.out.next h1.below)
  have H1 := Lib.hid h1
  have L1 : Hid ((([1] : Bs) ++ numB n1).length ≤ 21) := Lib.hid (by have := L0.out; have h2 := numB_few (n := n1) (by have := K1.out; omega); rw [List.length_append]; omega)
  clear h1 H0 BX L0
  obtain ⟨H0, BX, L0⟩ := And.intro H1 (And.intro BX1 L1)
  clear H1 BX1 L1
  have c := BX.out.c1
  rw [N2.out] at c
  go_wp2_with fail
  refine (putNumber_any n2 K2.out W _ _ (([1] : Bs) ++ numB n1) H0.out (Nat.le_trans L0.out (by omega))).mono ?_
  rintro e w2 ⟨v2, rfl, h1⟩
  clear c
  have BX1 := Lib.hid (BX0.out.next h1.below)
  have H1 := Lib.hid h1
  have L1 : Hid ((([1] : Bs) ++ numB n1 ++ numB n2).length ≤ 41) := Lib.hid (by have := L0.out; have h2 := numB_few (n := n2) (by have := K2.out; omega); rw [List.length_append]; omega)
  clear h1 H0 BX L0
  obtain ⟨H0, BX, L0⟩ := And.intro H1 (And.intro BX1 L1)
  clear H1 BX1 L1
  have c := BX.out.c2
  rw [N3.out] at c
  go_wp2_with fail
  refine (putNumber_any n3 K3.out W _ _ (([1] : Bs) ++ numB n1 ++ numB n2) H0.out (Nat.le_trans L0.out (by omega))).mono ?_
  rintro e w3 ⟨v3, rfl, h1⟩
  clear c
  have BX1 := Lib.hid (BX0.out.next h1.below)
  have H1 := Lib.hid h1
  have L1 : Hid ((([1] : Bs) ++ numB n1 ++ numB n2 ++ numB n3).length ≤ 61) := Lib.hid (by have := L0.out; have h2 := numB_few (n := n3) (by have := K3.out; omega); rw [List.length_append]; omega)
  clear h1 H0 BX L0
  obtain ⟨H0, BX, L0⟩ := And.intro H1 (And.intro BX1 L1)
  clear H1 BX1 L1
  have c := BX.out.c3
  go_wp2_with fail
  refine (putText_any s.tag KT.out W _ _ (([1] : Bs) ++ numB n1 ++ numB n2 ++ numB n3) H0.out (Nat.le_trans L0.out (by omega))).mono ?_
  rintro e w4 ⟨v4, rfl, h1⟩
  clear c
  have BX1 := Lib.hid (BX0.out.next h1.below)
  have H1 := Lib.hid h1
  have L1 : Hid ((([1] : Bs) ++ numB n1 ++ numB n2 ++ numB n3 ++ (numB s.tag.size ++ s.tag.data.toList)).length ≤ 97) := Lib.hid (by have := L0.out; have h3 := KT.out; have h2 := numB_few (n := s.tag.size) (by omega); have h4 := HTL.out; rw [List.length_append]; rw [(List.length_append : (numB s.tag.size ++ s.tag.data.toList).length = _)]; omega)
  clear h1 H0 BX L0
  obtain ⟨H0, BX, L0⟩ := And.intro H1 (And.intro BX1 L1)
  clear H1 BX1 L1
  have c := BX.out.c4
  go_wp2_with fail
  refine (putFlag_any s.whole W _ _ (([1] : Bs) ++ numB n1 ++ numB n2 ++ numB n3 ++ (numB s.tag.size ++ s.tag.data.toList)) H0.out (Nat.le_trans L0.out (by omega))).mono ?_
  rintro e w5 ⟨v5, rfl, h1⟩
  clear c
  have BX1 := Lib.hid (BX0.out.next h1.below)
  have H1 := Lib.hid h1
  have L1 : Hid ((([1] : Bs) ++ numB n1 ++ numB n2 ++ numB n3 ++ (numB s.tag.size ++ s.tag.data.toList) ++ [if s.whole = true then 1 else 0]).length ≤ 98) := Lib.hid (by have := L0.out; rw [List.length_append]; simpa using this)
  clear h1 H0 BX L0
  obtain ⟨H0, BX, L0⟩ := And.intro H1 (And.intro BX1 L1)
  clear H1 BX1 L1
  have c := BX.out.c5
  rw [N4.out] at c
  go_wp2_with fail
  refine (putNumber_any n4 K4.out W _ _ (([1] : Bs) ++ numB n1 ++ numB n2 ++ numB n3 ++ (numB s.tag.size ++ s.tag.data.toList) ++ [if s.whole = true then 1 else 0]) H0.out (Nat.le_trans L0.out (by omega))).mono ?_
  rintro e w6 ⟨v6, rfl, h1⟩
  clear c
  have BX1 := Lib.hid (BX0.out.next h1.below)
  have H1 := Lib.hid h1
  have L1 : Hid ((([1] : Bs) ++ numB n1 ++ numB n2 ++ numB n3 ++ (numB s.tag.size ++ s.tag.data.toList) ++ [if s.whole = true then 1 else 0] ++ numB n4).length ≤ 118) := Lib.hid (by have := L0.out; have h2 := numB_few (n := n4) (by have := K4.out; omega); rw [List.length_append]; omega)
  clear h1 H0 BX L0
  obtain ⟨H0, BX, L0⟩ := And.intro H1 (And.intro BX1 L1)
  clear H1 BX1 L1
  have c := BX.out.c6
  go_wp2_with fail
  refine (putSigned_any s.prio KP.out.1 KP.out.2 W _ _ (([1] : Bs) ++ numB n1 ++ numB n2 ++ numB n3 ++ (numB s.tag.size ++ s.tag.data.toList) ++ [if s.whole = true then 1 else 0] ++ numB n4) H0.out (Nat.le_trans L0.out (by omega))).mono ?_
  rintro e w7 ⟨v7, rfl, h1⟩
  clear c
  have BX1 := Lib.hid (BX0.out.next h1.below)
  have H1 := Lib.hid h1
  clear h1 H0 BX L0
  go_wp2_with fail
  go_ret
  exact ⟨W, BW.out, _, rfl, by rw [← hsp.out]; exact H1.out⟩

set_option maxRecDepth 100000 in
set_option maxHeartbeats 8000000 in
theorem codeSpec_any (HS : SpecOk) (s : Sp) (w : World) (hs : SAsk s) (hG : Glob w) :
    Calls Try.prog 9 #[.agg #[.int .i64 s.nodes, .int .i64 s.cores, .int .i64 s.gpus, .string s.tag, .bool s.whole, .int .i64 s.long, .int .i64 s.prio]] w (NPost (ptSpec s).1 (ptSpec s).2 w) := by
  obtain ⟨W, hW⟩ : ∃ W, W = w.alloc (spO s) := ⟨_, rfl⟩
  have BX0 : Hid (BoxS W w.heap.size s) := Lib.hid (by rw [hW]; exact box_new w s)
  have BW : Hid (Below w.heap.size w W) := Lib.hid (by rw [hW]; exact (Below.refl _ _).alloc (Nat.le_refl _) _)
  have HGW : Hid (Glob W) := Lib.hid (hG.next BW.out)
  unfold spO at hW
  have HSA := Lib.hid hs
  clear hs hG
  have hfr := BX0.out.frozen
  cases hr : rightS s with
  | false =>
    have e0 : ptSpec s = ([], 1) := by unfold ptSpec; rw [if_neg (by rw [hr]; simp)]
    rw [e0]
    have HR := Lib.hid hr
    have c0 := BX0.out.c0
    have c1 := BX0.out.c1
    have c2 := BX0.out.c2
    have c3 := BX0.out.c3
    have c4 := BX0.out.c4
    have c5 := BX0.out.c5
    have c6 := BX0.out.c6
    clear hr e0
    go_enter Try.func9, Try.ntmps9
    go_wp2_with fail
    rw [← hW]
    refine (s7_right HS HSA.out HGW.out HR.out).mono ?_
    rintro e w1 ⟨rfl, hb1⟩
    have HB1 := Lib.hid (BW.out.trans (hb1.mono BW.out.size))
    clear hb1 c0 c1 c2 c3 c4 c5 c6
    go_wp2
    go_ret2
    exact npost_nil HB1.out
  | true =>
    have e0 : ptSpec s = (specB s, 0) := by unfold ptSpec; rw [if_pos hr]
    rw [e0]
    have HR := Lib.hid hr
    have c0 := BX0.out.c0
    have c1 := BX0.out.c1
    have c2 := BX0.out.c2
    have c3 := BX0.out.c3
    have c4 := BX0.out.c4
    have c5 := BX0.out.c5
    have c6 := BX0.out.c6
    clear hr e0
    go_enter Try.func9, Try.ntmps9
    go_wp2_with fail
    rw [← hW]
    refine (s7_right HS HSA.out HGW.out HR.out).mono ?_
    rintro e w1 ⟨rfl, hb1⟩
    have HB1 := Lib.hid (BW.out.trans (hb1.mono BW.out.size))
    have BX1 := Lib.hid (BX0.out.next hb1)
    clear hb1 c0 c1 c2 c3 c4 c5 c6 hfr
    have c0 := BX1.out.c0
    have c1 := BX1.out.c1
    have c2 := BX1.out.c2
    have c3 := BX1.out.c3
    have c4 := BX1.out.c4
    have c5 := BX1.out.c5
    have c6 := BX1.out.c6
    go_wp2_with fail
    refine (putSpec_any s w1 HR.out).mono ?_
    rintro e w2 ⟨W2, hb2, v2, rfl, h2⟩
    have H2 := Lib.hid h2
    have HB2 := Lib.hid (HB1.out.trans (hb2.mono HB1.out.size))
    clear hb2 h2 c0 c1 c2 c3 c4 c5 c6
    go_wp2
    go_ret2
    exact npost_on H2.out rfl HB2.out

end Go.Proofs.Ytlpogkcfjbabaaa

namespace Go.Proofs.Ytlpogkcfjbabaaa
open Go.RowKit

def endQ (last : Nat) : List (Nat × Nat) → Nat
  | [] => last
  | (f, m) :: r => endQ (f + m) r
theorem endQ_snoc : ∀ (d : List (Nat × Nat)) (last f m : Nat), endQ last (d ++ [(f, m)]) = f + m := by
  intro d
  induction d with
  | nil => intro last f m; rfl
  | cons x r ih => intro last f m; obtain ⟨g, k⟩ := x; exact ih (g + k) f m
theorem okRuns_last : ∀ (d : List (Nat × Nat)) (first : Bool) (last f m : Nat), okRuns first last (d ++ [(f, m)]) ↔ okRuns first last d ∧ endQ last d ≤ f ∧ f + m ≤ 255 ∧ ((first = true ∧ d = []) ∨ endQ last d + 2 ≤ f) := by
  intro d
  induction d with
  | nil =>
    intro first last f m
    show (last ≤ f ∧ f + m ≤ 255 ∧ (first = true ∨ last + 2 ≤ f) ∧ True) ↔ _
    simp [okRuns, endQ]
  | cons x r ih =>
    intro first last f m
    obtain ⟨g, k⟩ := x
    show (last ≤ g ∧ g + k ≤ 255 ∧ (first = true ∨ last + 2 ≤ g) ∧ okRuns false (g + k) (r ++ [(f, m)])) ↔ (last ≤ g ∧ g + k ≤ 255 ∧ (first = true ∨ last + 2 ≤ g) ∧ okRuns false (g + k) r) ∧ endQ (g + k) r ≤ f ∧ f + m ≤ 255 ∧ _
    rw [ih]
    constructor
    · rintro ⟨h1, h2, h3, h4, h5, h6, h7⟩
      exact ⟨⟨h1, h2, h3, h4⟩, h5, h6, .inr (h7.elim (fun h => absurd h.1 (by decide)) id)⟩
    · rintro ⟨⟨h1, h2, h3, h4⟩, h5, h6, h7⟩
      exact ⟨h1, h2, h3, h4, h5, h6, .inr (h7.elim (fun h => absurd h.2 (by simp)) id)⟩
theorem runsB_last : ∀ (d : List (Nat × Nat)) (last f m : Nat), runsB last (d ++ [(f, m)]) = runsB last d ++ (numB (f - endQ last d) ++ numB m) := by
  intro d
  induction d with
  | nil => intro last f m; show numB (f - last) ++ (numB m ++ []) = [] ++ (numB (f - last) ++ numB m); simp
  | cons x r ih =>
    intro last f m
    obtain ⟨g, k⟩ := x
    show numB (g - last) ++ (numB k ++ runsB (g + k) (r ++ [(f, m)])) = (numB (g - last) ++ (numB k ++ runsB (g + k) r)) ++ (numB (f - endQ (g + k) r) ++ numB m)
    rw [ih]; simp
theorem flatR_append (a b : List (Nat × Nat)) : flatR (a ++ b) = flatR a ++ flatR b := by unfold flatR; rw [List.flatMap_append]
theorem runN_more (f m : Nat) : runN f (m + 1) = runN f m ++ [((f + m + 1 : Nat) : Int)] := by
  unfold runN
  rw [List.range_succ, List.map_append]
  rfl
theorem runN_mem {f m : Nat} {x : Int} (h : x ∈ runN f m) : (f : Int) ≤ x ∧ x ≤ ((f + m : Nat) : Int) := by
  unfold runN at h
  obtain ⟨k, hk, e⟩ := List.mem_map.1 h
  have := List.mem_range.1 hk
  omega
theorem runN_end (f m : Nat) : ((f + m : Nat) : Int) ∈ runN f m := by
  unfold runN
  exact List.mem_map.2 ⟨m, List.mem_range.2 (by omega), rfl⟩
/-- of a set, whose first numbers are those runs, the next number: it makes the last one longer, or begins one -/
theorem right_next {l : List Int} (h : rightB l = true) {k X : Nat} (hk : l[k]? = some (X : Int)) : (∀ y ∈ l.take k, y < (X : Int)) ∧ X ≤ 255 := by
  have hl := (List.getElem?_eq_some_iff.1 hk).1
  have hX := right_mem h _ (List.mem_of_getElem? hk)
  refine ⟨fun y hy => ?_, by omega⟩
  induction l generalizing k with
  | nil => simp at hy
  | cons a t ih =>
    cases k with
    | zero => cases hy
    | succ k =>
      rw [List.getElem?_cons_succ] at hk
      rw [List.take_succ_cons] at hy
      have hb := right_below h
      rcases List.mem_cons.1 hy with rfl | hy
      · exact hb _ (List.mem_of_getElem? hk)
      · exact ih (right_tail h) hk (by simp at hl; omega) hy
theorem runs_longer {l : List Int} (h : rightB l = true) {k X f m : Nat} {d : List (Nat × Nat)} (hk : l[k]? = some (X : Int)) (ho : okRuns true 0 (d ++ [(f, m)])) (hf : flatR (d ++ [(f, m)]) = l.take k) (hX : f + m + 1 = X) :
    okRuns true 0 (d ++ [(f, m + 1)]) ∧ flatR (d ++ [(f, m + 1)]) = l.take (k + 1) := by
  obtain ⟨h1, h2⟩ := right_next h hk
  rw [okRuns_last] at ho ⊢
  refine ⟨⟨ho.1, ho.2.1, by omega, ho.2.2.2⟩, ?_⟩
  rw [List.take_add_one, hk, ← hf, flatR_append, flatR_append]
  show flatR d ++ (runN f (m + 1) ++ []) = (flatR d ++ (runN f m ++ [])) ++ [(X : Int)]
  rw [runN_more, hX]
  simp
theorem runs_another {l : List Int} (h : rightB l = true) {k X : Nat} {rs : List (Nat × Nat)} (hk : l[k]? = some (X : Int)) (ho : okRuns true 0 rs) (hf : flatR rs = l.take k) (hX : ∀ d f m, rs = d ++ [(f, m)] → f + m + 1 ≠ X) :
    okRuns true 0 (rs ++ [(X, 0)]) ∧ flatR (rs ++ [(X, 0)]) = l.take (k + 1) := by
  obtain ⟨h1, h2⟩ := right_next h hk
  constructor
  · rw [okRuns_last]
    rcases List.eq_nil_or_concat rs with rfl | ⟨d, ⟨f, m⟩, rfl⟩
    · exact ⟨trivial, Nat.zero_le _, by omega, .inl ⟨rfl, rfl⟩⟩
    · rw [List.concat_eq_append] at *
      have h3 : ((f + m : Nat) : Int) < (X : Int) := h1 _ (by
        rw [← hf, flatR_append]
        exact List.mem_append_right _ (by show _ ∈ runN f m ++ []; rw [List.append_nil]; exact runN_end f m))
      have h4 := hX d f m rfl
      rw [endQ_snoc]
      exact ⟨ho, by omega, by omega, .inr (by omega)⟩
  · rw [List.take_add_one, hk, ← hf, flatR_append]
    rfl
/-- runs, as cells -/
def rcells (rs : List (Nat × Nat)) : List Value := rs.flatMap fun r => [.int .i64 (r.1 : Int), .int .i64 ((r.1 + r.2 : Nat) : Int)]
theorem rcells_append (a b : List (Nat × Nat)) : rcells (a ++ b) = rcells a ++ rcells b := by unfold rcells; rw [List.flatMap_append]
theorem rcells_len (rs : List (Nat × Nat)) : (rcells rs).length = rs.length * 2 := by
  induction rs with
  | nil => rfl
  | cons r t ih =>
    show (rcells t).length + 1 + 1 = _
    rw [ih, List.length_cons]; omega
theorem rcells_set (d : List (Nat × Nat)) (f m m' : Nat) : (rcells (d ++ [(f, m)])).set (d.length * 2 + 1) (.int .i64 ((f + m' : Nat) : Int)) = rcells (d ++ [(f, m')]) := by
  rw [rcells_append, rcells_append, List.set_append, rcells_len, if_neg (by omega), show d.length * 2 + 1 - d.length * 2 = 1 by omega]
  rfl
theorem rcells_at {rs : List (Nat × Nat)} {j f m : Nat} (h : rs[j]? = some (f, m)) : (rcells rs)[j * 2]? = some (.int .i64 (f : Int)) ∧ (rcells rs)[j * 2 + 1]? = some (.int .i64 ((f + m : Nat) : Int)) := by
  induction rs generalizing j with
  | nil => simp at h
  | cons r t ih =>
    cases j with
    | zero =>
      have : r = (f, m) := by simpa using h
      subst this
      exact ⟨rfl, rfl⟩
    | succ j =>
      rw [List.getElem?_cons_succ] at h
      have := ih h
      rw [show (j + 1) * 2 = j * 2 + 1 + 1 by omega]
      exact this
/-- a row of runs of one's own -/
structure RR (w : World) (v : Value) (rs : List (Nat × Nat)) (w' : World) : Prop where
  own : w'.ownsRow w.heap.size 80 2 v rs.length (rcells rs)
  bel : Below w.heap.size w w'
theorem RR.nil (w : World) : RR w (.slice none 0 0) [] w := ⟨by simpa [rcells] using World.ownsRow_nil w w.heap.size 80 2, Below.refl _ _⟩
theorem RR.form {w w' : World} {v : Value} {rs : List (Nat × Nat)} (h : RR w v rs w') : ∃ A c, v = .slice A rs.length c ∧ (A = none → c = 0) ∧ rs.length ≤ c := by
  rcases h.own.2 with ⟨h1, h2⟩ | ⟨g, c, cur, h1, _, _, h3, _⟩
  · exact ⟨none, 0, by rw [h1, h2], fun _ => rfl, by omega⟩
  · exact ⟨_, c, h1, (fun e => by cases e), h3⟩
theorem RR.lies {w w' : World} {v : Value} {rs : List (Nat × Nat)} (h : RR w v rs w') (hr : 0 < rs.length) : ∃ g c, v = .slice (some ⟨g, 0, none⟩) rs.length c ∧ rs.length ≤ c := by
  rcases h.own.2 with ⟨_, h2⟩ | ⟨g, c, cur, h1, _, _, h3, _⟩
  · omega
  · exact ⟨g, c, h1, h3⟩
theorem RR.at {w w' : World} {g n c : Nat} {rs : List (Nat × Nat)} (h : RR w (.slice (some ⟨g, 0, none⟩) n c) rs w') (hn : n = rs.length) {j f m : Nat} (hj : rs[j]? = some (f, m)) : w'.cell? ⟨g, j * 2, none⟩ = some (.int .i64 (f : Int)) ∧ w'.cell? ⟨g, j * 2 + 1, none⟩ = some (.int .i64 ((f + m : Nat) : Int)) := by
  have hl := (List.getElem?_eq_some_iff.1 hj).1
  subst hn
  obtain ⟨h1, h2⟩ := rcells_at hj
  exact ⟨(h.own.cellAt (j * 2) (by omega)).trans h1, (h.own.cellAt (j * 2 + 1) (by omega)).trans h2⟩
theorem RR.frozen {w w' : World} {g n c : Nat} {rs : List (Nat × Nat)} (h : RR w (.slice (some ⟨g, 0, none⟩) n c) rs w') (hn : n = rs.length) (j : Nat) : w'.frozen? ⟨g, j, none⟩ = false := by
  subst hn
  exact h.own.frozenAt j
/-- the last run is made longer -/
theorem RR.longer {w w' : World} {g n c f m m' : Nat} {d : List (Nat × Nat)} (h : RR w (.slice (some ⟨g, 0, none⟩) n c) (d ++ [(f, m)]) w') (hn : n = d.length + 1) : RR w (.slice (some ⟨g, 0, none⟩) n c) (d ++ [(f, m')]) (w'.setCell ⟨g, d.length * 2 + 1, none⟩ (.int .i64 ((f + m' : Nat) : Int))) := by
  have ho := h.own
  have hl : (d ++ [(f, m)]).length = n := by simp [hn]
  have hl' : (d ++ [(f, m')]).length = n := by simp [hn]
  rw [hl] at ho
  have hs := ho.stored (d.length * 2 + 1) (.int .i64 ((f + m' : Nat) : Int))
  rw [rcells_set] at hs
  exact ⟨by rw [hl']; exact hs.1, h.bel.grown hs.2 h.bel.size (fun b hb => by injection hb with hb; have := (ho.lt g rfl).1; omega)⟩
theorem RR.next {w w1 w' : World} {v : Value} {rs : List (Nat × Nat)} (h : RR w v rs w1) (hb : Below w1.heap.size w1 w') : RR w v rs w' := by
  refine ⟨⟨h.own.1, h.own.2.imp id ?_⟩, h.bel.trans (hb.mono h.bel.size)⟩
  rintro ⟨g', cap, cur, e1, e2, e3, e4⟩
  exact ⟨g', cap, cur, e1, e2, (hb.block g' (Array.getElem?_eq_some_iff.1 e3).1).trans e3, e4⟩
theorem run_info : (Try.prog.info? 80).map (fun i => (i.zero, i.size, i.bytes)) = some (some (.agg #[.int .i64 0, .int .i64 0]), 2, 16) := by kernel_rfl
/-- 'append(all, run{n, n})' -/
theorem wpList_append_R1 {ops : Array Oper} {rest : List Oper} {o : Oper} {a : Act} {Q : Exit → Act → World → Prop} {w wr : World} {v : Value} {rs : List (Nat × Nat)} (hgd : o.guard = none) (s x : Operand)
    (ho : o.op = .call { callee := .builtin .append, args := #[s, x], argTypes := #[77, 77] })
    (h : RR w v rs wr) (hs : a.eval s = v) (X : Nat) (hx : a.eval x = .slice (some ⟨wr.heap.size, 0, none⟩) 1 1) (hl : rs.length ≤ 900000)
    (hn : ∀ v' w', RR w v' (rs ++ [(X, 0)]) w' → wpList Try.prog ops Q rest (a.put o.dst v') w') : wpList Try.prog ops Q (o :: rest) a (wr.alloc (.cells #[.int .i64 (X : Int), .int .i64 (X : Int)] 80)) := by
  obtain ⟨i0, hi0, hz0, hz1, hz2⟩ := info_parts run_info
  have h2 := h.next ((Below.refl _ _).alloc (Nat.le_refl _) (.cells #[.int .i64 (X : Int), .int .i64 (X : Int)] 80))
  refine wpList_append_own _ hgd s x 77 ho w.heap.size 80 i0 (.agg #[.int .i64 0, .int .i64 0]) 2 16 Try.underlying77 hi0 hz0 hz1 hz2 rfl (by decide) v rs.length (rcells rs) hs h2.own ⟨wr.heap.size, 0, none⟩ 1 1 [.int .i64 (X : Int), .int .i64 (X : Int)] hx rfl ?_ (by intro u hu; simp at hu; subst hu; rfl) (by unfold maxLen; omega) (by omega) h2.bel.size fun v' w' h3 h4 _ => ?_
  · intro j u hj
    rw [add_none, Nat.zero_add, World.cell?_alloc_at _ _ _ _ rfl]
    simpa using hj
  · refine hn v' w' ⟨?_, h2.bel.grown h4 h2.bel.size fun b hb => (h2.own.lt b hb).1⟩
    rw [List.length_append, rcells_append]
    exact h3

set_option maxRecDepth 100000 in
set_option maxHeartbeats 8000000 in
theorem runs_any (A : Option Addr) (n c : Nat) (l : List Int) (w : World) (h : LAsk w A n c l) (hr : rightB l = true) :
    Calls Try.prog 46 #[.slice A n c] w fun e w' => ∃ v, e = .returned v ∧ RR w v (runsL l) w' := by
  have HR := Lib.hid h.reads
  have HL := Lib.hid h.reads.1
  have HRT := Lib.hid hr
  have hn256 : n ≤ 256 := by have := right_few hr; have := HL.out; omega
  clear h hr
  go_enter Try.func46, Try.ntmps46
  go_wp2_with fail
  go_loopw [9, 3] (fun i v wr => ∃ (k : Nat) (rs : List (Nat × Nat)), k ≤ n ∧ i = .int .i64 (k : Int) ∧ okRuns true 0 rs ∧ flatR rs = l.take k ∧ rs.length ≤ k ∧ RR w v rs wr) (fun i _ _ => n - (intOf i).toNat)
  case atStart => exact ⟨0, [], by omega, rfl, trivial, rfl, Nat.le_refl _, RR.nil _⟩
  case round =>
    obtain ⟨k, rs, hk, rfl, hok, hfl, hrl, hrr⟩ := hrel
    have HOK := Lib.hid hok
    have HFL := Lib.hid hfl
    have HRL := Lib.hid hrl
    have HRR := Lib.hid hrr
    have HB := Lib.hid hrr.bel
    clear hok hfl hrl hrr
    by_cases hkn : k < n
    · have hd : decide ((k : Int) < (n : Int)) = true := by simp; omega
      have hd2 : decide (k < n) = true := by simp; omega
      obtain ⟨b, off, hA, hbl, hcell⟩ := (HR.out.next HB.out).one hkn
      subst hA
      have hkl : k < l.length := by rw [HL.out]; exact hkn
      have hge : l[k]? = some l[k] := List.getElem?_eq_getElem hkl
      have hrange := right_mem HRT.out _ (List.mem_of_getElem? hge)
      obtain ⟨X, hX⟩ : ∃ X : Nat, l[k] = (X : Int) := ⟨l[k].toNat, by omega⟩
      have hcell2 : wr.cell? ⟨b, off + k, none⟩ = some (.int .i64 (X : Int)) := by
        rw [hcell, List.getD, hge, ← hX]; rfl
      have HX : Hid (l[k]? = some (X : Int)) := Lib.hid (by rw [hge, hX])
      clear hcell hge hX hkl hrange hbl
      have hX255 : X ≤ 255 := (right_next HRT.out HX.out).2
      rcases List.eq_nil_or_concat rs with hrs | ⟨d, ⟨f, m⟩, hrs⟩
      · subst hrs
        obtain ⟨A1, c1, rfl, _, _⟩ := HRR.out.form
        have HN := Lib.hid (runs_another HRT.out HX.out HOK.out HFL.out (fun d f m e => by simp at e))
        have HRLL : Hid (([] : List (Nat × Nat)).length ≤ 900000) := Lib.hid (by simp)
        go_wp2_with (at_builtin; refine wpList_append_R1 rfl _ _ rfl HRR.out rfl X rfl HRLL.out ?_; intro v' w4 hrr4; refine Hid.out ?_)
        refine Lib.hid ?_
        have HR4 := Lib.hid hrr4
        clear hrr4
        go_wp2_with fail
        exact ⟨⟨k + 1, _, by omega, by go_num, HN.out.1, HN.out.2, by simp, HR4.out⟩, by simp [intOf]; omega⟩
      · rw [List.concat_eq_append] at hrs
        subst hrs
        have hlen : (d ++ [(f, m)]).length = d.length + 1 := by simp
        obtain ⟨g, c1, rfl, hcap⟩ := HRR.out.lies (by rw [hlen]; omega)
        rw [hlen] at HRR hcap
        obtain ⟨hc0, hc1⟩ := HRR.out.at hlen.symm (j := d.length) (f := f) (m := m) (by simp)
        have hfz := HRR.out.frozen hlen.symm (d.length * 2 + 1)
        have hdl : d.length + 1 ≤ 256 := by have := HRL.out; rw [hlen] at this; omega
        have hin := okRuns_last d true 0 f m
        have hfm : f + m ≤ 255 := (hin.1 HOK.out).2.2.1
        clear hin
        rw [hlen]
        obtain ⟨D, hD⟩ : ∃ D, d.length = D := ⟨_, rfl⟩
        have HD := Lib.hid hD
        rw [hD] at HRR hc0 hc1 hfz hdl hcap
        rw [hD]
        have hnn : decide (0 ≤ (D : Int)) = true := by simp
        have hdd1 : (D : Int) + 1 - 1 = (D : Int) := by omega
        have hdl2 : D < D + 1 := by omega
        have hdl3 : (D : Int) < (D : Int) + 1 := by omega
        have HRLL : Hid ((d ++ [(f, m)]).length ≤ 900000) := Lib.hid (by rw [hlen, hD]; omega)
        have HKL : Hid (D + 1 ≤ k) := Lib.hid (by have := HRL.out; rw [hlen, hD] at this; exact this)
        clear hlen hD
        by_cases hX1 : f + m + 1 = X
        · have HN := Lib.hid (runs_longer HRT.out HX.out HOK.out HFL.out hX1)
          have HU : Hid (RR w (.slice (some ⟨g, 0, none⟩) (D + 1) c1) (d ++ [(f, m + 1)]) (wr.setCell ⟨g, D * 2 + 1, none⟩ (.int .i64 (X : Int)))) := Lib.hid (by
            have := HRR.out.longer (m' := m + 1) (by rw [HD.out])
            rw [HD.out, show f + (m + 1) = X by omega] at this
            exact this)
          have he1 : (((f + m : Nat) : Int) == (X : Int) - 1) = true := by simp; omega
          have he2 : ((f : Int) + (m : Int) == (X : Int) - 1) = true := by simp; omega
          go_wp2_with fail
          trace_state
          exact ⟨⟨k + 1, _, by omega, by go_num, HN.out.1, HN.out.2, by rw [List.length_append, HD.out]; have := HKL.out; simp; omega, HU.out⟩, by simp [intOf]; omega⟩
        · have HN := Lib.hid (runs_another HRT.out HX.out HOK.out HFL.out (fun d' f' m' e => by
            have := List.append_inj' e rfl
            have h2 := this.2
            injection h2 with h2 _
            injection h2 with h3 h4
            subst h3 h4
            exact hX1))
          have he1 : (((f + m : Nat) : Int) == (X : Int) - 1) = false := by simp; omega
          have he2 : ((f : Int) + (m : Int) == (X : Int) - 1) = false := by simp; omega
          go_wp2_with (at_builtin; refine wpList_append_R1 rfl _ _ rfl HRR.out rfl X rfl HRLL.out ?_; intro v' w4 hrr4; refine Hid.out ?_)
          trace_state
          refine Lib.hid ?_
          have HR4 := Lib.hid hrr4
          clear hrr4
          go_wp2_with fail
          exact ⟨⟨k + 1, _, by omega, by go_num, HN.out.1, HN.out.2, by rw [List.length_append, List.length_append, HD.out]; have := HKL.out; simp; omega, HR4.out⟩, by simp [intOf]; omega⟩
    · have hd : decide ((k : Int) < (n : Int)) = false := by simp; omega
      have hd2 : decide (k < n) = false := by simp; omega
      have hkn' : k = n := by omega
      subst hkn'
      have HE : Hid (runsL l = rs) := Lib.hid (by
        have h1 := HFL.out
        rw [List.take_of_length_le (by rw [HL.out]; exact Nat.le_refl _)] at h1
        rw [← h1]
        exact (runs_of rs true 0 HOK.out).1)
      go_wp2_with fail
      go_ret
      exact ⟨_, rfl, by rw [HE.out]; exact HRR.out⟩

end Go.Proofs.Ytlpogkcfjbabaaa

namespace Go.Proofs.Ytlpogkcfjbabaaa
open Go.RowKit

theorem okRuns_at : ∀ (rs : List (Nat × Nat)) (first : Bool) (last k f m : Nat), okRuns first last rs → rs[k]? = some (f, m) → endQ last (rs.take k) ≤ f ∧ f + m ≤ 255 := by
  intro rs
  induction rs with
  | nil => intro first last k f m _ h; simp at h
  | cons x t ih =>
    intro first last k f m h hk
    obtain ⟨g, j⟩ := x
    obtain ⟨h1, h2, _, h4⟩ := h
    cases k with
    | zero =>
      have : (g, j) = (f, m) := by simpa using hk
      injection this with e1 e2
      subst e1 e2
      exact ⟨h1, h2⟩
    | succ k => exact ih false (g + j) k f m h4 (by simpa using hk)
theorem take_run {rs : List (Nat × Nat)} {k f m : Nat} (h : rs[k]? = some (f, m)) : rs.take (k + 1) = rs.take k ++ [(f, m)] := by rw [List.take_add_one, h]; rfl
theorem on_own_lt {w wr : World} {v : Value} {bs : Bs} {t : TypeId} (h : ON EB 1 t w v bs wr) : v.ownBlock ≠ some wr.heap.size := by
  intro e
  have := ((onb_own h).1.lt _ e).2
  omega

set_option maxRecDepth 100000 in
set_option maxHeartbeats 8000000 in
theorem putSet_any (A : Option Addr) (n c : Nat) (l : List Int) (w : World) (h : LAsk w A n c l) (hr : rightB l = true) :
    Calls Try.prog 25 #[.slice A n c] w fun e w' => ∃ W, Below w.heap.size w W ∧ Put W (setB l) e w' := by
  have HC := Lib.hid (runs_any A n c l w h hr)
  have HOK := Lib.hid (runs_ok l hr)
  have HK := Lib.hid (Nat.le_trans (runsL_len l) (right_few hr))
  clear h
  obtain ⟨rs, hrs⟩ : ∃ rs, runsL l = rs := ⟨_, rfl⟩
  have HSB : Hid (setB l = 2 :: (numB rs.length ++ runsB 0 rs)) := Lib.hid (by unfold setB; rw [hrs])
  rw [hrs] at HC HOK HK
  clear hrs hr
  obtain ⟨N, hN⟩ : ∃ N, rs.length = N := ⟨_, rfl⟩
  have HN := Lib.hid hN
  have hN256 : N ≤ 256 := by have := HK.out; omega
  clear hN
  go_enter Try.func25, Try.ntmps25
  go_wp2_with fail
  refine HC.out.mono ?_
  rintro e W ⟨v, rfl, hv⟩
  obtain ⟨A1, c1, rfl, _, hcap1⟩ := hv.form
  have HV := Lib.hid hv
  have HB := Lib.hid hv.bel
  have HO0 : Hid (ON EB 1 5 W (.slice (some ⟨W.heap.size, 0, none⟩) 1 1) [2] (W.alloc (.cells #[.int .u8 2] 5))) := Lib.hid (onb_one (t := 5) W 2 (by omega))
  rw [HN.out] at HV hcap1
  rw [HN.out]
  clear hv
  go_wp2_with fail
  refine (putNumber_any N (by omega) W _ _ [2] HO0.out (by simp)).mono ?_
  rintro e w1 ⟨v1, rfl, h1⟩
  have HO1 := Lib.hid h1
  clear h1
  go_wp2_with fail
  have HRS0 : Hid (2 :: (numB N ++ runsB 0 rs) = [2] ++ numB N ++ runsB 0 rs) := Lib.hid (by simp)
  have HL1 : Hid (([2] ++ numB N : Bs).length ≤ 21) := Lib.hid (by have := numB_few (n := N) (by omega); simp; omega)
  go_loopw [16, 4, 5] (fun i b la wr => ∃ (k last : Nat), k ≤ N ∧ i = .int .i64 (k : Int) ∧ la = .int .i64 (last : Int) ∧ last = endQ 0 (rs.take k) ∧ ON EB 1 5 W b ([2] ++ numB N ++ runsB 0 (rs.take k)) wr ∧ ([2] ++ numB N ++ runsB 0 (rs.take k)).length ≤ 21 + 40 * k) (fun i _ _ _ => N - (intOf i).toNat)
  case atStart => exact ⟨0, 0, by omega, rfl, rfl, rfl, by simpa [runsB] using HO1.out, by simpa [runsB] using HL1.out⟩
  case round =>
    obtain ⟨k, last, hk, rfl, rfl, hlast, hon, hlen⟩ := hrel
    have HO := Lib.hid hon
    have HLEN := Lib.hid hlen
    have HLA := Lib.hid hlast
    have HRR := Lib.hid (HV.out.next hon.below)
    clear hon hlen hlast
    by_cases hkn : k < N
    · have hd : decide ((k : Int) < (N : Int)) = true := by simp; omega
      have hd2 : decide (k < N) = true := by simp; omega
      obtain ⟨g, c2, hA, _⟩ := HRR.out.lies (by rw [HN.out]; omega)
      injection hA with hA hA2 hA3
      clear hA2 hA3
      subst hA
      have hkl : k < rs.length := by rw [HN.out]; exact hkn
      obtain ⟨⟨f, m⟩, hfm⟩ : ∃ r, rs[k]? = some r := ⟨_, List.getElem?_eq_getElem hkl⟩
      have HFM := Lib.hid hfm
      obtain ⟨hc0, hc1⟩ := HRR.out.at HN.out.symm hfm
      obtain ⟨q1, q2⟩ := okRuns_at rs true 0 k f m HOK.out hfm
      rw [← HLA.out] at q1
      clear hkl hfm
      have HO2 := Lib.hid (HO.out.next eb_steady ((Below.refl _ _).alloc (Nat.le_refl _) (.cells #[.int .i64 (f : Int), .int .i64 ((f : Int) + (m : Int))] 80)))
      have HOL := Lib.hid (on_own_lt HO.out)
      obtain ⟨D, hD⟩ : ∃ D, f - last = D := ⟨_, rfl⟩
      have hDi : (f : Int) - (last : Int) = (D : Int) := by omega
      have hDl : D < 9223372036854775808 := by omega
      have HDD : Hid (f - endQ 0 (rs.take k) = D) := Lib.hid (by rw [← HLA.out]; exact hD)
      have HNX : Hid (([2] ++ numB N ++ runsB 0 (rs.take k)) ++ numB D ++ numB m = [2] ++ numB N ++ runsB 0 (rs.take (k + 1))) := Lib.hid (by
        rw [take_run HFM.out, runsB_last, HDD.out]; simp)
      have HL2 : Hid (([2] ++ numB N ++ runsB 0 (rs.take k)).length ≤ 200000) := Lib.hid (by have := HLEN.out; omega)
      have HL3 : Hid ((([2] ++ numB N ++ runsB 0 (rs.take k)) ++ numB D).length ≤ 200000) := Lib.hid (by have := HLEN.out; have := numB_few hDl; rw [List.length_append]; omega)
      have HL4 : Hid ((([2] ++ numB N ++ runsB 0 (rs.take k)) ++ numB D ++ numB m).length ≤ 21 + 40 * (k + 1)) := Lib.hid (by have := HLEN.out; have := numB_few hDl; have := numB_few (n := m) (by omega); rw [List.length_append, List.length_append]; omega)
      have HLA2 : Hid (f + m = endQ 0 (rs.take (k + 1))) := Lib.hid (by rw [take_run HFM.out, endQ_snoc])
      clear hD q1
      go_wp2_with fail
      refine (putNumberK_any D hDl W _ _ _ HO2.out HL2.out).mono ?_
      rintro e w5 ⟨v5, rfl, h5, hk5⟩
      have hb5 := (hk5.block wr.heap.size (by simp) HOL.out).trans (heap_alloc_new _ _)
      have d0 := (cell_of_row w5 wr.heap.size 0 _ _ (0, 0) hb5).trans rfl
      have d1 := (cell_of_row w5 wr.heap.size 1 _ _ (0, 0) hb5).trans rfl
      have HOL5 : Hid (v5.ownBlock ≠ some wr.heap.size) := Lib.hid (by
        rcases hk5.own with e | e
        · rw [e]; exact HOL.out
        · intro e2; have h8 := e _ e2; have h9 : ∀ o, (wr.alloc o).heap.size = wr.heap.size + 1 := fun o => by simp
          rw [h9] at h8; omega)
      have HS5 : Hid (wr.heap.size < w5.heap.size) := Lib.hid (by have := hk5.size; simp at this; omega)
      have H5 := Lib.hid h5
      have HB5 := Lib.hid hb5
      have hfm1 : (f : Int) + (m : Int) - (f : Int) = (m : Int) := by omega
      clear h5 hk5 hb5
      go_wp2_with fail
      refine (putNumberK_any m (by omega) W _ _ _ H5.out HL3.out).mono ?_
      rintro e w6 ⟨v6, rfl, h6, hk6⟩
      clear d0 d1
      have hb6 := (hk6.block wr.heap.size HS5.out HOL5.out).trans HB5.out
      have d1 := (cell_of_row w6 wr.heap.size 1 _ _ (0, 0) hb6).trans rfl
      have H6 : Hid (ON EB 1 5 W v6 ([2] ++ numB N ++ runsB 0 (rs.take (k + 1))) w6) := Lib.hid (by rw [← HNX.out]; exact h6)
      have HL6 : Hid (([2] ++ numB N ++ runsB 0 (rs.take (k + 1))).length ≤ 21 + 40 * (k + 1)) := Lib.hid (by rw [← HNX.out]; exact HL4.out)
      clear h6 hk6 hb6
      go_wp2_with fail
      exact ⟨⟨k + 1, f + m, by omega, by go_num, by go_num, HLA2.out, H6.out, HL6.out⟩, by simp [intOf]; omega⟩
    · have hd : decide ((k : Int) < (N : Int)) = false := by simp; omega
      have hd2 : decide (k < N) = false := by simp; omega
      have hkn' : k = N := by omega
      subst hkn'
      have HE : Hid ([2] ++ numB k ++ runsB 0 (rs.take k) = setB l) := Lib.hid (by
        rw [HSB.out, HN.out, HRS0.out, List.take_of_length_le (by rw [HN.out]; exact Nat.le_refl _)])
      go_wp2_with fail
      go_ret
      exact ⟨W, HB.out, _, rfl, by rw [← HE.out]; exact HO.out⟩

set_option maxRecDepth 100000 in
set_option maxHeartbeats 4000000 in
theorem codeSet_any (A : Option Addr) (n c : Nat) (l : List Int) (w : World) (h : LAsk w A n c l) :
    Calls Try.prog 11 #[.slice A n c] w (NPost (ptSet l).1 (ptSet l).2 w) := by
  have HA := Lib.hid h
  have HML : Hid (n ≤ maxLen) := Lib.hid (by have := h.few; unfold maxLen; omega)
  clear h
  cases hr : rightB l with
  | false =>
    have e0 : ptSet l = ([], 1) := by unfold ptSet; rw [if_neg (by rw [hr]; simp)]
    rw [e0]
    have HR := Lib.hid hr
    clear hr e0
    go_enter Try.func11, Try.ntmps11
    go_wp2_with fail
    refine (s_isSet HA.out.reads HML.out HR.out).mono ?_
    rintro e w1 ⟨rfl, hb1⟩
    have HB1 := Lib.hid hb1
    clear hb1
    go_wp2_with fail
    go_ret2
    exact npost_nil HB1.out
  | true =>
    have e0 : ptSet l = (setB l, 0) := by unfold ptSet; rw [if_pos hr]
    rw [e0]
    have HR := Lib.hid hr
    clear hr e0
    go_enter Try.func11, Try.ntmps11
    go_wp2_with fail
    refine (s_isSet HA.out.reads HML.out HR.out).mono ?_
    rintro e w1 ⟨rfl, hb1⟩
    have HB1 := Lib.hid hb1
    clear hb1
    go_wp2_with fail
    refine (putSet_any A n c l w1 (HA.out.next HB1.out) HR.out).mono ?_
    rintro e w2 ⟨W2, hb2, v2, rfl, h2⟩
    have H2 := Lib.hid h2
    have HB2 := Lib.hid (HB1.out.trans (hb2.mono HB1.out.size))
    clear hb2 h2
    go_wp2_with fail
    go_ret2
    exact npost_on H2.out rfl HB2.out

end Go.Proofs.Ytlpogkcfjbabaaa
