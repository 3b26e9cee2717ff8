/- The program's Add of layer 12. Written by gen/gen_queuep.py. -/
import Derived.Test.YtimgdlddfnglaaaMg23
import Derived.Test.YtimgdlddfnglaaaMg26
import Derived.Test.YtimgdlddfnglaaaMg21
namespace Go.Proofs.Ytimgdlddfnglaaa
open Go.RowKit

/-- a job by value, as an element beside a row of one's own: what it reaches is not there -/
theorem JAsk.elV {w : World} {A : Option Addr} {m c B : Nat} {j : Jb} {v : Value} (h : JAsk w A m c j) (hA : ∀ p, A = some p → B ≤ p.block) (hg : ∀ b, v.ownBlock = some b → b < B) : EJb w (fun b => b < w.heap.size ∧ v.ownBlock ≠ some b) j [.int .i64 j.id, .int .i64 j.spec.nodes, .int .i64 j.spec.cores, .int .i64 j.spec.gpus, .string j.spec.tag, .bool j.spec.whole, .int .i64 j.spec.long, .int .i64 j.spec.prio, .slice A m c, .int .i64 j.state, .int .i64 j.came, .int .i64 j.frm, .int .i64 j.to] := by
  obtain ⟨A2, m2, c2, hv, hr, h5⟩ := h.el (Below.refl _ _)
  refine ⟨A2, m2, c2, hv, ⟨hr.1, fun h0 => ?_⟩, h5⟩
  obtain ⟨b, off, e, hlt, hc⟩ := hr.2 h0
  refine ⟨b, off, e, ⟨hlt, fun e2 => ?_⟩, fun k x hx => ?_⟩
  · have hAA : A = A2 := by
      simp only [List.cons.injEq, Value.slice.injEq] at hv
      exact hv.2.2.2.2.2.2.2.2.1.1
    have := hA ⟨b, off, none⟩ (by rw [hAA, e])
    have h3 : B ≤ b := this
    have := hg b e2
    omega
  · obtain ⟨vs, h1, h2, h3⟩ := hc k x hx
    exact ⟨vs, h1, h2, h3⟩
set_option maxRecDepth 100000 in
set_option maxHeartbeats 8000000 in
theorem addQP_1 {A A2 : Option Addr} {n c m c2 : Nat} {l : Qu} {s : Sp} {ns : List Int} {now : Int} {w : World} (hl : QAsk w A n c l) (hf : FewQ l) (hs : SAsk s) (hm : MAsk w A2 m c2 ns) (hmm : m ≤ 100) (hi : I64 now) (hr : rightQ l = false) : Calls Try.prog 18 #[.slice A n c, .agg #[.int .i64 s.nodes, .int .i64 s.cores, .int .i64 s.gpus, .string s.tag, .bool s.whole, .int .i64 s.long, .int .i64 s.prio], .slice A2 m c2, .int .i64 now] w (QNPost l 0 1 w) := by
  have hba : Below w.heap.size w (w.alloc (.cells #[.int .i64 s.nodes, .int .i64 s.cores, .int .i64 s.gpus, .string s.tag, .bool s.whole, .int .i64 s.long, .int .i64 s.prio] 27)) := (Below.refl _ _).alloc (Nat.le_refl _) _
  have HBA := Lib.hid hba
  have QA := Lib.hid (hl.next hba)
  have MA := Lib.hid (hm.next hba)
  have BS : Hid (BoxS (w.alloc (.cells #[.int .i64 s.nodes, .int .i64 s.cores, .int .i64 s.gpus, .string s.tag, .bool s.whole, .int .i64 s.long, .int .i64 s.prio] 27)) w.heap.size s) := Lib.hid (box_new w s)
  have HLN := Lib.hid hl.reads.len
  have HS := Lib.hid hs
  have hn100 : n ≤ 100 := by rw [← hl.reads.len]; exact hf.1
  have HSM := Lib.hid (sameQ_any (c := c) QA.out.reads QA.out.nil hf)
  have _u := hmm
  have _v := hi
  clear _u _v
  have RR := Lib.hid hr
  clear hr
  clear hl hm hs hba
  go_enter Try.func18, Try.ntmps18
  go_wp2_with fail
  refine HSM.out.mono ?_
  rintro e w1 ⟨v, rfl, hon⟩
  obtain ⟨A1, c1, rfl, hc0, hc1⟩ := hon.form
  rw [HLN.out] at hon hc1 ⊢
  have HO := Lib.hid hon
  have HC0 := Lib.hid hc0
  have HC1 := Lib.hid hc1
  have hb := hon.below
  have QAq := Lib.hid (QA.out.next hb)
  have MAq := Lib.hid (MA.out.next hb)
  have BSq := Lib.hid (BS.out.next hb)
  clear hon hc0 hc1 hb QA MA BS HSM
  have QA := QAq
  have MA := MAq
  have BS := BSq
  clear QAq MAq BSq
  go_wp2_with fail
  refine (rightQP_b QA.out RR.out).mono ?_
  rintro e w2 ⟨rfl, hb⟩
  have HOq := Lib.hid (HO.out.next ejb_steady hb)
  have QAq := Lib.hid (QA.out.next hb)
  have MAq := Lib.hid (MA.out.next hb)
  have BSq := Lib.hid (BS.out.next hb)
  clear hb HO QA MA BS
  have HO := HOq
  clear HOq
  have QA := QAq
  clear QAq
  have MA := MAq
  clear MAq
  have BS := BSq
  clear BSq
  go_wp2
  refine bodyPost_ret (v := .tuple #[.slice A1 n c1, .int .i64 0, .int .i64 1]) (by simp [results, Try.results18, go_sem]) rfl ⟨⟨_, _, _, rfl, ⟨HO.out.reads ejb_steady (by omega) rfl, HC0.out, HC1.out, by unfold maxLen; omega⟩⟩, HBA.out.trans (HO.out.below.mono HBA.out.size)⟩

set_option maxRecDepth 100000 in
set_option maxHeartbeats 8000000 in
theorem addQP_2 {A A2 : Option Addr} {n c m c2 : Nat} {l : Qu} {s : Sp} {ns : List Int} {now : Int} {w : World} (hl : QAsk w A n c l) (hf : FewQ l) (hs : SAsk s) (hm : MAsk w A2 m c2 ns) (hmm : m ≤ 100) (hi : I64 now) (hr : RightQ l) (h2 : rightS s = false) : Calls Try.prog 18 #[.slice A n c, .agg #[.int .i64 s.nodes, .int .i64 s.cores, .int .i64 s.gpus, .string s.tag, .bool s.whole, .int .i64 s.long, .int .i64 s.prio], .slice A2 m c2, .int .i64 now] w (QNPost l 0 1 w) := by
  have hba : Below w.heap.size w (w.alloc (.cells #[.int .i64 s.nodes, .int .i64 s.cores, .int .i64 s.gpus, .string s.tag, .bool s.whole, .int .i64 s.long, .int .i64 s.prio] 27)) := (Below.refl _ _).alloc (Nat.le_refl _) _
  have HBA := Lib.hid hba
  have QA := Lib.hid (hl.next hba)
  have MA := Lib.hid (hm.next hba)
  have BS : Hid (BoxS (w.alloc (.cells #[.int .i64 s.nodes, .int .i64 s.cores, .int .i64 s.gpus, .string s.tag, .bool s.whole, .int .i64 s.long, .int .i64 s.prio] 27)) w.heap.size s) := Lib.hid (box_new w s)
  have HLN := Lib.hid hl.reads.len
  have HS := Lib.hid hs
  have hn100 : n ≤ 100 := by rw [← hl.reads.len]; exact hf.1
  have HSM := Lib.hid (sameQ_any (c := c) QA.out.reads QA.out.nil hf)
  have _u := hmm
  have _v := hi
  clear _u _v
  have RR : Hid (rightQ l = true) := Lib.hid (decide_eq_true hr)
  have HR := Lib.hid hr
  have RS := Lib.hid h2
  clear hr h2
  clear hl hm hs hba
  go_enter Try.func18, Try.ntmps18
  go_wp2_with fail
  refine HSM.out.mono ?_
  rintro e w1 ⟨v, rfl, hon⟩
  obtain ⟨A1, c1, rfl, hc0, hc1⟩ := hon.form
  rw [HLN.out] at hon hc1 ⊢
  have HO := Lib.hid hon
  have HC0 := Lib.hid hc0
  have HC1 := Lib.hid hc1
  have hb := hon.below
  have QAq := Lib.hid (QA.out.next hb)
  have MAq := Lib.hid (MA.out.next hb)
  have BSq := Lib.hid (BS.out.next hb)
  clear hon hc0 hc1 hb QA MA BS HSM
  have QA := QAq
  have MA := MAq
  have BS := BSq
  clear QAq MAq BSq
  go_wp2_with fail
  refine (rightQP_b QA.out RR.out).mono ?_
  rintro e w2 ⟨rfl, hb⟩
  have HOq := Lib.hid (HO.out.next ejb_steady hb)
  have QAq := Lib.hid (QA.out.next hb)
  have MAq := Lib.hid (MA.out.next hb)
  have BSq := Lib.hid (BS.out.next hb)
  clear hb HO QA MA BS
  have HO := HOq
  clear HOq
  have QA := QAq
  clear QAq
  have MA := MAq
  clear MAq
  have BS := BSq
  clear BSq
  have q0 := BS.out.c0
  have q1 := BS.out.c1
  have q2 := BS.out.c2
  have q3 := BS.out.c3
  have q4 := BS.out.c4
  have q5 := BS.out.c5
  have q6 := BS.out.c6
  go_wp2_with fail
  refine (specRight_b HS.out RS.out).mono ?_
  rintro e w3 ⟨rfl, hb⟩
  clear q0 q1 q2 q3 q4 q5 q6
  have HOq := Lib.hid (HO.out.next ejb_steady hb)
  have QAq := Lib.hid (QA.out.next hb)
  have MAq := Lib.hid (MA.out.next hb)
  have BSq := Lib.hid (BS.out.next hb)
  clear hb HO QA MA BS
  have HO := HOq
  clear HOq
  have QA := QAq
  clear QAq
  have MA := MAq
  clear MAq
  have BS := BSq
  clear BSq
  go_wp2
  refine bodyPost_ret (v := .tuple #[.slice A1 n c1, .int .i64 0, .int .i64 1]) (by simp [results, Try.results18, go_sem]) rfl ⟨⟨_, _, _, rfl, ⟨HO.out.reads ejb_steady (by omega) rfl, HC0.out, HC1.out, by unfold maxLen; omega⟩⟩, HBA.out.trans (HO.out.below.mono HBA.out.size)⟩

set_option maxRecDepth 100000 in
set_option maxHeartbeats 8000000 in
theorem addQP_3 {A A2 : Option Addr} {n c m c2 : Nat} {l : Qu} {s : Sp} {ns : List Int} {now : Int} {w : World} (hl : QAsk w A n c l) (hf : FewQ l) (hs : SAsk s) (hm : MAsk w A2 m c2 ns) (hmm : m ≤ 100) (hi : I64 now) (hr : RightQ l) (h2 : rightS s = true) (h3 : mayB ns = false) : Calls Try.prog 18 #[.slice A n c, .agg #[.int .i64 s.nodes, .int .i64 s.cores, .int .i64 s.gpus, .string s.tag, .bool s.whole, .int .i64 s.long, .int .i64 s.prio], .slice A2 m c2, .int .i64 now] w (QNPost l 0 1 w) := by
  have hba : Below w.heap.size w (w.alloc (.cells #[.int .i64 s.nodes, .int .i64 s.cores, .int .i64 s.gpus, .string s.tag, .bool s.whole, .int .i64 s.long, .int .i64 s.prio] 27)) := (Below.refl _ _).alloc (Nat.le_refl _) _
  have HBA := Lib.hid hba
  have QA := Lib.hid (hl.next hba)
  have MA := Lib.hid (hm.next hba)
  have BS : Hid (BoxS (w.alloc (.cells #[.int .i64 s.nodes, .int .i64 s.cores, .int .i64 s.gpus, .string s.tag, .bool s.whole, .int .i64 s.long, .int .i64 s.prio] 27)) w.heap.size s) := Lib.hid (box_new w s)
  have HLN := Lib.hid hl.reads.len
  have HS := Lib.hid hs
  have hn100 : n ≤ 100 := by rw [← hl.reads.len]; exact hf.1
  have HSM := Lib.hid (sameQ_any (c := c) QA.out.reads QA.out.nil hf)
  have _u := hmm
  have _v := hi
  clear _u _v
  have RR : Hid (rightQ l = true) := Lib.hid (decide_eq_true hr)
  have HR := Lib.hid hr
  have RS := Lib.hid h2
  have RM := Lib.hid h3
  clear hr h2 h3
  clear hl hm hs hba
  go_enter Try.func18, Try.ntmps18
  go_wp2_with fail
  refine HSM.out.mono ?_
  rintro e w1 ⟨v, rfl, hon⟩
  obtain ⟨A1, c1, rfl, hc0, hc1⟩ := hon.form
  rw [HLN.out] at hon hc1 ⊢
  have HO := Lib.hid hon
  have HC0 := Lib.hid hc0
  have HC1 := Lib.hid hc1
  have hb := hon.below
  have QAq := Lib.hid (QA.out.next hb)
  have MAq := Lib.hid (MA.out.next hb)
  have BSq := Lib.hid (BS.out.next hb)
  clear hon hc0 hc1 hb QA MA BS HSM
  have QA := QAq
  have MA := MAq
  have BS := BSq
  clear QAq MAq BSq
  go_wp2_with fail
  refine (rightQP_b QA.out RR.out).mono ?_
  rintro e w2 ⟨rfl, hb⟩
  have HOq := Lib.hid (HO.out.next ejb_steady hb)
  have QAq := Lib.hid (QA.out.next hb)
  have MAq := Lib.hid (MA.out.next hb)
  have BSq := Lib.hid (BS.out.next hb)
  clear hb HO QA MA BS
  have HO := HOq
  clear HOq
  have QA := QAq
  clear QAq
  have MA := MAq
  clear MAq
  have BS := BSq
  clear BSq
  have q0 := BS.out.c0
  have q1 := BS.out.c1
  have q2 := BS.out.c2
  have q3 := BS.out.c3
  have q4 := BS.out.c4
  have q5 := BS.out.c5
  have q6 := BS.out.c6
  go_wp2_with fail
  refine (specRight_b HS.out RS.out).mono ?_
  rintro e w3 ⟨rfl, hb⟩
  clear q0 q1 q2 q3 q4 q5 q6
  have HOq := Lib.hid (HO.out.next ejb_steady hb)
  have QAq := Lib.hid (QA.out.next hb)
  have MAq := Lib.hid (MA.out.next hb)
  have BSq := Lib.hid (BS.out.next hb)
  clear hb HO QA MA BS
  have HO := HOq
  clear HOq
  have QA := QAq
  clear QAq
  have MA := MAq
  clear MAq
  have BS := BSq
  clear BSq
  go_wp2_with fail
  refine (mayQ_b MA.out RM.out).mono ?_
  rintro e w4 ⟨rfl, hb⟩
  have HOq := Lib.hid (HO.out.next ejb_steady hb)
  have QAq := Lib.hid (QA.out.next hb)
  have MAq := Lib.hid (MA.out.next hb)
  have BSq := Lib.hid (BS.out.next hb)
  clear hb HO QA MA BS
  have HO := HOq
  clear HOq
  have QA := QAq
  clear QAq
  have MA := MAq
  clear MAq
  have BS := BSq
  clear BSq
  go_wp2
  refine bodyPost_ret (v := .tuple #[.slice A1 n c1, .int .i64 0, .int .i64 1]) (by simp [results, Try.results18, go_sem]) rfl ⟨⟨_, _, _, rfl, ⟨HO.out.reads ejb_steady (by omega) rfl, HC0.out, HC1.out, by unfold maxLen; omega⟩⟩, HBA.out.trans (HO.out.below.mono HBA.out.size)⟩

set_option maxRecDepth 100000 in
set_option maxHeartbeats 8000000 in
theorem addQP_4 {A A2 : Option Addr} {n c m c2 : Nat} {l : Qu} {s : Sp} {ns : List Int} {now : Int} {w : World} (hl : QAsk w A n c l) (hf : FewQ l) (hs : SAsk s) (hm : MAsk w A2 m c2 ns) (hmm : m ≤ 100) (hi : I64 now) (hr : RightQ l) (h2 : rightS s = true) (h3 : mayB ns = true) (h4 : timeB now = false) : Calls Try.prog 18 #[.slice A n c, .agg #[.int .i64 s.nodes, .int .i64 s.cores, .int .i64 s.gpus, .string s.tag, .bool s.whole, .int .i64 s.long, .int .i64 s.prio], .slice A2 m c2, .int .i64 now] w (QNPost l 0 1 w) := by
  have hba : Below w.heap.size w (w.alloc (.cells #[.int .i64 s.nodes, .int .i64 s.cores, .int .i64 s.gpus, .string s.tag, .bool s.whole, .int .i64 s.long, .int .i64 s.prio] 27)) := (Below.refl _ _).alloc (Nat.le_refl _) _
  have HBA := Lib.hid hba
  have QA := Lib.hid (hl.next hba)
  have MA := Lib.hid (hm.next hba)
  have BS : Hid (BoxS (w.alloc (.cells #[.int .i64 s.nodes, .int .i64 s.cores, .int .i64 s.gpus, .string s.tag, .bool s.whole, .int .i64 s.long, .int .i64 s.prio] 27)) w.heap.size s) := Lib.hid (box_new w s)
  have HLN := Lib.hid hl.reads.len
  have HS := Lib.hid hs
  have hn100 : n ≤ 100 := by rw [← hl.reads.len]; exact hf.1
  have HSM := Lib.hid (sameQ_any (c := c) QA.out.reads QA.out.nil hf)
  have _u := hmm
  have _v := hi
  clear _u _v
  have RR : Hid (rightQ l = true) := Lib.hid (decide_eq_true hr)
  have HR := Lib.hid hr
  have RS := Lib.hid h2
  have RM := Lib.hid h3
  have RT := Lib.hid h4
  clear hr h2 h3 h4
  clear hl hm hs hba
  go_enter Try.func18, Try.ntmps18
  go_wp2_with fail
  refine HSM.out.mono ?_
  rintro e w1 ⟨v, rfl, hon⟩
  obtain ⟨A1, c1, rfl, hc0, hc1⟩ := hon.form
  rw [HLN.out] at hon hc1 ⊢
  have HO := Lib.hid hon
  have HC0 := Lib.hid hc0
  have HC1 := Lib.hid hc1
  have hb := hon.below
  have QAq := Lib.hid (QA.out.next hb)
  have MAq := Lib.hid (MA.out.next hb)
  have BSq := Lib.hid (BS.out.next hb)
  clear hon hc0 hc1 hb QA MA BS HSM
  have QA := QAq
  have MA := MAq
  have BS := BSq
  clear QAq MAq BSq
  go_wp2_with fail
  refine (rightQP_b QA.out RR.out).mono ?_
  rintro e w2 ⟨rfl, hb⟩
  have HOq := Lib.hid (HO.out.next ejb_steady hb)
  have QAq := Lib.hid (QA.out.next hb)
  have MAq := Lib.hid (MA.out.next hb)
  have BSq := Lib.hid (BS.out.next hb)
  clear hb HO QA MA BS
  have HO := HOq
  clear HOq
  have QA := QAq
  clear QAq
  have MA := MAq
  clear MAq
  have BS := BSq
  clear BSq
  have q0 := BS.out.c0
  have q1 := BS.out.c1
  have q2 := BS.out.c2
  have q3 := BS.out.c3
  have q4 := BS.out.c4
  have q5 := BS.out.c5
  have q6 := BS.out.c6
  go_wp2_with fail
  refine (specRight_b HS.out RS.out).mono ?_
  rintro e w3 ⟨rfl, hb⟩
  clear q0 q1 q2 q3 q4 q5 q6
  have HOq := Lib.hid (HO.out.next ejb_steady hb)
  have QAq := Lib.hid (QA.out.next hb)
  have MAq := Lib.hid (MA.out.next hb)
  have BSq := Lib.hid (BS.out.next hb)
  clear hb HO QA MA BS
  have HO := HOq
  clear HOq
  have QA := QAq
  clear QAq
  have MA := MAq
  clear MAq
  have BS := BSq
  clear BSq
  go_wp2_with fail
  refine (mayQ_b MA.out RM.out).mono ?_
  rintro e w4 ⟨rfl, hb⟩
  have HOq := Lib.hid (HO.out.next ejb_steady hb)
  have QAq := Lib.hid (QA.out.next hb)
  have MAq := Lib.hid (MA.out.next hb)
  have BSq := Lib.hid (BS.out.next hb)
  clear hb HO QA MA BS
  have HO := HOq
  clear HOq
  have QA := QAq
  clear QAq
  have MA := MAq
  clear MAq
  have BS := BSq
  clear BSq
  go_wp2_with fail
  refine (whenRight_b now _ _ RT.out).mono ?_
  rintro e w5 ⟨rfl, rfl⟩
  go_wp2
  refine bodyPost_ret (v := .tuple #[.slice A1 n c1, .int .i64 0, .int .i64 1]) (by simp [results, Try.results18, go_sem]) rfl ⟨⟨_, _, _, rfl, ⟨HO.out.reads ejb_steady (by omega) rfl, HC0.out, HC1.out, by unfold maxLen; omega⟩⟩, HBA.out.trans (HO.out.below.mono HBA.out.size)⟩

set_option maxRecDepth 100000 in
set_option maxHeartbeats 8000000 in
theorem addQP_5 {A A2 : Option Addr} {n c m c2 : Nat} {l : Qu} {s : Sp} {ns : List Int} {now : Int} {w : World} (hl : QAsk w A n c l) (hf : FewQ l) (hs : SAsk s) (hm : MAsk w A2 m c2 ns) (hmm : m ≤ 100) (hi : I64 now) (hr : RightQ l) (h2 : rightS s = true) (h3 : mayB ns = true) (h4 : timeB now = true) (hn0 : 0 < n) (h5 : now < (jAt l (n - 1)).came) : Calls Try.prog 18 #[.slice A n c, .agg #[.int .i64 s.nodes, .int .i64 s.cores, .int .i64 s.gpus, .string s.tag, .bool s.whole, .int .i64 s.long, .int .i64 s.prio], .slice A2 m c2, .int .i64 now] w (QNPost l 0 1 w) := by
  have hba : Below w.heap.size w (w.alloc (.cells #[.int .i64 s.nodes, .int .i64 s.cores, .int .i64 s.gpus, .string s.tag, .bool s.whole, .int .i64 s.long, .int .i64 s.prio] 27)) := (Below.refl _ _).alloc (Nat.le_refl _) _
  have HBA := Lib.hid hba
  have QA := Lib.hid (hl.next hba)
  have MA := Lib.hid (hm.next hba)
  have BS : Hid (BoxS (w.alloc (.cells #[.int .i64 s.nodes, .int .i64 s.cores, .int .i64 s.gpus, .string s.tag, .bool s.whole, .int .i64 s.long, .int .i64 s.prio] 27)) w.heap.size s) := Lib.hid (box_new w s)
  have HLN := Lib.hid hl.reads.len
  have HS := Lib.hid hs
  have hn100 : n ≤ 100 := by rw [← hl.reads.len]; exact hf.1
  have HSM := Lib.hid (sameQ_any (c := c) QA.out.reads QA.out.nil hf)
  have _u := hmm
  have _v := hi
  clear _u _v
  have RR : Hid (rightQ l = true) := Lib.hid (decide_eq_true hr)
  have HR := Lib.hid hr
  have RS := Lib.hid h2
  have RM := Lib.hid h3
  have RT := Lib.hid h4
  have d0 : decide (0 < n) = true := decide_eq_true hn0
  have hnz : (0 : Int) < (n : Int) := by omega
  have hn1 : n - 1 < n := by omega
  obtain ⟨z, hz⟩ : ∃ z, jAt l (n - 1) = z := ⟨_, rfl⟩
  have hzj := hr.job (i := n - 1) (by rw [HLN.out]; exact hn1)
  rw [hz] at hzj
  have hz1 : 1 ≤ z.id := hzj.1.1.1
  have hz2 : z.id ≤ 1073741824 := hzj.1.1.2
  have HZ := Lib.hid hz
  have hz30 : n ≤ 64 := by rw [← HLN.out]; exact hr.1
  clear hzj hz
  rw [HZ.out] at h5
  have d5 : decide (now < z.came) = true := decide_eq_true h5
  clear hr h2 h3 h4 h5
  clear hl hm hs hba
  go_enter Try.func18, Try.ntmps18
  go_wp2_with fail
  refine HSM.out.mono ?_
  rintro e w1 ⟨v, rfl, hon⟩
  obtain ⟨A1, c1, rfl, hc0, hc1⟩ := hon.form
  rw [HLN.out] at hon hc1 ⊢
  have HO := Lib.hid hon
  have HC0 := Lib.hid hc0
  have HC1 := Lib.hid hc1
  have hb := hon.below
  have QAq := Lib.hid (QA.out.next hb)
  have MAq := Lib.hid (MA.out.next hb)
  have BSq := Lib.hid (BS.out.next hb)
  clear hon hc0 hc1 hb QA MA BS HSM
  have QA := QAq
  have MA := MAq
  have BS := BSq
  clear QAq MAq BSq
  go_wp2_with fail
  refine (rightQP_b QA.out RR.out).mono ?_
  rintro e w2 ⟨rfl, hb⟩
  have HOq := Lib.hid (HO.out.next ejb_steady hb)
  have QAq := Lib.hid (QA.out.next hb)
  have MAq := Lib.hid (MA.out.next hb)
  have BSq := Lib.hid (BS.out.next hb)
  clear hb HO QA MA BS
  have HO := HOq
  clear HOq
  have QA := QAq
  clear QAq
  have MA := MAq
  clear MAq
  have BS := BSq
  clear BSq
  have q0 := BS.out.c0
  have q1 := BS.out.c1
  have q2 := BS.out.c2
  have q3 := BS.out.c3
  have q4 := BS.out.c4
  have q5 := BS.out.c5
  have q6 := BS.out.c6
  go_wp2_with fail
  refine (specRight_b HS.out RS.out).mono ?_
  rintro e w3 ⟨rfl, hb⟩
  clear q0 q1 q2 q3 q4 q5 q6
  have HOq := Lib.hid (HO.out.next ejb_steady hb)
  have QAq := Lib.hid (QA.out.next hb)
  have MAq := Lib.hid (MA.out.next hb)
  have BSq := Lib.hid (BS.out.next hb)
  clear hb HO QA MA BS
  have HO := HOq
  clear HOq
  have QA := QAq
  clear QAq
  have MA := MAq
  clear MAq
  have BS := BSq
  clear BSq
  go_wp2_with fail
  refine (mayQ_b MA.out RM.out).mono ?_
  rintro e w4 ⟨rfl, hb⟩
  have HOq := Lib.hid (HO.out.next ejb_steady hb)
  have QAq := Lib.hid (QA.out.next hb)
  have MAq := Lib.hid (MA.out.next hb)
  have BSq := Lib.hid (BS.out.next hb)
  clear hb HO QA MA BS
  have HO := HOq
  clear HOq
  have QA := QAq
  clear QAq
  have MA := MAq
  clear MAq
  have BS := BSq
  clear BSq
  go_wp2_with fail
  refine (whenRight_b now _ _ RT.out).mono ?_
  rintro e w5 ⟨rfl, rfl⟩
  obtain ⟨b, off, A3, m3, c3, hA, _, ⟨e0, e1, e2, e3, e4, e5, e6, e7, e8, e9, e10, e11, e12⟩, _⟩ := QA.out.reads.one hn1
  subst hA
  rw [HZ.out] at e10
  clear e0 e1 e2 e3 e4 e5 e6 e7 e8 e9 e11 e12
  go_wp2
  refine bodyPost_ret (v := .tuple #[.slice A1 n c1, .int .i64 0, .int .i64 1]) (by simp [results, Try.results18, go_sem]) rfl ⟨⟨_, _, _, rfl, ⟨HO.out.reads ejb_steady (by omega) rfl, HC0.out, HC1.out, by unfold maxLen; omega⟩⟩, HBA.out.trans (HO.out.below.mono HBA.out.size)⟩

set_option maxRecDepth 100000 in
set_option maxHeartbeats 8000000 in
theorem addQP_6e {A A2 : Option Addr} {n c m c2 : Nat} {l : Qu} {s : Sp} {ns : List Int} {now : Int} {w : World} (hl : QAsk w A n c l) (hf : FewQ l) (hs : SAsk s) (hm : MAsk w A2 m c2 ns) (hmm : m ≤ 100) (hi : I64 now) (hr : RightQ l) (h2 : rightS s = true) (h3 : mayB ns = true) (h4 : timeB now = true) (hn0 : n = 0) (h6 : decide (AllHas l ns) = false) : Calls Try.prog 18 #[.slice A n c, .agg #[.int .i64 s.nodes, .int .i64 s.cores, .int .i64 s.gpus, .string s.tag, .bool s.whole, .int .i64 s.long, .int .i64 s.prio], .slice A2 m c2, .int .i64 now] w (QNPost l 0 6 w) := by
  have hba : Below w.heap.size w (w.alloc (.cells #[.int .i64 s.nodes, .int .i64 s.cores, .int .i64 s.gpus, .string s.tag, .bool s.whole, .int .i64 s.long, .int .i64 s.prio] 27)) := (Below.refl _ _).alloc (Nat.le_refl _) _
  have HBA := Lib.hid hba
  have QA := Lib.hid (hl.next hba)
  have MA := Lib.hid (hm.next hba)
  have BS : Hid (BoxS (w.alloc (.cells #[.int .i64 s.nodes, .int .i64 s.cores, .int .i64 s.gpus, .string s.tag, .bool s.whole, .int .i64 s.long, .int .i64 s.prio] 27)) w.heap.size s) := Lib.hid (box_new w s)
  have HLN := Lib.hid hl.reads.len
  have HS := Lib.hid hs
  have hn100 : n ≤ 100 := by rw [← hl.reads.len]; exact hf.1
  have HSM := Lib.hid (sameQ_any (c := c) QA.out.reads QA.out.nil hf)
  have _u := hmm
  have _v := hi
  clear _u _v
  have RR : Hid (rightQ l = true) := Lib.hid (decide_eq_true hr)
  have HR := Lib.hid hr
  have RS := Lib.hid h2
  have RM := Lib.hid h3
  have RT := Lib.hid h4
  have RA := Lib.hid h6
  clear hr h2 h3 h4 h6
  have d0 : decide (0 < n) = false := decide_eq_false (by omega)
  have d7 : ((n : Int) == 64) = false := beq_eq_false_iff_ne.2 (by omega)
  have hz30 : n ≤ 64 := by omega
  clear hn0
  clear hl hm hs hba
  go_enter Try.func18, Try.ntmps18
  go_wp2_with fail
  refine HSM.out.mono ?_
  rintro e w1 ⟨v, rfl, hon⟩
  obtain ⟨A1, c1, rfl, hc0, hc1⟩ := hon.form
  rw [HLN.out] at hon hc1 ⊢
  have HO := Lib.hid hon
  have HC0 := Lib.hid hc0
  have HC1 := Lib.hid hc1
  have hb := hon.below
  have QAq := Lib.hid (QA.out.next hb)
  have MAq := Lib.hid (MA.out.next hb)
  have BSq := Lib.hid (BS.out.next hb)
  clear hon hc0 hc1 hb QA MA BS HSM
  have QA := QAq
  have MA := MAq
  have BS := BSq
  clear QAq MAq BSq
  go_wp2_with fail
  refine (rightQP_b QA.out RR.out).mono ?_
  rintro e w2 ⟨rfl, hb⟩
  have HOq := Lib.hid (HO.out.next ejb_steady hb)
  have QAq := Lib.hid (QA.out.next hb)
  have MAq := Lib.hid (MA.out.next hb)
  have BSq := Lib.hid (BS.out.next hb)
  clear hb HO QA MA BS
  have HO := HOq
  clear HOq
  have QA := QAq
  clear QAq
  have MA := MAq
  clear MAq
  have BS := BSq
  clear BSq
  have q0 := BS.out.c0
  have q1 := BS.out.c1
  have q2 := BS.out.c2
  have q3 := BS.out.c3
  have q4 := BS.out.c4
  have q5 := BS.out.c5
  have q6 := BS.out.c6
  go_wp2_with fail
  refine (specRight_b HS.out RS.out).mono ?_
  rintro e w3 ⟨rfl, hb⟩
  clear q0 q1 q2 q3 q4 q5 q6
  have HOq := Lib.hid (HO.out.next ejb_steady hb)
  have QAq := Lib.hid (QA.out.next hb)
  have MAq := Lib.hid (MA.out.next hb)
  have BSq := Lib.hid (BS.out.next hb)
  clear hb HO QA MA BS
  have HO := HOq
  clear HOq
  have QA := QAq
  clear QAq
  have MA := MAq
  clear MAq
  have BS := BSq
  clear BSq
  go_wp2_with fail
  refine (mayQ_b MA.out RM.out).mono ?_
  rintro e w4 ⟨rfl, hb⟩
  have HOq := Lib.hid (HO.out.next ejb_steady hb)
  have QAq := Lib.hid (QA.out.next hb)
  have MAq := Lib.hid (MA.out.next hb)
  have BSq := Lib.hid (BS.out.next hb)
  clear hb HO QA MA BS
  have HO := HOq
  clear HOq
  have QA := QAq
  clear QAq
  have MA := MAq
  clear MAq
  have BS := BSq
  clear BSq
  go_wp2_with fail
  refine (whenRight_b now _ _ RT.out).mono ?_
  rintro e w5 ⟨rfl, rfl⟩
  have HC := Lib.hid (thereQ_b (c := c) QA.out.reads (by omega) HR.out.riseL MA.out RA.out)
  go_wp2_with fail
  refine HC.out.mono ?_
  rintro e w6 ⟨rfl, hb⟩
  clear HC
  have HOq := Lib.hid (HO.out.next ejb_steady hb)
  have QAq := Lib.hid (QA.out.next hb)
  have MAq := Lib.hid (MA.out.next hb)
  have BSq := Lib.hid (BS.out.next hb)
  clear hb HO QA MA BS
  have HO := HOq
  clear HOq
  have QA := QAq
  clear QAq
  have MA := MAq
  clear MAq
  have BS := BSq
  clear BSq
  go_wp2
  refine bodyPost_ret (v := .tuple #[.slice A1 n c1, .int .i64 0, .int .i64 6]) (by simp [results, Try.results18, go_sem]) rfl ⟨⟨_, _, _, rfl, ⟨HO.out.reads ejb_steady (by omega) rfl, HC0.out, HC1.out, by unfold maxLen; omega⟩⟩, HBA.out.trans (HO.out.below.mono HBA.out.size)⟩

set_option maxRecDepth 100000 in
set_option maxHeartbeats 8000000 in
theorem addQP_6m {A A2 : Option Addr} {n c m c2 : Nat} {l : Qu} {s : Sp} {ns : List Int} {now : Int} {w : World} (hl : QAsk w A n c l) (hf : FewQ l) (hs : SAsk s) (hm : MAsk w A2 m c2 ns) (hmm : m ≤ 100) (hi : I64 now) (hr : RightQ l) (h2 : rightS s = true) (h3 : mayB ns = true) (h4 : timeB now = true) (hn0 : 0 < n) (h5 : ¬ now < (jAt l (n - 1)).came) (h6 : decide (AllHas l ns) = false) : Calls Try.prog 18 #[.slice A n c, .agg #[.int .i64 s.nodes, .int .i64 s.cores, .int .i64 s.gpus, .string s.tag, .bool s.whole, .int .i64 s.long, .int .i64 s.prio], .slice A2 m c2, .int .i64 now] w (QNPost l 0 6 w) := by
  have hba : Below w.heap.size w (w.alloc (.cells #[.int .i64 s.nodes, .int .i64 s.cores, .int .i64 s.gpus, .string s.tag, .bool s.whole, .int .i64 s.long, .int .i64 s.prio] 27)) := (Below.refl _ _).alloc (Nat.le_refl _) _
  have HBA := Lib.hid hba
  have QA := Lib.hid (hl.next hba)
  have MA := Lib.hid (hm.next hba)
  have BS : Hid (BoxS (w.alloc (.cells #[.int .i64 s.nodes, .int .i64 s.cores, .int .i64 s.gpus, .string s.tag, .bool s.whole, .int .i64 s.long, .int .i64 s.prio] 27)) w.heap.size s) := Lib.hid (box_new w s)
  have HLN := Lib.hid hl.reads.len
  have HS := Lib.hid hs
  have hn100 : n ≤ 100 := by rw [← hl.reads.len]; exact hf.1
  have HSM := Lib.hid (sameQ_any (c := c) QA.out.reads QA.out.nil hf)
  have _u := hmm
  have _v := hi
  clear _u _v
  have RR : Hid (rightQ l = true) := Lib.hid (decide_eq_true hr)
  have HR := Lib.hid hr
  have RS := Lib.hid h2
  have RM := Lib.hid h3
  have RT := Lib.hid h4
  have d0 : decide (0 < n) = true := decide_eq_true hn0
  have hnz : (0 : Int) < (n : Int) := by omega
  have hn1 : n - 1 < n := by omega
  obtain ⟨z, hz⟩ : ∃ z, jAt l (n - 1) = z := ⟨_, rfl⟩
  have hzj := hr.job (i := n - 1) (by rw [HLN.out]; exact hn1)
  rw [hz] at hzj
  have hz1 : 1 ≤ z.id := hzj.1.1.1
  have hz2 : z.id ≤ 1073741824 := hzj.1.1.2
  have HZ := Lib.hid hz
  have hz30 : n ≤ 64 := by rw [← HLN.out]; exact hr.1
  clear hzj hz
  rw [HZ.out] at h5
  have d5 : decide (now < z.came) = false := decide_eq_false h5
  have RA := Lib.hid h6
  clear hr h2 h3 h4 h5 h6
  clear hl hm hs hba
  go_enter Try.func18, Try.ntmps18
  go_wp2_with fail
  refine HSM.out.mono ?_
  rintro e w1 ⟨v, rfl, hon⟩
  obtain ⟨A1, c1, rfl, hc0, hc1⟩ := hon.form
  rw [HLN.out] at hon hc1 ⊢
  have HO := Lib.hid hon
  have HC0 := Lib.hid hc0
  have HC1 := Lib.hid hc1
  have hb := hon.below
  have QAq := Lib.hid (QA.out.next hb)
  have MAq := Lib.hid (MA.out.next hb)
  have BSq := Lib.hid (BS.out.next hb)
  clear hon hc0 hc1 hb QA MA BS HSM
  have QA := QAq
  have MA := MAq
  have BS := BSq
  clear QAq MAq BSq
  go_wp2_with fail
  refine (rightQP_b QA.out RR.out).mono ?_
  rintro e w2 ⟨rfl, hb⟩
  have HOq := Lib.hid (HO.out.next ejb_steady hb)
  have QAq := Lib.hid (QA.out.next hb)
  have MAq := Lib.hid (MA.out.next hb)
  have BSq := Lib.hid (BS.out.next hb)
  clear hb HO QA MA BS
  have HO := HOq
  clear HOq
  have QA := QAq
  clear QAq
  have MA := MAq
  clear MAq
  have BS := BSq
  clear BSq
  have q0 := BS.out.c0
  have q1 := BS.out.c1
  have q2 := BS.out.c2
  have q3 := BS.out.c3
  have q4 := BS.out.c4
  have q5 := BS.out.c5
  have q6 := BS.out.c6
  go_wp2_with fail
  refine (specRight_b HS.out RS.out).mono ?_
  rintro e w3 ⟨rfl, hb⟩
  clear q0 q1 q2 q3 q4 q5 q6
  have HOq := Lib.hid (HO.out.next ejb_steady hb)
  have QAq := Lib.hid (QA.out.next hb)
  have MAq := Lib.hid (MA.out.next hb)
  have BSq := Lib.hid (BS.out.next hb)
  clear hb HO QA MA BS
  have HO := HOq
  clear HOq
  have QA := QAq
  clear QAq
  have MA := MAq
  clear MAq
  have BS := BSq
  clear BSq
  go_wp2_with fail
  refine (mayQ_b MA.out RM.out).mono ?_
  rintro e w4 ⟨rfl, hb⟩
  have HOq := Lib.hid (HO.out.next ejb_steady hb)
  have QAq := Lib.hid (QA.out.next hb)
  have MAq := Lib.hid (MA.out.next hb)
  have BSq := Lib.hid (BS.out.next hb)
  clear hb HO QA MA BS
  have HO := HOq
  clear HOq
  have QA := QAq
  clear QAq
  have MA := MAq
  clear MAq
  have BS := BSq
  clear BSq
  go_wp2_with fail
  refine (whenRight_b now _ _ RT.out).mono ?_
  rintro e w5 ⟨rfl, rfl⟩
  obtain ⟨b, off, A3, m3, c3, hA, _, ⟨e0, e1, e2, e3, e4, e5, e6, e7, e8, e9, e10, e11, e12⟩, _⟩ := QA.out.reads.one hn1
  subst hA
  rw [HZ.out] at e0 e10
  clear e1 e2 e3 e4 e5 e6 e7 e8 e9 e11 e12
  have HC := Lib.hid (thereQ_b (c := c) QA.out.reads (by omega) HR.out.riseL MA.out RA.out)
  go_wp2_with fail
  refine HC.out.mono ?_
  rintro e w6 ⟨rfl, hb⟩
  clear HC
  have HOq := Lib.hid (HO.out.next ejb_steady hb)
  have QAq := Lib.hid (QA.out.next hb)
  have MAq := Lib.hid (MA.out.next hb)
  have BSq := Lib.hid (BS.out.next hb)
  clear hb HO QA MA BS
  have HO := HOq
  clear HOq
  have QA := QAq
  clear QAq
  have MA := MAq
  clear MAq
  have BS := BSq
  clear BSq
  go_wp2
  refine bodyPost_ret (v := .tuple #[.slice A1 n c1, .int .i64 0, .int .i64 6]) (by simp [results, Try.results18, go_sem]) rfl ⟨⟨_, _, _, rfl, ⟨HO.out.reads ejb_steady (by omega) rfl, HC0.out, HC1.out, by unfold maxLen; omega⟩⟩, HBA.out.trans (HO.out.below.mono HBA.out.size)⟩

set_option maxRecDepth 100000 in
set_option maxHeartbeats 8000000 in
theorem addQP_7 {A A2 : Option Addr} {n c m c2 : Nat} {l : Qu} {s : Sp} {ns : List Int} {now : Int} {w : World} (hl : QAsk w A n c l) (hf : FewQ l) (hs : SAsk s) (hm : MAsk w A2 m c2 ns) (hmm : m ≤ 100) (hi : I64 now) (hr : RightQ l) (h2 : rightS s = true) (h3 : mayB ns = true) (h4 : timeB now = true) (hn0 : 0 < n) (h5 : ¬ now < (jAt l (n - 1)).came) (h6 : decide (AllHas l ns) = true) (h7 : n = 64) : Calls Try.prog 18 #[.slice A n c, .agg #[.int .i64 s.nodes, .int .i64 s.cores, .int .i64 s.gpus, .string s.tag, .bool s.whole, .int .i64 s.long, .int .i64 s.prio], .slice A2 m c2, .int .i64 now] w (QNPost l 0 5 w) := by
  have hba : Below w.heap.size w (w.alloc (.cells #[.int .i64 s.nodes, .int .i64 s.cores, .int .i64 s.gpus, .string s.tag, .bool s.whole, .int .i64 s.long, .int .i64 s.prio] 27)) := (Below.refl _ _).alloc (Nat.le_refl _) _
  have HBA := Lib.hid hba
  have QA := Lib.hid (hl.next hba)
  have MA := Lib.hid (hm.next hba)
  have BS : Hid (BoxS (w.alloc (.cells #[.int .i64 s.nodes, .int .i64 s.cores, .int .i64 s.gpus, .string s.tag, .bool s.whole, .int .i64 s.long, .int .i64 s.prio] 27)) w.heap.size s) := Lib.hid (box_new w s)
  have HLN := Lib.hid hl.reads.len
  have HS := Lib.hid hs
  have hn100 : n ≤ 100 := by rw [← hl.reads.len]; exact hf.1
  have HSM := Lib.hid (sameQ_any (c := c) QA.out.reads QA.out.nil hf)
  have _u := hmm
  have _v := hi
  clear _u _v
  have RR : Hid (rightQ l = true) := Lib.hid (decide_eq_true hr)
  have HR := Lib.hid hr
  have RS := Lib.hid h2
  have RM := Lib.hid h3
  have RT := Lib.hid h4
  have d0 : decide (0 < n) = true := decide_eq_true hn0
  have hnz : (0 : Int) < (n : Int) := by omega
  have hn1 : n - 1 < n := by omega
  obtain ⟨z, hz⟩ : ∃ z, jAt l (n - 1) = z := ⟨_, rfl⟩
  have hzj := hr.job (i := n - 1) (by rw [HLN.out]; exact hn1)
  rw [hz] at hzj
  have hz1 : 1 ≤ z.id := hzj.1.1.1
  have hz2 : z.id ≤ 1073741824 := hzj.1.1.2
  have HZ := Lib.hid hz
  have hz30 : n ≤ 64 := by rw [← HLN.out]; exact hr.1
  clear hzj hz
  rw [HZ.out] at h5
  have d5 : decide (now < z.came) = false := decide_eq_false h5
  have RA := Lib.hid h6
  have d7 : ((n : Int) == 64) = true := by rw [h7]; rfl
  clear hr h2 h3 h4 h5 h6 h7
  clear hl hm hs hba
  go_enter Try.func18, Try.ntmps18
  go_wp2_with fail
  refine HSM.out.mono ?_
  rintro e w1 ⟨v, rfl, hon⟩
  obtain ⟨A1, c1, rfl, hc0, hc1⟩ := hon.form
  rw [HLN.out] at hon hc1 ⊢
  have HO := Lib.hid hon
  have HC0 := Lib.hid hc0
  have HC1 := Lib.hid hc1
  have hb := hon.below
  have QAq := Lib.hid (QA.out.next hb)
  have MAq := Lib.hid (MA.out.next hb)
  have BSq := Lib.hid (BS.out.next hb)
  clear hon hc0 hc1 hb QA MA BS HSM
  have QA := QAq
  have MA := MAq
  have BS := BSq
  clear QAq MAq BSq
  go_wp2_with fail
  refine (rightQP_b QA.out RR.out).mono ?_
  rintro e w2 ⟨rfl, hb⟩
  have HOq := Lib.hid (HO.out.next ejb_steady hb)
  have QAq := Lib.hid (QA.out.next hb)
  have MAq := Lib.hid (MA.out.next hb)
  have BSq := Lib.hid (BS.out.next hb)
  clear hb HO QA MA BS
  have HO := HOq
  clear HOq
  have QA := QAq
  clear QAq
  have MA := MAq
  clear MAq
  have BS := BSq
  clear BSq
  have q0 := BS.out.c0
  have q1 := BS.out.c1
  have q2 := BS.out.c2
  have q3 := BS.out.c3
  have q4 := BS.out.c4
  have q5 := BS.out.c5
  have q6 := BS.out.c6
  go_wp2_with fail
  refine (specRight_b HS.out RS.out).mono ?_
  rintro e w3 ⟨rfl, hb⟩
  clear q0 q1 q2 q3 q4 q5 q6
  have HOq := Lib.hid (HO.out.next ejb_steady hb)
  have QAq := Lib.hid (QA.out.next hb)
  have MAq := Lib.hid (MA.out.next hb)
  have BSq := Lib.hid (BS.out.next hb)
  clear hb HO QA MA BS
  have HO := HOq
  clear HOq
  have QA := QAq
  clear QAq
  have MA := MAq
  clear MAq
  have BS := BSq
  clear BSq
  go_wp2_with fail
  refine (mayQ_b MA.out RM.out).mono ?_
  rintro e w4 ⟨rfl, hb⟩
  have HOq := Lib.hid (HO.out.next ejb_steady hb)
  have QAq := Lib.hid (QA.out.next hb)
  have MAq := Lib.hid (MA.out.next hb)
  have BSq := Lib.hid (BS.out.next hb)
  clear hb HO QA MA BS
  have HO := HOq
  clear HOq
  have QA := QAq
  clear QAq
  have MA := MAq
  clear MAq
  have BS := BSq
  clear BSq
  go_wp2_with fail
  refine (whenRight_b now _ _ RT.out).mono ?_
  rintro e w5 ⟨rfl, rfl⟩
  obtain ⟨b, off, A3, m3, c3, hA, _, ⟨e0, e1, e2, e3, e4, e5, e6, e7, e8, e9, e10, e11, e12⟩, _⟩ := QA.out.reads.one hn1
  subst hA
  rw [HZ.out] at e0 e10
  clear e1 e2 e3 e4 e5 e6 e7 e8 e9 e11 e12
  have HC := Lib.hid (thereQ_b (c := c) QA.out.reads (by omega) HR.out.riseL MA.out RA.out)
  go_wp2_with fail
  refine HC.out.mono ?_
  rintro e w6 ⟨rfl, hb⟩
  clear HC
  have HOq := Lib.hid (HO.out.next ejb_steady hb)
  have QAq := Lib.hid (QA.out.next hb)
  have MAq := Lib.hid (MA.out.next hb)
  have BSq := Lib.hid (BS.out.next hb)
  clear hb HO QA MA BS
  have HO := HOq
  clear HOq
  have QA := QAq
  clear QAq
  have MA := MAq
  clear MAq
  have BS := BSq
  clear BSq
  go_wp2
  refine bodyPost_ret (v := .tuple #[.slice A1 n c1, .int .i64 0, .int .i64 5]) (by simp [results, Try.results18, go_sem]) rfl ⟨⟨_, _, _, rfl, ⟨HO.out.reads ejb_steady (by omega) rfl, HC0.out, HC1.out, by unfold maxLen; omega⟩⟩, HBA.out.trans (HO.out.below.mono HBA.out.size)⟩

set_option maxRecDepth 100000 in
set_option maxHeartbeats 8000000 in
theorem addQP_8 {A A2 : Option Addr} {n c m c2 : Nat} {l : Qu} {s : Sp} {ns : List Int} {now : Int} {w : World} (hl : QAsk w A n c l) (hf : FewQ l) (hs : SAsk s) (hm : MAsk w A2 m c2 ns) (hmm : m ≤ 100) (hi : I64 now) (hr : RightQ l) (h2 : rightS s = true) (h3 : mayB ns = true) (h4 : timeB now = true) (hn0 : 0 < n) (h5 : ¬ now < (jAt l (n - 1)).came) (h6 : decide (AllHas l ns) = true) (h7 : n ≠ 64) (h8 : 1073741824 < (jAt l (n - 1)).id + 1) : Calls Try.prog 18 #[.slice A n c, .agg #[.int .i64 s.nodes, .int .i64 s.cores, .int .i64 s.gpus, .string s.tag, .bool s.whole, .int .i64 s.long, .int .i64 s.prio], .slice A2 m c2, .int .i64 now] w (QNPost l 0 9 w) := by
  have hba : Below w.heap.size w (w.alloc (.cells #[.int .i64 s.nodes, .int .i64 s.cores, .int .i64 s.gpus, .string s.tag, .bool s.whole, .int .i64 s.long, .int .i64 s.prio] 27)) := (Below.refl _ _).alloc (Nat.le_refl _) _
  have HBA := Lib.hid hba
  have QA := Lib.hid (hl.next hba)
  have MA := Lib.hid (hm.next hba)
  have BS : Hid (BoxS (w.alloc (.cells #[.int .i64 s.nodes, .int .i64 s.cores, .int .i64 s.gpus, .string s.tag, .bool s.whole, .int .i64 s.long, .int .i64 s.prio] 27)) w.heap.size s) := Lib.hid (box_new w s)
  have HLN := Lib.hid hl.reads.len
  have HS := Lib.hid hs
  have hn100 : n ≤ 100 := by rw [← hl.reads.len]; exact hf.1
  have HSM := Lib.hid (sameQ_any (c := c) QA.out.reads QA.out.nil hf)
  have _u := hmm
  have _v := hi
  clear _u _v
  have RR : Hid (rightQ l = true) := Lib.hid (decide_eq_true hr)
  have HR := Lib.hid hr
  have RS := Lib.hid h2
  have RM := Lib.hid h3
  have RT := Lib.hid h4
  have d0 : decide (0 < n) = true := decide_eq_true hn0
  have hnz : (0 : Int) < (n : Int) := by omega
  have hn1 : n - 1 < n := by omega
  obtain ⟨z, hz⟩ : ∃ z, jAt l (n - 1) = z := ⟨_, rfl⟩
  have hzj := hr.job (i := n - 1) (by rw [HLN.out]; exact hn1)
  rw [hz] at hzj
  have hz1 : 1 ≤ z.id := hzj.1.1.1
  have hz2 : z.id ≤ 1073741824 := hzj.1.1.2
  have HZ := Lib.hid hz
  have hz30 : n ≤ 64 := by rw [← HLN.out]; exact hr.1
  clear hzj hz
  rw [HZ.out] at h5
  have d5 : decide (now < z.came) = false := decide_eq_false h5
  have d7 : ((n : Int) == 64) = false := beq_eq_false_iff_ne.2 (by omega)
  rw [HZ.out] at h8
  have RA := Lib.hid h6
  clear hr h2 h3 h4 h5 h6
  clear hl hm hs hba
  go_enter Try.func18, Try.ntmps18
  go_wp2_with fail
  refine HSM.out.mono ?_
  rintro e w1 ⟨v, rfl, hon⟩
  obtain ⟨A1, c1, rfl, hc0, hc1⟩ := hon.form
  rw [HLN.out] at hon hc1 ⊢
  have HO := Lib.hid hon
  have HC0 := Lib.hid hc0
  have HC1 := Lib.hid hc1
  have hb := hon.below
  have QAq := Lib.hid (QA.out.next hb)
  have MAq := Lib.hid (MA.out.next hb)
  have BSq := Lib.hid (BS.out.next hb)
  clear hon hc0 hc1 hb QA MA BS HSM
  have QA := QAq
  have MA := MAq
  have BS := BSq
  clear QAq MAq BSq
  go_wp2_with fail
  refine (rightQP_b QA.out RR.out).mono ?_
  rintro e w2 ⟨rfl, hb⟩
  have HOq := Lib.hid (HO.out.next ejb_steady hb)
  have QAq := Lib.hid (QA.out.next hb)
  have MAq := Lib.hid (MA.out.next hb)
  have BSq := Lib.hid (BS.out.next hb)
  clear hb HO QA MA BS
  have HO := HOq
  clear HOq
  have QA := QAq
  clear QAq
  have MA := MAq
  clear MAq
  have BS := BSq
  clear BSq
  have q0 := BS.out.c0
  have q1 := BS.out.c1
  have q2 := BS.out.c2
  have q3 := BS.out.c3
  have q4 := BS.out.c4
  have q5 := BS.out.c5
  have q6 := BS.out.c6
  go_wp2_with fail
  refine (specRight_b HS.out RS.out).mono ?_
  rintro e w3 ⟨rfl, hb⟩
  clear q0 q1 q2 q3 q4 q5 q6
  have HOq := Lib.hid (HO.out.next ejb_steady hb)
  have QAq := Lib.hid (QA.out.next hb)
  have MAq := Lib.hid (MA.out.next hb)
  have BSq := Lib.hid (BS.out.next hb)
  clear hb HO QA MA BS
  have HO := HOq
  clear HOq
  have QA := QAq
  clear QAq
  have MA := MAq
  clear MAq
  have BS := BSq
  clear BSq
  go_wp2_with fail
  refine (mayQ_b MA.out RM.out).mono ?_
  rintro e w4 ⟨rfl, hb⟩
  have HOq := Lib.hid (HO.out.next ejb_steady hb)
  have QAq := Lib.hid (QA.out.next hb)
  have MAq := Lib.hid (MA.out.next hb)
  have BSq := Lib.hid (BS.out.next hb)
  clear hb HO QA MA BS
  have HO := HOq
  clear HOq
  have QA := QAq
  clear QAq
  have MA := MAq
  clear MAq
  have BS := BSq
  clear BSq
  go_wp2_with fail
  refine (whenRight_b now _ _ RT.out).mono ?_
  rintro e w5 ⟨rfl, rfl⟩
  obtain ⟨b, off, A3, m3, c3, hA, _, ⟨e0, e1, e2, e3, e4, e5, e6, e7, e8, e9, e10, e11, e12⟩, _⟩ := QA.out.reads.one hn1
  subst hA
  rw [HZ.out] at e0 e10
  clear e1 e2 e3 e4 e5 e6 e7 e8 e9 e11 e12
  have HC := Lib.hid (thereQ_b (c := c) QA.out.reads (by omega) HR.out.riseL MA.out RA.out)
  go_wp2_with fail
  refine HC.out.mono ?_
  rintro e w6 ⟨rfl, hb⟩
  clear HC
  have HOq := Lib.hid (HO.out.next ejb_steady hb)
  have QAq := Lib.hid (QA.out.next hb)
  have MAq := Lib.hid (MA.out.next hb)
  have BSq := Lib.hid (BS.out.next hb)
  clear hb HO QA MA BS
  have HO := HOq
  clear HOq
  have QA := QAq
  clear QAq
  have MA := MAq
  clear MAq
  have BS := BSq
  clear BSq
  go_wp2
  refine bodyPost_ret (v := .tuple #[.slice A1 n c1, .int .i64 0, .int .i64 9]) (by simp [results, Try.results18, go_sem]) rfl ⟨⟨_, _, _, rfl, ⟨HO.out.reads ejb_steady (by omega) rfl, HC0.out, HC1.out, by unfold maxLen; omega⟩⟩, HBA.out.trans (HO.out.below.mono HBA.out.size)⟩

set_option maxRecDepth 100000 in
set_option maxHeartbeats 8000000 in
theorem addQP_9e {A A2 : Option Addr} {n c m c2 : Nat} {l : Qu} {s : Sp} {ns : List Int} {now : Int} {w : World} (hl : QAsk w A n c l) (hf : FewQ l) (hs : SAsk s) (hm : MAsk w A2 m c2 ns) (hmm : m ≤ 100) (hi : I64 now) (hr : RightQ l) (h2 : rightS s = true) (h3 : mayB ns = true) (h4 : timeB now = true) (hn0 : n = 0) (h6 : decide (AllHas l ns) = true) : Calls Try.prog 18 #[.slice A n c, .agg #[.int .i64 s.nodes, .int .i64 s.cores, .int .i64 s.gpus, .string s.tag, .bool s.whole, .int .i64 s.long, .int .i64 s.prio], .slice A2 m c2, .int .i64 now] w (QNPost (l ++ [⟨1, s, ns, 0, now, 0, 0⟩]) 1 0 w) := by
  have hba : Below w.heap.size w (w.alloc (.cells #[.int .i64 s.nodes, .int .i64 s.cores, .int .i64 s.gpus, .string s.tag, .bool s.whole, .int .i64 s.long, .int .i64 s.prio] 27)) := (Below.refl _ _).alloc (Nat.le_refl _) _
  have HBA := Lib.hid hba
  have QA := Lib.hid (hl.next hba)
  have MA := Lib.hid (hm.next hba)
  have BS : Hid (BoxS (w.alloc (.cells #[.int .i64 s.nodes, .int .i64 s.cores, .int .i64 s.gpus, .string s.tag, .bool s.whole, .int .i64 s.long, .int .i64 s.prio] 27)) w.heap.size s) := Lib.hid (box_new w s)
  have HLN := Lib.hid hl.reads.len
  have HS := Lib.hid hs
  have hn100 : n ≤ 100 := by rw [← hl.reads.len]; exact hf.1
  have HSM := Lib.hid (sameQ_any (c := c) QA.out.reads QA.out.nil hf)
  have _u := hmm
  have _v := hi
  clear _u _v
  have RR : Hid (rightQ l = true) := Lib.hid (decide_eq_true hr)
  have HR := Lib.hid hr
  have RS := Lib.hid h2
  have RM := Lib.hid h3
  have RT := Lib.hid h4
  obtain ⟨i0, hi0, hz0, hz1, hz2⟩ := info_parts job_info
  have HM1 : Hid (m ≤ 1000) := Lib.hid (by omega)
  have HINO := Lib.hid hi
  have HI0 : Hid (I64 0) := Lib.hid (by unfold I64; omega)
  have HIK : Hid (I64 (1)) := Lib.hid (by unfold I64; omega)
  have HLM : Hid (l.length + 1 ≤ maxLen) := Lib.hid (by rw [HLN.out]; unfold maxLen; omega)
  have HLB : Hid ((l.length + 1) * 128 ≤ 140737488355328) := Lib.hid (by rw [HLN.out]; omega)
  have RA := Lib.hid h6
  clear hr h2 h3 h4 h6
  have d0 : decide (0 < n) = false := decide_eq_false (by omega)
  have d7 : ((n : Int) == 64) = false := beq_eq_false_iff_ne.2 (by omega)
  have hz30 : n ≤ 64 := by omega
  clear hn0
  clear hl hm hs hba
  go_enter Try.func18, Try.ntmps18
  go_wp2_with fail
  refine HSM.out.mono ?_
  rintro e w1 ⟨v, rfl, hon⟩
  obtain ⟨A1, c1, rfl, hc0, hc1⟩ := hon.form
  rw [HLN.out] at hon hc1 ⊢
  have HO := Lib.hid hon
  have HC0 := Lib.hid hc0
  have HC1 := Lib.hid hc1
  have hb := hon.below
  have QAq := Lib.hid (QA.out.next hb)
  have MAq := Lib.hid (MA.out.next hb)
  have BSq := Lib.hid (BS.out.next hb)
  clear hon hc0 hc1 hb QA MA BS HSM
  have QA := QAq
  have MA := MAq
  have BS := BSq
  clear QAq MAq BSq
  go_wp2_with fail
  refine (rightQP_b QA.out RR.out).mono ?_
  rintro e w2 ⟨rfl, hb⟩
  have HOq := Lib.hid (HO.out.next ejb_steady hb)
  have QAq := Lib.hid (QA.out.next hb)
  have MAq := Lib.hid (MA.out.next hb)
  have BSq := Lib.hid (BS.out.next hb)
  clear hb HO QA MA BS
  have HO := HOq
  clear HOq
  have QA := QAq
  clear QAq
  have MA := MAq
  clear MAq
  have BS := BSq
  clear BSq
  have q0 := BS.out.c0
  have q1 := BS.out.c1
  have q2 := BS.out.c2
  have q3 := BS.out.c3
  have q4 := BS.out.c4
  have q5 := BS.out.c5
  have q6 := BS.out.c6
  go_wp2_with fail
  refine (specRight_b HS.out RS.out).mono ?_
  rintro e w3 ⟨rfl, hb⟩
  clear q0 q1 q2 q3 q4 q5 q6
  have HOq := Lib.hid (HO.out.next ejb_steady hb)
  have QAq := Lib.hid (QA.out.next hb)
  have MAq := Lib.hid (MA.out.next hb)
  have BSq := Lib.hid (BS.out.next hb)
  clear hb HO QA MA BS
  have HO := HOq
  clear HOq
  have QA := QAq
  clear QAq
  have MA := MAq
  clear MAq
  have BS := BSq
  clear BSq
  go_wp2_with fail
  refine (mayQ_b MA.out RM.out).mono ?_
  rintro e w4 ⟨rfl, hb⟩
  have HOq := Lib.hid (HO.out.next ejb_steady hb)
  have QAq := Lib.hid (QA.out.next hb)
  have MAq := Lib.hid (MA.out.next hb)
  have BSq := Lib.hid (BS.out.next hb)
  clear hb HO QA MA BS
  have HO := HOq
  clear HOq
  have QA := QAq
  clear QAq
  have MA := MAq
  clear MAq
  have BS := BSq
  clear BSq
  go_wp2_with fail
  refine (whenRight_b now _ _ RT.out).mono ?_
  rintro e w5 ⟨rfl, rfl⟩
  have HC := Lib.hid (thereQ_b (c := c) QA.out.reads (by omega) HR.out.riseL MA.out RA.out)
  go_wp2_with fail
  refine HC.out.mono ?_
  rintro e w6 ⟨rfl, hb⟩
  clear HC
  have HOq := Lib.hid (HO.out.next ejb_steady hb)
  have QAq := Lib.hid (QA.out.next hb)
  have MAq := Lib.hid (MA.out.next hb)
  have BSq := Lib.hid (BS.out.next hb)
  clear hb HO QA MA BS
  have HO := HOq
  clear HOq
  have QA := QAq
  clear QAq
  have MA := MAq
  clear MAq
  have BS := BSq
  clear BSq
  have BS0 : Hid (BoxS (w.alloc (.cells #[.int .i64 s.nodes, .int .i64 s.cores, .int .i64 s.gpus, .string s.tag, .bool s.whole, .int .i64 s.long, .int .i64 s.prio] 27)) w.heap.size s) := Lib.hid (box_new w s)
  have HKEEP : Hid (∀ w', Below (w.alloc (.cells #[.int .i64 s.nodes, .int .i64 s.cores, .int .i64 s.gpus, .string s.tag, .bool s.whole, .int .i64 s.long, .int .i64 s.prio] 27)).heap.size (w.alloc (.cells #[.int .i64 s.nodes, .int .i64 s.cores, .int .i64 s.gpus, .string s.tag, .bool s.whole, .int .i64 s.long, .int .i64 s.prio] 27)) w' → w'.cell? ⟨w.heap.size, 0, none⟩ = some (.int .i64 s.nodes) ∧ w'.cell? ⟨w.heap.size, 1, none⟩ = some (.int .i64 s.cores) ∧ w'.cell? ⟨w.heap.size, 2, none⟩ = some (.int .i64 s.gpus) ∧ w'.cell? ⟨w.heap.size, 3, none⟩ = some (.string s.tag) ∧ w'.cell? ⟨w.heap.size, 4, none⟩ = some (.bool s.whole) ∧ w'.cell? ⟨w.heap.size, 5, none⟩ = some (.int .i64 s.long) ∧ w'.cell? ⟨w.heap.size, 6, none⟩ = some (.int .i64 s.prio)) := Lib.hid (fun w' hz => ⟨keep_cell BS0.out.lt BS0.out.c0 hz, keep_cell BS0.out.lt BS0.out.c1 hz, keep_cell BS0.out.lt BS0.out.c2 hz, keep_cell BS0.out.lt BS0.out.c3 hz, keep_cell BS0.out.lt BS0.out.c4 hz, keep_cell BS0.out.lt BS0.out.c5 hz, keep_cell BS0.out.lt BS0.out.c6 hz⟩)
  have H1C : Hid (∀ A5 c5, ∀ u ∈ (#[.int .i64 1, .int .i64 s.nodes, .int .i64 s.cores, .int .i64 s.gpus, .string s.tag, .bool s.whole, .int .i64 s.long, .int .i64 s.prio, .slice A5 m c5, .int .i64 0, .int .i64 now, .int .i64 0, .int .i64 0] : Array Value).toList, u.oneCell' = true) := Lib.hid (fun A5 c5 u hu => by
    simp only [List.mem_cons, List.not_mem_nil, or_false] at hu
    rcases hu with rfl | rfl | rfl | rfl | rfl | rfl | rfl | rfl | rfl | rfl | rfl | rfl | rfl <;> rfl)
  have HOD := Lib.hid (HO.out.drew ejb_steady 1)
  have MAD := Lib.hid (MA.out.next (bel_drew1 w6))
  have HJN := Lib.hid (fun (w7 : World) (A5 : Option Addr) (c5 : Nat) (h : NO w6.drew.heap.size w7 A5 m c5 ns) => (⟨RI.of_own h.own, own_nil h.own, own_cap h.own, MAD.out.few, HS.out, HIK.out, HI0.out, HINO.out, HI0.out, HI0.out, MAD.out.int⟩ : JAsk w7 A5 m c5 ⟨1, s, ns, 0, now, 0, 0⟩))
  have HEN := Lib.hid (fun (w7 : World) (A5 : Option Addr) (c5 : Nat) (h : NO w6.drew.heap.size w7 A5 m c5 ns) => (HJN.out w7 A5 c5 h).elV (v := .slice A1 n c1) (h.fresh (Nat.le_refl _)) (fun b hb => (HOD.out.own b hb).2))
  have HBW := Lib.hid HOD.out.below
  clear HO MA BS QA BS0
  go_wp2_with fail
  go_region_held3 (fun w' => w'.cell? ⟨w.heap.size, 0, none⟩ = some (.int .i64 s.nodes) ∧ w'.cell? ⟨w.heap.size, 1, none⟩ = some (.int .i64 s.cores) ∧ w'.cell? ⟨w.heap.size, 2, none⟩ = some (.int .i64 s.gpus) ∧ w'.cell? ⟨w.heap.size, 3, none⟩ = some (.string s.tag) ∧ w'.cell? ⟨w.heap.size, 4, none⟩ = some (.bool s.whole) ∧ w'.cell? ⟨w.heap.size, 5, none⟩ = some (.int .i64 s.long) ∧ w'.cell? ⟨w.heap.size, 6, none⟩ = some (.int .i64 s.prio))
    (first | exact HKEEP.out _ HBW.out | exact HKEEP.out _ HO6.out.below | exact HKEEP.out _ HO7.out.below | exact HKEEP.out _ (HO7.out.below.alloc HO7.out.below.size _) | fail)
    (first | (go_at_call 41; (with_reducible refine (clone_own MAD.out.reads MAD.out.nil HM1.out).mono ?_); rintro e w7 ⟨⟨A5, c5, rfl, hno⟩, hb⟩; have HO7 := Lib.hid (HOD.out.next ejb_steady hb); have HE7 := Lib.hid (HEN.out w7 A5 c5 hno); clear hno hb) | (refine step_append_ON (by rfl) (.tmp 70) (.tmp 77) 22 (by rfl) ejb_steady HO7.out i0 (.agg #[.int .i64 0, .int .i64 0, .int .i64 0, .int .i64 0, .string ⟨#[]⟩, .bool false, .int .i64 0, .int .i64 0, .slice none 0 0, .int .i64 0, .int .i64 0, .int .i64 0, .int .i64 0]) 128 Try.underlying22 hi0 hz0 hz1 hz2 (by rfl) (by decide) (by rfl) ⟨1, s, ns, 0, now, 0, 0⟩ #[.int .i64 1, .int .i64 s.nodes, .int .i64 s.cores, .int .i64 s.gpus, .string s.tag, .bool s.whole, .int .i64 s.long, .int .i64 s.prio, .slice A5 m c5, .int .i64 0, .int .i64 now, .int .i64 0, .int .i64 0] (by rfl) (by rfl) (H1C.out A5 c5) HE7.out HLM.out HLB.out ?_; intro v' w8 hon8; have HO6 := Lib.hid hon8; clear hon8) | fail)
  all_goals go_wp2
  all_goals (
    obtain ⟨A9, c9, rfl, hn9, hc9⟩ := HO6.out.form
    refine bodyPost_ret (v := .tuple #[.slice A9 (l ++ [(⟨1, s, ns, 0, now, 0, 0⟩ : Jb)]).length c9, .int .i64 1, .int .i64 0]) (by simp [results, Try.results18, go_sem]) rfl ⟨⟨_, _, _, rfl, ⟨HO6.out.reads ejb_steady (by omega) rfl, hn9, hc9, by rw [List.length_append, HLN.out]; unfold maxLen; simp; omega⟩⟩, HBA.out.trans (HO6.out.below.mono HBA.out.size)⟩)

set_option maxRecDepth 100000 in
set_option maxHeartbeats 8000000 in
theorem addQP_9m {A A2 : Option Addr} {n c m c2 : Nat} {l : Qu} {s : Sp} {ns : List Int} {now : Int} {w : World} (hl : QAsk w A n c l) (hf : FewQ l) (hs : SAsk s) (hm : MAsk w A2 m c2 ns) (hmm : m ≤ 100) (hi : I64 now) (hr : RightQ l) (h2 : rightS s = true) (h3 : mayB ns = true) (h4 : timeB now = true) (hn0 : 0 < n) (h5 : ¬ now < (jAt l (n - 1)).came) (h6 : decide (AllHas l ns) = true) (h7 : n ≠ 64) (h8 : ¬ 1073741824 < (jAt l (n - 1)).id + 1) (y : Int) (hy : (jAt l (n - 1)).id + 1 = y) : Calls Try.prog 18 #[.slice A n c, .agg #[.int .i64 s.nodes, .int .i64 s.cores, .int .i64 s.gpus, .string s.tag, .bool s.whole, .int .i64 s.long, .int .i64 s.prio], .slice A2 m c2, .int .i64 now] w (QNPost (l ++ [⟨y, s, ns, 0, now, 0, 0⟩]) y 0 w) := by
  have hba : Below w.heap.size w (w.alloc (.cells #[.int .i64 s.nodes, .int .i64 s.cores, .int .i64 s.gpus, .string s.tag, .bool s.whole, .int .i64 s.long, .int .i64 s.prio] 27)) := (Below.refl _ _).alloc (Nat.le_refl _) _
  have HBA := Lib.hid hba
  have QA := Lib.hid (hl.next hba)
  have MA := Lib.hid (hm.next hba)
  have BS : Hid (BoxS (w.alloc (.cells #[.int .i64 s.nodes, .int .i64 s.cores, .int .i64 s.gpus, .string s.tag, .bool s.whole, .int .i64 s.long, .int .i64 s.prio] 27)) w.heap.size s) := Lib.hid (box_new w s)
  have HLN := Lib.hid hl.reads.len
  have HS := Lib.hid hs
  have hn100 : n ≤ 100 := by rw [← hl.reads.len]; exact hf.1
  have HSM := Lib.hid (sameQ_any (c := c) QA.out.reads QA.out.nil hf)
  have _u := hmm
  have _v := hi
  clear _u _v
  have RR : Hid (rightQ l = true) := Lib.hid (decide_eq_true hr)
  have HR := Lib.hid hr
  have RS := Lib.hid h2
  have RM := Lib.hid h3
  have RT := Lib.hid h4
  have d0 : decide (0 < n) = true := decide_eq_true hn0
  have hnz : (0 : Int) < (n : Int) := by omega
  have hn1 : n - 1 < n := by omega
  obtain ⟨z, hz⟩ : ∃ z, jAt l (n - 1) = z := ⟨_, rfl⟩
  have hzj := hr.job (i := n - 1) (by rw [HLN.out]; exact hn1)
  rw [hz] at hzj
  have hz1 : 1 ≤ z.id := hzj.1.1.1
  have hz2 : z.id ≤ 1073741824 := hzj.1.1.2
  have HZ := Lib.hid hz
  have hz30 : n ≤ 64 := by rw [← HLN.out]; exact hr.1
  clear hzj hz
  rw [HZ.out] at h5
  have d5 : decide (now < z.came) = false := decide_eq_false h5
  have d7 : ((n : Int) == 64) = false := beq_eq_false_iff_ne.2 (by omega)
  rw [HZ.out] at h8 hy
  obtain ⟨i0, hi0, hz0, hz1, hz2⟩ := info_parts job_info
  have HM1 : Hid (m ≤ 1000) := Lib.hid (by omega)
  have HINO := Lib.hid hi
  have HI0 : Hid (I64 0) := Lib.hid (by unfold I64; omega)
  have HIK : Hid (I64 (y)) := Lib.hid (by unfold I64; omega)
  have HLM : Hid (l.length + 1 ≤ maxLen) := Lib.hid (by rw [HLN.out]; unfold maxLen; omega)
  have HLB : Hid ((l.length + 1) * 128 ≤ 140737488355328) := Lib.hid (by rw [HLN.out]; omega)
  have RA := Lib.hid h6
  have d8 : decide (1073741824 < y) = false := decide_eq_false (by omega)
  have HYZ := Lib.hid hy
  clear hr h2 h3 h4 h5 h6 h8
  clear hl hm hs hba
  go_enter Try.func18, Try.ntmps18
  go_wp2_with fail
  refine HSM.out.mono ?_
  rintro e w1 ⟨v, rfl, hon⟩
  obtain ⟨A1, c1, rfl, hc0, hc1⟩ := hon.form
  rw [HLN.out] at hon hc1 ⊢
  have HO := Lib.hid hon
  have HC0 := Lib.hid hc0
  have HC1 := Lib.hid hc1
  have hb := hon.below
  have QAq := Lib.hid (QA.out.next hb)
  have MAq := Lib.hid (MA.out.next hb)
  have BSq := Lib.hid (BS.out.next hb)
  clear hon hc0 hc1 hb QA MA BS HSM
  have QA := QAq
  have MA := MAq
  have BS := BSq
  clear QAq MAq BSq
  go_wp2_with fail
  refine (rightQP_b QA.out RR.out).mono ?_
  rintro e w2 ⟨rfl, hb⟩
  have HOq := Lib.hid (HO.out.next ejb_steady hb)
  have QAq := Lib.hid (QA.out.next hb)
  have MAq := Lib.hid (MA.out.next hb)
  have BSq := Lib.hid (BS.out.next hb)
  clear hb HO QA MA BS
  have HO := HOq
  clear HOq
  have QA := QAq
  clear QAq
  have MA := MAq
  clear MAq
  have BS := BSq
  clear BSq
  have q0 := BS.out.c0
  have q1 := BS.out.c1
  have q2 := BS.out.c2
  have q3 := BS.out.c3
  have q4 := BS.out.c4
  have q5 := BS.out.c5
  have q6 := BS.out.c6
  go_wp2_with fail
  refine (specRight_b HS.out RS.out).mono ?_
  rintro e w3 ⟨rfl, hb⟩
  clear q0 q1 q2 q3 q4 q5 q6
  have HOq := Lib.hid (HO.out.next ejb_steady hb)
  have QAq := Lib.hid (QA.out.next hb)
  have MAq := Lib.hid (MA.out.next hb)
  have BSq := Lib.hid (BS.out.next hb)
  clear hb HO QA MA BS
  have HO := HOq
  clear HOq
  have QA := QAq
  clear QAq
  have MA := MAq
  clear MAq
  have BS := BSq
  clear BSq
  go_wp2_with fail
  refine (mayQ_b MA.out RM.out).mono ?_
  rintro e w4 ⟨rfl, hb⟩
  have HOq := Lib.hid (HO.out.next ejb_steady hb)
  have QAq := Lib.hid (QA.out.next hb)
  have MAq := Lib.hid (MA.out.next hb)
  have BSq := Lib.hid (BS.out.next hb)
  clear hb HO QA MA BS
  have HO := HOq
  clear HOq
  have QA := QAq
  clear QAq
  have MA := MAq
  clear MAq
  have BS := BSq
  clear BSq
  go_wp2_with fail
  refine (whenRight_b now _ _ RT.out).mono ?_
  rintro e w5 ⟨rfl, rfl⟩
  obtain ⟨b, off, A3, m3, c3, hA, _, ⟨e0, e1, e2, e3, e4, e5, e6, e7, e8, e9, e10, e11, e12⟩, _⟩ := QA.out.reads.one hn1
  subst hA
  rw [HZ.out] at e0 e10
  clear e1 e2 e3 e4 e5 e6 e7 e8 e9 e11 e12
  have hyz : y = z.id + 1 := HYZ.out.symm
  clear hyz
  have HC := Lib.hid (thereQ_b (c := c) QA.out.reads (by omega) HR.out.riseL MA.out RA.out)
  go_wp2_with fail
  refine HC.out.mono ?_
  rintro e w6 ⟨rfl, hb⟩
  clear HC
  have HOq := Lib.hid (HO.out.next ejb_steady hb)
  have QAq := Lib.hid (QA.out.next hb)
  have MAq := Lib.hid (MA.out.next hb)
  have BSq := Lib.hid (BS.out.next hb)
  clear hb HO QA MA BS
  have HO := HOq
  clear HOq
  have QA := QAq
  clear QAq
  have MA := MAq
  clear MAq
  have BS := BSq
  clear BSq
  have BS0 : Hid (BoxS (w.alloc (.cells #[.int .i64 s.nodes, .int .i64 s.cores, .int .i64 s.gpus, .string s.tag, .bool s.whole, .int .i64 s.long, .int .i64 s.prio] 27)) w.heap.size s) := Lib.hid (box_new w s)
  have HKEEP : Hid (∀ w', Below (w.alloc (.cells #[.int .i64 s.nodes, .int .i64 s.cores, .int .i64 s.gpus, .string s.tag, .bool s.whole, .int .i64 s.long, .int .i64 s.prio] 27)).heap.size (w.alloc (.cells #[.int .i64 s.nodes, .int .i64 s.cores, .int .i64 s.gpus, .string s.tag, .bool s.whole, .int .i64 s.long, .int .i64 s.prio] 27)) w' → w'.cell? ⟨w.heap.size, 0, none⟩ = some (.int .i64 s.nodes) ∧ w'.cell? ⟨w.heap.size, 1, none⟩ = some (.int .i64 s.cores) ∧ w'.cell? ⟨w.heap.size, 2, none⟩ = some (.int .i64 s.gpus) ∧ w'.cell? ⟨w.heap.size, 3, none⟩ = some (.string s.tag) ∧ w'.cell? ⟨w.heap.size, 4, none⟩ = some (.bool s.whole) ∧ w'.cell? ⟨w.heap.size, 5, none⟩ = some (.int .i64 s.long) ∧ w'.cell? ⟨w.heap.size, 6, none⟩ = some (.int .i64 s.prio)) := Lib.hid (fun w' hz => ⟨keep_cell BS0.out.lt BS0.out.c0 hz, keep_cell BS0.out.lt BS0.out.c1 hz, keep_cell BS0.out.lt BS0.out.c2 hz, keep_cell BS0.out.lt BS0.out.c3 hz, keep_cell BS0.out.lt BS0.out.c4 hz, keep_cell BS0.out.lt BS0.out.c5 hz, keep_cell BS0.out.lt BS0.out.c6 hz⟩)
  have H1C : Hid (∀ A5 c5, ∀ u ∈ (#[.int .i64 y, .int .i64 s.nodes, .int .i64 s.cores, .int .i64 s.gpus, .string s.tag, .bool s.whole, .int .i64 s.long, .int .i64 s.prio, .slice A5 m c5, .int .i64 0, .int .i64 now, .int .i64 0, .int .i64 0] : Array Value).toList, u.oneCell' = true) := Lib.hid (fun A5 c5 u hu => by
    simp only [List.mem_cons, List.not_mem_nil, or_false] at hu
    rcases hu with rfl | rfl | rfl | rfl | rfl | rfl | rfl | rfl | rfl | rfl | rfl | rfl | rfl <;> rfl)
  have HOD := Lib.hid (HO.out.drew ejb_steady 1)
  have MAD := Lib.hid (MA.out.next (bel_drew1 w6))
  have HJN := Lib.hid (fun (w7 : World) (A5 : Option Addr) (c5 : Nat) (h : NO w6.drew.heap.size w7 A5 m c5 ns) => (⟨RI.of_own h.own, own_nil h.own, own_cap h.own, MAD.out.few, HS.out, HIK.out, HI0.out, HINO.out, HI0.out, HI0.out, MAD.out.int⟩ : JAsk w7 A5 m c5 ⟨y, s, ns, 0, now, 0, 0⟩))
  have HEN := Lib.hid (fun (w7 : World) (A5 : Option Addr) (c5 : Nat) (h : NO w6.drew.heap.size w7 A5 m c5 ns) => (HJN.out w7 A5 c5 h).elV (v := .slice A1 n c1) (h.fresh (Nat.le_refl _)) (fun b hb => (HOD.out.own b hb).2))
  have HBW := Lib.hid HOD.out.below
  clear HO MA BS QA BS0
  go_wp2_with fail
  go_region_held3 (fun w' => w'.cell? ⟨w.heap.size, 0, none⟩ = some (.int .i64 s.nodes) ∧ w'.cell? ⟨w.heap.size, 1, none⟩ = some (.int .i64 s.cores) ∧ w'.cell? ⟨w.heap.size, 2, none⟩ = some (.int .i64 s.gpus) ∧ w'.cell? ⟨w.heap.size, 3, none⟩ = some (.string s.tag) ∧ w'.cell? ⟨w.heap.size, 4, none⟩ = some (.bool s.whole) ∧ w'.cell? ⟨w.heap.size, 5, none⟩ = some (.int .i64 s.long) ∧ w'.cell? ⟨w.heap.size, 6, none⟩ = some (.int .i64 s.prio))
    (first | exact HKEEP.out _ HBW.out | exact HKEEP.out _ HO6.out.below | exact HKEEP.out _ HO7.out.below | exact HKEEP.out _ (HO7.out.below.alloc HO7.out.below.size _) | fail)
    (first | (go_at_call 41; (with_reducible refine (clone_own MAD.out.reads MAD.out.nil HM1.out).mono ?_); rintro e w7 ⟨⟨A5, c5, rfl, hno⟩, hb⟩; have HO7 := Lib.hid (HOD.out.next ejb_steady hb); have HE7 := Lib.hid (HEN.out w7 A5 c5 hno); clear hno hb) | (refine step_append_ON (by rfl) (.tmp 70) (.tmp 77) 22 (by rfl) ejb_steady HO7.out i0 (.agg #[.int .i64 0, .int .i64 0, .int .i64 0, .int .i64 0, .string ⟨#[]⟩, .bool false, .int .i64 0, .int .i64 0, .slice none 0 0, .int .i64 0, .int .i64 0, .int .i64 0, .int .i64 0]) 128 Try.underlying22 hi0 hz0 hz1 hz2 (by rfl) (by decide) (by rfl) ⟨y, s, ns, 0, now, 0, 0⟩ #[.int .i64 y, .int .i64 s.nodes, .int .i64 s.cores, .int .i64 s.gpus, .string s.tag, .bool s.whole, .int .i64 s.long, .int .i64 s.prio, .slice A5 m c5, .int .i64 0, .int .i64 now, .int .i64 0, .int .i64 0] (by rfl) (by rfl) (H1C.out A5 c5) HE7.out HLM.out HLB.out ?_; intro v' w8 hon8; have HO6 := Lib.hid hon8; clear hon8) | fail)
  all_goals go_wp2
  all_goals (
    obtain ⟨A9, c9, rfl, hn9, hc9⟩ := HO6.out.form
    refine bodyPost_ret (v := .tuple #[.slice A9 (l ++ [(⟨y, s, ns, 0, now, 0, 0⟩ : Jb)]).length c9, .int .i64 y, .int .i64 0]) (by simp [results, Try.results18, go_sem]) rfl ⟨⟨_, _, _, rfl, ⟨HO6.out.reads ejb_steady (by omega) rfl, hn9, hc9, by rw [List.length_append, HLN.out]; unfold maxLen; simp; omega⟩⟩, HBA.out.trans (HO6.out.below.mono HBA.out.size)⟩)


end Go.Proofs.Ytimgdlddfnglaaa
