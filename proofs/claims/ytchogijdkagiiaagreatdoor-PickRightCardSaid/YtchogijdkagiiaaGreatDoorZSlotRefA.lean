/- The reference's At of layer 13. Written by gen/gen_slot.py. -/
import Derived.Deep.QuietTactic
import Derived.LoopTactic
import Derived.Test.YtchogijdkagiiaaGreatDoorMg04
import Derived.Test.YtchogijdkagiiaaGreatDoorMg05
import Derived.Test.YtchogijdkagiiaaGreatDoorMg06
import Derived.Test.YtchogijdkagiiaaGreatDoorZMatchRefFind
import Derived.Test.YtchogijdkagiiaaGreatDoorZSpecAhead
namespace Go.Proofs.YtchogijdkagiiaaGreatDoor
open Go.RowKit

theorem append_SI {P : Program} {ops : Array Oper} {rest : List Oper} {o : Oper} {a : Act} {Q : Exit → Act → World → Prop} {w wr : World} {v : Value} {xs : List Int} (hgd : o.guard = none) (s x : Operand) (ty t : TypeId)
    (ho : o.op = .call { callee := .builtin .append, args := #[s, x], argTypes := #[ty, ty] })
    (h : ON EI 1 t w v xs wr) (i : TypeInfo) (ht : P.underlying ty = some (.slice t)) (hi : P.info? t = some i) (hz : i.zero = some (.int .i64 0)) (hsize : i.size = 1) (hby : i.bytes = 8)
    (hs : a.eval s = v) (x0 : Int) (hx : a.eval x = .slice (some ⟨wr.heap.size, 0, none⟩) 1 1) (hl : xs.length ≤ 1000)
    (hk : ∀ v' w', ON EI 1 t w v' (xs ++ [x0]) w' → wpList P ops Q rest (a.put o.dst v') w') : wpList P ops Q (o :: rest) a (wr.alloc (.cells #[.int .i64 x0] t)) :=
  wpList_append_ON hgd s x ty ho ei_steady h i (.int .i64 0) 8 ht hi hz hsize hby rfl (by decide) hs x0 #[.int .i64 x0] hx rfl (by intro u hu; simp at hu; subst hu; rfl) rfl (by unfold maxLen; omega) (by omega) hk

set_option maxRecDepth 100000 in
set_option maxHeartbeats 8000000 in
theorem refAtS_1 {A A2 A3 : Option Addr} {n c n2 c2 n3 c3 : Nat} {g : Gr} {use : List Int} {l : Tb} {s : Sp} {t u : Int} {w : World} (hg : GAsk w A n c g) (hu : LAsk w A2 n2 c2 use) (hl : TAsk w A3 n3 c3 l) (hs : SAsk s) (ht : I64 t) (hv : I64 u) (h1 : t < 0) : Calls Tryz.prog 50 #[.slice A n c, .slice A2 n2 c2, .slice A3 n3 c3, .agg #[.int .i64 s.nodes, .int .i64 s.cores, .int .i64 s.gpus, .string s.tag, .bool s.whole, .int .i64 s.long, .int .i64 s.prio], .int .i64 t, .int .i64 u] w (FPostN [] false w) := by
  have hba : Below w.heap.size w (w.alloc (.cells #[.int .i64 s.nodes, .int .i64 s.cores, .int .i64 s.gpus, .string s.tag, .bool s.whole, .int .i64 s.long, .int .i64 s.prio] 27)) := (Below.refl _ _).alloc (Nat.le_refl _) _
  have HB := Lib.hid hba
  have GA := Lib.hid (hg.next hba)
  have UA := Lib.hid (hu.next hba)
  have TA := Lib.hid (hl.next hba)
  have BS : Hid (BoxS (w.alloc (.cells #[.int .i64 s.nodes, .int .i64 s.cores, .int .i64 s.gpus, .string s.tag, .bool s.whole, .int .i64 s.long, .int .i64 s.prio] 27)) w.heap.size s) := Lib.hid (box_new w s)
  have HS := Lib.hid hs
  have HT := Lib.hid ht
  have hn2 := hu.few
  have hn3 := hl.few
  have HG3 := Lib.hid (show n ≤ maxLen from Nat.le_trans hg.few (by decide))
  have HU3 := Lib.hid (show n2 ≤ maxLen from Nat.le_trans hu.few (by decide))
  have HT3 := Lib.hid hl.few
  have HUL := Lib.hid hu.reads.1
  have HTL := Lib.hid hl.reads.len
  unfold maxLen at hn3
  have _u := hv
  clear _u
  clear hg hu hl hs ht hv hba
  have t1 : decide (t < 0) = true := decide_eq_true h1
  clear h1
  go_enter Tryz.func50, Tryz.ntmps50
  go_wp2
  go_ret2
  exact ⟨⟨none, 0, rfl, RIN.nil, fun _ => rfl, Nat.le_refl _⟩, HB.out⟩

set_option maxRecDepth 100000 in
set_option maxHeartbeats 8000000 in
theorem refAtS_2 {A A2 A3 : Option Addr} {n c n2 c2 n3 c3 : Nat} {g : Gr} {use : List Int} {l : Tb} {s : Sp} {t u : Int} {w : World} (hg : GAsk w A n c g) (hu : LAsk w A2 n2 c2 use) (hl : TAsk w A3 n3 c3 l) (hs : SAsk s) (ht : I64 t) (hv : I64 u) (_h0 : 0 ≤ t) (h1 : 4611686018427387904 ≤ t) : Calls Tryz.prog 50 #[.slice A n c, .slice A2 n2 c2, .slice A3 n3 c3, .agg #[.int .i64 s.nodes, .int .i64 s.cores, .int .i64 s.gpus, .string s.tag, .bool s.whole, .int .i64 s.long, .int .i64 s.prio], .int .i64 t, .int .i64 u] w (FPostN [] false w) := by
  have hba : Below w.heap.size w (w.alloc (.cells #[.int .i64 s.nodes, .int .i64 s.cores, .int .i64 s.gpus, .string s.tag, .bool s.whole, .int .i64 s.long, .int .i64 s.prio] 27)) := (Below.refl _ _).alloc (Nat.le_refl _) _
  have HB := Lib.hid hba
  have GA := Lib.hid (hg.next hba)
  have UA := Lib.hid (hu.next hba)
  have TA := Lib.hid (hl.next hba)
  have BS : Hid (BoxS (w.alloc (.cells #[.int .i64 s.nodes, .int .i64 s.cores, .int .i64 s.gpus, .string s.tag, .bool s.whole, .int .i64 s.long, .int .i64 s.prio] 27)) w.heap.size s) := Lib.hid (box_new w s)
  have HS := Lib.hid hs
  have HT := Lib.hid ht
  have hn2 := hu.few
  have hn3 := hl.few
  have HG3 := Lib.hid (show n ≤ maxLen from Nat.le_trans hg.few (by decide))
  have HU3 := Lib.hid (show n2 ≤ maxLen from Nat.le_trans hu.few (by decide))
  have HT3 := Lib.hid hl.few
  have HUL := Lib.hid hu.reads.1
  have HTL := Lib.hid hl.reads.len
  unfold maxLen at hn3
  have _u := hv
  clear _u
  clear hg hu hl hs ht hv hba
  have t1 : decide (t < 0) = false := decide_eq_false (by omega)
  have t2 : decide (4611686018427387904 ≤ t) = true := decide_eq_true h1
  clear h1
  go_enter Tryz.func50, Tryz.ntmps50
  go_wp2
  go_ret2
  exact ⟨⟨none, 0, rfl, RIN.nil, fun _ => rfl, Nat.le_refl _⟩, HB.out⟩

set_option maxRecDepth 100000 in
set_option maxHeartbeats 8000000 in
theorem refAtS_3 {A A2 A3 : Option Addr} {n c n2 c2 n3 c3 : Nat} {g : Gr} {use : List Int} {l : Tb} {s : Sp} {t u : Int} {w : World} (hg : GAsk w A n c g) (hu : LAsk w A2 n2 c2 use) (hl : TAsk w A3 n3 c3 l) (hs : SAsk s) (ht : I64 t) (hv : I64 u) (h0 : 0 ≤ t) (h1 : t < 4611686018427387904) (h2 : rightT l = false) : Calls Tryz.prog 50 #[.slice A n c, .slice A2 n2 c2, .slice A3 n3 c3, .agg #[.int .i64 s.nodes, .int .i64 s.cores, .int .i64 s.gpus, .string s.tag, .bool s.whole, .int .i64 s.long, .int .i64 s.prio], .int .i64 t, .int .i64 u] w (FPostN [] false w) := by
  have hba : Below w.heap.size w (w.alloc (.cells #[.int .i64 s.nodes, .int .i64 s.cores, .int .i64 s.gpus, .string s.tag, .bool s.whole, .int .i64 s.long, .int .i64 s.prio] 27)) := (Below.refl _ _).alloc (Nat.le_refl _) _
  have HB := Lib.hid hba
  have GA := Lib.hid (hg.next hba)
  have UA := Lib.hid (hu.next hba)
  have TA := Lib.hid (hl.next hba)
  have BS : Hid (BoxS (w.alloc (.cells #[.int .i64 s.nodes, .int .i64 s.cores, .int .i64 s.gpus, .string s.tag, .bool s.whole, .int .i64 s.long, .int .i64 s.prio] 27)) w.heap.size s) := Lib.hid (box_new w s)
  have HS := Lib.hid hs
  have HT := Lib.hid ht
  have hn2 := hu.few
  have hn3 := hl.few
  have HG3 := Lib.hid (show n ≤ maxLen from Nat.le_trans hg.few (by decide))
  have HU3 := Lib.hid (show n2 ≤ maxLen from Nat.le_trans hu.few (by decide))
  have HT3 := Lib.hid hl.few
  have HUL := Lib.hid hu.reads.1
  have HTL := Lib.hid hl.reads.len
  unfold maxLen at hn3
  have _u := hv
  clear _u
  clear hg hu hl hs ht hv hba
  have t1 : decide (t < 0) = false := decide_eq_false (by omega)
  have t2 : decide (4611686018427387904 ≤ t) = false := decide_eq_false (by omega)
  have TR := Lib.hid h2
  clear h0 h1 h2
  go_enter Tryz.func50, Tryz.ntmps50
  go_wp2_with fail
  refine (refRightT_b TA.out.reads HT3.out TR.out).mono ?_
  rintro e w1 ⟨rfl, hb⟩
  have HBq := Lib.hid (HB.out.trans (hb.mono HB.out.size))
  have GAq := Lib.hid (GA.out.next hb)
  have UAq := Lib.hid (UA.out.next hb)
  have TAq := Lib.hid (TA.out.next hb)
  have BSq := Lib.hid (BS.out.next hb)
  clear hb HB GA UA TA BS
  have HB := HBq
  clear HBq
  have GA := GAq
  clear GAq
  have UA := UAq
  clear UAq
  have TA := TAq
  clear TAq
  have BS := BSq
  clear BSq
  go_wp2
  go_ret2
  exact ⟨⟨none, 0, rfl, RIN.nil, fun _ => rfl, Nat.le_refl _⟩, HB.out⟩

set_option maxRecDepth 100000 in
set_option maxHeartbeats 8000000 in
theorem refAtS_4 {A A2 A3 : Option Addr} {n c n2 c2 n3 c3 : Nat} {g : Gr} {use : List Int} {l : Tb} {s : Sp} {t u : Int} {w : World} (hg : GAsk w A n c g) (hu : LAsk w A2 n2 c2 use) (hl : TAsk w A3 n3 c3 l) (hs : SAsk s) (ht : I64 t) (hv : I64 u) (h0 : 0 ≤ t) (h1 : t < 4611686018427387904) (h2 : rightT l = true) (h3 : rightB use = false) : Calls Tryz.prog 50 #[.slice A n c, .slice A2 n2 c2, .slice A3 n3 c3, .agg #[.int .i64 s.nodes, .int .i64 s.cores, .int .i64 s.gpus, .string s.tag, .bool s.whole, .int .i64 s.long, .int .i64 s.prio], .int .i64 t, .int .i64 u] w (FPostN [] false w) := by
  have hba : Below w.heap.size w (w.alloc (.cells #[.int .i64 s.nodes, .int .i64 s.cores, .int .i64 s.gpus, .string s.tag, .bool s.whole, .int .i64 s.long, .int .i64 s.prio] 27)) := (Below.refl _ _).alloc (Nat.le_refl _) _
  have HB := Lib.hid hba
  have GA := Lib.hid (hg.next hba)
  have UA := Lib.hid (hu.next hba)
  have TA := Lib.hid (hl.next hba)
  have BS : Hid (BoxS (w.alloc (.cells #[.int .i64 s.nodes, .int .i64 s.cores, .int .i64 s.gpus, .string s.tag, .bool s.whole, .int .i64 s.long, .int .i64 s.prio] 27)) w.heap.size s) := Lib.hid (box_new w s)
  have HS := Lib.hid hs
  have HT := Lib.hid ht
  have hn2 := hu.few
  have hn3 := hl.few
  have HG3 := Lib.hid (show n ≤ maxLen from Nat.le_trans hg.few (by decide))
  have HU3 := Lib.hid (show n2 ≤ maxLen from Nat.le_trans hu.few (by decide))
  have HT3 := Lib.hid hl.few
  have HUL := Lib.hid hu.reads.1
  have HTL := Lib.hid hl.reads.len
  unfold maxLen at hn3
  have _u := hv
  clear _u
  clear hg hu hl hs ht hv hba
  have t1 : decide (t < 0) = false := decide_eq_false (by omega)
  have t2 : decide (4611686018427387904 ≤ t) = false := decide_eq_false (by omega)
  have TR := Lib.hid h2
  have UR := Lib.hid h3
  clear h0 h1 h2 h3
  go_enter Tryz.func50, Tryz.ntmps50
  go_wp2_with fail
  refine (refRightT_b TA.out.reads HT3.out TR.out).mono ?_
  rintro e w1 ⟨rfl, hb⟩
  have HBq := Lib.hid (HB.out.trans (hb.mono HB.out.size))
  have GAq := Lib.hid (GA.out.next hb)
  have UAq := Lib.hid (UA.out.next hb)
  have TAq := Lib.hid (TA.out.next hb)
  have BSq := Lib.hid (BS.out.next hb)
  clear hb HB GA UA TA BS
  have HB := HBq
  clear HBq
  have GA := GAq
  clear GAq
  have UA := UAq
  clear UAq
  have TA := TAq
  clear TAq
  have BS := BSq
  clear BSq
  go_wp2_with fail
  refine (ri_isSet UA.out.reads HU3.out UR.out).mono ?_
  rintro e w2 ⟨rfl, hb⟩
  have HBq := Lib.hid (HB.out.trans (hb.mono HB.out.size))
  have GAq := Lib.hid (GA.out.next hb)
  have UAq := Lib.hid (UA.out.next hb)
  have TAq := Lib.hid (TA.out.next hb)
  have BSq := Lib.hid (BS.out.next hb)
  clear hb HB GA UA TA BS
  have HB := HBq
  clear HBq
  have GA := GAq
  clear GAq
  have UA := UAq
  clear UAq
  have TA := TAq
  clear TAq
  have BS := BSq
  clear BSq
  go_wp2
  go_ret2
  exact ⟨⟨none, 0, rfl, RIN.nil, fun _ => rfl, Nat.le_refl _⟩, HB.out⟩

set_option maxRecDepth 100000 in
set_option maxHeartbeats 8000000 in
theorem refAtS_5 {A A2 A3 : Option Addr} {n c n2 c2 n3 c3 : Nat} {g : Gr} {use : List Int} {l : Tb} {s : Sp} {t u : Int} {w : World} (hg : GAsk w A n c g) (hu : LAsk w A2 n2 c2 use) (hl : TAsk w A3 n3 c3 l) (hs : SAsk s) (ht : I64 t) (hv : I64 u) (h0 : 0 ≤ t) (h1 : t < 4611686018427387904) (h2 : rightT l = true) (h3 : rightB use = true) (h4 : u < endsS s t) : Calls Tryz.prog 50 #[.slice A n c, .slice A2 n2 c2, .slice A3 n3 c3, .agg #[.int .i64 s.nodes, .int .i64 s.cores, .int .i64 s.gpus, .string s.tag, .bool s.whole, .int .i64 s.long, .int .i64 s.prio], .int .i64 t, .int .i64 u] w (FPostN [] false w) := by
  have hba : Below w.heap.size w (w.alloc (.cells #[.int .i64 s.nodes, .int .i64 s.cores, .int .i64 s.gpus, .string s.tag, .bool s.whole, .int .i64 s.long, .int .i64 s.prio] 27)) := (Below.refl _ _).alloc (Nat.le_refl _) _
  have HB := Lib.hid hba
  have GA := Lib.hid (hg.next hba)
  have UA := Lib.hid (hu.next hba)
  have TA := Lib.hid (hl.next hba)
  have BS : Hid (BoxS (w.alloc (.cells #[.int .i64 s.nodes, .int .i64 s.cores, .int .i64 s.gpus, .string s.tag, .bool s.whole, .int .i64 s.long, .int .i64 s.prio] 27)) w.heap.size s) := Lib.hid (box_new w s)
  have HS := Lib.hid hs
  have HT := Lib.hid ht
  have hn2 := hu.few
  have hn3 := hl.few
  have HG3 := Lib.hid (show n ≤ maxLen from Nat.le_trans hg.few (by decide))
  have HU3 := Lib.hid (show n2 ≤ maxLen from Nat.le_trans hu.few (by decide))
  have HT3 := Lib.hid hl.few
  have HUL := Lib.hid hu.reads.1
  have HTL := Lib.hid hl.reads.len
  unfold maxLen at hn3
  have _u := hv
  clear _u
  clear hg hu hl hs ht hv hba
  obtain ⟨e, he⟩ : ∃ e, endsS s t = e := ⟨_, rfl⟩
  rw [he] at h4
  have HE := Lib.hid he
  have t4 : decide (u < e) = true := decide_eq_true h4
  have t1 : decide (t < 0) = false := decide_eq_false (by omega)
  have t2 : decide (4611686018427387904 ≤ t) = false := decide_eq_false (by omega)
  have TR := Lib.hid h2
  have UR := Lib.hid h3
  clear h0 h1 h2 h3 h4 he
  go_enter Tryz.func50, Tryz.ntmps50
  go_wp2_with fail
  refine (refRightT_b TA.out.reads HT3.out TR.out).mono ?_
  rintro e w1 ⟨rfl, hb⟩
  have HBq := Lib.hid (HB.out.trans (hb.mono HB.out.size))
  have GAq := Lib.hid (GA.out.next hb)
  have UAq := Lib.hid (UA.out.next hb)
  have TAq := Lib.hid (TA.out.next hb)
  have BSq := Lib.hid (BS.out.next hb)
  clear hb HB GA UA TA BS
  have HB := HBq
  clear HBq
  have GA := GAq
  clear GAq
  have UA := UAq
  clear UAq
  have TA := TAq
  clear TAq
  have BS := BSq
  clear BSq
  go_wp2_with fail
  refine (ri_isSet UA.out.reads HU3.out UR.out).mono ?_
  rintro e w2 ⟨rfl, hb⟩
  have HBq := Lib.hid (HB.out.trans (hb.mono HB.out.size))
  have GAq := Lib.hid (GA.out.next hb)
  have UAq := Lib.hid (UA.out.next hb)
  have TAq := Lib.hid (TA.out.next hb)
  have BSq := Lib.hid (BS.out.next hb)
  clear hb HB GA UA TA BS
  have HB := HBq
  clear HBq
  have GA := GAq
  clear GAq
  have UA := UAq
  clear UAq
  have TA := TAq
  clear TAq
  have BS := BSq
  clear BSq
  have q0 := BS.out.c0
  have q1 := BS.out.c1
  have q2 := BS.out.c2
  have q3 := BS.out.c3
  have q4 := BS.out.c4
  have q5 := BS.out.c5
  have q6 := BS.out.c6
  go_wp2_with fail
  refine (refEnds_b HS.out HT.out HE.out).mono ?_
  rintro e w3 ⟨rfl, hb⟩
  clear q0 q1 q2 q3 q4 q5 q6
  have HBq := Lib.hid (HB.out.trans (hb.mono HB.out.size))
  have GAq := Lib.hid (GA.out.next hb)
  have UAq := Lib.hid (UA.out.next hb)
  have TAq := Lib.hid (TA.out.next hb)
  have BSq := Lib.hid (BS.out.next hb)
  clear hb HB GA UA TA BS
  have HB := HBq
  clear HBq
  have GA := GAq
  clear GAq
  have UA := UAq
  clear UAq
  have TA := TAq
  clear TAq
  have BS := BSq
  clear BSq
  go_wp2
  go_ret2
  exact ⟨⟨none, 0, rfl, RIN.nil, fun _ => rfl, Nat.le_refl _⟩, HB.out⟩

set_option maxRecDepth 100000 in
set_option maxHeartbeats 8000000 in
theorem refAtS_6 {A A2 A3 : Option Addr} {n c n2 c2 n3 c3 : Nat} {g : Gr} {use : List Int} {l : Tb} {s : Sp} {t u : Int} {w : World} (hg : GAsk w A n c g) (hu : LAsk w A2 n2 c2 use) (hl : TAsk w A3 n3 c3 l) (hs : SAsk s) (ht : I64 t) (hv : I64 u) (h0 : 0 ≤ t) (h1 : t < 4611686018427387904) (h2 : rightT l = true) (h3 : rightB use = true) (h4 : endsS s t ≤ u) : Calls Tryz.prog 50 #[.slice A n c, .slice A2 n2 c2, .slice A3 n3 c3, .agg #[.int .i64 s.nodes, .int .i64 s.cores, .int .i64 s.gpus, .string s.tag, .bool s.whole, .int .i64 s.long, .int .i64 s.prio], .int .i64 t, .int .i64 u] w (FPostN (gotS g use l s u t) (decide (FitsS g use l s u t)) w) := by
  obtain ⟨i0, hi0, hz0, hz1, hz2⟩ := info_parts int_info
  obtain ⟨e1, e2⟩ := at_is (g := g) h0 h1 h2 h3 h4
  rw [← e1, ← e2]
  clear e1 e2
  have hrt := rightT_is.1 h2
  have hba : Below w.heap.size w (w.alloc (.cells #[.int .i64 s.nodes, .int .i64 s.cores, .int .i64 s.gpus, .string s.tag, .bool s.whole, .int .i64 s.long, .int .i64 s.prio] 27)) := (Below.refl _ _).alloc (Nat.le_refl _) _
  have HB := Lib.hid hba
  have GA := Lib.hid (hg.next hba)
  have UA := Lib.hid (hu.next hba)
  have TA := Lib.hid (hl.next hba)
  have BS : Hid (BoxS (w.alloc (.cells #[.int .i64 s.nodes, .int .i64 s.cores, .int .i64 s.gpus, .string s.tag, .bool s.whole, .int .i64 s.long, .int .i64 s.prio] 27)) w.heap.size s) := Lib.hid (box_new w s)
  have HS := Lib.hid hs
  have HT := Lib.hid ht
  have hn2 := hu.few
  have hn3 := hl.few
  have HG3 := Lib.hid (show n ≤ maxLen from Nat.le_trans hg.few (by decide))
  have HU3 := Lib.hid (show n2 ≤ maxLen from Nat.le_trans hu.few (by decide))
  have HT3 := Lib.hid hl.few
  have HUL := Lib.hid hu.reads.1
  have HTL := Lib.hid hl.reads.len
  unfold maxLen at hn3
  have _u := hv
  clear _u
  clear hg hu hl hs ht hv hba
  obtain ⟨e, he⟩ : ∃ e, endsS s t = e := ⟨_, rfl⟩
  rw [he] at h4 ⊢
  have HE := Lib.hid he
  have t4 : decide (u < e) = false := decide_eq_false (by omega)
  have t1 : decide (t < 0) = false := decide_eq_false (by omega)
  have t2 : decide (4611686018427387904 ≤ t) = false := decide_eq_false (by omega)
  have TR := Lib.hid h2
  have UR := Lib.hid h3
  have HRT := Lib.hid hrt
  obtain ⟨ps, hps⟩ : ∃ p : Int → Bool, (fun x => !rawB l t e x) = p := ⟨_, rfl⟩
  have HPS : Hid (rawFree use l t e = use.filter ps) := Lib.hid (by rw [← hps]; rfl)
  have HPX : Hid (∀ x, ps x = !rawB l t e x) := Lib.hid (fun x => by rw [← hps])
  rw [HPS.out]
  clear h0 h1 h2 h3 h4 he hrt hps
  go_enter Tryz.func50, Tryz.ntmps50
  go_wp2_with fail
  refine (refRightT_b TA.out.reads HT3.out TR.out).mono ?_
  rintro e w1 ⟨rfl, hb⟩
  have HBq := Lib.hid (HB.out.trans (hb.mono HB.out.size))
  have GAq := Lib.hid (GA.out.next hb)
  have UAq := Lib.hid (UA.out.next hb)
  have TAq := Lib.hid (TA.out.next hb)
  have BSq := Lib.hid (BS.out.next hb)
  clear hb HB GA UA TA BS
  have HB := HBq
  clear HBq
  have GA := GAq
  clear GAq
  have UA := UAq
  clear UAq
  have TA := TAq
  clear TAq
  have BS := BSq
  clear BSq
  go_wp2_with fail
  refine (ri_isSet UA.out.reads HU3.out UR.out).mono ?_
  rintro e w2 ⟨rfl, hb⟩
  have HBq := Lib.hid (HB.out.trans (hb.mono HB.out.size))
  have GAq := Lib.hid (GA.out.next hb)
  have UAq := Lib.hid (UA.out.next hb)
  have TAq := Lib.hid (TA.out.next hb)
  have BSq := Lib.hid (BS.out.next hb)
  clear hb HB GA UA TA BS
  have HB := HBq
  clear HBq
  have GA := GAq
  clear GAq
  have UA := UAq
  clear UAq
  have TA := TAq
  clear TAq
  have BS := BSq
  clear BSq
  have q0 := BS.out.c0
  have q1 := BS.out.c1
  have q2 := BS.out.c2
  have q3 := BS.out.c3
  have q4 := BS.out.c4
  have q5 := BS.out.c5
  have q6 := BS.out.c6
  go_wp2_with fail
  refine (refEnds_b HS.out HT.out HE.out).mono ?_
  rintro e w3 ⟨rfl, hb⟩
  clear q0 q1 q2 q3 q4 q5 q6
  have HBq := Lib.hid (HB.out.trans (hb.mono HB.out.size))
  have GAq := Lib.hid (GA.out.next hb)
  have UAq := Lib.hid (UA.out.next hb)
  have TAq := Lib.hid (TA.out.next hb)
  have BSq := Lib.hid (BS.out.next hb)
  clear hb HB GA UA TA BS
  have HB := HBq
  clear HBq
  have GA := GAq
  clear GAq
  have UA := UAq
  clear UAq
  have TA := TAq
  clear TAq
  have BS := BSq
  clear BSq
  have BS3 := BS
  have HB3 := HB
  have G3 := GA
  have U3 := UA
  have T3 := TA
  clear BS HB GA UA TA
  go_wp2
  go_loopw [15, 16] (fun fv iv wr => ∃ (k : Nat) (v0 : Value), v0 = fv ∧ k ≤ n2 ∧ iv = .int .i64 k ∧ ON EI 1 3 w3 v0 ((use.take k).filter ps) wr) (fun _ iv _ => n2 - (intOf iv).toNat)
  case atStart => exact ⟨0, _, rfl, Nat.zero_le _, rfl, by simpa using ON.nil _⟩
  case round =>
    obtain ⟨k, v0, rfl, hk, rfl, hrel⟩ := hrel
    have HK := Lib.hid hrel
    clear hrel
    have UA4 := Lib.hid (U3.out.next HK.out.below)
    have TA4 := Lib.hid (T3.out.next HK.out.below)
    by_cases hlt : k < n2
    · have hkl : k < use.length := by rw [HUL.out]; exact hlt
      obtain ⟨x, hx⟩ : ∃ x, use.getD k 0 = x := ⟨_, rfl⟩
      have HTK : Hid (use.take (k + 1) = use.take k ++ [x]) := Lib.hid (by rw [List.take_succ_eq_append_getElem hkl, ← hx, List.getD, List.getElem?_eq_getElem hkl]; rfl)
      have HX := Lib.hid hx
      clear hkl hx
      go_wp2
      go_loopw [17, 18] (fun bv jv wi => ∃ (j : Nat), j ≤ n3 ∧ jv = .int .i64 j ∧ bv = .bool (rawB (l.take j) t e x) ∧ Below wr.heap.size wr wi) (fun _ jv _ => n3 - (intOf jv).toNat)
      case atStart => exact ⟨0, Nat.zero_le _, rfl, rfl, Below.refl _ _⟩
      case round =>
        obtain ⟨j, hj, rfl, rfl, hbi⟩ := hrel
        have HBI := Lib.hid hbi
        have UA5 := Lib.hid (UA4.out.next hbi)
        have TA5 := Lib.hid (TA4.out.next hbi)
        clear hbi
        obtain ⟨bb, hbb⟩ : ∃ v, rawB (l.take j) t e x = v := ⟨_, rfl⟩
        rw [hbb]
        have HH := Lib.hid hbb
        clear hbb
        by_cases hjlt : j < n3
        · have HJL : Hid (j < l.length) := Lib.hid (by rw [HTL.out]; exact hjlt)
          obtain ⟨b, off, A4, m4, c4, rfl, hb1, c0, c1, c2, c3, hh⟩ := TA5.out.reads.one hjlt
          obtain ⟨bu, offu, rfl, hbu, cx⟩ := UA5.out.reads.one hlt
          rw [HX.out] at cx
          obtain ⟨h, hhd⟩ : ∃ h, l.getD j hd0 = h := ⟨_, rfl⟩
          rw [hhd] at c0 c2 c3 hh
          have HHD := Lib.hid hhd
          have HTH := Lib.hid hh.reads
          have HM4 := Lib.hid hh.few
          clear hhd hh
          by_cases p1 : h.frm < e
          · have d1 : decide (h.frm < e) = true := decide_eq_true p1
            by_cases p2 : t < h.to
            · have d2 : decide (t < h.to) = true := decide_eq_true p2
              cases hv : hasB h.things x with
              | true =>
                have HV := Lib.hid hv
                have HN : Hid (rawB (l.take (j + 1)) t e x = true) := Lib.hid (by rw [raw_step HJL.out, HHD.out]; unfold meetB; rw [d1, d2, hv]; simp)
                clear p1 p2 hv
                go_wp2
                have zc0 : ∀ p : Later wr, p.now.cell? ⟨b, off + j * 4 + 2, none⟩ = some (.int .i64 h.frm) := fun _ => Later.cell hb1 c2
                have zc1 : ∀ p : Later wr, p.now.cell? ⟨b, off + j * 4 + 3, none⟩ = some (.int .i64 h.to) := fun _ => Later.cell hb1 c3
                have zc2 : ∀ p : Later wr, p.now.cell? ⟨b, off + j * 4 + 1, none⟩ = some (.slice A4 m4 c4) := fun _ => Later.cell hb1 c1
                have zc3 : ∀ p : Later wr, p.now.cell? ⟨bu, offu + k, none⟩ = some (.int .i64 x) := fun _ => Later.cell hbu cx
                refine wp_region_later (by kernel_rfl) (by kernel_rfl) ?_
                repeat (first | go_big_quiet_skip | (go_big_quiet_want; go_big_quiet_op; first | go_big_quiet_on | (apply Exists.intro; refine ⟨fun pz => ?_, ?_⟩; (first | (go_at_call 77; exact Calls.later_of (ri_has (HTH.out.next pz.bel) HM4.out HV.out)) | fail); go_big_quiet_on)))
                refine wpQuiet_nil ?_
                intro _ hw'
                obtain ⟨pz, rfl⟩ := hw'
                obtain ⟨w7, hb⟩ := pz
                try dsimp only
                clear zc0 zc1 zc2 zc3
                replace HBI := Lib.hid (HBI.out.trans (hb.mono HBI.out.size))
                replace UA5 := Lib.hid (UA5.out.next hb)
                replace TA5 := Lib.hid (TA5.out.next hb)
                clear hb
                clear c0 c1 c2 c3 cx hb1 hbu
                go_wp2
                go_roundw
                case rel => exact ⟨j + 1, by omega, by go_num, by rw [HN.out], HBI.out⟩
                case measure => simp [intOf] <;> omega
              | false =>
                have HV := Lib.hid hv
                have HN : Hid (rawB (l.take (j + 1)) t e x = bb) := Lib.hid (by rw [raw_step HJL.out, HHD.out, HH.out]; unfold meetB; rw [d1, d2, hv]; simp)
                clear p1 p2 hv
                go_wp2
                have zc0 : ∀ p : Later wr, p.now.cell? ⟨b, off + j * 4 + 2, none⟩ = some (.int .i64 h.frm) := fun _ => Later.cell hb1 c2
                have zc1 : ∀ p : Later wr, p.now.cell? ⟨b, off + j * 4 + 3, none⟩ = some (.int .i64 h.to) := fun _ => Later.cell hb1 c3
                have zc2 : ∀ p : Later wr, p.now.cell? ⟨b, off + j * 4 + 1, none⟩ = some (.slice A4 m4 c4) := fun _ => Later.cell hb1 c1
                have zc3 : ∀ p : Later wr, p.now.cell? ⟨bu, offu + k, none⟩ = some (.int .i64 x) := fun _ => Later.cell hbu cx
                refine wp_region_later (by kernel_rfl) (by kernel_rfl) ?_
                repeat (first | go_big_quiet_skip | (go_big_quiet_want; go_big_quiet_op; first | go_big_quiet_on | (apply Exists.intro; refine ⟨fun pz => ?_, ?_⟩; (first | (go_at_call 77; exact Calls.later_of (ri_has (HTH.out.next pz.bel) HM4.out HV.out)) | fail); go_big_quiet_on)))
                refine wpQuiet_nil ?_
                intro _ hw'
                obtain ⟨pz, rfl⟩ := hw'
                obtain ⟨w7, hb⟩ := pz
                try dsimp only
                clear zc0 zc1 zc2 zc3
                replace HBI := Lib.hid (HBI.out.trans (hb.mono HBI.out.size))
                replace UA5 := Lib.hid (UA5.out.next hb)
                replace TA5 := Lib.hid (TA5.out.next hb)
                clear hb
                clear c0 c1 c2 c3 cx hb1 hbu
                go_wp2
                go_roundw
                case rel => exact ⟨j + 1, by omega, by go_num, by rw [HN.out], HBI.out⟩
                case measure => simp [intOf] <;> omega
            · have d2 : decide (t < h.to) = false := decide_eq_false p2
              have HN : Hid (rawB (l.take (j + 1)) t e x = bb) := Lib.hid (by rw [raw_step HJL.out, HHD.out, HH.out]; unfold meetB; rw [d1, d2]; simp)
              clear p1 p2
              go_wp2
              have zc0 : ∀ p : Later wr, p.now.cell? ⟨b, off + j * 4 + 2, none⟩ = some (.int .i64 h.frm) := fun _ => Later.cell hb1 c2
              have zc1 : ∀ p : Later wr, p.now.cell? ⟨b, off + j * 4 + 3, none⟩ = some (.int .i64 h.to) := fun _ => Later.cell hb1 c3
              refine wp_region_later (by kernel_rfl) (by kernel_rfl) ?_
              repeat (first | go_big_quiet_skip | (go_big_quiet_want; go_big_quiet_op; first | go_big_quiet_on | (apply Exists.intro; refine ⟨fun pz => ?_, ?_⟩; (fail); go_big_quiet_on)))
              refine wpQuiet_nil ?_
              intro _ hw'
              obtain ⟨pz, rfl⟩ := hw'
              obtain ⟨w7, hb⟩ := pz
              try dsimp only
              clear zc0 zc1
              replace HBI := Lib.hid (HBI.out.trans (hb.mono HBI.out.size))
              replace UA5 := Lib.hid (UA5.out.next hb)
              replace TA5 := Lib.hid (TA5.out.next hb)
              clear hb
              clear c0 c1 c2 c3 cx hb1 hbu
              go_wp2
              go_roundw
              case rel => exact ⟨j + 1, by omega, by go_num, by rw [HN.out], HBI.out⟩
              case measure => simp [intOf] <;> omega
          · have d1 : decide (h.frm < e) = false := decide_eq_false p1
            have HN : Hid (rawB (l.take (j + 1)) t e x = bb) := Lib.hid (by rw [raw_step HJL.out, HHD.out, HH.out]; unfold meetB; rw [d1]; simp)
            clear p1
            go_wp2
            have zc0 : ∀ p : Later wr, p.now.cell? ⟨b, off + j * 4 + 2, none⟩ = some (.int .i64 h.frm) := fun _ => Later.cell hb1 c2
            refine wp_region_later (by kernel_rfl) (by kernel_rfl) ?_
            repeat (first | go_big_quiet_skip | (go_big_quiet_want; go_big_quiet_op; first | go_big_quiet_on | (apply Exists.intro; refine ⟨fun pz => ?_, ?_⟩; (fail); go_big_quiet_on)))
            refine wpQuiet_nil ?_
            intro _ hw'
            obtain ⟨pz, rfl⟩ := hw'
            obtain ⟨w7, hb⟩ := pz
            try dsimp only
            clear zc0
            replace HBI := Lib.hid (HBI.out.trans (hb.mono HBI.out.size))
            replace UA5 := Lib.hid (UA5.out.next hb)
            replace TA5 := Lib.hid (TA5.out.next hb)
            clear hb
            clear c0 c1 c2 c3 cx hb1 hbu
            go_wp2
            go_roundw
            case rel => exact ⟨j + 1, by omega, by go_num, by rw [HN.out], HBI.out⟩
            case measure => simp [intOf] <;> omega
        · have HBX : Hid (rawB l t e x = bb) := Lib.hid (by
            have h5 := HH.out
            rw [List.take_of_length_le (by rw [HTL.out]; omega)] at h5
            exact h5)
          obtain ⟨bu, offu, rfl, hbu, cx⟩ := UA5.out.reads.one hlt
          rw [HX.out] at cx
          have HK5 := Lib.hid (HK.out.next ei_steady HBI.out)
          have HLA : Hid (((use.take k).filter ps).length ≤ 1000) := Lib.hid (by
            have := List.length_filter_le ps (use.take k)
            rw [List.length_take] at this; omega)
          cases bb with
          | true =>
            have HTN : Hid ((use.take (k + 1)).filter ps = (use.take k).filter ps) := Lib.hid (by rw [HTK.out, List.filter_append, List.filter_cons, if_neg (by rw [HPX.out, HBX.out]; decide)]; simp)
            rw [← HTN.out] at HK5
            clear hbu cx HK
            go_wp2
            go_roundw
            case rel => exact ⟨k + 1, _, rfl, by omega, by go_num, HK5.out⟩
            case measure => simp [intOf] <;> omega
          | false =>
            have HTN : Hid ((use.take (k + 1)).filter ps = (use.take k).filter ps ++ [x]) := Lib.hid (by rw [HTK.out, List.filter_append, List.filter_cons, if_pos (by rw [HPX.out, HBX.out]; rfl)]; rfl)
            clear HK
            go_wp2_with (at_builtin; refine append_SI rfl (.tmp 83) (.tmp 88) 23 3 rfl HK5.out i0 Tryz.underlying23 hi0 hz0 hz1 hz2 rfl x rfl HLA.out ?_; intro v' w6 hON6; refine Hid.out ?_)
            refine Lib.hid ?_
            rw [← HTN.out] at hON6
            have HO6 := Lib.hid hON6
            clear hON6
            go_wp2
            go_roundw
            case rel => exact ⟨k + 1, _, rfl, by omega, by go_num, HO6.out⟩
            case measure => simp [intOf] <;> omega
    · have HK2 : Hid (ON EI 1 3 w3 v0 (use.filter ps) wr) := Lib.hid (by
        have h1 := HK.out
        rw [List.take_of_length_le (by rw [HUL.out]; omega)] at h1
        exact h1)
      clear HK
      obtain ⟨F, hF⟩ : ∃ F, use.filter ps = F := ⟨_, rfl⟩
      have HFN : Hid (F.length ≤ 300) := Lib.hid (by rw [← hF]; have := List.length_filter_le ps use; rw [HUL.out] at this; omega)
      rw [hF] at HK2
      have HF := Lib.hid hF
      clear hF
      obtain ⟨L, hL⟩ : ∃ L, F.length = L := ⟨_, rfl⟩
      rw [hL] at HFN
      obtain ⟨A7, c7, rfl, _, _⟩ := HK2.out.form
      have HRF : Hid (RI wr wr.heap.size A7 L F) := Lib.hid (by rw [← hL]; exact (HK2.out.reads ei_steady (by omega) rfl).ri)
      rw [hL]
      clear hL
      have hb := HK2.out.below
      have G4 := Lib.hid (G3.out.next hb)
      have BS4 := Lib.hid (BS3.out.next hb)
      have HB4 := Lib.hid (HB3.out.trans (hb.mono HB3.out.size))
      have HLM : Hid (L ≤ maxLen) := Lib.hid (Nat.le_trans HFN.out (by decide))
      clear hb HK2 G3 BS3 HB3
      have q0 := BS4.out.c0
      have q1 := BS4.out.c1
      have q2 := BS4.out.c2
      have q3 := BS4.out.c3
      have q4 := BS4.out.c4
      have q5 := BS4.out.c5
      have q6 := BS4.out.c6
      go_wp2_with fail
      refine (refFind_postN A n c A7 L c7 g F s wr G4.out.reads HG3.out HRF.out HLM.out HS.out).mono ?_
      rintro e w7 ⟨⟨A8, c8, rfl, hr8, hn8, hc8⟩, hb⟩
      have HB8 := Lib.hid (HB4.out.trans (hb.mono HB4.out.size))
      have HR8 := Lib.hid (hr8.mono HB4.out.size)
      have HN8 := Lib.hid hn8
      have HC8 := Lib.hid hc8
      clear hb hr8 hn8 hc8 q0 q1 q2 q3 q4 q5 q6
      go_wp2
      go_ret2
      rw [HF.out]
      exact ⟨⟨A8, c8, rfl, HR8.out, HN8.out, HC8.out⟩, HB8.out⟩
theorem refAtS_any {A A2 A3 : Option Addr} {n c n2 c2 n3 c3 : Nat} {g : Gr} {use : List Int} {l : Tb} {s : Sp} {t u : Int} {w : World} (hg : GAsk w A n c g) (hu : LAsk w A2 n2 c2 use) (hl : TAsk w A3 n3 c3 l) (hs : SAsk s) (ht : I64 t) (hv : I64 u) : Calls Tryz.prog 50 #[.slice A n c, .slice A2 n2 c2, .slice A3 n3 c3, .agg #[.int .i64 s.nodes, .int .i64 s.cores, .int .i64 s.gpus, .string s.tag, .bool s.whole, .int .i64 s.long, .int .i64 s.prio], .int .i64 t, .int .i64 u] w (FPostN (gotS g use l s u t) (decide (FitsS g use l s u t)) w) := by
  have no : ¬ FitsS g use l s u t → gotS g use l s u t = [] ∧ decide (FitsS g use l s u t) = false := fun h => ⟨gotS_no h, decide_eq_false h⟩
  by_cases h0 : 0 ≤ t
  rotate_left
  · obtain ⟨e1, e2⟩ := no fun h => h0 h.1.1
    rw [e1, e2]; exact refAtS_1 hg hu hl hs ht hv (by omega)
  by_cases h1 : t < 4611686018427387904
  rotate_left
  · obtain ⟨e1, e2⟩ := no fun h => h1 h.1.2
    rw [e1, e2]; exact refAtS_2 hg hu hl hs ht hv h0 (by omega)
  cases h2 : rightT l with
  | false =>
    obtain ⟨e1, e2⟩ := no fun h => by have := h.2.1; rw [h2] at this; cases this
    rw [e1, e2]; exact refAtS_3 hg hu hl hs ht hv h0 h1 h2
  | true =>
  cases h3 : rightB use with
  | false =>
    obtain ⟨e1, e2⟩ := no fun h => by have := h.2.2.1; rw [h3] at this; cases this
    rw [e1, e2]; exact refAtS_4 hg hu hl hs ht hv h0 h1 h2 h3
  | true =>
  by_cases h4 : u < endsS s t
  · obtain ⟨e1, e2⟩ := no fun h => by have := h.2.2.2.1; omega
    rw [e1, e2]; exact refAtS_5 hg hu hl hs ht hv h0 h1 h2 h3 h4
  · exact refAtS_6 hg hu hl hs ht hv h0 h1 h2 h3 (by omega)
end Go.Proofs.YtchogijdkagiiaaGreatDoor
