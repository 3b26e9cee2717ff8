/- The statement JobEnds, as a walk over the contracts. Written by gen/gen_joblaws.py. -/
import Derived.Test.YtpaabeadiokgoaaJobAwake
import Derived.Test.YtpaabeadiokgoaaJobLawMath
import Derived.Test.YtpaabeadiokgoaaJobRefD
namespace Go.Proofs.Ytpaabeadiokgoaa
open Go.RowKit

/-- what happens, and how much later: two cells -/
def EW : Elem (Int × Int) := fun _ _ x vs => vs = [.int .i64 x.1, .int .u8 x.2] ∧ I64 x.1 ∧ 0 ≤ x.2 ∧ x.2 ≤ 255
theorem ew_steady : Steady EW := ⟨fun h _ _ => h⟩
structure WList (w : World) (A : Option Addr) (n c : Nat) (l : List (Int × Int)) : Prop where
  reads : RN EW 2 w (Lt w.heap.size) A n l
  nil : A = none → c = 0
  cap : n ≤ c
  few : n ≤ maxLen
theorem WList.next {w w' : World} {A : Option Addr} {n c : Nat} {l : List (Int × Int)} (h : WList w A n c l) (hb : Below w.heap.size w w') : WList w' A n c l := ⟨RN.next ew_steady h.reads hb, h.nil, h.cap, h.few⟩
theorem WList.one {w : World} {A : Option Addr} {n c k : Nat} {l : List (Int × Int)} (h : WList w A n c l) (hk : k < n) : ∃ (b off : Nat) (x : Int × Int), A = some ⟨b, off, none⟩ ∧ b < w.heap.size ∧ w.cell? ⟨b, off + k * 2, none⟩ = some (.int .i64 x.1) ∧ w.cell? ⟨b, off + k * 2 + 1, none⟩ = some (.int .u8 x.2) ∧ I64 x.1 ∧ 0 ≤ x.2 ∧ x.2 ≤ 255 := by
  have hl : k < l.length := by rw [h.reads.1]; exact hk
  obtain ⟨b, off, vs, e, hb, _, hc, hv, h1, h2, h3⟩ := RN.at h.reads (List.getElem?_eq_getElem hl)
  subst hv
  exact ⟨b, off, l[k], e, hb, hc 0 _ rfl, hc 1 _ rfl, h1, h2, h3⟩
/-- how often it has begun, by its state -/
def EndI (st bg : Int) : Prop := (bg = 0 ∧ st ≠ 2 ∧ st ≠ 3 ∧ st ≠ 4) ∨ (bg = 1 ∧ st ≠ 0 ∧ st ≠ 1)
theorem endI_begin {st bg wt : Int} (h : EndI st bg) (hn : nextZ st wt = 2) : st = 0 ∧ bg = 0 ∧ EndI 2 1 := by
  have h0 : st = 0 := (next_from (j := ⟨0, sp0, [], st, 0, 0, 0⟩) (what := wt) (by show 0 ≤ nextZ st wt; omega)).2.1 hn
  subst h0
  refine ⟨rfl, ?_, .inr ⟨rfl, by decide, by decide⟩⟩
  rcases h with h | h
  · exact h.1
  · exact absurd rfl h.2.1
theorem endI_step {st bg wt : Int} (h : EndI st bg) (hn : 0 ≤ nextZ st wt) (h2 : nextZ st wt ≠ 2) : EndI (nextZ st wt) bg := by
  obtain ⟨f1, f2, f3, f4, f5⟩ := next_from (j := ⟨0, sp0, [], st, 0, 0, 0⟩) (what := wt) hn
  simp only at f1 f2 f3 f4 f5
  unfold EndI at *
  omega
theorem jask_nil {w w' : World} {A : Option Addr} {m c : Nat} {i st came fr to : Int} {s : Sp} (h : JAsk w A m c ⟨i, s, [], st, came, fr, to⟩) : JAsk w' A m c ⟨i, s, [], st, came, fr, to⟩ := by
  have hm : 0 = m := h.reads.1
  subst hm
  exact ⟨RI.nil, h.nil, h.cap, h.few, h.spec, h.int⟩
theorem jask_few {w : World} {A : Option Addr} {m c : Nat} {i st came fr to : Int} {s : Sp} (h : JAsk w A m c ⟨i, s, [], st, came, fr, to⟩) : m ≤ 100 := by
  have hm : 0 = m := h.reads.1
  omega
/-- the loop's body, taken out of the translation -/
def firstLoop : Code → Option Code
  | .loop c => some c
  | .seq a b => match firstLoop a with
    | some c => some c
    | none => firstLoop b
  | .block _ c => firstLoop c
  | .scope c => firstLoop c
  | .cond _ a b => match firstLoop a with
    | some c => some c
    | none => firstLoop b
  | _ => none
noncomputable def endsBody : Code := ((Try.f4.body.bind firstLoop).getD .skip)
/-- what holds ahead of each round -/
def EndRel (id : Int) (s : Sp) (came : Int) (n : Nat) (w1 : World) (nv bv iv : Value) (wr : World) : Prop :=
  ∃ (k : Nat) (nw bg st fr to : Int) (A9 : Option Addr) (m9 c9 : Nat), k ≤ n ∧ k ≤ 60 ∧ iv = .int .i64 k ∧ nv = .int .i64 nw ∧ bv = .int .i64 bg ∧ (came ≤ nw ∧ nw ≤ came + 255 * k) ∧ EndI st bg ∧ RightJ ⟨id + 1, s, [], st, came, fr, to⟩ ∧ BoxJ wr w1.heap.size ⟨id + 1, s, [], st, came, fr, to⟩ A9 m9 c9 ∧ JAsk wr A9 m9 c9 ⟨id + 1, s, [], st, came, fr, to⟩ ∧ Below w1.heap.size w1 wr
set_option maxRecDepth 100000 in
set_option maxHeartbeats 8000000 in
theorem jobEnds_bad (H : JobOk) (id : Int) (s : Sp) (came : Int) (A : Option Addr) (n c : Nat) (l : List (Int × Int)) (w : World) (hid : 0 ≤ id ∧ id ≤ 65535) (hs : SAsk s) (hc : 0 ≤ came ∧ came ≤ 4294967295) (hl : WList w A n c l) (hr : rightJ ⟨id + 1, s, [], 0, came, 0, 0⟩ = false) :
    Calls Try.prog 4 #[.int .u16 id, .agg #[.int .i64 s.nodes, .int .i64 s.cores, .int .i64 s.gpus, .string s.tag, .bool s.whole, .int .i64 s.long, .int .i64 s.prio], .int .u32 came, .slice A n c] w fun e w' => e = .returned (.bool true) ∧ Below w.heap.size w w' := by
  obtain ⟨W, hW⟩ : ∃ W, W = w.alloc (spO s) := ⟨_, rfl⟩
  have BS : Hid (BoxS W w.heap.size s) := Lib.hid (by rw [hW]; exact box_new w s)
  have hb0 : Below w.heap.size w W := by rw [hW]; exact (Below.refl _ _).alloc (Nat.le_refl _) _
  have HB := Lib.hid hb0
  have WL := Lib.hid (hl.next hb0)
  have HS := Lib.hid hs
  have hi1 := hid.1
  have hi2 := hid.2
  have hc1 := hc.1
  have hc2 := hc.2
  have I0 : ∀ x : Int, -10 ≤ x → x ≤ 1000000000000 → I64 x := fun x h1 h2 => by unfold I64; omega
  have HI := Lib.hid I0
  have J0 : Hid (∀ X : World, JAsk X none 0 0 ⟨id + 1, s, [], 0, came, 0, 0⟩) := Lib.hid (fun X => ⟨RI.nil, fun _ => rfl, Nat.le_refl _, Nat.zero_le _, hs, I0 _ (by show (-10 : Int) ≤ id + 1; omega) (by show id + 1 ≤ (1000000000000 : Int); omega), I0 0 (by omega) (by omega), I0 _ (by show (-10 : Int) ≤ came; omega) (by show came ≤ (1000000000000 : Int); omega), I0 0 (by omega) (by omega), I0 0 (by omega) (by omega), fun n h => by cases h⟩)
  unfold spO at hW
  clear hb0 hl hs hid hc I0
  obtain ⟨e1, e2⟩ := bad_do (j := ⟨id + 1, s, [], 0, came, 0, 0⟩) (what := 1) (now := came) fun h => of_decide_eq_false hr h.1
  have RT := Lib.hid hr
  have DE := Lib.hid e1
  have DJ := Lib.hid e2
  clear hr e1 e2
  go_enter Try.func4, Try.ntmps4
  go_wp2_with fail
  rw [← hW]
  refine (awake11_any H _).mono ?_
  rintro e w1 ⟨rfl, hb⟩
  have HBq := Lib.hid (HB.out.trans (hb.mono HB.out.size))
  clear HB
  have HB := HBq
  clear HBq
  have BSq := Lib.hid (BS.out.next hb)
  clear BS
  have BS := BSq
  clear BSq
  have WLq := Lib.hid (WL.out.next hb)
  clear WL
  have WL := WLq
  clear WLq
  clear hb
  clear hW
  have b0 := BS.out.c0
  have b1 := BS.out.c1
  have b2 := BS.out.c2
  have b3 := BS.out.c3
  have b4 := BS.out.c4
  have b5 := BS.out.c5
  have b6 := BS.out.c6
  have HB0 := Lib.hid (Below.refl w1.heap.size w1)
  have BS0 := Lib.hid BS.out
  have WL0 := Lib.hid WL.out
  have hb := Below.alloc (Below.refl w1.heap.size w1) (Nat.le_refl _) (.cells #[.int .i64 (id + 1), .int .i64 s.nodes, .int .i64 s.cores, .int .i64 s.gpus, .string s.tag, .bool s.whole, .int .i64 s.long, .int .i64 s.prio, .slice none 0 0, .int .i64 0, .int .i64 came, .int .i64 0, .int .i64 0] 26)
  have B9q := Lib.hid (boxJ_new w1 ⟨id + 1, s, [], 0, came, 0, 0⟩ none 0 0)
  have HBq := Lib.hid (HB.out.trans (hb.mono HB.out.size))
  clear HB
  have HB := HBq
  clear HBq
  have HB0q := Lib.hid (HB0.out.trans (hb.mono HB0.out.size))
  clear HB0
  have HB0 := HB0q
  clear HB0q
  have BSq := Lib.hid (BS.out.next hb)
  clear BS
  have BS := BSq
  clear BSq
  have WLq := Lib.hid (WL.out.next hb)
  clear WL
  have WL := WLq
  clear WLq
  clear hb
  have B9 := B9q
  clear B9q
  have q0 := B9.out.c0
  have q1 := B9.out.c1
  have q2 := B9.out.c2
  have q3 := B9.out.c3
  have q4 := B9.out.c4
  have q5 := B9.out.c5
  have q6 := B9.out.c6
  have q7 := B9.out.c7
  have q8 := B9.out.c8
  have q9 := B9.out.c9
  have q10 := B9.out.c10
  have q11 := B9.out.c11
  have q12 := B9.out.c12
  simp only at q0 q8 q9 q10 q11 q12
  go_wp2_with fail
  refine (h11_right H (J0.out _) (by decide) RT.out).mono ?_
  rintro e w2 ⟨rfl, hb⟩
  have HBq := Lib.hid (HB.out.trans (hb.mono HB.out.size))
  clear HB
  have HB := HBq
  clear HBq
  have HB0q := Lib.hid (HB0.out.trans (hb.mono HB0.out.size))
  clear HB0
  have HB0 := HB0q
  clear HB0q
  have BSq := Lib.hid (BS.out.next hb)
  clear BS
  have BS := BSq
  clear BSq
  have WLq := Lib.hid (WL.out.next hb)
  clear WL
  have WL := WLq
  clear WLq
  have B9q := Lib.hid (B9.out.next hb)
  clear B9
  have B9 := B9q
  clear B9q
  clear hb
  clear q0 q1 q2 q3 q4 q5 q6 q7 q8 q9 q10 q11 q12
  have q0 := B9.out.c0
  have q1 := B9.out.c1
  have q2 := B9.out.c2
  have q3 := B9.out.c3
  have q4 := B9.out.c4
  have q5 := B9.out.c5
  have q6 := B9.out.c6
  have q7 := B9.out.c7
  have q8 := B9.out.c8
  have q9 := B9.out.c9
  have q10 := B9.out.c10
  have q11 := B9.out.c11
  have q12 := B9.out.c12
  simp only at q0 q8 q9 q10 q11 q12
  go_wp2_with fail
  refine (h11_do H (J0.out _) (by decide) (HI.out 1 (by omega) (by omega)) (HI.out came (by omega) (by omega)) DJ.out DE.out).mono ?_
  rintro e w3 ⟨⟨A5, m5, c5, rfl, hj5⟩, hb⟩
  have HBq := Lib.hid (HB.out.trans (hb.mono HB.out.size))
  clear HB
  have HB := HBq
  clear HBq
  have HB0q := Lib.hid (HB0.out.trans (hb.mono HB0.out.size))
  clear HB0
  have HB0 := HB0q
  clear HB0q
  have BSq := Lib.hid (BS.out.next hb)
  clear BS
  have BS := BSq
  clear BSq
  have WLq := Lib.hid (WL.out.next hb)
  clear WL
  have WL := WLq
  clear WLq
  have B9q := Lib.hid (B9.out.next hb)
  clear B9
  have B9 := B9q
  clear B9q
  clear hb
  clear hj5
  clear q0 q1 q2 q3 q4 q5 q6 q7 q8 q9 q10 q11 q12
  have hb := Below.alloc (Below.refl w3.heap.size w3) (Nat.le_refl _) (.cells #[.int .i64 (id + 1), .int .i64 s.nodes, .int .i64 s.cores, .int .i64 s.gpus, .string s.tag, .bool s.whole, .int .i64 s.long, .int .i64 s.prio, .slice A5 m5 c5, .int .i64 0, .int .i64 came, .int .i64 0, .int .i64 0] 26)
  have HBq := Lib.hid (HB.out.trans (hb.mono HB.out.size))
  clear HB
  have HB := HBq
  clear HBq
  have HB0q := Lib.hid (HB0.out.trans (hb.mono HB0.out.size))
  clear HB0
  have HB0 := HB0q
  clear HB0q
  have BSq := Lib.hid (BS.out.next hb)
  clear BS
  have BS := BSq
  clear BSq
  have WLq := Lib.hid (WL.out.next hb)
  clear WL
  have WL := WLq
  clear WLq
  have B9q := Lib.hid (B9.out.next hb)
  clear B9
  have B9 := B9q
  clear B9q
  clear hb
  go_wp2
  go_ret
  exact ⟨rfl, HB.out⟩

set_option maxRecDepth 100000 in
set_option maxHeartbeats 40000000 in
theorem ends_N1 (H : JobOk) (id : Int) (s : Sp) (came : Int) (n c : Nat) (w w1 wr : World) (b off : Nat) (wt mo : Int) (k : Nat) (nw bg st fr to : Int) (A9 : Option Addr) (m9 c9 : Nat) (HI : Hid (∀ x : Int, -10 ≤ x → x ≤ 1000000000000 → I64 x)) (hc1 : 0 ≤ came) (hc2 : came ≤ 4294967295) (hlt : k < n) (hls : k < 60) (hnw1 : came ≤ nw) (hnw2 : nw ≤ came + 255 * k) (hx2 : 0 ≤ mo) (hx3 : mo ≤ 255) (EI : Hid (EndI st bg)) (RJ : Hid (RightJ ⟨id + 1, s, [], st, came, fr, to⟩)) (B9 : Hid (BoxJ wr w1.heap.size ⟨id + 1, s, [], st, came, fr, to⟩ A9 m9 c9)) (JA : Hid (JAsk wr A9 m9 c9 ⟨id + 1, s, [], st, came, fr, to⟩)) (BS : Hid (BoxS wr w.heap.size s)) (HB0 : Hid (Below w1.heap.size w1 wr)) (IX : Hid (I64 wt)) (CE : Hid (CellK wr ⟨b, off + k * 2, none⟩ (.int .i64 wt))) (e1 : wr.cell? ⟨b, off + k * 2 + 1, none⟩ = some (.int .u8 mo)) (Q0 : Exit → Act → World → Prop) (c0 c1 c4 c6 c7 c10 c11 c17 c18 c19 c20 c21 c22 c23 c24 c25 c26 c27 c28 c29 c30 c31 c32 c33 c34 c35 c36 c37 c38 c39 c138 c139 c140 c141 c142 c143 c144 c145 c146 c147 c148 c149 c150 c151 c152 c153 c154 c155 c156 c157 c158 u8 u15 u16 u40 u41 u42 u43 u44 u45 u46 u47 u48 u49 u50 u51 u52 u53 u54 u55 u56 u57 u58 u59 u60 u61 u62 u63 u64 u65 u66 u67 u68 u69 u70 u71 u72 u73 u74 u75 u76 u77 u78 u79 u80 u81 u82 u83 u84 u85 u86 u87 u88 u89 u90 u91 u92 u93 u94 u95 u96 u97 u98 u99 u100 u101 u102 u103 u104 u105 u106 u107 u108 u109 u110 u111 u112 u113 u114 u115 u116 u117 u118 u119 u120 u121 u122 u123 u124 u125 u126 u127 u128 u129 u130 u131 u132 u133 u134 u135 u136 u137 : Value) (hne : doE ⟨id + 1, s, [], st, came, fr, to⟩ wt (nw + mo) ≠ 0) (hov : overJ st = true) :
    Code.wp Try.prog endsBody (Exit.then (fun a' w' => (∃ u8 u12 u13 u14 u15 u16 u40 u41 u42 u43 u44 u45 u46 u47 u48 u49 u50 u51 u52 u53 u54 u55 u56 u57 u58 u59 u60 u61 u62 u63 u64 u65 u66 u67 u68 u69 u70 u71 u72 u73 u74 u75 u76 u77 u78 u79 u80 u81 u82 u83 u84 u85 u86 u87 u88 u89 u90 u91 u92 u93 u94 u95 u96 u97 u98 u99 u100 u101 u102 u103 u104 u105 u106 u107 u108 u109 u110 u111 u112 u113 u114 u115 u116 u117 u118 u119 u120 u121 u122 u123 u124 u125 u126 u127 u128 u129 u130 u131 u132 u133 u134 u135 u136 u137, EndRel id s came n w1 u12 u13 u14 w' ∧ a' = ⟨#[c0, c1, .int .u32 came, .slice (some ⟨b, off, none⟩) n c, c4, .pointer (some ⟨w.heap.size, 0, none⟩), c6, c7, u8, .pointer (some ⟨w1.heap.size, 0, none⟩), c10, c11, u12, u13, u14, u15, u16, c17, c18, c19, c20, c21, c22, c23, c24, c25, c26, c27, c28, c29, c30, c31, c32, c33, c34, c35, c36, c37, c38, c39, u40, u41, u42, u43, u44, u45, u46, u47, u48, u49, u50, u51, u52, u53, u54, u55, u56, u57, u58, u59, u60, u61, u62, u63, u64, u65, u66, u67, u68, u69, u70, u71, u72, u73, u74, u75, u76, u77, u78, u79, u80, u81, u82, u83, u84, u85, u86, u87, u88, u89, u90, u91, u92, u93, u94, u95, u96, u97, u98, u99, u100, u101, u102, u103, u104, u105, u106, u107, u108, u109, u110, u111, u112, u113, u114, u115, u116, u117, u118, u119, u120, u121, u122, u123, u124, u125, u126, u127, u128, u129, u130, u131, u132, u133, u134, u135, u136, u137, c138, c139, c140, c141, c142, c143, c144, c145, c146, c147, c148, c149, c150, c151, c152, c153, c154, c155, c156, c157, c158], []⟩) ∧ 60 - (intOf (a'.tmps.getD 14 undef)).toNat < 60 - (intOf ((⟨#[c0, c1, .int .u32 came, .slice (some ⟨b, off, none⟩) n c, c4, .pointer (some ⟨w.heap.size, 0, none⟩), c6, c7, u8, .pointer (some ⟨w1.heap.size, 0, none⟩), c10, c11, (.int .i64 nw), (.int .i64 bg), (.int .i64 k), u15, u16, c17, c18, c19, c20, c21, c22, c23, c24, c25, c26, c27, c28, c29, c30, c31, c32, c33, c34, c35, c36, c37, c38, c39, u40, u41, u42, u43, u44, u45, u46, u47, u48, u49, u50, u51, u52, u53, u54, u55, u56, u57, u58, u59, u60, u61, u62, u63, u64, u65, u66, u67, u68, u69, u70, u71, u72, u73, u74, u75, u76, u77, u78, u79, u80, u81, u82, u83, u84, u85, u86, u87, u88, u89, u90, u91, u92, u93, u94, u95, u96, u97, u98, u99, u100, u101, u102, u103, u104, u105, u106, u107, u108, u109, u110, u111, u112, u113, u114, u115, u116, u117, u118, u119, u120, u121, u122, u123, u124, u125, u126, u127, u128, u129, u130, u131, u132, u133, u134, u135, u136, u137, c138, c139, c140, c141, c142, c143, c144, c145, c146, c147, c148, c149, c150, c151, c152, c153, c154, c155, c156, c157, c158], []⟩ : Act).tmps.getD 14 undef)).toNat) Q0) ⟨#[c0, c1, .int .u32 came, .slice (some ⟨b, off, none⟩) n c, c4, .pointer (some ⟨w.heap.size, 0, none⟩), c6, c7, u8, .pointer (some ⟨w1.heap.size, 0, none⟩), c10, c11, (.int .i64 nw), (.int .i64 bg), (.int .i64 k), u15, u16, c17, c18, c19, c20, c21, c22, c23, c24, c25, c26, c27, c28, c29, c30, c31, c32, c33, c34, c35, c36, c37, c38, c39, u40, u41, u42, u43, u44, u45, u46, u47, u48, u49, u50, u51, u52, u53, u54, u55, u56, u57, u58, u59, u60, u61, u62, u63, u64, u65, u66, u67, u68, u69, u70, u71, u72, u73, u74, u75, u76, u77, u78, u79, u80, u81, u82, u83, u84, u85, u86, u87, u88, u89, u90, u91, u92, u93, u94, u95, u96, u97, u98, u99, u100, u101, u102, u103, u104, u105, u106, u107, u108, u109, u110, u111, u112, u113, u114, u115, u116, u117, u118, u119, u120, u121, u122, u123, u124, u125, u126, u127, u128, u129, u130, u131, u132, u133, u134, u135, u136, u137, c138, c139, c140, c141, c142, c143, c144, c145, c146, c147, c148, c149, c150, c151, c152, c153, c154, c155, c156, c157, c158], []⟩ wr := by
  conv => arg 2; whnf
  have hls' : decide (k < 60) = true := decide_eq_true hls
  have hls2 : decide ((k : Int) < 60) = true := by simp; omega
  have IN : Hid (I64 (nw + mo)) := Lib.hid (HI.out _ (by omega) (by omega))
  have hdj := doJ_no hne
  obtain ⟨er, her⟩ : ∃ e, doE ⟨id + 1, s, [], st, came, fr, to⟩ wt (nw + mo) = e := ⟨_, rfl⟩
  rw [her] at hne
  have DE := Lib.hid her
  have DJ := Lib.hid hdj
  have d1 : (er == 0) = false := by rw [beq_eq_false_iff_ne]; exact hne
  have d2 : (er != 0) = true := by rw [bne_iff_ne]; exact hne
  clear hne her hdj
  have EI2 := Lib.hid EI.out
  have RN1 := Lib.hid RJ.out
  have RN := Lib.hid (show rightJ ⟨id + 1, s, [], st, came, fr, to⟩ = true from decide_eq_true RJ.out)
  have IST := Lib.hid JA.out.int.2.1
  have IS2 := Lib.hid JA.out.int.2.1
  have OVN := Lib.hid hov
  have OVJ := Lib.hid hov
  clear hov
  have q0 := B9.out.c0
  have q1 := B9.out.c1
  have q2 := B9.out.c2
  have q3 := B9.out.c3
  have q4 := B9.out.c4
  have q5 := B9.out.c5
  have q6 := B9.out.c6
  have q7 := B9.out.c7
  have q8 := B9.out.c8
  have q9 := B9.out.c9
  have q10 := B9.out.c10
  have q11 := B9.out.c11
  have q12 := B9.out.c12
  simp only at q0 q1 q2 q3 q4 q5 q6 q7 q8 q9 q10 q11 q12
  go_wp2
  have HKEEP : Hid (∀ wx, Below wr.drew.heap.size wr.drew wx → wx.cell? ⟨w1.heap.size, 0, none⟩ = some (.int .i64 (id + 1)) ∧ wx.cell? ⟨w1.heap.size, 1, none⟩ = some (.int .i64 s.nodes) ∧ wx.cell? ⟨w1.heap.size, 2, none⟩ = some (.int .i64 s.cores) ∧ wx.cell? ⟨w1.heap.size, 3, none⟩ = some (.int .i64 s.gpus) ∧ wx.cell? ⟨w1.heap.size, 4, none⟩ = some (.string s.tag) ∧ wx.cell? ⟨w1.heap.size, 5, none⟩ = some (.bool s.whole) ∧ wx.cell? ⟨w1.heap.size, 6, none⟩ = some (.int .i64 s.long) ∧ wx.cell? ⟨w1.heap.size, 7, none⟩ = some (.int .i64 s.prio) ∧ wx.cell? ⟨w1.heap.size, 8, none⟩ = some (.slice A9 m9 c9) ∧ wx.cell? ⟨w1.heap.size, 9, none⟩ = some (.int .i64 st) ∧ wx.cell? ⟨w1.heap.size, 10, none⟩ = some (.int .i64 came) ∧ wx.cell? ⟨w1.heap.size, 11, none⟩ = some (.int .i64 fr) ∧ wx.cell? ⟨w1.heap.size, 12, none⟩ = some (.int .i64 to) ∧ wx.cell? ⟨b, off + k * 2, none⟩ = some (.int .i64 wt)) := Lib.hid (fun wx hz' => by
    have hz := (bel_drew1 wr).trans (hz'.mono (bel_drew1 wr).size)
    exact ⟨keep_cell B9.out.lt q0 hz, keep_cell B9.out.lt q1 hz, keep_cell B9.out.lt q2 hz, keep_cell B9.out.lt q3 hz, keep_cell B9.out.lt q4 hz, keep_cell B9.out.lt q5 hz, keep_cell B9.out.lt q6 hz, keep_cell B9.out.lt q7 hz, keep_cell B9.out.lt q8 hz, keep_cell B9.out.lt q9 hz, keep_cell B9.out.lt q10 hz, keep_cell B9.out.lt q11 hz, keep_cell B9.out.lt q12 hz, keep_cell CE.out.lt CE.out.at' hz⟩)
  have hd := bel_drew1 wr
  have HB0q := Lib.hid (HB0.out.trans (hd.mono HB0.out.size))
  clear HB0
  have HB0 := HB0q
  clear HB0q
  have B9q := Lib.hid (B9.out.next hd)
  clear B9
  have B9 := B9q
  clear B9q
  have JAq := Lib.hid (JA.out.next hd)
  clear JA
  have JA := JAq
  clear JAq
  have BSq := Lib.hid (BS.out.next hd)
  clear BS
  have BS := BSq
  clear BSq
  have CEq := Lib.hid (CE.out.next hd)
  clear CE
  have CE := CEq
  clear CEq
  clear hd
  have HY := Lib.hid (Below.refl wr.drew.heap.size wr.drew)
  have HBB : Hid (Below wr.drew.heap.size wr.drew (wr.alloc (.cells #[.int .i64 0, .int .i64 0, .int .i64 0, .int .i64 0, .string ⟨#[]⟩, .bool false, .int .i64 0, .int .i64 0, .slice none 0 0, .int .i64 0, .int .i64 0, .int .i64 0, .int .i64 0] 26)).drew) := Lib.hid ((Below.refl wr.drew.heap.size wr.drew).alloc (Nat.le_refl _) (.cells #[.int .i64 0, .int .i64 0, .int .i64 0, .int .i64 0, .string ⟨#[]⟩, .bool false, .int .i64 0, .int .i64 0, .slice none 0 0, .int .i64 0, .int .i64 0, .int .i64 0, .int .i64 0] 26))
  have JAB : Hid (JAsk (wr.alloc (.cells #[.int .i64 0, .int .i64 0, .int .i64 0, .int .i64 0, .string ⟨#[]⟩, .bool false, .int .i64 0, .int .i64 0, .slice none 0 0, .int .i64 0, .int .i64 0, .int .i64 0, .int .i64 0] 26)).drew A9 m9 c9 ⟨id + 1, s, [], st, came, fr, to⟩) := Lib.hid (JA.out.next HBB.out)
  have BZ : Hid (BoxJ (wr.alloc (.cells #[.int .i64 0, .int .i64 0, .int .i64 0, .int .i64 0, .string ⟨#[]⟩, .bool false, .int .i64 0, .int .i64 0, .slice none 0 0, .int .i64 0, .int .i64 0, .int .i64 0, .int .i64 0] 26)).drew wr.heap.size jb0 none 0 0) := Lib.hid ((boxJ_new wr jb0 none 0 0).next (bel_drew1 _))
  have HLT9 := Lib.hid B9.out.lt
  have HLTS := Lib.hid BS.out.lt
  have HGE : wr.drew.heap.size ≤ wr.heap.size := Nat.le_refl _
  clear q0 q1 q2 q3 q4 q5 q6 q7 q8 q9 q10 q11 q12
  have S1 := Lib.hid (HKEEP.out _ (Below.refl _ _))
  have S2 := Lib.hid (HKEEP.out _ HBB.out)
  go_region_held3 (fun w' => w'.cell? ⟨w1.heap.size, 0, none⟩ = some (.int .i64 (id + 1)) ∧ w'.cell? ⟨w1.heap.size, 1, none⟩ = some (.int .i64 s.nodes) ∧ w'.cell? ⟨w1.heap.size, 2, none⟩ = some (.int .i64 s.cores) ∧ w'.cell? ⟨w1.heap.size, 3, none⟩ = some (.int .i64 s.gpus) ∧ w'.cell? ⟨w1.heap.size, 4, none⟩ = some (.string s.tag) ∧ w'.cell? ⟨w1.heap.size, 5, none⟩ = some (.bool s.whole) ∧ w'.cell? ⟨w1.heap.size, 6, none⟩ = some (.int .i64 s.long) ∧ w'.cell? ⟨w1.heap.size, 7, none⟩ = some (.int .i64 s.prio) ∧ w'.cell? ⟨w1.heap.size, 8, none⟩ = some (.slice A9 m9 c9) ∧ w'.cell? ⟨w1.heap.size, 9, none⟩ = some (.int .i64 st) ∧ w'.cell? ⟨w1.heap.size, 10, none⟩ = some (.int .i64 came) ∧ w'.cell? ⟨w1.heap.size, 11, none⟩ = some (.int .i64 fr) ∧ w'.cell? ⟨w1.heap.size, 12, none⟩ = some (.int .i64 to) ∧ w'.cell? ⟨b, off + k * 2, none⟩ = some (.int .i64 wt))
    (first | with_reducible exact S1.out | with_reducible exact S2.out | with_reducible exact S3.out | with_reducible exact S4.out | with_reducible exact S5.out | with_reducible exact S6.out | fail)
    (first | (go_at_call 7; (with_reducible refine (h11_do H JA.out (jask_few JA.out) IX.out IN.out DJ.out DE.out).mono ?_); rintro e w3 ⟨⟨A15, m15, c15, rfl, hj15⟩, hb⟩; have hy := hb; have HY := Lib.hid hy; have HB0 := Lib.hid (HB0.out.trans (hy.mono HB0.out.size)); have B9 := Lib.hid (B9.out.next hy); have JA := Lib.hid (JA.out.next hy); have BS := Lib.hid (BS.out.next hy); have CE := Lib.hid (CE.out.next hy); have J15 := Lib.hid hj15; have S3 := Lib.hid (HKEEP.out _ HY.out); have S6 := Lib.hid (HKEEP.out _ (HY.out.alloc HY.out.size (.cells #[.int .i64 0, .int .i64 0, .int .i64 0, .int .i64 0, .string ⟨#[]⟩, .bool false, .int .i64 0, .int .i64 0, .slice none 0 0, .int .i64 0, .int .i64 0, .int .i64 0, .int .i64 0] 26))); have S4 := Lib.hid (HKEEP.out _ (HY.out.alloc HY.out.size (.cells #[.int .i64 (id + 1), .int .i64 s.nodes, .int .i64 s.cores, .int .i64 s.gpus, .string s.tag, .bool s.whole, .int .i64 s.long, .int .i64 s.prio, .slice A15 m15 c15, .int .i64 st, .int .i64 came, .int .i64 fr, .int .i64 to] 26))); clear hb hy) | (go_at_call 7; (with_reducible refine (h11_do H JAB.out (jask_few JA.out) IX.out IN.out DJ.out DE.out).mono ?_); rintro e w3 ⟨⟨A15, m15, c15, rfl, hj15⟩, hb⟩; have hy := HBB.out.trans (hb.mono HBB.out.size); have HY := Lib.hid hy; have HB0 := Lib.hid (HB0.out.trans (hy.mono HB0.out.size)); have B9 := Lib.hid (B9.out.next hy); have JA := Lib.hid (JA.out.next hy); have BS := Lib.hid (BS.out.next hy); have CE := Lib.hid (CE.out.next hy); have J15 := Lib.hid hj15; have S3 := Lib.hid (HKEEP.out _ HY.out); have S5 := Lib.hid (HKEEP.out _ (below_store (v0 := .int .i64 (id + 1)) (v1 := .int .i64 s.nodes) (v2 := .int .i64 s.cores) (v3 := .int .i64 s.gpus) (v4 := .string s.tag) (v5 := .bool s.whole) (v6 := .int .i64 s.long) (v7 := .int .i64 s.prio) (v8 := .slice A15 m15 c15) (v9 := .int .i64 st) (v10 := .int .i64 came) (v11 := .int .i64 fr) (v12 := .int .i64 to) HY.out HGE)); have BZ := Lib.hid (BZ.out.next hb); have p0 := BZ.out.c0; have y0 := BZ.out.frozen 0; have p1 := BZ.out.c1; have y1 := BZ.out.frozen 1; have p2 := BZ.out.c2; have y2 := BZ.out.frozen 2; have p3 := BZ.out.c3; have y3 := BZ.out.frozen 3; have p4 := BZ.out.c4; have y4 := BZ.out.frozen 4; have p5 := BZ.out.c5; have y5 := BZ.out.frozen 5; have p6 := BZ.out.c6; have y6 := BZ.out.frozen 6; have p7 := BZ.out.c7; have y7 := BZ.out.frozen 7; have p8 := BZ.out.c8; have y8 := BZ.out.frozen 8; have p9 := BZ.out.c9; have y9 := BZ.out.frozen 9; have p10 := BZ.out.c10; have y10 := BZ.out.frozen 10; have p11 := BZ.out.c11; have y11 := BZ.out.frozen 11; have p12 := BZ.out.c12; have y12 := BZ.out.frozen 12; clear hb hy) | fail)
  · clear CE
    have hb := Below.alloc (Below.refl w3.heap.size w3) (Nat.le_refl _) (.cells #[.int .i64 (id + 1), .int .i64 s.nodes, .int .i64 s.cores, .int .i64 s.gpus, .string s.tag, .bool s.whole, .int .i64 s.long, .int .i64 s.prio, .slice A15 m15 c15, .int .i64 st, .int .i64 came, .int .i64 fr, .int .i64 to] 26)
    have B15q := Lib.hid (boxJ_new w3 ⟨id + 1, s, [], st, came, fr, to⟩ A15 m15 c15)
    have HB0q := Lib.hid (HB0.out.trans (hb.mono HB0.out.size))
    clear HB0
    have HB0 := HB0q
    clear HB0q
    have B9q := Lib.hid (B9.out.next hb)
    clear B9
    have B9 := B9q
    clear B9q
    have JAq := Lib.hid (JA.out.next hb)
    clear JA
    have JA := JAq
    clear JAq
    have BSq := Lib.hid (BS.out.next hb)
    clear BS
    have BS := BSq
    clear BSq
    have J15q := Lib.hid (J15.out.next hb)
    clear J15
    have J15 := J15q
    clear J15q
    clear hb
    have B15 := B15q
    clear B15q
    try clear S1 S2 S3
    try clear S4
    try clear S5
    try clear S6
    try clear HBB JAB
    try clear BZ
    try clear HKEEP HY
    try clear HGE
    have q0 := B9.out.c0
    have r0 := B15.out.c0
    have q1 := B9.out.c1
    have r1 := B15.out.c1
    have q2 := B9.out.c2
    have r2 := B15.out.c2
    have q3 := B9.out.c3
    have r3 := B15.out.c3
    have q4 := B9.out.c4
    have r4 := B15.out.c4
    have q5 := B9.out.c5
    have r5 := B15.out.c5
    have q6 := B9.out.c6
    have r6 := B15.out.c6
    have q7 := B9.out.c7
    have r7 := B15.out.c7
    have q8 := B9.out.c8
    have r8 := B15.out.c8
    have q9 := B9.out.c9
    have r9 := B15.out.c9
    have q10 := B9.out.c10
    have r10 := B15.out.c10
    have q11 := B9.out.c11
    have r11 := B15.out.c11
    have q12 := B9.out.c12
    have r12 := B15.out.c12
    have b0 := BS.out.c0
    have b1 := BS.out.c1
    have b2 := BS.out.c2
    have b3 := BS.out.c3
    have b4 := BS.out.c4
    have b5 := BS.out.c5
    have b6 := BS.out.c6
    simp only at q0 q1 q2 q3 q4 q5 q6 q7 q8 q9 q10 q11 q12 r0 r1 r2 r3 r4 r5 r6 r7 r8 r9 r10 r11 r12
    go_wp2_with fail
    refine (refSameJ_b J15.out JA.out (sameJ_iff.2 rfl)).mono ?_
    rintro e w4 ⟨rfl, hb⟩
    have HB0q := Lib.hid (HB0.out.trans (hb.mono HB0.out.size))
    clear HB0
    have HB0 := HB0q
    clear HB0q
    have B9q := Lib.hid (B9.out.next hb)
    clear B9
    have B9 := B9q
    clear B9q
    have JAq := Lib.hid (JA.out.next hb)
    clear JA
    have JA := JAq
    clear JAq
    have BSq := Lib.hid (BS.out.next hb)
    clear BS
    have BS := BSq
    clear BSq
    have J15q := Lib.hid (J15.out.next hb)
    clear J15
    have J15 := J15q
    clear J15q
    have B15q := Lib.hid (B15.out.next hb)
    clear B15
    have B15 := B15q
    clear B15q
    clear hb
    clear q0 q1 q2 q3 q4 q5 q6 q7 q8 q9 q10 q11 q12 r0 r1 r2 r3 r4 r5 r6 r7 r8 r9 r10 r11 r12
    clear b0 b1 b2 b3 b4 b5 b6
    have q0 := B9.out.c0
    have r0 := B15.out.c0
    have q1 := B9.out.c1
    have r1 := B15.out.c1
    have q2 := B9.out.c2
    have r2 := B15.out.c2
    have q3 := B9.out.c3
    have r3 := B15.out.c3
    have q4 := B9.out.c4
    have r4 := B15.out.c4
    have q5 := B9.out.c5
    have r5 := B15.out.c5
    have q6 := B9.out.c6
    have r6 := B15.out.c6
    have q7 := B9.out.c7
    have r7 := B15.out.c7
    have q8 := B9.out.c8
    have r8 := B15.out.c8
    have q9 := B9.out.c9
    have r9 := B15.out.c9
    have q10 := B9.out.c10
    have r10 := B15.out.c10
    have q11 := B9.out.c11
    have r11 := B15.out.c11
    have q12 := B9.out.c12
    have r12 := B15.out.c12
    have b0 := BS.out.c0
    have b1 := BS.out.c1
    have b2 := BS.out.c2
    have b3 := BS.out.c3
    have b4 := BS.out.c4
    have b5 := BS.out.c5
    have b6 := BS.out.c6
    simp only at q0 q1 q2 q3 q4 q5 q6 q7 q8 q9 q10 q11 q12 r0 r1 r2 r3 r4 r5 r6 r7 r8 r9 r10 r11 r12
    go_wp2_with fail
    refine (h11_right H J15.out (jask_few J15.out) RN.out).mono ?_
    rintro e w5 ⟨rfl, hb⟩
    have HB0q := Lib.hid (HB0.out.trans (hb.mono HB0.out.size))
    clear HB0
    have HB0 := HB0q
    clear HB0q
    have B9q := Lib.hid (B9.out.next hb)
    clear B9
    have B9 := B9q
    clear B9q
    have JAq := Lib.hid (JA.out.next hb)
    clear JA
    have JA := JAq
    clear JAq
    have BSq := Lib.hid (BS.out.next hb)
    clear BS
    have BS := BSq
    clear BSq
    have J15q := Lib.hid (J15.out.next hb)
    clear J15
    have J15 := J15q
    clear J15q
    have B15q := Lib.hid (B15.out.next hb)
    clear B15
    have B15 := B15q
    clear B15q
    clear hb
    clear q0 q1 q2 q3 q4 q5 q6 q7 q8 q9 q10 q11 q12 r0 r1 r2 r3 r4 r5 r6 r7 r8 r9 r10 r11 r12
    clear b0 b1 b2 b3 b4 b5 b6
    have q0 := B9.out.c0
    have r0 := B15.out.c0
    have q1 := B9.out.c1
    have r1 := B15.out.c1
    have q2 := B9.out.c2
    have r2 := B15.out.c2
    have q3 := B9.out.c3
    have r3 := B15.out.c3
    have q4 := B9.out.c4
    have r4 := B15.out.c4
    have q5 := B9.out.c5
    have r5 := B15.out.c5
    have q6 := B9.out.c6
    have r6 := B15.out.c6
    have q7 := B9.out.c7
    have r7 := B15.out.c7
    have q8 := B9.out.c8
    have r8 := B15.out.c8
    have q9 := B9.out.c9
    have r9 := B15.out.c9
    have q10 := B9.out.c10
    have r10 := B15.out.c10
    have q11 := B9.out.c11
    have r11 := B15.out.c11
    have q12 := B9.out.c12
    have r12 := B15.out.c12
    have b0 := BS.out.c0
    have b1 := BS.out.c1
    have b2 := BS.out.c2
    have b3 := BS.out.c3
    have b4 := BS.out.c4
    have b5 := BS.out.c5
    have b6 := BS.out.c6
    simp only at q0 q1 q2 q3 q4 q5 q6 q7 q8 q9 q10 q11 q12 r0 r1 r2 r3 r4 r5 r6 r7 r8 r9 r10 r11 r12
    go_wp2_with fail
    refine (h11_over H IS2.out OVN.out).mono ?_
    rintro e w6 ⟨rfl, hb⟩
    have HB0q := Lib.hid (HB0.out.trans (hb.mono HB0.out.size))
    clear HB0
    have HB0 := HB0q
    clear HB0q
    have B9q := Lib.hid (B9.out.next hb)
    clear B9
    have B9 := B9q
    clear B9q
    have JAq := Lib.hid (JA.out.next hb)
    clear JA
    have JA := JAq
    clear JAq
    have BSq := Lib.hid (BS.out.next hb)
    clear BS
    have BS := BSq
    clear BSq
    have J15q := Lib.hid (J15.out.next hb)
    clear J15
    have J15 := J15q
    clear J15q
    have B15q := Lib.hid (B15.out.next hb)
    clear B15
    have B15 := B15q
    clear B15q
    clear hb
    clear q0 q1 q2 q3 q4 q5 q6 q7 q8 q9 q10 q11 q12 r0 r1 r2 r3 r4 r5 r6 r7 r8 r9 r10 r11 r12
    clear b0 b1 b2 b3 b4 b5 b6
    have q0 := B9.out.c0
    have r0 := B15.out.c0
    have q1 := B9.out.c1
    have r1 := B15.out.c1
    have q2 := B9.out.c2
    have r2 := B15.out.c2
    have q3 := B9.out.c3
    have r3 := B15.out.c3
    have q4 := B9.out.c4
    have r4 := B15.out.c4
    have q5 := B9.out.c5
    have r5 := B15.out.c5
    have q6 := B9.out.c6
    have r6 := B15.out.c6
    have q7 := B9.out.c7
    have r7 := B15.out.c7
    have q8 := B9.out.c8
    have r8 := B15.out.c8
    have q9 := B9.out.c9
    have r9 := B15.out.c9
    have q10 := B9.out.c10
    have r10 := B15.out.c10
    have q11 := B9.out.c11
    have r11 := B15.out.c11
    have q12 := B9.out.c12
    have r12 := B15.out.c12
    have b0 := BS.out.c0
    have b1 := BS.out.c1
    have b2 := BS.out.c2
    have b3 := BS.out.c3
    have b4 := BS.out.c4
    have b5 := BS.out.c5
    have b6 := BS.out.c6
    simp only at q0 q1 q2 q3 q4 q5 q6 q7 q8 q9 q10 q11 q12 r0 r1 r2 r3 r4 r5 r6 r7 r8 r9 r10 r11 r12
    go_wp2_with fail
    refine (h11_over H IST.out OVJ.out).mono ?_
    rintro e w7 ⟨rfl, hb⟩
    have HB0q := Lib.hid (HB0.out.trans (hb.mono HB0.out.size))
    clear HB0
    have HB0 := HB0q
    clear HB0q
    have B9q := Lib.hid (B9.out.next hb)
    clear B9
    have B9 := B9q
    clear B9q
    have JAq := Lib.hid (JA.out.next hb)
    clear JA
    have JA := JAq
    clear JAq
    have BSq := Lib.hid (BS.out.next hb)
    clear BS
    have BS := BSq
    clear BSq
    have J15q := Lib.hid (J15.out.next hb)
    clear J15
    have J15 := J15q
    clear J15q
    have B15q := Lib.hid (B15.out.next hb)
    clear B15
    have B15 := B15q
    clear B15q
    clear hb
    clear q0 q1 q2 q3 q4 q5 q6 q7 q8 q9 q10 q11 q12 r0 r1 r2 r3 r4 r5 r6 r7 r8 r9 r10 r11 r12
    clear b0 b1 b2 b3 b4 b5 b6
    have q0 := B9.out.c0
    have r0 := B15.out.c0
    have q1 := B9.out.c1
    have r1 := B15.out.c1
    have q2 := B9.out.c2
    have r2 := B15.out.c2
    have q3 := B9.out.c3
    have r3 := B15.out.c3
    have q4 := B9.out.c4
    have r4 := B15.out.c4
    have q5 := B9.out.c5
    have r5 := B15.out.c5
    have q6 := B9.out.c6
    have r6 := B15.out.c6
    have q7 := B9.out.c7
    have r7 := B15.out.c7
    have q8 := B9.out.c8
    have r8 := B15.out.c8
    have q9 := B9.out.c9
    have r9 := B15.out.c9
    have q10 := B9.out.c10
    have r10 := B15.out.c10
    have q11 := B9.out.c11
    have r11 := B15.out.c11
    have q12 := B9.out.c12
    have r12 := B15.out.c12
    have b0 := BS.out.c0
    have b1 := BS.out.c1
    have b2 := BS.out.c2
    have b3 := BS.out.c3
    have b4 := BS.out.c4
    have b5 := BS.out.c5
    have b6 := BS.out.c6
    simp only at q0 q1 q2 q3 q4 q5 q6 q7 q8 q9 q10 q11 q12 r0 r1 r2 r3 r4 r5 r6 r7 r8 r9 r10 r11 r12
    have y0 := B9.out.frozen 0
    have y1 := B9.out.frozen 1
    have y2 := B9.out.frozen 2
    have y3 := B9.out.frozen 3
    have y4 := B9.out.frozen 4
    have y5 := B9.out.frozen 5
    have y6 := B9.out.frozen 6
    have y7 := B9.out.frozen 7
    have y8 := B9.out.frozen 8
    have y9 := B9.out.frozen 9
    have y10 := B9.out.frozen 10
    have y11 := B9.out.frozen 11
    have y12 := B9.out.frozen 12
    have HBV := Lib.hid (below_store (v0 := .int .i64 (id + 1)) (v1 := .int .i64 s.nodes) (v2 := .int .i64 s.cores) (v3 := .int .i64 s.gpus) (v4 := .string s.tag) (v5 := .bool s.whole) (v6 := .int .i64 s.long) (v7 := .int .i64 s.prio) (v8 := .slice A15 m15 c15) (v9 := .int .i64 st) (v10 := .int .i64 came) (v11 := .int .i64 fr) (v12 := .int .i64 to) HB0.out (Nat.le_refl w1.heap.size))
    have B9V := Lib.hid (B9.out.store ⟨id + 1, s, [], st, came, fr, to⟩ A15 m15 c15)
    go_wp2
    refine ⟨⟨k + 1, nw + mo, bg, st, fr, to, A15, m15, c15, by omega, by omega, by go_num, rfl, rfl, ⟨by omega, by omega⟩, EI2.out, RN1.out, B9V.out, jask_nil J15.out, HBV.out⟩, ?_⟩
    simp [intOf]; omega
  · clear CE
    clear p0 y0 p1 y1 p2 y2 p3 y3 p4 y4 p5 y5 p6 y6 p7 y7 p8 y8 p9 y9 p10 y10 p11 y11 p12 y12
    have hne9 : w1.heap.size ≠ wr.heap.size := Nat.ne_of_lt HLT9.out
    have hneS : w.heap.size ≠ wr.heap.size := Nat.ne_of_lt HLTS.out
    have B9q : Hid (BoxJ (((((((((((((w3.setCell ⟨wr.heap.size, 0, none⟩ (.int .i64 (id + 1))).setCell ⟨wr.heap.size, 1, none⟩ (.int .i64 s.nodes)).setCell ⟨wr.heap.size, 2, none⟩ (.int .i64 s.cores)).setCell ⟨wr.heap.size, 3, none⟩ (.int .i64 s.gpus)).setCell ⟨wr.heap.size, 4, none⟩ (.string s.tag)).setCell ⟨wr.heap.size, 5, none⟩ (.bool s.whole)).setCell ⟨wr.heap.size, 6, none⟩ (.int .i64 s.long)).setCell ⟨wr.heap.size, 7, none⟩ (.int .i64 s.prio)).setCell ⟨wr.heap.size, 8, none⟩ (.slice A15 m15 c15)).setCell ⟨wr.heap.size, 9, none⟩ (.int .i64 st)).setCell ⟨wr.heap.size, 10, none⟩ (.int .i64 came)).setCell ⟨wr.heap.size, 11, none⟩ (.int .i64 fr)).setCell ⟨wr.heap.size, 12, none⟩ (.int .i64 to)) w1.heap.size ⟨id + 1, s, [], st, came, fr, to⟩ A9 m9 c9) := Lib.hid (BoxJ.kept (v0 := .int .i64 (id + 1)) (v1 := .int .i64 s.nodes) (v2 := .int .i64 s.cores) (v3 := .int .i64 s.gpus) (v4 := .string s.tag) (v5 := .bool s.whole) (v6 := .int .i64 s.long) (v7 := .int .i64 s.prio) (v8 := .slice A15 m15 c15) (v9 := .int .i64 st) (v10 := .int .i64 came) (v11 := .int .i64 fr) (v12 := .int .i64 to) B9.out hne9)
    clear B9
    have B9 := B9q
    clear B9q
    have BSq : Hid (BoxS (((((((((((((w3.setCell ⟨wr.heap.size, 0, none⟩ (.int .i64 (id + 1))).setCell ⟨wr.heap.size, 1, none⟩ (.int .i64 s.nodes)).setCell ⟨wr.heap.size, 2, none⟩ (.int .i64 s.cores)).setCell ⟨wr.heap.size, 3, none⟩ (.int .i64 s.gpus)).setCell ⟨wr.heap.size, 4, none⟩ (.string s.tag)).setCell ⟨wr.heap.size, 5, none⟩ (.bool s.whole)).setCell ⟨wr.heap.size, 6, none⟩ (.int .i64 s.long)).setCell ⟨wr.heap.size, 7, none⟩ (.int .i64 s.prio)).setCell ⟨wr.heap.size, 8, none⟩ (.slice A15 m15 c15)).setCell ⟨wr.heap.size, 9, none⟩ (.int .i64 st)).setCell ⟨wr.heap.size, 10, none⟩ (.int .i64 came)).setCell ⟨wr.heap.size, 11, none⟩ (.int .i64 fr)).setCell ⟨wr.heap.size, 12, none⟩ (.int .i64 to)) w.heap.size s) := Lib.hid (BoxS.kept (v0 := .int .i64 (id + 1)) (v1 := .int .i64 s.nodes) (v2 := .int .i64 s.cores) (v3 := .int .i64 s.gpus) (v4 := .string s.tag) (v5 := .bool s.whole) (v6 := .int .i64 s.long) (v7 := .int .i64 s.prio) (v8 := .slice A15 m15 c15) (v9 := .int .i64 st) (v10 := .int .i64 came) (v11 := .int .i64 fr) (v12 := .int .i64 to) BS.out hneS)
    clear BS
    have BS := BSq
    clear BSq
    have HB0q := Lib.hid (below_store (v0 := .int .i64 (id + 1)) (v1 := .int .i64 s.nodes) (v2 := .int .i64 s.cores) (v3 := .int .i64 s.gpus) (v4 := .string s.tag) (v5 := .bool s.whole) (v6 := .int .i64 s.long) (v7 := .int .i64 s.prio) (v8 := .slice A15 m15 c15) (v9 := .int .i64 st) (v10 := .int .i64 came) (v11 := .int .i64 fr) (v12 := .int .i64 to) HB0.out (show w1.heap.size ≤ wr.heap.size from Nat.le_of_lt HLT9.out))
    clear HB0
    have HB0 := HB0q
    clear HB0q
    have B15 := Lib.hid (BZ.out.store ⟨id + 1, s, [], st, came, fr, to⟩ A15 m15 c15)
    have JAq : Hid (JAsk (((((((((((((w3.setCell ⟨wr.heap.size, 0, none⟩ (.int .i64 (id + 1))).setCell ⟨wr.heap.size, 1, none⟩ (.int .i64 s.nodes)).setCell ⟨wr.heap.size, 2, none⟩ (.int .i64 s.cores)).setCell ⟨wr.heap.size, 3, none⟩ (.int .i64 s.gpus)).setCell ⟨wr.heap.size, 4, none⟩ (.string s.tag)).setCell ⟨wr.heap.size, 5, none⟩ (.bool s.whole)).setCell ⟨wr.heap.size, 6, none⟩ (.int .i64 s.long)).setCell ⟨wr.heap.size, 7, none⟩ (.int .i64 s.prio)).setCell ⟨wr.heap.size, 8, none⟩ (.slice A15 m15 c15)).setCell ⟨wr.heap.size, 9, none⟩ (.int .i64 st)).setCell ⟨wr.heap.size, 10, none⟩ (.int .i64 came)).setCell ⟨wr.heap.size, 11, none⟩ (.int .i64 fr)).setCell ⟨wr.heap.size, 12, none⟩ (.int .i64 to)) A9 m9 c9 ⟨id + 1, s, [], st, came, fr, to⟩) := Lib.hid (jask_nil JA.out)
    clear JA
    have JA := JAq
    clear JAq
    have J15q : Hid (JAsk (((((((((((((w3.setCell ⟨wr.heap.size, 0, none⟩ (.int .i64 (id + 1))).setCell ⟨wr.heap.size, 1, none⟩ (.int .i64 s.nodes)).setCell ⟨wr.heap.size, 2, none⟩ (.int .i64 s.cores)).setCell ⟨wr.heap.size, 3, none⟩ (.int .i64 s.gpus)).setCell ⟨wr.heap.size, 4, none⟩ (.string s.tag)).setCell ⟨wr.heap.size, 5, none⟩ (.bool s.whole)).setCell ⟨wr.heap.size, 6, none⟩ (.int .i64 s.long)).setCell ⟨wr.heap.size, 7, none⟩ (.int .i64 s.prio)).setCell ⟨wr.heap.size, 8, none⟩ (.slice A15 m15 c15)).setCell ⟨wr.heap.size, 9, none⟩ (.int .i64 st)).setCell ⟨wr.heap.size, 10, none⟩ (.int .i64 came)).setCell ⟨wr.heap.size, 11, none⟩ (.int .i64 fr)).setCell ⟨wr.heap.size, 12, none⟩ (.int .i64 to)) A15 m15 c15 ⟨id + 1, s, [], st, came, fr, to⟩) := Lib.hid (jask_nil J15.out)
    clear J15
    have J15 := J15q
    clear J15q BZ hne9 hneS
    try clear S1 S2 S3
    try clear S4
    try clear S5
    try clear S6
    try clear HBB JAB
    try clear BZ
    try clear HKEEP HY
    try clear HGE
    have q0 := B9.out.c0
    have r0 := B15.out.c0
    have q1 := B9.out.c1
    have r1 := B15.out.c1
    have q2 := B9.out.c2
    have r2 := B15.out.c2
    have q3 := B9.out.c3
    have r3 := B15.out.c3
    have q4 := B9.out.c4
    have r4 := B15.out.c4
    have q5 := B9.out.c5
    have r5 := B15.out.c5
    have q6 := B9.out.c6
    have r6 := B15.out.c6
    have q7 := B9.out.c7
    have r7 := B15.out.c7
    have q8 := B9.out.c8
    have r8 := B15.out.c8
    have q9 := B9.out.c9
    have r9 := B15.out.c9
    have q10 := B9.out.c10
    have r10 := B15.out.c10
    have q11 := B9.out.c11
    have r11 := B15.out.c11
    have q12 := B9.out.c12
    have r12 := B15.out.c12
    have b0 := BS.out.c0
    have b1 := BS.out.c1
    have b2 := BS.out.c2
    have b3 := BS.out.c3
    have b4 := BS.out.c4
    have b5 := BS.out.c5
    have b6 := BS.out.c6
    simp only at q0 q1 q2 q3 q4 q5 q6 q7 q8 q9 q10 q11 q12 r0 r1 r2 r3 r4 r5 r6 r7 r8 r9 r10 r11 r12
    go_wp2_with fail
    refine (refSameJ_b J15.out JA.out (sameJ_iff.2 rfl)).mono ?_
    rintro e w4 ⟨rfl, hb⟩
    have HB0q := Lib.hid (HB0.out.trans (hb.mono HB0.out.size))
    clear HB0
    have HB0 := HB0q
    clear HB0q
    have B9q := Lib.hid (B9.out.next hb)
    clear B9
    have B9 := B9q
    clear B9q
    have JAq := Lib.hid (JA.out.next hb)
    clear JA
    have JA := JAq
    clear JAq
    have BSq := Lib.hid (BS.out.next hb)
    clear BS
    have BS := BSq
    clear BSq
    have J15q := Lib.hid (J15.out.next hb)
    clear J15
    have J15 := J15q
    clear J15q
    have B15q := Lib.hid (B15.out.next hb)
    clear B15
    have B15 := B15q
    clear B15q
    clear hb
    clear q0 q1 q2 q3 q4 q5 q6 q7 q8 q9 q10 q11 q12 r0 r1 r2 r3 r4 r5 r6 r7 r8 r9 r10 r11 r12
    clear b0 b1 b2 b3 b4 b5 b6
    have q0 := B9.out.c0
    have r0 := B15.out.c0
    have q1 := B9.out.c1
    have r1 := B15.out.c1
    have q2 := B9.out.c2
    have r2 := B15.out.c2
    have q3 := B9.out.c3
    have r3 := B15.out.c3
    have q4 := B9.out.c4
    have r4 := B15.out.c4
    have q5 := B9.out.c5
    have r5 := B15.out.c5
    have q6 := B9.out.c6
    have r6 := B15.out.c6
    have q7 := B9.out.c7
    have r7 := B15.out.c7
    have q8 := B9.out.c8
    have r8 := B15.out.c8
    have q9 := B9.out.c9
    have r9 := B15.out.c9
    have q10 := B9.out.c10
    have r10 := B15.out.c10
    have q11 := B9.out.c11
    have r11 := B15.out.c11
    have q12 := B9.out.c12
    have r12 := B15.out.c12
    have b0 := BS.out.c0
    have b1 := BS.out.c1
    have b2 := BS.out.c2
    have b3 := BS.out.c3
    have b4 := BS.out.c4
    have b5 := BS.out.c5
    have b6 := BS.out.c6
    simp only at q0 q1 q2 q3 q4 q5 q6 q7 q8 q9 q10 q11 q12 r0 r1 r2 r3 r4 r5 r6 r7 r8 r9 r10 r11 r12
    go_wp2_with fail
    refine (h11_right H J15.out (jask_few J15.out) RN.out).mono ?_
    rintro e w5 ⟨rfl, hb⟩
    have HB0q := Lib.hid (HB0.out.trans (hb.mono HB0.out.size))
    clear HB0
    have HB0 := HB0q
    clear HB0q
    have B9q := Lib.hid (B9.out.next hb)
    clear B9
    have B9 := B9q
    clear B9q
    have JAq := Lib.hid (JA.out.next hb)
    clear JA
    have JA := JAq
    clear JAq
    have BSq := Lib.hid (BS.out.next hb)
    clear BS
    have BS := BSq
    clear BSq
    have J15q := Lib.hid (J15.out.next hb)
    clear J15
    have J15 := J15q
    clear J15q
    have B15q := Lib.hid (B15.out.next hb)
    clear B15
    have B15 := B15q
    clear B15q
    clear hb
    clear q0 q1 q2 q3 q4 q5 q6 q7 q8 q9 q10 q11 q12 r0 r1 r2 r3 r4 r5 r6 r7 r8 r9 r10 r11 r12
    clear b0 b1 b2 b3 b4 b5 b6
    have q0 := B9.out.c0
    have r0 := B15.out.c0
    have q1 := B9.out.c1
    have r1 := B15.out.c1
    have q2 := B9.out.c2
    have r2 := B15.out.c2
    have q3 := B9.out.c3
    have r3 := B15.out.c3
    have q4 := B9.out.c4
    have r4 := B15.out.c4
    have q5 := B9.out.c5
    have r5 := B15.out.c5
    have q6 := B9.out.c6
    have r6 := B15.out.c6
    have q7 := B9.out.c7
    have r7 := B15.out.c7
    have q8 := B9.out.c8
    have r8 := B15.out.c8
    have q9 := B9.out.c9
    have r9 := B15.out.c9
    have q10 := B9.out.c10
    have r10 := B15.out.c10
    have q11 := B9.out.c11
    have r11 := B15.out.c11
    have q12 := B9.out.c12
    have r12 := B15.out.c12
    have b0 := BS.out.c0
    have b1 := BS.out.c1
    have b2 := BS.out.c2
    have b3 := BS.out.c3
    have b4 := BS.out.c4
    have b5 := BS.out.c5
    have b6 := BS.out.c6
    simp only at q0 q1 q2 q3 q4 q5 q6 q7 q8 q9 q10 q11 q12 r0 r1 r2 r3 r4 r5 r6 r7 r8 r9 r10 r11 r12
    go_wp2_with fail
    refine (h11_over H IS2.out OVN.out).mono ?_
    rintro e w6 ⟨rfl, hb⟩
    have HB0q := Lib.hid (HB0.out.trans (hb.mono HB0.out.size))
    clear HB0
    have HB0 := HB0q
    clear HB0q
    have B9q := Lib.hid (B9.out.next hb)
    clear B9
    have B9 := B9q
    clear B9q
    have JAq := Lib.hid (JA.out.next hb)
    clear JA
    have JA := JAq
    clear JAq
    have BSq := Lib.hid (BS.out.next hb)
    clear BS
    have BS := BSq
    clear BSq
    have J15q := Lib.hid (J15.out.next hb)
    clear J15
    have J15 := J15q
    clear J15q
    have B15q := Lib.hid (B15.out.next hb)
    clear B15
    have B15 := B15q
    clear B15q
    clear hb
    clear q0 q1 q2 q3 q4 q5 q6 q7 q8 q9 q10 q11 q12 r0 r1 r2 r3 r4 r5 r6 r7 r8 r9 r10 r11 r12
    clear b0 b1 b2 b3 b4 b5 b6
    have q0 := B9.out.c0
    have r0 := B15.out.c0
    have q1 := B9.out.c1
    have r1 := B15.out.c1
    have q2 := B9.out.c2
    have r2 := B15.out.c2
    have q3 := B9.out.c3
    have r3 := B15.out.c3
    have q4 := B9.out.c4
    have r4 := B15.out.c4
    have q5 := B9.out.c5
    have r5 := B15.out.c5
    have q6 := B9.out.c6
    have r6 := B15.out.c6
    have q7 := B9.out.c7
    have r7 := B15.out.c7
    have q8 := B9.out.c8
    have r8 := B15.out.c8
    have q9 := B9.out.c9
    have r9 := B15.out.c9
    have q10 := B9.out.c10
    have r10 := B15.out.c10
    have q11 := B9.out.c11
    have r11 := B15.out.c11
    have q12 := B9.out.c12
    have r12 := B15.out.c12
    have b0 := BS.out.c0
    have b1 := BS.out.c1
    have b2 := BS.out.c2
    have b3 := BS.out.c3
    have b4 := BS.out.c4
    have b5 := BS.out.c5
    have b6 := BS.out.c6
    simp only at q0 q1 q2 q3 q4 q5 q6 q7 q8 q9 q10 q11 q12 r0 r1 r2 r3 r4 r5 r6 r7 r8 r9 r10 r11 r12
    go_wp2_with fail
    refine (h11_over H IST.out OVJ.out).mono ?_
    rintro e w7 ⟨rfl, hb⟩
    have HB0q := Lib.hid (HB0.out.trans (hb.mono HB0.out.size))
    clear HB0
    have HB0 := HB0q
    clear HB0q
    have B9q := Lib.hid (B9.out.next hb)
    clear B9
    have B9 := B9q
    clear B9q
    have JAq := Lib.hid (JA.out.next hb)
    clear JA
    have JA := JAq
    clear JAq
    have BSq := Lib.hid (BS.out.next hb)
    clear BS
    have BS := BSq
    clear BSq
    have J15q := Lib.hid (J15.out.next hb)
    clear J15
    have J15 := J15q
    clear J15q
    have B15q := Lib.hid (B15.out.next hb)
    clear B15
    have B15 := B15q
    clear B15q
    clear hb
    clear q0 q1 q2 q3 q4 q5 q6 q7 q8 q9 q10 q11 q12 r0 r1 r2 r3 r4 r5 r6 r7 r8 r9 r10 r11 r12
    clear b0 b1 b2 b3 b4 b5 b6
    have q0 := B9.out.c0
    have r0 := B15.out.c0
    have q1 := B9.out.c1
    have r1 := B15.out.c1
    have q2 := B9.out.c2
    have r2 := B15.out.c2
    have q3 := B9.out.c3
    have r3 := B15.out.c3
    have q4 := B9.out.c4
    have r4 := B15.out.c4
    have q5 := B9.out.c5
    have r5 := B15.out.c5
    have q6 := B9.out.c6
    have r6 := B15.out.c6
    have q7 := B9.out.c7
    have r7 := B15.out.c7
    have q8 := B9.out.c8
    have r8 := B15.out.c8
    have q9 := B9.out.c9
    have r9 := B15.out.c9
    have q10 := B9.out.c10
    have r10 := B15.out.c10
    have q11 := B9.out.c11
    have r11 := B15.out.c11
    have q12 := B9.out.c12
    have r12 := B15.out.c12
    have b0 := BS.out.c0
    have b1 := BS.out.c1
    have b2 := BS.out.c2
    have b3 := BS.out.c3
    have b4 := BS.out.c4
    have b5 := BS.out.c5
    have b6 := BS.out.c6
    simp only at q0 q1 q2 q3 q4 q5 q6 q7 q8 q9 q10 q11 q12 r0 r1 r2 r3 r4 r5 r6 r7 r8 r9 r10 r11 r12
    have y0 := B9.out.frozen 0
    have y1 := B9.out.frozen 1
    have y2 := B9.out.frozen 2
    have y3 := B9.out.frozen 3
    have y4 := B9.out.frozen 4
    have y5 := B9.out.frozen 5
    have y6 := B9.out.frozen 6
    have y7 := B9.out.frozen 7
    have y8 := B9.out.frozen 8
    have y9 := B9.out.frozen 9
    have y10 := B9.out.frozen 10
    have y11 := B9.out.frozen 11
    have y12 := B9.out.frozen 12
    have HBV := Lib.hid (below_store (v0 := .int .i64 (id + 1)) (v1 := .int .i64 s.nodes) (v2 := .int .i64 s.cores) (v3 := .int .i64 s.gpus) (v4 := .string s.tag) (v5 := .bool s.whole) (v6 := .int .i64 s.long) (v7 := .int .i64 s.prio) (v8 := .slice A15 m15 c15) (v9 := .int .i64 st) (v10 := .int .i64 came) (v11 := .int .i64 fr) (v12 := .int .i64 to) HB0.out (Nat.le_refl w1.heap.size))
    have B9V := Lib.hid (B9.out.store ⟨id + 1, s, [], st, came, fr, to⟩ A15 m15 c15)
    go_wp2
    refine ⟨⟨k + 1, nw + mo, bg, st, fr, to, A15, m15, c15, by omega, by omega, by go_num, rfl, rfl, ⟨by omega, by omega⟩, EI2.out, RN1.out, B9V.out, jask_nil J15.out, HBV.out⟩, ?_⟩
    simp [intOf]; omega

set_option maxRecDepth 100000 in
set_option maxHeartbeats 40000000 in
theorem ends_N0 (H : JobOk) (id : Int) (s : Sp) (came : Int) (n c : Nat) (w w1 wr : World) (b off : Nat) (wt mo : Int) (k : Nat) (nw bg st fr to : Int) (A9 : Option Addr) (m9 c9 : Nat) (HI : Hid (∀ x : Int, -10 ≤ x → x ≤ 1000000000000 → I64 x)) (hc1 : 0 ≤ came) (hc2 : came ≤ 4294967295) (hlt : k < n) (hls : k < 60) (hnw1 : came ≤ nw) (hnw2 : nw ≤ came + 255 * k) (hx2 : 0 ≤ mo) (hx3 : mo ≤ 255) (EI : Hid (EndI st bg)) (RJ : Hid (RightJ ⟨id + 1, s, [], st, came, fr, to⟩)) (B9 : Hid (BoxJ wr w1.heap.size ⟨id + 1, s, [], st, came, fr, to⟩ A9 m9 c9)) (JA : Hid (JAsk wr A9 m9 c9 ⟨id + 1, s, [], st, came, fr, to⟩)) (BS : Hid (BoxS wr w.heap.size s)) (HB0 : Hid (Below w1.heap.size w1 wr)) (IX : Hid (I64 wt)) (CE : Hid (CellK wr ⟨b, off + k * 2, none⟩ (.int .i64 wt))) (e1 : wr.cell? ⟨b, off + k * 2 + 1, none⟩ = some (.int .u8 mo)) (Q0 : Exit → Act → World → Prop) (c0 c1 c4 c6 c7 c10 c11 c17 c18 c19 c20 c21 c22 c23 c24 c25 c26 c27 c28 c29 c30 c31 c32 c33 c34 c35 c36 c37 c38 c39 c138 c139 c140 c141 c142 c143 c144 c145 c146 c147 c148 c149 c150 c151 c152 c153 c154 c155 c156 c157 c158 u8 u15 u16 u40 u41 u42 u43 u44 u45 u46 u47 u48 u49 u50 u51 u52 u53 u54 u55 u56 u57 u58 u59 u60 u61 u62 u63 u64 u65 u66 u67 u68 u69 u70 u71 u72 u73 u74 u75 u76 u77 u78 u79 u80 u81 u82 u83 u84 u85 u86 u87 u88 u89 u90 u91 u92 u93 u94 u95 u96 u97 u98 u99 u100 u101 u102 u103 u104 u105 u106 u107 u108 u109 u110 u111 u112 u113 u114 u115 u116 u117 u118 u119 u120 u121 u122 u123 u124 u125 u126 u127 u128 u129 u130 u131 u132 u133 u134 u135 u136 u137 : Value) (hne : doE ⟨id + 1, s, [], st, came, fr, to⟩ wt (nw + mo) ≠ 0) (hov : overJ st = false) :
    Code.wp Try.prog endsBody (Exit.then (fun a' w' => (∃ u8 u12 u13 u14 u15 u16 u40 u41 u42 u43 u44 u45 u46 u47 u48 u49 u50 u51 u52 u53 u54 u55 u56 u57 u58 u59 u60 u61 u62 u63 u64 u65 u66 u67 u68 u69 u70 u71 u72 u73 u74 u75 u76 u77 u78 u79 u80 u81 u82 u83 u84 u85 u86 u87 u88 u89 u90 u91 u92 u93 u94 u95 u96 u97 u98 u99 u100 u101 u102 u103 u104 u105 u106 u107 u108 u109 u110 u111 u112 u113 u114 u115 u116 u117 u118 u119 u120 u121 u122 u123 u124 u125 u126 u127 u128 u129 u130 u131 u132 u133 u134 u135 u136 u137, EndRel id s came n w1 u12 u13 u14 w' ∧ a' = ⟨#[c0, c1, .int .u32 came, .slice (some ⟨b, off, none⟩) n c, c4, .pointer (some ⟨w.heap.size, 0, none⟩), c6, c7, u8, .pointer (some ⟨w1.heap.size, 0, none⟩), c10, c11, u12, u13, u14, u15, u16, c17, c18, c19, c20, c21, c22, c23, c24, c25, c26, c27, c28, c29, c30, c31, c32, c33, c34, c35, c36, c37, c38, c39, u40, u41, u42, u43, u44, u45, u46, u47, u48, u49, u50, u51, u52, u53, u54, u55, u56, u57, u58, u59, u60, u61, u62, u63, u64, u65, u66, u67, u68, u69, u70, u71, u72, u73, u74, u75, u76, u77, u78, u79, u80, u81, u82, u83, u84, u85, u86, u87, u88, u89, u90, u91, u92, u93, u94, u95, u96, u97, u98, u99, u100, u101, u102, u103, u104, u105, u106, u107, u108, u109, u110, u111, u112, u113, u114, u115, u116, u117, u118, u119, u120, u121, u122, u123, u124, u125, u126, u127, u128, u129, u130, u131, u132, u133, u134, u135, u136, u137, c138, c139, c140, c141, c142, c143, c144, c145, c146, c147, c148, c149, c150, c151, c152, c153, c154, c155, c156, c157, c158], []⟩) ∧ 60 - (intOf (a'.tmps.getD 14 undef)).toNat < 60 - (intOf ((⟨#[c0, c1, .int .u32 came, .slice (some ⟨b, off, none⟩) n c, c4, .pointer (some ⟨w.heap.size, 0, none⟩), c6, c7, u8, .pointer (some ⟨w1.heap.size, 0, none⟩), c10, c11, (.int .i64 nw), (.int .i64 bg), (.int .i64 k), u15, u16, c17, c18, c19, c20, c21, c22, c23, c24, c25, c26, c27, c28, c29, c30, c31, c32, c33, c34, c35, c36, c37, c38, c39, u40, u41, u42, u43, u44, u45, u46, u47, u48, u49, u50, u51, u52, u53, u54, u55, u56, u57, u58, u59, u60, u61, u62, u63, u64, u65, u66, u67, u68, u69, u70, u71, u72, u73, u74, u75, u76, u77, u78, u79, u80, u81, u82, u83, u84, u85, u86, u87, u88, u89, u90, u91, u92, u93, u94, u95, u96, u97, u98, u99, u100, u101, u102, u103, u104, u105, u106, u107, u108, u109, u110, u111, u112, u113, u114, u115, u116, u117, u118, u119, u120, u121, u122, u123, u124, u125, u126, u127, u128, u129, u130, u131, u132, u133, u134, u135, u136, u137, c138, c139, c140, c141, c142, c143, c144, c145, c146, c147, c148, c149, c150, c151, c152, c153, c154, c155, c156, c157, c158], []⟩ : Act).tmps.getD 14 undef)).toNat) Q0) ⟨#[c0, c1, .int .u32 came, .slice (some ⟨b, off, none⟩) n c, c4, .pointer (some ⟨w.heap.size, 0, none⟩), c6, c7, u8, .pointer (some ⟨w1.heap.size, 0, none⟩), c10, c11, (.int .i64 nw), (.int .i64 bg), (.int .i64 k), u15, u16, c17, c18, c19, c20, c21, c22, c23, c24, c25, c26, c27, c28, c29, c30, c31, c32, c33, c34, c35, c36, c37, c38, c39, u40, u41, u42, u43, u44, u45, u46, u47, u48, u49, u50, u51, u52, u53, u54, u55, u56, u57, u58, u59, u60, u61, u62, u63, u64, u65, u66, u67, u68, u69, u70, u71, u72, u73, u74, u75, u76, u77, u78, u79, u80, u81, u82, u83, u84, u85, u86, u87, u88, u89, u90, u91, u92, u93, u94, u95, u96, u97, u98, u99, u100, u101, u102, u103, u104, u105, u106, u107, u108, u109, u110, u111, u112, u113, u114, u115, u116, u117, u118, u119, u120, u121, u122, u123, u124, u125, u126, u127, u128, u129, u130, u131, u132, u133, u134, u135, u136, u137, c138, c139, c140, c141, c142, c143, c144, c145, c146, c147, c148, c149, c150, c151, c152, c153, c154, c155, c156, c157, c158], []⟩ wr := by
  conv => arg 2; whnf
  have hls' : decide (k < 60) = true := decide_eq_true hls
  have hls2 : decide ((k : Int) < 60) = true := by simp; omega
  have IN : Hid (I64 (nw + mo)) := Lib.hid (HI.out _ (by omega) (by omega))
  have hdj := doJ_no hne
  obtain ⟨er, her⟩ : ∃ e, doE ⟨id + 1, s, [], st, came, fr, to⟩ wt (nw + mo) = e := ⟨_, rfl⟩
  rw [her] at hne
  have DE := Lib.hid her
  have DJ := Lib.hid hdj
  have d1 : (er == 0) = false := by rw [beq_eq_false_iff_ne]; exact hne
  have d2 : (er != 0) = true := by rw [bne_iff_ne]; exact hne
  clear hne her hdj
  have EI2 := Lib.hid EI.out
  have RN1 := Lib.hid RJ.out
  have RN := Lib.hid (show rightJ ⟨id + 1, s, [], st, came, fr, to⟩ = true from decide_eq_true RJ.out)
  have IST := Lib.hid JA.out.int.2.1
  have IS2 := Lib.hid JA.out.int.2.1
  have OVN := Lib.hid hov
  clear hov
  have q0 := B9.out.c0
  have q1 := B9.out.c1
  have q2 := B9.out.c2
  have q3 := B9.out.c3
  have q4 := B9.out.c4
  have q5 := B9.out.c5
  have q6 := B9.out.c6
  have q7 := B9.out.c7
  have q8 := B9.out.c8
  have q9 := B9.out.c9
  have q10 := B9.out.c10
  have q11 := B9.out.c11
  have q12 := B9.out.c12
  simp only at q0 q1 q2 q3 q4 q5 q6 q7 q8 q9 q10 q11 q12
  go_wp2
  have HKEEP : Hid (∀ wx, Below wr.drew.heap.size wr.drew wx → wx.cell? ⟨w1.heap.size, 0, none⟩ = some (.int .i64 (id + 1)) ∧ wx.cell? ⟨w1.heap.size, 1, none⟩ = some (.int .i64 s.nodes) ∧ wx.cell? ⟨w1.heap.size, 2, none⟩ = some (.int .i64 s.cores) ∧ wx.cell? ⟨w1.heap.size, 3, none⟩ = some (.int .i64 s.gpus) ∧ wx.cell? ⟨w1.heap.size, 4, none⟩ = some (.string s.tag) ∧ wx.cell? ⟨w1.heap.size, 5, none⟩ = some (.bool s.whole) ∧ wx.cell? ⟨w1.heap.size, 6, none⟩ = some (.int .i64 s.long) ∧ wx.cell? ⟨w1.heap.size, 7, none⟩ = some (.int .i64 s.prio) ∧ wx.cell? ⟨w1.heap.size, 8, none⟩ = some (.slice A9 m9 c9) ∧ wx.cell? ⟨w1.heap.size, 9, none⟩ = some (.int .i64 st) ∧ wx.cell? ⟨w1.heap.size, 10, none⟩ = some (.int .i64 came) ∧ wx.cell? ⟨w1.heap.size, 11, none⟩ = some (.int .i64 fr) ∧ wx.cell? ⟨w1.heap.size, 12, none⟩ = some (.int .i64 to) ∧ wx.cell? ⟨b, off + k * 2, none⟩ = some (.int .i64 wt)) := Lib.hid (fun wx hz' => by
    have hz := (bel_drew1 wr).trans (hz'.mono (bel_drew1 wr).size)
    exact ⟨keep_cell B9.out.lt q0 hz, keep_cell B9.out.lt q1 hz, keep_cell B9.out.lt q2 hz, keep_cell B9.out.lt q3 hz, keep_cell B9.out.lt q4 hz, keep_cell B9.out.lt q5 hz, keep_cell B9.out.lt q6 hz, keep_cell B9.out.lt q7 hz, keep_cell B9.out.lt q8 hz, keep_cell B9.out.lt q9 hz, keep_cell B9.out.lt q10 hz, keep_cell B9.out.lt q11 hz, keep_cell B9.out.lt q12 hz, keep_cell CE.out.lt CE.out.at' hz⟩)
  have hd := bel_drew1 wr
  have HB0q := Lib.hid (HB0.out.trans (hd.mono HB0.out.size))
  clear HB0
  have HB0 := HB0q
  clear HB0q
  have B9q := Lib.hid (B9.out.next hd)
  clear B9
  have B9 := B9q
  clear B9q
  have JAq := Lib.hid (JA.out.next hd)
  clear JA
  have JA := JAq
  clear JAq
  have BSq := Lib.hid (BS.out.next hd)
  clear BS
  have BS := BSq
  clear BSq
  have CEq := Lib.hid (CE.out.next hd)
  clear CE
  have CE := CEq
  clear CEq
  clear hd
  have HY := Lib.hid (Below.refl wr.drew.heap.size wr.drew)
  have HBB : Hid (Below wr.drew.heap.size wr.drew (wr.alloc (.cells #[.int .i64 0, .int .i64 0, .int .i64 0, .int .i64 0, .string ⟨#[]⟩, .bool false, .int .i64 0, .int .i64 0, .slice none 0 0, .int .i64 0, .int .i64 0, .int .i64 0, .int .i64 0] 26)).drew) := Lib.hid ((Below.refl wr.drew.heap.size wr.drew).alloc (Nat.le_refl _) (.cells #[.int .i64 0, .int .i64 0, .int .i64 0, .int .i64 0, .string ⟨#[]⟩, .bool false, .int .i64 0, .int .i64 0, .slice none 0 0, .int .i64 0, .int .i64 0, .int .i64 0, .int .i64 0] 26))
  have JAB : Hid (JAsk (wr.alloc (.cells #[.int .i64 0, .int .i64 0, .int .i64 0, .int .i64 0, .string ⟨#[]⟩, .bool false, .int .i64 0, .int .i64 0, .slice none 0 0, .int .i64 0, .int .i64 0, .int .i64 0, .int .i64 0] 26)).drew A9 m9 c9 ⟨id + 1, s, [], st, came, fr, to⟩) := Lib.hid (JA.out.next HBB.out)
  have BZ : Hid (BoxJ (wr.alloc (.cells #[.int .i64 0, .int .i64 0, .int .i64 0, .int .i64 0, .string ⟨#[]⟩, .bool false, .int .i64 0, .int .i64 0, .slice none 0 0, .int .i64 0, .int .i64 0, .int .i64 0, .int .i64 0] 26)).drew wr.heap.size jb0 none 0 0) := Lib.hid ((boxJ_new wr jb0 none 0 0).next (bel_drew1 _))
  have HLT9 := Lib.hid B9.out.lt
  have HLTS := Lib.hid BS.out.lt
  have HGE : wr.drew.heap.size ≤ wr.heap.size := Nat.le_refl _
  clear q0 q1 q2 q3 q4 q5 q6 q7 q8 q9 q10 q11 q12
  have S1 := Lib.hid (HKEEP.out _ (Below.refl _ _))
  have S2 := Lib.hid (HKEEP.out _ HBB.out)
  go_region_held3 (fun w' => w'.cell? ⟨w1.heap.size, 0, none⟩ = some (.int .i64 (id + 1)) ∧ w'.cell? ⟨w1.heap.size, 1, none⟩ = some (.int .i64 s.nodes) ∧ w'.cell? ⟨w1.heap.size, 2, none⟩ = some (.int .i64 s.cores) ∧ w'.cell? ⟨w1.heap.size, 3, none⟩ = some (.int .i64 s.gpus) ∧ w'.cell? ⟨w1.heap.size, 4, none⟩ = some (.string s.tag) ∧ w'.cell? ⟨w1.heap.size, 5, none⟩ = some (.bool s.whole) ∧ w'.cell? ⟨w1.heap.size, 6, none⟩ = some (.int .i64 s.long) ∧ w'.cell? ⟨w1.heap.size, 7, none⟩ = some (.int .i64 s.prio) ∧ w'.cell? ⟨w1.heap.size, 8, none⟩ = some (.slice A9 m9 c9) ∧ w'.cell? ⟨w1.heap.size, 9, none⟩ = some (.int .i64 st) ∧ w'.cell? ⟨w1.heap.size, 10, none⟩ = some (.int .i64 came) ∧ w'.cell? ⟨w1.heap.size, 11, none⟩ = some (.int .i64 fr) ∧ w'.cell? ⟨w1.heap.size, 12, none⟩ = some (.int .i64 to) ∧ w'.cell? ⟨b, off + k * 2, none⟩ = some (.int .i64 wt))
    (first | with_reducible exact S1.out | with_reducible exact S2.out | with_reducible exact S3.out | with_reducible exact S4.out | with_reducible exact S5.out | with_reducible exact S6.out | fail)
    (first | (go_at_call 7; (with_reducible refine (h11_do H JA.out (jask_few JA.out) IX.out IN.out DJ.out DE.out).mono ?_); rintro e w3 ⟨⟨A15, m15, c15, rfl, hj15⟩, hb⟩; have hy := hb; have HY := Lib.hid hy; have HB0 := Lib.hid (HB0.out.trans (hy.mono HB0.out.size)); have B9 := Lib.hid (B9.out.next hy); have JA := Lib.hid (JA.out.next hy); have BS := Lib.hid (BS.out.next hy); have CE := Lib.hid (CE.out.next hy); have J15 := Lib.hid hj15; have S3 := Lib.hid (HKEEP.out _ HY.out); have S6 := Lib.hid (HKEEP.out _ (HY.out.alloc HY.out.size (.cells #[.int .i64 0, .int .i64 0, .int .i64 0, .int .i64 0, .string ⟨#[]⟩, .bool false, .int .i64 0, .int .i64 0, .slice none 0 0, .int .i64 0, .int .i64 0, .int .i64 0, .int .i64 0] 26))); have S4 := Lib.hid (HKEEP.out _ (HY.out.alloc HY.out.size (.cells #[.int .i64 (id + 1), .int .i64 s.nodes, .int .i64 s.cores, .int .i64 s.gpus, .string s.tag, .bool s.whole, .int .i64 s.long, .int .i64 s.prio, .slice A15 m15 c15, .int .i64 st, .int .i64 came, .int .i64 fr, .int .i64 to] 26))); clear hb hy) | (go_at_call 7; (with_reducible refine (h11_do H JAB.out (jask_few JA.out) IX.out IN.out DJ.out DE.out).mono ?_); rintro e w3 ⟨⟨A15, m15, c15, rfl, hj15⟩, hb⟩; have hy := HBB.out.trans (hb.mono HBB.out.size); have HY := Lib.hid hy; have HB0 := Lib.hid (HB0.out.trans (hy.mono HB0.out.size)); have B9 := Lib.hid (B9.out.next hy); have JA := Lib.hid (JA.out.next hy); have BS := Lib.hid (BS.out.next hy); have CE := Lib.hid (CE.out.next hy); have J15 := Lib.hid hj15; have S3 := Lib.hid (HKEEP.out _ HY.out); have S5 := Lib.hid (HKEEP.out _ (below_store (v0 := .int .i64 (id + 1)) (v1 := .int .i64 s.nodes) (v2 := .int .i64 s.cores) (v3 := .int .i64 s.gpus) (v4 := .string s.tag) (v5 := .bool s.whole) (v6 := .int .i64 s.long) (v7 := .int .i64 s.prio) (v8 := .slice A15 m15 c15) (v9 := .int .i64 st) (v10 := .int .i64 came) (v11 := .int .i64 fr) (v12 := .int .i64 to) HY.out HGE)); have BZ := Lib.hid (BZ.out.next hb); have p0 := BZ.out.c0; have y0 := BZ.out.frozen 0; have p1 := BZ.out.c1; have y1 := BZ.out.frozen 1; have p2 := BZ.out.c2; have y2 := BZ.out.frozen 2; have p3 := BZ.out.c3; have y3 := BZ.out.frozen 3; have p4 := BZ.out.c4; have y4 := BZ.out.frozen 4; have p5 := BZ.out.c5; have y5 := BZ.out.frozen 5; have p6 := BZ.out.c6; have y6 := BZ.out.frozen 6; have p7 := BZ.out.c7; have y7 := BZ.out.frozen 7; have p8 := BZ.out.c8; have y8 := BZ.out.frozen 8; have p9 := BZ.out.c9; have y9 := BZ.out.frozen 9; have p10 := BZ.out.c10; have y10 := BZ.out.frozen 10; have p11 := BZ.out.c11; have y11 := BZ.out.frozen 11; have p12 := BZ.out.c12; have y12 := BZ.out.frozen 12; clear hb hy) | fail)
  · clear CE
    have hb := Below.alloc (Below.refl w3.heap.size w3) (Nat.le_refl _) (.cells #[.int .i64 (id + 1), .int .i64 s.nodes, .int .i64 s.cores, .int .i64 s.gpus, .string s.tag, .bool s.whole, .int .i64 s.long, .int .i64 s.prio, .slice A15 m15 c15, .int .i64 st, .int .i64 came, .int .i64 fr, .int .i64 to] 26)
    have B15q := Lib.hid (boxJ_new w3 ⟨id + 1, s, [], st, came, fr, to⟩ A15 m15 c15)
    have HB0q := Lib.hid (HB0.out.trans (hb.mono HB0.out.size))
    clear HB0
    have HB0 := HB0q
    clear HB0q
    have B9q := Lib.hid (B9.out.next hb)
    clear B9
    have B9 := B9q
    clear B9q
    have JAq := Lib.hid (JA.out.next hb)
    clear JA
    have JA := JAq
    clear JAq
    have BSq := Lib.hid (BS.out.next hb)
    clear BS
    have BS := BSq
    clear BSq
    have J15q := Lib.hid (J15.out.next hb)
    clear J15
    have J15 := J15q
    clear J15q
    clear hb
    have B15 := B15q
    clear B15q
    try clear S1 S2 S3
    try clear S4
    try clear S5
    try clear S6
    try clear HBB JAB
    try clear BZ
    try clear HKEEP HY
    try clear HGE
    have q0 := B9.out.c0
    have r0 := B15.out.c0
    have q1 := B9.out.c1
    have r1 := B15.out.c1
    have q2 := B9.out.c2
    have r2 := B15.out.c2
    have q3 := B9.out.c3
    have r3 := B15.out.c3
    have q4 := B9.out.c4
    have r4 := B15.out.c4
    have q5 := B9.out.c5
    have r5 := B15.out.c5
    have q6 := B9.out.c6
    have r6 := B15.out.c6
    have q7 := B9.out.c7
    have r7 := B15.out.c7
    have q8 := B9.out.c8
    have r8 := B15.out.c8
    have q9 := B9.out.c9
    have r9 := B15.out.c9
    have q10 := B9.out.c10
    have r10 := B15.out.c10
    have q11 := B9.out.c11
    have r11 := B15.out.c11
    have q12 := B9.out.c12
    have r12 := B15.out.c12
    have b0 := BS.out.c0
    have b1 := BS.out.c1
    have b2 := BS.out.c2
    have b3 := BS.out.c3
    have b4 := BS.out.c4
    have b5 := BS.out.c5
    have b6 := BS.out.c6
    simp only at q0 q1 q2 q3 q4 q5 q6 q7 q8 q9 q10 q11 q12 r0 r1 r2 r3 r4 r5 r6 r7 r8 r9 r10 r11 r12
    go_wp2_with fail
    refine (refSameJ_b J15.out JA.out (sameJ_iff.2 rfl)).mono ?_
    rintro e w4 ⟨rfl, hb⟩
    have HB0q := Lib.hid (HB0.out.trans (hb.mono HB0.out.size))
    clear HB0
    have HB0 := HB0q
    clear HB0q
    have B9q := Lib.hid (B9.out.next hb)
    clear B9
    have B9 := B9q
    clear B9q
    have JAq := Lib.hid (JA.out.next hb)
    clear JA
    have JA := JAq
    clear JAq
    have BSq := Lib.hid (BS.out.next hb)
    clear BS
    have BS := BSq
    clear BSq
    have J15q := Lib.hid (J15.out.next hb)
    clear J15
    have J15 := J15q
    clear J15q
    have B15q := Lib.hid (B15.out.next hb)
    clear B15
    have B15 := B15q
    clear B15q
    clear hb
    clear q0 q1 q2 q3 q4 q5 q6 q7 q8 q9 q10 q11 q12 r0 r1 r2 r3 r4 r5 r6 r7 r8 r9 r10 r11 r12
    clear b0 b1 b2 b3 b4 b5 b6
    have q0 := B9.out.c0
    have r0 := B15.out.c0
    have q1 := B9.out.c1
    have r1 := B15.out.c1
    have q2 := B9.out.c2
    have r2 := B15.out.c2
    have q3 := B9.out.c3
    have r3 := B15.out.c3
    have q4 := B9.out.c4
    have r4 := B15.out.c4
    have q5 := B9.out.c5
    have r5 := B15.out.c5
    have q6 := B9.out.c6
    have r6 := B15.out.c6
    have q7 := B9.out.c7
    have r7 := B15.out.c7
    have q8 := B9.out.c8
    have r8 := B15.out.c8
    have q9 := B9.out.c9
    have r9 := B15.out.c9
    have q10 := B9.out.c10
    have r10 := B15.out.c10
    have q11 := B9.out.c11
    have r11 := B15.out.c11
    have q12 := B9.out.c12
    have r12 := B15.out.c12
    have b0 := BS.out.c0
    have b1 := BS.out.c1
    have b2 := BS.out.c2
    have b3 := BS.out.c3
    have b4 := BS.out.c4
    have b5 := BS.out.c5
    have b6 := BS.out.c6
    simp only at q0 q1 q2 q3 q4 q5 q6 q7 q8 q9 q10 q11 q12 r0 r1 r2 r3 r4 r5 r6 r7 r8 r9 r10 r11 r12
    go_wp2_with fail
    refine (h11_right H J15.out (jask_few J15.out) RN.out).mono ?_
    rintro e w5 ⟨rfl, hb⟩
    have HB0q := Lib.hid (HB0.out.trans (hb.mono HB0.out.size))
    clear HB0
    have HB0 := HB0q
    clear HB0q
    have B9q := Lib.hid (B9.out.next hb)
    clear B9
    have B9 := B9q
    clear B9q
    have JAq := Lib.hid (JA.out.next hb)
    clear JA
    have JA := JAq
    clear JAq
    have BSq := Lib.hid (BS.out.next hb)
    clear BS
    have BS := BSq
    clear BSq
    have J15q := Lib.hid (J15.out.next hb)
    clear J15
    have J15 := J15q
    clear J15q
    have B15q := Lib.hid (B15.out.next hb)
    clear B15
    have B15 := B15q
    clear B15q
    clear hb
    clear q0 q1 q2 q3 q4 q5 q6 q7 q8 q9 q10 q11 q12 r0 r1 r2 r3 r4 r5 r6 r7 r8 r9 r10 r11 r12
    clear b0 b1 b2 b3 b4 b5 b6
    have q0 := B9.out.c0
    have r0 := B15.out.c0
    have q1 := B9.out.c1
    have r1 := B15.out.c1
    have q2 := B9.out.c2
    have r2 := B15.out.c2
    have q3 := B9.out.c3
    have r3 := B15.out.c3
    have q4 := B9.out.c4
    have r4 := B15.out.c4
    have q5 := B9.out.c5
    have r5 := B15.out.c5
    have q6 := B9.out.c6
    have r6 := B15.out.c6
    have q7 := B9.out.c7
    have r7 := B15.out.c7
    have q8 := B9.out.c8
    have r8 := B15.out.c8
    have q9 := B9.out.c9
    have r9 := B15.out.c9
    have q10 := B9.out.c10
    have r10 := B15.out.c10
    have q11 := B9.out.c11
    have r11 := B15.out.c11
    have q12 := B9.out.c12
    have r12 := B15.out.c12
    have b0 := BS.out.c0
    have b1 := BS.out.c1
    have b2 := BS.out.c2
    have b3 := BS.out.c3
    have b4 := BS.out.c4
    have b5 := BS.out.c5
    have b6 := BS.out.c6
    simp only at q0 q1 q2 q3 q4 q5 q6 q7 q8 q9 q10 q11 q12 r0 r1 r2 r3 r4 r5 r6 r7 r8 r9 r10 r11 r12
    go_wp2_with fail
    refine (h11_over H IS2.out OVN.out).mono ?_
    rintro e w6 ⟨rfl, hb⟩
    have HB0q := Lib.hid (HB0.out.trans (hb.mono HB0.out.size))
    clear HB0
    have HB0 := HB0q
    clear HB0q
    have B9q := Lib.hid (B9.out.next hb)
    clear B9
    have B9 := B9q
    clear B9q
    have JAq := Lib.hid (JA.out.next hb)
    clear JA
    have JA := JAq
    clear JAq
    have BSq := Lib.hid (BS.out.next hb)
    clear BS
    have BS := BSq
    clear BSq
    have J15q := Lib.hid (J15.out.next hb)
    clear J15
    have J15 := J15q
    clear J15q
    have B15q := Lib.hid (B15.out.next hb)
    clear B15
    have B15 := B15q
    clear B15q
    clear hb
    clear q0 q1 q2 q3 q4 q5 q6 q7 q8 q9 q10 q11 q12 r0 r1 r2 r3 r4 r5 r6 r7 r8 r9 r10 r11 r12
    clear b0 b1 b2 b3 b4 b5 b6
    have q0 := B9.out.c0
    have r0 := B15.out.c0
    have q1 := B9.out.c1
    have r1 := B15.out.c1
    have q2 := B9.out.c2
    have r2 := B15.out.c2
    have q3 := B9.out.c3
    have r3 := B15.out.c3
    have q4 := B9.out.c4
    have r4 := B15.out.c4
    have q5 := B9.out.c5
    have r5 := B15.out.c5
    have q6 := B9.out.c6
    have r6 := B15.out.c6
    have q7 := B9.out.c7
    have r7 := B15.out.c7
    have q8 := B9.out.c8
    have r8 := B15.out.c8
    have q9 := B9.out.c9
    have r9 := B15.out.c9
    have q10 := B9.out.c10
    have r10 := B15.out.c10
    have q11 := B9.out.c11
    have r11 := B15.out.c11
    have q12 := B9.out.c12
    have r12 := B15.out.c12
    have b0 := BS.out.c0
    have b1 := BS.out.c1
    have b2 := BS.out.c2
    have b3 := BS.out.c3
    have b4 := BS.out.c4
    have b5 := BS.out.c5
    have b6 := BS.out.c6
    simp only at q0 q1 q2 q3 q4 q5 q6 q7 q8 q9 q10 q11 q12 r0 r1 r2 r3 r4 r5 r6 r7 r8 r9 r10 r11 r12
    have y0 := B9.out.frozen 0
    have y1 := B9.out.frozen 1
    have y2 := B9.out.frozen 2
    have y3 := B9.out.frozen 3
    have y4 := B9.out.frozen 4
    have y5 := B9.out.frozen 5
    have y6 := B9.out.frozen 6
    have y7 := B9.out.frozen 7
    have y8 := B9.out.frozen 8
    have y9 := B9.out.frozen 9
    have y10 := B9.out.frozen 10
    have y11 := B9.out.frozen 11
    have y12 := B9.out.frozen 12
    have HBV := Lib.hid (below_store (v0 := .int .i64 (id + 1)) (v1 := .int .i64 s.nodes) (v2 := .int .i64 s.cores) (v3 := .int .i64 s.gpus) (v4 := .string s.tag) (v5 := .bool s.whole) (v6 := .int .i64 s.long) (v7 := .int .i64 s.prio) (v8 := .slice A15 m15 c15) (v9 := .int .i64 st) (v10 := .int .i64 came) (v11 := .int .i64 fr) (v12 := .int .i64 to) HB0.out (Nat.le_refl w1.heap.size))
    have B9V := Lib.hid (B9.out.store ⟨id + 1, s, [], st, came, fr, to⟩ A15 m15 c15)
    go_wp2
    refine ⟨⟨k + 1, nw + mo, bg, st, fr, to, A15, m15, c15, by omega, by omega, by go_num, rfl, rfl, ⟨by omega, by omega⟩, EI2.out, RN1.out, B9V.out, jask_nil J15.out, HBV.out⟩, ?_⟩
    simp [intOf]; omega
  · clear CE
    clear p0 y0 p1 y1 p2 y2 p3 y3 p4 y4 p5 y5 p6 y6 p7 y7 p8 y8 p9 y9 p10 y10 p11 y11 p12 y12
    have hne9 : w1.heap.size ≠ wr.heap.size := Nat.ne_of_lt HLT9.out
    have hneS : w.heap.size ≠ wr.heap.size := Nat.ne_of_lt HLTS.out
    have B9q : Hid (BoxJ (((((((((((((w3.setCell ⟨wr.heap.size, 0, none⟩ (.int .i64 (id + 1))).setCell ⟨wr.heap.size, 1, none⟩ (.int .i64 s.nodes)).setCell ⟨wr.heap.size, 2, none⟩ (.int .i64 s.cores)).setCell ⟨wr.heap.size, 3, none⟩ (.int .i64 s.gpus)).setCell ⟨wr.heap.size, 4, none⟩ (.string s.tag)).setCell ⟨wr.heap.size, 5, none⟩ (.bool s.whole)).setCell ⟨wr.heap.size, 6, none⟩ (.int .i64 s.long)).setCell ⟨wr.heap.size, 7, none⟩ (.int .i64 s.prio)).setCell ⟨wr.heap.size, 8, none⟩ (.slice A15 m15 c15)).setCell ⟨wr.heap.size, 9, none⟩ (.int .i64 st)).setCell ⟨wr.heap.size, 10, none⟩ (.int .i64 came)).setCell ⟨wr.heap.size, 11, none⟩ (.int .i64 fr)).setCell ⟨wr.heap.size, 12, none⟩ (.int .i64 to)) w1.heap.size ⟨id + 1, s, [], st, came, fr, to⟩ A9 m9 c9) := Lib.hid (BoxJ.kept (v0 := .int .i64 (id + 1)) (v1 := .int .i64 s.nodes) (v2 := .int .i64 s.cores) (v3 := .int .i64 s.gpus) (v4 := .string s.tag) (v5 := .bool s.whole) (v6 := .int .i64 s.long) (v7 := .int .i64 s.prio) (v8 := .slice A15 m15 c15) (v9 := .int .i64 st) (v10 := .int .i64 came) (v11 := .int .i64 fr) (v12 := .int .i64 to) B9.out hne9)
    clear B9
    have B9 := B9q
    clear B9q
    have BSq : Hid (BoxS (((((((((((((w3.setCell ⟨wr.heap.size, 0, none⟩ (.int .i64 (id + 1))).setCell ⟨wr.heap.size, 1, none⟩ (.int .i64 s.nodes)).setCell ⟨wr.heap.size, 2, none⟩ (.int .i64 s.cores)).setCell ⟨wr.heap.size, 3, none⟩ (.int .i64 s.gpus)).setCell ⟨wr.heap.size, 4, none⟩ (.string s.tag)).setCell ⟨wr.heap.size, 5, none⟩ (.bool s.whole)).setCell ⟨wr.heap.size, 6, none⟩ (.int .i64 s.long)).setCell ⟨wr.heap.size, 7, none⟩ (.int .i64 s.prio)).setCell ⟨wr.heap.size, 8, none⟩ (.slice A15 m15 c15)).setCell ⟨wr.heap.size, 9, none⟩ (.int .i64 st)).setCell ⟨wr.heap.size, 10, none⟩ (.int .i64 came)).setCell ⟨wr.heap.size, 11, none⟩ (.int .i64 fr)).setCell ⟨wr.heap.size, 12, none⟩ (.int .i64 to)) w.heap.size s) := Lib.hid (BoxS.kept (v0 := .int .i64 (id + 1)) (v1 := .int .i64 s.nodes) (v2 := .int .i64 s.cores) (v3 := .int .i64 s.gpus) (v4 := .string s.tag) (v5 := .bool s.whole) (v6 := .int .i64 s.long) (v7 := .int .i64 s.prio) (v8 := .slice A15 m15 c15) (v9 := .int .i64 st) (v10 := .int .i64 came) (v11 := .int .i64 fr) (v12 := .int .i64 to) BS.out hneS)
    clear BS
    have BS := BSq
    clear BSq
    have HB0q := Lib.hid (below_store (v0 := .int .i64 (id + 1)) (v1 := .int .i64 s.nodes) (v2 := .int .i64 s.cores) (v3 := .int .i64 s.gpus) (v4 := .string s.tag) (v5 := .bool s.whole) (v6 := .int .i64 s.long) (v7 := .int .i64 s.prio) (v8 := .slice A15 m15 c15) (v9 := .int .i64 st) (v10 := .int .i64 came) (v11 := .int .i64 fr) (v12 := .int .i64 to) HB0.out (show w1.heap.size ≤ wr.heap.size from Nat.le_of_lt HLT9.out))
    clear HB0
    have HB0 := HB0q
    clear HB0q
    have B15 := Lib.hid (BZ.out.store ⟨id + 1, s, [], st, came, fr, to⟩ A15 m15 c15)
    have JAq : Hid (JAsk (((((((((((((w3.setCell ⟨wr.heap.size, 0, none⟩ (.int .i64 (id + 1))).setCell ⟨wr.heap.size, 1, none⟩ (.int .i64 s.nodes)).setCell ⟨wr.heap.size, 2, none⟩ (.int .i64 s.cores)).setCell ⟨wr.heap.size, 3, none⟩ (.int .i64 s.gpus)).setCell ⟨wr.heap.size, 4, none⟩ (.string s.tag)).setCell ⟨wr.heap.size, 5, none⟩ (.bool s.whole)).setCell ⟨wr.heap.size, 6, none⟩ (.int .i64 s.long)).setCell ⟨wr.heap.size, 7, none⟩ (.int .i64 s.prio)).setCell ⟨wr.heap.size, 8, none⟩ (.slice A15 m15 c15)).setCell ⟨wr.heap.size, 9, none⟩ (.int .i64 st)).setCell ⟨wr.heap.size, 10, none⟩ (.int .i64 came)).setCell ⟨wr.heap.size, 11, none⟩ (.int .i64 fr)).setCell ⟨wr.heap.size, 12, none⟩ (.int .i64 to)) A9 m9 c9 ⟨id + 1, s, [], st, came, fr, to⟩) := Lib.hid (jask_nil JA.out)
    clear JA
    have JA := JAq
    clear JAq
    have J15q : Hid (JAsk (((((((((((((w3.setCell ⟨wr.heap.size, 0, none⟩ (.int .i64 (id + 1))).setCell ⟨wr.heap.size, 1, none⟩ (.int .i64 s.nodes)).setCell ⟨wr.heap.size, 2, none⟩ (.int .i64 s.cores)).setCell ⟨wr.heap.size, 3, none⟩ (.int .i64 s.gpus)).setCell ⟨wr.heap.size, 4, none⟩ (.string s.tag)).setCell ⟨wr.heap.size, 5, none⟩ (.bool s.whole)).setCell ⟨wr.heap.size, 6, none⟩ (.int .i64 s.long)).setCell ⟨wr.heap.size, 7, none⟩ (.int .i64 s.prio)).setCell ⟨wr.heap.size, 8, none⟩ (.slice A15 m15 c15)).setCell ⟨wr.heap.size, 9, none⟩ (.int .i64 st)).setCell ⟨wr.heap.size, 10, none⟩ (.int .i64 came)).setCell ⟨wr.heap.size, 11, none⟩ (.int .i64 fr)).setCell ⟨wr.heap.size, 12, none⟩ (.int .i64 to)) A15 m15 c15 ⟨id + 1, s, [], st, came, fr, to⟩) := Lib.hid (jask_nil J15.out)
    clear J15
    have J15 := J15q
    clear J15q BZ hne9 hneS
    try clear S1 S2 S3
    try clear S4
    try clear S5
    try clear S6
    try clear HBB JAB
    try clear BZ
    try clear HKEEP HY
    try clear HGE
    have q0 := B9.out.c0
    have r0 := B15.out.c0
    have q1 := B9.out.c1
    have r1 := B15.out.c1
    have q2 := B9.out.c2
    have r2 := B15.out.c2
    have q3 := B9.out.c3
    have r3 := B15.out.c3
    have q4 := B9.out.c4
    have r4 := B15.out.c4
    have q5 := B9.out.c5
    have r5 := B15.out.c5
    have q6 := B9.out.c6
    have r6 := B15.out.c6
    have q7 := B9.out.c7
    have r7 := B15.out.c7
    have q8 := B9.out.c8
    have r8 := B15.out.c8
    have q9 := B9.out.c9
    have r9 := B15.out.c9
    have q10 := B9.out.c10
    have r10 := B15.out.c10
    have q11 := B9.out.c11
    have r11 := B15.out.c11
    have q12 := B9.out.c12
    have r12 := B15.out.c12
    have b0 := BS.out.c0
    have b1 := BS.out.c1
    have b2 := BS.out.c2
    have b3 := BS.out.c3
    have b4 := BS.out.c4
    have b5 := BS.out.c5
    have b6 := BS.out.c6
    simp only at q0 q1 q2 q3 q4 q5 q6 q7 q8 q9 q10 q11 q12 r0 r1 r2 r3 r4 r5 r6 r7 r8 r9 r10 r11 r12
    go_wp2_with fail
    refine (refSameJ_b J15.out JA.out (sameJ_iff.2 rfl)).mono ?_
    rintro e w4 ⟨rfl, hb⟩
    have HB0q := Lib.hid (HB0.out.trans (hb.mono HB0.out.size))
    clear HB0
    have HB0 := HB0q
    clear HB0q
    have B9q := Lib.hid (B9.out.next hb)
    clear B9
    have B9 := B9q
    clear B9q
    have JAq := Lib.hid (JA.out.next hb)
    clear JA
    have JA := JAq
    clear JAq
    have BSq := Lib.hid (BS.out.next hb)
    clear BS
    have BS := BSq
    clear BSq
    have J15q := Lib.hid (J15.out.next hb)
    clear J15
    have J15 := J15q
    clear J15q
    have B15q := Lib.hid (B15.out.next hb)
    clear B15
    have B15 := B15q
    clear B15q
    clear hb
    clear q0 q1 q2 q3 q4 q5 q6 q7 q8 q9 q10 q11 q12 r0 r1 r2 r3 r4 r5 r6 r7 r8 r9 r10 r11 r12
    clear b0 b1 b2 b3 b4 b5 b6
    have q0 := B9.out.c0
    have r0 := B15.out.c0
    have q1 := B9.out.c1
    have r1 := B15.out.c1
    have q2 := B9.out.c2
    have r2 := B15.out.c2
    have q3 := B9.out.c3
    have r3 := B15.out.c3
    have q4 := B9.out.c4
    have r4 := B15.out.c4
    have q5 := B9.out.c5
    have r5 := B15.out.c5
    have q6 := B9.out.c6
    have r6 := B15.out.c6
    have q7 := B9.out.c7
    have r7 := B15.out.c7
    have q8 := B9.out.c8
    have r8 := B15.out.c8
    have q9 := B9.out.c9
    have r9 := B15.out.c9
    have q10 := B9.out.c10
    have r10 := B15.out.c10
    have q11 := B9.out.c11
    have r11 := B15.out.c11
    have q12 := B9.out.c12
    have r12 := B15.out.c12
    have b0 := BS.out.c0
    have b1 := BS.out.c1
    have b2 := BS.out.c2
    have b3 := BS.out.c3
    have b4 := BS.out.c4
    have b5 := BS.out.c5
    have b6 := BS.out.c6
    simp only at q0 q1 q2 q3 q4 q5 q6 q7 q8 q9 q10 q11 q12 r0 r1 r2 r3 r4 r5 r6 r7 r8 r9 r10 r11 r12
    go_wp2_with fail
    refine (h11_right H J15.out (jask_few J15.out) RN.out).mono ?_
    rintro e w5 ⟨rfl, hb⟩
    have HB0q := Lib.hid (HB0.out.trans (hb.mono HB0.out.size))
    clear HB0
    have HB0 := HB0q
    clear HB0q
    have B9q := Lib.hid (B9.out.next hb)
    clear B9
    have B9 := B9q
    clear B9q
    have JAq := Lib.hid (JA.out.next hb)
    clear JA
    have JA := JAq
    clear JAq
    have BSq := Lib.hid (BS.out.next hb)
    clear BS
    have BS := BSq
    clear BSq
    have J15q := Lib.hid (J15.out.next hb)
    clear J15
    have J15 := J15q
    clear J15q
    have B15q := Lib.hid (B15.out.next hb)
    clear B15
    have B15 := B15q
    clear B15q
    clear hb
    clear q0 q1 q2 q3 q4 q5 q6 q7 q8 q9 q10 q11 q12 r0 r1 r2 r3 r4 r5 r6 r7 r8 r9 r10 r11 r12
    clear b0 b1 b2 b3 b4 b5 b6
    have q0 := B9.out.c0
    have r0 := B15.out.c0
    have q1 := B9.out.c1
    have r1 := B15.out.c1
    have q2 := B9.out.c2
    have r2 := B15.out.c2
    have q3 := B9.out.c3
    have r3 := B15.out.c3
    have q4 := B9.out.c4
    have r4 := B15.out.c4
    have q5 := B9.out.c5
    have r5 := B15.out.c5
    have q6 := B9.out.c6
    have r6 := B15.out.c6
    have q7 := B9.out.c7
    have r7 := B15.out.c7
    have q8 := B9.out.c8
    have r8 := B15.out.c8
    have q9 := B9.out.c9
    have r9 := B15.out.c9
    have q10 := B9.out.c10
    have r10 := B15.out.c10
    have q11 := B9.out.c11
    have r11 := B15.out.c11
    have q12 := B9.out.c12
    have r12 := B15.out.c12
    have b0 := BS.out.c0
    have b1 := BS.out.c1
    have b2 := BS.out.c2
    have b3 := BS.out.c3
    have b4 := BS.out.c4
    have b5 := BS.out.c5
    have b6 := BS.out.c6
    simp only at q0 q1 q2 q3 q4 q5 q6 q7 q8 q9 q10 q11 q12 r0 r1 r2 r3 r4 r5 r6 r7 r8 r9 r10 r11 r12
    go_wp2_with fail
    refine (h11_over H IS2.out OVN.out).mono ?_
    rintro e w6 ⟨rfl, hb⟩
    have HB0q := Lib.hid (HB0.out.trans (hb.mono HB0.out.size))
    clear HB0
    have HB0 := HB0q
    clear HB0q
    have B9q := Lib.hid (B9.out.next hb)
    clear B9
    have B9 := B9q
    clear B9q
    have JAq := Lib.hid (JA.out.next hb)
    clear JA
    have JA := JAq
    clear JAq
    have BSq := Lib.hid (BS.out.next hb)
    clear BS
    have BS := BSq
    clear BSq
    have J15q := Lib.hid (J15.out.next hb)
    clear J15
    have J15 := J15q
    clear J15q
    have B15q := Lib.hid (B15.out.next hb)
    clear B15
    have B15 := B15q
    clear B15q
    clear hb
    clear q0 q1 q2 q3 q4 q5 q6 q7 q8 q9 q10 q11 q12 r0 r1 r2 r3 r4 r5 r6 r7 r8 r9 r10 r11 r12
    clear b0 b1 b2 b3 b4 b5 b6
    have q0 := B9.out.c0
    have r0 := B15.out.c0
    have q1 := B9.out.c1
    have r1 := B15.out.c1
    have q2 := B9.out.c2
    have r2 := B15.out.c2
    have q3 := B9.out.c3
    have r3 := B15.out.c3
    have q4 := B9.out.c4
    have r4 := B15.out.c4
    have q5 := B9.out.c5
    have r5 := B15.out.c5
    have q6 := B9.out.c6
    have r6 := B15.out.c6
    have q7 := B9.out.c7
    have r7 := B15.out.c7
    have q8 := B9.out.c8
    have r8 := B15.out.c8
    have q9 := B9.out.c9
    have r9 := B15.out.c9
    have q10 := B9.out.c10
    have r10 := B15.out.c10
    have q11 := B9.out.c11
    have r11 := B15.out.c11
    have q12 := B9.out.c12
    have r12 := B15.out.c12
    have b0 := BS.out.c0
    have b1 := BS.out.c1
    have b2 := BS.out.c2
    have b3 := BS.out.c3
    have b4 := BS.out.c4
    have b5 := BS.out.c5
    have b6 := BS.out.c6
    simp only at q0 q1 q2 q3 q4 q5 q6 q7 q8 q9 q10 q11 q12 r0 r1 r2 r3 r4 r5 r6 r7 r8 r9 r10 r11 r12
    have y0 := B9.out.frozen 0
    have y1 := B9.out.frozen 1
    have y2 := B9.out.frozen 2
    have y3 := B9.out.frozen 3
    have y4 := B9.out.frozen 4
    have y5 := B9.out.frozen 5
    have y6 := B9.out.frozen 6
    have y7 := B9.out.frozen 7
    have y8 := B9.out.frozen 8
    have y9 := B9.out.frozen 9
    have y10 := B9.out.frozen 10
    have y11 := B9.out.frozen 11
    have y12 := B9.out.frozen 12
    have HBV := Lib.hid (below_store (v0 := .int .i64 (id + 1)) (v1 := .int .i64 s.nodes) (v2 := .int .i64 s.cores) (v3 := .int .i64 s.gpus) (v4 := .string s.tag) (v5 := .bool s.whole) (v6 := .int .i64 s.long) (v7 := .int .i64 s.prio) (v8 := .slice A15 m15 c15) (v9 := .int .i64 st) (v10 := .int .i64 came) (v11 := .int .i64 fr) (v12 := .int .i64 to) HB0.out (Nat.le_refl w1.heap.size))
    have B9V := Lib.hid (B9.out.store ⟨id + 1, s, [], st, came, fr, to⟩ A15 m15 c15)
    go_wp2
    refine ⟨⟨k + 1, nw + mo, bg, st, fr, to, A15, m15, c15, by omega, by omega, by go_num, rfl, rfl, ⟨by omega, by omega⟩, EI2.out, RN1.out, B9V.out, jask_nil J15.out, HBV.out⟩, ?_⟩
    simp [intOf]; omega

set_option maxRecDepth 100000 in
set_option maxHeartbeats 40000000 in
theorem ends_A (H : JobOk) (id : Int) (s : Sp) (came : Int) (n c : Nat) (w w1 wr : World) (b off : Nat) (wt mo : Int) (k : Nat) (nw bg st fr to : Int) (A9 : Option Addr) (m9 c9 : Nat) (HI : Hid (∀ x : Int, -10 ≤ x → x ≤ 1000000000000 → I64 x)) (hc1 : 0 ≤ came) (hc2 : came ≤ 4294967295) (hlt : k < n) (hls : k < 60) (hnw1 : came ≤ nw) (hnw2 : nw ≤ came + 255 * k) (hx2 : 0 ≤ mo) (hx3 : mo ≤ 255) (EI : Hid (EndI st bg)) (RJ : Hid (RightJ ⟨id + 1, s, [], st, came, fr, to⟩)) (B9 : Hid (BoxJ wr w1.heap.size ⟨id + 1, s, [], st, came, fr, to⟩ A9 m9 c9)) (JA : Hid (JAsk wr A9 m9 c9 ⟨id + 1, s, [], st, came, fr, to⟩)) (BS : Hid (BoxS wr w.heap.size s)) (HB0 : Hid (Below w1.heap.size w1 wr)) (IX : Hid (I64 wt)) (CE : Hid (CellK wr ⟨b, off + k * 2, none⟩ (.int .i64 wt))) (e1 : wr.cell? ⟨b, off + k * 2 + 1, none⟩ = some (.int .u8 mo)) (Q0 : Exit → Act → World → Prop) (c0 c1 c4 c6 c7 c10 c11 c17 c18 c19 c20 c21 c22 c23 c24 c25 c26 c27 c28 c29 c30 c31 c32 c33 c34 c35 c36 c37 c38 c39 c138 c139 c140 c141 c142 c143 c144 c145 c146 c147 c148 c149 c150 c151 c152 c153 c154 c155 c156 c157 c158 u8 u15 u16 u40 u41 u42 u43 u44 u45 u46 u47 u48 u49 u50 u51 u52 u53 u54 u55 u56 u57 u58 u59 u60 u61 u62 u63 u64 u65 u66 u67 u68 u69 u70 u71 u72 u73 u74 u75 u76 u77 u78 u79 u80 u81 u82 u83 u84 u85 u86 u87 u88 u89 u90 u91 u92 u93 u94 u95 u96 u97 u98 u99 u100 u101 u102 u103 u104 u105 u106 u107 u108 u109 u110 u111 u112 u113 u114 u115 u116 u117 u118 u119 u120 u121 u122 u123 u124 u125 u126 u127 u128 u129 u130 u131 u132 u133 u134 u135 u136 u137 : Value) (hze : doE ⟨id + 1, s, [], st, came, fr, to⟩ wt (nw + mo) = 0) (n2 : nextZ st wt = 2) :
    Code.wp Try.prog endsBody (Exit.then (fun a' w' => (∃ u8 u12 u13 u14 u15 u16 u40 u41 u42 u43 u44 u45 u46 u47 u48 u49 u50 u51 u52 u53 u54 u55 u56 u57 u58 u59 u60 u61 u62 u63 u64 u65 u66 u67 u68 u69 u70 u71 u72 u73 u74 u75 u76 u77 u78 u79 u80 u81 u82 u83 u84 u85 u86 u87 u88 u89 u90 u91 u92 u93 u94 u95 u96 u97 u98 u99 u100 u101 u102 u103 u104 u105 u106 u107 u108 u109 u110 u111 u112 u113 u114 u115 u116 u117 u118 u119 u120 u121 u122 u123 u124 u125 u126 u127 u128 u129 u130 u131 u132 u133 u134 u135 u136 u137, EndRel id s came n w1 u12 u13 u14 w' ∧ a' = ⟨#[c0, c1, .int .u32 came, .slice (some ⟨b, off, none⟩) n c, c4, .pointer (some ⟨w.heap.size, 0, none⟩), c6, c7, u8, .pointer (some ⟨w1.heap.size, 0, none⟩), c10, c11, u12, u13, u14, u15, u16, c17, c18, c19, c20, c21, c22, c23, c24, c25, c26, c27, c28, c29, c30, c31, c32, c33, c34, c35, c36, c37, c38, c39, u40, u41, u42, u43, u44, u45, u46, u47, u48, u49, u50, u51, u52, u53, u54, u55, u56, u57, u58, u59, u60, u61, u62, u63, u64, u65, u66, u67, u68, u69, u70, u71, u72, u73, u74, u75, u76, u77, u78, u79, u80, u81, u82, u83, u84, u85, u86, u87, u88, u89, u90, u91, u92, u93, u94, u95, u96, u97, u98, u99, u100, u101, u102, u103, u104, u105, u106, u107, u108, u109, u110, u111, u112, u113, u114, u115, u116, u117, u118, u119, u120, u121, u122, u123, u124, u125, u126, u127, u128, u129, u130, u131, u132, u133, u134, u135, u136, u137, c138, c139, c140, c141, c142, c143, c144, c145, c146, c147, c148, c149, c150, c151, c152, c153, c154, c155, c156, c157, c158], []⟩) ∧ 60 - (intOf (a'.tmps.getD 14 undef)).toNat < 60 - (intOf ((⟨#[c0, c1, .int .u32 came, .slice (some ⟨b, off, none⟩) n c, c4, .pointer (some ⟨w.heap.size, 0, none⟩), c6, c7, u8, .pointer (some ⟨w1.heap.size, 0, none⟩), c10, c11, (.int .i64 nw), (.int .i64 bg), (.int .i64 k), u15, u16, c17, c18, c19, c20, c21, c22, c23, c24, c25, c26, c27, c28, c29, c30, c31, c32, c33, c34, c35, c36, c37, c38, c39, u40, u41, u42, u43, u44, u45, u46, u47, u48, u49, u50, u51, u52, u53, u54, u55, u56, u57, u58, u59, u60, u61, u62, u63, u64, u65, u66, u67, u68, u69, u70, u71, u72, u73, u74, u75, u76, u77, u78, u79, u80, u81, u82, u83, u84, u85, u86, u87, u88, u89, u90, u91, u92, u93, u94, u95, u96, u97, u98, u99, u100, u101, u102, u103, u104, u105, u106, u107, u108, u109, u110, u111, u112, u113, u114, u115, u116, u117, u118, u119, u120, u121, u122, u123, u124, u125, u126, u127, u128, u129, u130, u131, u132, u133, u134, u135, u136, u137, c138, c139, c140, c141, c142, c143, c144, c145, c146, c147, c148, c149, c150, c151, c152, c153, c154, c155, c156, c157, c158], []⟩ : Act).tmps.getD 14 undef)).toNat) Q0) ⟨#[c0, c1, .int .u32 came, .slice (some ⟨b, off, none⟩) n c, c4, .pointer (some ⟨w.heap.size, 0, none⟩), c6, c7, u8, .pointer (some ⟨w1.heap.size, 0, none⟩), c10, c11, (.int .i64 nw), (.int .i64 bg), (.int .i64 k), u15, u16, c17, c18, c19, c20, c21, c22, c23, c24, c25, c26, c27, c28, c29, c30, c31, c32, c33, c34, c35, c36, c37, c38, c39, u40, u41, u42, u43, u44, u45, u46, u47, u48, u49, u50, u51, u52, u53, u54, u55, u56, u57, u58, u59, u60, u61, u62, u63, u64, u65, u66, u67, u68, u69, u70, u71, u72, u73, u74, u75, u76, u77, u78, u79, u80, u81, u82, u83, u84, u85, u86, u87, u88, u89, u90, u91, u92, u93, u94, u95, u96, u97, u98, u99, u100, u101, u102, u103, u104, u105, u106, u107, u108, u109, u110, u111, u112, u113, u114, u115, u116, u117, u118, u119, u120, u121, u122, u123, u124, u125, u126, u127, u128, u129, u130, u131, u132, u133, u134, u135, u136, u137, c138, c139, c140, c141, c142, c143, c144, c145, c146, c147, c148, c149, c150, c151, c152, c153, c154, c155, c156, c157, c158], []⟩ wr := by
  conv => arg 2; whnf
  have hls' : decide (k < 60) = true := decide_eq_true hls
  have hls2 : decide ((k : Int) < 60) = true := by simp; omega
  have IN : Hid (I64 (nw + mo)) := Lib.hid (HI.out _ (by omega) (by omega))
  have hdj := doJ_ok hze
  have hn0 := (do_ok.1 hze).2
  have hrt := do_right hze
  rw [← hdj] at hrt
  simp only at hn0 hdj
  have DE := Lib.hid hze
  have hng := next_range st wt
  have hlow : st = 0 ∨ st = 1 ∨ st = 2 := (next_from (j := ⟨id + 1, s, [], st, came, fr, to⟩) (what := wt) hn0).1
  have IST := Lib.hid JA.out.int.2.1
  have OVJ : Hid (overJ st = false) := Lib.hid (decide_eq_false (by omega))
  obtain ⟨rfl, rfl, hE2⟩ := endI_begin EI.out n2
  have EI2 := Lib.hid hE2
  have hd2 : doJ ⟨id + 1, s, [], 0, came, fr, to⟩ wt (nw + mo) = ⟨id + 1, s, [], 2, came, (nw + mo), to⟩ := by rw [hdj, n2]; rfl
  rw [hd2] at hrt
  have RN1 := Lib.hid hrt
  have RN := Lib.hid (show rightJ ⟨id + 1, s, [], 2, came, (nw + mo), to⟩ = true from decide_eq_true hrt)
  have DJ := Lib.hid hd2
  have IS2 := Lib.hid (HI.out 2 (by omega) (by omega))
  have OVN : Hid (overJ 2 = false) := Lib.hid (by decide)
  clear hze hdj hn0 hng hrt n2 hE2 hd2 hlow
  have q0 := B9.out.c0
  have q1 := B9.out.c1
  have q2 := B9.out.c2
  have q3 := B9.out.c3
  have q4 := B9.out.c4
  have q5 := B9.out.c5
  have q6 := B9.out.c6
  have q7 := B9.out.c7
  have q8 := B9.out.c8
  have q9 := B9.out.c9
  have q10 := B9.out.c10
  have q11 := B9.out.c11
  have q12 := B9.out.c12
  simp only at q0 q1 q2 q3 q4 q5 q6 q7 q8 q9 q10 q11 q12
  go_wp2
  have HKEEP : Hid (∀ wx, Below wr.drew.heap.size wr.drew wx → wx.cell? ⟨w1.heap.size, 0, none⟩ = some (.int .i64 (id + 1)) ∧ wx.cell? ⟨w1.heap.size, 1, none⟩ = some (.int .i64 s.nodes) ∧ wx.cell? ⟨w1.heap.size, 2, none⟩ = some (.int .i64 s.cores) ∧ wx.cell? ⟨w1.heap.size, 3, none⟩ = some (.int .i64 s.gpus) ∧ wx.cell? ⟨w1.heap.size, 4, none⟩ = some (.string s.tag) ∧ wx.cell? ⟨w1.heap.size, 5, none⟩ = some (.bool s.whole) ∧ wx.cell? ⟨w1.heap.size, 6, none⟩ = some (.int .i64 s.long) ∧ wx.cell? ⟨w1.heap.size, 7, none⟩ = some (.int .i64 s.prio) ∧ wx.cell? ⟨w1.heap.size, 8, none⟩ = some (.slice A9 m9 c9) ∧ wx.cell? ⟨w1.heap.size, 9, none⟩ = some (.int .i64 0) ∧ wx.cell? ⟨w1.heap.size, 10, none⟩ = some (.int .i64 came) ∧ wx.cell? ⟨w1.heap.size, 11, none⟩ = some (.int .i64 fr) ∧ wx.cell? ⟨w1.heap.size, 12, none⟩ = some (.int .i64 to) ∧ wx.cell? ⟨b, off + k * 2, none⟩ = some (.int .i64 wt)) := Lib.hid (fun wx hz' => by
    have hz := (bel_drew1 wr).trans (hz'.mono (bel_drew1 wr).size)
    exact ⟨keep_cell B9.out.lt q0 hz, keep_cell B9.out.lt q1 hz, keep_cell B9.out.lt q2 hz, keep_cell B9.out.lt q3 hz, keep_cell B9.out.lt q4 hz, keep_cell B9.out.lt q5 hz, keep_cell B9.out.lt q6 hz, keep_cell B9.out.lt q7 hz, keep_cell B9.out.lt q8 hz, keep_cell B9.out.lt q9 hz, keep_cell B9.out.lt q10 hz, keep_cell B9.out.lt q11 hz, keep_cell B9.out.lt q12 hz, keep_cell CE.out.lt CE.out.at' hz⟩)
  have hd := bel_drew1 wr
  have HB0q := Lib.hid (HB0.out.trans (hd.mono HB0.out.size))
  clear HB0
  have HB0 := HB0q
  clear HB0q
  have B9q := Lib.hid (B9.out.next hd)
  clear B9
  have B9 := B9q
  clear B9q
  have JAq := Lib.hid (JA.out.next hd)
  clear JA
  have JA := JAq
  clear JAq
  have BSq := Lib.hid (BS.out.next hd)
  clear BS
  have BS := BSq
  clear BSq
  have CEq := Lib.hid (CE.out.next hd)
  clear CE
  have CE := CEq
  clear CEq
  clear hd
  have HY := Lib.hid (Below.refl wr.drew.heap.size wr.drew)
  have HBB : Hid (Below wr.drew.heap.size wr.drew (wr.alloc (.cells #[.int .i64 0, .int .i64 0, .int .i64 0, .int .i64 0, .string ⟨#[]⟩, .bool false, .int .i64 0, .int .i64 0, .slice none 0 0, .int .i64 0, .int .i64 0, .int .i64 0, .int .i64 0] 26)).drew) := Lib.hid ((Below.refl wr.drew.heap.size wr.drew).alloc (Nat.le_refl _) (.cells #[.int .i64 0, .int .i64 0, .int .i64 0, .int .i64 0, .string ⟨#[]⟩, .bool false, .int .i64 0, .int .i64 0, .slice none 0 0, .int .i64 0, .int .i64 0, .int .i64 0, .int .i64 0] 26))
  have JAB : Hid (JAsk (wr.alloc (.cells #[.int .i64 0, .int .i64 0, .int .i64 0, .int .i64 0, .string ⟨#[]⟩, .bool false, .int .i64 0, .int .i64 0, .slice none 0 0, .int .i64 0, .int .i64 0, .int .i64 0, .int .i64 0] 26)).drew A9 m9 c9 ⟨id + 1, s, [], 0, came, fr, to⟩) := Lib.hid (JA.out.next HBB.out)
  have BZ : Hid (BoxJ (wr.alloc (.cells #[.int .i64 0, .int .i64 0, .int .i64 0, .int .i64 0, .string ⟨#[]⟩, .bool false, .int .i64 0, .int .i64 0, .slice none 0 0, .int .i64 0, .int .i64 0, .int .i64 0, .int .i64 0] 26)).drew wr.heap.size jb0 none 0 0) := Lib.hid ((boxJ_new wr jb0 none 0 0).next (bel_drew1 _))
  have HLT9 := Lib.hid B9.out.lt
  have HLTS := Lib.hid BS.out.lt
  have HGE : wr.drew.heap.size ≤ wr.heap.size := Nat.le_refl _
  clear q0 q1 q2 q3 q4 q5 q6 q7 q8 q9 q10 q11 q12
  have S1 := Lib.hid (HKEEP.out _ (Below.refl _ _))
  have S2 := Lib.hid (HKEEP.out _ HBB.out)
  go_region_held3 (fun w' => w'.cell? ⟨w1.heap.size, 0, none⟩ = some (.int .i64 (id + 1)) ∧ w'.cell? ⟨w1.heap.size, 1, none⟩ = some (.int .i64 s.nodes) ∧ w'.cell? ⟨w1.heap.size, 2, none⟩ = some (.int .i64 s.cores) ∧ w'.cell? ⟨w1.heap.size, 3, none⟩ = some (.int .i64 s.gpus) ∧ w'.cell? ⟨w1.heap.size, 4, none⟩ = some (.string s.tag) ∧ w'.cell? ⟨w1.heap.size, 5, none⟩ = some (.bool s.whole) ∧ w'.cell? ⟨w1.heap.size, 6, none⟩ = some (.int .i64 s.long) ∧ w'.cell? ⟨w1.heap.size, 7, none⟩ = some (.int .i64 s.prio) ∧ w'.cell? ⟨w1.heap.size, 8, none⟩ = some (.slice A9 m9 c9) ∧ w'.cell? ⟨w1.heap.size, 9, none⟩ = some (.int .i64 0) ∧ w'.cell? ⟨w1.heap.size, 10, none⟩ = some (.int .i64 came) ∧ w'.cell? ⟨w1.heap.size, 11, none⟩ = some (.int .i64 fr) ∧ w'.cell? ⟨w1.heap.size, 12, none⟩ = some (.int .i64 to) ∧ w'.cell? ⟨b, off + k * 2, none⟩ = some (.int .i64 wt))
    (first | with_reducible exact S1.out | with_reducible exact S2.out | with_reducible exact S3.out | with_reducible exact S4.out | with_reducible exact S5.out | with_reducible exact S6.out | fail)
    (first | (go_at_call 7; (with_reducible refine (h11_do H JA.out (jask_few JA.out) IX.out IN.out DJ.out DE.out).mono ?_); rintro e w3 ⟨⟨A15, m15, c15, rfl, hj15⟩, hb⟩; have hy := hb; have HY := Lib.hid hy; have HB0 := Lib.hid (HB0.out.trans (hy.mono HB0.out.size)); have B9 := Lib.hid (B9.out.next hy); have JA := Lib.hid (JA.out.next hy); have BS := Lib.hid (BS.out.next hy); have CE := Lib.hid (CE.out.next hy); have J15 := Lib.hid hj15; have S3 := Lib.hid (HKEEP.out _ HY.out); have S6 := Lib.hid (HKEEP.out _ (HY.out.alloc HY.out.size (.cells #[.int .i64 0, .int .i64 0, .int .i64 0, .int .i64 0, .string ⟨#[]⟩, .bool false, .int .i64 0, .int .i64 0, .slice none 0 0, .int .i64 0, .int .i64 0, .int .i64 0, .int .i64 0] 26))); have S4 := Lib.hid (HKEEP.out _ (HY.out.alloc HY.out.size (.cells #[.int .i64 (id + 1), .int .i64 s.nodes, .int .i64 s.cores, .int .i64 s.gpus, .string s.tag, .bool s.whole, .int .i64 s.long, .int .i64 s.prio, .slice A15 m15 c15, .int .i64 2, .int .i64 came, .int .i64 (nw + mo), .int .i64 to] 26))); clear hb hy) | (go_at_call 7; (with_reducible refine (h11_do H JAB.out (jask_few JA.out) IX.out IN.out DJ.out DE.out).mono ?_); rintro e w3 ⟨⟨A15, m15, c15, rfl, hj15⟩, hb⟩; have hy := HBB.out.trans (hb.mono HBB.out.size); have HY := Lib.hid hy; have HB0 := Lib.hid (HB0.out.trans (hy.mono HB0.out.size)); have B9 := Lib.hid (B9.out.next hy); have JA := Lib.hid (JA.out.next hy); have BS := Lib.hid (BS.out.next hy); have CE := Lib.hid (CE.out.next hy); have J15 := Lib.hid hj15; have S3 := Lib.hid (HKEEP.out _ HY.out); have S5 := Lib.hid (HKEEP.out _ (below_store (v0 := .int .i64 (id + 1)) (v1 := .int .i64 s.nodes) (v2 := .int .i64 s.cores) (v3 := .int .i64 s.gpus) (v4 := .string s.tag) (v5 := .bool s.whole) (v6 := .int .i64 s.long) (v7 := .int .i64 s.prio) (v8 := .slice A15 m15 c15) (v9 := .int .i64 2) (v10 := .int .i64 came) (v11 := .int .i64 (nw + mo)) (v12 := .int .i64 to) HY.out HGE)); have BZ := Lib.hid (BZ.out.next hb); have p0 := BZ.out.c0; have y0 := BZ.out.frozen 0; have p1 := BZ.out.c1; have y1 := BZ.out.frozen 1; have p2 := BZ.out.c2; have y2 := BZ.out.frozen 2; have p3 := BZ.out.c3; have y3 := BZ.out.frozen 3; have p4 := BZ.out.c4; have y4 := BZ.out.frozen 4; have p5 := BZ.out.c5; have y5 := BZ.out.frozen 5; have p6 := BZ.out.c6; have y6 := BZ.out.frozen 6; have p7 := BZ.out.c7; have y7 := BZ.out.frozen 7; have p8 := BZ.out.c8; have y8 := BZ.out.frozen 8; have p9 := BZ.out.c9; have y9 := BZ.out.frozen 9; have p10 := BZ.out.c10; have y10 := BZ.out.frozen 10; have p11 := BZ.out.c11; have y11 := BZ.out.frozen 11; have p12 := BZ.out.c12; have y12 := BZ.out.frozen 12; clear hb hy) | fail)
  · clear CE
    have hb := Below.alloc (Below.refl w3.heap.size w3) (Nat.le_refl _) (.cells #[.int .i64 (id + 1), .int .i64 s.nodes, .int .i64 s.cores, .int .i64 s.gpus, .string s.tag, .bool s.whole, .int .i64 s.long, .int .i64 s.prio, .slice A15 m15 c15, .int .i64 2, .int .i64 came, .int .i64 (nw + mo), .int .i64 to] 26)
    have B15q := Lib.hid (boxJ_new w3 ⟨id + 1, s, [], 2, came, (nw + mo), to⟩ A15 m15 c15)
    have HB0q := Lib.hid (HB0.out.trans (hb.mono HB0.out.size))
    clear HB0
    have HB0 := HB0q
    clear HB0q
    have B9q := Lib.hid (B9.out.next hb)
    clear B9
    have B9 := B9q
    clear B9q
    have JAq := Lib.hid (JA.out.next hb)
    clear JA
    have JA := JAq
    clear JAq
    have BSq := Lib.hid (BS.out.next hb)
    clear BS
    have BS := BSq
    clear BSq
    have J15q := Lib.hid (J15.out.next hb)
    clear J15
    have J15 := J15q
    clear J15q
    clear hb
    have B15 := B15q
    clear B15q
    try clear S1 S2 S3
    try clear S4
    try clear S5
    try clear S6
    try clear HBB JAB
    try clear BZ
    try clear HKEEP HY
    try clear HGE
    have q0 := B9.out.c0
    have r0 := B15.out.c0
    have q1 := B9.out.c1
    have r1 := B15.out.c1
    have q2 := B9.out.c2
    have r2 := B15.out.c2
    have q3 := B9.out.c3
    have r3 := B15.out.c3
    have q4 := B9.out.c4
    have r4 := B15.out.c4
    have q5 := B9.out.c5
    have r5 := B15.out.c5
    have q6 := B9.out.c6
    have r6 := B15.out.c6
    have q7 := B9.out.c7
    have r7 := B15.out.c7
    have q8 := B9.out.c8
    have r8 := B15.out.c8
    have q9 := B9.out.c9
    have r9 := B15.out.c9
    have q10 := B9.out.c10
    have r10 := B15.out.c10
    have q11 := B9.out.c11
    have r11 := B15.out.c11
    have q12 := B9.out.c12
    have r12 := B15.out.c12
    have b0 := BS.out.c0
    have b1 := BS.out.c1
    have b2 := BS.out.c2
    have b3 := BS.out.c3
    have b4 := BS.out.c4
    have b5 := BS.out.c5
    have b6 := BS.out.c6
    simp only at q0 q1 q2 q3 q4 q5 q6 q7 q8 q9 q10 q11 q12 r0 r1 r2 r3 r4 r5 r6 r7 r8 r9 r10 r11 r12
    go_wp2_with fail
    refine (h11_over H IST.out OVJ.out).mono ?_
    rintro e w4 ⟨rfl, hb⟩
    have HB0q := Lib.hid (HB0.out.trans (hb.mono HB0.out.size))
    clear HB0
    have HB0 := HB0q
    clear HB0q
    have B9q := Lib.hid (B9.out.next hb)
    clear B9
    have B9 := B9q
    clear B9q
    have JAq := Lib.hid (JA.out.next hb)
    clear JA
    have JA := JAq
    clear JAq
    have BSq := Lib.hid (BS.out.next hb)
    clear BS
    have BS := BSq
    clear BSq
    have J15q := Lib.hid (J15.out.next hb)
    clear J15
    have J15 := J15q
    clear J15q
    have B15q := Lib.hid (B15.out.next hb)
    clear B15
    have B15 := B15q
    clear B15q
    clear hb
    clear q0 q1 q2 q3 q4 q5 q6 q7 q8 q9 q10 q11 q12 r0 r1 r2 r3 r4 r5 r6 r7 r8 r9 r10 r11 r12
    clear b0 b1 b2 b3 b4 b5 b6
    have q0 := B9.out.c0
    have r0 := B15.out.c0
    have q1 := B9.out.c1
    have r1 := B15.out.c1
    have q2 := B9.out.c2
    have r2 := B15.out.c2
    have q3 := B9.out.c3
    have r3 := B15.out.c3
    have q4 := B9.out.c4
    have r4 := B15.out.c4
    have q5 := B9.out.c5
    have r5 := B15.out.c5
    have q6 := B9.out.c6
    have r6 := B15.out.c6
    have q7 := B9.out.c7
    have r7 := B15.out.c7
    have q8 := B9.out.c8
    have r8 := B15.out.c8
    have q9 := B9.out.c9
    have r9 := B15.out.c9
    have q10 := B9.out.c10
    have r10 := B15.out.c10
    have q11 := B9.out.c11
    have r11 := B15.out.c11
    have q12 := B9.out.c12
    have r12 := B15.out.c12
    have b0 := BS.out.c0
    have b1 := BS.out.c1
    have b2 := BS.out.c2
    have b3 := BS.out.c3
    have b4 := BS.out.c4
    have b5 := BS.out.c5
    have b6 := BS.out.c6
    simp only at q0 q1 q2 q3 q4 q5 q6 q7 q8 q9 q10 q11 q12 r0 r1 r2 r3 r4 r5 r6 r7 r8 r9 r10 r11 r12
    go_wp2_with fail
    refine (h11_right H J15.out (jask_few J15.out) RN.out).mono ?_
    rintro e w5 ⟨rfl, hb⟩
    have HB0q := Lib.hid (HB0.out.trans (hb.mono HB0.out.size))
    clear HB0
    have HB0 := HB0q
    clear HB0q
    have B9q := Lib.hid (B9.out.next hb)
    clear B9
    have B9 := B9q
    clear B9q
    have JAq := Lib.hid (JA.out.next hb)
    clear JA
    have JA := JAq
    clear JAq
    have BSq := Lib.hid (BS.out.next hb)
    clear BS
    have BS := BSq
    clear BSq
    have J15q := Lib.hid (J15.out.next hb)
    clear J15
    have J15 := J15q
    clear J15q
    have B15q := Lib.hid (B15.out.next hb)
    clear B15
    have B15 := B15q
    clear B15q
    clear hb
    clear q0 q1 q2 q3 q4 q5 q6 q7 q8 q9 q10 q11 q12 r0 r1 r2 r3 r4 r5 r6 r7 r8 r9 r10 r11 r12
    clear b0 b1 b2 b3 b4 b5 b6
    have q0 := B9.out.c0
    have r0 := B15.out.c0
    have q1 := B9.out.c1
    have r1 := B15.out.c1
    have q2 := B9.out.c2
    have r2 := B15.out.c2
    have q3 := B9.out.c3
    have r3 := B15.out.c3
    have q4 := B9.out.c4
    have r4 := B15.out.c4
    have q5 := B9.out.c5
    have r5 := B15.out.c5
    have q6 := B9.out.c6
    have r6 := B15.out.c6
    have q7 := B9.out.c7
    have r7 := B15.out.c7
    have q8 := B9.out.c8
    have r8 := B15.out.c8
    have q9 := B9.out.c9
    have r9 := B15.out.c9
    have q10 := B9.out.c10
    have r10 := B15.out.c10
    have q11 := B9.out.c11
    have r11 := B15.out.c11
    have q12 := B9.out.c12
    have r12 := B15.out.c12
    have b0 := BS.out.c0
    have b1 := BS.out.c1
    have b2 := BS.out.c2
    have b3 := BS.out.c3
    have b4 := BS.out.c4
    have b5 := BS.out.c5
    have b6 := BS.out.c6
    simp only at q0 q1 q2 q3 q4 q5 q6 q7 q8 q9 q10 q11 q12 r0 r1 r2 r3 r4 r5 r6 r7 r8 r9 r10 r11 r12
    go_wp2_with fail
    refine (h11_over H IS2.out OVN.out).mono ?_
    rintro e w6 ⟨rfl, hb⟩
    have HB0q := Lib.hid (HB0.out.trans (hb.mono HB0.out.size))
    clear HB0
    have HB0 := HB0q
    clear HB0q
    have B9q := Lib.hid (B9.out.next hb)
    clear B9
    have B9 := B9q
    clear B9q
    have JAq := Lib.hid (JA.out.next hb)
    clear JA
    have JA := JAq
    clear JAq
    have BSq := Lib.hid (BS.out.next hb)
    clear BS
    have BS := BSq
    clear BSq
    have J15q := Lib.hid (J15.out.next hb)
    clear J15
    have J15 := J15q
    clear J15q
    have B15q := Lib.hid (B15.out.next hb)
    clear B15
    have B15 := B15q
    clear B15q
    clear hb
    clear q0 q1 q2 q3 q4 q5 q6 q7 q8 q9 q10 q11 q12 r0 r1 r2 r3 r4 r5 r6 r7 r8 r9 r10 r11 r12
    clear b0 b1 b2 b3 b4 b5 b6
    have q0 := B9.out.c0
    have r0 := B15.out.c0
    have q1 := B9.out.c1
    have r1 := B15.out.c1
    have q2 := B9.out.c2
    have r2 := B15.out.c2
    have q3 := B9.out.c3
    have r3 := B15.out.c3
    have q4 := B9.out.c4
    have r4 := B15.out.c4
    have q5 := B9.out.c5
    have r5 := B15.out.c5
    have q6 := B9.out.c6
    have r6 := B15.out.c6
    have q7 := B9.out.c7
    have r7 := B15.out.c7
    have q8 := B9.out.c8
    have r8 := B15.out.c8
    have q9 := B9.out.c9
    have r9 := B15.out.c9
    have q10 := B9.out.c10
    have r10 := B15.out.c10
    have q11 := B9.out.c11
    have r11 := B15.out.c11
    have q12 := B9.out.c12
    have r12 := B15.out.c12
    have b0 := BS.out.c0
    have b1 := BS.out.c1
    have b2 := BS.out.c2
    have b3 := BS.out.c3
    have b4 := BS.out.c4
    have b5 := BS.out.c5
    have b6 := BS.out.c6
    simp only at q0 q1 q2 q3 q4 q5 q6 q7 q8 q9 q10 q11 q12 r0 r1 r2 r3 r4 r5 r6 r7 r8 r9 r10 r11 r12
    have y0 := B9.out.frozen 0
    have y1 := B9.out.frozen 1
    have y2 := B9.out.frozen 2
    have y3 := B9.out.frozen 3
    have y4 := B9.out.frozen 4
    have y5 := B9.out.frozen 5
    have y6 := B9.out.frozen 6
    have y7 := B9.out.frozen 7
    have y8 := B9.out.frozen 8
    have y9 := B9.out.frozen 9
    have y10 := B9.out.frozen 10
    have y11 := B9.out.frozen 11
    have y12 := B9.out.frozen 12
    have HBV := Lib.hid (below_store (v0 := .int .i64 (id + 1)) (v1 := .int .i64 s.nodes) (v2 := .int .i64 s.cores) (v3 := .int .i64 s.gpus) (v4 := .string s.tag) (v5 := .bool s.whole) (v6 := .int .i64 s.long) (v7 := .int .i64 s.prio) (v8 := .slice A15 m15 c15) (v9 := .int .i64 2) (v10 := .int .i64 came) (v11 := .int .i64 (nw + mo)) (v12 := .int .i64 to) HB0.out (Nat.le_refl w1.heap.size))
    have B9V := Lib.hid (B9.out.store ⟨id + 1, s, [], 2, came, (nw + mo), to⟩ A15 m15 c15)
    go_wp2
    refine ⟨⟨k + 1, nw + mo, 1, 2, (nw + mo), to, A15, m15, c15, by omega, by omega, by go_num, rfl, rfl, ⟨by omega, by omega⟩, EI2.out, RN1.out, B9V.out, jask_nil J15.out, HBV.out⟩, ?_⟩
    simp [intOf]; omega
  · clear CE
    clear p0 y0 p1 y1 p2 y2 p3 y3 p4 y4 p5 y5 p6 y6 p7 y7 p8 y8 p9 y9 p10 y10 p11 y11 p12 y12
    have hne9 : w1.heap.size ≠ wr.heap.size := Nat.ne_of_lt HLT9.out
    have hneS : w.heap.size ≠ wr.heap.size := Nat.ne_of_lt HLTS.out
    have B9q : Hid (BoxJ (((((((((((((w3.setCell ⟨wr.heap.size, 0, none⟩ (.int .i64 (id + 1))).setCell ⟨wr.heap.size, 1, none⟩ (.int .i64 s.nodes)).setCell ⟨wr.heap.size, 2, none⟩ (.int .i64 s.cores)).setCell ⟨wr.heap.size, 3, none⟩ (.int .i64 s.gpus)).setCell ⟨wr.heap.size, 4, none⟩ (.string s.tag)).setCell ⟨wr.heap.size, 5, none⟩ (.bool s.whole)).setCell ⟨wr.heap.size, 6, none⟩ (.int .i64 s.long)).setCell ⟨wr.heap.size, 7, none⟩ (.int .i64 s.prio)).setCell ⟨wr.heap.size, 8, none⟩ (.slice A15 m15 c15)).setCell ⟨wr.heap.size, 9, none⟩ (.int .i64 2)).setCell ⟨wr.heap.size, 10, none⟩ (.int .i64 came)).setCell ⟨wr.heap.size, 11, none⟩ (.int .i64 (nw + mo))).setCell ⟨wr.heap.size, 12, none⟩ (.int .i64 to)) w1.heap.size ⟨id + 1, s, [], 0, came, fr, to⟩ A9 m9 c9) := Lib.hid (BoxJ.kept (v0 := .int .i64 (id + 1)) (v1 := .int .i64 s.nodes) (v2 := .int .i64 s.cores) (v3 := .int .i64 s.gpus) (v4 := .string s.tag) (v5 := .bool s.whole) (v6 := .int .i64 s.long) (v7 := .int .i64 s.prio) (v8 := .slice A15 m15 c15) (v9 := .int .i64 2) (v10 := .int .i64 came) (v11 := .int .i64 (nw + mo)) (v12 := .int .i64 to) B9.out hne9)
    clear B9
    have B9 := B9q
    clear B9q
    have BSq : Hid (BoxS (((((((((((((w3.setCell ⟨wr.heap.size, 0, none⟩ (.int .i64 (id + 1))).setCell ⟨wr.heap.size, 1, none⟩ (.int .i64 s.nodes)).setCell ⟨wr.heap.size, 2, none⟩ (.int .i64 s.cores)).setCell ⟨wr.heap.size, 3, none⟩ (.int .i64 s.gpus)).setCell ⟨wr.heap.size, 4, none⟩ (.string s.tag)).setCell ⟨wr.heap.size, 5, none⟩ (.bool s.whole)).setCell ⟨wr.heap.size, 6, none⟩ (.int .i64 s.long)).setCell ⟨wr.heap.size, 7, none⟩ (.int .i64 s.prio)).setCell ⟨wr.heap.size, 8, none⟩ (.slice A15 m15 c15)).setCell ⟨wr.heap.size, 9, none⟩ (.int .i64 2)).setCell ⟨wr.heap.size, 10, none⟩ (.int .i64 came)).setCell ⟨wr.heap.size, 11, none⟩ (.int .i64 (nw + mo))).setCell ⟨wr.heap.size, 12, none⟩ (.int .i64 to)) w.heap.size s) := Lib.hid (BoxS.kept (v0 := .int .i64 (id + 1)) (v1 := .int .i64 s.nodes) (v2 := .int .i64 s.cores) (v3 := .int .i64 s.gpus) (v4 := .string s.tag) (v5 := .bool s.whole) (v6 := .int .i64 s.long) (v7 := .int .i64 s.prio) (v8 := .slice A15 m15 c15) (v9 := .int .i64 2) (v10 := .int .i64 came) (v11 := .int .i64 (nw + mo)) (v12 := .int .i64 to) BS.out hneS)
    clear BS
    have BS := BSq
    clear BSq
    have HB0q := Lib.hid (below_store (v0 := .int .i64 (id + 1)) (v1 := .int .i64 s.nodes) (v2 := .int .i64 s.cores) (v3 := .int .i64 s.gpus) (v4 := .string s.tag) (v5 := .bool s.whole) (v6 := .int .i64 s.long) (v7 := .int .i64 s.prio) (v8 := .slice A15 m15 c15) (v9 := .int .i64 2) (v10 := .int .i64 came) (v11 := .int .i64 (nw + mo)) (v12 := .int .i64 to) HB0.out (show w1.heap.size ≤ wr.heap.size from Nat.le_of_lt HLT9.out))
    clear HB0
    have HB0 := HB0q
    clear HB0q
    have B15 := Lib.hid (BZ.out.store ⟨id + 1, s, [], 2, came, (nw + mo), to⟩ A15 m15 c15)
    have JAq : Hid (JAsk (((((((((((((w3.setCell ⟨wr.heap.size, 0, none⟩ (.int .i64 (id + 1))).setCell ⟨wr.heap.size, 1, none⟩ (.int .i64 s.nodes)).setCell ⟨wr.heap.size, 2, none⟩ (.int .i64 s.cores)).setCell ⟨wr.heap.size, 3, none⟩ (.int .i64 s.gpus)).setCell ⟨wr.heap.size, 4, none⟩ (.string s.tag)).setCell ⟨wr.heap.size, 5, none⟩ (.bool s.whole)).setCell ⟨wr.heap.size, 6, none⟩ (.int .i64 s.long)).setCell ⟨wr.heap.size, 7, none⟩ (.int .i64 s.prio)).setCell ⟨wr.heap.size, 8, none⟩ (.slice A15 m15 c15)).setCell ⟨wr.heap.size, 9, none⟩ (.int .i64 2)).setCell ⟨wr.heap.size, 10, none⟩ (.int .i64 came)).setCell ⟨wr.heap.size, 11, none⟩ (.int .i64 (nw + mo))).setCell ⟨wr.heap.size, 12, none⟩ (.int .i64 to)) A9 m9 c9 ⟨id + 1, s, [], 0, came, fr, to⟩) := Lib.hid (jask_nil JA.out)
    clear JA
    have JA := JAq
    clear JAq
    have J15q : Hid (JAsk (((((((((((((w3.setCell ⟨wr.heap.size, 0, none⟩ (.int .i64 (id + 1))).setCell ⟨wr.heap.size, 1, none⟩ (.int .i64 s.nodes)).setCell ⟨wr.heap.size, 2, none⟩ (.int .i64 s.cores)).setCell ⟨wr.heap.size, 3, none⟩ (.int .i64 s.gpus)).setCell ⟨wr.heap.size, 4, none⟩ (.string s.tag)).setCell ⟨wr.heap.size, 5, none⟩ (.bool s.whole)).setCell ⟨wr.heap.size, 6, none⟩ (.int .i64 s.long)).setCell ⟨wr.heap.size, 7, none⟩ (.int .i64 s.prio)).setCell ⟨wr.heap.size, 8, none⟩ (.slice A15 m15 c15)).setCell ⟨wr.heap.size, 9, none⟩ (.int .i64 2)).setCell ⟨wr.heap.size, 10, none⟩ (.int .i64 came)).setCell ⟨wr.heap.size, 11, none⟩ (.int .i64 (nw + mo))).setCell ⟨wr.heap.size, 12, none⟩ (.int .i64 to)) A15 m15 c15 ⟨id + 1, s, [], 2, came, (nw + mo), to⟩) := Lib.hid (jask_nil J15.out)
    clear J15
    have J15 := J15q
    clear J15q BZ hne9 hneS
    try clear S1 S2 S3
    try clear S4
    try clear S5
    try clear S6
    try clear HBB JAB
    try clear BZ
    try clear HKEEP HY
    try clear HGE
    have q0 := B9.out.c0
    have r0 := B15.out.c0
    have q1 := B9.out.c1
    have r1 := B15.out.c1
    have q2 := B9.out.c2
    have r2 := B15.out.c2
    have q3 := B9.out.c3
    have r3 := B15.out.c3
    have q4 := B9.out.c4
    have r4 := B15.out.c4
    have q5 := B9.out.c5
    have r5 := B15.out.c5
    have q6 := B9.out.c6
    have r6 := B15.out.c6
    have q7 := B9.out.c7
    have r7 := B15.out.c7
    have q8 := B9.out.c8
    have r8 := B15.out.c8
    have q9 := B9.out.c9
    have r9 := B15.out.c9
    have q10 := B9.out.c10
    have r10 := B15.out.c10
    have q11 := B9.out.c11
    have r11 := B15.out.c11
    have q12 := B9.out.c12
    have r12 := B15.out.c12
    have b0 := BS.out.c0
    have b1 := BS.out.c1
    have b2 := BS.out.c2
    have b3 := BS.out.c3
    have b4 := BS.out.c4
    have b5 := BS.out.c5
    have b6 := BS.out.c6
    simp only at q0 q1 q2 q3 q4 q5 q6 q7 q8 q9 q10 q11 q12 r0 r1 r2 r3 r4 r5 r6 r7 r8 r9 r10 r11 r12
    go_wp2_with fail
    refine (h11_over H IST.out OVJ.out).mono ?_
    rintro e w4 ⟨rfl, hb⟩
    have HB0q := Lib.hid (HB0.out.trans (hb.mono HB0.out.size))
    clear HB0
    have HB0 := HB0q
    clear HB0q
    have B9q := Lib.hid (B9.out.next hb)
    clear B9
    have B9 := B9q
    clear B9q
    have JAq := Lib.hid (JA.out.next hb)
    clear JA
    have JA := JAq
    clear JAq
    have BSq := Lib.hid (BS.out.next hb)
    clear BS
    have BS := BSq
    clear BSq
    have J15q := Lib.hid (J15.out.next hb)
    clear J15
    have J15 := J15q
    clear J15q
    have B15q := Lib.hid (B15.out.next hb)
    clear B15
    have B15 := B15q
    clear B15q
    clear hb
    clear q0 q1 q2 q3 q4 q5 q6 q7 q8 q9 q10 q11 q12 r0 r1 r2 r3 r4 r5 r6 r7 r8 r9 r10 r11 r12
    clear b0 b1 b2 b3 b4 b5 b6
    have q0 := B9.out.c0
    have r0 := B15.out.c0
    have q1 := B9.out.c1
    have r1 := B15.out.c1
    have q2 := B9.out.c2
    have r2 := B15.out.c2
    have q3 := B9.out.c3
    have r3 := B15.out.c3
    have q4 := B9.out.c4
    have r4 := B15.out.c4
    have q5 := B9.out.c5
    have r5 := B15.out.c5
    have q6 := B9.out.c6
    have r6 := B15.out.c6
    have q7 := B9.out.c7
    have r7 := B15.out.c7
    have q8 := B9.out.c8
    have r8 := B15.out.c8
    have q9 := B9.out.c9
    have r9 := B15.out.c9
    have q10 := B9.out.c10
    have r10 := B15.out.c10
    have q11 := B9.out.c11
    have r11 := B15.out.c11
    have q12 := B9.out.c12
    have r12 := B15.out.c12
    have b0 := BS.out.c0
    have b1 := BS.out.c1
    have b2 := BS.out.c2
    have b3 := BS.out.c3
    have b4 := BS.out.c4
    have b5 := BS.out.c5
    have b6 := BS.out.c6
    simp only at q0 q1 q2 q3 q4 q5 q6 q7 q8 q9 q10 q11 q12 r0 r1 r2 r3 r4 r5 r6 r7 r8 r9 r10 r11 r12
    go_wp2_with fail
    refine (h11_right H J15.out (jask_few J15.out) RN.out).mono ?_
    rintro e w5 ⟨rfl, hb⟩
    have HB0q := Lib.hid (HB0.out.trans (hb.mono HB0.out.size))
    clear HB0
    have HB0 := HB0q
    clear HB0q
    have B9q := Lib.hid (B9.out.next hb)
    clear B9
    have B9 := B9q
    clear B9q
    have JAq := Lib.hid (JA.out.next hb)
    clear JA
    have JA := JAq
    clear JAq
    have BSq := Lib.hid (BS.out.next hb)
    clear BS
    have BS := BSq
    clear BSq
    have J15q := Lib.hid (J15.out.next hb)
    clear J15
    have J15 := J15q
    clear J15q
    have B15q := Lib.hid (B15.out.next hb)
    clear B15
    have B15 := B15q
    clear B15q
    clear hb
    clear q0 q1 q2 q3 q4 q5 q6 q7 q8 q9 q10 q11 q12 r0 r1 r2 r3 r4 r5 r6 r7 r8 r9 r10 r11 r12
    clear b0 b1 b2 b3 b4 b5 b6
    have q0 := B9.out.c0
    have r0 := B15.out.c0
    have q1 := B9.out.c1
    have r1 := B15.out.c1
    have q2 := B9.out.c2
    have r2 := B15.out.c2
    have q3 := B9.out.c3
    have r3 := B15.out.c3
    have q4 := B9.out.c4
    have r4 := B15.out.c4
    have q5 := B9.out.c5
    have r5 := B15.out.c5
    have q6 := B9.out.c6
    have r6 := B15.out.c6
    have q7 := B9.out.c7
    have r7 := B15.out.c7
    have q8 := B9.out.c8
    have r8 := B15.out.c8
    have q9 := B9.out.c9
    have r9 := B15.out.c9
    have q10 := B9.out.c10
    have r10 := B15.out.c10
    have q11 := B9.out.c11
    have r11 := B15.out.c11
    have q12 := B9.out.c12
    have r12 := B15.out.c12
    have b0 := BS.out.c0
    have b1 := BS.out.c1
    have b2 := BS.out.c2
    have b3 := BS.out.c3
    have b4 := BS.out.c4
    have b5 := BS.out.c5
    have b6 := BS.out.c6
    simp only at q0 q1 q2 q3 q4 q5 q6 q7 q8 q9 q10 q11 q12 r0 r1 r2 r3 r4 r5 r6 r7 r8 r9 r10 r11 r12
    go_wp2_with fail
    refine (h11_over H IS2.out OVN.out).mono ?_
    rintro e w6 ⟨rfl, hb⟩
    have HB0q := Lib.hid (HB0.out.trans (hb.mono HB0.out.size))
    clear HB0
    have HB0 := HB0q
    clear HB0q
    have B9q := Lib.hid (B9.out.next hb)
    clear B9
    have B9 := B9q
    clear B9q
    have JAq := Lib.hid (JA.out.next hb)
    clear JA
    have JA := JAq
    clear JAq
    have BSq := Lib.hid (BS.out.next hb)
    clear BS
    have BS := BSq
    clear BSq
    have J15q := Lib.hid (J15.out.next hb)
    clear J15
    have J15 := J15q
    clear J15q
    have B15q := Lib.hid (B15.out.next hb)
    clear B15
    have B15 := B15q
    clear B15q
    clear hb
    clear q0 q1 q2 q3 q4 q5 q6 q7 q8 q9 q10 q11 q12 r0 r1 r2 r3 r4 r5 r6 r7 r8 r9 r10 r11 r12
    clear b0 b1 b2 b3 b4 b5 b6
    have q0 := B9.out.c0
    have r0 := B15.out.c0
    have q1 := B9.out.c1
    have r1 := B15.out.c1
    have q2 := B9.out.c2
    have r2 := B15.out.c2
    have q3 := B9.out.c3
    have r3 := B15.out.c3
    have q4 := B9.out.c4
    have r4 := B15.out.c4
    have q5 := B9.out.c5
    have r5 := B15.out.c5
    have q6 := B9.out.c6
    have r6 := B15.out.c6
    have q7 := B9.out.c7
    have r7 := B15.out.c7
    have q8 := B9.out.c8
    have r8 := B15.out.c8
    have q9 := B9.out.c9
    have r9 := B15.out.c9
    have q10 := B9.out.c10
    have r10 := B15.out.c10
    have q11 := B9.out.c11
    have r11 := B15.out.c11
    have q12 := B9.out.c12
    have r12 := B15.out.c12
    have b0 := BS.out.c0
    have b1 := BS.out.c1
    have b2 := BS.out.c2
    have b3 := BS.out.c3
    have b4 := BS.out.c4
    have b5 := BS.out.c5
    have b6 := BS.out.c6
    simp only at q0 q1 q2 q3 q4 q5 q6 q7 q8 q9 q10 q11 q12 r0 r1 r2 r3 r4 r5 r6 r7 r8 r9 r10 r11 r12
    have y0 := B9.out.frozen 0
    have y1 := B9.out.frozen 1
    have y2 := B9.out.frozen 2
    have y3 := B9.out.frozen 3
    have y4 := B9.out.frozen 4
    have y5 := B9.out.frozen 5
    have y6 := B9.out.frozen 6
    have y7 := B9.out.frozen 7
    have y8 := B9.out.frozen 8
    have y9 := B9.out.frozen 9
    have y10 := B9.out.frozen 10
    have y11 := B9.out.frozen 11
    have y12 := B9.out.frozen 12
    have HBV := Lib.hid (below_store (v0 := .int .i64 (id + 1)) (v1 := .int .i64 s.nodes) (v2 := .int .i64 s.cores) (v3 := .int .i64 s.gpus) (v4 := .string s.tag) (v5 := .bool s.whole) (v6 := .int .i64 s.long) (v7 := .int .i64 s.prio) (v8 := .slice A15 m15 c15) (v9 := .int .i64 2) (v10 := .int .i64 came) (v11 := .int .i64 (nw + mo)) (v12 := .int .i64 to) HB0.out (Nat.le_refl w1.heap.size))
    have B9V := Lib.hid (B9.out.store ⟨id + 1, s, [], 2, came, (nw + mo), to⟩ A15 m15 c15)
    go_wp2
    refine ⟨⟨k + 1, nw + mo, 1, 2, (nw + mo), to, A15, m15, c15, by omega, by omega, by go_num, rfl, rfl, ⟨by omega, by omega⟩, EI2.out, RN1.out, B9V.out, jask_nil J15.out, HBV.out⟩, ?_⟩
    simp [intOf]; omega

set_option maxRecDepth 100000 in
set_option maxHeartbeats 40000000 in
theorem ends_B (H : JobOk) (id : Int) (s : Sp) (came : Int) (n c : Nat) (w w1 wr : World) (b off : Nat) (wt mo : Int) (k : Nat) (nw bg st fr to : Int) (A9 : Option Addr) (m9 c9 : Nat) (HI : Hid (∀ x : Int, -10 ≤ x → x ≤ 1000000000000 → I64 x)) (hc1 : 0 ≤ came) (hc2 : came ≤ 4294967295) (hlt : k < n) (hls : k < 60) (hnw1 : came ≤ nw) (hnw2 : nw ≤ came + 255 * k) (hx2 : 0 ≤ mo) (hx3 : mo ≤ 255) (EI : Hid (EndI st bg)) (RJ : Hid (RightJ ⟨id + 1, s, [], st, came, fr, to⟩)) (B9 : Hid (BoxJ wr w1.heap.size ⟨id + 1, s, [], st, came, fr, to⟩ A9 m9 c9)) (JA : Hid (JAsk wr A9 m9 c9 ⟨id + 1, s, [], st, came, fr, to⟩)) (BS : Hid (BoxS wr w.heap.size s)) (HB0 : Hid (Below w1.heap.size w1 wr)) (IX : Hid (I64 wt)) (CE : Hid (CellK wr ⟨b, off + k * 2, none⟩ (.int .i64 wt))) (e1 : wr.cell? ⟨b, off + k * 2 + 1, none⟩ = some (.int .u8 mo)) (Q0 : Exit → Act → World → Prop) (c0 c1 c4 c6 c7 c10 c11 c17 c18 c19 c20 c21 c22 c23 c24 c25 c26 c27 c28 c29 c30 c31 c32 c33 c34 c35 c36 c37 c38 c39 c138 c139 c140 c141 c142 c143 c144 c145 c146 c147 c148 c149 c150 c151 c152 c153 c154 c155 c156 c157 c158 u8 u15 u16 u40 u41 u42 u43 u44 u45 u46 u47 u48 u49 u50 u51 u52 u53 u54 u55 u56 u57 u58 u59 u60 u61 u62 u63 u64 u65 u66 u67 u68 u69 u70 u71 u72 u73 u74 u75 u76 u77 u78 u79 u80 u81 u82 u83 u84 u85 u86 u87 u88 u89 u90 u91 u92 u93 u94 u95 u96 u97 u98 u99 u100 u101 u102 u103 u104 u105 u106 u107 u108 u109 u110 u111 u112 u113 u114 u115 u116 u117 u118 u119 u120 u121 u122 u123 u124 u125 u126 u127 u128 u129 u130 u131 u132 u133 u134 u135 u136 u137 : Value) (hze : doE ⟨id + 1, s, [], st, came, fr, to⟩ wt (nw + mo) = 0) (n2 : nextZ st wt ≠ 2) (n3 : ¬ 2 < nextZ st wt) :
    Code.wp Try.prog endsBody (Exit.then (fun a' w' => (∃ u8 u12 u13 u14 u15 u16 u40 u41 u42 u43 u44 u45 u46 u47 u48 u49 u50 u51 u52 u53 u54 u55 u56 u57 u58 u59 u60 u61 u62 u63 u64 u65 u66 u67 u68 u69 u70 u71 u72 u73 u74 u75 u76 u77 u78 u79 u80 u81 u82 u83 u84 u85 u86 u87 u88 u89 u90 u91 u92 u93 u94 u95 u96 u97 u98 u99 u100 u101 u102 u103 u104 u105 u106 u107 u108 u109 u110 u111 u112 u113 u114 u115 u116 u117 u118 u119 u120 u121 u122 u123 u124 u125 u126 u127 u128 u129 u130 u131 u132 u133 u134 u135 u136 u137, EndRel id s came n w1 u12 u13 u14 w' ∧ a' = ⟨#[c0, c1, .int .u32 came, .slice (some ⟨b, off, none⟩) n c, c4, .pointer (some ⟨w.heap.size, 0, none⟩), c6, c7, u8, .pointer (some ⟨w1.heap.size, 0, none⟩), c10, c11, u12, u13, u14, u15, u16, c17, c18, c19, c20, c21, c22, c23, c24, c25, c26, c27, c28, c29, c30, c31, c32, c33, c34, c35, c36, c37, c38, c39, u40, u41, u42, u43, u44, u45, u46, u47, u48, u49, u50, u51, u52, u53, u54, u55, u56, u57, u58, u59, u60, u61, u62, u63, u64, u65, u66, u67, u68, u69, u70, u71, u72, u73, u74, u75, u76, u77, u78, u79, u80, u81, u82, u83, u84, u85, u86, u87, u88, u89, u90, u91, u92, u93, u94, u95, u96, u97, u98, u99, u100, u101, u102, u103, u104, u105, u106, u107, u108, u109, u110, u111, u112, u113, u114, u115, u116, u117, u118, u119, u120, u121, u122, u123, u124, u125, u126, u127, u128, u129, u130, u131, u132, u133, u134, u135, u136, u137, c138, c139, c140, c141, c142, c143, c144, c145, c146, c147, c148, c149, c150, c151, c152, c153, c154, c155, c156, c157, c158], []⟩) ∧ 60 - (intOf (a'.tmps.getD 14 undef)).toNat < 60 - (intOf ((⟨#[c0, c1, .int .u32 came, .slice (some ⟨b, off, none⟩) n c, c4, .pointer (some ⟨w.heap.size, 0, none⟩), c6, c7, u8, .pointer (some ⟨w1.heap.size, 0, none⟩), c10, c11, (.int .i64 nw), (.int .i64 bg), (.int .i64 k), u15, u16, c17, c18, c19, c20, c21, c22, c23, c24, c25, c26, c27, c28, c29, c30, c31, c32, c33, c34, c35, c36, c37, c38, c39, u40, u41, u42, u43, u44, u45, u46, u47, u48, u49, u50, u51, u52, u53, u54, u55, u56, u57, u58, u59, u60, u61, u62, u63, u64, u65, u66, u67, u68, u69, u70, u71, u72, u73, u74, u75, u76, u77, u78, u79, u80, u81, u82, u83, u84, u85, u86, u87, u88, u89, u90, u91, u92, u93, u94, u95, u96, u97, u98, u99, u100, u101, u102, u103, u104, u105, u106, u107, u108, u109, u110, u111, u112, u113, u114, u115, u116, u117, u118, u119, u120, u121, u122, u123, u124, u125, u126, u127, u128, u129, u130, u131, u132, u133, u134, u135, u136, u137, c138, c139, c140, c141, c142, c143, c144, c145, c146, c147, c148, c149, c150, c151, c152, c153, c154, c155, c156, c157, c158], []⟩ : Act).tmps.getD 14 undef)).toNat) Q0) ⟨#[c0, c1, .int .u32 came, .slice (some ⟨b, off, none⟩) n c, c4, .pointer (some ⟨w.heap.size, 0, none⟩), c6, c7, u8, .pointer (some ⟨w1.heap.size, 0, none⟩), c10, c11, (.int .i64 nw), (.int .i64 bg), (.int .i64 k), u15, u16, c17, c18, c19, c20, c21, c22, c23, c24, c25, c26, c27, c28, c29, c30, c31, c32, c33, c34, c35, c36, c37, c38, c39, u40, u41, u42, u43, u44, u45, u46, u47, u48, u49, u50, u51, u52, u53, u54, u55, u56, u57, u58, u59, u60, u61, u62, u63, u64, u65, u66, u67, u68, u69, u70, u71, u72, u73, u74, u75, u76, u77, u78, u79, u80, u81, u82, u83, u84, u85, u86, u87, u88, u89, u90, u91, u92, u93, u94, u95, u96, u97, u98, u99, u100, u101, u102, u103, u104, u105, u106, u107, u108, u109, u110, u111, u112, u113, u114, u115, u116, u117, u118, u119, u120, u121, u122, u123, u124, u125, u126, u127, u128, u129, u130, u131, u132, u133, u134, u135, u136, u137, c138, c139, c140, c141, c142, c143, c144, c145, c146, c147, c148, c149, c150, c151, c152, c153, c154, c155, c156, c157, c158], []⟩ wr := by
  conv => arg 2; whnf
  have hls' : decide (k < 60) = true := decide_eq_true hls
  have hls2 : decide ((k : Int) < 60) = true := by simp; omega
  have IN : Hid (I64 (nw + mo)) := Lib.hid (HI.out _ (by omega) (by omega))
  have hdj := doJ_ok hze
  have hn0 := (do_ok.1 hze).2
  have hrt := do_right hze
  rw [← hdj] at hrt
  simp only at hn0 hdj
  have DE := Lib.hid hze
  have hng := next_range st wt
  have hlow : st = 0 ∨ st = 1 ∨ st = 2 := (next_from (j := ⟨id + 1, s, [], st, came, fr, to⟩) (what := wt) hn0).1
  have IST := Lib.hid JA.out.int.2.1
  have OVJ : Hid (overJ st = false) := Lib.hid (decide_eq_false (by omega))
  have _u1 := RJ
  clear _u1
  have EI2 := Lib.hid (endI_step EI.out hn0 n2)
  obtain ⟨s2, hs2⟩ : ∃ s2, nextZ st wt = s2 := ⟨_, rfl⟩
  rw [hs2] at EI2 hdj hn0 n2 n3 hng
  have IS2 := Lib.hid (HI.out s2 (by omega) (by omega))
  have e2 : (s2 == 2) = false := by rw [beq_eq_false_iff_ne]; exact n2
  have hd2 : doJ ⟨id + 1, s, [], st, came, fr, to⟩ wt (nw + mo) = ⟨id + 1, s, [], s2, came, fr, to⟩ := by rw [hdj]; unfold intoJ; rw [if_neg n2, if_neg n3]
  rw [hd2] at hrt
  have RN1 := Lib.hid hrt
  have RN := Lib.hid (show rightJ ⟨id + 1, s, [], s2, came, fr, to⟩ = true from decide_eq_true hrt)
  have DJ := Lib.hid hd2
  have OVN : Hid (overJ s2 = false) := Lib.hid (decide_eq_false (by omega))
  clear hze hdj hn0 hng hrt n2 n3 hd2 hlow hs2
  have q0 := B9.out.c0
  have q1 := B9.out.c1
  have q2 := B9.out.c2
  have q3 := B9.out.c3
  have q4 := B9.out.c4
  have q5 := B9.out.c5
  have q6 := B9.out.c6
  have q7 := B9.out.c7
  have q8 := B9.out.c8
  have q9 := B9.out.c9
  have q10 := B9.out.c10
  have q11 := B9.out.c11
  have q12 := B9.out.c12
  simp only at q0 q1 q2 q3 q4 q5 q6 q7 q8 q9 q10 q11 q12
  go_wp2
  have HKEEP : Hid (∀ wx, Below wr.drew.heap.size wr.drew wx → wx.cell? ⟨w1.heap.size, 0, none⟩ = some (.int .i64 (id + 1)) ∧ wx.cell? ⟨w1.heap.size, 1, none⟩ = some (.int .i64 s.nodes) ∧ wx.cell? ⟨w1.heap.size, 2, none⟩ = some (.int .i64 s.cores) ∧ wx.cell? ⟨w1.heap.size, 3, none⟩ = some (.int .i64 s.gpus) ∧ wx.cell? ⟨w1.heap.size, 4, none⟩ = some (.string s.tag) ∧ wx.cell? ⟨w1.heap.size, 5, none⟩ = some (.bool s.whole) ∧ wx.cell? ⟨w1.heap.size, 6, none⟩ = some (.int .i64 s.long) ∧ wx.cell? ⟨w1.heap.size, 7, none⟩ = some (.int .i64 s.prio) ∧ wx.cell? ⟨w1.heap.size, 8, none⟩ = some (.slice A9 m9 c9) ∧ wx.cell? ⟨w1.heap.size, 9, none⟩ = some (.int .i64 st) ∧ wx.cell? ⟨w1.heap.size, 10, none⟩ = some (.int .i64 came) ∧ wx.cell? ⟨w1.heap.size, 11, none⟩ = some (.int .i64 fr) ∧ wx.cell? ⟨w1.heap.size, 12, none⟩ = some (.int .i64 to) ∧ wx.cell? ⟨b, off + k * 2, none⟩ = some (.int .i64 wt)) := Lib.hid (fun wx hz' => by
    have hz := (bel_drew1 wr).trans (hz'.mono (bel_drew1 wr).size)
    exact ⟨keep_cell B9.out.lt q0 hz, keep_cell B9.out.lt q1 hz, keep_cell B9.out.lt q2 hz, keep_cell B9.out.lt q3 hz, keep_cell B9.out.lt q4 hz, keep_cell B9.out.lt q5 hz, keep_cell B9.out.lt q6 hz, keep_cell B9.out.lt q7 hz, keep_cell B9.out.lt q8 hz, keep_cell B9.out.lt q9 hz, keep_cell B9.out.lt q10 hz, keep_cell B9.out.lt q11 hz, keep_cell B9.out.lt q12 hz, keep_cell CE.out.lt CE.out.at' hz⟩)
  have hd := bel_drew1 wr
  have HB0q := Lib.hid (HB0.out.trans (hd.mono HB0.out.size))
  clear HB0
  have HB0 := HB0q
  clear HB0q
  have B9q := Lib.hid (B9.out.next hd)
  clear B9
  have B9 := B9q
  clear B9q
  have JAq := Lib.hid (JA.out.next hd)
  clear JA
  have JA := JAq
  clear JAq
  have BSq := Lib.hid (BS.out.next hd)
  clear BS
  have BS := BSq
  clear BSq
  have CEq := Lib.hid (CE.out.next hd)
  clear CE
  have CE := CEq
  clear CEq
  clear hd
  have HY := Lib.hid (Below.refl wr.drew.heap.size wr.drew)
  have HBB : Hid (Below wr.drew.heap.size wr.drew (wr.alloc (.cells #[.int .i64 0, .int .i64 0, .int .i64 0, .int .i64 0, .string ⟨#[]⟩, .bool false, .int .i64 0, .int .i64 0, .slice none 0 0, .int .i64 0, .int .i64 0, .int .i64 0, .int .i64 0] 26)).drew) := Lib.hid ((Below.refl wr.drew.heap.size wr.drew).alloc (Nat.le_refl _) (.cells #[.int .i64 0, .int .i64 0, .int .i64 0, .int .i64 0, .string ⟨#[]⟩, .bool false, .int .i64 0, .int .i64 0, .slice none 0 0, .int .i64 0, .int .i64 0, .int .i64 0, .int .i64 0] 26))
  have JAB : Hid (JAsk (wr.alloc (.cells #[.int .i64 0, .int .i64 0, .int .i64 0, .int .i64 0, .string ⟨#[]⟩, .bool false, .int .i64 0, .int .i64 0, .slice none 0 0, .int .i64 0, .int .i64 0, .int .i64 0, .int .i64 0] 26)).drew A9 m9 c9 ⟨id + 1, s, [], st, came, fr, to⟩) := Lib.hid (JA.out.next HBB.out)
  have BZ : Hid (BoxJ (wr.alloc (.cells #[.int .i64 0, .int .i64 0, .int .i64 0, .int .i64 0, .string ⟨#[]⟩, .bool false, .int .i64 0, .int .i64 0, .slice none 0 0, .int .i64 0, .int .i64 0, .int .i64 0, .int .i64 0] 26)).drew wr.heap.size jb0 none 0 0) := Lib.hid ((boxJ_new wr jb0 none 0 0).next (bel_drew1 _))
  have HLT9 := Lib.hid B9.out.lt
  have HLTS := Lib.hid BS.out.lt
  have HGE : wr.drew.heap.size ≤ wr.heap.size := Nat.le_refl _
  clear q0 q1 q2 q3 q4 q5 q6 q7 q8 q9 q10 q11 q12
  have S1 := Lib.hid (HKEEP.out _ (Below.refl _ _))
  have S2 := Lib.hid (HKEEP.out _ HBB.out)
  go_region_held3 (fun w' => w'.cell? ⟨w1.heap.size, 0, none⟩ = some (.int .i64 (id + 1)) ∧ w'.cell? ⟨w1.heap.size, 1, none⟩ = some (.int .i64 s.nodes) ∧ w'.cell? ⟨w1.heap.size, 2, none⟩ = some (.int .i64 s.cores) ∧ w'.cell? ⟨w1.heap.size, 3, none⟩ = some (.int .i64 s.gpus) ∧ w'.cell? ⟨w1.heap.size, 4, none⟩ = some (.string s.tag) ∧ w'.cell? ⟨w1.heap.size, 5, none⟩ = some (.bool s.whole) ∧ w'.cell? ⟨w1.heap.size, 6, none⟩ = some (.int .i64 s.long) ∧ w'.cell? ⟨w1.heap.size, 7, none⟩ = some (.int .i64 s.prio) ∧ w'.cell? ⟨w1.heap.size, 8, none⟩ = some (.slice A9 m9 c9) ∧ w'.cell? ⟨w1.heap.size, 9, none⟩ = some (.int .i64 st) ∧ w'.cell? ⟨w1.heap.size, 10, none⟩ = some (.int .i64 came) ∧ w'.cell? ⟨w1.heap.size, 11, none⟩ = some (.int .i64 fr) ∧ w'.cell? ⟨w1.heap.size, 12, none⟩ = some (.int .i64 to) ∧ w'.cell? ⟨b, off + k * 2, none⟩ = some (.int .i64 wt))
    (first | with_reducible exact S1.out | with_reducible exact S2.out | with_reducible exact S3.out | with_reducible exact S4.out | with_reducible exact S5.out | with_reducible exact S6.out | fail)
    (first | (go_at_call 7; (with_reducible refine (h11_do H JA.out (jask_few JA.out) IX.out IN.out DJ.out DE.out).mono ?_); rintro e w3 ⟨⟨A15, m15, c15, rfl, hj15⟩, hb⟩; have hy := hb; have HY := Lib.hid hy; have HB0 := Lib.hid (HB0.out.trans (hy.mono HB0.out.size)); have B9 := Lib.hid (B9.out.next hy); have JA := Lib.hid (JA.out.next hy); have BS := Lib.hid (BS.out.next hy); have CE := Lib.hid (CE.out.next hy); have J15 := Lib.hid hj15; have S3 := Lib.hid (HKEEP.out _ HY.out); have S6 := Lib.hid (HKEEP.out _ (HY.out.alloc HY.out.size (.cells #[.int .i64 0, .int .i64 0, .int .i64 0, .int .i64 0, .string ⟨#[]⟩, .bool false, .int .i64 0, .int .i64 0, .slice none 0 0, .int .i64 0, .int .i64 0, .int .i64 0, .int .i64 0] 26))); have S4 := Lib.hid (HKEEP.out _ (HY.out.alloc HY.out.size (.cells #[.int .i64 (id + 1), .int .i64 s.nodes, .int .i64 s.cores, .int .i64 s.gpus, .string s.tag, .bool s.whole, .int .i64 s.long, .int .i64 s.prio, .slice A15 m15 c15, .int .i64 s2, .int .i64 came, .int .i64 fr, .int .i64 to] 26))); clear hb hy) | (go_at_call 7; (with_reducible refine (h11_do H JAB.out (jask_few JA.out) IX.out IN.out DJ.out DE.out).mono ?_); rintro e w3 ⟨⟨A15, m15, c15, rfl, hj15⟩, hb⟩; have hy := HBB.out.trans (hb.mono HBB.out.size); have HY := Lib.hid hy; have HB0 := Lib.hid (HB0.out.trans (hy.mono HB0.out.size)); have B9 := Lib.hid (B9.out.next hy); have JA := Lib.hid (JA.out.next hy); have BS := Lib.hid (BS.out.next hy); have CE := Lib.hid (CE.out.next hy); have J15 := Lib.hid hj15; have S3 := Lib.hid (HKEEP.out _ HY.out); have S5 := Lib.hid (HKEEP.out _ (below_store (v0 := .int .i64 (id + 1)) (v1 := .int .i64 s.nodes) (v2 := .int .i64 s.cores) (v3 := .int .i64 s.gpus) (v4 := .string s.tag) (v5 := .bool s.whole) (v6 := .int .i64 s.long) (v7 := .int .i64 s.prio) (v8 := .slice A15 m15 c15) (v9 := .int .i64 s2) (v10 := .int .i64 came) (v11 := .int .i64 fr) (v12 := .int .i64 to) HY.out HGE)); have BZ := Lib.hid (BZ.out.next hb); have p0 := BZ.out.c0; have y0 := BZ.out.frozen 0; have p1 := BZ.out.c1; have y1 := BZ.out.frozen 1; have p2 := BZ.out.c2; have y2 := BZ.out.frozen 2; have p3 := BZ.out.c3; have y3 := BZ.out.frozen 3; have p4 := BZ.out.c4; have y4 := BZ.out.frozen 4; have p5 := BZ.out.c5; have y5 := BZ.out.frozen 5; have p6 := BZ.out.c6; have y6 := BZ.out.frozen 6; have p7 := BZ.out.c7; have y7 := BZ.out.frozen 7; have p8 := BZ.out.c8; have y8 := BZ.out.frozen 8; have p9 := BZ.out.c9; have y9 := BZ.out.frozen 9; have p10 := BZ.out.c10; have y10 := BZ.out.frozen 10; have p11 := BZ.out.c11; have y11 := BZ.out.frozen 11; have p12 := BZ.out.c12; have y12 := BZ.out.frozen 12; clear hb hy) | fail)
  · clear CE
    have hb := Below.alloc (Below.refl w3.heap.size w3) (Nat.le_refl _) (.cells #[.int .i64 (id + 1), .int .i64 s.nodes, .int .i64 s.cores, .int .i64 s.gpus, .string s.tag, .bool s.whole, .int .i64 s.long, .int .i64 s.prio, .slice A15 m15 c15, .int .i64 s2, .int .i64 came, .int .i64 fr, .int .i64 to] 26)
    have B15q := Lib.hid (boxJ_new w3 ⟨id + 1, s, [], s2, came, fr, to⟩ A15 m15 c15)
    have HB0q := Lib.hid (HB0.out.trans (hb.mono HB0.out.size))
    clear HB0
    have HB0 := HB0q
    clear HB0q
    have B9q := Lib.hid (B9.out.next hb)
    clear B9
    have B9 := B9q
    clear B9q
    have JAq := Lib.hid (JA.out.next hb)
    clear JA
    have JA := JAq
    clear JAq
    have BSq := Lib.hid (BS.out.next hb)
    clear BS
    have BS := BSq
    clear BSq
    have J15q := Lib.hid (J15.out.next hb)
    clear J15
    have J15 := J15q
    clear J15q
    clear hb
    have B15 := B15q
    clear B15q
    try clear S1 S2 S3
    try clear S4
    try clear S5
    try clear S6
    try clear HBB JAB
    try clear BZ
    try clear HKEEP HY
    try clear HGE
    have q0 := B9.out.c0
    have r0 := B15.out.c0
    have q1 := B9.out.c1
    have r1 := B15.out.c1
    have q2 := B9.out.c2
    have r2 := B15.out.c2
    have q3 := B9.out.c3
    have r3 := B15.out.c3
    have q4 := B9.out.c4
    have r4 := B15.out.c4
    have q5 := B9.out.c5
    have r5 := B15.out.c5
    have q6 := B9.out.c6
    have r6 := B15.out.c6
    have q7 := B9.out.c7
    have r7 := B15.out.c7
    have q8 := B9.out.c8
    have r8 := B15.out.c8
    have q9 := B9.out.c9
    have r9 := B15.out.c9
    have q10 := B9.out.c10
    have r10 := B15.out.c10
    have q11 := B9.out.c11
    have r11 := B15.out.c11
    have q12 := B9.out.c12
    have r12 := B15.out.c12
    have b0 := BS.out.c0
    have b1 := BS.out.c1
    have b2 := BS.out.c2
    have b3 := BS.out.c3
    have b4 := BS.out.c4
    have b5 := BS.out.c5
    have b6 := BS.out.c6
    simp only at q0 q1 q2 q3 q4 q5 q6 q7 q8 q9 q10 q11 q12 r0 r1 r2 r3 r4 r5 r6 r7 r8 r9 r10 r11 r12
    go_wp2_with fail
    refine (h11_over H IST.out OVJ.out).mono ?_
    rintro e w4 ⟨rfl, hb⟩
    have HB0q := Lib.hid (HB0.out.trans (hb.mono HB0.out.size))
    clear HB0
    have HB0 := HB0q
    clear HB0q
    have B9q := Lib.hid (B9.out.next hb)
    clear B9
    have B9 := B9q
    clear B9q
    have JAq := Lib.hid (JA.out.next hb)
    clear JA
    have JA := JAq
    clear JAq
    have BSq := Lib.hid (BS.out.next hb)
    clear BS
    have BS := BSq
    clear BSq
    have J15q := Lib.hid (J15.out.next hb)
    clear J15
    have J15 := J15q
    clear J15q
    have B15q := Lib.hid (B15.out.next hb)
    clear B15
    have B15 := B15q
    clear B15q
    clear hb
    clear q0 q1 q2 q3 q4 q5 q6 q7 q8 q9 q10 q11 q12 r0 r1 r2 r3 r4 r5 r6 r7 r8 r9 r10 r11 r12
    clear b0 b1 b2 b3 b4 b5 b6
    have q0 := B9.out.c0
    have r0 := B15.out.c0
    have q1 := B9.out.c1
    have r1 := B15.out.c1
    have q2 := B9.out.c2
    have r2 := B15.out.c2
    have q3 := B9.out.c3
    have r3 := B15.out.c3
    have q4 := B9.out.c4
    have r4 := B15.out.c4
    have q5 := B9.out.c5
    have r5 := B15.out.c5
    have q6 := B9.out.c6
    have r6 := B15.out.c6
    have q7 := B9.out.c7
    have r7 := B15.out.c7
    have q8 := B9.out.c8
    have r8 := B15.out.c8
    have q9 := B9.out.c9
    have r9 := B15.out.c9
    have q10 := B9.out.c10
    have r10 := B15.out.c10
    have q11 := B9.out.c11
    have r11 := B15.out.c11
    have q12 := B9.out.c12
    have r12 := B15.out.c12
    have b0 := BS.out.c0
    have b1 := BS.out.c1
    have b2 := BS.out.c2
    have b3 := BS.out.c3
    have b4 := BS.out.c4
    have b5 := BS.out.c5
    have b6 := BS.out.c6
    simp only at q0 q1 q2 q3 q4 q5 q6 q7 q8 q9 q10 q11 q12 r0 r1 r2 r3 r4 r5 r6 r7 r8 r9 r10 r11 r12
    go_wp2_with fail
    refine (h11_right H J15.out (jask_few J15.out) RN.out).mono ?_
    rintro e w5 ⟨rfl, hb⟩
    have HB0q := Lib.hid (HB0.out.trans (hb.mono HB0.out.size))
    clear HB0
    have HB0 := HB0q
    clear HB0q
    have B9q := Lib.hid (B9.out.next hb)
    clear B9
    have B9 := B9q
    clear B9q
    have JAq := Lib.hid (JA.out.next hb)
    clear JA
    have JA := JAq
    clear JAq
    have BSq := Lib.hid (BS.out.next hb)
    clear BS
    have BS := BSq
    clear BSq
    have J15q := Lib.hid (J15.out.next hb)
    clear J15
    have J15 := J15q
    clear J15q
    have B15q := Lib.hid (B15.out.next hb)
    clear B15
    have B15 := B15q
    clear B15q
    clear hb
    clear q0 q1 q2 q3 q4 q5 q6 q7 q8 q9 q10 q11 q12 r0 r1 r2 r3 r4 r5 r6 r7 r8 r9 r10 r11 r12
    clear b0 b1 b2 b3 b4 b5 b6
    have q0 := B9.out.c0
    have r0 := B15.out.c0
    have q1 := B9.out.c1
    have r1 := B15.out.c1
    have q2 := B9.out.c2
    have r2 := B15.out.c2
    have q3 := B9.out.c3
    have r3 := B15.out.c3
    have q4 := B9.out.c4
    have r4 := B15.out.c4
    have q5 := B9.out.c5
    have r5 := B15.out.c5
    have q6 := B9.out.c6
    have r6 := B15.out.c6
    have q7 := B9.out.c7
    have r7 := B15.out.c7
    have q8 := B9.out.c8
    have r8 := B15.out.c8
    have q9 := B9.out.c9
    have r9 := B15.out.c9
    have q10 := B9.out.c10
    have r10 := B15.out.c10
    have q11 := B9.out.c11
    have r11 := B15.out.c11
    have q12 := B9.out.c12
    have r12 := B15.out.c12
    have b0 := BS.out.c0
    have b1 := BS.out.c1
    have b2 := BS.out.c2
    have b3 := BS.out.c3
    have b4 := BS.out.c4
    have b5 := BS.out.c5
    have b6 := BS.out.c6
    simp only at q0 q1 q2 q3 q4 q5 q6 q7 q8 q9 q10 q11 q12 r0 r1 r2 r3 r4 r5 r6 r7 r8 r9 r10 r11 r12
    go_wp2_with fail
    refine (h11_over H IS2.out OVN.out).mono ?_
    rintro e w6 ⟨rfl, hb⟩
    have HB0q := Lib.hid (HB0.out.trans (hb.mono HB0.out.size))
    clear HB0
    have HB0 := HB0q
    clear HB0q
    have B9q := Lib.hid (B9.out.next hb)
    clear B9
    have B9 := B9q
    clear B9q
    have JAq := Lib.hid (JA.out.next hb)
    clear JA
    have JA := JAq
    clear JAq
    have BSq := Lib.hid (BS.out.next hb)
    clear BS
    have BS := BSq
    clear BSq
    have J15q := Lib.hid (J15.out.next hb)
    clear J15
    have J15 := J15q
    clear J15q
    have B15q := Lib.hid (B15.out.next hb)
    clear B15
    have B15 := B15q
    clear B15q
    clear hb
    clear q0 q1 q2 q3 q4 q5 q6 q7 q8 q9 q10 q11 q12 r0 r1 r2 r3 r4 r5 r6 r7 r8 r9 r10 r11 r12
    clear b0 b1 b2 b3 b4 b5 b6
    have q0 := B9.out.c0
    have r0 := B15.out.c0
    have q1 := B9.out.c1
    have r1 := B15.out.c1
    have q2 := B9.out.c2
    have r2 := B15.out.c2
    have q3 := B9.out.c3
    have r3 := B15.out.c3
    have q4 := B9.out.c4
    have r4 := B15.out.c4
    have q5 := B9.out.c5
    have r5 := B15.out.c5
    have q6 := B9.out.c6
    have r6 := B15.out.c6
    have q7 := B9.out.c7
    have r7 := B15.out.c7
    have q8 := B9.out.c8
    have r8 := B15.out.c8
    have q9 := B9.out.c9
    have r9 := B15.out.c9
    have q10 := B9.out.c10
    have r10 := B15.out.c10
    have q11 := B9.out.c11
    have r11 := B15.out.c11
    have q12 := B9.out.c12
    have r12 := B15.out.c12
    have b0 := BS.out.c0
    have b1 := BS.out.c1
    have b2 := BS.out.c2
    have b3 := BS.out.c3
    have b4 := BS.out.c4
    have b5 := BS.out.c5
    have b6 := BS.out.c6
    simp only at q0 q1 q2 q3 q4 q5 q6 q7 q8 q9 q10 q11 q12 r0 r1 r2 r3 r4 r5 r6 r7 r8 r9 r10 r11 r12
    have y0 := B9.out.frozen 0
    have y1 := B9.out.frozen 1
    have y2 := B9.out.frozen 2
    have y3 := B9.out.frozen 3
    have y4 := B9.out.frozen 4
    have y5 := B9.out.frozen 5
    have y6 := B9.out.frozen 6
    have y7 := B9.out.frozen 7
    have y8 := B9.out.frozen 8
    have y9 := B9.out.frozen 9
    have y10 := B9.out.frozen 10
    have y11 := B9.out.frozen 11
    have y12 := B9.out.frozen 12
    have HBV := Lib.hid (below_store (v0 := .int .i64 (id + 1)) (v1 := .int .i64 s.nodes) (v2 := .int .i64 s.cores) (v3 := .int .i64 s.gpus) (v4 := .string s.tag) (v5 := .bool s.whole) (v6 := .int .i64 s.long) (v7 := .int .i64 s.prio) (v8 := .slice A15 m15 c15) (v9 := .int .i64 s2) (v10 := .int .i64 came) (v11 := .int .i64 fr) (v12 := .int .i64 to) HB0.out (Nat.le_refl w1.heap.size))
    have B9V := Lib.hid (B9.out.store ⟨id + 1, s, [], s2, came, fr, to⟩ A15 m15 c15)
    go_wp2
    refine ⟨⟨k + 1, nw + mo, bg, s2, fr, to, A15, m15, c15, by omega, by omega, by go_num, rfl, rfl, ⟨by omega, by omega⟩, EI2.out, RN1.out, B9V.out, jask_nil J15.out, HBV.out⟩, ?_⟩
    simp [intOf]; omega
  · clear CE
    clear p0 y0 p1 y1 p2 y2 p3 y3 p4 y4 p5 y5 p6 y6 p7 y7 p8 y8 p9 y9 p10 y10 p11 y11 p12 y12
    have hne9 : w1.heap.size ≠ wr.heap.size := Nat.ne_of_lt HLT9.out
    have hneS : w.heap.size ≠ wr.heap.size := Nat.ne_of_lt HLTS.out
    have B9q : Hid (BoxJ (((((((((((((w3.setCell ⟨wr.heap.size, 0, none⟩ (.int .i64 (id + 1))).setCell ⟨wr.heap.size, 1, none⟩ (.int .i64 s.nodes)).setCell ⟨wr.heap.size, 2, none⟩ (.int .i64 s.cores)).setCell ⟨wr.heap.size, 3, none⟩ (.int .i64 s.gpus)).setCell ⟨wr.heap.size, 4, none⟩ (.string s.tag)).setCell ⟨wr.heap.size, 5, none⟩ (.bool s.whole)).setCell ⟨wr.heap.size, 6, none⟩ (.int .i64 s.long)).setCell ⟨wr.heap.size, 7, none⟩ (.int .i64 s.prio)).setCell ⟨wr.heap.size, 8, none⟩ (.slice A15 m15 c15)).setCell ⟨wr.heap.size, 9, none⟩ (.int .i64 s2)).setCell ⟨wr.heap.size, 10, none⟩ (.int .i64 came)).setCell ⟨wr.heap.size, 11, none⟩ (.int .i64 fr)).setCell ⟨wr.heap.size, 12, none⟩ (.int .i64 to)) w1.heap.size ⟨id + 1, s, [], st, came, fr, to⟩ A9 m9 c9) := Lib.hid (BoxJ.kept (v0 := .int .i64 (id + 1)) (v1 := .int .i64 s.nodes) (v2 := .int .i64 s.cores) (v3 := .int .i64 s.gpus) (v4 := .string s.tag) (v5 := .bool s.whole) (v6 := .int .i64 s.long) (v7 := .int .i64 s.prio) (v8 := .slice A15 m15 c15) (v9 := .int .i64 s2) (v10 := .int .i64 came) (v11 := .int .i64 fr) (v12 := .int .i64 to) B9.out hne9)
    clear B9
    have B9 := B9q
    clear B9q
    have BSq : Hid (BoxS (((((((((((((w3.setCell ⟨wr.heap.size, 0, none⟩ (.int .i64 (id + 1))).setCell ⟨wr.heap.size, 1, none⟩ (.int .i64 s.nodes)).setCell ⟨wr.heap.size, 2, none⟩ (.int .i64 s.cores)).setCell ⟨wr.heap.size, 3, none⟩ (.int .i64 s.gpus)).setCell ⟨wr.heap.size, 4, none⟩ (.string s.tag)).setCell ⟨wr.heap.size, 5, none⟩ (.bool s.whole)).setCell ⟨wr.heap.size, 6, none⟩ (.int .i64 s.long)).setCell ⟨wr.heap.size, 7, none⟩ (.int .i64 s.prio)).setCell ⟨wr.heap.size, 8, none⟩ (.slice A15 m15 c15)).setCell ⟨wr.heap.size, 9, none⟩ (.int .i64 s2)).setCell ⟨wr.heap.size, 10, none⟩ (.int .i64 came)).setCell ⟨wr.heap.size, 11, none⟩ (.int .i64 fr)).setCell ⟨wr.heap.size, 12, none⟩ (.int .i64 to)) w.heap.size s) := Lib.hid (BoxS.kept (v0 := .int .i64 (id + 1)) (v1 := .int .i64 s.nodes) (v2 := .int .i64 s.cores) (v3 := .int .i64 s.gpus) (v4 := .string s.tag) (v5 := .bool s.whole) (v6 := .int .i64 s.long) (v7 := .int .i64 s.prio) (v8 := .slice A15 m15 c15) (v9 := .int .i64 s2) (v10 := .int .i64 came) (v11 := .int .i64 fr) (v12 := .int .i64 to) BS.out hneS)
    clear BS
    have BS := BSq
    clear BSq
    have HB0q := Lib.hid (below_store (v0 := .int .i64 (id + 1)) (v1 := .int .i64 s.nodes) (v2 := .int .i64 s.cores) (v3 := .int .i64 s.gpus) (v4 := .string s.tag) (v5 := .bool s.whole) (v6 := .int .i64 s.long) (v7 := .int .i64 s.prio) (v8 := .slice A15 m15 c15) (v9 := .int .i64 s2) (v10 := .int .i64 came) (v11 := .int .i64 fr) (v12 := .int .i64 to) HB0.out (show w1.heap.size ≤ wr.heap.size from Nat.le_of_lt HLT9.out))
    clear HB0
    have HB0 := HB0q
    clear HB0q
    have B15 := Lib.hid (BZ.out.store ⟨id + 1, s, [], s2, came, fr, to⟩ A15 m15 c15)
    have JAq : Hid (JAsk (((((((((((((w3.setCell ⟨wr.heap.size, 0, none⟩ (.int .i64 (id + 1))).setCell ⟨wr.heap.size, 1, none⟩ (.int .i64 s.nodes)).setCell ⟨wr.heap.size, 2, none⟩ (.int .i64 s.cores)).setCell ⟨wr.heap.size, 3, none⟩ (.int .i64 s.gpus)).setCell ⟨wr.heap.size, 4, none⟩ (.string s.tag)).setCell ⟨wr.heap.size, 5, none⟩ (.bool s.whole)).setCell ⟨wr.heap.size, 6, none⟩ (.int .i64 s.long)).setCell ⟨wr.heap.size, 7, none⟩ (.int .i64 s.prio)).setCell ⟨wr.heap.size, 8, none⟩ (.slice A15 m15 c15)).setCell ⟨wr.heap.size, 9, none⟩ (.int .i64 s2)).setCell ⟨wr.heap.size, 10, none⟩ (.int .i64 came)).setCell ⟨wr.heap.size, 11, none⟩ (.int .i64 fr)).setCell ⟨wr.heap.size, 12, none⟩ (.int .i64 to)) A9 m9 c9 ⟨id + 1, s, [], st, came, fr, to⟩) := Lib.hid (jask_nil JA.out)
    clear JA
    have JA := JAq
    clear JAq
    have J15q : Hid (JAsk (((((((((((((w3.setCell ⟨wr.heap.size, 0, none⟩ (.int .i64 (id + 1))).setCell ⟨wr.heap.size, 1, none⟩ (.int .i64 s.nodes)).setCell ⟨wr.heap.size, 2, none⟩ (.int .i64 s.cores)).setCell ⟨wr.heap.size, 3, none⟩ (.int .i64 s.gpus)).setCell ⟨wr.heap.size, 4, none⟩ (.string s.tag)).setCell ⟨wr.heap.size, 5, none⟩ (.bool s.whole)).setCell ⟨wr.heap.size, 6, none⟩ (.int .i64 s.long)).setCell ⟨wr.heap.size, 7, none⟩ (.int .i64 s.prio)).setCell ⟨wr.heap.size, 8, none⟩ (.slice A15 m15 c15)).setCell ⟨wr.heap.size, 9, none⟩ (.int .i64 s2)).setCell ⟨wr.heap.size, 10, none⟩ (.int .i64 came)).setCell ⟨wr.heap.size, 11, none⟩ (.int .i64 fr)).setCell ⟨wr.heap.size, 12, none⟩ (.int .i64 to)) A15 m15 c15 ⟨id + 1, s, [], s2, came, fr, to⟩) := Lib.hid (jask_nil J15.out)
    clear J15
    have J15 := J15q
    clear J15q BZ hne9 hneS
    try clear S1 S2 S3
    try clear S4
    try clear S5
    try clear S6
    try clear HBB JAB
    try clear BZ
    try clear HKEEP HY
    try clear HGE
    have q0 := B9.out.c0
    have r0 := B15.out.c0
    have q1 := B9.out.c1
    have r1 := B15.out.c1
    have q2 := B9.out.c2
    have r2 := B15.out.c2
    have q3 := B9.out.c3
    have r3 := B15.out.c3
    have q4 := B9.out.c4
    have r4 := B15.out.c4
    have q5 := B9.out.c5
    have r5 := B15.out.c5
    have q6 := B9.out.c6
    have r6 := B15.out.c6
    have q7 := B9.out.c7
    have r7 := B15.out.c7
    have q8 := B9.out.c8
    have r8 := B15.out.c8
    have q9 := B9.out.c9
    have r9 := B15.out.c9
    have q10 := B9.out.c10
    have r10 := B15.out.c10
    have q11 := B9.out.c11
    have r11 := B15.out.c11
    have q12 := B9.out.c12
    have r12 := B15.out.c12
    have b0 := BS.out.c0
    have b1 := BS.out.c1
    have b2 := BS.out.c2
    have b3 := BS.out.c3
    have b4 := BS.out.c4
    have b5 := BS.out.c5
    have b6 := BS.out.c6
    simp only at q0 q1 q2 q3 q4 q5 q6 q7 q8 q9 q10 q11 q12 r0 r1 r2 r3 r4 r5 r6 r7 r8 r9 r10 r11 r12
    go_wp2_with fail
    refine (h11_over H IST.out OVJ.out).mono ?_
    rintro e w4 ⟨rfl, hb⟩
    have HB0q := Lib.hid (HB0.out.trans (hb.mono HB0.out.size))
    clear HB0
    have HB0 := HB0q
    clear HB0q
    have B9q := Lib.hid (B9.out.next hb)
    clear B9
    have B9 := B9q
    clear B9q
    have JAq := Lib.hid (JA.out.next hb)
    clear JA
    have JA := JAq
    clear JAq
    have BSq := Lib.hid (BS.out.next hb)
    clear BS
    have BS := BSq
    clear BSq
    have J15q := Lib.hid (J15.out.next hb)
    clear J15
    have J15 := J15q
    clear J15q
    have B15q := Lib.hid (B15.out.next hb)
    clear B15
    have B15 := B15q
    clear B15q
    clear hb
    clear q0 q1 q2 q3 q4 q5 q6 q7 q8 q9 q10 q11 q12 r0 r1 r2 r3 r4 r5 r6 r7 r8 r9 r10 r11 r12
    clear b0 b1 b2 b3 b4 b5 b6
    have q0 := B9.out.c0
    have r0 := B15.out.c0
    have q1 := B9.out.c1
    have r1 := B15.out.c1
    have q2 := B9.out.c2
    have r2 := B15.out.c2
    have q3 := B9.out.c3
    have r3 := B15.out.c3
    have q4 := B9.out.c4
    have r4 := B15.out.c4
    have q5 := B9.out.c5
    have r5 := B15.out.c5
    have q6 := B9.out.c6
    have r6 := B15.out.c6
    have q7 := B9.out.c7
    have r7 := B15.out.c7
    have q8 := B9.out.c8
    have r8 := B15.out.c8
    have q9 := B9.out.c9
    have r9 := B15.out.c9
    have q10 := B9.out.c10
    have r10 := B15.out.c10
    have q11 := B9.out.c11
    have r11 := B15.out.c11
    have q12 := B9.out.c12
    have r12 := B15.out.c12
    have b0 := BS.out.c0
    have b1 := BS.out.c1
    have b2 := BS.out.c2
    have b3 := BS.out.c3
    have b4 := BS.out.c4
    have b5 := BS.out.c5
    have b6 := BS.out.c6
    simp only at q0 q1 q2 q3 q4 q5 q6 q7 q8 q9 q10 q11 q12 r0 r1 r2 r3 r4 r5 r6 r7 r8 r9 r10 r11 r12
    go_wp2_with fail
    refine (h11_right H J15.out (jask_few J15.out) RN.out).mono ?_
    rintro e w5 ⟨rfl, hb⟩
    have HB0q := Lib.hid (HB0.out.trans (hb.mono HB0.out.size))
    clear HB0
    have HB0 := HB0q
    clear HB0q
    have B9q := Lib.hid (B9.out.next hb)
    clear B9
    have B9 := B9q
    clear B9q
    have JAq := Lib.hid (JA.out.next hb)
    clear JA
    have JA := JAq
    clear JAq
    have BSq := Lib.hid (BS.out.next hb)
    clear BS
    have BS := BSq
    clear BSq
    have J15q := Lib.hid (J15.out.next hb)
    clear J15
    have J15 := J15q
    clear J15q
    have B15q := Lib.hid (B15.out.next hb)
    clear B15
    have B15 := B15q
    clear B15q
    clear hb
    clear q0 q1 q2 q3 q4 q5 q6 q7 q8 q9 q10 q11 q12 r0 r1 r2 r3 r4 r5 r6 r7 r8 r9 r10 r11 r12
    clear b0 b1 b2 b3 b4 b5 b6
    have q0 := B9.out.c0
    have r0 := B15.out.c0
    have q1 := B9.out.c1
    have r1 := B15.out.c1
    have q2 := B9.out.c2
    have r2 := B15.out.c2
    have q3 := B9.out.c3
    have r3 := B15.out.c3
    have q4 := B9.out.c4
    have r4 := B15.out.c4
    have q5 := B9.out.c5
    have r5 := B15.out.c5
    have q6 := B9.out.c6
    have r6 := B15.out.c6
    have q7 := B9.out.c7
    have r7 := B15.out.c7
    have q8 := B9.out.c8
    have r8 := B15.out.c8
    have q9 := B9.out.c9
    have r9 := B15.out.c9
    have q10 := B9.out.c10
    have r10 := B15.out.c10
    have q11 := B9.out.c11
    have r11 := B15.out.c11
    have q12 := B9.out.c12
    have r12 := B15.out.c12
    have b0 := BS.out.c0
    have b1 := BS.out.c1
    have b2 := BS.out.c2
    have b3 := BS.out.c3
    have b4 := BS.out.c4
    have b5 := BS.out.c5
    have b6 := BS.out.c6
    simp only at q0 q1 q2 q3 q4 q5 q6 q7 q8 q9 q10 q11 q12 r0 r1 r2 r3 r4 r5 r6 r7 r8 r9 r10 r11 r12
    go_wp2_with fail
    refine (h11_over H IS2.out OVN.out).mono ?_
    rintro e w6 ⟨rfl, hb⟩
    have HB0q := Lib.hid (HB0.out.trans (hb.mono HB0.out.size))
    clear HB0
    have HB0 := HB0q
    clear HB0q
    have B9q := Lib.hid (B9.out.next hb)
    clear B9
    have B9 := B9q
    clear B9q
    have JAq := Lib.hid (JA.out.next hb)
    clear JA
    have JA := JAq
    clear JAq
    have BSq := Lib.hid (BS.out.next hb)
    clear BS
    have BS := BSq
    clear BSq
    have J15q := Lib.hid (J15.out.next hb)
    clear J15
    have J15 := J15q
    clear J15q
    have B15q := Lib.hid (B15.out.next hb)
    clear B15
    have B15 := B15q
    clear B15q
    clear hb
    clear q0 q1 q2 q3 q4 q5 q6 q7 q8 q9 q10 q11 q12 r0 r1 r2 r3 r4 r5 r6 r7 r8 r9 r10 r11 r12
    clear b0 b1 b2 b3 b4 b5 b6
    have q0 := B9.out.c0
    have r0 := B15.out.c0
    have q1 := B9.out.c1
    have r1 := B15.out.c1
    have q2 := B9.out.c2
    have r2 := B15.out.c2
    have q3 := B9.out.c3
    have r3 := B15.out.c3
    have q4 := B9.out.c4
    have r4 := B15.out.c4
    have q5 := B9.out.c5
    have r5 := B15.out.c5
    have q6 := B9.out.c6
    have r6 := B15.out.c6
    have q7 := B9.out.c7
    have r7 := B15.out.c7
    have q8 := B9.out.c8
    have r8 := B15.out.c8
    have q9 := B9.out.c9
    have r9 := B15.out.c9
    have q10 := B9.out.c10
    have r10 := B15.out.c10
    have q11 := B9.out.c11
    have r11 := B15.out.c11
    have q12 := B9.out.c12
    have r12 := B15.out.c12
    have b0 := BS.out.c0
    have b1 := BS.out.c1
    have b2 := BS.out.c2
    have b3 := BS.out.c3
    have b4 := BS.out.c4
    have b5 := BS.out.c5
    have b6 := BS.out.c6
    simp only at q0 q1 q2 q3 q4 q5 q6 q7 q8 q9 q10 q11 q12 r0 r1 r2 r3 r4 r5 r6 r7 r8 r9 r10 r11 r12
    have y0 := B9.out.frozen 0
    have y1 := B9.out.frozen 1
    have y2 := B9.out.frozen 2
    have y3 := B9.out.frozen 3
    have y4 := B9.out.frozen 4
    have y5 := B9.out.frozen 5
    have y6 := B9.out.frozen 6
    have y7 := B9.out.frozen 7
    have y8 := B9.out.frozen 8
    have y9 := B9.out.frozen 9
    have y10 := B9.out.frozen 10
    have y11 := B9.out.frozen 11
    have y12 := B9.out.frozen 12
    have HBV := Lib.hid (below_store (v0 := .int .i64 (id + 1)) (v1 := .int .i64 s.nodes) (v2 := .int .i64 s.cores) (v3 := .int .i64 s.gpus) (v4 := .string s.tag) (v5 := .bool s.whole) (v6 := .int .i64 s.long) (v7 := .int .i64 s.prio) (v8 := .slice A15 m15 c15) (v9 := .int .i64 s2) (v10 := .int .i64 came) (v11 := .int .i64 fr) (v12 := .int .i64 to) HB0.out (Nat.le_refl w1.heap.size))
    have B9V := Lib.hid (B9.out.store ⟨id + 1, s, [], s2, came, fr, to⟩ A15 m15 c15)
    go_wp2
    refine ⟨⟨k + 1, nw + mo, bg, s2, fr, to, A15, m15, c15, by omega, by omega, by go_num, rfl, rfl, ⟨by omega, by omega⟩, EI2.out, RN1.out, B9V.out, jask_nil J15.out, HBV.out⟩, ?_⟩
    simp [intOf]; omega

set_option maxRecDepth 100000 in
set_option maxHeartbeats 40000000 in
theorem ends_C (H : JobOk) (id : Int) (s : Sp) (came : Int) (n c : Nat) (w w1 wr : World) (b off : Nat) (wt mo : Int) (k : Nat) (nw bg st fr to : Int) (A9 : Option Addr) (m9 c9 : Nat) (HI : Hid (∀ x : Int, -10 ≤ x → x ≤ 1000000000000 → I64 x)) (hc1 : 0 ≤ came) (hc2 : came ≤ 4294967295) (hlt : k < n) (hls : k < 60) (hnw1 : came ≤ nw) (hnw2 : nw ≤ came + 255 * k) (hx2 : 0 ≤ mo) (hx3 : mo ≤ 255) (EI : Hid (EndI st bg)) (RJ : Hid (RightJ ⟨id + 1, s, [], st, came, fr, to⟩)) (B9 : Hid (BoxJ wr w1.heap.size ⟨id + 1, s, [], st, came, fr, to⟩ A9 m9 c9)) (JA : Hid (JAsk wr A9 m9 c9 ⟨id + 1, s, [], st, came, fr, to⟩)) (BS : Hid (BoxS wr w.heap.size s)) (HB0 : Hid (Below w1.heap.size w1 wr)) (IX : Hid (I64 wt)) (CE : Hid (CellK wr ⟨b, off + k * 2, none⟩ (.int .i64 wt))) (e1 : wr.cell? ⟨b, off + k * 2 + 1, none⟩ = some (.int .u8 mo)) (Q0 : Exit → Act → World → Prop) (c0 c1 c4 c6 c7 c10 c11 c17 c18 c19 c20 c21 c22 c23 c24 c25 c26 c27 c28 c29 c30 c31 c32 c33 c34 c35 c36 c37 c38 c39 c138 c139 c140 c141 c142 c143 c144 c145 c146 c147 c148 c149 c150 c151 c152 c153 c154 c155 c156 c157 c158 u8 u15 u16 u40 u41 u42 u43 u44 u45 u46 u47 u48 u49 u50 u51 u52 u53 u54 u55 u56 u57 u58 u59 u60 u61 u62 u63 u64 u65 u66 u67 u68 u69 u70 u71 u72 u73 u74 u75 u76 u77 u78 u79 u80 u81 u82 u83 u84 u85 u86 u87 u88 u89 u90 u91 u92 u93 u94 u95 u96 u97 u98 u99 u100 u101 u102 u103 u104 u105 u106 u107 u108 u109 u110 u111 u112 u113 u114 u115 u116 u117 u118 u119 u120 u121 u122 u123 u124 u125 u126 u127 u128 u129 u130 u131 u132 u133 u134 u135 u136 u137 : Value) (hze : doE ⟨id + 1, s, [], st, came, fr, to⟩ wt (nw + mo) = 0) (n2 : nextZ st wt ≠ 2) (n3 : 2 < nextZ st wt) :
    Code.wp Try.prog endsBody (Exit.then (fun a' w' => (∃ u8 u12 u13 u14 u15 u16 u40 u41 u42 u43 u44 u45 u46 u47 u48 u49 u50 u51 u52 u53 u54 u55 u56 u57 u58 u59 u60 u61 u62 u63 u64 u65 u66 u67 u68 u69 u70 u71 u72 u73 u74 u75 u76 u77 u78 u79 u80 u81 u82 u83 u84 u85 u86 u87 u88 u89 u90 u91 u92 u93 u94 u95 u96 u97 u98 u99 u100 u101 u102 u103 u104 u105 u106 u107 u108 u109 u110 u111 u112 u113 u114 u115 u116 u117 u118 u119 u120 u121 u122 u123 u124 u125 u126 u127 u128 u129 u130 u131 u132 u133 u134 u135 u136 u137, EndRel id s came n w1 u12 u13 u14 w' ∧ a' = ⟨#[c0, c1, .int .u32 came, .slice (some ⟨b, off, none⟩) n c, c4, .pointer (some ⟨w.heap.size, 0, none⟩), c6, c7, u8, .pointer (some ⟨w1.heap.size, 0, none⟩), c10, c11, u12, u13, u14, u15, u16, c17, c18, c19, c20, c21, c22, c23, c24, c25, c26, c27, c28, c29, c30, c31, c32, c33, c34, c35, c36, c37, c38, c39, u40, u41, u42, u43, u44, u45, u46, u47, u48, u49, u50, u51, u52, u53, u54, u55, u56, u57, u58, u59, u60, u61, u62, u63, u64, u65, u66, u67, u68, u69, u70, u71, u72, u73, u74, u75, u76, u77, u78, u79, u80, u81, u82, u83, u84, u85, u86, u87, u88, u89, u90, u91, u92, u93, u94, u95, u96, u97, u98, u99, u100, u101, u102, u103, u104, u105, u106, u107, u108, u109, u110, u111, u112, u113, u114, u115, u116, u117, u118, u119, u120, u121, u122, u123, u124, u125, u126, u127, u128, u129, u130, u131, u132, u133, u134, u135, u136, u137, c138, c139, c140, c141, c142, c143, c144, c145, c146, c147, c148, c149, c150, c151, c152, c153, c154, c155, c156, c157, c158], []⟩) ∧ 60 - (intOf (a'.tmps.getD 14 undef)).toNat < 60 - (intOf ((⟨#[c0, c1, .int .u32 came, .slice (some ⟨b, off, none⟩) n c, c4, .pointer (some ⟨w.heap.size, 0, none⟩), c6, c7, u8, .pointer (some ⟨w1.heap.size, 0, none⟩), c10, c11, (.int .i64 nw), (.int .i64 bg), (.int .i64 k), u15, u16, c17, c18, c19, c20, c21, c22, c23, c24, c25, c26, c27, c28, c29, c30, c31, c32, c33, c34, c35, c36, c37, c38, c39, u40, u41, u42, u43, u44, u45, u46, u47, u48, u49, u50, u51, u52, u53, u54, u55, u56, u57, u58, u59, u60, u61, u62, u63, u64, u65, u66, u67, u68, u69, u70, u71, u72, u73, u74, u75, u76, u77, u78, u79, u80, u81, u82, u83, u84, u85, u86, u87, u88, u89, u90, u91, u92, u93, u94, u95, u96, u97, u98, u99, u100, u101, u102, u103, u104, u105, u106, u107, u108, u109, u110, u111, u112, u113, u114, u115, u116, u117, u118, u119, u120, u121, u122, u123, u124, u125, u126, u127, u128, u129, u130, u131, u132, u133, u134, u135, u136, u137, c138, c139, c140, c141, c142, c143, c144, c145, c146, c147, c148, c149, c150, c151, c152, c153, c154, c155, c156, c157, c158], []⟩ : Act).tmps.getD 14 undef)).toNat) Q0) ⟨#[c0, c1, .int .u32 came, .slice (some ⟨b, off, none⟩) n c, c4, .pointer (some ⟨w.heap.size, 0, none⟩), c6, c7, u8, .pointer (some ⟨w1.heap.size, 0, none⟩), c10, c11, (.int .i64 nw), (.int .i64 bg), (.int .i64 k), u15, u16, c17, c18, c19, c20, c21, c22, c23, c24, c25, c26, c27, c28, c29, c30, c31, c32, c33, c34, c35, c36, c37, c38, c39, u40, u41, u42, u43, u44, u45, u46, u47, u48, u49, u50, u51, u52, u53, u54, u55, u56, u57, u58, u59, u60, u61, u62, u63, u64, u65, u66, u67, u68, u69, u70, u71, u72, u73, u74, u75, u76, u77, u78, u79, u80, u81, u82, u83, u84, u85, u86, u87, u88, u89, u90, u91, u92, u93, u94, u95, u96, u97, u98, u99, u100, u101, u102, u103, u104, u105, u106, u107, u108, u109, u110, u111, u112, u113, u114, u115, u116, u117, u118, u119, u120, u121, u122, u123, u124, u125, u126, u127, u128, u129, u130, u131, u132, u133, u134, u135, u136, u137, c138, c139, c140, c141, c142, c143, c144, c145, c146, c147, c148, c149, c150, c151, c152, c153, c154, c155, c156, c157, c158], []⟩ wr := by
  conv => arg 2; whnf
  have hls' : decide (k < 60) = true := decide_eq_true hls
  have hls2 : decide ((k : Int) < 60) = true := by simp; omega
  have IN : Hid (I64 (nw + mo)) := Lib.hid (HI.out _ (by omega) (by omega))
  have hdj := doJ_ok hze
  have hn0 := (do_ok.1 hze).2
  have hrt := do_right hze
  rw [← hdj] at hrt
  simp only at hn0 hdj
  have DE := Lib.hid hze
  have hng := next_range st wt
  have hlow : st = 0 ∨ st = 1 ∨ st = 2 := (next_from (j := ⟨id + 1, s, [], st, came, fr, to⟩) (what := wt) hn0).1
  have IST := Lib.hid JA.out.int.2.1
  have OVJ : Hid (overJ st = false) := Lib.hid (decide_eq_false (by omega))
  have _u1 := RJ
  clear _u1
  have EI2 := Lib.hid (endI_step EI.out hn0 n2)
  obtain ⟨s2, hs2⟩ : ∃ s2, nextZ st wt = s2 := ⟨_, rfl⟩
  rw [hs2] at EI2 hdj hn0 n2 n3 hng
  have IS2 := Lib.hid (HI.out s2 (by omega) (by omega))
  have e2 : (s2 == 2) = false := by rw [beq_eq_false_iff_ne]; exact n2
  have hd2 : doJ ⟨id + 1, s, [], st, came, fr, to⟩ wt (nw + mo) = ⟨id + 1, s, [], s2, came, fr, (nw + mo)⟩ := by rw [hdj]; unfold intoJ; rw [if_neg n2, if_pos n3]
  rw [hd2] at hrt
  have RN1 := Lib.hid hrt
  have RN := Lib.hid (show rightJ ⟨id + 1, s, [], s2, came, fr, (nw + mo)⟩ = true from decide_eq_true hrt)
  have DJ := Lib.hid hd2
  have OVN : Hid (overJ s2 = true) := Lib.hid (decide_eq_true ⟨by omega, by omega⟩)
  clear hze hdj hn0 hng hrt n2 n3 hd2 hlow hs2
  have q0 := B9.out.c0
  have q1 := B9.out.c1
  have q2 := B9.out.c2
  have q3 := B9.out.c3
  have q4 := B9.out.c4
  have q5 := B9.out.c5
  have q6 := B9.out.c6
  have q7 := B9.out.c7
  have q8 := B9.out.c8
  have q9 := B9.out.c9
  have q10 := B9.out.c10
  have q11 := B9.out.c11
  have q12 := B9.out.c12
  simp only at q0 q1 q2 q3 q4 q5 q6 q7 q8 q9 q10 q11 q12
  go_wp2
  have HKEEP : Hid (∀ wx, Below wr.drew.heap.size wr.drew wx → wx.cell? ⟨w1.heap.size, 0, none⟩ = some (.int .i64 (id + 1)) ∧ wx.cell? ⟨w1.heap.size, 1, none⟩ = some (.int .i64 s.nodes) ∧ wx.cell? ⟨w1.heap.size, 2, none⟩ = some (.int .i64 s.cores) ∧ wx.cell? ⟨w1.heap.size, 3, none⟩ = some (.int .i64 s.gpus) ∧ wx.cell? ⟨w1.heap.size, 4, none⟩ = some (.string s.tag) ∧ wx.cell? ⟨w1.heap.size, 5, none⟩ = some (.bool s.whole) ∧ wx.cell? ⟨w1.heap.size, 6, none⟩ = some (.int .i64 s.long) ∧ wx.cell? ⟨w1.heap.size, 7, none⟩ = some (.int .i64 s.prio) ∧ wx.cell? ⟨w1.heap.size, 8, none⟩ = some (.slice A9 m9 c9) ∧ wx.cell? ⟨w1.heap.size, 9, none⟩ = some (.int .i64 st) ∧ wx.cell? ⟨w1.heap.size, 10, none⟩ = some (.int .i64 came) ∧ wx.cell? ⟨w1.heap.size, 11, none⟩ = some (.int .i64 fr) ∧ wx.cell? ⟨w1.heap.size, 12, none⟩ = some (.int .i64 to) ∧ wx.cell? ⟨b, off + k * 2, none⟩ = some (.int .i64 wt)) := Lib.hid (fun wx hz' => by
    have hz := (bel_drew1 wr).trans (hz'.mono (bel_drew1 wr).size)
    exact ⟨keep_cell B9.out.lt q0 hz, keep_cell B9.out.lt q1 hz, keep_cell B9.out.lt q2 hz, keep_cell B9.out.lt q3 hz, keep_cell B9.out.lt q4 hz, keep_cell B9.out.lt q5 hz, keep_cell B9.out.lt q6 hz, keep_cell B9.out.lt q7 hz, keep_cell B9.out.lt q8 hz, keep_cell B9.out.lt q9 hz, keep_cell B9.out.lt q10 hz, keep_cell B9.out.lt q11 hz, keep_cell B9.out.lt q12 hz, keep_cell CE.out.lt CE.out.at' hz⟩)
  have hd := bel_drew1 wr
  have HB0q := Lib.hid (HB0.out.trans (hd.mono HB0.out.size))
  clear HB0
  have HB0 := HB0q
  clear HB0q
  have B9q := Lib.hid (B9.out.next hd)
  clear B9
  have B9 := B9q
  clear B9q
  have JAq := Lib.hid (JA.out.next hd)
  clear JA
  have JA := JAq
  clear JAq
  have BSq := Lib.hid (BS.out.next hd)
  clear BS
  have BS := BSq
  clear BSq
  have CEq := Lib.hid (CE.out.next hd)
  clear CE
  have CE := CEq
  clear CEq
  clear hd
  have HY := Lib.hid (Below.refl wr.drew.heap.size wr.drew)
  have HBB : Hid (Below wr.drew.heap.size wr.drew (wr.alloc (.cells #[.int .i64 0, .int .i64 0, .int .i64 0, .int .i64 0, .string ⟨#[]⟩, .bool false, .int .i64 0, .int .i64 0, .slice none 0 0, .int .i64 0, .int .i64 0, .int .i64 0, .int .i64 0] 26)).drew) := Lib.hid ((Below.refl wr.drew.heap.size wr.drew).alloc (Nat.le_refl _) (.cells #[.int .i64 0, .int .i64 0, .int .i64 0, .int .i64 0, .string ⟨#[]⟩, .bool false, .int .i64 0, .int .i64 0, .slice none 0 0, .int .i64 0, .int .i64 0, .int .i64 0, .int .i64 0] 26))
  have JAB : Hid (JAsk (wr.alloc (.cells #[.int .i64 0, .int .i64 0, .int .i64 0, .int .i64 0, .string ⟨#[]⟩, .bool false, .int .i64 0, .int .i64 0, .slice none 0 0, .int .i64 0, .int .i64 0, .int .i64 0, .int .i64 0] 26)).drew A9 m9 c9 ⟨id + 1, s, [], st, came, fr, to⟩) := Lib.hid (JA.out.next HBB.out)
  have BZ : Hid (BoxJ (wr.alloc (.cells #[.int .i64 0, .int .i64 0, .int .i64 0, .int .i64 0, .string ⟨#[]⟩, .bool false, .int .i64 0, .int .i64 0, .slice none 0 0, .int .i64 0, .int .i64 0, .int .i64 0, .int .i64 0] 26)).drew wr.heap.size jb0 none 0 0) := Lib.hid ((boxJ_new wr jb0 none 0 0).next (bel_drew1 _))
  have HLT9 := Lib.hid B9.out.lt
  have HLTS := Lib.hid BS.out.lt
  have HGE : wr.drew.heap.size ≤ wr.heap.size := Nat.le_refl _
  clear q0 q1 q2 q3 q4 q5 q6 q7 q8 q9 q10 q11 q12
  have S1 := Lib.hid (HKEEP.out _ (Below.refl _ _))
  have S2 := Lib.hid (HKEEP.out _ HBB.out)
  go_region_held3 (fun w' => w'.cell? ⟨w1.heap.size, 0, none⟩ = some (.int .i64 (id + 1)) ∧ w'.cell? ⟨w1.heap.size, 1, none⟩ = some (.int .i64 s.nodes) ∧ w'.cell? ⟨w1.heap.size, 2, none⟩ = some (.int .i64 s.cores) ∧ w'.cell? ⟨w1.heap.size, 3, none⟩ = some (.int .i64 s.gpus) ∧ w'.cell? ⟨w1.heap.size, 4, none⟩ = some (.string s.tag) ∧ w'.cell? ⟨w1.heap.size, 5, none⟩ = some (.bool s.whole) ∧ w'.cell? ⟨w1.heap.size, 6, none⟩ = some (.int .i64 s.long) ∧ w'.cell? ⟨w1.heap.size, 7, none⟩ = some (.int .i64 s.prio) ∧ w'.cell? ⟨w1.heap.size, 8, none⟩ = some (.slice A9 m9 c9) ∧ w'.cell? ⟨w1.heap.size, 9, none⟩ = some (.int .i64 st) ∧ w'.cell? ⟨w1.heap.size, 10, none⟩ = some (.int .i64 came) ∧ w'.cell? ⟨w1.heap.size, 11, none⟩ = some (.int .i64 fr) ∧ w'.cell? ⟨w1.heap.size, 12, none⟩ = some (.int .i64 to) ∧ w'.cell? ⟨b, off + k * 2, none⟩ = some (.int .i64 wt))
    (first | with_reducible exact S1.out | with_reducible exact S2.out | with_reducible exact S3.out | with_reducible exact S4.out | with_reducible exact S5.out | with_reducible exact S6.out | fail)
    (first | (go_at_call 7; (with_reducible refine (h11_do H JA.out (jask_few JA.out) IX.out IN.out DJ.out DE.out).mono ?_); rintro e w3 ⟨⟨A15, m15, c15, rfl, hj15⟩, hb⟩; have hy := hb; have HY := Lib.hid hy; have HB0 := Lib.hid (HB0.out.trans (hy.mono HB0.out.size)); have B9 := Lib.hid (B9.out.next hy); have JA := Lib.hid (JA.out.next hy); have BS := Lib.hid (BS.out.next hy); have CE := Lib.hid (CE.out.next hy); have J15 := Lib.hid hj15; have S3 := Lib.hid (HKEEP.out _ HY.out); have S6 := Lib.hid (HKEEP.out _ (HY.out.alloc HY.out.size (.cells #[.int .i64 0, .int .i64 0, .int .i64 0, .int .i64 0, .string ⟨#[]⟩, .bool false, .int .i64 0, .int .i64 0, .slice none 0 0, .int .i64 0, .int .i64 0, .int .i64 0, .int .i64 0] 26))); have S4 := Lib.hid (HKEEP.out _ (HY.out.alloc HY.out.size (.cells #[.int .i64 (id + 1), .int .i64 s.nodes, .int .i64 s.cores, .int .i64 s.gpus, .string s.tag, .bool s.whole, .int .i64 s.long, .int .i64 s.prio, .slice A15 m15 c15, .int .i64 s2, .int .i64 came, .int .i64 fr, .int .i64 (nw + mo)] 26))); clear hb hy) | (go_at_call 7; (with_reducible refine (h11_do H JAB.out (jask_few JA.out) IX.out IN.out DJ.out DE.out).mono ?_); rintro e w3 ⟨⟨A15, m15, c15, rfl, hj15⟩, hb⟩; have hy := HBB.out.trans (hb.mono HBB.out.size); have HY := Lib.hid hy; have HB0 := Lib.hid (HB0.out.trans (hy.mono HB0.out.size)); have B9 := Lib.hid (B9.out.next hy); have JA := Lib.hid (JA.out.next hy); have BS := Lib.hid (BS.out.next hy); have CE := Lib.hid (CE.out.next hy); have J15 := Lib.hid hj15; have S3 := Lib.hid (HKEEP.out _ HY.out); have S5 := Lib.hid (HKEEP.out _ (below_store (v0 := .int .i64 (id + 1)) (v1 := .int .i64 s.nodes) (v2 := .int .i64 s.cores) (v3 := .int .i64 s.gpus) (v4 := .string s.tag) (v5 := .bool s.whole) (v6 := .int .i64 s.long) (v7 := .int .i64 s.prio) (v8 := .slice A15 m15 c15) (v9 := .int .i64 s2) (v10 := .int .i64 came) (v11 := .int .i64 fr) (v12 := .int .i64 (nw + mo)) HY.out HGE)); have BZ := Lib.hid (BZ.out.next hb); have p0 := BZ.out.c0; have y0 := BZ.out.frozen 0; have p1 := BZ.out.c1; have y1 := BZ.out.frozen 1; have p2 := BZ.out.c2; have y2 := BZ.out.frozen 2; have p3 := BZ.out.c3; have y3 := BZ.out.frozen 3; have p4 := BZ.out.c4; have y4 := BZ.out.frozen 4; have p5 := BZ.out.c5; have y5 := BZ.out.frozen 5; have p6 := BZ.out.c6; have y6 := BZ.out.frozen 6; have p7 := BZ.out.c7; have y7 := BZ.out.frozen 7; have p8 := BZ.out.c8; have y8 := BZ.out.frozen 8; have p9 := BZ.out.c9; have y9 := BZ.out.frozen 9; have p10 := BZ.out.c10; have y10 := BZ.out.frozen 10; have p11 := BZ.out.c11; have y11 := BZ.out.frozen 11; have p12 := BZ.out.c12; have y12 := BZ.out.frozen 12; clear hb hy) | fail)
  · clear CE
    have hb := Below.alloc (Below.refl w3.heap.size w3) (Nat.le_refl _) (.cells #[.int .i64 (id + 1), .int .i64 s.nodes, .int .i64 s.cores, .int .i64 s.gpus, .string s.tag, .bool s.whole, .int .i64 s.long, .int .i64 s.prio, .slice A15 m15 c15, .int .i64 s2, .int .i64 came, .int .i64 fr, .int .i64 (nw + mo)] 26)
    have B15q := Lib.hid (boxJ_new w3 ⟨id + 1, s, [], s2, came, fr, (nw + mo)⟩ A15 m15 c15)
    have HB0q := Lib.hid (HB0.out.trans (hb.mono HB0.out.size))
    clear HB0
    have HB0 := HB0q
    clear HB0q
    have B9q := Lib.hid (B9.out.next hb)
    clear B9
    have B9 := B9q
    clear B9q
    have JAq := Lib.hid (JA.out.next hb)
    clear JA
    have JA := JAq
    clear JAq
    have BSq := Lib.hid (BS.out.next hb)
    clear BS
    have BS := BSq
    clear BSq
    have J15q := Lib.hid (J15.out.next hb)
    clear J15
    have J15 := J15q
    clear J15q
    clear hb
    have B15 := B15q
    clear B15q
    try clear S1 S2 S3
    try clear S4
    try clear S5
    try clear S6
    try clear HBB JAB
    try clear BZ
    try clear HKEEP HY
    try clear HGE
    have q0 := B9.out.c0
    have r0 := B15.out.c0
    have q1 := B9.out.c1
    have r1 := B15.out.c1
    have q2 := B9.out.c2
    have r2 := B15.out.c2
    have q3 := B9.out.c3
    have r3 := B15.out.c3
    have q4 := B9.out.c4
    have r4 := B15.out.c4
    have q5 := B9.out.c5
    have r5 := B15.out.c5
    have q6 := B9.out.c6
    have r6 := B15.out.c6
    have q7 := B9.out.c7
    have r7 := B15.out.c7
    have q8 := B9.out.c8
    have r8 := B15.out.c8
    have q9 := B9.out.c9
    have r9 := B15.out.c9
    have q10 := B9.out.c10
    have r10 := B15.out.c10
    have q11 := B9.out.c11
    have r11 := B15.out.c11
    have q12 := B9.out.c12
    have r12 := B15.out.c12
    have b0 := BS.out.c0
    have b1 := BS.out.c1
    have b2 := BS.out.c2
    have b3 := BS.out.c3
    have b4 := BS.out.c4
    have b5 := BS.out.c5
    have b6 := BS.out.c6
    simp only at q0 q1 q2 q3 q4 q5 q6 q7 q8 q9 q10 q11 q12 r0 r1 r2 r3 r4 r5 r6 r7 r8 r9 r10 r11 r12
    go_wp2_with fail
    refine (h11_over H IST.out OVJ.out).mono ?_
    rintro e w4 ⟨rfl, hb⟩
    have HB0q := Lib.hid (HB0.out.trans (hb.mono HB0.out.size))
    clear HB0
    have HB0 := HB0q
    clear HB0q
    have B9q := Lib.hid (B9.out.next hb)
    clear B9
    have B9 := B9q
    clear B9q
    have JAq := Lib.hid (JA.out.next hb)
    clear JA
    have JA := JAq
    clear JAq
    have BSq := Lib.hid (BS.out.next hb)
    clear BS
    have BS := BSq
    clear BSq
    have J15q := Lib.hid (J15.out.next hb)
    clear J15
    have J15 := J15q
    clear J15q
    have B15q := Lib.hid (B15.out.next hb)
    clear B15
    have B15 := B15q
    clear B15q
    clear hb
    clear q0 q1 q2 q3 q4 q5 q6 q7 q8 q9 q10 q11 q12 r0 r1 r2 r3 r4 r5 r6 r7 r8 r9 r10 r11 r12
    clear b0 b1 b2 b3 b4 b5 b6
    have q0 := B9.out.c0
    have r0 := B15.out.c0
    have q1 := B9.out.c1
    have r1 := B15.out.c1
    have q2 := B9.out.c2
    have r2 := B15.out.c2
    have q3 := B9.out.c3
    have r3 := B15.out.c3
    have q4 := B9.out.c4
    have r4 := B15.out.c4
    have q5 := B9.out.c5
    have r5 := B15.out.c5
    have q6 := B9.out.c6
    have r6 := B15.out.c6
    have q7 := B9.out.c7
    have r7 := B15.out.c7
    have q8 := B9.out.c8
    have r8 := B15.out.c8
    have q9 := B9.out.c9
    have r9 := B15.out.c9
    have q10 := B9.out.c10
    have r10 := B15.out.c10
    have q11 := B9.out.c11
    have r11 := B15.out.c11
    have q12 := B9.out.c12
    have r12 := B15.out.c12
    have b0 := BS.out.c0
    have b1 := BS.out.c1
    have b2 := BS.out.c2
    have b3 := BS.out.c3
    have b4 := BS.out.c4
    have b5 := BS.out.c5
    have b6 := BS.out.c6
    simp only at q0 q1 q2 q3 q4 q5 q6 q7 q8 q9 q10 q11 q12 r0 r1 r2 r3 r4 r5 r6 r7 r8 r9 r10 r11 r12
    go_wp2_with fail
    refine (h11_right H J15.out (jask_few J15.out) RN.out).mono ?_
    rintro e w5 ⟨rfl, hb⟩
    have HB0q := Lib.hid (HB0.out.trans (hb.mono HB0.out.size))
    clear HB0
    have HB0 := HB0q
    clear HB0q
    have B9q := Lib.hid (B9.out.next hb)
    clear B9
    have B9 := B9q
    clear B9q
    have JAq := Lib.hid (JA.out.next hb)
    clear JA
    have JA := JAq
    clear JAq
    have BSq := Lib.hid (BS.out.next hb)
    clear BS
    have BS := BSq
    clear BSq
    have J15q := Lib.hid (J15.out.next hb)
    clear J15
    have J15 := J15q
    clear J15q
    have B15q := Lib.hid (B15.out.next hb)
    clear B15
    have B15 := B15q
    clear B15q
    clear hb
    clear q0 q1 q2 q3 q4 q5 q6 q7 q8 q9 q10 q11 q12 r0 r1 r2 r3 r4 r5 r6 r7 r8 r9 r10 r11 r12
    clear b0 b1 b2 b3 b4 b5 b6
    have q0 := B9.out.c0
    have r0 := B15.out.c0
    have q1 := B9.out.c1
    have r1 := B15.out.c1
    have q2 := B9.out.c2
    have r2 := B15.out.c2
    have q3 := B9.out.c3
    have r3 := B15.out.c3
    have q4 := B9.out.c4
    have r4 := B15.out.c4
    have q5 := B9.out.c5
    have r5 := B15.out.c5
    have q6 := B9.out.c6
    have r6 := B15.out.c6
    have q7 := B9.out.c7
    have r7 := B15.out.c7
    have q8 := B9.out.c8
    have r8 := B15.out.c8
    have q9 := B9.out.c9
    have r9 := B15.out.c9
    have q10 := B9.out.c10
    have r10 := B15.out.c10
    have q11 := B9.out.c11
    have r11 := B15.out.c11
    have q12 := B9.out.c12
    have r12 := B15.out.c12
    have b0 := BS.out.c0
    have b1 := BS.out.c1
    have b2 := BS.out.c2
    have b3 := BS.out.c3
    have b4 := BS.out.c4
    have b5 := BS.out.c5
    have b6 := BS.out.c6
    simp only at q0 q1 q2 q3 q4 q5 q6 q7 q8 q9 q10 q11 q12 r0 r1 r2 r3 r4 r5 r6 r7 r8 r9 r10 r11 r12
    go_wp2_with fail
    refine (h11_over H IS2.out OVN.out).mono ?_
    rintro e w6 ⟨rfl, hb⟩
    have HB0q := Lib.hid (HB0.out.trans (hb.mono HB0.out.size))
    clear HB0
    have HB0 := HB0q
    clear HB0q
    have B9q := Lib.hid (B9.out.next hb)
    clear B9
    have B9 := B9q
    clear B9q
    have JAq := Lib.hid (JA.out.next hb)
    clear JA
    have JA := JAq
    clear JAq
    have BSq := Lib.hid (BS.out.next hb)
    clear BS
    have BS := BSq
    clear BSq
    have J15q := Lib.hid (J15.out.next hb)
    clear J15
    have J15 := J15q
    clear J15q
    have B15q := Lib.hid (B15.out.next hb)
    clear B15
    have B15 := B15q
    clear B15q
    clear hb
    clear q0 q1 q2 q3 q4 q5 q6 q7 q8 q9 q10 q11 q12 r0 r1 r2 r3 r4 r5 r6 r7 r8 r9 r10 r11 r12
    clear b0 b1 b2 b3 b4 b5 b6
    have q0 := B9.out.c0
    have r0 := B15.out.c0
    have q1 := B9.out.c1
    have r1 := B15.out.c1
    have q2 := B9.out.c2
    have r2 := B15.out.c2
    have q3 := B9.out.c3
    have r3 := B15.out.c3
    have q4 := B9.out.c4
    have r4 := B15.out.c4
    have q5 := B9.out.c5
    have r5 := B15.out.c5
    have q6 := B9.out.c6
    have r6 := B15.out.c6
    have q7 := B9.out.c7
    have r7 := B15.out.c7
    have q8 := B9.out.c8
    have r8 := B15.out.c8
    have q9 := B9.out.c9
    have r9 := B15.out.c9
    have q10 := B9.out.c10
    have r10 := B15.out.c10
    have q11 := B9.out.c11
    have r11 := B15.out.c11
    have q12 := B9.out.c12
    have r12 := B15.out.c12
    have b0 := BS.out.c0
    have b1 := BS.out.c1
    have b2 := BS.out.c2
    have b3 := BS.out.c3
    have b4 := BS.out.c4
    have b5 := BS.out.c5
    have b6 := BS.out.c6
    simp only at q0 q1 q2 q3 q4 q5 q6 q7 q8 q9 q10 q11 q12 r0 r1 r2 r3 r4 r5 r6 r7 r8 r9 r10 r11 r12
    go_wp2_with fail
    refine (h11_over H IST.out OVJ.out).mono ?_
    rintro e w7 ⟨rfl, hb⟩
    have HB0q := Lib.hid (HB0.out.trans (hb.mono HB0.out.size))
    clear HB0
    have HB0 := HB0q
    clear HB0q
    have B9q := Lib.hid (B9.out.next hb)
    clear B9
    have B9 := B9q
    clear B9q
    have JAq := Lib.hid (JA.out.next hb)
    clear JA
    have JA := JAq
    clear JAq
    have BSq := Lib.hid (BS.out.next hb)
    clear BS
    have BS := BSq
    clear BSq
    have J15q := Lib.hid (J15.out.next hb)
    clear J15
    have J15 := J15q
    clear J15q
    have B15q := Lib.hid (B15.out.next hb)
    clear B15
    have B15 := B15q
    clear B15q
    clear hb
    clear q0 q1 q2 q3 q4 q5 q6 q7 q8 q9 q10 q11 q12 r0 r1 r2 r3 r4 r5 r6 r7 r8 r9 r10 r11 r12
    clear b0 b1 b2 b3 b4 b5 b6
    have q0 := B9.out.c0
    have r0 := B15.out.c0
    have q1 := B9.out.c1
    have r1 := B15.out.c1
    have q2 := B9.out.c2
    have r2 := B15.out.c2
    have q3 := B9.out.c3
    have r3 := B15.out.c3
    have q4 := B9.out.c4
    have r4 := B15.out.c4
    have q5 := B9.out.c5
    have r5 := B15.out.c5
    have q6 := B9.out.c6
    have r6 := B15.out.c6
    have q7 := B9.out.c7
    have r7 := B15.out.c7
    have q8 := B9.out.c8
    have r8 := B15.out.c8
    have q9 := B9.out.c9
    have r9 := B15.out.c9
    have q10 := B9.out.c10
    have r10 := B15.out.c10
    have q11 := B9.out.c11
    have r11 := B15.out.c11
    have q12 := B9.out.c12
    have r12 := B15.out.c12
    have b0 := BS.out.c0
    have b1 := BS.out.c1
    have b2 := BS.out.c2
    have b3 := BS.out.c3
    have b4 := BS.out.c4
    have b5 := BS.out.c5
    have b6 := BS.out.c6
    simp only at q0 q1 q2 q3 q4 q5 q6 q7 q8 q9 q10 q11 q12 r0 r1 r2 r3 r4 r5 r6 r7 r8 r9 r10 r11 r12
    have y0 := B9.out.frozen 0
    have y1 := B9.out.frozen 1
    have y2 := B9.out.frozen 2
    have y3 := B9.out.frozen 3
    have y4 := B9.out.frozen 4
    have y5 := B9.out.frozen 5
    have y6 := B9.out.frozen 6
    have y7 := B9.out.frozen 7
    have y8 := B9.out.frozen 8
    have y9 := B9.out.frozen 9
    have y10 := B9.out.frozen 10
    have y11 := B9.out.frozen 11
    have y12 := B9.out.frozen 12
    have HBV := Lib.hid (below_store (v0 := .int .i64 (id + 1)) (v1 := .int .i64 s.nodes) (v2 := .int .i64 s.cores) (v3 := .int .i64 s.gpus) (v4 := .string s.tag) (v5 := .bool s.whole) (v6 := .int .i64 s.long) (v7 := .int .i64 s.prio) (v8 := .slice A15 m15 c15) (v9 := .int .i64 s2) (v10 := .int .i64 came) (v11 := .int .i64 fr) (v12 := .int .i64 (nw + mo)) HB0.out (Nat.le_refl w1.heap.size))
    have B9V := Lib.hid (B9.out.store ⟨id + 1, s, [], s2, came, fr, (nw + mo)⟩ A15 m15 c15)
    go_wp2
    refine ⟨⟨k + 1, nw + mo, bg, s2, fr, (nw + mo), A15, m15, c15, by omega, by omega, by go_num, rfl, rfl, ⟨by omega, by omega⟩, EI2.out, RN1.out, B9V.out, jask_nil J15.out, HBV.out⟩, ?_⟩
    simp [intOf]; omega
  · clear CE
    clear p0 y0 p1 y1 p2 y2 p3 y3 p4 y4 p5 y5 p6 y6 p7 y7 p8 y8 p9 y9 p10 y10 p11 y11 p12 y12
    have hne9 : w1.heap.size ≠ wr.heap.size := Nat.ne_of_lt HLT9.out
    have hneS : w.heap.size ≠ wr.heap.size := Nat.ne_of_lt HLTS.out
    have B9q : Hid (BoxJ (((((((((((((w3.setCell ⟨wr.heap.size, 0, none⟩ (.int .i64 (id + 1))).setCell ⟨wr.heap.size, 1, none⟩ (.int .i64 s.nodes)).setCell ⟨wr.heap.size, 2, none⟩ (.int .i64 s.cores)).setCell ⟨wr.heap.size, 3, none⟩ (.int .i64 s.gpus)).setCell ⟨wr.heap.size, 4, none⟩ (.string s.tag)).setCell ⟨wr.heap.size, 5, none⟩ (.bool s.whole)).setCell ⟨wr.heap.size, 6, none⟩ (.int .i64 s.long)).setCell ⟨wr.heap.size, 7, none⟩ (.int .i64 s.prio)).setCell ⟨wr.heap.size, 8, none⟩ (.slice A15 m15 c15)).setCell ⟨wr.heap.size, 9, none⟩ (.int .i64 s2)).setCell ⟨wr.heap.size, 10, none⟩ (.int .i64 came)).setCell ⟨wr.heap.size, 11, none⟩ (.int .i64 fr)).setCell ⟨wr.heap.size, 12, none⟩ (.int .i64 (nw + mo))) w1.heap.size ⟨id + 1, s, [], st, came, fr, to⟩ A9 m9 c9) := Lib.hid (BoxJ.kept (v0 := .int .i64 (id + 1)) (v1 := .int .i64 s.nodes) (v2 := .int .i64 s.cores) (v3 := .int .i64 s.gpus) (v4 := .string s.tag) (v5 := .bool s.whole) (v6 := .int .i64 s.long) (v7 := .int .i64 s.prio) (v8 := .slice A15 m15 c15) (v9 := .int .i64 s2) (v10 := .int .i64 came) (v11 := .int .i64 fr) (v12 := .int .i64 (nw + mo)) B9.out hne9)
    clear B9
    have B9 := B9q
    clear B9q
    have BSq : Hid (BoxS (((((((((((((w3.setCell ⟨wr.heap.size, 0, none⟩ (.int .i64 (id + 1))).setCell ⟨wr.heap.size, 1, none⟩ (.int .i64 s.nodes)).setCell ⟨wr.heap.size, 2, none⟩ (.int .i64 s.cores)).setCell ⟨wr.heap.size, 3, none⟩ (.int .i64 s.gpus)).setCell ⟨wr.heap.size, 4, none⟩ (.string s.tag)).setCell ⟨wr.heap.size, 5, none⟩ (.bool s.whole)).setCell ⟨wr.heap.size, 6, none⟩ (.int .i64 s.long)).setCell ⟨wr.heap.size, 7, none⟩ (.int .i64 s.prio)).setCell ⟨wr.heap.size, 8, none⟩ (.slice A15 m15 c15)).setCell ⟨wr.heap.size, 9, none⟩ (.int .i64 s2)).setCell ⟨wr.heap.size, 10, none⟩ (.int .i64 came)).setCell ⟨wr.heap.size, 11, none⟩ (.int .i64 fr)).setCell ⟨wr.heap.size, 12, none⟩ (.int .i64 (nw + mo))) w.heap.size s) := Lib.hid (BoxS.kept (v0 := .int .i64 (id + 1)) (v1 := .int .i64 s.nodes) (v2 := .int .i64 s.cores) (v3 := .int .i64 s.gpus) (v4 := .string s.tag) (v5 := .bool s.whole) (v6 := .int .i64 s.long) (v7 := .int .i64 s.prio) (v8 := .slice A15 m15 c15) (v9 := .int .i64 s2) (v10 := .int .i64 came) (v11 := .int .i64 fr) (v12 := .int .i64 (nw + mo)) BS.out hneS)
    clear BS
    have BS := BSq
    clear BSq
    have HB0q := Lib.hid (below_store (v0 := .int .i64 (id + 1)) (v1 := .int .i64 s.nodes) (v2 := .int .i64 s.cores) (v3 := .int .i64 s.gpus) (v4 := .string s.tag) (v5 := .bool s.whole) (v6 := .int .i64 s.long) (v7 := .int .i64 s.prio) (v8 := .slice A15 m15 c15) (v9 := .int .i64 s2) (v10 := .int .i64 came) (v11 := .int .i64 fr) (v12 := .int .i64 (nw + mo)) HB0.out (show w1.heap.size ≤ wr.heap.size from Nat.le_of_lt HLT9.out))
    clear HB0
    have HB0 := HB0q
    clear HB0q
    have B15 := Lib.hid (BZ.out.store ⟨id + 1, s, [], s2, came, fr, (nw + mo)⟩ A15 m15 c15)
    have JAq : Hid (JAsk (((((((((((((w3.setCell ⟨wr.heap.size, 0, none⟩ (.int .i64 (id + 1))).setCell ⟨wr.heap.size, 1, none⟩ (.int .i64 s.nodes)).setCell ⟨wr.heap.size, 2, none⟩ (.int .i64 s.cores)).setCell ⟨wr.heap.size, 3, none⟩ (.int .i64 s.gpus)).setCell ⟨wr.heap.size, 4, none⟩ (.string s.tag)).setCell ⟨wr.heap.size, 5, none⟩ (.bool s.whole)).setCell ⟨wr.heap.size, 6, none⟩ (.int .i64 s.long)).setCell ⟨wr.heap.size, 7, none⟩ (.int .i64 s.prio)).setCell ⟨wr.heap.size, 8, none⟩ (.slice A15 m15 c15)).setCell ⟨wr.heap.size, 9, none⟩ (.int .i64 s2)).setCell ⟨wr.heap.size, 10, none⟩ (.int .i64 came)).setCell ⟨wr.heap.size, 11, none⟩ (.int .i64 fr)).setCell ⟨wr.heap.size, 12, none⟩ (.int .i64 (nw + mo))) A9 m9 c9 ⟨id + 1, s, [], st, came, fr, to⟩) := Lib.hid (jask_nil JA.out)
    clear JA
    have JA := JAq
    clear JAq
    have J15q : Hid (JAsk (((((((((((((w3.setCell ⟨wr.heap.size, 0, none⟩ (.int .i64 (id + 1))).setCell ⟨wr.heap.size, 1, none⟩ (.int .i64 s.nodes)).setCell ⟨wr.heap.size, 2, none⟩ (.int .i64 s.cores)).setCell ⟨wr.heap.size, 3, none⟩ (.int .i64 s.gpus)).setCell ⟨wr.heap.size, 4, none⟩ (.string s.tag)).setCell ⟨wr.heap.size, 5, none⟩ (.bool s.whole)).setCell ⟨wr.heap.size, 6, none⟩ (.int .i64 s.long)).setCell ⟨wr.heap.size, 7, none⟩ (.int .i64 s.prio)).setCell ⟨wr.heap.size, 8, none⟩ (.slice A15 m15 c15)).setCell ⟨wr.heap.size, 9, none⟩ (.int .i64 s2)).setCell ⟨wr.heap.size, 10, none⟩ (.int .i64 came)).setCell ⟨wr.heap.size, 11, none⟩ (.int .i64 fr)).setCell ⟨wr.heap.size, 12, none⟩ (.int .i64 (nw + mo))) A15 m15 c15 ⟨id + 1, s, [], s2, came, fr, (nw + mo)⟩) := Lib.hid (jask_nil J15.out)
    clear J15
    have J15 := J15q
    clear J15q BZ hne9 hneS
    try clear S1 S2 S3
    try clear S4
    try clear S5
    try clear S6
    try clear HBB JAB
    try clear BZ
    try clear HKEEP HY
    try clear HGE
    have q0 := B9.out.c0
    have r0 := B15.out.c0
    have q1 := B9.out.c1
    have r1 := B15.out.c1
    have q2 := B9.out.c2
    have r2 := B15.out.c2
    have q3 := B9.out.c3
    have r3 := B15.out.c3
    have q4 := B9.out.c4
    have r4 := B15.out.c4
    have q5 := B9.out.c5
    have r5 := B15.out.c5
    have q6 := B9.out.c6
    have r6 := B15.out.c6
    have q7 := B9.out.c7
    have r7 := B15.out.c7
    have q8 := B9.out.c8
    have r8 := B15.out.c8
    have q9 := B9.out.c9
    have r9 := B15.out.c9
    have q10 := B9.out.c10
    have r10 := B15.out.c10
    have q11 := B9.out.c11
    have r11 := B15.out.c11
    have q12 := B9.out.c12
    have r12 := B15.out.c12
    have b0 := BS.out.c0
    have b1 := BS.out.c1
    have b2 := BS.out.c2
    have b3 := BS.out.c3
    have b4 := BS.out.c4
    have b5 := BS.out.c5
    have b6 := BS.out.c6
    simp only at q0 q1 q2 q3 q4 q5 q6 q7 q8 q9 q10 q11 q12 r0 r1 r2 r3 r4 r5 r6 r7 r8 r9 r10 r11 r12
    go_wp2_with fail
    refine (h11_over H IST.out OVJ.out).mono ?_
    rintro e w4 ⟨rfl, hb⟩
    have HB0q := Lib.hid (HB0.out.trans (hb.mono HB0.out.size))
    clear HB0
    have HB0 := HB0q
    clear HB0q
    have B9q := Lib.hid (B9.out.next hb)
    clear B9
    have B9 := B9q
    clear B9q
    have JAq := Lib.hid (JA.out.next hb)
    clear JA
    have JA := JAq
    clear JAq
    have BSq := Lib.hid (BS.out.next hb)
    clear BS
    have BS := BSq
    clear BSq
    have J15q := Lib.hid (J15.out.next hb)
    clear J15
    have J15 := J15q
    clear J15q
    have B15q := Lib.hid (B15.out.next hb)
    clear B15
    have B15 := B15q
    clear B15q
    clear hb
    clear q0 q1 q2 q3 q4 q5 q6 q7 q8 q9 q10 q11 q12 r0 r1 r2 r3 r4 r5 r6 r7 r8 r9 r10 r11 r12
    clear b0 b1 b2 b3 b4 b5 b6
    have q0 := B9.out.c0
    have r0 := B15.out.c0
    have q1 := B9.out.c1
    have r1 := B15.out.c1
    have q2 := B9.out.c2
    have r2 := B15.out.c2
    have q3 := B9.out.c3
    have r3 := B15.out.c3
    have q4 := B9.out.c4
    have r4 := B15.out.c4
    have q5 := B9.out.c5
    have r5 := B15.out.c5
    have q6 := B9.out.c6
    have r6 := B15.out.c6
    have q7 := B9.out.c7
    have r7 := B15.out.c7
    have q8 := B9.out.c8
    have r8 := B15.out.c8
    have q9 := B9.out.c9
    have r9 := B15.out.c9
    have q10 := B9.out.c10
    have r10 := B15.out.c10
    have q11 := B9.out.c11
    have r11 := B15.out.c11
    have q12 := B9.out.c12
    have r12 := B15.out.c12
    have b0 := BS.out.c0
    have b1 := BS.out.c1
    have b2 := BS.out.c2
    have b3 := BS.out.c3
    have b4 := BS.out.c4
    have b5 := BS.out.c5
    have b6 := BS.out.c6
    simp only at q0 q1 q2 q3 q4 q5 q6 q7 q8 q9 q10 q11 q12 r0 r1 r2 r3 r4 r5 r6 r7 r8 r9 r10 r11 r12
    go_wp2_with fail
    refine (h11_right H J15.out (jask_few J15.out) RN.out).mono ?_
    rintro e w5 ⟨rfl, hb⟩
    have HB0q := Lib.hid (HB0.out.trans (hb.mono HB0.out.size))
    clear HB0
    have HB0 := HB0q
    clear HB0q
    have B9q := Lib.hid (B9.out.next hb)
    clear B9
    have B9 := B9q
    clear B9q
    have JAq := Lib.hid (JA.out.next hb)
    clear JA
    have JA := JAq
    clear JAq
    have BSq := Lib.hid (BS.out.next hb)
    clear BS
    have BS := BSq
    clear BSq
    have J15q := Lib.hid (J15.out.next hb)
    clear J15
    have J15 := J15q
    clear J15q
    have B15q := Lib.hid (B15.out.next hb)
    clear B15
    have B15 := B15q
    clear B15q
    clear hb
    clear q0 q1 q2 q3 q4 q5 q6 q7 q8 q9 q10 q11 q12 r0 r1 r2 r3 r4 r5 r6 r7 r8 r9 r10 r11 r12
    clear b0 b1 b2 b3 b4 b5 b6
    have q0 := B9.out.c0
    have r0 := B15.out.c0
    have q1 := B9.out.c1
    have r1 := B15.out.c1
    have q2 := B9.out.c2
    have r2 := B15.out.c2
    have q3 := B9.out.c3
    have r3 := B15.out.c3
    have q4 := B9.out.c4
    have r4 := B15.out.c4
    have q5 := B9.out.c5
    have r5 := B15.out.c5
    have q6 := B9.out.c6
    have r6 := B15.out.c6
    have q7 := B9.out.c7
    have r7 := B15.out.c7
    have q8 := B9.out.c8
    have r8 := B15.out.c8
    have q9 := B9.out.c9
    have r9 := B15.out.c9
    have q10 := B9.out.c10
    have r10 := B15.out.c10
    have q11 := B9.out.c11
    have r11 := B15.out.c11
    have q12 := B9.out.c12
    have r12 := B15.out.c12
    have b0 := BS.out.c0
    have b1 := BS.out.c1
    have b2 := BS.out.c2
    have b3 := BS.out.c3
    have b4 := BS.out.c4
    have b5 := BS.out.c5
    have b6 := BS.out.c6
    simp only at q0 q1 q2 q3 q4 q5 q6 q7 q8 q9 q10 q11 q12 r0 r1 r2 r3 r4 r5 r6 r7 r8 r9 r10 r11 r12
    go_wp2_with fail
    refine (h11_over H IS2.out OVN.out).mono ?_
    rintro e w6 ⟨rfl, hb⟩
    have HB0q := Lib.hid (HB0.out.trans (hb.mono HB0.out.size))
    clear HB0
    have HB0 := HB0q
    clear HB0q
    have B9q := Lib.hid (B9.out.next hb)
    clear B9
    have B9 := B9q
    clear B9q
    have JAq := Lib.hid (JA.out.next hb)
    clear JA
    have JA := JAq
    clear JAq
    have BSq := Lib.hid (BS.out.next hb)
    clear BS
    have BS := BSq
    clear BSq
    have J15q := Lib.hid (J15.out.next hb)
    clear J15
    have J15 := J15q
    clear J15q
    have B15q := Lib.hid (B15.out.next hb)
    clear B15
    have B15 := B15q
    clear B15q
    clear hb
    clear q0 q1 q2 q3 q4 q5 q6 q7 q8 q9 q10 q11 q12 r0 r1 r2 r3 r4 r5 r6 r7 r8 r9 r10 r11 r12
    clear b0 b1 b2 b3 b4 b5 b6
    have q0 := B9.out.c0
    have r0 := B15.out.c0
    have q1 := B9.out.c1
    have r1 := B15.out.c1
    have q2 := B9.out.c2
    have r2 := B15.out.c2
    have q3 := B9.out.c3
    have r3 := B15.out.c3
    have q4 := B9.out.c4
    have r4 := B15.out.c4
    have q5 := B9.out.c5
    have r5 := B15.out.c5
    have q6 := B9.out.c6
    have r6 := B15.out.c6
    have q7 := B9.out.c7
    have r7 := B15.out.c7
    have q8 := B9.out.c8
    have r8 := B15.out.c8
    have q9 := B9.out.c9
    have r9 := B15.out.c9
    have q10 := B9.out.c10
    have r10 := B15.out.c10
    have q11 := B9.out.c11
    have r11 := B15.out.c11
    have q12 := B9.out.c12
    have r12 := B15.out.c12
    have b0 := BS.out.c0
    have b1 := BS.out.c1
    have b2 := BS.out.c2
    have b3 := BS.out.c3
    have b4 := BS.out.c4
    have b5 := BS.out.c5
    have b6 := BS.out.c6
    simp only at q0 q1 q2 q3 q4 q5 q6 q7 q8 q9 q10 q11 q12 r0 r1 r2 r3 r4 r5 r6 r7 r8 r9 r10 r11 r12
    go_wp2_with fail
    refine (h11_over H IST.out OVJ.out).mono ?_
    rintro e w7 ⟨rfl, hb⟩
    have HB0q := Lib.hid (HB0.out.trans (hb.mono HB0.out.size))
    clear HB0
    have HB0 := HB0q
    clear HB0q
    have B9q := Lib.hid (B9.out.next hb)
    clear B9
    have B9 := B9q
    clear B9q
    have JAq := Lib.hid (JA.out.next hb)
    clear JA
    have JA := JAq
    clear JAq
    have BSq := Lib.hid (BS.out.next hb)
    clear BS
    have BS := BSq
    clear BSq
    have J15q := Lib.hid (J15.out.next hb)
    clear J15
    have J15 := J15q
    clear J15q
    have B15q := Lib.hid (B15.out.next hb)
    clear B15
    have B15 := B15q
    clear B15q
    clear hb
    clear q0 q1 q2 q3 q4 q5 q6 q7 q8 q9 q10 q11 q12 r0 r1 r2 r3 r4 r5 r6 r7 r8 r9 r10 r11 r12
    clear b0 b1 b2 b3 b4 b5 b6
    have q0 := B9.out.c0
    have r0 := B15.out.c0
    have q1 := B9.out.c1
    have r1 := B15.out.c1
    have q2 := B9.out.c2
    have r2 := B15.out.c2
    have q3 := B9.out.c3
    have r3 := B15.out.c3
    have q4 := B9.out.c4
    have r4 := B15.out.c4
    have q5 := B9.out.c5
    have r5 := B15.out.c5
    have q6 := B9.out.c6
    have r6 := B15.out.c6
    have q7 := B9.out.c7
    have r7 := B15.out.c7
    have q8 := B9.out.c8
    have r8 := B15.out.c8
    have q9 := B9.out.c9
    have r9 := B15.out.c9
    have q10 := B9.out.c10
    have r10 := B15.out.c10
    have q11 := B9.out.c11
    have r11 := B15.out.c11
    have q12 := B9.out.c12
    have r12 := B15.out.c12
    have b0 := BS.out.c0
    have b1 := BS.out.c1
    have b2 := BS.out.c2
    have b3 := BS.out.c3
    have b4 := BS.out.c4
    have b5 := BS.out.c5
    have b6 := BS.out.c6
    simp only at q0 q1 q2 q3 q4 q5 q6 q7 q8 q9 q10 q11 q12 r0 r1 r2 r3 r4 r5 r6 r7 r8 r9 r10 r11 r12
    have y0 := B9.out.frozen 0
    have y1 := B9.out.frozen 1
    have y2 := B9.out.frozen 2
    have y3 := B9.out.frozen 3
    have y4 := B9.out.frozen 4
    have y5 := B9.out.frozen 5
    have y6 := B9.out.frozen 6
    have y7 := B9.out.frozen 7
    have y8 := B9.out.frozen 8
    have y9 := B9.out.frozen 9
    have y10 := B9.out.frozen 10
    have y11 := B9.out.frozen 11
    have y12 := B9.out.frozen 12
    have HBV := Lib.hid (below_store (v0 := .int .i64 (id + 1)) (v1 := .int .i64 s.nodes) (v2 := .int .i64 s.cores) (v3 := .int .i64 s.gpus) (v4 := .string s.tag) (v5 := .bool s.whole) (v6 := .int .i64 s.long) (v7 := .int .i64 s.prio) (v8 := .slice A15 m15 c15) (v9 := .int .i64 s2) (v10 := .int .i64 came) (v11 := .int .i64 fr) (v12 := .int .i64 (nw + mo)) HB0.out (Nat.le_refl w1.heap.size))
    have B9V := Lib.hid (B9.out.store ⟨id + 1, s, [], s2, came, fr, (nw + mo)⟩ A15 m15 c15)
    go_wp2
    refine ⟨⟨k + 1, nw + mo, bg, s2, fr, (nw + mo), A15, m15, c15, by omega, by omega, by go_num, rfl, rfl, ⟨by omega, by omega⟩, EI2.out, RN1.out, B9V.out, jask_nil J15.out, HBV.out⟩, ?_⟩
    simp [intOf]; omega

set_option maxRecDepth 100000 in
set_option maxHeartbeats 8000000 in
theorem jobEnds_main (H : JobOk) (id : Int) (s : Sp) (came : Int) (A : Option Addr) (n c : Nat) (l : List (Int × Int)) (w : World) (hid : 0 ≤ id ∧ id ≤ 65535) (hs : SAsk s) (hc : 0 ≤ came ∧ came ≤ 4294967295) (hl : WList w A n c l) (hr : rightJ ⟨id + 1, s, [], 0, came, 0, 0⟩ = true) :
    Calls Try.prog 4 #[.int .u16 id, .agg #[.int .i64 s.nodes, .int .i64 s.cores, .int .i64 s.gpus, .string s.tag, .bool s.whole, .int .i64 s.long, .int .i64 s.prio], .int .u32 came, .slice A n c] w fun e w' => e = .returned (.bool true) ∧ Below w.heap.size w w' := by
  obtain ⟨W, hW⟩ : ∃ W, W = w.alloc (spO s) := ⟨_, rfl⟩
  have BS : Hid (BoxS W w.heap.size s) := Lib.hid (by rw [hW]; exact box_new w s)
  have hb0 : Below w.heap.size w W := by rw [hW]; exact (Below.refl _ _).alloc (Nat.le_refl _) _
  have HB := Lib.hid hb0
  have WL := Lib.hid (hl.next hb0)
  have HS := Lib.hid hs
  have hi1 := hid.1
  have hi2 := hid.2
  have hc1 := hc.1
  have hc2 := hc.2
  have I0 : ∀ x : Int, -10 ≤ x → x ≤ 1000000000000 → I64 x := fun x h1 h2 => by unfold I64; omega
  have HI := Lib.hid I0
  have J0 : Hid (∀ X : World, JAsk X none 0 0 ⟨id + 1, s, [], 0, came, 0, 0⟩) := Lib.hid (fun X => ⟨RI.nil, fun _ => rfl, Nat.le_refl _, Nat.zero_le _, hs, I0 _ (by show (-10 : Int) ≤ id + 1; omega) (by show id + 1 ≤ (1000000000000 : Int); omega), I0 0 (by omega) (by omega), I0 _ (by show (-10 : Int) ≤ came; omega) (by show came ≤ (1000000000000 : Int); omega), I0 0 (by omega) (by omega), I0 0 (by omega) (by omega), fun n h => by cases h⟩)
  unfold spO at hW
  clear hb0 hl hs hid hc I0
  have RT := Lib.hid hr
  clear hr
  go_enter Try.func4, Try.ntmps4
  go_wp2_with fail
  rw [← hW]
  refine (awake11_any H _).mono ?_
  rintro e w1 ⟨rfl, hb⟩
  have HBq := Lib.hid (HB.out.trans (hb.mono HB.out.size))
  clear HB
  have HB := HBq
  clear HBq
  have BSq := Lib.hid (BS.out.next hb)
  clear BS
  have BS := BSq
  clear BSq
  have WLq := Lib.hid (WL.out.next hb)
  clear WL
  have WL := WLq
  clear WLq
  clear hb
  clear hW
  have b0 := BS.out.c0
  have b1 := BS.out.c1
  have b2 := BS.out.c2
  have b3 := BS.out.c3
  have b4 := BS.out.c4
  have b5 := BS.out.c5
  have b6 := BS.out.c6
  have HBA := Lib.hid HB.out
  have HB0 := Lib.hid (Below.refl w1.heap.size w1)
  have BS0 := Lib.hid BS.out
  have WL0 := Lib.hid WL.out
  have hb := Below.alloc (Below.refl w1.heap.size w1) (Nat.le_refl _) (.cells #[.int .i64 (id + 1), .int .i64 s.nodes, .int .i64 s.cores, .int .i64 s.gpus, .string s.tag, .bool s.whole, .int .i64 s.long, .int .i64 s.prio, .slice none 0 0, .int .i64 0, .int .i64 came, .int .i64 0, .int .i64 0] 26)
  have B9q := Lib.hid (boxJ_new w1 ⟨id + 1, s, [], 0, came, 0, 0⟩ none 0 0)
  have HBq := Lib.hid (HB.out.trans (hb.mono HB.out.size))
  clear HB
  have HB := HBq
  clear HBq
  have HB0q := Lib.hid (HB0.out.trans (hb.mono HB0.out.size))
  clear HB0
  have HB0 := HB0q
  clear HB0q
  have BSq := Lib.hid (BS.out.next hb)
  clear BS
  have BS := BSq
  clear BSq
  have WLq := Lib.hid (WL.out.next hb)
  clear WL
  have WL := WLq
  clear WLq
  clear hb
  have B9 := B9q
  clear B9q
  have q0 := B9.out.c0
  have q1 := B9.out.c1
  have q2 := B9.out.c2
  have q3 := B9.out.c3
  have q4 := B9.out.c4
  have q5 := B9.out.c5
  have q6 := B9.out.c6
  have q7 := B9.out.c7
  have q8 := B9.out.c8
  have q9 := B9.out.c9
  have q10 := B9.out.c10
  have q11 := B9.out.c11
  have q12 := B9.out.c12
  simp only at q0 q8 q9 q10 q11 q12
  go_wp2_with fail
  refine (h11_right H (J0.out _) (by decide) RT.out).mono ?_
  rintro e w2 ⟨rfl, hb⟩
  have HBq := Lib.hid (HB.out.trans (hb.mono HB.out.size))
  clear HB
  have HB := HBq
  clear HBq
  have HB0q := Lib.hid (HB0.out.trans (hb.mono HB0.out.size))
  clear HB0
  have HB0 := HB0q
  clear HB0q
  have BSq := Lib.hid (BS.out.next hb)
  clear BS
  have BS := BSq
  clear BSq
  have WLq := Lib.hid (WL.out.next hb)
  clear WL
  have WL := WLq
  clear WLq
  have B9q := Lib.hid (B9.out.next hb)
  clear B9
  have B9 := B9q
  clear B9q
  clear hb
  clear q0 q1 q2 q3 q4 q5 q6 q7 q8 q9 q10 q11 q12
  clear b0 b1 b2 b3 b4 b5 b6
  go_wp2
  go_loopw [12, 13, 14] (fun nv bv iv wr => EndRel id s came n w1 nv bv iv wr) (fun _ _ iv _ => 60 - (intOf iv).toNat)
  case atStart => exact ⟨0, came, 0, 0, 0, 0, none, 0, 0, Nat.zero_le _, Nat.zero_le _, rfl, rfl, rfl, ⟨Int.le_refl _, by omega⟩, .inl ⟨rfl, by decide, by decide, by decide⟩, of_decide_eq_true RT.out, B9.out, J0.out _, HB0.out⟩
  case round =>
    clear BS WL B9
    obtain ⟨k, nw, bg, st, fr, to, A9, m9, c9, hk, hk60, rfl, rfl, rfl, hnw, hei, hrj, hbx, hja, hbl⟩ := hrel
    have hnw1 := hnw.1
    have hnw2 := hnw.2
    have EI := Lib.hid hei
    have RJ := Lib.hid hrj
    have B9 := Lib.hid hbx
    have JA := Lib.hid hja
    have BS := Lib.hid (BS0.out.next hbl)
    have WL := Lib.hid (WL0.out.next hbl)
    have HB0q := Lib.hid hbl
    clear HB0
    have HB0 := HB0q
    clear HB0q hei hrj hbx hja hbl hnw
    by_cases hlt : k < n
    case neg =>
      have HBW := Lib.hid (HBA.out.trans (HB0.out.mono HBA.out.size))
      have q9 := B9.out.c9
      simp only at q9
      rcases EI.out with ⟨rfl, g2, g3, g4⟩ | ⟨rfl, g2, g3⟩
      · have u2 : (st != 2) = true := by rw [bne_iff_ne]; exact g2
        have u3 : (st != 3) = true := by rw [bne_iff_ne]; exact g3
        have u4 : (st != 4) = true := by rw [bne_iff_ne]; exact g4
        clear g2 g3 g4 EI
        go_wp2
        go_ret
        exact ⟨rfl, HBW.out⟩
      · clear g2 g3 EI
        go_wp2
        go_ret
        exact ⟨rfl, HBW.out⟩
    by_cases hls : k < 60
    case neg =>
      have hls' : decide (k < 60) = false := decide_eq_false hls
      have hls2 : decide ((k : Int) < 60) = false := by simp; omega
      have HBW := Lib.hid (HBA.out.trans (HB0.out.mono HBA.out.size))
      have q9 := B9.out.c9
      simp only at q9
      rcases EI.out with ⟨rfl, g2, g3, g4⟩ | ⟨rfl, g2, g3⟩
      · have u2 : (st != 2) = true := by rw [bne_iff_ne]; exact g2
        have u3 : (st != 3) = true := by rw [bne_iff_ne]; exact g3
        have u4 : (st != 4) = true := by rw [bne_iff_ne]; exact g4
        clear g2 g3 g4 EI
        go_wp2
        go_ret
        exact ⟨rfl, HBW.out⟩
      · clear g2 g3 EI
        go_wp2
        go_ret
        exact ⟨rfl, HBW.out⟩
    obtain ⟨b, off, x, rfl, hbl, e0, e1, hx1, hx2, hx3⟩ := WL.out.one hlt
    obtain ⟨wt, mo⟩ := x
    simp only at e0 e1 hx1 hx2 hx3
    have IX := Lib.hid hx1
    have CE := Lib.hid (CellK.mk (p := ⟨b, off + k * 2, none⟩) hbl e0)
    by_cases hze : doE ⟨id + 1, s, [], st, came, fr, to⟩ wt (nw + mo) = 0
    · by_cases n2 : nextZ st wt = 2
      · exact ends_A H id s came n c w w1 wr b off wt mo k nw bg st fr to A9 m9 c9 HI hc1 hc2 hlt hls hnw1 hnw2 hx2 hx3 EI RJ B9 JA BS HB0 IX CE e1 _ _ _ _ _ _ _ _ _ _ _ _ _ _ _ _ _ _ _ _ _ _ _ _ _ _ _ _ _ _ _ _ _ _ _ _ _ _ _ _ _ _ _ _ _ _ _ _ _ _ _ _ _ _ _ _ _ _ _ _ _ _ _ _ _ _ _ _ _ _ _ _ _ _ _ _ _ _ _ _ _ _ _ _ _ _ _ _ _ _ _ _ _ _ _ _ _ _ _ _ _ _ _ _ _ _ _ _ _ _ _ _ _ _ _ _ _ _ _ _ _ _ _ _ _ _ _ _ _ _ _ _ _ _ _ _ _ _ _ _ _ _ _ _ _ _ _ _ _ _ _ _ _ hze n2
      · by_cases n3 : 2 < nextZ st wt
        · exact ends_C H id s came n c w w1 wr b off wt mo k nw bg st fr to A9 m9 c9 HI hc1 hc2 hlt hls hnw1 hnw2 hx2 hx3 EI RJ B9 JA BS HB0 IX CE e1 _ _ _ _ _ _ _ _ _ _ _ _ _ _ _ _ _ _ _ _ _ _ _ _ _ _ _ _ _ _ _ _ _ _ _ _ _ _ _ _ _ _ _ _ _ _ _ _ _ _ _ _ _ _ _ _ _ _ _ _ _ _ _ _ _ _ _ _ _ _ _ _ _ _ _ _ _ _ _ _ _ _ _ _ _ _ _ _ _ _ _ _ _ _ _ _ _ _ _ _ _ _ _ _ _ _ _ _ _ _ _ _ _ _ _ _ _ _ _ _ _ _ _ _ _ _ _ _ _ _ _ _ _ _ _ _ _ _ _ _ _ _ _ _ _ _ _ _ _ _ _ _ _ hze n2 n3
        · exact ends_B H id s came n c w w1 wr b off wt mo k nw bg st fr to A9 m9 c9 HI hc1 hc2 hlt hls hnw1 hnw2 hx2 hx3 EI RJ B9 JA BS HB0 IX CE e1 _ _ _ _ _ _ _ _ _ _ _ _ _ _ _ _ _ _ _ _ _ _ _ _ _ _ _ _ _ _ _ _ _ _ _ _ _ _ _ _ _ _ _ _ _ _ _ _ _ _ _ _ _ _ _ _ _ _ _ _ _ _ _ _ _ _ _ _ _ _ _ _ _ _ _ _ _ _ _ _ _ _ _ _ _ _ _ _ _ _ _ _ _ _ _ _ _ _ _ _ _ _ _ _ _ _ _ _ _ _ _ _ _ _ _ _ _ _ _ _ _ _ _ _ _ _ _ _ _ _ _ _ _ _ _ _ _ _ _ _ _ _ _ _ _ _ _ _ _ _ _ _ _ hze n2 n3
    · cases hov : overJ st with
      | true => exact ends_N1 H id s came n c w w1 wr b off wt mo k nw bg st fr to A9 m9 c9 HI hc1 hc2 hlt hls hnw1 hnw2 hx2 hx3 EI RJ B9 JA BS HB0 IX CE e1 _ _ _ _ _ _ _ _ _ _ _ _ _ _ _ _ _ _ _ _ _ _ _ _ _ _ _ _ _ _ _ _ _ _ _ _ _ _ _ _ _ _ _ _ _ _ _ _ _ _ _ _ _ _ _ _ _ _ _ _ _ _ _ _ _ _ _ _ _ _ _ _ _ _ _ _ _ _ _ _ _ _ _ _ _ _ _ _ _ _ _ _ _ _ _ _ _ _ _ _ _ _ _ _ _ _ _ _ _ _ _ _ _ _ _ _ _ _ _ _ _ _ _ _ _ _ _ _ _ _ _ _ _ _ _ _ _ _ _ _ _ _ _ _ _ _ _ _ _ _ _ _ _ hze hov
      | false => exact ends_N0 H id s came n c w w1 wr b off wt mo k nw bg st fr to A9 m9 c9 HI hc1 hc2 hlt hls hnw1 hnw2 hx2 hx3 EI RJ B9 JA BS HB0 IX CE e1 _ _ _ _ _ _ _ _ _ _ _ _ _ _ _ _ _ _ _ _ _ _ _ _ _ _ _ _ _ _ _ _ _ _ _ _ _ _ _ _ _ _ _ _ _ _ _ _ _ _ _ _ _ _ _ _ _ _ _ _ _ _ _ _ _ _ _ _ _ _ _ _ _ _ _ _ _ _ _ _ _ _ _ _ _ _ _ _ _ _ _ _ _ _ _ _ _ _ _ _ _ _ _ _ _ _ _ _ _ _ _ _ _ _ _ _ _ _ _ _ _ _ _ _ _ _ _ _ _ _ _ _ _ _ _ _ _ _ _ _ _ _ _ _ _ _ _ _ _ _ _ _ _ hze hov


theorem jobEnds_walk (H : JobOk) (id : Int) (s : Sp) (came : Int) (A : Option Addr) (n c : Nat) (l : List (Int × Int)) (w : World) (hid : 0 ≤ id ∧ id ≤ 65535) (hs : SAsk s) (hc : 0 ≤ came ∧ came ≤ 4294967295) (hl : WList w A n c l) : Calls Try.prog 4 #[.int .u16 id, .agg #[.int .i64 s.nodes, .int .i64 s.cores, .int .i64 s.gpus, .string s.tag, .bool s.whole, .int .i64 s.long, .int .i64 s.prio], .int .u32 came, .slice A n c] w fun e w' => e = .returned (.bool true) ∧ Below w.heap.size w w' := by
  cases hr : rightJ ⟨id + 1, s, [], 0, came, 0, 0⟩ with
  | false => exact jobEnds_bad H id s came A n c l w hid hs hc hl hr
  | true => exact jobEnds_main H id s came A n c l w hid hs hc hl hr

end Go.Proofs.Ytpaabeadiokgoaa
