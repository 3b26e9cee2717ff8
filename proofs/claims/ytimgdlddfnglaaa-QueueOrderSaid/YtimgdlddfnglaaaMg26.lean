/- The program's own, slices.Clone of jobs, same: copies in memory of their own. Written by gen/gen_queuep.py. The program's Get and Do of layer 12. Written by gen/gen_queuep.py. 'out = append(out, x)' of an owned row of elements, at a step of a region that draws its order. General: nothing of the program stands here. -/
import Derived.Test.YtimgdlddfnglaaaMg07
import Derived.Test.YtimgdlddfnglaaaMg24
import Derived.Test.YtimgdlddfnglaaaMg25
import Derived.Test.YtimgdlddfnglaaaMg23
import Derived.RegionTactic
import Derived.Test.YtimgdlddfnglaaaMg01
namespace Go.Proofs.Ytimgdlddfnglaaa
open Go.RowKit

set_option maxRecDepth 100000 in
set_option maxHeartbeats 8000000 in
/-- a job with memory of its own -/
theorem ownQ_any (A : Option Addr) (m c : Nat) (j : Jb) (w : World) (hj : JAsk w A m c j) (hm : m ≤ 1000) :
    Calls Try.prog 36 #[.agg #[.int .i64 j.id, .int .i64 j.spec.nodes, .int .i64 j.spec.cores, .int .i64 j.spec.gpus, .string j.spec.tag, .bool j.spec.whole, .int .i64 j.spec.long, .int .i64 j.spec.prio, .slice A m c, .int .i64 j.state, .int .i64 j.came, .int .i64 j.frm, .int .i64 j.to]] w fun e w' => (∃ A1 c1, e = .returned (.agg #[.int .i64 j.id, .int .i64 j.spec.nodes, .int .i64 j.spec.cores, .int .i64 j.spec.gpus, .string j.spec.tag, .bool j.spec.whole, .int .i64 j.spec.long, .int .i64 j.spec.prio, .slice A1 m c1, .int .i64 j.state, .int .i64 j.came, .int .i64 j.frm, .int .i64 j.to]) ∧ JAsk w' A1 m c1 j ∧ ∀ p, A1 = some p → w.heap.size ≤ p.block) ∧ Below w.heap.size w w' := by
  obtain ⟨W, hW⟩ : ∃ W, W = (w.alloc (jO j A m c)).alloc (jO jb0 none 0 0) := ⟨_, rfl⟩
  have hs2 : W.heap.size = w.heap.size + 1 + 1 := by rw [hW]; simp
  have bx2 : BoxJ W w.heap.size j A m c := by rw [hW]; exact (boxJ_new w j A m c).next ((Below.refl _ _).alloc (Nat.le_refl _) _)
  have br2 : BoxJ W (w.heap.size + 1) jb0 none 0 0 := by
    have := boxJ_new (w.alloc (jO j A m c)) jb0 none 0 0
    rw [show (w.alloc (jO j A m c)).heap.size = w.heap.size + 1 by simp] at this
    rw [hW]; exact this
  have HB : Hid (Below w.heap.size w W) := Lib.hid (by rw [hW]; exact ((Below.refl _ _).alloc (Nat.le_refl _) _).alloc (by simp) _)
  have BX := Lib.hid bx2
  have BR := Lib.hid br2
  have HSZ : Hid (W.heap.size = w.heap.size + 1 + 1) := Lib.hid hs2
  have JW := Lib.hid hj
  have JA := Lib.hid (hj.next HB.out)
  have HM : Hid (m ≤ 1000) := Lib.hid hm
  have HML : Hid (m ≤ maxLen) := Lib.hid hj.few
  have q8 := bx2.c8
  rw [hW] at q8
  unfold jO at hW q8
  simp only [jb0, sp0] at hW q8
  clear bx2 br2 hs2 hj hm
  go_enter Try.func36, Try.ntmps36
  go_wp2_with fail
  rw [← hW]
  clear hW
  refine (clone_own JA.out.reads JA.out.nil HM.out).mono ?_
  rintro e w1 ⟨⟨A1, c1, rfl, hno⟩, hb⟩
  have NN := Lib.hid hno
  have HBq := Lib.hid (HB.out.trans (hb.mono HB.out.size))
  have BXq := Lib.hid (BX.out.next hb)
  have BRq := Lib.hid (BR.out.next hb)
  clear hno hb q8 JA HB BX BR
  have y8 := BXq.out.frozen 8
  have o8 := BXq.out.c8
  obtain ⟨V, hV⟩ : ∃ V, V = w1.setCell ⟨w.heap.size, 8, none⟩ (.slice A1 m c1) := ⟨_, rfl⟩
  have BX : Hid (BoxJ V w.heap.size j A1 m c1) := Lib.hid (by rw [hV]; exact BXq.out.set (by kernel_rfl))
  have BR : Hid (BoxJ V (w.heap.size + 1) jb0 none 0 0) := Lib.hid (by rw [hV]; exact BRq.out.other (by omega))
  have NNq : Hid (NO W.heap.size V A1 m c1 j.needs) := Lib.hid (by rw [hV]; exact NN.out.set (by have := HSZ.out; omega))
  have HB : Hid (Below w.heap.size w V) := Lib.hid (by rw [hV]; exact HBq.out.setCell (p := ⟨_, 8, none⟩) (Nat.le_refl _) _)
  clear BXq BRq NN HBq
  have NN := NNq
  clear NNq
  have q0 := BX.out.c0
  have q1 := BX.out.c1
  have q2 := BX.out.c2
  have q3 := BX.out.c3
  have q4 := BX.out.c4
  have q5 := BX.out.c5
  have q6 := BX.out.c6
  have q7 := BX.out.c7
  have q8 := BX.out.c8
  have q9 := BX.out.c9
  have q10 := BX.out.c10
  have q11 := BX.out.c11
  have q12 := BX.out.c12
  have p0 := BR.out.c0
  have v0 := BR.out.frozen 0
  have p1 := BR.out.c1
  have v1 := BR.out.frozen 1
  have p2 := BR.out.c2
  have v2 := BR.out.frozen 2
  have p3 := BR.out.c3
  have v3 := BR.out.frozen 3
  have p4 := BR.out.c4
  have v4 := BR.out.frozen 4
  have p5 := BR.out.c5
  have v5 := BR.out.frozen 5
  have p6 := BR.out.c6
  have v6 := BR.out.frozen 6
  have p7 := BR.out.c7
  have v7 := BR.out.frozen 7
  have p8 := BR.out.c8
  have v8 := BR.out.frozen 8
  have p9 := BR.out.c9
  have v9 := BR.out.frozen 9
  have p10 := BR.out.c10
  have v10 := BR.out.frozen 10
  have p11 := BR.out.c11
  have v11 := BR.out.frozen 11
  have p12 := BR.out.c12
  have v12 := BR.out.frozen 12
  simp only [jb0, sp0] at p0 p1 p2 p3 p4 p5 p6 p7 p8 p9 p10 p11 p12
  rw [hV] at q0 p0 v0 q1 p1 v1 q2 p2 v2 q3 p3 v3 q4 p4 v4 q5 p5 v5 q6 p6 v6 q7 p7 v7 q8 p8 v8 q9 p9 v9 q10 p10 v10 q11 p11 v11 q12 p12 v12
  go_wp2
  rw [← hV]
  have b1 := BR.out.store j A1 m c1
  have HBF := below_store (v0 := .int .i64 j.id) (v1 := .int .i64 j.spec.nodes) (v2 := .int .i64 j.spec.cores) (v3 := .int .i64 j.spec.gpus) (v4 := .string j.spec.tag) (v5 := .bool j.spec.whole) (v6 := .int .i64 j.spec.long) (v7 := .int .i64 j.spec.prio) (v8 := .slice A1 m c1) (v9 := .int .i64 j.state) (v10 := .int .i64 j.came) (v11 := .int .i64 j.frm) (v12 := .int .i64 j.to) HB.out (show w.heap.size ≤ w.heap.size + 1 by omega)
  have HN := (((((((((((((NN.out.set (k := 0) (v := .int .i64 j.id) (show w.heap.size + 1 < W.heap.size by have := HSZ.out; omega)).set (k := 1) (v := .int .i64 j.spec.nodes) (show w.heap.size + 1 < W.heap.size by have := HSZ.out; omega)).set (k := 2) (v := .int .i64 j.spec.cores) (show w.heap.size + 1 < W.heap.size by have := HSZ.out; omega)).set (k := 3) (v := .int .i64 j.spec.gpus) (show w.heap.size + 1 < W.heap.size by have := HSZ.out; omega)).set (k := 4) (v := .string j.spec.tag) (show w.heap.size + 1 < W.heap.size by have := HSZ.out; omega)).set (k := 5) (v := .bool j.spec.whole) (show w.heap.size + 1 < W.heap.size by have := HSZ.out; omega)).set (k := 6) (v := .int .i64 j.spec.long) (show w.heap.size + 1 < W.heap.size by have := HSZ.out; omega)).set (k := 7) (v := .int .i64 j.spec.prio) (show w.heap.size + 1 < W.heap.size by have := HSZ.out; omega)).set (k := 8) (v := .slice A1 m c1) (show w.heap.size + 1 < W.heap.size by have := HSZ.out; omega)).set (k := 9) (v := .int .i64 j.state) (show w.heap.size + 1 < W.heap.size by have := HSZ.out; omega)).set (k := 10) (v := .int .i64 j.came) (show w.heap.size + 1 < W.heap.size by have := HSZ.out; omega)).set (k := 11) (v := .int .i64 j.frm) (show w.heap.size + 1 < W.heap.size by have := HSZ.out; omega)).set (k := 12) (v := .int .i64 j.to) (show w.heap.size + 1 < W.heap.size by have := HSZ.out; omega))
  have r0 := b1.c0
  have r1 := b1.c1
  have r2 := b1.c2
  have r3 := b1.c3
  have r4 := b1.c4
  have r5 := b1.c5
  have r6 := b1.c6
  have r7 := b1.c7
  have r8 := b1.c8
  have r9 := b1.c9
  have r10 := b1.c10
  have r11 := b1.c11
  have r12 := b1.c12
  refine bodyPost_ret (v := .agg #[.int .i64 j.id, .int .i64 j.spec.nodes, .int .i64 j.spec.cores, .int .i64 j.spec.gpus, .string j.spec.tag, .bool j.spec.whole, .int .i64 j.spec.long, .int .i64 j.spec.prio, .slice A1 m c1, .int .i64 j.state, .int .i64 j.came, .int .i64 j.frm, .int .i64 j.to]) (by simp [results, Try.results36, go_sem, r0, r1, r2, r3, r4, r5, r6, r7, r8, r9, r10, r11, r12]) rfl ⟨⟨A1, c1, rfl, HN.same JW.out HML.out, NN.out.fresh (by have := HSZ.out; omega)⟩, HBF⟩

theorem jobs_one {ok : Nat → Prop} {w : World} {l : Qu} {fl : List Value} (h1 : fl.length = l.length * 13) (h : ∀ j x, l[j]? = some x → EJb w ok x ((fl.drop (j * 13)).take 13)) : ∀ u ∈ fl, u.oneCell' = true := by
  intro u hu
  obtain ⟨k, hk, rfl⟩ := List.getElem_of_mem hu
  have hj : k / 13 < l.length := by omega
  obtain ⟨A, m, c, hv, _⟩ := h (k / 13) _ (List.getElem?_eq_getElem hj)
  have e : ((fl.drop (k / 13 * 13)).take 13)[k % 13]? = some fl[k] := by
    rw [List.getElem?_take_of_lt (by omega), List.getElem?_drop, show k / 13 * 13 + k % 13 = k by omega, List.getElem?_eq_getElem hk]
  rw [hv] at e
  have hm := List.mem_of_getElem? e
  simp only [List.mem_cons, List.not_mem_nil, or_false] at hm
  rcases hm with e | e | e | e | e | e | e | e | e | e | e | e | e <;> (rw [e]; rfl)

set_option maxRecDepth 100000 in
set_option maxHeartbeats 2000000 in
/-- a clone of a queue lies in memory of its own; what its jobs reach is as it was -/
theorem cloneJ_any (B : Nat) (A : Option Addr) (n c : Nat) (l : Qu) (w : World) (hB : B ≤ w.heap.size) (hr : RQ w B A n l) (hnil : A = none → c = 0) (hn : n ≤ 1000) :
    Calls Try.prog 54 #[.slice A n c] w fun e w' => ∃ v, e = .returned v ∧ Below w.heap.size w w' ∧ RowQ EJb 13 30 (Lt B) w.heap.size v l w' := by
  obtain ⟨i0, hi0, hz0, hz1, hz2⟩ := info_parts job_info
  have HR := Lib.hid hr
  have q22 : ∀ (w : World) (a : Option Addr) (n c n' c' : Nat), (binOp .eql 22 (.slice a n c) (.slice none n' c')).run Try.prog w = .ok (.bool a.isNone) w := fun w a n c n' c' => Lib.run_eql_slice_nil w _ _ a n c n' c' Try.underlying22
  cases A with
  | none =>
    obtain rfl := hnil rfl
    have hn0 : n = 0 := by
      rcases Nat.eq_zero_or_pos n with h0 | h0
      · exact h0
      · obtain ⟨b, off, e', _⟩ := hr.2 h0; cases e'
    subst hn0
    have hxs : Hid (l = []) := Lib.hid (List.eq_nil_of_length_eq_zero hr.1)
    clear hr hnil hn
    go_enter Try.func54, Try.ntmps54
    go_wp2
    go_ret
    exact ⟨_, rfl, Below.refl _ _, by rw [hxs.out]; exact ⟨[], by simpa using World.ownsRow_nil w w.heap.size 30 13, fun j x h => by simp at h⟩⟩
  | some ad =>
    obtain ⟨fl, f1, f2, f3⟩ : ∃ fl : List Value, fl.length = n * 13 ∧ (∀ j u, fl[j]? = some u → w.cell? (ad.add j) = some u) ∧ ∀ j x, l[j]? = some x → EJb w (Lt B) x ((fl.drop (j * 13)).take 13) := by
      rcases Nat.eq_zero_or_pos n with h0 | h0
      · subst h0
        have : l = [] := List.eq_nil_of_length_eq_zero hr.1
        subst this
        exact ⟨[], rfl, fun j u h => by simp at h, fun j x h => by simp at h⟩
      · obtain ⟨b, off, e, hb, hc⟩ := hr.2 h0
        injection e with e
        subst e
        obtain ⟨fl, k1, k2, k3⟩ := flat_of (C := 13) l off hc
        exact ⟨fl, by rw [k1, hr.1], fun j u hu => by rw [show (⟨b, off, none⟩ : Addr).add j = ⟨b, off + j, none⟩ by unfold Addr.add; split <;> simp_all]; exact k2 j u hu, k3⟩
    have F1 := Lib.hid f1
    have F2 : Hid (∀ j u, fl[j]? = some u → (w.alloc (.cells #[] 30)).cell? (ad.add j) = some u) := Lib.hid (fun j u hu => by
      have h1 := f2 j u hu
      have hlt : (ad.add j).block < w.heap.size := World.block_lt_of_cell? _ _ h1
      exact (((Below.refl _ w).alloc (Nat.le_refl _) _).cell hlt).trans h1)
    have F3 := Lib.hid f3
    have FO : Hid (∀ u ∈ fl, u.oneCell' = true) := Lib.hid (jobs_one (by rw [f1, hr.1]) f3)
    have HL := Lib.hid hr.1
    clear hr hnil f1 f2 f3
    go_enter Try.func54, Try.ntmps54
    go_wp2_with (at_builtin; refine wpList_append_own _ rfl _ _ 22 rfl w.heap.size 30 i0 (.agg #[.int .i64 0, .int .i64 0, .int .i64 0, .int .i64 0, .string ⟨#[]⟩, .bool false, .int .i64 0, .int .i64 0, .slice none 0 0, .int .i64 0, .int .i64 0, .int .i64 0, .int .i64 0]) 13 128 Try.underlying22 hi0 hz0 hz1 hz2 rfl (by decide) (.slice (some ⟨w.heap.size, 0, none⟩) 0 0) 0 [] rfl (World.ownsRow_made w #[] 0 (Nat.le_refl _) (Nat.zero_le _) rfl) ad n c fl rfl F1.out F2.out FO.out (by unfold maxLen; omega) (by omega) (by simp) ?_; intro v' w1 hown hgrow _; refine Hid.out ?_)
    refine Lib.hid ?_
    have hb1 : Below w.heap.size w w1 := ((Below.refl _ w).alloc (Nat.le_refl _) _).grown hgrow (by simp) (by intro k hk; have hk' : w.heap.size = k := (by simpa [Value.ownBlock] using hk); omega)
    have HO : Hid (RowQ EJb 13 30 (Lt B) w.heap.size v' l w1) := Lib.hid ⟨fl, by have h := hown; rw [Nat.zero_add, List.nil_append] at h; rw [HL.out]; exact h, fun j x hx => ejb_steady.keep (F3.out j x hx) (fun b hb => hb1.block b (Nat.lt_of_lt_of_le hb hB)) (fun _ h => h)⟩
    have HB1 := Lib.hid hb1
    clear hown hgrow hb1
    go_wp2
    go_ret
    exact ⟨_, rfl, HB1.out, HO.out⟩
theorem cloneJ_on (A : Option Addr) (n c : Nat) (l : Qu) (w : World) (hr : RQ w w.heap.size A n l) (hnil : A = none → c = 0) (hn : n ≤ 1000) :
    Calls Try.prog 54 #[.slice A n c] w fun e w' => ∃ v, e = .returned v ∧ ON EJb 13 30 w v l w' :=
  (cloneJ_any w.heap.size A n c l w (Nat.le_refl _) hr hnil hn).mono fun _ _ ⟨v, h1, h2, h3⟩ => ⟨v, h1, h3.on ejb_steady h2 (fun b hb => ⟨Nat.lt_of_lt_of_le hb h2.size, fun e => by
    have := (h3.own b e).1
    have hb' : b < w.heap.size := hb
    omega⟩)⟩
theorem set_jAt {l : Qu} {k : Nat} (hk : k < l.length) : l.set k (jAt l k) = l := by
  rw [jAt_lt hk]
  exact List.set_getElem_self hk
/-- a job by value, as an element beside block g: what it reaches is not there -/
theorem JAsk.elN {w : World} {A : Option Addr} {m c g B : Nat} {j : Jb} (h : JAsk w A m c j) (hA : ∀ p, A = some p → B ≤ p.block) (hg : g < B) : EJb w (fun b => b < w.heap.size ∧ b ≠ g) j [.int .i64 j.id, .int .i64 j.spec.nodes, .int .i64 j.spec.cores, .int .i64 j.spec.gpus, .string j.spec.tag, .bool j.spec.whole, .int .i64 j.spec.long, .int .i64 j.spec.prio, .slice A m c, .int .i64 j.state, .int .i64 j.came, .int .i64 j.frm, .int .i64 j.to] := by
  obtain ⟨A2, m2, c2, hv, hr, h5⟩ := h.el (Below.refl _ _)
  refine ⟨A2, m2, c2, hv, ⟨hr.1, fun h0 => ?_⟩, h5⟩
  obtain ⟨b, off, e, hlt, hc⟩ := hr.2 h0
  refine ⟨b, off, e, ⟨hlt, fun e2 => ?_⟩, fun k x hx => ?_⟩
  · have hAA : A = A2 := by
      simp only [List.cons.injEq, Value.slice.injEq] at hv
      exact hv.2.2.2.2.2.2.2.2.1.1
    have := hA ⟨b, off, none⟩ (by rw [hAA, e])
    have h3 : B ≤ b := this
    omega
  · obtain ⟨vs, h1, h2, h3⟩ := hc k x hx
    exact ⟨vs, h1, h2, h3⟩

set_option maxRecDepth 100000 in
set_option maxHeartbeats 8000000 in
/-- a copy of a queue, with memory of its own -/
theorem sameQ_any {A : Option Addr} {n c : Nat} {l : Qu} {w : World} (hr : RQ w w.heap.size A n l) (hnil : A = none → c = 0) (hf : FewQ l) :
    Calls Try.prog 37 #[.slice A n c] w fun e w' => ∃ v, e = .returned v ∧ ON EJb 13 30 w v l w' := by
  have HL := Lib.hid hr.len
  have HF := Lib.hid hf
  have hn : n ≤ 100 := by rw [← hr.len]; exact hf.1
  have HC := Lib.hid (cloneJ_on A n c l w hr hnil (by omega))
  clear hr hnil hf
  go_enter Try.func37, Try.ntmps37
  go_wp2_with fail
  refine HC.out.mono ?_
  rintro e w1 ⟨v, rfl, hon⟩
  obtain ⟨A1, c1, rfl, _, _⟩ := hon.form
  have HO := Lib.hid hon
  rw [HL.out] at HO ⊢
  clear hon
  go_wp2
  go_loopw [10] (fun i wr => ∃ k : Nat, k ≤ n ∧ i = .int .i64 k ∧ ON EJb 13 30 w (.slice A1 n c1) l wr) (fun i _ => n - (intOf i).toNat)
  case atStart => exact ⟨0, Nat.zero_le _, rfl, HO.out⟩
  case round =>
    obtain ⟨k, hk, rfl, hrel⟩ := hrel
    have HK := Lib.hid hrel
    have HB := Lib.hid hrel.below
    clear hrel
    by_cases hlt : k < n
    · have hkl : k < l.length := by rw [HL.out]; exact hlt
      obtain ⟨b, off, A2, m2, c2, e, hbl, ⟨e0, e1, e2, e3, e4, e5, e6, e7, e8, e9, e10, e11, e12⟩, hx⟩ := RQ.one (HK.out.reads ejb_steady (by omega) rfl) hlt
      obtain ⟨g, hg, hgb, hgl⟩ := HK.out.head (by omega)
      have hmx := HF.out.2 k hkl
      have hset := set_jAt hkl
      rw [hg] at e
      injection e with e
      injection e with e1' e2'
      subst e1' e2' hg
      obtain ⟨x, hxx⟩ : ∃ x, jAt l k = x := ⟨_, rfl⟩
      rw [hxx] at hx hmx hset e0 e1 e2 e3 e4 e5 e6 e7 e9 e10 e11 e12
      have HS := Lib.hid hset
      have hm2 : m2 ≤ 1000 := by have := hx.reads.1; omega
      have hba : Below wr.heap.size wr (wr.alloc (jO x A2 m2 c2)) := (Below.refl _ _).alloc (Nat.le_refl _) _
      have HX := Lib.hid (hx.next hba)
      have HK1 := Lib.hid (HK.out.next ejb_steady hba)
      have HBX : Hid (BoxJ (wr.alloc (jO x A2 m2 c2)) wr.heap.size x A2 m2 c2) := Lib.hid (boxJ_new wr x A2 m2 c2)
      have HGL : Hid (g < (wr.alloc (jO x A2 m2 c2)).heap.size) := Lib.hid (by simp; omega)
      unfold jO at HX HK1 HBX HGL
      have q0 := HBX.out.c0
      have q1 := HBX.out.c1
      have q2 := HBX.out.c2
      have q3 := HBX.out.c3
      have q4 := HBX.out.c4
      have q5 := HBX.out.c5
      have q6 := HBX.out.c6
      have q7 := HBX.out.c7
      have q8 := HBX.out.c8
      have q9 := HBX.out.c9
      have q10 := HBX.out.c10
      have q11 := HBX.out.c11
      have q12 := HBX.out.c12
      simp only [Nat.zero_add] at e0 e1 e2 e3 e4 e5 e6 e7 e8 e9 e10 e11 e12
      clear hba hx hxx hmx hset hbl hgb hgl hkl
      go_wp2_with fail
      refine (ownQ_any A2 m2 c2 x _ HX.out hm2).mono ?_
      rintro e w5 ⟨⟨A5, c5, rfl, hx5, hn5⟩, hb5⟩
      have HK5 := Lib.hid (HK1.out.next ejb_steady hb5)
      have HE5 := Lib.hid (hx5.elN hn5 HGL.out)
      clear hx5 hn5 hb5 e0 e1 e2 e3 e4 e5 e6 e7 e8 e9 e10 e11 e12 q0 q1 q2 q3 q4 q5 q6 q7 q8 q9 q10 q11 q12
      have HK6 := Lib.hid (HK5.out.setN ejb_steady (i := k) (by rw [HL.out]; exact hlt) rfl HE5.out)
      rw [HS.out] at HK6
      obtain ⟨⟨u0, q0⟩, z0⟩ := HK5.out.block (i := k * 13) (by omega)
      obtain ⟨⟨u1, q1⟩, z1⟩ := HK5.out.block (i := k * 13 + 1) (by omega)
      obtain ⟨⟨u2, q2⟩, z2⟩ := HK5.out.block (i := k * 13 + 2) (by omega)
      obtain ⟨⟨u3, q3⟩, z3⟩ := HK5.out.block (i := k * 13 + 3) (by omega)
      obtain ⟨⟨u4, q4⟩, z4⟩ := HK5.out.block (i := k * 13 + 4) (by omega)
      obtain ⟨⟨u5, q5⟩, z5⟩ := HK5.out.block (i := k * 13 + 5) (by omega)
      obtain ⟨⟨u6, q6⟩, z6⟩ := HK5.out.block (i := k * 13 + 6) (by omega)
      obtain ⟨⟨u7, q7⟩, z7⟩ := HK5.out.block (i := k * 13 + 7) (by omega)
      obtain ⟨⟨u8, q8⟩, z8⟩ := HK5.out.block (i := k * 13 + 8) (by omega)
      obtain ⟨⟨u9, q9⟩, z9⟩ := HK5.out.block (i := k * 13 + 9) (by omega)
      obtain ⟨⟨u10, q10⟩, z10⟩ := HK5.out.block (i := k * 13 + 10) (by omega)
      obtain ⟨⟨u11, q11⟩, z11⟩ := HK5.out.block (i := k * 13 + 11) (by omega)
      obtain ⟨⟨u12, q12⟩, z12⟩ := HK5.out.block (i := k * 13 + 12) (by omega)
      go_wp2
      go_roundw
      case rel => exact ⟨k + 1, by omega, by go_num, HK6.out⟩
      case measure => simp [intOf]; omega
    · have hkn : k = n := by omega
      go_wp2
      go_ret
      exact ⟨_, rfl, HK.out⟩
theorem on_qask {w w' : World} {v : Value} {l : Qu} (h : ON EJb 13 30 w v l w') (hl : l.length ≤ 1000) : ∃ A n c, v = .slice A n c ∧ QAsk w' A n c l := by
  obtain ⟨A, c, rfl, h1, h2⟩ := h.form
  exact ⟨A, l.length, c, rfl, h.reads ejb_steady (by omega) rfl, h1, h2, by unfold maxLen; omega⟩

end Go.Proofs.Ytimgdlddfnglaaa

namespace Go.Proofs.Ytimgdlddfnglaaa
open Go.RowKit

theorem jask_zero (w : World) : JAsk w none 0 0 jb0 := by
  have i0 : I64 0 := by unfold I64; omega
  exact ⟨RI.nil, fun _ => rfl, Nat.le_refl _, Nat.zero_le _, ⟨i0, i0, i0, by decide, i0, i0⟩, i0, i0, i0, i0, i0, fun n hn => by cases hn⟩
/-- a job whose memory lies behind a block that is stored into -/
theorem JAsk.stored {w : World} {A : Option Addr} {m c B g : Nat} {j : Jb} {v0 v1 v2 v3 v4 v5 v6 v7 v8 v9 v10 v11 v12 : Value} (h : JAsk w A m c j) (hfr : ∀ p, A = some p → B ≤ p.block) (hg : g < B) : JAsk (((((((((((((w.setCell ⟨g, 0, none⟩ v0).setCell ⟨g, 1, none⟩ v1).setCell ⟨g, 2, none⟩ v2).setCell ⟨g, 3, none⟩ v3).setCell ⟨g, 4, none⟩ v4).setCell ⟨g, 5, none⟩ v5).setCell ⟨g, 6, none⟩ v6).setCell ⟨g, 7, none⟩ v7).setCell ⟨g, 8, none⟩ v8).setCell ⟨g, 9, none⟩ v9).setCell ⟨g, 10, none⟩ v10).setCell ⟨g, 11, none⟩ v11).setCell ⟨g, 12, none⟩ v12) A m c j := by
  refine ⟨⟨h.reads.1, fun hn => ?_⟩, h.nil, h.cap, h.few, h.spec, h.int⟩
  obtain ⟨b, off, e, hb, hc⟩ := h.reads.2 hn
  have h1 : B ≤ b := hfr _ e
  exact ⟨b, off, e, by rw [size_store]; exact hb, fun k hk => (World.cell?_of_block (heap_store (show b ≠ g by omega))).trans (hc k hk)⟩
set_option maxRecDepth 100000 in
set_option maxHeartbeats 8000000 in
theorem getQP_wrong {A : Option Addr} {n c : Nat} {l : Qu} {id : Int} {w : World} (hl : QAsk w A n c l) (hr : rightQ l = false) : Calls Try.prog 17 #[.slice A n c, .int .i64 id] w (JBPost jb0 false w) := by
  obtain ⟨W, hW⟩ : ∃ W, W = w.alloc (jO jb0 none 0 0) := ⟨_, rfl⟩
  have br : BoxJ W w.heap.size jb0 none 0 0 := by rw [hW]; exact boxJ_new w jb0 none 0 0
  have hb0 : Below w.heap.size w W := by rw [hW]; exact (Below.refl _ _).alloc (Nat.le_refl _) _
  have HB := Lib.hid hb0
  have QA := Lib.hid (hl.next hb0)
  have BR := Lib.hid br
  have HL := Lib.hid hl.reads.len
  unfold jO at hW
  simp only [jb0, sp0] at hW
  have RR := Lib.hid hr
  clear br hb0 hl hr
  go_enter Try.func17, Try.ntmps17
  go_wp2_with fail
  rw [← hW]
  clear hW
  refine (rightQP_b QA.out RR.out).mono ?_
  rintro e w1 ⟨rfl, hb⟩
  have HBq := Lib.hid (HB.out.trans (hb.mono HB.out.size))
  have BRq := Lib.hid (BR.out.next hb)
  have QAq := Lib.hid (QA.out.next hb)
  clear hb HB BR QA
  have HB := HBq
  have BR := BRq
  have QA := QAq
  clear HBq BRq QAq
  have p0 := BR.out.c0
  have v0 := BR.out.frozen 0
  have p1 := BR.out.c1
  have v1 := BR.out.frozen 1
  have p2 := BR.out.c2
  have v2 := BR.out.frozen 2
  have p3 := BR.out.c3
  have v3 := BR.out.frozen 3
  have p4 := BR.out.c4
  have v4 := BR.out.frozen 4
  have p5 := BR.out.c5
  have v5 := BR.out.frozen 5
  have p6 := BR.out.c6
  have v6 := BR.out.frozen 6
  have p7 := BR.out.c7
  have v7 := BR.out.frozen 7
  have p8 := BR.out.c8
  have v8 := BR.out.frozen 8
  have p9 := BR.out.c9
  have v9 := BR.out.frozen 9
  have p10 := BR.out.c10
  have v10 := BR.out.frozen 10
  have p11 := BR.out.c11
  have v11 := BR.out.frozen 11
  have p12 := BR.out.c12
  have v12 := BR.out.frozen 12
  simp only [jb0, sp0] at p0 p1 p2 p3 p4 p5 p6 p7 p8 p9 p10 p11 p12
  go_wp2
  have b1 := BR.out.store jb0 none 0 0
  have HBF := below_store (v0 := .int .i64 0) (v1 := .int .i64 0) (v2 := .int .i64 0) (v3 := .int .i64 0) (v4 := .string ⟨#[]⟩) (v5 := .bool false) (v6 := .int .i64 0) (v7 := .int .i64 0) (v8 := .slice none 0 0) (v9 := .int .i64 0) (v10 := .int .i64 0) (v11 := .int .i64 0) (v12 := .int .i64 0) HB.out (Nat.le_refl _)
  have r0 := b1.c0
  have r1 := b1.c1
  have r2 := b1.c2
  have r3 := b1.c3
  have r4 := b1.c4
  have r5 := b1.c5
  have r6 := b1.c6
  have r7 := b1.c7
  have r8 := b1.c8
  have r9 := b1.c9
  have r10 := b1.c10
  have r11 := b1.c11
  have r12 := b1.c12
  simp only [jb0, sp0] at r0 r1 r2 r3 r4 r5 r6 r7 r8 r9 r10 r11 r12
  refine bodyPost_ret (v := .tuple #[.agg #[.int .i64 0, .int .i64 0, .int .i64 0, .int .i64 0, .string ⟨#[]⟩, .bool false, .int .i64 0, .int .i64 0, .slice none 0 0, .int .i64 0, .int .i64 0, .int .i64 0, .int .i64 0], .bool false]) (by simp [results, Try.results17, go_sem, r0, r1, r2, r3, r4, r5, r6, r7, r8, r9, r10, r11, r12]) rfl ⟨⟨none, 0, 0, rfl, jask_zero _⟩, HBF⟩
set_option maxRecDepth 100000 in
set_option maxHeartbeats 8000000 in
theorem getQP_none {A : Option Addr} {n c : Nat} {l : Qu} {id : Int} {w : World} (hl : QAsk w A n c l) (hr : RightQ l) (hh : ¬ HasQ l id) : Calls Try.prog 17 #[.slice A n c, .int .i64 id] w (JBPost jb0 false w) := by
  obtain ⟨W, hW⟩ : ∃ W, W = w.alloc (jO jb0 none 0 0) := ⟨_, rfl⟩
  have br : BoxJ W w.heap.size jb0 none 0 0 := by rw [hW]; exact boxJ_new w jb0 none 0 0
  have hb0 : Below w.heap.size w W := by rw [hW]; exact (Below.refl _ _).alloc (Nat.le_refl _) _
  have HB := Lib.hid hb0
  have QA := Lib.hid (hl.next hb0)
  have BR := Lib.hid br
  have HL := Lib.hid hl.reads.len
  unfold jO at hW
  simp only [jb0, sp0] at hW
  have RR : Hid (rightQ l = true) := Lib.hid (decide_eq_true hr)
  have HR := Lib.hid hr
  have HH := Lib.hid hh
  have hn64 : n ≤ 64 := by rw [← hl.reads.len]; exact hr.1
  clear br hb0 hl hr hh
  go_enter Try.func17, Try.ntmps17
  go_wp2_with fail
  rw [← hW]
  clear hW
  refine (rightQP_b QA.out RR.out).mono ?_
  rintro e w1 ⟨rfl, hb⟩
  have HBq := Lib.hid (HB.out.trans (hb.mono HB.out.size))
  have BRq := Lib.hid (BR.out.next hb)
  have QAq := Lib.hid (QA.out.next hb)
  clear hb HB BR QA
  have HB := HBq
  have BR := BRq
  have QA := QAq
  clear HBq BRq QAq
  go_wp2_with fail
  refine (findQ_no QA.out.reads (by omega) HR.out.riseL HH.out).mono ?_
  rintro e w2 ⟨⟨K, rfl⟩, hb⟩
  have HBq := Lib.hid (HB.out.trans (hb.mono HB.out.size))
  have BRq := Lib.hid (BR.out.next hb)
  have QAq := Lib.hid (QA.out.next hb)
  clear hb HB BR QA
  have HB := HBq
  have BR := BRq
  have QA := QAq
  clear HBq BRq QAq
  have p0 := BR.out.c0
  have v0 := BR.out.frozen 0
  have p1 := BR.out.c1
  have v1 := BR.out.frozen 1
  have p2 := BR.out.c2
  have v2 := BR.out.frozen 2
  have p3 := BR.out.c3
  have v3 := BR.out.frozen 3
  have p4 := BR.out.c4
  have v4 := BR.out.frozen 4
  have p5 := BR.out.c5
  have v5 := BR.out.frozen 5
  have p6 := BR.out.c6
  have v6 := BR.out.frozen 6
  have p7 := BR.out.c7
  have v7 := BR.out.frozen 7
  have p8 := BR.out.c8
  have v8 := BR.out.frozen 8
  have p9 := BR.out.c9
  have v9 := BR.out.frozen 9
  have p10 := BR.out.c10
  have v10 := BR.out.frozen 10
  have p11 := BR.out.c11
  have v11 := BR.out.frozen 11
  have p12 := BR.out.c12
  have v12 := BR.out.frozen 12
  simp only [jb0, sp0] at p0 p1 p2 p3 p4 p5 p6 p7 p8 p9 p10 p11 p12
  go_wp2
  have b1 := BR.out.store jb0 none 0 0
  have HBF := below_store (v0 := .int .i64 0) (v1 := .int .i64 0) (v2 := .int .i64 0) (v3 := .int .i64 0) (v4 := .string ⟨#[]⟩) (v5 := .bool false) (v6 := .int .i64 0) (v7 := .int .i64 0) (v8 := .slice none 0 0) (v9 := .int .i64 0) (v10 := .int .i64 0) (v11 := .int .i64 0) (v12 := .int .i64 0) HB.out (Nat.le_refl _)
  have r0 := b1.c0
  have r1 := b1.c1
  have r2 := b1.c2
  have r3 := b1.c3
  have r4 := b1.c4
  have r5 := b1.c5
  have r6 := b1.c6
  have r7 := b1.c7
  have r8 := b1.c8
  have r9 := b1.c9
  have r10 := b1.c10
  have r11 := b1.c11
  have r12 := b1.c12
  simp only [jb0, sp0] at r0 r1 r2 r3 r4 r5 r6 r7 r8 r9 r10 r11 r12
  refine bodyPost_ret (v := .tuple #[.agg #[.int .i64 0, .int .i64 0, .int .i64 0, .int .i64 0, .string ⟨#[]⟩, .bool false, .int .i64 0, .int .i64 0, .slice none 0 0, .int .i64 0, .int .i64 0, .int .i64 0, .int .i64 0], .bool false]) (by simp [results, Try.results17, go_sem, r0, r1, r2, r3, r4, r5, r6, r7, r8, r9, r10, r11, r12]) rfl ⟨⟨none, 0, 0, rfl, jask_zero _⟩, HBF⟩
set_option maxRecDepth 100000 in
set_option maxHeartbeats 8000000 in
theorem getQP_yes {A : Option Addr} {n c : Nat} {l : Qu} {id : Int} {w : World} (hl : QAsk w A n c l) (hr : RightQ l) (hh : HasQ l id) : Calls Try.prog 17 #[.slice A n c, .int .i64 id] w (JBPost (jOf l id) true w) := by
  obtain ⟨W, hW⟩ : ∃ W, W = w.alloc (jO jb0 none 0 0) := ⟨_, rfl⟩
  have br : BoxJ W w.heap.size jb0 none 0 0 := by rw [hW]; exact boxJ_new w jb0 none 0 0
  have hb0 : Below w.heap.size w W := by rw [hW]; exact (Below.refl _ _).alloc (Nat.le_refl _) _
  have HB := Lib.hid hb0
  have QA := Lib.hid (hl.next hb0)
  have BR := Lib.hid br
  have HL := Lib.hid hl.reads.len
  unfold jO at hW
  simp only [jb0, sp0] at hW
  have RR : Hid (rightQ l = true) := Lib.hid (decide_eq_true hr)
  have HR := Lib.hid hr
  have HH := Lib.hid hh
  have hn64 : n ≤ 64 := by rw [← hl.reads.len]; exact hr.1
  obtain ⟨k, hk⟩ : ∃ k, atN l id = k := ⟨_, rfl⟩
  have hkn : k < n := by rw [← hl.reads.len, ← hk]; exact hh
  have hkz : (k : Int) < (n : Int) := by omega
  have hjk : jOf l id = jAt l k := by unfold jOf; rw [hk]
  have HNL : Hid ((jAt l k).needs.length ≤ 16) := Lib.hid (hr.job (by rw [hl.reads.len]; exact hkn)).1.2.2.1
  have HK := Lib.hid hk
  obtain ⟨x, hx⟩ : ∃ x, jAt l k = x := ⟨_, rfl⟩
  rw [hx] at HNL
  have HX := Lib.hid hx
  rw [hjk, hx]
  clear br hb0 hl hr hh hk hjk hx
  go_enter Try.func17, Try.ntmps17
  go_wp2_with fail
  rw [← hW]
  clear hW
  refine (rightQP_b QA.out RR.out).mono ?_
  rintro e w1 ⟨rfl, hb⟩
  have HBq := Lib.hid (HB.out.trans (hb.mono HB.out.size))
  have BRq := Lib.hid (BR.out.next hb)
  have QAq := Lib.hid (QA.out.next hb)
  clear hb HB BR QA
  have HB := HBq
  have BR := BRq
  have QA := QAq
  clear HBq BRq QAq
  have HC := Lib.hid (findQ_yes (c := c) QA.out.reads (by omega) HR.out.riseL HH.out)
  rw [HK.out] at HC
  go_wp2_with fail
  refine HC.out.mono ?_
  rintro e w2 ⟨rfl, hb⟩
  clear HC
  have HBq := Lib.hid (HB.out.trans (hb.mono HB.out.size))
  have BRq := Lib.hid (BR.out.next hb)
  have QAq := Lib.hid (QA.out.next hb)
  clear hb HB BR QA
  have HB := HBq
  have BR := BRq
  have QA := QAq
  clear HBq BRq QAq
  obtain ⟨b, off, A3, m3, c3, rfl, hb1, ⟨e0, e1, e2, e3, e4, e5, e6, e7, e8, e9, e10, e11, e12⟩, ja⟩ := QA.out.reads.one hkn
  rw [HX.out] at ja e0 e1 e2 e3 e4 e5 e6 e7 e9 e10 e11 e12
  have JA := Lib.hid ja
  have HM3 : Hid (m3 ≤ 1000) := Lib.hid (by rw [← ja.reads.1]; have := HNL.out; omega)
  clear ja
  go_wp2_with fail
  refine (ownQ_any _ _ _ _ _ JA.out HM3.out).mono ?_
  rintro e w3 ⟨⟨A5, c5, rfl, hj5, hf5⟩, hb⟩
  have J5 := Lib.hid hj5
  have FR5 := Lib.hid hf5
  have HLT : Hid (w.heap.size < w2.heap.size) := Lib.hid BR.out.lt
  have HBq := Lib.hid (HB.out.trans (hb.mono HB.out.size))
  have BRq := Lib.hid (BR.out.next hb)
  clear hb hj5 hf5 HB BR QA e0 e1 e2 e3 e4 e5 e6 e7 e8 e9 e10 e11 e12 hb1
  have HB := HBq
  have BR := BRq
  clear HBq BRq
  have p0 := BR.out.c0
  have v0 := BR.out.frozen 0
  have p1 := BR.out.c1
  have v1 := BR.out.frozen 1
  have p2 := BR.out.c2
  have v2 := BR.out.frozen 2
  have p3 := BR.out.c3
  have v3 := BR.out.frozen 3
  have p4 := BR.out.c4
  have v4 := BR.out.frozen 4
  have p5 := BR.out.c5
  have v5 := BR.out.frozen 5
  have p6 := BR.out.c6
  have v6 := BR.out.frozen 6
  have p7 := BR.out.c7
  have v7 := BR.out.frozen 7
  have p8 := BR.out.c8
  have v8 := BR.out.frozen 8
  have p9 := BR.out.c9
  have v9 := BR.out.frozen 9
  have p10 := BR.out.c10
  have v10 := BR.out.frozen 10
  have p11 := BR.out.c11
  have v11 := BR.out.frozen 11
  have p12 := BR.out.c12
  have v12 := BR.out.frozen 12
  simp only [jb0, sp0] at p0 p1 p2 p3 p4 p5 p6 p7 p8 p9 p10 p11 p12
  go_wp2
  have b1 := BR.out.store x A5 m3 c5
  have HBF := below_store (v0 := .int .i64 x.id) (v1 := .int .i64 x.spec.nodes) (v2 := .int .i64 x.spec.cores) (v3 := .int .i64 x.spec.gpus) (v4 := .string x.spec.tag) (v5 := .bool x.spec.whole) (v6 := .int .i64 x.spec.long) (v7 := .int .i64 x.spec.prio) (v8 := .slice A5 m3 c5) (v9 := .int .i64 x.state) (v10 := .int .i64 x.came) (v11 := .int .i64 x.frm) (v12 := .int .i64 x.to) HB.out (Nat.le_refl _)
  have J6 := J5.out.stored (v0 := .int .i64 x.id) (v1 := .int .i64 x.spec.nodes) (v2 := .int .i64 x.spec.cores) (v3 := .int .i64 x.spec.gpus) (v4 := .string x.spec.tag) (v5 := .bool x.spec.whole) (v6 := .int .i64 x.spec.long) (v7 := .int .i64 x.spec.prio) (v8 := .slice A5 m3 c5) (v9 := .int .i64 x.state) (v10 := .int .i64 x.came) (v11 := .int .i64 x.frm) (v12 := .int .i64 x.to) FR5.out HLT.out
  have r0 := b1.c0
  have r1 := b1.c1
  have r2 := b1.c2
  have r3 := b1.c3
  have r4 := b1.c4
  have r5 := b1.c5
  have r6 := b1.c6
  have r7 := b1.c7
  have r8 := b1.c8
  have r9 := b1.c9
  have r10 := b1.c10
  have r11 := b1.c11
  have r12 := b1.c12
  refine bodyPost_ret (v := .tuple #[.agg #[.int .i64 x.id, .int .i64 x.spec.nodes, .int .i64 x.spec.cores, .int .i64 x.spec.gpus, .string x.spec.tag, .bool x.spec.whole, .int .i64 x.spec.long, .int .i64 x.spec.prio, .slice A5 m3 c5, .int .i64 x.state, .int .i64 x.came, .int .i64 x.frm, .int .i64 x.to], .bool true]) (by simp [results, Try.results17, go_sem, r0, r1, r2, r3, r4, r5, r6, r7, r8, r9, r10, r11, r12]) rfl ⟨⟨A5, m3, c5, rfl, J6⟩, HBF⟩
theorem getQP_any {A : Option Addr} {n c : Nat} {l : Qu} {id : Int} {w : World} (hl : QAsk w A n c l) : Calls Try.prog 17 #[.slice A n c, .int .i64 id] w (JBPost (getQ l id) (decide (GetQ l id)) w) := by
  unfold getQ
  by_cases h : GetQ l id
  · rw [if_pos h, decide_eq_true h]; exact getQP_yes hl h.1 h.2
  · rw [if_neg h, decide_eq_false h]
    cases hr : rightQ l with
    | false => exact getQP_wrong hl hr
    | true => exact getQP_none hl (of_decide_eq_true hr) fun hh => h ⟨of_decide_eq_true hr, hh⟩

set_option maxRecDepth 100000 in
set_option maxHeartbeats 8000000 in
/-- something happens to a job of a queue -/
theorem doQP_yes {A : Option Addr} {n c : Nat} {l : Qu} {id what now : Int} {w : World} (hl : QAsk w A n c l) (hr : RightQ l) (hh : HasQ l id) (hn : I64 now) : Calls Try.prog 19 #[.slice A n c, .int .i64 id, .int .i64 what, .int .i64 now] w (QEPost (doQ l id what now) (doQE l id what now) w) := by
  have QA := Lib.hid hl
  have RR : Hid (rightQ l = true) := Lib.hid (decide_eq_true hr)
  have HR := Lib.hid hr
  have HH := Lib.hid hh
  have HNW := Lib.hid hn
  have HLN := Lib.hid hl.reads.len
  have hn64 : n ≤ 64 := by rw [← hl.reads.len]; exact hr.1
  obtain ⟨k, hk⟩ : ∃ k, atN l id = k := ⟨_, rfl⟩
  have hkn : k < n := by rw [← hl.reads.len, ← hk]; exact hh
  have hkz : (k : Int) < (n : Int) := by omega
  have hjk : jOf l id = jAt l k := by unfold jOf; rw [hk]
  have HNL : Hid ((jAt l k).needs.length ≤ 16) := Lib.hid (hr.job (by rw [hl.reads.len]; exact hkn)).1.2.2.1
  have HSM := Lib.hid (sameQ_any (c := c) hl.reads hl.nil hr.few)
  have HK := Lib.hid hk
  have e1 : doQ l id what now = l.set k (doJ (jAt l k) what now) := by unfold doQ; rw [hk, hjk]
  have e2 : doQE l id what now = doE (jAt l k) what now := by unfold doQE; rw [hjk]
  obtain ⟨x, hx⟩ : ∃ x, jAt l k = x := ⟨_, rfl⟩
  obtain ⟨y, hy⟩ : ∃ y, doJ x what now = y := ⟨_, rfl⟩
  obtain ⟨er, her⟩ : ∃ er, doE x what now = er := ⟨_, rfl⟩
  rw [hx] at HNL
  rw [e1, e2, hx, hy, her]
  have HX := Lib.hid hx
  have HY := Lib.hid hy
  have HER := Lib.hid her
  clear hl hr hh hk hjk hn e1 e2 hx hy her
  go_enter Try.func19, Try.ntmps19
  go_wp2_with fail
  refine HSM.out.mono ?_
  rintro e w1 ⟨v, rfl, hon⟩
  obtain ⟨A1, c1, rfl, _, hc1⟩ := hon.form
  have HO := Lib.hid hon
  have Q1 := Lib.hid (QA.out.next hon.below)
  rw [HLN.out] at HO hc1 ⊢
  have HC1 := Lib.hid hc1
  clear hon QA HSM hc1
  go_wp2_with fail
  refine (rightQP_b Q1.out RR.out).mono ?_
  rintro e w2 ⟨rfl, hb⟩
  have HO2 := Lib.hid (HO.out.next ejb_steady hb)
  have Q2 := Lib.hid (Q1.out.next hb)
  clear hb HO Q1
  have HC := Lib.hid (findQ_yes (c := c) Q2.out.reads (by omega) HR.out.riseL HH.out)
  rw [HK.out] at HC
  go_wp2_with fail
  refine HC.out.mono ?_
  rintro e w3 ⟨rfl, hb⟩
  have HO3 := Lib.hid (HO2.out.next ejb_steady hb)
  have Q3 := Lib.hid (Q2.out.next hb)
  clear hb HO2 Q2 HC
  obtain ⟨b, off, A3, m3, c3, rfl, hb1, ⟨e0, e1, e2, e3, e4, e5, e6, e7, e8, e9, e10, e11, e12⟩, ja⟩ := Q3.out.reads.one hkn
  obtain ⟨g, hg, hgb, hgl⟩ := HO3.out.head (by omega)
  subst hg
  rw [HX.out] at ja e0 e1 e2 e3 e4 e5 e6 e7 e9 e10 e11 e12
  have JA := Lib.hid ja
  have HGL := Lib.hid hgl
  have HM3 : Hid (m3 ≤ 1000) := Lib.hid (by rw [← ja.reads.1]; have := HNL.out; omega)
  clear ja hgb hgl
  have HD := Lib.hid (jobDoO_any A3 m3 c3 x what now w3 JA.out HM3.out HNW.out)
  rw [HY.out, HER.out] at HD
  go_wp2_with fail
  refine HD.out.mono ?_
  rintro e w4 ⟨⟨A4, m4, c4, rfl, jy, hfr⟩, hb⟩
  have HO4 := Lib.hid (HO3.out.next ejb_steady hb)
  have HE4 := Lib.hid (jy.elN hfr HGL.out)
  have hba : Below w4.heap.size w4 (w4.alloc (.cells #[.int .i64 y.id, .int .i64 y.spec.nodes, .int .i64 y.spec.cores, .int .i64 y.spec.gpus, .string y.spec.tag, .bool y.spec.whole, .int .i64 y.spec.long, .int .i64 y.spec.prio, .slice A4 m4 c4, .int .i64 y.state, .int .i64 y.came, .int .i64 y.frm, .int .i64 y.to] 30)) := (Below.refl _ _).alloc (Nat.le_refl _) _
  have HO5 := Lib.hid (HO4.out.next ejb_steady hba)
  have HE5 : Hid (EJb (w4.alloc (.cells #[.int .i64 y.id, .int .i64 y.spec.nodes, .int .i64 y.spec.cores, .int .i64 y.spec.gpus, .string y.spec.tag, .bool y.spec.whole, .int .i64 y.spec.long, .int .i64 y.spec.prio, .slice A4 m4 c4, .int .i64 y.state, .int .i64 y.came, .int .i64 y.frm, .int .i64 y.to] 30)) (fun b => b < (w4.alloc (.cells #[.int .i64 y.id, .int .i64 y.spec.nodes, .int .i64 y.spec.cores, .int .i64 y.spec.gpus, .string y.spec.tag, .bool y.spec.whole, .int .i64 y.spec.long, .int .i64 y.spec.prio, .slice A4 m4 c4, .int .i64 y.state, .int .i64 y.came, .int .i64 y.frm, .int .i64 y.to] 30)).heap.size ∧ b ≠ g) y [.int .i64 y.id, .int .i64 y.spec.nodes, .int .i64 y.spec.cores, .int .i64 y.spec.gpus, .string y.spec.tag, .bool y.spec.whole, .int .i64 y.spec.long, .int .i64 y.spec.prio, .slice A4 m4 c4, .int .i64 y.state, .int .i64 y.came, .int .i64 y.frm, .int .i64 y.to]) := Lib.hid (ejb_steady.keep HE4.out (fun b hb => hba.block b hb.1) (fun b hb => ⟨Nat.lt_of_lt_of_le hb.1 hba.size, hb.2⟩))
  have BY : Hid (BoxJ (w4.alloc (.cells #[.int .i64 y.id, .int .i64 y.spec.nodes, .int .i64 y.spec.cores, .int .i64 y.spec.gpus, .string y.spec.tag, .bool y.spec.whole, .int .i64 y.spec.long, .int .i64 y.spec.prio, .slice A4 m4 c4, .int .i64 y.state, .int .i64 y.came, .int .i64 y.frm, .int .i64 y.to] 30)) w4.heap.size y A4 m4 c4) := Lib.hid (boxJ_new w4 y A4 m4 c4)
  clear hb hba jy hfr HO3 HO4 HE4 HD JA Q3 e0 e1 e2 e3 e4 e5 e6 e7 e8 e9 e10 e11 e12 hb1
  have HO6 := Lib.hid (HO5.out.setN ejb_steady (i := k) (by rw [HLN.out]; exact hkn) rfl HE5.out)
  have q0 := BY.out.c0
  have q1 := BY.out.c1
  have q2 := BY.out.c2
  have q3 := BY.out.c3
  have q4 := BY.out.c4
  have q5 := BY.out.c5
  have q6 := BY.out.c6
  have q7 := BY.out.c7
  have q8 := BY.out.c8
  have q9 := BY.out.c9
  have q10 := BY.out.c10
  have q11 := BY.out.c11
  have q12 := BY.out.c12
  obtain ⟨⟨u0, p0⟩, z0⟩ := HO5.out.block (i := k * 13) (by omega)
  obtain ⟨⟨u1, p1⟩, z1⟩ := HO5.out.block (i := k * 13 + 1) (by omega)
  obtain ⟨⟨u2, p2⟩, z2⟩ := HO5.out.block (i := k * 13 + 2) (by omega)
  obtain ⟨⟨u3, p3⟩, z3⟩ := HO5.out.block (i := k * 13 + 3) (by omega)
  obtain ⟨⟨u4, p4⟩, z4⟩ := HO5.out.block (i := k * 13 + 4) (by omega)
  obtain ⟨⟨u5, p5⟩, z5⟩ := HO5.out.block (i := k * 13 + 5) (by omega)
  obtain ⟨⟨u6, p6⟩, z6⟩ := HO5.out.block (i := k * 13 + 6) (by omega)
  obtain ⟨⟨u7, p7⟩, z7⟩ := HO5.out.block (i := k * 13 + 7) (by omega)
  obtain ⟨⟨u8, p8⟩, z8⟩ := HO5.out.block (i := k * 13 + 8) (by omega)
  obtain ⟨⟨u9, p9⟩, z9⟩ := HO5.out.block (i := k * 13 + 9) (by omega)
  obtain ⟨⟨u10, p10⟩, z10⟩ := HO5.out.block (i := k * 13 + 10) (by omega)
  obtain ⟨⟨u11, p11⟩, z11⟩ := HO5.out.block (i := k * 13 + 11) (by omega)
  obtain ⟨⟨u12, p12⟩, z12⟩ := HO5.out.block (i := k * 13 + 12) (by omega)
  go_wp2
  go_ret2
  have HQ := HO6.out.reads ejb_steady (by omega) rfl
  exact ⟨⟨_, _, _, rfl, ⟨HQ, fun e => (by cases e), HC1.out, by unfold maxLen; omega⟩⟩, HO6.out.below⟩

end Go.Proofs.Ytimgdlddfnglaaa

namespace Go.Proofs.Ytimgdlddfnglaaa
open Go.RowKit

section
variable {α : Type} {E : Elem α} {C : Nat} {t : TypeId} {w wr : World} {v : Value} {xs : List α}
theorem ON.own (h : ON E C t w v xs wr) : ∀ b, v.ownBlock = some b → w.heap.size ≤ b ∧ b < wr.heap.size := by
  obtain ⟨fl, h1, _⟩ := h
  exact h1.lt
theorem step_append_ON {P : Program} {ops : Array Oper} {o : Oper} {a : Act} {K : Act → World → Prop} {Q : Exit → Act → World → Prop} {R : Prop} (hgd : o.guard = none) (s x : Operand) (ty : TypeId)
    (ho : o.op = .call { callee := .builtin .append, args := #[s, x], argTypes := #[ty, ty] })
    (hE : Steady E) (h : ON E C t w v xs wr) (i : TypeInfo) (z : Value) (bytes : Nat) (ht : P.underlying ty = some (.slice t)) (hi : P.info? t = some i) (hz : i.zero = some z)
    (hsize : i.size = C) (hby : i.bytes = bytes) (hzs : z.cells.size = C) (hsz : 0 < C)
    (hs : a.eval s = v) (x0 : α) (cs : Array Value) (hx : a.eval x = .slice (some ⟨wr.heap.size, 0, none⟩) 1 1) (hl : cs.toList.length = C) (h1 : ∀ u ∈ cs.toList, u.oneCell' = true)
    (he : E wr (fun b => b < wr.heap.size ∧ v.ownBlock ≠ some b) x0 cs.toList)
    (h63 : xs.length + 1 ≤ maxLen) (hbytes : (xs.length + 1) * bytes ≤ 140737488355328)
    (hk : ∀ v' w', ON E C t w v' (xs ++ [x0]) w' → K (a.put o.dst v') w') : if Region.wanted o (yielded ops a.tmps) = true then Oper.wp P o a (wr.alloc (.cells cs t)) K Q else R := by
  have hB := h.below
  obtain ⟨fl, h2, _, h4⟩ := id h
  refine step_append_lies (wr.alloc (.cells cs t)) hgd s x ty ho w.heap.size t i z C bytes ht hi hz hsize hby hzs hsz v xs.length fl hs (h2.alloc _) ⟨wr.heap.size, 0, none⟩ 1 1 cs.toList hx (by rw [hl]; omega)
    (World.news_of_block (cs := cs) (t := t) (fr := (0, 0)) (heap_alloc_new wr _)) h1 (by omega) h63 hbytes (by have := hB.size; simp; omega) _ rfl ?_
  intro g cap w2 hown' hgrow hat hlt
  exact hk _ _ (h.snoc hE h2 he hl h4 hown' hgrow (hat.imp id (fun e => by rw [e]; simp)))
end

end Go.Proofs.Ytimgdlddfnglaaa
