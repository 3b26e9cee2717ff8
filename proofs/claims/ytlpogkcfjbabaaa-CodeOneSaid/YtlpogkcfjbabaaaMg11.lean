/- The program's reader: specs. Written by gen/gen_codepspec.py. -/
import Derived.Test.YtlpogkcfjbabaaaMg10
import Derived.Test.YtlpogkcfjbabaaaMg07
namespace Go.Proofs.Ytlpogkcfjbabaaa
open Go.RowKit

/-- what stands behind a spec's kind, part by part -/
def q7 (a b g : Nat) (tg : Bs) (o : Bool) (l p : Nat) : Rd Sp := bindR (chkR (rightS ⟨a, b, g, ⟨tg.toArray⟩, o, l, unsignN p⟩ = true)) fun _ => retR ⟨a, b, g, ⟨tg.toArray⟩, o, l, unsignN p⟩
def q6 (a b g : Nat) (tg : Bs) (o : Bool) (l : Nat) : Rd Sp := bindR numQ (q7 a b g tg o l)
def q5 (a b g : Nat) (tg : Bs) (o : Bool) : Rd Sp := bindR numQ (q6 a b g tg o)
def q4 (a b g : Nat) (tg : Bs) : Rd Sp := bindR flagQ (q5 a b g tg)
def q3 (a b g : Nat) : Rd Sp := bindR textQ (q4 a b g)
def q2 (a b : Nat) : Rd Sp := bindR numQ (q3 a b)
def q1 (a : Nat) : Rd Sp := bindR numQ (q2 a)
def bodyQ : Rd Sp := bindR numQ q1
theorem specQ_eq : specQ = bindR byteR fun c => bindR (chkR (c = 1)) fun _ => bodyQ := by
  unfold specQ bodyQ q1 q2 q3 q4 q5 q6 q7 textQ flagQ
  simp only [bindR_assoc]
  rfl
def VSpec (_ _ : World) (x : Sp) (v : Value) : Prop := v = spV x
theorem BoxS.but {w w1 : World} {g h : Nat} {s : Sp} (hb : BoxS w h s) (k : But g w w1) (hg : h ≠ g) : BoxS w1 h s := ⟨Nat.lt_of_lt_of_le hb.lt k.size, (k.block h hb.lt hg).trans hb.at'⟩
theorem BoxS.other {w : World} {b h : Nat} {s : Sp} (hb : BoxS w h s) (hg : h ≠ b) (j : Nat) (u : Value) : BoxS (w.setCell ⟨b, j, none⟩ u) h s :=
  ⟨by have := hb.lt; simpa [World.setCell] using this, (Below.heap_setCell _ _ _ _ hg).trans hb.at'⟩
theorem BoxS.put {w : World} {h : Nat} {s s' : Sp} (hb : BoxS w h s) (j : Nat) (u : Value) (e : (#[.int .i64 s.nodes, .int .i64 s.cores, .int .i64 s.gpus, .string s.tag, .bool s.whole, .int .i64 s.long, .int .i64 s.prio] : Array Value).setIfInBounds j u = #[.int .i64 s'.nodes, .int .i64 s'.cores, .int .i64 s'.gpus, .string s'.tag, .bool s'.whole, .int .i64 s'.long, .int .i64 s'.prio]) : BoxS (w.setCell ⟨h, j, none⟩ u) h s' :=
  ⟨by have := hb.lt; simpa [World.setCell] using this, by
    have := hb.at'
    simp only [World.setCell, Array.getElem?_modify]
    simp only [if_true]
    rw [this]
    show some (Obj.cells (Array.setIfInBounds _ j u) _ _) = _
    rw [e]
    rfl⟩
/-- a spec that is read: the reader at byte k, the spec's block, and the block for the answer -/
structure St (w : World) (g h2 h3 : Nat) (A : Option Addr) (n c k : Nat) (bs : Bs) (s : Sp) (W : World) : Prop where
  rdr : Rdr W g A n c k bs
  box2 : BoxS W h2 sp0
  box3 : BoxS W h3 s
  but : But g w W
  old : w.heap.size ≤ h2
  lt : g < h2
  ne : h2 < h3
section
variable {w W W1 : World} {g h2 h3 n c k k1 : Nat} {A : Option Addr} {bs : Bs} {s s' : Sp}
theorem St.call (h : St w g h2 h3 A n c k bs s W) (hr : Rdr W1 g A n c k1 bs) (hb : But g W W1) : St w g h2 h3 A n c k1 bs s W1 :=
  ⟨hr, h.box2.but hb (by have := h.lt; omega), h.box3.but hb (by have := h.lt; have := h.ne; omega), h.but.trans hb, h.old, h.lt, h.ne⟩
theorem But.beyond {b : Nat} (h : But g w W) (hb : w.heap.size ≤ b) (j : Nat) (u : Value) : But g w (W.setCell ⟨b, j, none⟩ u) :=
  ⟨h.os, h.tape, h.output, by have := h.size; simpa [World.setCell] using this, fun i h1 h2 => (Below.heap_setCell _ _ _ _ (by show i ≠ b; omega)).trans (h.block i h1 h2)⟩
theorem St.put (h : St w g h2 h3 A n c k bs s W) (j : Nat) (u : Value) (e : (#[.int .i64 s.nodes, .int .i64 s.cores, .int .i64 s.gpus, .string s.tag, .bool s.whole, .int .i64 s.long, .int .i64 s.prio] : Array Value).setIfInBounds j u = #[.int .i64 s'.nodes, .int .i64 s'.cores, .int .i64 s'.gpus, .string s'.tag, .bool s'.whole, .int .i64 s'.long, .int .i64 s'.prio]) : St w g h2 h3 A n c k bs s' (W.setCell ⟨h3, j, none⟩ u) :=
  ⟨h.rdr.beyond (Nat.lt_trans h.lt h.ne) j u, h.box2.other (by have := h.ne; omega) j u, h.box3.put j u e, h.but.beyond (by have := h.old; have := h.ne; omega) j u, h.old, h.lt, h.ne⟩
theorem St.below (h : St w g h2 h3 A n c k bs s W) (hb : Below W.heap.size W W1) : St w g h2 h3 A n c k bs s W1 := h.call (h.rdr.next hb) (But.of g hb)
end
theorem textQ_is {b t x : Bs} (h : textQ b = .ok (x, t)) : x.length ≤ 16 := by
  unfold textQ at h
  obtain ⟨n, t1, _, h⟩ := bindR_ok h
  obtain ⟨_, t2, h2, h⟩ := bindR_ok h
  have := (chk_is h2).1
  have := (take_is h).2
  omega
theorem calls_num {F : FuncId} {args : Array Value} {w : World} {g n c k : Nat} {A : Option Addr} {bs t : Bs} {x : Nat} (h : Calls Try.prog F args w fun e w' => ∃ v, e = .returned v ∧ VNum w w' x v ∧ ∃ k', k ≤ k' ∧ t = bs.drop k' ∧ Rdr w' g A n c k' bs ∧ But g w w') :
    Calls Try.prog F args w fun e w' => e = .returned (.int .i64 (x : Int)) ∧ ∃ k', k ≤ k' ∧ t = bs.drop k' ∧ Rdr w' g A n c k' bs ∧ But g w w' :=
  h.mono fun e w' ⟨v, h1, h2, h3⟩ => by
    have h2' : v = _ := h2
    subst h2'
    exact ⟨h1, h3⟩
theorem calls_sig {F : FuncId} {args : Array Value} {w : World} {g n c k : Nat} {A : Option Addr} {bs t : Bs} {x : Nat} (h : Calls Try.prog F args w fun e w' => ∃ v, e = .returned v ∧ VSig w w' x v ∧ ∃ k', k ≤ k' ∧ t = bs.drop k' ∧ Rdr w' g A n c k' bs ∧ But g w w') :
    Calls Try.prog F args w fun e w' => e = .returned (.int .i64 (unsignN x)) ∧ ∃ k', k ≤ k' ∧ t = bs.drop k' ∧ Rdr w' g A n c k' bs ∧ But g w w' :=
  h.mono fun e w' ⟨v, h1, h2, h3⟩ => by
    have h2' : v = _ := h2
    subst h2'
    exact ⟨h1, h3⟩
theorem calls_text {F : FuncId} {args : Array Value} {w : World} {g n c k : Nat} {A : Option Addr} {bs t : Bs} {x : Bs} (h : Calls Try.prog F args w fun e w' => ∃ v, e = .returned v ∧ VText w w' x v ∧ ∃ k', k ≤ k' ∧ t = bs.drop k' ∧ Rdr w' g A n c k' bs ∧ But g w w') :
    Calls Try.prog F args w fun e w' => e = .returned (.string ⟨x.toArray⟩) ∧ ∃ k', k ≤ k' ∧ t = bs.drop k' ∧ Rdr w' g A n c k' bs ∧ But g w w' :=
  h.mono fun e w' ⟨v, h1, h2, h3⟩ => by
    have h2' : v = _ := h2
    subst h2'
    exact ⟨h1, h3⟩
theorem calls_flag {F : FuncId} {args : Array Value} {w : World} {g n c k : Nat} {A : Option Addr} {bs t : Bs} {x : Bool} (h : Calls Try.prog F args w fun e w' => ∃ v, e = .returned v ∧ VBool w w' x v ∧ ∃ k', k ≤ k' ∧ t = bs.drop k' ∧ Rdr w' g A n c k' bs ∧ But g w w') :
    Calls Try.prog F args w fun e w' => e = .returned (.bool x) ∧ ∃ k', k ≤ k' ∧ t = bs.drop k' ∧ Rdr w' g A n c k' bs ∧ But g w w' :=
  h.mono fun e w' ⟨v, h1, h2, h3⟩ => by
    have h2' : v = _ := h2
    subst h2'
    exact ⟨h1, h3⟩

set_option maxRecDepth 100000 in
set_option maxHeartbeats 16000000 in
theorem spec_any (HS : SpecOk) (g : Nat) (A : Option Addr) (n c k : Nat) (bs : Bs) (w : World) (h : Rdr w g A n c k bs) :
    Calls Try.prog 51 #[.pointer (some ⟨g, 0, none⟩)] w (RdP VSpec g A n c k bs (bodyQ (bs.drop k)) w) := by
  have H0 := Lib.hid h
  clear h
  obtain ⟨R, hR⟩ : ∃ R, bodyQ (bs.drop k) = R := ⟨_, rfl⟩
  have HQ0 : Hid (bodyQ (bs.drop k) = R) := Lib.hid hR
  rw [hR]
  clear hR
  have S0 : Hid (St w g w.heap.size (w.heap.size + 1) A n c k bs sp0 ((w.alloc (spO sp0)).alloc (spO sp0))) := Lib.hid (by
    have hb : Below w.heap.size w ((w.alloc (spO sp0)).alloc (spO sp0)) := ((Below.refl _ _).alloc (Nat.le_refl _) _).alloc (by simp) _
    exact ⟨H0.out.next hb, (box_new w sp0).alloc _, by
      have := box_new (w.alloc (spO sp0)) sp0
      rwa [show (w.alloc (spO sp0)).heap.size = w.heap.size + 1 from by simp] at this, But.of g hb, Nat.le_refl _, H0.out.lt, by omega⟩)
  go_enter Try.func51, Try.ntmps51
  rcases r0 : numQ (bs.drop k) with er | ⟨x0, t0⟩
  · have HE : Hid (R = .error er) := Lib.hid (by rw [← HQ0.out]; exact bindR_err r0)
    have HC := Lib.hid (rdp_err (number_any g A n c k bs _ S0.out.rdr) r0)
    clear r0
    go_wp2_with fail
    refine HC.out.mono ?_
    rintro e W ⟨rfl, hb⟩
    have HB := Lib.hid hb
    clear hb
    go_wp2_with fail
    exact ⟨rfl, rdp_err_mk HE.out (S0.out.but.trans HB.out)⟩
  · have HC0 := Lib.hid (calls_num (rdp_ok (number_any g A n c k bs _ S0.out.rdr) r0))
    have b0 := Lib.hid (num_backQ r0).2
    have E0 : Hid (bodyQ (bs.drop k) = q1 x0 t0) := Lib.hid (bindR_at r0)
    clear r0
    go_wp2_with fail
    refine HC0.out.mono ?_
    rintro e W1 ⟨rfl, k1, hk, ht, hrd, hb⟩
    have L0 := Lib.hid hk
    have HQ1 : Hid (q1 x0 (bs.drop k1) = R) := Lib.hid (by rw [← ht, ← E0.out]; exact HQ0.out)
    have T1 := Lib.hid (S0.out.call hrd hb)
    clear hb hrd ht hk HC0 HQ0 S0 E0
    have fz := T1.out.box3.frozen 0
    have fc := T1.out.box3.c0
    dsimp only [sp0] at fc
    have S1 : Hid (St w g w.heap.size (w.heap.size + 1) A n c k1 bs ⟨(x0 : Int), 0, 0, ⟨#[]⟩, false, 0, 0⟩ (W1.setCell ⟨w.heap.size + 1, 0, none⟩ (.int .i64 (x0 : Int)))) := Lib.hid (T1.out.put 0 _ rfl)
    go_wp2_with fail
    clear fz fc
    rcases r1 : numQ (bs.drop k1) with er | ⟨x1, t1⟩
    · have HE : Hid (R = .error er) := Lib.hid (by rw [← HQ1.out]; exact bindR_err r1)
      have HC := Lib.hid (rdp_err (number_any g A n c k1 bs _ S1.out.rdr) r1)
      clear r1
      go_wp2_with fail
      refine HC.out.mono ?_
      rintro e W ⟨rfl, hb⟩
      have HB := Lib.hid hb
      clear hb
      go_wp2_with fail
      exact ⟨rfl, rdp_err_mk HE.out (S1.out.but.trans HB.out)⟩
    · have HC1 := Lib.hid (calls_num (rdp_ok (number_any g A n c k1 bs _ S1.out.rdr) r1))
      have b1 := Lib.hid (num_backQ r1).2
      have E1 : Hid (q1 x0 (bs.drop k1) = q2 x0 x1 t1) := Lib.hid (bindR_at r1)
      clear r1
      go_wp2_with fail
      refine HC1.out.mono ?_
      rintro e W2 ⟨rfl, k2, hk, ht, hrd, hb⟩
      have L1 := Lib.hid hk
      have HQ2 : Hid (q2 x0 x1 (bs.drop k2) = R) := Lib.hid (by rw [← ht, ← E1.out]; exact HQ1.out)
      have T2 := Lib.hid (S1.out.call hrd hb)
      clear hb hrd ht hk HC1 HQ1 S1 E1
      have fz := T2.out.box3.frozen 1
      have fc := T2.out.box3.c1
      dsimp only [sp0] at fc
      have S2 : Hid (St w g w.heap.size (w.heap.size + 1) A n c k2 bs ⟨(x0 : Int), (x1 : Int), 0, ⟨#[]⟩, false, 0, 0⟩ (W2.setCell ⟨w.heap.size + 1, 1, none⟩ (.int .i64 (x1 : Int)))) := Lib.hid (T2.out.put 1 _ rfl)
      go_wp2_with fail
      clear fz fc
      rcases r2 : numQ (bs.drop k2) with er | ⟨x2, t2⟩
      · have HE : Hid (R = .error er) := Lib.hid (by rw [← HQ2.out]; exact bindR_err r2)
        have HC := Lib.hid (rdp_err (number_any g A n c k2 bs _ S2.out.rdr) r2)
        clear r2
        go_wp2_with fail
        refine HC.out.mono ?_
        rintro e W ⟨rfl, hb⟩
        have HB := Lib.hid hb
        clear hb
        go_wp2_with fail
        exact ⟨rfl, rdp_err_mk HE.out (S2.out.but.trans HB.out)⟩
      · have HC2 := Lib.hid (calls_num (rdp_ok (number_any g A n c k2 bs _ S2.out.rdr) r2))
        have b2 := Lib.hid (num_backQ r2).2
        have E2 : Hid (q2 x0 x1 (bs.drop k2) = q3 x0 x1 x2 t2) := Lib.hid (bindR_at r2)
        clear r2
        go_wp2_with fail
        refine HC2.out.mono ?_
        rintro e W3 ⟨rfl, k3, hk, ht, hrd, hb⟩
        have L2 := Lib.hid hk
        have HQ3 : Hid (q3 x0 x1 x2 (bs.drop k3) = R) := Lib.hid (by rw [← ht, ← E2.out]; exact HQ2.out)
        have T3 := Lib.hid (S2.out.call hrd hb)
        clear hb hrd ht hk HC2 HQ2 S2 E2
        have fz := T3.out.box3.frozen 2
        have fc := T3.out.box3.c2
        dsimp only [sp0] at fc
        have S3 : Hid (St w g w.heap.size (w.heap.size + 1) A n c k3 bs ⟨(x0 : Int), (x1 : Int), (x2 : Int), ⟨#[]⟩, false, 0, 0⟩ (W3.setCell ⟨w.heap.size + 1, 2, none⟩ (.int .i64 (x2 : Int)))) := Lib.hid (T3.out.put 2 _ rfl)
        go_wp2_with fail
        clear fz fc
        rcases r3 : textQ (bs.drop k3) with er | ⟨x3, t3⟩
        · have HE : Hid (R = .error er) := Lib.hid (by rw [← HQ3.out]; exact bindR_err r3)
          have HC := Lib.hid (rdp_err (text_any g A n c k3 bs _ S3.out.rdr) r3)
          clear r3
          go_wp2_with fail
          refine HC.out.mono ?_
          rintro e W ⟨rfl, hb⟩
          have HB := Lib.hid hb
          clear hb
          go_wp2_with fail
          exact ⟨rfl, rdp_err_mk HE.out (S3.out.but.trans HB.out)⟩
        · have HC3 := Lib.hid (calls_text (rdp_ok (text_any g A n c k3 bs _ S3.out.rdr) r3))
          have b3 := Lib.hid (textQ_is r3)
          have E3 : Hid (q3 x0 x1 x2 (bs.drop k3) = q4 x0 x1 x2 x3 t3) := Lib.hid (bindR_at r3)
          clear r3
          go_wp2_with fail
          refine HC3.out.mono ?_
          rintro e W4 ⟨rfl, k4, hk, ht, hrd, hb⟩
          have L3 := Lib.hid hk
          have HQ4 : Hid (q4 x0 x1 x2 x3 (bs.drop k4) = R) := Lib.hid (by rw [← ht, ← E3.out]; exact HQ3.out)
          have T4 := Lib.hid (S3.out.call hrd hb)
          clear hb hrd ht hk HC3 HQ3 S3 E3
          have fz := T4.out.box3.frozen 3
          have fc := T4.out.box3.c3
          dsimp only [sp0] at fc
          have S4 : Hid (St w g w.heap.size (w.heap.size + 1) A n c k4 bs ⟨(x0 : Int), (x1 : Int), (x2 : Int), ⟨x3.toArray⟩, false, 0, 0⟩ (W4.setCell ⟨w.heap.size + 1, 3, none⟩ (.string ⟨x3.toArray⟩))) := Lib.hid (T4.out.put 3 _ rfl)
          go_wp2_with fail
          clear fz fc
          rcases r4 : flagQ (bs.drop k4) with er | ⟨x4, t4⟩
          · have HE : Hid (R = .error er) := Lib.hid (by rw [← HQ4.out]; exact bindR_err r4)
            have HC := Lib.hid (rdp_err (flag_any g A n c k4 bs _ S4.out.rdr) r4)
            clear r4
            go_wp2_with fail
            refine HC.out.mono ?_
            rintro e W ⟨rfl, hb⟩
            have HB := Lib.hid hb
            clear hb
            go_wp2_with fail
            exact ⟨rfl, rdp_err_mk HE.out (S4.out.but.trans HB.out)⟩
          · have HC4 := Lib.hid (calls_flag (rdp_ok (flag_any g A n c k4 bs _ S4.out.rdr) r4))
            have E4 : Hid (q4 x0 x1 x2 x3 (bs.drop k4) = q5 x0 x1 x2 x3 x4 t4) := Lib.hid (bindR_at r4)
            clear r4
            go_wp2_with fail
            refine HC4.out.mono ?_
            rintro e W5 ⟨rfl, k5, hk, ht, hrd, hb⟩
            have L4 := Lib.hid hk
            have HQ5 : Hid (q5 x0 x1 x2 x3 x4 (bs.drop k5) = R) := Lib.hid (by rw [← ht, ← E4.out]; exact HQ4.out)
            have T5 := Lib.hid (S4.out.call hrd hb)
            clear hb hrd ht hk HC4 HQ4 S4 E4
            have fz := T5.out.box3.frozen 4
            have fc := T5.out.box3.c4
            dsimp only [sp0] at fc
            have S5 : Hid (St w g w.heap.size (w.heap.size + 1) A n c k5 bs ⟨(x0 : Int), (x1 : Int), (x2 : Int), ⟨x3.toArray⟩, x4, 0, 0⟩ (W5.setCell ⟨w.heap.size + 1, 4, none⟩ (.bool x4))) := Lib.hid (T5.out.put 4 _ rfl)
            go_wp2_with fail
            clear fz fc
            rcases r5 : numQ (bs.drop k5) with er | ⟨x5, t5⟩
            · have HE : Hid (R = .error er) := Lib.hid (by rw [← HQ5.out]; exact bindR_err r5)
              have HC := Lib.hid (rdp_err (number_any g A n c k5 bs _ S5.out.rdr) r5)
              clear r5
              go_wp2_with fail
              refine HC.out.mono ?_
              rintro e W ⟨rfl, hb⟩
              have HB := Lib.hid hb
              clear hb
              go_wp2_with fail
              exact ⟨rfl, rdp_err_mk HE.out (S5.out.but.trans HB.out)⟩
            · have HC5 := Lib.hid (calls_num (rdp_ok (number_any g A n c k5 bs _ S5.out.rdr) r5))
              have b5 := Lib.hid (num_backQ r5).2
              have E5 : Hid (q5 x0 x1 x2 x3 x4 (bs.drop k5) = q6 x0 x1 x2 x3 x4 x5 t5) := Lib.hid (bindR_at r5)
              clear r5
              go_wp2_with fail
              refine HC5.out.mono ?_
              rintro e W6 ⟨rfl, k6, hk, ht, hrd, hb⟩
              have L5 := Lib.hid hk
              have HQ6 : Hid (q6 x0 x1 x2 x3 x4 x5 (bs.drop k6) = R) := Lib.hid (by rw [← ht, ← E5.out]; exact HQ5.out)
              have T6 := Lib.hid (S5.out.call hrd hb)
              clear hb hrd ht hk HC5 HQ5 S5 E5
              have fz := T6.out.box3.frozen 5
              have fc := T6.out.box3.c5
              dsimp only [sp0] at fc
              have S6 : Hid (St w g w.heap.size (w.heap.size + 1) A n c k6 bs ⟨(x0 : Int), (x1 : Int), (x2 : Int), ⟨x3.toArray⟩, x4, (x5 : Int), 0⟩ (W6.setCell ⟨w.heap.size + 1, 5, none⟩ (.int .i64 (x5 : Int)))) := Lib.hid (T6.out.put 5 _ rfl)
              go_wp2_with fail
              clear fz fc
              rcases r6 : numQ (bs.drop k6) with er | ⟨x6, t6⟩
              · have HE : Hid (R = .error er) := Lib.hid (by rw [← HQ6.out]; exact bindR_err r6)
                have HC := Lib.hid (rdp_err (signed_any g A n c k6 bs _ S6.out.rdr) r6)
                clear r6
                go_wp2_with fail
                refine HC.out.mono ?_
                rintro e W ⟨rfl, hb⟩
                have HB := Lib.hid hb
                clear hb
                go_wp2_with fail
                exact ⟨rfl, rdp_err_mk HE.out (S6.out.but.trans HB.out)⟩
              · have HC6 := Lib.hid (calls_sig (rdp_ok (signed_any g A n c k6 bs _ S6.out.rdr) r6))
                have b6 := Lib.hid (num_backQ r6).2
                have E6 : Hid (q6 x0 x1 x2 x3 x4 x5 (bs.drop k6) = q7 x0 x1 x2 x3 x4 x5 x6 t6) := Lib.hid (bindR_at r6)
                clear r6
                go_wp2_with fail
                refine HC6.out.mono ?_
                rintro e W7 ⟨rfl, k7, hk, ht, hrd, hb⟩
                have L6 := Lib.hid hk
                have HQ7 : Hid (q7 x0 x1 x2 x3 x4 x5 x6 (bs.drop k7) = R) := Lib.hid (by rw [← ht, ← E6.out]; exact HQ6.out)
                have T7 := Lib.hid (S6.out.call hrd hb)
                clear hb hrd ht hk HC6 HQ6 S6 E6
                have fz := T7.out.box3.frozen 6
                have fc := T7.out.box3.c6
                dsimp only [sp0] at fc
                have S7 : Hid (St w g w.heap.size (w.heap.size + 1) A n c k7 bs ⟨(x0 : Int), (x1 : Int), (x2 : Int), ⟨x3.toArray⟩, x4, (x5 : Int), (unsignN x6)⟩ (W7.setCell ⟨w.heap.size + 1, 6, none⟩ (.int .i64 (unsignN x6)))) := Lib.hid (T7.out.put 6 _ rfl)
                have SA : Hid (SAsk ⟨(x0 : Int), (x1 : Int), (x2 : Int), ⟨x3.toArray⟩, x4, (x5 : Int), (unsignN x6)⟩) := Lib.hid (by
                  have := b0.out
                  have := b1.out
                  have := b2.out
                  have := b5.out
                  have h6 := b6.out
                  have h3 : ((⟨x3.toArray⟩ : ByteArray)).size = x3.length := by simp [ByteArray.size]
                  have h4 := b3.out
                  refine ⟨by unfold I64; dsimp only; omega, by unfold I64; dsimp only; omega, by unfold I64; dsimp only; omega, by dsimp only; rw [h3]; unfold maxLen; omega, by unfold I64; dsimp only; omega, ?_⟩
                  show I64 (unsignN x6)
                  unfold I64 unsignN
                  split <;> omega)
                have hpath : Hid (k ≤ k7) := Lib.hid (Nat.le_trans L0.out (Nat.le_trans L1.out (Nat.le_trans L2.out (Nat.le_trans L3.out (Nat.le_trans L4.out (Nat.le_trans L5.out L6.out))))))
                cases hrs : rightS ⟨(x0 : Int), (x1 : Int), (x2 : Int), ⟨x3.toArray⟩, x4, (x5 : Int), (unsignN x6)⟩ with
                | false =>
                  have HE : Hid (R = .error 3) := Lib.hid (by
                    rw [← HQ7.out]
                    unfold q7
                    exact bindR_err (by unfold chkR; rw [hrs]; rfl))
                  have HCR : Hid (Calls Try.prog 15 #[spV ⟨(x0 : Int), (x1 : Int), (x2 : Int), ⟨x3.toArray⟩, x4, (x5 : Int), (unsignN x6)⟩] (W7.setCell ⟨w.heap.size + 1, 6, none⟩ (.int .i64 (unsignN x6))) fun e w' => e = .returned (.bool false) ∧ Below (W7.setCell ⟨w.heap.size + 1, 6, none⟩ (.int .i64 (unsignN x6))).heap.size (W7.setCell ⟨w.heap.size + 1, 6, none⟩ (.int .i64 (unsignN x6))) w') := Lib.hid (by
                    have := HS.right _ _ SA.out S7.out.rdr.glob
                    rwa [hrs] at this)
                  clear hrs
                  go_wp2_with (first | (refine wpList_load_spec rfl _ rfl S7.out.box3 rfl ?_))
                  refine HCR.out.mono ?_
                  rintro e W8 ⟨rfl, hb⟩
                  have S8 := Lib.hid (S7.out.below hb)
                  clear hb
                  go_wp2_with fail
                  refine (need_no rfl).mono ?_
                  rintro e W9 ⟨rfl, rfl⟩
                  go_wp2_with fail
                  exact ⟨rfl, rdp_err_mk HE.out S8.out.but⟩
                | true =>
                  have HE : Hid (R = .ok (⟨(x0 : Int), (x1 : Int), (x2 : Int), ⟨x3.toArray⟩, x4, (x5 : Int), (unsignN x6)⟩, bs.drop k7)) := Lib.hid (by
                    rw [← HQ7.out]
                    unfold q7
                    rw [bindR_at (chk_ok hrs)]
                    rfl)
                  have HCR : Hid (Calls Try.prog 15 #[spV ⟨(x0 : Int), (x1 : Int), (x2 : Int), ⟨x3.toArray⟩, x4, (x5 : Int), (unsignN x6)⟩] (W7.setCell ⟨w.heap.size + 1, 6, none⟩ (.int .i64 (unsignN x6))) fun e w' => e = .returned (.bool true) ∧ Below (W7.setCell ⟨w.heap.size + 1, 6, none⟩ (.int .i64 (unsignN x6))).heap.size (W7.setCell ⟨w.heap.size + 1, 6, none⟩ (.int .i64 (unsignN x6))) w') := Lib.hid (by
                    have := HS.right _ _ SA.out S7.out.rdr.glob
                    rwa [hrs] at this)
                  clear hrs
                  go_wp2_with (first | (refine wpList_load_spec rfl _ rfl S7.out.box3 rfl ?_))
                  refine HCR.out.mono ?_
                  rintro e W8 ⟨rfl, hb⟩
                  have S8 := Lib.hid (S7.out.below hb)
                  clear hb
                  go_wp2_with fail
                  refine (need_yes rfl).mono ?_
                  rintro e W9 ⟨rfl, rfl⟩
                  obtain ⟨ff, a0, a1, a2, a3, a4, a5, a6⟩ := cells7 S8.out.box2.at'
                  obtain ⟨gf, s0, s1, s2, s3, s4, s5, s6⟩ := cells7 S8.out.box3.at'
                  dsimp only [sp0] at a0 a1 a2 a3 a4 a5 a6 s0 s1 s2 s3 s4 s5 s6
                  go_wp2_with fail
                  refine bodyPost_ret (v := spV ⟨(x0 : Int), (x1 : Int), (x2 : Int), ⟨x3.toArray⟩, x4, (x5 : Int), (unsignN x6)⟩) (by simp [results, Try.results51, go_sem, spV, a0, a1, a2, a3, a4, a5, a6]) rfl ?_
                  have h7 := S8.out.rdr
                  have hl := S8.out.lt
                  exact rdp_ok_mk HE.out rfl hpath.out rfl (((((((h7.beyond hl _ _).beyond hl _ _).beyond hl _ _).beyond hl _ _).beyond hl _ _).beyond hl _ _).beyond hl _ _) (((((((S8.out.but.beyond (Nat.le_refl _) _ _).beyond (Nat.le_refl _) _ _).beyond (Nat.le_refl _) _ _).beyond (Nat.le_refl _) _ _).beyond (Nat.le_refl _) _ _).beyond (Nat.le_refl _) _ _).beyond (Nat.le_refl _) _ _)

end Go.Proofs.Ytlpogkcfjbabaaa
