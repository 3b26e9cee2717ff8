/- The program's reader: numbers with a sign, flags, texts. -/
import Derived.Test.YtlpogkcfjbabaaaMg09
namespace Go.Proofs.Ytlpogkcfjbabaaa
open Go.RowKit

section
variable {α β γ : Type}
theorem bindR_assoc (p : Rd α) (f : α → Rd β) (q : β → Rd γ) : bindR (bindR p f) q = bindR p fun x => bindR (f x) q := by
  funext b
  unfold bindR
  cases p b with
  | error e => rfl
  | ok r => rfl
end
def flagQ : Rd Bool := bindR byteR fun o => bindR (chkR (o.toNat ≤ 1)) fun _ => retR (o == 1)
def textQ : Rd Bs := bindR numQ fun n => bindR (chkR (n ≤ 16)) fun _ => takeR n
def VSig (_ _ : World) (x : Nat) (v : Value) : Prop := v = .int .i64 (unsignN x)
def VBool (_ _ : World) (x : Bool) (v : Value) : Prop := v = .bool x
def VText (_ _ : World) (x : Bs) (v : Value) : Prop := v = .string ⟨x.toArray⟩

/-! an owned row beside a block that is written -/
def trunc (s : Nat) (w : World) : World := { w with heap := w.heap.extract 0 s }
theorem trunc_size {s : Nat} {w : World} (h : s ≤ w.heap.size) : (trunc s w).heap.size = s := by
  show (w.heap.extract 0 s).size = s
  rw [Array.size_extract]; omega
theorem below_trunc {s : Nat} {w : World} (h : s ≤ w.heap.size) : Below (trunc s w).heap.size (trunc s w) w := by
  refine ⟨rfl, rfl, rfl, by rw [trunc_size h]; exact h, fun b hb => ?_⟩
  rw [trunc_size h] at hb
  show w.heap[b]? = (w.heap.extract 0 s)[b]?
  rw [Array.getElem?_extract]
  simp only [Nat.zero_add]
  rw [if_pos (by omega)]
/-- a row of one's own, in blocks from s on -/
structure OG {α : Type} (E : Elem α) (C : Nat) (t : TypeId) (s : Nat) (v : Value) (xs : List α) (wr : World) : Prop where
  le : s ≤ wr.heap.size
  on : ON E C t (trunc s wr) v xs wr
/-- an element that reads no block below s -/
def Above {α : Type} (s : Nat) (E : Elem α) : Prop := ∀ w ok x vs, E w ok x vs → E w (fun b => ok b ∧ s ≤ b) x vs
section
variable {α : Type} {E : Elem α} {C : Nat} {t : TypeId} {s g : Nat} {v : Value} {xs : List α} {w w1 wr w' : World}
theorem OG.of (h : ON E C t w v xs wr) (hs : w.heap.size = s) : OG E C t s v xs wr := by
  have hle : s ≤ wr.heap.size := by have := h.below.size; omega
  obtain ⟨fl, h1, h2, h3⟩ := h
  exact ⟨hle, fl, by rw [trunc_size hle]; rw [← hs]; exact h1, below_trunc hle, h3⟩
theorem OG.nil (h : s ≤ w.heap.size) : OG E C t s (.slice none 0 0) [] w :=
  ⟨h, [], by simpa using World.ownsRow_nil w _ t C, below_trunc h, fun j x h => by simp at h⟩
theorem OG.but (hE : Steady E) (hA : Above s E) (h : OG E C t s v xs wr) (hb : But g wr w1) (hg : g < s) : OG E C t s v xs w1 := by
  have hle : s ≤ w1.heap.size := Nat.le_trans h.le hb.size
  obtain ⟨fl, h1, _, h3⟩ := h.on
  rw [trunc_size h.le] at h1
  refine ⟨hle, fl, ?_, below_trunc hle, fun j x hx => ?_⟩
  · rw [trunc_size hle]
    refine ⟨h1.1, h1.2.imp id ?_⟩
    rintro ⟨b, cap, cur, e1, e2, e3, e4⟩
    exact ⟨b, cap, cur, e1, e2, (hb.block b (Array.getElem?_eq_some_iff.1 e3).1 (by omega)).trans e3, e4⟩
  · exact hE.keep (hA _ _ _ _ (h3 j x hx)) (fun b hb' => hb.block b hb'.1.1 (by omega)) (fun b hb' => ⟨Nat.lt_of_lt_of_le hb'.1.1 hb.size, hb'.1.2⟩)
theorem OG.next (hE : Steady E) (h : OG E C t s v xs wr) (hb : Below wr.heap.size wr w1) : OG E C t s v xs w1 := OG.of (h.on.next hE hb) (trunc_size h.le)
/-- 'out = append(out, x)' of such a row: x has been laid into a block of its own -/
theorem wpList_append_OG {P : Program} {ops : Array Oper} {rest : List Oper} {o : Oper} {a : Act} {Q : Exit → Act → World → Prop} (hgd : o.guard = none) (sx x : Operand) (ty : TypeId)
    (ho : o.op = .call { callee := .builtin .append, args := #[sx, x], argTypes := #[ty, ty] })
    (hE : Steady E) (h : OG E C t s v xs wr) (i : TypeInfo) (z : Value) (bytes : Nat) (ht : P.underlying ty = some (.slice t)) (hi : P.info? t = some i) (hz : i.zero = some z)
    (hsize : i.size = C) (hby : i.bytes = bytes) (hzs : z.cells.size = C) (hsz : 0 < C)
    (hs : a.eval sx = v) (x0 : α) (cs : Array Value) (hx : a.eval x = .slice (some ⟨wr.heap.size, 0, none⟩) 1 1) (hl : cs.toList.length = C) (h1 : ∀ u ∈ cs.toList, u.oneCell' = true)
    (he : E wr (fun b => b < wr.heap.size ∧ v.ownBlock ≠ some b) x0 cs.toList)
    (h63 : xs.length + 1 ≤ maxLen) (hbytes : (xs.length + 1) * bytes ≤ 140737488355328)
    (hk : ∀ v' w', OG E C t s v' (xs ++ [x0]) w' → Below s wr w' → wpList P ops Q rest (a.put o.dst v') w') : wpList P ops Q (o :: rest) a (wr.alloc (.cells cs t)) := by
  have hl' := h.le
  have hsz2 := trunc_size hl'
  obtain ⟨fl, h2, _, h4⟩ := id h.on
  refine wpList_append_lies (wr.alloc (.cells cs t)) hgd sx x ty ho (trunc s wr).heap.size t i z C bytes ht hi hz hsize hby hzs hsz v xs.length fl hs (h2.alloc _) ⟨wr.heap.size, 0, none⟩ 1 1 cs.toList hx (by rw [hl]; omega)
    (World.news_of_block (cs := cs) (t := t) (fr := (0, 0)) (heap_alloc_new wr _)) h1 (by omega) h63 hbytes (by simp; omega) _ rfl ?_
  intro b cap w2 hown' hgrow hat hlt
  have hn := h.on.snoc hE h2 he hl h4 hown' hgrow (hat.imp id (fun e => by rw [e]; simp))
  refine hk _ _ (OG.of hn hsz2) ⟨hgrow.os, hgrow.tape, hgrow.output, by have := hgrow.size; simp at this; omega, fun b hbs => ?_⟩
  have := hn.below.block b (by rw [hsz2]; exact hbs)
  rw [this]
  exact ((below_trunc hl').block b (by rw [hsz2]; exact hbs)).symm
theorem But.low (h : But g w wr) (hb : Below s wr w') (hs : w.heap.size ≤ s) : But g w w' :=
  ⟨hb.os.trans h.os, hb.tape.trans h.tape, hb.output.trans h.output, Nat.le_trans h.size hb.size, fun b h1 h2 => (hb.block b (by omega)).trans (h.block b h1 h2)⟩
theorem Rdr.low {A : Option Addr} {n c k : Nat} {bs : Bs} (h : Rdr wr g A n c k bs) (hb : Below s wr w') (hg : g < s) : Rdr w' g A n c k bs :=
  ⟨(hb.block g hg).trans h.at', h.bytes.below (hb.mono (Nat.le_of_lt hg)), h.le, h.few, by
    obtain ⟨W, h1, h2, h3⟩ := h.from'
    exact ⟨W, h1, h2, h3.trans (hb.mono (by omega))⟩⟩
end
theorem above_eb (s : Nat) : Above s EB := fun _ _ _ _ h => h
theorem above_ei (s : Nat) : Above s EI := fun _ _ _ _ h => h

set_option maxRecDepth 100000 in
set_option maxHeartbeats 4000000 in
theorem signed_any (g : Nat) (A : Option Addr) (n c k : Nat) (bs : Bs) (w : World) (h : Rdr w g A n c k bs) :
    Calls Try.prog 62 #[.pointer (some ⟨g, 0, none⟩)] w (RdP VSig g A n c k bs (numQ (bs.drop k)) w) := by
  have HN := Lib.hid (number_any g A n c k bs w h)
  clear h
  rcases hr : numQ (bs.drop k) with er | ⟨x, t⟩
  · have HC := Lib.hid (rdp_err HN.out hr)
    clear HN hr
    go_enter Try.func62, Try.ntmps62
    go_wp2_with fail
    refine HC.out.mono ?_
    rintro e w1 ⟨rfl, hb⟩
    have HB := Lib.hid hb
    clear hb
    go_wp2_with fail
    exact ⟨rfl, rdp_err_mk rfl HB.out⟩
  · have HC := Lib.hid (rdp_ok HN.out hr)
    have hx := (num_backQ hr).2
    clear HN hr
    by_cases hp : x % 2 = 1
    · have HU : Hid (unsignN x = -((x / 2 : Nat) : Int) - 1) := Lib.hid (by unfold unsignN; rw [if_pos hp]; omega)
      have hd : (((x : Int) % 2) == 1) = true := by simp; omega
      go_enter Try.func62, Try.ntmps62
      go_wp2_with fail
      refine HC.out.mono ?_
      rintro e w1 ⟨v, rfl, rfl, k', hk, ht, hrd, hb⟩
      have HB := Lib.hid hb
      have HRD := Lib.hid hrd
      have HT := Lib.hid ht
      clear hb hrd ht
      go_wp2_with fail
      go_ret
      exact rdp_ok_mk rfl (by show Value.int _ _ = _; rw [HU.out]; rfl) hk HT.out HRD.out HB.out
    · have HU : Hid (unsignN x = ((x / 2 : Nat) : Int)) := Lib.hid (by unfold unsignN; rw [if_neg hp])
      have hd : (((x : Int) % 2) == 1) = false := by simp; omega
      go_enter Try.func62, Try.ntmps62
      go_wp2_with fail
      refine HC.out.mono ?_
      rintro e w1 ⟨v, rfl, rfl, k', hk, ht, hrd, hb⟩
      have HB := Lib.hid hb
      have HRD := Lib.hid hrd
      have HT := Lib.hid ht
      clear hb hrd ht
      go_wp2_with fail
      go_ret
      exact rdp_ok_mk rfl (by show Value.int _ _ = _; rw [HU.out]; rfl) hk HT.out HRD.out HB.out

set_option maxRecDepth 100000 in
set_option maxHeartbeats 4000000 in
theorem flag_any (g : Nat) (A : Option Addr) (n c k : Nat) (bs : Bs) (w : World) (h : Rdr w g A n c k bs) :
    Calls Try.prog 61 #[.pointer (some ⟨g, 0, none⟩)] w (RdP VBool g A n c k bs (flagQ (bs.drop k)) w) := by
  have HN := Lib.hid (next_any g A n c k bs w h)
  clear h
  rcases hr : byteR (bs.drop k) with er | ⟨x, t⟩
  · have HC := Lib.hid (rdp_err HN.out hr)
    have hq : Hid (flagQ (bs.drop k) = .error er) := Lib.hid (bindR_err hr)
    clear HN hr
    go_enter Try.func61, Try.ntmps61
    go_wp2_with fail
    refine HC.out.mono ?_
    rintro e w1 ⟨rfl, hb⟩
    have HB := Lib.hid hb
    clear hb
    go_wp2_with fail
    exact ⟨rfl, rdp_err_mk hq.out HB.out⟩
  · have HC := Lib.hid (rdp_ok HN.out hr)
    have hq : Hid (flagQ (bs.drop k) = bindR (chkR (x.toNat ≤ 1)) (fun _ => retR (x == 1)) t) := Lib.hid (bindR_at hr)
    clear HN hr
    obtain ⟨y, hy⟩ : ∃ y, x.toNat = y := ⟨_, rfl⟩
    have hxy : Hid ((x == 1) = ((y : Int) == 1)) := Lib.hid (by
      rw [Bool.eq_iff_iff]
      simp only [beq_iff_eq]
      constructor
      · intro e; rw [← hy, e]; rfl
      · intro e
        have : x.toNat = 1 := by omega
        rw [← toNat_ofNat8 x, this]; rfl)
    have hC2 : Hid (Calls Try.prog 50 #[.pointer (some ⟨g, 0, none⟩)] w fun e w' => e = .returned (.int .u8 (y : Int)) ∧ ∃ k', k ≤ k' ∧ t = bs.drop k' ∧ Rdr w' g A n c k' bs ∧ But g w w') := Lib.hid (HC.out.mono fun e w' ⟨v, h1, h2, h3⟩ => by
      have h2' : v = .int .u8 (x.toNat : Int) := h2
      subst h2'
      rw [hy] at h1
      exact ⟨h1, h3⟩)
    rw [hy] at hq
    clear hy HC
    by_cases hle : y ≤ 1
    · have hq2 : Hid (flagQ (bs.drop k) = .ok (((y : Int) == 1), t)) := Lib.hid (by rw [hq.out, bindR_at (chk_ok hle), ← hxy.out]; rfl)
      have hd : decide ((y : Int) ≤ 1) = true := by simp; omega
      clear hq hle hxy
      go_enter Try.func61, Try.ntmps61
      go_wp2_with fail
      refine hC2.out.mono ?_
      rintro e w1 ⟨rfl, k', hk, ht, hrd, hb⟩
      have HB := Lib.hid hb
      have HRD := Lib.hid hrd
      have HT := Lib.hid ht
      clear hb hrd ht
      go_wp2_with fail
      refine (need_yes rfl).mono ?_
      rintro e w2 ⟨rfl, rfl⟩
      go_wp2_with fail
      go_ret
      exact rdp_ok_mk hq2.out rfl hk HT.out HRD.out HB.out
    · have hq2 : Hid (flagQ (bs.drop k) = .error 3) := Lib.hid (by rw [hq.out]; exact bindR_err (by unfold chkR; rw [if_neg hle]))
      have hd : decide ((y : Int) ≤ 1) = false := by simp; omega
      clear hq hle hxy
      go_enter Try.func61, Try.ntmps61
      go_wp2_with fail
      refine hC2.out.mono ?_
      rintro e w1 ⟨rfl, k', hk, ht, hrd, hb⟩
      have HB := Lib.hid hb
      clear hb hrd ht
      go_wp2_with fail
      refine (need_no rfl).mono ?_
      rintro e w2 ⟨rfl, rfl⟩
      go_wp2_with fail
      exact ⟨rfl, rdp_err_mk hq2.out HB.out⟩

theorem u8_info : (Try.prog.info? 5).map (fun i => (i.zero, i.size, i.bytes)) = some (some (.int .u8 0), 1, 1) := by kernel_rfl
theorem drop_same {l : Bs} {a b : Nat} (ha : a ≤ l.length) (hb : b ≤ l.length) (h : l.drop a = l.drop b) : a = b := by
  have := congrArg List.length h
  rw [List.length_drop, List.length_drop] at this
  omega
theorem take_more {l : Bs} {j : Nat} {x : UInt8} {t : Bs} (h : l.drop j = x :: t) : l.take (j + 1) = l.take j ++ [x] := by
  rw [List.take_add_one]
  have : l[j]? = some x := by
    have h2 := congrArg (·[0]?) h
    simpa using h2
  rw [this]; rfl

set_option maxRecDepth 100000 in
set_option maxHeartbeats 8000000 in
theorem text_any (g : Nat) (A : Option Addr) (n c k : Nat) (bs : Bs) (w : World) (h : Rdr w g A n c k bs) :
    Calls Try.prog 60 #[.pointer (some ⟨g, 0, none⟩)] w (RdP VText g A n c k bs (textQ (bs.drop k)) w) := by
  have HN := Lib.hid (number_any g A n c k bs w h)
  have hnn := h.few
  have hlen := Lib.hid h.len
  clear h
  rcases hr : numQ (bs.drop k) with er | ⟨x, t⟩
  · have HC := Lib.hid (rdp_err HN.out hr)
    have hq : Hid (textQ (bs.drop k) = .error er) := Lib.hid (bindR_err hr)
    clear HN hr
    go_enter Try.func60, Try.ntmps60
    go_wp2_with fail
    refine HC.out.mono ?_
    rintro e w1 ⟨rfl, hb⟩
    have HB := Lib.hid hb
    clear hb
    go_wp2_with fail
    exact ⟨rfl, rdp_err_mk hq.out HB.out⟩
  · have HC := Lib.hid (rdp_ok HN.out hr)
    have hq : Hid (textQ (bs.drop k) = bindR (chkR (x ≤ 16)) (fun _ => takeR x) t) := Lib.hid (bindR_at hr)
    have hx := (num_backQ hr).2
    clear HN hr
    by_cases hle : x ≤ 16
    · have hq2 : Hid (textQ (bs.drop k) = takeR x t) := Lib.hid (by rw [hq.out, bindR_at (chk_ok hle)])
      have hd : decide ((x : Int) ≤ 16) = true := by simp; omega
      clear hq
      obtain ⟨R, hR⟩ : ∃ R, textQ (bs.drop k) = R := ⟨_, rfl⟩
      rw [hR] at hq2 ⊢
      clear hR
      go_enter Try.func60, Try.ntmps60
      go_wp2_with fail
      refine HC.out.mono ?_
      rintro e w1 ⟨v, rfl, rfl, k1, hk, ht, hrd, hb⟩
      have HB := Lib.hid hb
      have HRD := Lib.hid hrd
      have hq3 : Hid (R = takeR x (bs.drop k1)) := Lib.hid (by rw [← ht]; exact hq2.out)
      have HK := Lib.hid hk
      clear hb hrd ht hq2 hk
      go_wp2_with fail
      refine (need_yes rfl).mono ?_
      rintro e w2 ⟨rfl, rfl⟩
      go_wp2_with fail
      go_loopw [12, 4] (fun i v wr => ∃ (j : Nat), j ≤ x ∧ i = .int .i64 (j : Int) ∧ k1 + j ≤ n ∧ OG EB 1 5 w2.heap.size v ((bs.drop k1).take j) wr ∧ Rdr wr g A n c (k1 + j) bs ∧ But g w wr) (fun i _ _ => x - (intOf i).toNat)
      case atStart => exact ⟨0, by omega, rfl, HRD.out.le, OG.nil (Nat.le_refl _), HRD.out, HB.out⟩
      case round =>
        obtain ⟨j, hj, rfl, hjn, hog, hrd, hbut⟩ := hrel
        have HO := Lib.hid hog
        have HR1 := Lib.hid hrd
        have HBU := Lib.hid hbut
        have hgs : Hid (g < w2.heap.size) := Lib.hid HRD.out.lt
        clear hog hrd hbut
        by_cases hjx : j < x
        · have hjd : decide ((j : Int) < (x : Int)) = true := by simp; omega
          have hjd2 : decide (j < x) = true := by simp; omega
          rcases hb : byteR (bs.drop (k1 + j)) with er | ⟨y, s⟩
          · have hkn : bs.drop (k1 + j) = [] ∧ er = 2 := by
              cases hd : bs.drop (k1 + j) with
              | nil => rw [hd] at hb; cases hb; exact ⟨rfl, rfl⟩
              | cons y s => rw [hd] at hb; cases hb
            have hge : Hid (R = .error er) := Lib.hid (by
              have h1 := congrArg List.length hkn.1
              rw [List.length_drop, List.length_nil] at h1
              rw [hq3.out, hkn.2]
              unfold takeR
              rw [if_pos (by rw [List.length_drop]; omega)])
            have HN := Lib.hid (rdp_err (next_any g A n c _ bs wr HR1.out) hb)
            clear hb hkn
            go_wp2_with fail
            refine HN.out.mono ?_
            rintro e w3 ⟨rfl, hb⟩
            have HB2 := Lib.hid hb
            clear hb
            go_wp2_with fail
            exact ⟨rfl, rdp_err_mk hge.out (HBU.out.trans HB2.out)⟩
          · have hdr := byte_is hb
            have HN := Lib.hid (rdp_ok (next_any g A n c _ bs wr HR1.out) hb)
            have htk : Hid ((bs.drop k1).take (j + 1) = (bs.drop k1).take j ++ [y]) := Lib.hid (take_more (by rw [List.drop_drop]; exact hdr))
            have hs' : Hid (s = bs.drop (k1 + (j + 1))) := Lib.hid (by
              have := congrArg (List.drop 1) hdr
              rw [List.drop_drop] at this
              exact this.symm)
            have htl2 : Hid (bs.drop (k1 + j) = y :: s) := Lib.hid hdr
            have htl : ((bs.drop k1).take j).length ≤ 16 := by rw [List.length_take]; omega
            clear hb hdr
            go_wp2_with fail
            refine HN.out.mono ?_
            rintro e w3 ⟨v2, rfl, rfl, k2, hk2, ht2, hrd2, hb2⟩
            have hkn : k1 + j + 1 ≤ n := by
              have h1 := congrArg List.length htl2.out
              rw [List.length_drop, hlen.out, List.length_cons] at h1
              omega
            obtain rfl : k2 = k1 + (j + 1) := drop_same (by rw [hlen.out]; exact hrd2.le) (by rw [hlen.out]; omega) (by rw [← ht2, hs'.out])
            have HO3 := Lib.hid (HO.out.but eb_steady (above_eb _) hb2 hgs.out)
            have HR3 := Lib.hid hrd2
            have HB3 := Lib.hid (HBU.out.trans hb2)
            clear hrd2 hb2 ht2 hk2
            obtain ⟨i0, hi0, hz0, hz1, hz2⟩ := info_parts u8_info
            go_wp2_with (refine wpList_append_OG rfl _ _ 28 rfl eb_steady HO3.out i0 (.int .u8 0) 1 Try.underlying28 hi0 hz0 hz1 hz2 rfl (by decide) rfl y #[.int .u8 (y.toNat : Int)] rfl rfl (by intro u hu; simp at hu; subst hu; rfl) rfl (by unfold maxLen; omega) (by omega) ?_; intro v' w4 hog4 hbel4; refine Hid.out ?_)
            refine Lib.hid ?_
            have HO4 := Lib.hid hog4
            have HB4 := Lib.hid hbel4
            clear hog4 hbel4
            go_wp2_with fail
            refine ⟨⟨j + 1, by omega, by go_num, by omega, by rw [htk.out]; exact HO4.out, HR3.out.low HB4.out hgs.out, HB3.out.low HB4.out HB.out.size⟩, ?_⟩
            simp [intOf]; omega
        · have hjd : decide ((j : Int) < (x : Int)) = false := by simp; omega
          have hjd2 : decide (j < x) = false := by simp; omega
          obtain rfl : j = x := by omega
          have hq4 : Hid (R = .ok ((bs.drop k1).take j, bs.drop (k1 + j))) := Lib.hid (by
            rw [hq3.out]
            unfold takeR
            rw [if_neg (by rw [List.length_drop, hlen.out]; omega), List.drop_drop])
          obtain ⟨A2, c2, rfl, hn2, hc2⟩ := HO.out.on.form
          obtain ⟨q, hqe⟩ : ∃ q, (bs.drop k1).take j = q := ⟨_, rfl⟩
          rw [hqe] at hq4 HO
          rw [hqe]
          have hstr := string_of (c := c2) (HO.out.on.reads eb_steady (by omega) rfl)
          clear hjx hjd hjd2 hqe
          have hjd : decide ((j : Int) < (j : Int)) = false := by simp
          go_wp2_with fail
          go_ret
          exact rdp_ok_mk hq4.out rfl (by have := HK.out; omega) rfl HR1.out HBU.out
    · have hq2 : Hid (textQ (bs.drop k) = .error 3) := Lib.hid (by rw [hq.out]; exact bindR_err (by unfold chkR; rw [if_neg hle]))
      have hd : decide ((x : Int) ≤ 16) = false := by simp; omega
      clear hq
      go_enter Try.func60, Try.ntmps60
      go_wp2_with fail
      refine HC.out.mono ?_
      rintro e w1 ⟨v, rfl, rfl, k1, hk, ht, hrd, hb⟩
      have HB := Lib.hid hb
      clear hb hrd ht
      go_wp2_with fail
      refine (need_no rfl).mono ?_
      rintro e w2 ⟨rfl, rfl⟩
      go_wp2_with fail
      exact ⟨rfl, rdp_err_mk hq2.out HB.out⟩

end Go.Proofs.Ytlpogkcfjbabaaa
