/- The program's readers of a spec and of a set, with their kinds. The program's reader of a list's part: its bytes, in memory of their own; bytes.Clone. The program's reader of a list of parts. -/
import Derived.Test.YtlpogkcfjbabaaaMg12
import Derived.Deep.RegionHeld3
import Derived.Deep.RegionWith
import Derived.Lib.SliceRun
namespace Go.Proofs.Ytlpogkcfjbabaaa
open Go.RowKit

theorem rdp_more {α : Type} {V : World → World → α → Value → Prop} {g n c k k1 : Nat} {A : Option Addr} {bs : Bs} {r : Except Nat (α × Bs)} {w w1 w' : World} {e : Ending}
    (hV : ∀ x v, V w1 w' x v → V w w' x v) (hk : k ≤ k1) (hb : But g w w1) (h : RdP V g A n c k1 bs r w1 e w') : RdP V g A n c k bs r w e w' := by
  unfold RdP at h ⊢
  cases r with
  | error er => exact ⟨h.1, hb.trans h.2⟩
  | ok p =>
    obtain ⟨⟨v, h1, h2⟩, ⟨k', h3, h4, h5⟩, h6⟩ := h
    exact ⟨⟨v, h1, hV _ _ h2⟩, ⟨k', Nat.le_trans hk h3, h4, h5⟩, hb.trans h6⟩
/-- a byte as the walk has it, with what decides on it -/
theorem calls_byte {F : FuncId} {args : Array Value} {w : World} {g n c k : Nat} {A : Option Addr} {bs t : Bs} {x : UInt8} {y : Nat} (hy : x.toNat = y) (h : Calls Try.prog F args w fun e w' => ∃ v, e = .returned v ∧ VByte w w' x v ∧ ∃ k', k ≤ k' ∧ t = bs.drop k' ∧ Rdr w' g A n c k' bs ∧ But g w w') :
    Calls Try.prog F args w fun e w' => e = .returned (.int .u8 (y : Int)) ∧ ∃ k', k ≤ k' ∧ t = bs.drop k' ∧ Rdr w' g A n c k' bs ∧ But g w w' :=
  h.mono fun e w' ⟨v, h1, h2, h3⟩ => by
    have h2' : v = .int .u8 (x.toNat : Int) := h2
    subst h2'
    rw [hy] at h1
    exact ⟨h1, h3⟩
theorem eq_u8 {x : UInt8} {m : Nat} (hm : m < 256) : x = UInt8.ofNat m ↔ x.toNat = m :=
  ⟨fun h => by rw [h, ofNat_toNat8 hm], fun h => by rw [← toNat_ofNat8 x, h]⟩

set_option maxRecDepth 100000 in
set_option maxHeartbeats 8000000 in
theorem readSet_any (g : Nat) (A : Option Addr) (n c k : Nat) (bs : Bs) (w : World) (h : Rdr w g A n c k bs) :
    Calls Try.prog 39 #[.pointer (some ⟨g, 0, none⟩)] w (RdP VSet g A n c k bs (setQ (bs.drop k)) w) := by
  have HN := Lib.hid (next_any g A n c k bs w h)
  clear h
  obtain ⟨R, hR⟩ : ∃ R, setQ (bs.drop k) = R := ⟨_, rfl⟩
  have HQ0 : Hid (bindR byteR (fun c => bindR (chkR (c = 2)) fun _ => setBodyQ) (bs.drop k) = R) := Lib.hid (by rw [← setQ_eq]; exact hR)
  rw [hR]
  clear hR
  rcases hr : byteR (bs.drop k) with er | ⟨x, t⟩
  · have HC := Lib.hid (rdp_err HN.out hr)
    have hq : Hid (R = .error er) := Lib.hid (by rw [← HQ0.out]; exact bindR_err hr)
    clear HN hr
    go_enter Try.func39, Try.ntmps39
    go_wp2_with fail
    refine HC.out.mono ?_
    rintro e w1 ⟨rfl, hb⟩
    have HB := Lib.hid hb
    clear hb
    go_wp2_with fail
    exact ⟨rfl, rdp_err_mk hq.out HB.out⟩
  · obtain ⟨y, hy⟩ : ∃ y, x.toNat = y := ⟨_, rfl⟩
    have HC := Lib.hid (calls_byte hy (rdp_ok HN.out hr))
    have HQ1 : Hid (bindR (chkR (x = 2)) (fun _ => setBodyQ) t = R) := Lib.hid (by rw [← HQ0.out, bindR_at hr])
    clear HN hr
    by_cases h2 : y = 2
    · have hx : x = 2 := (eq_u8 (m := 2) (by omega)).2 (by rw [hy, h2])
      have HQ2 : Hid (setBodyQ t = R) := Lib.hid (by rw [← HQ1.out, bindR_at (chk_ok hx)])
      have hd : ((y : Int) == 2) = true := by simp; omega
      clear h2 hx HQ1 hy
      go_enter Try.func39, Try.ntmps39
      go_wp2_with fail
      refine HC.out.mono ?_
      rintro e w1 ⟨rfl, k1, hk, rfl, hrd, hb⟩
      have HB := Lib.hid hb
      have HRD := Lib.hid hrd
      have HK := Lib.hid hk
      clear hb hrd hk
      go_wp2_with fail
      refine (need_yes rfl).mono ?_
      rintro e w2 ⟨rfl, rfl⟩
      go_wp2_with fail
      refine (setBody_any g A n c k1 bs w2 HRD.out).mono ?_
      intro e w3 h3
      have H3 := Lib.hid (rdp_more (V := VSet) (w := w) (w1 := w2) (fun x v h => h) HK.out HB.out h3)
      clear h3
      rcases hs : setBodyQ (bs.drop k1) with er | ⟨l, t3⟩
      · rw [hs] at H3
        obtain ⟨rfl, h4⟩ := H3.out
        have H4 := Lib.hid h4
        clear h4 H3
        go_wp2_with fail
        exact ⟨rfl, rdp_err_mk (by rw [← HQ2.out]; exact hs) H4.out⟩
      · rw [hs] at H3
        obtain ⟨⟨v, rfl, hv⟩, ⟨k3, hk3, rfl, hrd3⟩, h4⟩ := H3.out
        have H4 := Lib.hid h4
        have HV := Lib.hid hv
        have HRD3 := Lib.hid hrd3
        have HE : Hid (R = .ok (l, bs.drop k3)) := Lib.hid (by rw [← HQ2.out]; exact hs)
        clear h4 H3 hv hrd3
        go_wp2_with fail
        go_ret
        exact rdp_ok_mk HE.out HV.out hk3 rfl HRD3.out H4.out
    · have hx : ¬ x = 2 := fun h => h2 (by rw [← hy]; exact (eq_u8 (m := 2) (by omega)).1 h)
      have hq : Hid (R = .error 3) := Lib.hid (by rw [← HQ1.out]; exact bindR_err (by unfold chkR; rw [if_neg hx]))
      have hd : ((y : Int) == 2) = false := by simp; omega
      clear h2 hx HQ1 hy
      go_enter Try.func39, Try.ntmps39
      go_wp2_with fail
      refine HC.out.mono ?_
      rintro e w1 ⟨rfl, k1, hk, ht, hrd, hb⟩
      have HB := Lib.hid hb
      clear hb hrd ht
      go_wp2_with fail
      refine (need_no rfl).mono ?_
      rintro e w2 ⟨rfl, rfl⟩
      go_wp2_with fail
      exact ⟨rfl, rdp_err_mk hq.out HB.out⟩

set_option maxRecDepth 100000 in
set_option maxHeartbeats 8000000 in
theorem readSpec_any (HS : SpecOk) (g : Nat) (A : Option Addr) (n c k : Nat) (bs : Bs) (w : World) (h : Rdr w g A n c k bs) :
    Calls Try.prog 37 #[.pointer (some ⟨g, 0, none⟩)] w (RdP VSpec g A n c k bs (specQ (bs.drop k)) w) := by
  have hB0 : Below w.heap.size w (w.alloc (spO sp0)) := (Below.refl _ _).alloc (Nat.le_refl _) _
  have BX0 := Lib.hid (box_new w sp0)
  have HB0 := Lib.hid (But.of g hB0)
  have hlt := Lib.hid h.lt
  have HN := Lib.hid (next_any g A n c k bs (w.alloc (spO sp0)) (h.next hB0))
  clear h hB0
  obtain ⟨R, hR⟩ : ∃ R, specQ (bs.drop k) = R := ⟨_, rfl⟩
  have HQ0 : Hid (bindR byteR (fun c => bindR (chkR (c = 1)) fun _ => bodyQ) (bs.drop k) = R) := Lib.hid (by rw [← specQ_eq]; exact hR)
  rw [hR]
  clear hR
  rcases hr : byteR (bs.drop k) with er | ⟨x, t⟩
  · have HC := Lib.hid (rdp_err HN.out hr)
    have hq : Hid (R = .error er) := Lib.hid (by rw [← HQ0.out]; exact bindR_err hr)
    clear HN hr
    go_enter Try.func37, Try.ntmps37
    go_wp2_with fail
    refine HC.out.mono ?_
    rintro e w1 ⟨rfl, hb⟩
    have HB := Lib.hid (HB0.out.trans hb)
    clear hb
    go_wp2_with fail
    exact ⟨rfl, rdp_err_mk hq.out HB.out⟩
  · obtain ⟨y, hy⟩ : ∃ y, x.toNat = y := ⟨_, rfl⟩
    have HC := Lib.hid (calls_byte hy (rdp_ok HN.out hr))
    have HQ1 : Hid (bindR (chkR (x = 1)) (fun _ => bodyQ) t = R) := Lib.hid (by rw [← HQ0.out, bindR_at hr])
    clear HN hr
    by_cases h2 : y = 1
    · have hx : x = 1 := (eq_u8 (m := 1) (by omega)).2 (by rw [hy, h2])
      have HQ2 : Hid (bodyQ t = R) := Lib.hid (by rw [← HQ1.out, bindR_at (chk_ok hx)])
      have hd : ((y : Int) == 1) = true := by simp; omega
      clear h2 hx HQ1 hy
      go_enter Try.func37, Try.ntmps37
      go_wp2_with fail
      refine HC.out.mono ?_
      rintro e w1 ⟨rfl, k1, hk, rfl, hrd, hb⟩
      have HB := Lib.hid (HB0.out.trans hb)
      have BX := Lib.hid (BX0.out.but hb (by have := hlt.out; omega))
      have HRD := Lib.hid hrd
      have HK := Lib.hid hk
      clear hb hrd hk
      go_wp2_with fail
      refine (need_yes rfl).mono ?_
      rintro e w2 ⟨rfl, rfl⟩
      go_wp2_with fail
      refine (spec_any HS g A n c k1 bs w2 HRD.out).mono ?_
      intro e w3 h3
      rcases hs : bodyQ (bs.drop k1) with er | ⟨l, t3⟩
      · rw [hs] at h3
        obtain ⟨rfl, h4⟩ := h3
        have H4 := Lib.hid (HB.out.trans h4)
        clear h4
        go_wp2_with fail
        exact ⟨rfl, rdp_err_mk (by rw [← HQ2.out]; exact hs) H4.out⟩
      · rw [hs] at h3
        obtain ⟨⟨v, rfl, rfl⟩, ⟨k3, hk3, rfl, hrd3⟩, hb3⟩ := h3
        have H4 := Lib.hid (HB.out.trans hb3)
        have BX3 := Lib.hid (BX.out.but hb3 (by have := hlt.out; omega))
        have HRD3 := Lib.hid hrd3
        have HK3 := Lib.hid (Nat.le_trans HK.out hk3)
        have HE : Hid (R = .ok (l, bs.drop k3)) := Lib.hid (by rw [← HQ2.out]; exact hs)
        clear hrd3 hb3 hk3
        obtain ⟨ff, a0, a1, a2, a3, a4, a5, a6⟩ := cells7 BX3.out.at'
        dsimp only [sp0] at a0 a1 a2 a3 a4 a5 a6
        unfold spV
        go_wp2_with fail
        refine bodyPost_ret (v := spV l) (by simp [results, Try.results37, go_sem, spV, a0, a1, a2, a3, a4, a5, a6]) rfl ?_
        have h7 := HRD3.out
        have hl := hlt.out
        exact rdp_ok_mk HE.out rfl HK3.out rfl (((((((h7.beyond hl _ _).beyond hl _ _).beyond hl _ _).beyond hl _ _).beyond hl _ _).beyond hl _ _).beyond hl _ _) (((((((H4.out.beyond (Nat.le_refl _) _ _).beyond (Nat.le_refl _) _ _).beyond (Nat.le_refl _) _ _).beyond (Nat.le_refl _) _ _).beyond (Nat.le_refl _) _ _).beyond (Nat.le_refl _) _ _).beyond (Nat.le_refl _) _ _)
    · have hx : ¬ x = 1 := fun h => h2 (by rw [← hy]; exact (eq_u8 (m := 1) (by omega)).1 h)
      have hq : Hid (R = .error 3) := Lib.hid (by rw [← HQ1.out]; exact bindR_err (by unfold chkR; rw [if_neg hx]))
      have hd : ((y : Int) == 1) = false := by simp; omega
      clear h2 hx HQ1 hy
      go_enter Try.func37, Try.ntmps37
      go_wp2_with fail
      refine HC.out.mono ?_
      rintro e w1 ⟨rfl, k1, hk, ht, hrd, hb⟩
      have HB := Lib.hid (HB0.out.trans hb)
      clear hb hrd ht
      go_wp2_with fail
      refine (need_no rfl).mono ?_
      rintro e w2 ⟨rfl, rfl⟩
      go_wp2_with fail
      exact ⟨rfl, rdp_err_mk hq.out HB.out⟩

end Go.Proofs.Ytlpogkcfjbabaaa

namespace Go.Proofs.Ytlpogkcfjbabaaa
open Go.RowKit

/-- bytes in memory that was not there before -/
def VPart (w w' : World) (p : Bs) (v : Value) : Prop := ∃ A c, v = .slice A p.length c ∧ RB w' w'.heap.size A p.length p ∧ (A = none → c = 0) ∧ p.length ≤ c ∧ ∀ a, A = some a → w.heap.size ≤ a.block
theorem VPart.older {w w1 w' : World} {p : Bs} {v : Value} (h : VPart w1 w' p v) (hw : w.heap.size ≤ w1.heap.size) : VPart w w' p v := by
  obtain ⟨A, c, h1, h2, h3, h4, h5⟩ := h
  exact ⟨A, c, h1, h2, h3, h4, fun a ha => Nat.le_trans hw (h5 a ha)⟩
theorem vpart_on {w W w' : World} {v : Value} {p : Bs} {t : TypeId} (h : ON EB 1 t W v p w') (hw : w.heap.size ≤ W.heap.size) : VPart w w' p v := by
  obtain ⟨A, c, rfl, h1, h2⟩ := h.form
  obtain ⟨fl, g1, _⟩ := id h
  refine ⟨A, c, rfl, h.reads eb_steady (by omega) rfl, h1, h2, fun a ha => ?_⟩
  subst ha
  rcases g1.2 with ⟨hv, _⟩ | ⟨g, cap, cur, hv, hb, _⟩
  · injection hv with e1 _ _; cases e1
  · injection hv with e1 _ _
    injection e1 with e1
    subst e1
    exact Nat.le_trans hw hb

set_option maxRecDepth 100000 in
set_option maxHeartbeats 4000000 in
theorem cloneB_any (b off n c : Nat) (p : Bs) (w : World) (h : BAsk w w.heap.size (some ⟨b, off, none⟩) n c p) (hn : n ≤ 65536) :
    Calls Try.prog 53 #[.slice (some ⟨b, off, none⟩) n c] w fun e w' => ∃ v, e = .returned v ∧ VPart w w' p v ∧ Below w.heap.size w w' := by
  have q22 : ∀ (w : World) (a : Option Addr) (n c n' c' : Nat), (binOp .eql 28 (.slice a n c) (.slice none n' c')).run Try.prog w = .ok (.bool a.isNone) w := fun w a n c n' c' => Lib.run_eql_slice_nil w _ _ a n c n' c' Try.underlying28
  have HO : Hid (ON EB 1 5 w (.slice (some ⟨w.heap.size, 0, none⟩) 0 0) [] (w.alloc (.cells #[] 5))) := Lib.hid (onb_lit (t := 5) w [] (by simp))
  have HR : Hid (RB (w.alloc (.cells #[] 5)) w.heap.size (some ⟨b, off, none⟩) n p) := Lib.hid (h.reads.below ((Below.refl _ _).alloc (Nat.le_refl _) _))
  obtain ⟨i0, hi0, hz0, hz1, hz2⟩ := info_parts byte_info
  clear h
  go_enter Try.func53, Try.ntmps53
  go_wp2_with (at_builtin; refine wpList_append_RB rfl _ _ 28 5 rfl HO.out i0 Try.underlying28 hi0 hz0 hz1 hz2 rfl w.heap.size (some ⟨b, off, none⟩) n c rfl HR.out (by intro h; cases h) (by simp; omega) ?_; intro v' w' hon'; refine Hid.out ?_)
  refine Lib.hid ?_
  have HO2 := Lib.hid hon'
  clear hon'
  go_wp2_with fail
  go_ret
  exact ⟨_, rfl, vpart_on HO2.out (Nat.le_refl _), HO2.out.below⟩

/-- a part, told by what its kind is followed by -/
theorem partQ_spec {b s : Bs} (h : b = 1 :: s) : partQ b = match bodyQ s with
    | .ok (_, t) => .ok (b.take (b.length - t.length), t)
    | .error e => .error e := by
  subst h
  rw [partR_consQ, if_pos rfl, specQ_eq, bindR_at (x := 1) (t := s) rfl, bindR_at (chk_ok rfl)]
  cases bodyQ s <;> rfl
theorem partQ_set {b s : Bs} (h : b = 2 :: s) : partQ b = match setBodyQ s with
    | .ok (_, t) => .ok (b.take (b.length - t.length), t)
    | .error e => .error e := by
  subst h
  rw [partR_consQ, if_neg (by decide), setQ_eq, bindR_at (x := 2) (t := s) rfl, bindR_at (chk_ok rfl)]
  cases setBodyQ s <;> rfl
theorem partQ_none {b s : Bs} {x : UInt8} (h : b = x :: s) (h1 : x ≠ 1) (h2 : x ≠ 2) : partQ b = .error 3 := by
  subst h
  rw [partR_consQ, if_neg h1, setQ_eq, bindR_at (x := x) (t := s) rfl, bindR_err (e := 3) (by unfold chkR; rw [if_neg h2])]
/-- what lies between two places of the reader -/
theorem Rdr.between {w : World} {g n c k k' : Nat} {b off : Nat} {bs : Bs} (h : Rdr w g (some ⟨b, off, none⟩) n c k' bs) (hk : k < k') :
    BAsk w w.heap.size (some ⟨b, off + k, none⟩) (k' - k) (c - k) ((bs.drop k).take ((bs.drop k).length - (bs.drop k').length)) ∧ c ≠ k := by
  have hle := h.le
  have hcap := h.bytes.cap
  have hl := h.len
  have e : (bs.drop k).length - (bs.drop k').length = k' - k := by simp; omega
  rw [e]
  have h1 := (h.bytes.reads.cut (k := k) (by omega) hcap).front (k := k' - k) (by omega)
  rw [if_neg (by omega), show (some (⟨b, off, none⟩ : Addr)).map (·.add k) = some ⟨b, off + k, none⟩ from by show some (Addr.add _ _) = _; rw [add_none]] at h1
  exact ⟨⟨RN.keep eb_steady h1 (fun _ _ => rfl) (fun b hb => Nat.lt_trans hb h.lt), (fun h => by cases h), by omega, by have := h.few; unfold maxLen; omega⟩, by omega⟩
theorem taken_len {bs : Bs} {k k' : Nat} (hk : k ≤ k') (hk' : k' ≤ bs.length) : ((bs.drop k).take ((bs.drop k).length - (bs.drop k').length)).length = k' - k := by
  simp; omega

set_option maxRecDepth 100000 in
set_option maxHeartbeats 16000000 in
theorem readPart_any (HS : SpecOk) (g : Nat) (A : Option Addr) (n c k : Nat) (bs : Bs) (w : World) (h : Rdr w g A n c k bs) :
    Calls Try.prog 30 #[.pointer (some ⟨g, 0, none⟩)] w (RdP VPart g A n c k bs (partQ (bs.drop k)) w) := by
  have HN := Lib.hid (next_any g A n c k bs w h)
  have h0 := h.c0
  have h1 := h.c1
  have hpn := panics
  have hmi : ∀ (v : Value) (w : World), (Instr.makeInterface 29 v).run Try.prog w = .ok (.iface 29 v) w := fun _ _ => rfl
  have H0 := Lib.hid h
  clear h
  rcases hr : byteR (bs.drop k) with er | ⟨x, t⟩
  · have HC := Lib.hid (rdp_err HN.out hr)
    have hq : Hid (partQ (bs.drop k) = .error er) := Lib.hid (by
      cases hd : bs.drop k with
      | nil => rw [hd] at hr; cases hr; rfl
      | cons y s => rw [hd] at hr; cases hr)
    clear HN hr
    go_enter Try.func30, Try.ntmps30
    go_wp2_with fail
    refine HC.out.mono ?_
    rintro e w1 ⟨rfl, hb⟩
    have HB := Lib.hid hb
    clear hb
    go_wp2_with fail
    exact ⟨rfl, rdp_err_mk hq.out HB.out⟩
  · obtain ⟨y, hy⟩ : ∃ y, x.toNat = y := ⟨_, rfl⟩
    have HC := Lib.hid (calls_byte hy (rdp_ok HN.out hr))
    have HD := Lib.hid (byte_is hr)
    have hkn : k < n := by
      rcases Nat.lt_or_ge k n with h | h
      · exact h
      · have := HD.out
        rw [List.drop_of_length_le (by rw [H0.out.len]; exact h)] at this
        cases this
    obtain ⟨b, off, hA, -⟩ := H0.out.byte hkn
    subst hA
    clear HN hr
    by_cases hk1 : y = 1
    · have hx : x = 1 := (eq_u8 (m := 1) (by omega)).2 (by rw [hy, hk1])
      have HP : Hid (partQ (bs.drop k) = match bodyQ t with
          | .ok (_, t') => .ok ((bs.drop k).take ((bs.drop k).length - t'.length), t')
          | .error e => .error e) := Lib.hid (partQ_spec (by rw [HD.out, hx]))
      have hd : ((y : Int) == 1) = true := by simp; omega
      clear hk1 hx hy
      go_enter Try.func30, Try.ntmps30
      go_wp2_with fail
      refine HC.out.mono ?_
      rintro e w1 ⟨rfl, k1, hk, rfl, hrd, hb⟩
      have HB := Lib.hid hb
      have HRD := Lib.hid hrd
      clear hb hrd
      go_wp2_with fail
      refine (spec_any HS g _ n c k1 bs w1 HRD.out).mono ?_
      intro e w3 h3
      rcases hs : bodyQ (bs.drop k1) with er | ⟨l, t3⟩
      · rw [hs] at h3
        obtain ⟨rfl, h4⟩ := h3
        have H4 := Lib.hid (HB.out.trans h4)
        have HE : Hid (partQ (bs.drop k) = .error er) := Lib.hid (by rw [HP.out, hs])
        clear h4
        go_wp2_with fail
        exact ⟨rfl, rdp_err_mk HE.out H4.out⟩
      · rw [hs] at h3
        obtain ⟨⟨v, rfl, _⟩, ⟨k3, hk3, rfl, hrd3⟩, hb3⟩ := h3
        have H4 := Lib.hid (HB.out.trans hb3)
        have HRD3 := Lib.hid hrd3
        have hlt : k < k3 := by
          have h1 := congrArg List.length HD.out
          have h2 := HRD.out.len
          have h3 := HRD.out.le
          simp only [List.length_drop, List.length_cons] at h1
          omega
        obtain ⟨hbt, hck⟩ := HRD3.out.between hlt
        have hpl := taken_len (bs := bs) (k := k) (k' := k3) (by omega) (by rw [HRD3.out.len]; exact HRD3.out.le)
        obtain ⟨p, hp⟩ : ∃ p, (bs.drop k).take ((bs.drop k).length - (bs.drop k3).length) = p := ⟨_, rfl⟩
        have HE : Hid (partQ (bs.drop k) = .ok (p, bs.drop k3)) := Lib.hid (by rw [HP.out, hs, ← hp])
        rw [hp] at hbt hpl
        have hle3 := HRD3.out.le
        have hn := HRD3.out.few
        have f0 := HRD3.out.c0
        have f1 := HRD3.out.c1
        have hcap := HRD3.out.bytes.cap
        have HBT : Hid (BAsk w3.drew w3.drew.heap.size (some ⟨b, off + k, none⟩) (k3 - k) (c - k) p) := Lib.hid (hbt.next (bel_drew w3 1))
        have hs1 : k ≤ k3 := Nat.le_of_lt hlt
        have hs2 : k3 ≤ c := by omega
        have hs3 : (k : Int) ≤ (k3 : Int) := by omega
        have hs4 : (k3 : Int) ≤ (c : Int) := by omega
        have HKEEP : Hid (∀ wx, Below w3.drew.heap.size w3.drew wx → wx.cell? ⟨g, 0, none⟩ = some (.slice (some ⟨b, off, none⟩) n c) ∧ wx.cell? ⟨g, 1, none⟩ = some (.int .i64 (k3 : Int))) := Lib.hid (fun wx hb => ⟨((HRD3.out.next (bel_drew w3 1)).next hb).c0, ((HRD3.out.next (bel_drew w3 1)).next hb).c1⟩)
        have hK3 : Hid (k ≤ k3) := Lib.hid (Nat.le_of_lt hlt)
        have hN3 : Hid (k3 - k ≤ 65536) := Lib.hid (by omega)
        clear hrd3 hb3 hk3 hbt hp hpl
        go_wp2_with fail
        go_region_held3 (fun w' => w'.cell? ⟨g, 0, none⟩ = some (.slice (some ⟨b, off, none⟩) n c) ∧ w'.cell? ⟨g, 1, none⟩ = some (.int .i64 (k3 : Int)))
          (first | exact HKEEP.out _ (Below.refl _ _) | go_keep | exact HKEEP.out _ HY.out | fail)
          ((go_at_call 53; (with_reducible refine (cloneB_any b (off + k) (k3 - k) (c - k) p w3.drew HBT.out hN3.out).mono ?_); rintro e w4 ⟨v4, rfl, hv4, hb4⟩; have HY := Lib.hid hb4; have HV4 := Lib.hid hv4; clear hb4 hv4))
        have HX := Lib.hid (bel_und HY.out)
        have HV5 : Hid (VPart w w4 p v4) := Lib.hid (HV4.out.older (Nat.le_trans H4.out.size (bel_drew w3 1).size))
        go_wp2_with fail
        go_ret
        exact rdp_ok_mk HE.out HV5.out hK3.out rfl (HRD3.out.next HX.out) (H4.out.next HX.out)
    by_cases hk2 : y = 2
    · have hx : x = 2 := (eq_u8 (m := 2) (by omega)).2 (by rw [hy, hk2])
      have HP : Hid (partQ (bs.drop k) = match setBodyQ t with
          | .ok (_, t') => .ok ((bs.drop k).take ((bs.drop k).length - t'.length), t')
          | .error e => .error e) := Lib.hid (partQ_set (by rw [HD.out, hx]))
      have hd1 : ((y : Int) == 1) = false := by simp; omega
      have hd : ((y : Int) == 2) = true := by simp; omega
      clear hk2 hx hy
      go_enter Try.func30, Try.ntmps30
      go_wp2_with fail
      refine HC.out.mono ?_
      rintro e w1 ⟨rfl, k1, hk, rfl, hrd, hb⟩
      have HB := Lib.hid hb
      have HRD := Lib.hid hrd
      clear hb hrd
      go_wp2_with fail
      refine (setBody_any g _ n c k1 bs w1 HRD.out).mono ?_
      intro e w3 h3
      rcases hs : setBodyQ (bs.drop k1) with er | ⟨l, t3⟩
      · rw [hs] at h3
        obtain ⟨rfl, h4⟩ := h3
        have H4 := Lib.hid (HB.out.trans h4)
        have HE : Hid (partQ (bs.drop k) = .error er) := Lib.hid (by rw [HP.out, hs])
        clear h4
        go_wp2_with fail
        exact ⟨rfl, rdp_err_mk HE.out H4.out⟩
      · rw [hs] at h3
        obtain ⟨⟨v, rfl, _⟩, ⟨k3, hk3, rfl, hrd3⟩, hb3⟩ := h3
        have H4 := Lib.hid (HB.out.trans hb3)
        have HRD3 := Lib.hid hrd3
        have hlt : k < k3 := by
          have h1 := congrArg List.length HD.out
          have h2 := HRD.out.len
          have h3 := HRD.out.le
          simp only [List.length_drop, List.length_cons] at h1
          omega
        obtain ⟨hbt, hck⟩ := HRD3.out.between hlt
        have hpl := taken_len (bs := bs) (k := k) (k' := k3) (by omega) (by rw [HRD3.out.len]; exact HRD3.out.le)
        obtain ⟨p, hp⟩ : ∃ p, (bs.drop k).take ((bs.drop k).length - (bs.drop k3).length) = p := ⟨_, rfl⟩
        have HE : Hid (partQ (bs.drop k) = .ok (p, bs.drop k3)) := Lib.hid (by rw [HP.out, hs, ← hp])
        rw [hp] at hbt hpl
        have hle3 := HRD3.out.le
        have hn := HRD3.out.few
        have f0 := HRD3.out.c0
        have f1 := HRD3.out.c1
        have hcap := HRD3.out.bytes.cap
        have HBT : Hid (BAsk w3.drew w3.drew.heap.size (some ⟨b, off + k, none⟩) (k3 - k) (c - k) p) := Lib.hid (hbt.next (bel_drew w3 1))
        have hs1 : k ≤ k3 := Nat.le_of_lt hlt
        have hs2 : k3 ≤ c := by omega
        have hs3 : (k : Int) ≤ (k3 : Int) := by omega
        have hs4 : (k3 : Int) ≤ (c : Int) := by omega
        have HKEEP : Hid (∀ wx, Below w3.drew.heap.size w3.drew wx → wx.cell? ⟨g, 0, none⟩ = some (.slice (some ⟨b, off, none⟩) n c) ∧ wx.cell? ⟨g, 1, none⟩ = some (.int .i64 (k3 : Int))) := Lib.hid (fun wx hb => ⟨((HRD3.out.next (bel_drew w3 1)).next hb).c0, ((HRD3.out.next (bel_drew w3 1)).next hb).c1⟩)
        have hK3 : Hid (k ≤ k3) := Lib.hid (Nat.le_of_lt hlt)
        have hN3 : Hid (k3 - k ≤ 65536) := Lib.hid (by omega)
        clear hrd3 hb3 hk3 hbt hp hpl
        go_wp2_with fail
        go_region_held3 (fun w' => w'.cell? ⟨g, 0, none⟩ = some (.slice (some ⟨b, off, none⟩) n c) ∧ w'.cell? ⟨g, 1, none⟩ = some (.int .i64 (k3 : Int)))
          (first | exact HKEEP.out _ (Below.refl _ _) | go_keep | exact HKEEP.out _ HY.out | fail)
          ((go_at_call 53; (with_reducible refine (cloneB_any b (off + k) (k3 - k) (c - k) p w3.drew HBT.out hN3.out).mono ?_); rintro e w4 ⟨v4, rfl, hv4, hb4⟩; have HY := Lib.hid hb4; have HV4 := Lib.hid hv4; clear hb4 hv4))
        have HX := Lib.hid (bel_und HY.out)
        have HV5 : Hid (VPart w w4 p v4) := Lib.hid (HV4.out.older (Nat.le_trans H4.out.size (bel_drew w3 1).size))
        go_wp2_with fail
        go_ret
        exact rdp_ok_mk HE.out HV5.out hK3.out rfl (HRD3.out.next HX.out) (H4.out.next HX.out)
    have hq : Hid (partQ (bs.drop k) = .error 3) := Lib.hid (partQ_none HD.out (fun h => hk1 (by rw [← hy]; exact (eq_u8 (m := 1) (by omega)).1 h)) (fun h => hk2 (by rw [← hy]; exact (eq_u8 (m := 2) (by omega)).1 h)))
    have hd1 : ((y : Int) == 1) = false := by simp; omega
    have hd2 : ((y : Int) == 2) = false := by simp; omega
    clear hk1 hk2 hy
    go_enter Try.func30, Try.ntmps30
    go_wp2_with fail
    refine HC.out.mono ?_
    rintro e w1 ⟨rfl, k1, hk, ht, hrd, hb⟩
    have HB := Lib.hid hb
    clear hb hrd ht
    go_wp2_with fail
    exact ⟨rfl, rdp_err_mk hq.out HB.out⟩

end Go.Proofs.Ytlpogkcfjbabaaa

namespace Go.Proofs.Ytlpogkcfjbabaaa
open Go.RowKit

def VList (_ w' : World) (ps : List Bs) (v : Value) : Prop := ∃ A c, v = .slice A ps.length c ∧ PAsk w' A ps.length c ps
/-- a slice of bytes that lies from block s on, as an element -/
def EPs (s : Nat) : Elem Bs := fun w ok x vs => EP w (fun b => ok b ∧ s ≤ b) x vs
theorem eps_steady (s : Nat) : Steady (EPs s) := ⟨fun h hk ho => ep_steady.keep h (fun b hb => hk b hb.1) (fun b hb => ⟨ho b hb.1, hb.2⟩)⟩
theorem above_eps (s : Nat) : Above s (EPs s) := fun _ _ _ _ h => ep_steady.keep h (fun _ _ => rfl) (fun _ hb => ⟨⟨hb.1, hb.2⟩, hb.2⟩)
theorem eps_ep {s : Nat} {w : World} {ok : Nat → Prop} {x : Bs} {vs : List Value} (h : EPs s w ok x vs) : EP w ok x vs := ep_steady.keep h (fun _ _ => rfl) (fun _ hb => hb.1)
theorem RN.imp {α : Type} {E E' : Elem α} {C : Nat} {w : World} {ok : Nat → Prop} {A : Option Addr} {n : Nat} {xs : List α} (hE : ∀ x vs, E w ok x vs → E' w ok x vs) (h : RN E C w ok A n xs) : RN E' C w ok A n xs :=
  ⟨h.1, fun hn => by
    obtain ⟨b, off, e, hb, hc⟩ := h.2 hn
    refine ⟨b, off, e, hb, fun j x hx => ?_⟩
    obtain ⟨vs, h1, h2, h3⟩ := hc j x hx
    exact ⟨vs, h1, h2, hE x vs h3⟩⟩
/-- bytes in memory that was not there yet, as an element of a row that lies before it -/
theorem eps_new {s : Nat} {t : TypeId} {wr w' : World} {v u : Value} {ps : List Bs} {p : Bs} (hv : OG (EPs s) 1 t s v ps wr) (hp : VPart wr w' p u) (hl : p.length ≤ maxLen) :
    ∃ A c, u = .slice A p.length c ∧ EPs s w' (fun b => b < w'.heap.size ∧ v.ownBlock ≠ some b) p [.slice A p.length c] := by
  obtain ⟨A, c, rfl, h1, h2, h3, h4⟩ := hp
  refine ⟨A, c, rfl, A, p.length, c, rfl, ⟨rfl, fun hn => ?_⟩, h2, h3, hl⟩
  obtain ⟨b, off, e, hbl, hcell⟩ := h1.2 hn
  have h5 : wr.heap.size ≤ b := h4 _ e
  refine ⟨b, off, e, ⟨⟨hbl, fun hg => ?_⟩, Nat.le_trans hv.le h5⟩, fun j x hx => ?_⟩
  · obtain ⟨fl, g1, _⟩ := id hv.on
    have h2 := (g1.lt b hg).2
    exact absurd h2 (Nat.not_lt.2 h5)
  · obtain ⟨vs, k1, k2, k3⟩ := hcell j x hx
    exact ⟨vs, k1, k2, k3⟩
theorem vlist_og {s : Nat} {t : TypeId} {w w' : World} {v : Value} {ps : List Bs} (h : OG (EPs s) 1 t s v ps w') (hl : ps.length ≤ 1000) : VList w w' ps v := by
  obtain ⟨A, c, rfl, h1, h2⟩ := h.on.form
  exact ⟨A, c, rfl, (h.on.reads (eps_steady s) (by omega) rfl).imp (fun _ _ => eps_ep), h1, h2, by unfold maxLen; omega⟩
/-- the parts that are left, behind those -/
def leftP (N : Nat) (ps : List Bs) : Rd (List Bs) := bindR (partsQ N) fun r => retR (ps ++ r)
theorem leftP_zero (ps : List Bs) (b : Bs) : leftP 0 ps b = .ok (ps, b) := by
  unfold leftP partsQ bindR retR
  simp
theorem leftP_succ (k : Nat) (ps : List Bs) : leftP (k + 1) ps = bindR partQ fun p => leftP k (ps ++ [p]) := by
  unfold leftP
  rw [partsQ]
  simp only [bindR_assoc]
  congr 1; funext p; congr 1; funext r
  funext b
  unfold bindR retR
  simp [List.append_assoc]
def listBodyQ : Rd (List Bs) := bindR numQ fun n => bindR (chkR (n ≤ 1000)) fun _ => partsQ n
theorem listQ_eq : listQ = bindR byteR fun c => bindR (chkR (c = 3)) fun _ => listBodyQ := rfl
theorem part_few {b p t : Bs} (h : partQ b = .ok (p, t)) : p.length ≤ maxLen := by
  have := part_len (part_putQ h).1
  unfold maxLen; omega

set_option maxRecDepth 100000 in
set_option maxHeartbeats 16000000 in
theorem readList_any (HS : SpecOk) (g : Nat) (A : Option Addr) (n c k : Nat) (bs : Bs) (w : World) (h : Rdr w g A n c k bs) :
    Calls Try.prog 41 #[.pointer (some ⟨g, 0, none⟩)] w (RdP VList g A n c k bs (listQ (bs.drop k)) w) := by
  have HN := Lib.hid (next_any g A n c k bs w h)
  clear h
  obtain ⟨R, hR⟩ : ∃ R, listQ (bs.drop k) = R := ⟨_, rfl⟩
  have HQ0 : Hid (bindR byteR (fun c => bindR (chkR (c = 3)) fun _ => listBodyQ) (bs.drop k) = R) := Lib.hid (by rw [← listQ_eq]; exact hR)
  rw [hR]
  clear hR
  rcases hr : byteR (bs.drop k) with er | ⟨x, t⟩
  · have HC := Lib.hid (rdp_err HN.out hr)
    have hq : Hid (R = .error er) := Lib.hid (by rw [← HQ0.out]; exact bindR_err hr)
    clear HN hr
    go_enter Try.func41, Try.ntmps41
    go_wp2_with fail
    refine HC.out.mono ?_
    rintro e w1 ⟨rfl, hb⟩
    have HB := Lib.hid hb
    clear hb
    go_wp2_with fail
    exact ⟨rfl, rdp_err_mk hq.out HB.out⟩
  · obtain ⟨y, hy⟩ : ∃ y, x.toNat = y := ⟨_, rfl⟩
    have HC := Lib.hid (calls_byte hy (rdp_ok HN.out hr))
    have HQ1 : Hid (bindR (chkR (x = 3)) (fun _ => listBodyQ) t = R) := Lib.hid (by rw [← HQ0.out, bindR_at hr])
    clear HN hr
    by_cases h3 : y = 3
    · have hx : x = 3 := (eq_u8 (m := 3) (by omega)).2 (by rw [hy, h3])
      have HQ2 : Hid (listBodyQ t = R) := Lib.hid (by rw [← HQ1.out, bindR_at (chk_ok hx)])
      have hd : ((y : Int) == 3) = true := by simp; omega
      clear h3 hx HQ1 hy
      go_enter Try.func41, Try.ntmps41
      go_wp2_with fail
      refine HC.out.mono ?_
      rintro e w1 ⟨rfl, k1, hk, rfl, hrd, hb⟩
      have HB := Lib.hid hb
      have HRD := Lib.hid hrd
      have HK := Lib.hid hk
      clear hb hrd hk
      go_wp2_with fail
      refine (need_yes rfl).mono ?_
      rintro e w2 ⟨rfl, rfl⟩
      have HN := Lib.hid (number_any g A n c k1 bs w2 HRD.out)
      rcases hr : numQ (bs.drop k1) with er | ⟨N, t⟩
      · have HC2 := Lib.hid (rdp_err HN.out hr)
        have hq : Hid (R = .error er) := Lib.hid (by rw [← HQ2.out]; exact bindR_err hr)
        clear HN hr
        go_wp2_with fail
        refine HC2.out.mono ?_
        rintro e w3 ⟨rfl, hb⟩
        have HB3 := Lib.hid (HB.out.trans hb)
        clear hb
        go_wp2_with fail
        exact ⟨rfl, rdp_err_mk hq.out HB3.out⟩
      · have HC2 := Lib.hid (calls_num (rdp_ok HN.out hr))
        have HQ3 : Hid (bindR (chkR (N ≤ 1000)) (fun _ => partsQ N) t = R) := Lib.hid (by rw [← HQ2.out]; exact (bindR_at (f := fun n => bindR (chkR (n ≤ 1000)) fun _ => partsQ n) hr).symm)
        have hx := (num_backQ hr).2
        clear HN hr
        by_cases hle : N ≤ 1000
        · have hq2 : Hid (leftP N [] t = R) := Lib.hid (by
            rw [← HQ3.out, bindR_at (chk_ok hle)]
            unfold leftP bindR retR
            cases partsQ N t with
            | error e => rfl
            | ok r => simp)
          have hd2 : decide ((N : Int) ≤ 1000) = true := by simp; omega
          go_wp2_with fail
          refine HC2.out.mono ?_
          rintro e w3 ⟨rfl, k3, hk3, ht, hrd, hb⟩
          have HB3 := Lib.hid (HB.out.trans hb)
          have HRD3 := Lib.hid hrd
          have hq3 : Hid (leftP N [] (bs.drop k3) = R) := Lib.hid (by rw [← ht]; exact hq2.out)
          have HK3 := Lib.hid (Nat.le_trans HK.out hk3)
          clear hb hrd ht hq2 hk3
          go_wp2_with fail
          refine (need_yes rfl).mono ?_
          rintro e w4 ⟨rfl, rfl⟩
          have hgs : Hid (g < w4.heap.size) := Lib.hid HRD3.out.lt
          go_wp2_with fail
          go_loopw [17, 4] (fun i v wr => ∃ (j kk : Nat) (ps : List Bs), j ≤ N ∧ i = .int .i64 (j : Int) ∧ ps.length = j ∧ k ≤ kk ∧ OG (EPs w4.heap.size) 1 28 w4.heap.size v ps wr ∧ Rdr wr g A n c kk bs ∧ But g w wr ∧ leftP (N - j) ps (bs.drop kk) = R) (fun i _ _ => N - (intOf i).toNat)
          case atStart => exact ⟨0, k3, [], by omega, rfl, rfl, HK3.out, OG.nil (Nat.le_refl _), HRD3.out, HB3.out, hq3.out⟩
          case round =>
            obtain ⟨j, kk, ps, hj, rfl, hpl, hkk, hog, hrd, hbut, hlq⟩ := hrel
            have HO := Lib.hid hog
            have HR1 := Lib.hid hrd
            have HBU := Lib.hid hbut
            have HKK := Lib.hid hkk
            have HLQ := Lib.hid hlq
            have HPL := Lib.hid hpl
            clear hog hrd hbut hkk hlq hpl
            by_cases hjx : j < N
            · have hjd : decide ((j : Int) < (N : Int)) = true := by simp; omega
              have hjd2 : decide (j < N) = true := by simp; omega
              obtain ⟨M, hM⟩ : ∃ M, N - j = M + 1 := ⟨N - j - 1, by omega⟩
              have HL1 : Hid (bindR partQ (fun p => leftP M (ps ++ [p])) (bs.drop kk) = R) := Lib.hid (by rw [← leftP_succ, ← hM]; exact HLQ.out)
              have HM : Hid (N - (j + 1) = M) := Lib.hid (by omega)
              have HN := Lib.hid (readPart_any HS g A n c kk bs wr HR1.out)
              clear HLQ hM
              rcases hr1 : partQ (bs.drop kk) with er | ⟨p, t1⟩
              · have hge : Hid (R = .error er) := Lib.hid (by rw [← HL1.out]; exact bindR_err hr1)
                have HN2 := Lib.hid (rdp_err HN.out hr1)
                clear hr1 HN
                go_wp2_with fail
                refine HN2.out.mono ?_
                rintro e w5 ⟨rfl, hb⟩
                have HB2 := Lib.hid hb
                clear hb
                go_wp2_with fail
                exact ⟨rfl, rdp_err_mk hge.out (HBU.out.trans HB2.out)⟩
              · have HN2 := Lib.hid (rdp_ok HN.out hr1)
                have HF := Lib.hid (part_few hr1)
                have HL2 : Hid (leftP M (ps ++ [p]) t1 = R) := Lib.hid (by rw [← HL1.out, bindR_at hr1])
                clear hr1 HL1 HN
                go_wp2_with fail
                refine HN2.out.mono ?_
                rintro e w5 ⟨v5, rfl, hv5, k5, hk5, rfl, hrd5, hb5⟩
                obtain ⟨A5, c5, rfl, hel⟩ := eps_new HO.out hv5 HF.out
                have HEL := Lib.hid hel
                have HR5 := Lib.hid hrd5
                have HO5 := Lib.hid (HO.out.but (eps_steady _) (above_eps _) hb5 hgs.out)
                have HB5 := Lib.hid (HBU.out.trans hb5)
                have HK5 := Lib.hid (Nat.le_trans HKK.out hk5)
                clear hrd5 hb5 hk5 hv5 hel HN2 HO HR1 HBU HKK
                obtain ⟨i0, hi0, hz0, hz1, hz2⟩ := info_parts bs_info
                have hlen : Hid (ps.length ≤ 1000) := Lib.hid (by rw [HPL.out]; omega)
                go_wp2_with (refine wpList_append_OG rfl _ _ 25 rfl (eps_steady _) HO5.out i0 (.slice none 0 0) 24 Try.underlying25 hi0 hz0 hz1 hz2 rfl (by decide) rfl p #[.slice A5 p.length c5] rfl rfl (by intro u hu; simp at hu; subst hu; rfl) HEL.out (by have := hlen.out; unfold maxLen; omega) (by have := hlen.out; omega) ?_; intro v' w6 hog6 hbel6; refine Hid.out ?_)
                refine Lib.hid ?_
                have HO6 := Lib.hid hog6
                have HB6 := Lib.hid hbel6
                clear hog6 hbel6
                go_wp2_with fail
                refine ⟨⟨j + 1, k5, ps ++ [p], by omega, by go_num, by rw [List.length_append, HPL.out]; rfl, HK5.out, HO6.out, HR5.out.low HB6.out hgs.out, HB5.out.low HB6.out HB3.out.size, by rw [HM.out]; exact HL2.out⟩, by simp [intOf]; omega⟩
            · have hjd : decide ((j : Int) < (N : Int)) = false := by simp; omega
              have hjd2 : decide (j < N) = false := by simp; omega
              have hend : Hid (R = .ok (ps, bs.drop kk)) := Lib.hid (by
                rw [← HLQ.out, show N - j = 0 by omega]
                exact leftP_zero _ _)
              have hlen : Hid (ps.length ≤ 1000) := Lib.hid (by rw [HPL.out]; omega)
              go_wp2_with fail
              go_ret
              exact rdp_ok_mk hend.out (vlist_og HO.out hlen.out) HKK.out rfl HR1.out HBU.out
        · have hq : Hid (R = .error 3) := Lib.hid (by rw [← HQ3.out]; exact bindR_err (by unfold chkR; rw [if_neg hle]))
          have hd2 : decide ((N : Int) ≤ 1000) = false := by simp; omega
          go_wp2_with fail
          refine HC2.out.mono ?_
          rintro e w3 ⟨rfl, k3, hk3, ht, hrd, hb⟩
          have HB3 := Lib.hid (HB.out.trans hb)
          clear hb hrd ht
          go_wp2_with fail
          refine (need_no rfl).mono ?_
          rintro e w4 ⟨rfl, rfl⟩
          go_wp2_with fail
          exact ⟨rfl, rdp_err_mk hq.out HB3.out⟩
    · have hx : ¬ x = 3 := fun h => h3 (by rw [← hy]; exact (eq_u8 (m := 3) (by omega)).1 h)
      have hq : Hid (R = .error 3) := Lib.hid (by rw [← HQ1.out]; exact bindR_err (by unfold chkR; rw [if_neg hx]))
      have hd : ((y : Int) == 3) = false := by simp; omega
      clear h3 hx HQ1 hy
      go_enter Try.func41, Try.ntmps41
      go_wp2_with fail
      refine HC.out.mono ?_
      rintro e w1 ⟨rfl, k1, hk, ht, hrd, hb⟩
      have HB := Lib.hid hb
      clear hb hrd ht
      go_wp2_with fail
      refine (need_no rfl).mono ?_
      rintro e w2 ⟨rfl, rfl⟩
      go_wp2_with fail
      exact ⟨rfl, rdp_err_mk hq.out HB.out⟩

end Go.Proofs.Ytlpogkcfjbabaaa
