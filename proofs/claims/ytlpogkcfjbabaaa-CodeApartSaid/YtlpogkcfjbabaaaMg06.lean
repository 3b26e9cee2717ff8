/- The program's sets, and the reference's, in one form: what each call answers of lists of int; all that was there is kept. What the program's functions of layer 5 (graph) answer, as one list of contracts: the statements' walks lean on it alone. What the program's functions of layer 8 (code) answer, as one list of contracts: the statements' walks lean on it alone. The program's putters: numbers, signed ones, flags, texts. -/
import Derived.Test.YtlpogkcfjbabaaaMg03
import Derived.Test.YtlpogkcfjbabaaaMg04
import Derived.Test.YtlpogkcfjbabaaaMg05
import Derived.LoopTactic
import Derived.Laws.Bits64b
import Derived.Lib.AppendStr
namespace Go.Proofs.Ytlpogkcfjbabaaa
open Go.RowKit

section
variable {A A' : Option Addr} {n c n' c' : Nat} {xs ys : List Int} {w : World}
theorem s_isSet {v : Bool} (hr : RI w w.heap.size A n xs) (hn : n ≤ maxLen) (h : rightB xs = v) :
    Calls Try.prog 17 #[.slice A n c] w fun e w' => e = .returned (.bool v) ∧ Below w.heap.size w w' :=
  (right_any A n c xs w _ hr hn).mono fun _ _ ⟨h1, h2⟩ => ⟨by rw [h1, h], by rw [← h2]; exact Below.refl _ _⟩
theorem ri_isSet {v : Bool} (hr : RI w w.heap.size A n xs) (hn : n ≤ maxLen) (h : rightB xs = v) :
    Calls Try.prog 26 #[.slice A n c] w fun e w' => e = .returned (.bool v) ∧ Below w.heap.size w w' :=
  (refRight_any A n c xs w _ hr hn).mono fun _ _ ⟨h1, k, h2⟩ => ⟨by rw [h1, h], by rw [h2]; exact bel_drew w k⟩
theorem ri_has {x : Int} {v : Bool} (hr : RI w w.heap.size A n xs) (hn : n ≤ maxLen) (h : hasB xs x = v) :
    Calls Try.prog 27 #[.slice A n c, .int .i64 x] w fun e w' => e = .returned (.bool v) ∧ Below w.heap.size w w' :=
  (refHas_any A n c xs x w hr hn).mono fun _ _ ⟨h1, k, h2⟩ => ⟨by rw [h1, h], by rw [h2]; exact bel_drew w k⟩
theorem ri_same {v : Bool} (hr : RI w w.heap.size A n xs) (hr' : RI w w.heap.size A' n' ys) (hn : n ≤ maxLen) (hn' : n' ≤ maxLen) (h : sameB xs ys = v) :
    Calls Try.prog 19 #[.slice A n c, .slice A' n' c'] w fun e w' => e = .returned (.bool v) ∧ Below w.heap.size w w' :=
  (same_any A A' n c n' c' xs ys w _ _ hr hr' hn hn').mono fun _ _ ⟨h1, k, h2⟩ => ⟨by rw [h1, h], by rw [h2]; exact bel_drew w k⟩
end
theorem same_self (xs : List Int) : sameB xs xs = true := sameB_iff.2 rfl

end Go.Proofs.Ytlpogkcfjbabaaa

namespace Go.Proofs.Ytlpogkcfjbabaaa
open Go.RowKit

/-- what the statements ask about a graph, a list of numbers -/
structure GAsk (w : World) (A : Option Addr) (n c : Nat) (g : Gr) : Prop where
  reads : RG w w.heap.size A n g
  nil : A = none → c = 0
  cap : n ≤ c
  few : n ≤ 300
structure LAsk (w : World) (A : Option Addr) (n c : Nat) (l : List Int) : Prop where
  reads : RI w w.heap.size A n l
  nil : A = none → c = 0
  cap : n ≤ c
  few : n ≤ 300
  int : ∀ x ∈ l, I64 x
theorem GAsk.next {w w' : World} {A : Option Addr} {n c : Nat} {g : Gr} (h : GAsk w A n c g) (hb : Below w.heap.size w w') : GAsk w' A n c g := ⟨h.reads.next hb, h.nil, h.cap, h.few⟩
theorem LAsk.next {w w' : World} {A : Option Addr} {n c : Nat} {l : List Int} (h : LAsk w A n c l) (hb : Below w.heap.size w w') : LAsk w' A n c l := ⟨h.reads.next hb, h.nil, h.cap, h.few, h.int⟩

/-- a list of numbers, however long -/
structure WAsk (w : World) (A : Option Addr) (n c : Nat) (l : List Int) : Prop where
  reads : RI w w.heap.size A n l
  nil : A = none → c = 0
  cap : n ≤ c
  few : n ≤ maxLen
  int : ∀ x ∈ l, I64 x
theorem WAsk.next {w w' : World} {A : Option Addr} {n c : Nat} {l : List Int} (h : WAsk w A n c l) (hb : Below w.heap.size w w') : WAsk w' A n c l := ⟨h.reads.next hb, h.nil, h.cap, h.few, h.int⟩
theorem LAsk.wide {w : World} {A : Option Addr} {n c : Nat} {l : List Int} (h : LAsk w A n c l) : WAsk w A n c l := ⟨h.reads, h.nil, h.cap, Nat.le_trans h.few (by unfold maxLen; omega), h.int⟩

structure GraphOk : Prop where
  tag : ∀ (s : ByteArray) (w : World), s.size ≤ maxLen → Glob w →
    Calls Try.prog 34 #[.string s] w fun e w' => e = .returned (.bool (tagB s)) ∧ Below w.heap.size w w'

theorem ml300 {n : Nat} (h : n ≤ 300) : n ≤ maxLen := by unfold maxLen; omega
theorem calls_kinds {P : Program} {f : FuncId} {args : Array Value} {w : World} {v v' : Value} (h : Calls P f args w fun e w' => e = .returned v ∧ Below w.heap.size w w') (e : v = v') :
    Calls P f args w fun e w' => e = .returned v' ∧ Below w.heap.size w w' := by
  subst e; exact h
theorem i64_small {k : Nat} (h : k ≤ 300) : I64 (k : Int) := by unfold I64; omega

/-! The lists, as sets of numbers below 256 -/
section
variable {g : Gr}
theorem underL_len (a : Int) : (underL g a).length ≤ 256 := by
  unfold underL
  split
  · rename_i h
    have h1 := (rightG_is h.1).few
    exact Nat.le_trans (numsF_len _ _) h1
  · exact Nat.zero_le _
theorem aboveL_len (a : Int) : (aboveL g a).length ≤ 256 := by
  unfold aboveL
  split
  · rename_i h
    have h1 := (rightG_is h.1).few
    exact Nat.le_trans (numsF_len _ _) (by omega)
  · exact Nat.zero_le _
theorem wholeL_len (l : List Int) : (wholeL g l).length ≤ 256 := by
  unfold wholeL
  split
  · rename_i h
    unfold wholeOk at h
    rw [Bool.and_eq_true, Bool.and_eq_true] at h
    exact Nat.le_trans (numsF_len _ _) (rightG_is h.1.1).few
  · exact Nat.zero_le _
theorem nodesL_len : (nodesL g).length ≤ 256 := by
  unfold nodesL
  split
  · rename_i h
    exact Nat.le_trans (numsF_len _ _) (rightG_is h).few
  · exact Nat.zero_le _
theorem numsF_i64 {p : Nat → Bool} {n : Nat} (hn : n ≤ 300) : ∀ x ∈ numsF p n, I64 x := by
  intro x hx
  obtain ⟨k, hk, _, rfl⟩ := mem_numsF.1 hx
  exact i64_small (by omega)
theorem underL_i64 (a : Int) : ∀ x ∈ underL g a, I64 x := by
  unfold underL
  split
  · rename_i h
    have h1 := (rightG_is h.1).few
    exact numsF_i64 (by omega)
  · intro x hx; cases hx
theorem wholeL_i64 (l : List Int) : ∀ x ∈ wholeL g l, I64 x := by
  unfold wholeL
  split
  · rename_i h
    unfold wholeOk at h
    rw [Bool.and_eq_true, Bool.and_eq_true] at h
    have h1 := (rightG_is h.1.1).few
    exact numsF_i64 (by omega)
  · intro x hx; cases hx
end

end Go.Proofs.Ytlpogkcfjbabaaa

namespace Go.Proofs.Ytlpogkcfjbabaaa
open Go.RowKit

structure CodeOk : Prop where
  spec : ∀ (s : Sp) (w : World), SAsk s → Glob w → Calls Try.prog 9 #[spV s] w (NPost (ptSpec s).1 (ptSpec s).2 w)
  set : ∀ (A : Option Addr) (n c : Nat) (l : List Int) (w : World), LAsk w A n c l → Glob w → Calls Try.prog 11 #[.slice A n c] w (NPost (ptSet l).1 (ptSet l).2 w)
  list : ∀ (A : Option Addr) (n c : Nat) (ps : List Bs) (w : World), PAsk w A n c ps → ps.flatten.length ≤ 100000 → Glob w → Calls Try.prog 13 #[.slice A n c] w (BPost (ptList ps).1 (ptList ps).2 w)
  readSpec : ∀ (A : Option Addr) (n c : Nat) (bs : Bs) (w : World), BAsk w w.heap.size A n c bs → n ≤ 20000 → Glob w → Calls Try.prog 16 #[.slice A n c] w (SEPost (spReadSQ bs).1 (spReadSQ bs).2 w)
  readSet : ∀ (A : Option Addr) (n c : Nat) (bs : Bs) (w : World), BAsk w w.heap.size A n c bs → n ≤ 20000 → Glob w → Calls Try.prog 18 #[.slice A n c] w (IEPost (rdSetQ bs).1 (rdSetQ bs).2 w)
  readList : ∀ (A : Option Addr) (n c : Nat) (bs : Bs) (w : World), BAsk w w.heap.size A n c bs → n ≤ 20000 → Glob w → Calls Try.prog 20 #[.slice A n c] w (PPost (rdListQ bs).1 (rdListQ bs).2 w)

theorem ptSpec_len (s : Sp) : (ptSpec s).1.length ≤ 100 := by
  unfold ptSpec
  split
  · rename_i h; exact specB_len h
  · exact Nat.zero_le _
theorem ptSet_len (l : List Int) : (ptSet l).1.length ≤ 4700 := by
  unfold ptSet
  split
  · rename_i h; exact setB_len h
  · exact Nat.zero_le _
theorem ptList_len {ps : List Bs} (h : ps.flatten.length ≤ 100000) : (ptList ps).1.length ≤ 200000 := by
  unfold ptList
  split
  · exact Nat.zero_le _
  · rename_i h1
    split
    · unfold listB
      have := numB_len (n := ps.length) (by omega)
      simp only [List.length_cons, List.length_append]
      omega
    · exact Nat.zero_le _

/-- bytes and an error's number, both known; in new memory -/
def NP (b : Bs) (er : Int) (w : World) (e : Ending) (w' : World) : Prop :=
  (∃ A c, e = .returned (.tuple #[.slice A b.length c, .int .i64 er]) ∧ BAsk w' w'.heap.size A b.length c b ∧ ∀ a, A = some a → w.heap.size ≤ a.block) ∧ Below w.heap.size w w'
def BP (b : Bs) (er : Int) (w : World) (e : Ending) (w' : World) : Prop :=
  (∃ A c, e = .returned (.tuple #[.slice A b.length c, .int .i64 er]) ∧ BAsk w' w'.heap.size A b.length c b) ∧ Below w.heap.size w w'
theorem np_of {b : Bs} {er : Int} {w w' : World} {e : Ending} (hl : b.length ≤ maxLen) (h : NPost b er w e w') : NP b er w e w' := by
  obtain ⟨⟨A, c, h1, h2, h3, h4, h5⟩, h6⟩ := h
  exact ⟨⟨A, c, h1, ⟨h2, h3, h4, hl⟩, h5⟩, h6⟩
theorem bp_of {b : Bs} {er : Int} {w w' : World} {e : Ending} (hl : b.length ≤ maxLen) (h : BPost b er w e w') : BP b er w e w' := by
  obtain ⟨⟨A, c, h1, h2, h3, h4⟩, h6⟩ := h
  exact ⟨⟨A, c, h1, ⟨h2, h3, h4, hl⟩⟩, h6⟩
theorem ml_of {n k : Nat} (h : n ≤ k) (hk : k ≤ 1000000) : n ≤ maxLen := by unfold maxLen; omega
section
variable (H : CodeOk) {w : World} (hG : Glob w)
include H hG
theorem c8_spec {s : Sp} {b : Bs} {er : Int} (hs : SAsk s) (e : ptSpec s = (b, er)) : Calls Try.prog 9 #[.agg #[.int .i64 s.nodes, .int .i64 s.cores, .int .i64 s.gpus, .string s.tag, .bool s.whole, .int .i64 s.long, .int .i64 s.prio]] w (NP b er w) := by
  have := H.spec s w hs hG
  have hl := ptSpec_len s
  rw [e] at this hl
  exact this.mono fun _ _ h => np_of (ml_of hl (by omega)) h
theorem c8_set {A : Option Addr} {n c : Nat} {l : List Int} {b : Bs} {er : Int} (h : LAsk w A n c l) (e : ptSet l = (b, er)) : Calls Try.prog 11 #[.slice A n c] w (NP b er w) := by
  have := H.set A n c l w h hG
  have hl := ptSet_len l
  rw [e] at this hl
  exact this.mono fun _ _ h => np_of (ml_of hl (by omega)) h
theorem c8_list {A : Option Addr} {n c : Nat} {ps : List Bs} {b : Bs} {er : Int} (h : PAsk w A n c ps) (hs : ps.flatten.length ≤ 100000) (e : ptList ps = (b, er)) : Calls Try.prog 13 #[.slice A n c] w (BP b er w) := by
  have := H.list A n c ps w h hs hG
  have hl := ptList_len hs
  rw [e] at this hl
  exact this.mono fun _ _ h => bp_of (ml_of hl (by omega)) h
theorem c8_readSpec {A : Option Addr} {n c : Nat} {bs : Bs} {s : Sp} {er : Int} (h : BAsk w w.heap.size A n c bs) (hn : n ≤ 20000) (e : spReadSQ bs = (s, er)) :
    Calls Try.prog 16 #[.slice A n c] w fun e w' => e = .returned (.tuple #[.agg #[.int .i64 s.nodes, .int .i64 s.cores, .int .i64 s.gpus, .string s.tag, .bool s.whole, .int .i64 s.long, .int .i64 s.prio], .int .i64 er]) ∧ Below w.heap.size w w' := by
  have := H.readSpec A n c bs w h hn hG
  rw [e] at this
  exact this
theorem c8_readSet {A : Option Addr} {n c : Nat} {bs : Bs} {l : List Int} {er : Int} (h : BAsk w w.heap.size A n c bs) (hn : n ≤ 20000) (e : rdSetQ bs = (l, er)) : Calls Try.prog 18 #[.slice A n c] w (IEPost l er w) := by
  have := H.readSet A n c bs w h hn hG
  rw [e] at this
  exact this
theorem c8_readList {A : Option Addr} {n c : Nat} {bs : Bs} {ps : List Bs} {er : Int} (h : BAsk w w.heap.size A n c bs) (hn : n ≤ 20000) (e : rdListQ bs = (ps, er)) : Calls Try.prog 20 #[.slice A n c] w (PPost ps er w) := by
  have := H.readList A n c bs w h hn hG
  rw [e] at this
  exact this
end
/-- an owned row of parts, as it may be handed in -/
theorem on_pask {t : TypeId} {w wr : World} {v : Value} {ps : List Bs} (h : ON EP 1 t w v ps wr) (hl : ps.length ≤ 1000000) : ∃ A c, v = .slice A ps.length c ∧ PAsk wr A ps.length c ps := by
  obtain ⟨A, c, rfl, h1, h2⟩ := h.form
  exact ⟨A, c, rfl, h.reads ep_steady (by omega) rfl, h1, h2, ml_of hl (by omega)⟩
/-- a literal '[]int{..}' -/
theorem ri_lit (W : World) (xs : List Int) (t : TypeId) : RI (W.alloc (.cells (xs.map (Value.int .i64)).toArray t)) (W.heap.size + 1) (some ⟨W.heap.size, 0, none⟩) xs.length xs :=
  ⟨rfl, fun _ => ⟨W.heap.size, 0, rfl, by omega, fun j hj => by
    rw [World.cell?_alloc_at _ _ _ _ rfl]
    simp [List.getD, List.getElem?_eq_getElem hj]⟩⟩
theorem lask_lit (W : World) (xs : List Int) (t : TypeId) (hn : xs.length ≤ 300) (hi : ∀ x ∈ xs, I64 x) : LAsk (W.alloc (.cells (xs.map (Value.int .i64)).toArray t)) (some ⟨W.heap.size, 0, none⟩) xs.length xs.length xs :=
  ⟨(ri_lit W xs t).more (by simp), (fun e => by cases e), Nat.le_refl _, hn, hi⟩
theorem bask_lit {t : TypeId} (W : World) (bs : Bs) (hn : bs.length ≤ 1000) : BAsk (W.alloc (.cells (bcells bs).toArray t)) (W.alloc (.cells (bcells bs).toArray t)).heap.size (some ⟨W.heap.size, 0, none⟩) bs.length bs.length bs := by
  have h := onb_lit (t := t) W bs hn
  exact ⟨h.reads eb_steady (by omega) rfl, (fun e => by cases e), Nat.le_refl _, ml_of hn (by omega)⟩

end Go.Proofs.Ytlpogkcfjbabaaa

namespace Go.Proofs.Ytlpogkcfjbabaaa
open Go.RowKit

/-- a row of bytes that has grown by those -/
def Put (w : World) (bs : Bs) (e : Ending) (w' : World) : Prop := ∃ v, e = .returned v ∧ ON EB 1 5 w v bs w'
theorem or_128 (r : Nat) (h : r < 128) : bits .or .u8 (r : Int) 128 = ((r + 128 : Nat) : Int) := by
  have : ∀ r : Fin 128, bits .or .u8 ((r : Nat) : Int) 128 = (((r : Nat) + 128 : Nat) : Int) := by decide
  exact this ⟨r, h⟩
set_option maxRecDepth 100000 in
theorem wrap_u8 {k : Nat} (h : k < 256) : IntKind.u8.wrap (k : Int) = (k : Int) := by
  have : ∀ r : Fin 256, IntKind.u8.wrap ((r : Nat) : Int) = ((r : Nat) : Int) := by decide
  exact this ⟨k, h⟩
/-- a row that grows keeps all that is not its own -/
structure Keeps (wr : World) (v : Value) (w' : World) (v' : Value) : Prop where
  block : ∀ b, b < wr.heap.size → v.ownBlock ≠ some b → w'.heap[b]? = wr.heap[b]?
  size : wr.heap.size ≤ w'.heap.size
  own : v'.ownBlock = v.ownBlock ∨ ∀ b, v'.ownBlock = some b → wr.heap.size ≤ b
theorem Keeps.refl (w : World) (v : Value) : Keeps w v w v := ⟨fun _ _ _ => rfl, Nat.le_refl _, .inl rfl⟩
theorem Keeps.trans {w w1 w2 : World} {v v1 v2 : Value} (h : Keeps w v w1 v1) (k : Keeps w1 v1 w2 v2) : Keeps w v w2 v2 := by
  refine ⟨fun b hb hv => (k.block b (Nat.lt_of_lt_of_le hb h.size) (fun e => ?_)).trans (h.block b hb hv), Nat.le_trans h.size k.size, ?_⟩
  · rcases h.own with h1 | h1
    · exact hv (h1.symm.trans e)
    · have := h1 b e; omega
  · rcases k.own with h2 | h2
    · rcases h.own with h1 | h1
      · exact .inl (h2.trans h1)
      · exact .inr fun b hb => h1 b (by rw [← h2]; exact hb)
    · exact .inr fun b hb => Nat.le_trans h.size (h2 b hb)
/-- 'append(b, c)' of one byte -/
theorem wpList_append_B1 {ops : Array Oper} {rest : List Oper} {o : Oper} {a : Act} {Q : Exit → Act → World → Prop} {w wr : World} {v : Value} {xs : Bs} (hgd : o.guard = none) (s x : Operand)
    (ho : o.op = .call { callee := .builtin .append, args := #[s, x], argTypes := #[28, 28] })
    (h : ON EB 1 5 w v xs wr) (hs : a.eval s = v) (k : Nat) (hk : k < 256) (hx : a.eval x = .slice (some ⟨wr.heap.size, 0, none⟩) 1 1) (hl : xs.length ≤ 900000)
    (hn : ∀ v' w', ON EB 1 5 w v' (xs ++ [UInt8.ofNat k]) w' ∧ Keeps wr v w' v' → wpList Try.prog ops Q rest (a.put o.dst v') w') : wpList Try.prog ops Q (o :: rest) a (wr.alloc (.cells #[.int .u8 (k : Int)] 5)) := by
  obtain ⟨i0, hi0, hz0, hz1, hz2⟩ := info_parts byte_info
  have hB := h.below
  obtain ⟨fl, h2, _, h4⟩ := id h
  refine wpList_append_lies (wr.alloc (.cells #[.int .u8 (k : Int)] 5)) hgd s x 28 ho w.heap.size 5 i0 (.int .u8 0) 1 1 Try.underlying28 hi0 hz0 hz1 hz2 rfl (by decide) v xs.length fl hs (h2.alloc _) ⟨wr.heap.size, 0, none⟩ 1 1 [.int .u8 (k : Int)] hx rfl
    (World.news_of_block (cs := #[.int .u8 (k : Int)]) (t := 5) (fr := (0, 0)) (heap_alloc_new wr _)) (by intro u hu; simp at hu; subst hu; rfl) (by omega) (by unfold maxLen; omega) (by omega) (by have := hB.size; simp; omega) _ rfl ?_
  intro g cap w2 hown' hgrow hat hlt
  have hsz : wr.heap.size ≤ w2.heap.size := by have := hgrow.size; simp at this; omega
  refine hn _ _ ⟨h.snoc eb_steady h2 (by show _ = _; rw [ofNat_toNat8 hk]) rfl h4 hown' hgrow (hat.imp id (fun e => by rw [e]; simp)), fun b hb hv => (hgrow.block b (by simp; omega) (fun e => hv e.symm)).trans (heap_alloc_old _ _ hb), hsz, ?_⟩
  rcases hat with h5 | h5
  · exact .inl h5.symm
  · refine .inr fun b hb => ?_
    have hb' : g = b := by simpa [Value.ownBlock] using hb
    rw [← hb', h5]; simp
theorem numB_few {n : Nat} (h : n < 9223372036854775808) : (numB n).length ≤ 20 := by
  by_cases h1 : n < 128
  · rw [numB_low h1]; simp
  · rw [numB_high h1]
    have := numB_len (n := n / 128) (by omega)
    simp; omega
set_option maxRecDepth 100000 in
set_option maxHeartbeats 4000000 in
theorem putNumberK_any (n : Nat) (hn : n < 9223372036854775808) (w wr : World) (v : Value) (xs : Bs) (h : ON EB 1 5 w v xs wr) (hx : xs.length ≤ 200000) :
    Calls Try.prog 28 #[v, .int .i64 (n : Int)] wr (fun e w' => ∃ v', e = .returned v' ∧ ON EB 1 5 w v' (xs ++ numB n) w' ∧ Keeps wr v w' v') := by
  have H := Lib.hid h
  have HX := Lib.hid hx
  obtain ⟨w0, hw0⟩ : ∃ w0, wr = w0 := ⟨_, rfl⟩
  clear h hx
  have HNL : Hid ((numB n).length ≤ 20) := Lib.hid (numB_few hn)
  go_enter Try.func28, Try.ntmps28
  go_wp2_with fail
  go_loopw [0, 1] (fun b i wx => ∃ (m : Nat) (ys : Bs), i = .int .i64 (m : Int) ∧ m < 9223372036854775808 ∧ ys ++ numB m = numB n ∧ ON EB 1 5 w b (xs ++ ys) wx ∧ Keeps w0 v wx b) (fun _ i _ => (intOf i).toNat)
  case atStart => exact ⟨n, [], rfl, hn, rfl, by simpa using H.out, by rw [← hw0]; exact Keeps.refl _ _⟩
  case round =>
    obtain ⟨m, ys, rfl, hm, he, hon, hkp⟩ := hrel
    have HK := Lib.hid hkp
    clear hkp
    have HE := Lib.hid he
    have HO := Lib.hid hon
    have HLen : Hid ((xs ++ ys).length ≤ 300000) := Lib.hid (by
      have h1 := congrArg List.length HE.out
      have h2 := HX.out
      have h3 := HNL.out
      simp only [List.length_append] at h1 ⊢
      omega)
    clear he hon
    by_cases h128 : m < 128
    · have hd : decide ((128 : Int) ≤ (m : Int)) = false := by simp; omega
      have hd2 : decide (128 ≤ m) = false := by simp; omega
      have hw := wrap_u8 (show m < 256 by omega)
      have HN : Hid (xs ++ ys ++ [UInt8.ofNat m] = xs ++ numB n) := Lib.hid (by rw [← HE.out, numB_low h128, List.append_assoc])
      have HM : Hid (m < 256) := Lib.hid (by omega)
      clear h128
      go_wp2_with (at_builtin; refine wpList_append_B1 rfl _ _ rfl HO.out rfl m HM.out rfl (by have := HLen.out; omega) ?_; intro v' w4 hON4; refine Hid.out ?_)
      refine Lib.hid ?_
      have HO4 := Lib.hid hON4.1
      have HK4 := Lib.hid (HK.out.trans hON4.2)
      clear hON4
      go_wp2_with fail
      go_ret
      exact ⟨_, rfl, by rw [← HN.out]; exact HO4.out, by rw [hw0]; exact HK4.out⟩
    · have hd : decide ((128 : Int) ≤ (m : Int)) = true := by simp; omega
      have hd2 : decide (128 ≤ m) = true := by simp; omega
      obtain ⟨r, hr⟩ : ∃ r, m % 128 = r := ⟨_, rfl⟩
      obtain ⟨q, hq⟩ : ∃ q, m / 128 = q := ⟨_, rfl⟩
      have hr1 : (m : Int) % 128 = (r : Int) := by omega
      have hrl : r < 128 := by omega
      have hq1 : (m : Int) / 128 = (q : Int) := by omega
      have hqm : q < m := by omega
      have hw := wrap_u8 (show r < 256 by omega)
      have hor := or_128 r hrl
      have HN : Hid ((ys ++ [UInt8.ofNat (r + 128)]) ++ numB q = numB n) := Lib.hid (by rw [← HE.out, numB_high h128, hr, hq, List.append_assoc]; rfl)
      have HM : Hid (r + 128 < 256) := Lib.hid (by omega)
      clear h128 hr hq
      go_wp2_with (at_builtin; refine wpList_append_B1 rfl _ _ rfl HO.out rfl (r + 128) HM.out rfl (by have := HLen.out; omega) ?_; intro v' w4 hON4; refine Hid.out ?_)
      refine Lib.hid ?_
      have HO4 : Hid (ON EB 1 5 w v' (xs ++ (ys ++ [UInt8.ofNat (r + 128)])) w4) := Lib.hid (by rw [← List.append_assoc]; exact hON4.1)
      have HK4 := Lib.hid (HK.out.trans hON4.2)
      clear hON4
      go_wp2_with fail
      exact ⟨⟨q, ys ++ [UInt8.ofNat (r + 128)], rfl, by omega, HN.out, HO4.out, HK4.out⟩, by simp [intOf]; omega⟩

theorem putNumber_any (n : Nat) (hn : n < 9223372036854775808) (w wr : World) (v : Value) (xs : Bs) (h : ON EB 1 5 w v xs wr) (hx : xs.length ≤ 200000) :
    Calls Try.prog 28 #[v, .int .i64 (n : Int)] wr (Put w (xs ++ numB n)) :=
  (putNumberK_any n hn w wr v xs h hx).mono fun _ _ ⟨v', h1, h2, _⟩ => ⟨v', h1, h2⟩
/-- 'append(b, s...)' of a string -/
theorem wpList_append_S {ops : Array Oper} {rest : List Oper} {o : Oper} {a : Act} {Q : Exit → Act → World → Prop} {w wr : World} {v : Value} {xs : Bs} (hgd : o.guard = none) (s x : Operand)
    (ho : o.op = .call { callee := .builtin .append, args := #[s, x], argTypes := #[28, 9] })
    (h : ON EB 1 5 w v xs wr) (hs : a.eval s = v) (t : ByteArray) (hx : a.eval x = .string t) (hl : xs.length + t.size ≤ 900000)
    (hn : ∀ v' w', ON EB 1 5 w v' (xs ++ t.data.toList) w' → wpList Try.prog ops Q rest (a.put o.dst v') w') : wpList Try.prog ops Q (o :: rest) a wr := by
  obtain ⟨i0, hi0, hz0, hz1, hz2⟩ := info_parts byte_info
  obtain ⟨hown, hB⟩ := onb_own h
  have htl : t.data.toList.length = t.size := by rw [Array.length_toList]; rfl
  refine Lib.wpList_append_own_string wr hgd s x 28 9 ho w.heap.size 5 i0 Try.underlying28 Try.underlying9 hi0 hz0 hz1 hz2 v xs.length (bcells xs) hs hown t hx (by unfold maxLen; omega) (by omega) hB.size fun v' w' h1 h2 _ => ?_
  refine hn v' w' (own_onb ?_ (hB.grown h2 hB.size fun b hb => (hown.lt b hb).1))
  rw [List.length_append, htl]
  have e : bcells (xs ++ t.data.toList) = bcells xs ++ Lib.strCells t := by
    unfold bcells
    rw [List.map_append]
    rfl
  rw [e]
  exact h1
theorem Put.plain {w w' : World} {bs : Bs} {e : Ending} (h : Put w bs e w') {bs' : Bs} (hb : bs = bs') : Put w bs' e w' := by
  subst hb; exact h

set_option maxRecDepth 100000 in
set_option maxHeartbeats 4000000 in
theorem putSigned_any (p : Int) (hp1 : -1000 ≤ p) (hp2 : p ≤ 1000) (w wr : World) (v : Value) (xs : Bs) (h : ON EB 1 5 w v xs wr) (hx : xs.length ≤ 200000) :
    Calls Try.prog 44 #[v, .int .i64 p] wr (Put w (xs ++ numB (signN p))) := by
  obtain ⟨sn, hsn⟩ : ∃ n, signN p = n := ⟨_, rfl⟩
  have H := Lib.hid h
  rw [hsn]
  by_cases hp : p < 0
  · have e1 : Hid (-2 * p - 1 = (sn : Int)) := Lib.hid (by unfold signN at hsn; rw [if_pos hp] at hsn; omega)
    have HS : Hid (sn < 9223372036854775808) := Lib.hid (by have := e1.out; omega)
    have hd : decide (p < 0) = true := by simpa using hp
    clear h hsn hp
    go_enter Try.func44, Try.ntmps44
    go_wp2_with fail
    rw [e1.out]
    refine (putNumber_any sn HS.out w wr v xs H.out hx).mono ?_
    rintro e w1 ⟨v1, rfl, h1⟩
    have H1 := Lib.hid h1
    clear h1
    go_wp2_with fail
    go_ret
    exact ⟨_, rfl, H1.out⟩
  · have e1 : Hid (2 * p = (sn : Int)) := Lib.hid (by unfold signN at hsn; rw [if_neg hp] at hsn; omega)
    have HS : Hid (sn < 9223372036854775808) := Lib.hid (by have := e1.out; omega)
    have hd : decide (p < 0) = false := by simpa using hp
    clear h hsn hp
    go_enter Try.func44, Try.ntmps44
    go_wp2_with fail
    rw [e1.out]
    refine (putNumber_any sn HS.out w wr v xs H.out hx).mono ?_
    rintro e w1 ⟨v1, rfl, h1⟩
    have H1 := Lib.hid h1
    clear h1
    go_wp2_with fail
    go_ret
    exact ⟨_, rfl, H1.out⟩

set_option maxRecDepth 100000 in
set_option maxHeartbeats 4000000 in
theorem putText_any (t : ByteArray) (ht : t.size ≤ 16) (w wr : World) (v : Value) (xs : Bs) (h : ON EB 1 5 w v xs wr) (hx : xs.length ≤ 200000) :
    Calls Try.prog 42 #[v, .string t] wr (Put w (xs ++ (numB t.size ++ t.data.toList))) := by
  have H := Lib.hid h
  have HX := Lib.hid hx
  have HT := Lib.hid ht
  clear h hx ht
  go_enter Try.func42, Try.ntmps42
  go_wp2_with fail
  refine (putNumber_any t.size (by have := HT.out; omega) w wr v xs H.out HX.out).mono ?_
  rintro e w1 ⟨v1, rfl, h1⟩
  have H1 := Lib.hid h1
  have HL : Hid ((xs ++ numB t.size).length + t.size ≤ 900000) := Lib.hid (by have := numB_few (n := t.size) (by have := HT.out; omega); have := HX.out; have := HT.out; rw [List.length_append]; omega)
  clear h1
  go_wp2_with (at_builtin; refine wpList_append_S rfl _ _ rfl H1.out rfl t rfl HL.out ?_; intro v' w4 hON4; refine Hid.out ?_)
  refine Lib.hid ?_
  have HO4 : Hid (ON EB 1 5 w v' (xs ++ (numB t.size ++ t.data.toList)) w4) := Lib.hid (by rw [← List.append_assoc]; exact hON4)
  clear hON4
  go_wp2_with fail
  go_ret
  exact ⟨_, rfl, HO4.out⟩

set_option maxRecDepth 100000 in
set_option maxHeartbeats 4000000 in
theorem putFlag_any (b : Bool) (w wr : World) (v : Value) (xs : Bs) (h : ON EB 1 5 w v xs wr) (hx : xs.length ≤ 200000) :
    Calls Try.prog 43 #[v, .bool b] wr (Put w (xs ++ [if b = true then 1 else 0])) := by
  have H := Lib.hid h
  have HX : Hid (xs.length ≤ 900000) := Lib.hid (by omega)
  clear h hx
  cases b with
  | true =>
    go_enter Try.func43, Try.ntmps43
    go_wp2_with (at_builtin; refine wpList_append_B1 rfl _ _ rfl H.out rfl 1 (by decide) rfl HX.out ?_; intro v' w4 hON4; refine Hid.out ?_)
    refine Lib.hid ?_
    have HO4 := Lib.hid hON4.1
    clear hON4
    go_wp2_with fail
    go_ret
    exact ⟨_, rfl, HO4.out⟩
  | false =>
    go_enter Try.func43, Try.ntmps43
    go_wp2_with (at_builtin; refine wpList_append_B1 rfl _ _ rfl H.out rfl 0 (by decide) rfl HX.out ?_; intro v' w4 hON4; refine Hid.out ?_)
    refine Lib.hid ?_
    have HO4 := Lib.hid hON4.1
    clear hON4
    go_wp2_with fail
    go_ret
    exact ⟨_, rfl, HO4.out⟩

end Go.Proofs.Ytlpogkcfjbabaaa
