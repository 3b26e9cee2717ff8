/- The program's readers: a number's ninth byte that says that more follow is none at once. Written by gen/gen_codeq.py out of CodeMath..4's words. What is taken of the library's tables, where a seat's code reaches them: nothing, or that they lie as Go's text lays them. Words for memory: a slice of things that reads as a graph's list. Plain words for layer 5's walks: strings that are tags, where a graph breaks off, a number appended. The reference's Same of two lists of numbers (bailiwickref01). -/
import Derived.Test.YtlpogkcfjbabaaaMg02
import Derived.Test.YtlpogkcfjbabaaaMg01
import Derived.Test.YtlpogkcfjbabaaaMg03
import Derived.LoopTactic
import Derived.Deep.QuietTactic
import Derived.BigQuiet
namespace Go.Proofs.Ytlpogkcfjbabaaa

/-- byte i of a number on, of which acc was read: the ninth one is the last -/
def gotQ : Nat → Nat → Bs → Except Nat (Nat × Bs)
  | _, _, [] => .error 2
  | i, acc, c :: t => if c.toNat < 128 then (if (0 < i ∧ c.toNat = 0) ∨ 4611686018427387904 < acc + c.toNat * 128 ^ i then .error 3 else .ok (acc + c.toNat * 128 ^ i, t))
      else if i < 8 then gotQ (i + 1) (acc + c.toNat % 128 * 128 ^ i) t else .error 3
def numQ : Rd Nat := gotQ 0 0
/-- where the one tells a number, so does the other -/
theorem got_iff : ∀ (b : Bs) (i acc n : Nat) (t : Bs), i ≤ 8 → (gotQ i acc b = .ok (n, t) ↔ gotR i acc b = .ok (n, t)) := by
  intro b
  induction b with
  | nil => intro i acc n t _; simp [gotR, gotQ]
  | cons c s ih =>
    intro i acc n t hi
    rw [gotR, gotQ]
    have hc0 : c = 0 ↔ c.toNat = 0 := ⟨fun h => by rw [h]; rfl, fun h => by rw [← toNat_ofNat8 c, h]; rfl⟩
    by_cases h2 : c.toNat < 128
    · rw [if_pos h2, if_pos h2]
      by_cases h1 : 0 < i ∧ c = 0
      · rw [if_pos (.inl ⟨h1.1, hc0.1 h1.2⟩), if_pos (.inr h1)]
      · rw [if_neg (show ¬ (8 < i ∨ (0 < i ∧ c = 0)) by
          rintro (h | h)
          · omega
          · exact h1 h)]
        by_cases h3 : 4611686018427387904 < acc + c.toNat * 128 ^ i
        · rw [if_pos h3, if_pos (.inr h3)]
        · rw [if_neg h3, if_neg (by
            rintro (h | h)
            · exact h1 ⟨h.1, hc0.2 h.2⟩
            · exact h3 h)]
    · rw [if_neg h2, if_neg h2, if_neg (show ¬ (8 < i ∨ (0 < i ∧ c = 0)) by
        rintro (h | h)
        · omega
        · rw [hc0.1 h.2] at h2; omega)]
      by_cases h8 : i < 8
      · rw [if_pos h8]; exact ih _ _ _ _ (by omega)
      · rw [if_neg h8]
        have : i = 8 := by omega
        subst this
        refine ⟨(fun h => by cases h), fun h => ?_⟩
        exfalso
        cases s with
        | nil => rw [gotR] at h; cases h
        | cons d s => rw [gotR, if_pos (.inl (by omega))] at h; cases h
theorem num_backQ {b t : Bs} {n : Nat} (h : numQ b = .ok (n, t)) : b = numB n ++ t ∧ n ≤ 4611686018427387904 := num_back ((got_iff b 0 0 n t (by omega)).1 h)
theorem num_putQ {n : Nat} (h : n ≤ 4611686018427387904) (t : Bs) : numQ (numB n ++ t) = .ok (n, t) := (got_iff _ 0 0 n t (by omega)).2 (num_put h t)
theorem got_cleanQ : ∀ (b : Bs) (i acc n : Nat) (t : Bs), gotQ i acc b = .ok (n, t) → ∃ u, b = u ++ t ∧ (∀ t', gotQ i acc (u ++ t') = .ok (n, t')) ∧ ∀ v w, u = v ++ w → w ≠ [] → gotQ i acc v = .error 2 := by
  intro b
  induction b with
  | nil => intro i acc n t h; simp [gotQ] at h
  | cons c s ih =>
    intro i acc n t h
    rw [gotQ] at h
    by_cases h2 : c.toNat < 128
    · rw [if_pos h2] at h
      by_cases h3 : (0 < i ∧ c.toNat = 0) ∨ 4611686018427387904 < acc + c.toNat * 128 ^ i
      · rw [if_pos h3] at h; cases h
      · rw [if_neg h3] at h
        injection h with h; injection h with h4 h5
        subst h4 h5
        refine ⟨[c], rfl, fun t' => ?_, fun v w h hw => ?_⟩
        · show gotQ i acc (c :: t') = _
          rw [gotQ, if_pos h2, if_neg h3]
        · cases v with
          | nil => rfl
          | cons x v =>
            have := congrArg List.length h
            have hwl : 0 < w.length := List.length_pos_iff.2 hw
            simp only [List.length_append, List.length_cons, List.length_nil] at this
            omega
    · rw [if_neg h2] at h
      by_cases h8 : i < 8
      · rw [if_pos h8] at h
        obtain ⟨u, e, g, k⟩ := ih _ _ _ _ h
        refine ⟨c :: u, by rw [e]; rfl, fun t' => ?_, fun v w h hw => ?_⟩
        · show gotQ i acc (c :: (u ++ t')) = _
          rw [gotQ, if_neg h2, if_pos h8, g]
        · cases v with
          | nil => rfl
          | cons x v =>
            injection h with h3 h4
            subst h3
            rw [gotQ, if_neg h2, if_pos h8]
            exact k v w h4 hw
      · rw [if_neg h8] at h; cases h
theorem clean_numQ : Clean numQ := ⟨fun b n t h => got_cleanQ b 0 0 n t h⟩
def specQ : Rd Sp := bindR byteR fun c => bindR (chkR (c = 1)) fun _ => bindR numQ fun a => bindR numQ fun b => bindR numQ fun g => bindR numQ fun n => bindR (chkR (n ≤ 16)) fun _ => bindR (takeR n) fun tg =>
  bindR byteR fun o => bindR (chkR (o.toNat ≤ 1)) fun _ => bindR numQ fun l => bindR numQ fun p => bindR (chkR (rightS ⟨a, b, g, ⟨tg.toArray⟩, o == 1, l, unsignN p⟩ = true)) fun _ => retR ⟨a, b, g, ⟨tg.toArray⟩, o == 1, l, unsignN p⟩
theorem clean_specQ : Clean specQ := by
  unfold specQ
  exact clean_bind clean_byte fun _ => clean_bind (clean_chk _) fun _ => clean_bind clean_numQ fun _ => clean_bind clean_numQ fun _ => clean_bind clean_numQ fun _ => clean_bind clean_numQ fun _ => clean_bind (clean_chk _) fun _ => clean_bind (clean_take _) fun _ => clean_bind clean_byte fun _ => clean_bind (clean_chk _) fun _ => clean_bind clean_numQ fun _ => clean_bind clean_numQ fun _ => clean_bind (clean_chk _) fun _ => clean_ret _
/-- what is read was put in just these bytes -/
theorem spec_putQ {b t : Bs} {s : Sp} (h : specQ b = .ok (s, t)) : rightS s = true ∧ b = specB s ++ t := by
  unfold specQ at h
  obtain ⟨c, t1, h1, h⟩ := bindR_ok h
  obtain ⟨_, t2, h2, h⟩ := bindR_ok h
  obtain ⟨a1, t3, h3, h⟩ := bindR_ok h
  obtain ⟨a2, t4, h4, h⟩ := bindR_ok h
  obtain ⟨a3, t5, h5, h⟩ := bindR_ok h
  obtain ⟨n, t6, h6, h⟩ := bindR_ok h
  obtain ⟨_, t7, h7, h⟩ := bindR_ok h
  obtain ⟨tg, t8, h8, h⟩ := bindR_ok h
  obtain ⟨o, t9, h9, h⟩ := bindR_ok h
  obtain ⟨_, t10, h10, h⟩ := bindR_ok h
  obtain ⟨l, t11, h11, h⟩ := bindR_ok h
  obtain ⟨p, t12, h12, h⟩ := bindR_ok h
  obtain ⟨_, t13, h13, h⟩ := bindR_ok h
  have e1 := byte_is h1
  obtain ⟨c2, e2⟩ := chk_is h2
  have e3 := (num_backQ h3).1
  have e4 := (num_backQ h4).1
  have e5 := (num_backQ h5).1
  have e6 := (num_backQ h6).1
  obtain ⟨_, e7⟩ := chk_is h7
  obtain ⟨e8, k8⟩ := take_is h8
  have e9 := byte_is h9
  obtain ⟨c10, e10⟩ := chk_is h10
  have e11 := (num_backQ h11).1
  have e12 := (num_backQ h12).1
  obtain ⟨c13, e13⟩ := chk_is h13
  unfold retR at h
  injection h with h; injection h with hs ht
  subst hs ht
  refine ⟨c13, ?_⟩
  have ho : (if (o == 1) = true then (1 : UInt8) else 0) = o := by
    by_cases h1 : o = 1
    · subst h1; rfl
    · have : o = 0 := by
        have h2 : o.toNat = 0 := by
          have : o.toNat ≠ 1 := fun e => h1 (by rw [← toNat_ofNat8 o, e]; rfl)
          omega
        rw [← toNat_ofNat8 o, h2]; rfl
      subst this; rfl
  have hsz : (⟨tg.toArray⟩ : ByteArray).size = n := by show tg.toArray.size = n; simp [k8]
  unfold specB
  dsimp only
  rw [Int.toNat_natCast, Int.toNat_natCast, Int.toNat_natCast, Int.toNat_natCast, hsz, sign_put, ho, e1, c2, e2, e3, e4, e5, e6, e7, e8, e9, e10, e11, e12, e13]
  simp
/-- what was put is read as it was -/
theorem spec_readQ {s : Sp} (h : rightS s = true) (t : Bs) : specQ (specB s ++ t) = .ok (s, t) := by
  obtain ⟨h0, h1, h2, h3, h4, h5, h6⟩ := rightS_is h
  have hts : s.tag.size ≤ 16 := by unfold tagB at h0; rw [Bool.and_eq_true, decide_eq_true_eq] at h0; exact h0.2
  have htl : s.tag.data.toList.length = s.tag.size := by rw [Array.length_toList]; rfl
  obtain ⟨sb1, sb2⟩ := sign_back h6
  have e1 : ((s.nodes.toNat : Nat) : Int) = s.nodes := by omega
  have e2 : ((s.cores.toNat : Nat) : Int) = s.cores := by omega
  have e3 : ((s.gpus.toNat : Nat) : Int) = s.gpus := by omega
  have e4 : ((s.long.toNat : Nat) : Int) = s.long := by omega
  have e5 : (⟨s.tag.data.toList.toArray⟩ : ByteArray) = s.tag := by simp
  have e6 : ((if s.whole = true then (1 : UInt8) else 0) == 1) = s.whole := by cases s.whole <;> rfl
  have e7 : (if s.whole = true then (1 : UInt8) else 0).toNat ≤ 1 := by cases s.whole <;> decide
  have es : (⟨(s.nodes.toNat : Nat), (s.cores.toNat : Nat), (s.gpus.toNat : Nat), ⟨s.tag.data.toList.toArray⟩, (if s.whole = true then (1 : UInt8) else 0) == 1, (s.long.toNat : Nat), unsignN (signN s.prio)⟩ : Sp) = s := by
    rw [e1, e2, e3, e4, e5, e6, sb1]
  unfold specQ specB
  simp only [List.append_assoc, List.cons_append]
  rw [bindR_at (x := 1) (t := _) rfl, bindR_at (chk_ok rfl), bindR_at (num_putQ (by omega) _), bindR_at (num_putQ (by omega) _), bindR_at (num_putQ (by omega) _), bindR_at (num_putQ (by omega) _), bindR_at (chk_ok hts), ← htl, bindR_at (take_put _ _), bindR_at (x := (if s.whole = true then (1 : UInt8) else 0)) (t := _) rfl, bindR_at (chk_ok e7), bindR_at (num_putQ (by omega) _), bindR_at (num_putQ (by omega) _), es, bindR_at (chk_ok h)]
  rfl
def runsQ : Nat → Bool → Nat → Rd (List Int)
  | 0, _, _ => retR []
  | k + 1, first, last => bindR numQ fun far => bindR numQ fun more => bindR (chkR (far ≤ 255 ∧ more ≤ 255 ∧ last + far + more ≤ 255 ∧ (first = true ∨ 2 ≤ far))) fun _ =>
      bindR (runsQ k false (last + far + more)) fun r => retR (runN (last + far) more ++ r)
def setQ : Rd (List Int) := bindR byteR fun c => bindR (chkR (c = 2)) fun _ => bindR numQ fun n => bindR (chkR (n ≤ 256)) fun _ => runsQ n true 0
theorem clean_runsQ : ∀ (k : Nat) (first : Bool) (last : Nat), Clean (runsQ k first last) := by
  intro k
  induction k with
  | zero => intro _ _; exact clean_ret _
  | succ k ih => intro first last; exact clean_bind clean_numQ fun _ => clean_bind clean_numQ fun _ => clean_bind (clean_chk _) fun _ => clean_bind (ih _ _) fun _ => clean_ret _
theorem clean_setQ : Clean setQ := clean_bind clean_byte fun _ => clean_bind (clean_chk _) fun _ => clean_bind clean_numQ fun _ => clean_bind (clean_chk _) fun _ => clean_runsQ _ _ _
theorem runs_readQ : ∀ (rs : List (Nat × Nat)) (first : Bool) (last : Nat) (t : Bs), okRuns first last rs → runsQ rs.length first last (runsB last rs ++ t) = .ok (flatR rs, t) := by
  intro rs
  induction rs with
  | nil => intro _ _ t _; rfl
  | cons fm r ih =>
    intro first last t h
    obtain ⟨f, m⟩ := fm
    obtain ⟨h1, h2, h3, h4⟩ := h
    show runsQ (r.length + 1) first last ((numB (f - last) ++ (numB m ++ runsB (f + m) r)) ++ t) = _
    rw [List.append_assoc, List.append_assoc]
    unfold runsQ
    rw [bindR_at (num_putQ (by omega) _), bindR_at (num_putQ (by omega) _), bindR_at (chk_ok ⟨by omega, by omega, by omega, h3.imp id (by omega)⟩), show last + (f - last) + m = f + m by omega, bindR_at (ih false (f + m) t h4), show last + (f - last) = f by omega]
    rfl
/-- a set that was put is read as it was -/
theorem set_readQ {l : List Int} (h : rightB l = true) (t : Bs) : setQ (setB l ++ t) = .ok (l, t) := by
  have hk : (runsL l).length ≤ 256 := Nat.le_trans (runsL_len l) (right_few h)
  unfold setQ setB
  rw [List.cons_append, List.append_assoc, bindR_at (x := 2) (t := _) rfl, bindR_at (chk_ok rfl), bindR_at (num_putQ (by omega) _), bindR_at (chk_ok hk), runs_readQ _ true 0 t (runs_ok l h), runs_flat l fun y hy => (right_mem h y hy).1]
theorem runs_putQ : ∀ (k : Nat) (first : Bool) (last : Nat) (b t : Bs) (l : List Int), runsQ k first last b = .ok (l, t) → ∃ rs, rs.length = k ∧ okRuns first last rs ∧ l = flatR rs ∧ b = runsB last rs ++ t := by
  intro k
  induction k with
  | zero =>
    intro first last b t l h
    unfold runsQ retR at h
    injection h with h; injection h with h1 h2
    exact ⟨[], rfl, trivial, h1.symm, h2⟩
  | succ k ih =>
    intro first last b t l h
    unfold runsQ at h
    obtain ⟨far, t1, h1, h⟩ := bindR_ok h
    obtain ⟨more, t2, h2, h⟩ := bindR_ok h
    obtain ⟨_, t3, h3, h⟩ := bindR_ok h
    obtain ⟨r, t4, h4, h⟩ := bindR_ok h
    have e1 := (num_backQ h1).1
    have e2 := (num_backQ h2).1
    obtain ⟨c3, e3⟩ := chk_is h3
    obtain ⟨rs, q1, q2, q3, q4⟩ := ih _ _ _ _ _ h4
    unfold retR at h
    injection h with h; injection h with h5 h6
    refine ⟨(last + far, more) :: rs, by simp [q1], ⟨by omega, by omega, c3.2.2.2.imp id (by omega), q2⟩, by rw [← h5, q3]; rfl, ?_⟩
    show b = (numB (last + far - last) ++ (numB more ++ runsB (last + far + more) rs)) ++ t
    rw [show last + far - last = far by omega, e1, e2, e3, q4, h6, List.append_assoc, List.append_assoc]
/-- a set that is read was put in just these bytes -/
theorem set_putQ {b t : Bs} {l : List Int} (h : setQ b = .ok (l, t)) : rightB l = true ∧ b = setB l ++ t := by
  unfold setQ at h
  obtain ⟨c, t1, h1, h⟩ := bindR_ok h
  obtain ⟨_, t2, h2, h⟩ := bindR_ok h
  obtain ⟨n, t3, h3, h⟩ := bindR_ok h
  obtain ⟨_, t4, h4, h⟩ := bindR_ok h
  have e1 := byte_is h1
  obtain ⟨c2, e2⟩ := chk_is h2
  have e3 := (num_backQ h3).1
  obtain ⟨_, e4⟩ := chk_is h4
  obtain ⟨rs, q1, q2, q3, q4⟩ := runs_putQ _ _ _ _ _ _ h
  obtain ⟨k1, k2, _⟩ := runs_of rs true 0 q2
  subst q3
  refine ⟨k2, ?_⟩
  unfold setB
  rw [k1, q1, e1, c2, e2, e3, e4, q4, List.cons_append, List.append_assoc]
/-- a part of a list: the bytes of a spec, or of a set -/
def partQ : Rd Bs
  | [] => .error 2
  | c :: s => if c = 1 then (match specQ (c :: s) with
      | .ok (_, t) => .ok ((c :: s).take ((c :: s).length - t.length), t)
      | .error e => .error e) else (match setQ (c :: s) with
      | .ok (_, t) => .ok ((c :: s).take ((c :: s).length - t.length), t)
      | .error e => .error e)
theorem partR_consQ (c : UInt8) (s : Bs) : partQ (c :: s) = if c = 1 then (match specQ (c :: s) with
      | .ok (_, t) => .ok ((c :: s).take ((c :: s).length - t.length), t)
      | .error e => .error e) else (match setQ (c :: s) with
      | .ok (_, t) => .ok ((c :: s).take ((c :: s).length - t.length), t)
      | .error e => .error e) := rfl
def partsQ : Nat → Rd (List Bs)
  | 0 => retR []
  | k + 1 => bindR partQ fun p => bindR (partsQ k) fun r => retR (p :: r)
def listQ : Rd (List Bs) := bindR byteR fun c => bindR (chkR (c = 3)) fun _ => bindR numQ fun n => bindR (chkR (n ≤ 1000)) fun _ => partsQ n
theorem part_readQ {p : Bs} (h : IsPart p) (t : Bs) : partQ (p ++ t) = .ok (p, t) := by
  rcases h with ⟨s, hs, rfl⟩ | ⟨l, hl, rfl⟩
  · obtain ⟨q, hq⟩ := specB_cons s
    have h1 := spec_readQ hs t
    have h2 := take_front (specB s) t
    rw [hq] at h1 h2 ⊢
    rw [List.cons_append] at h1 h2 ⊢
    rw [partR_consQ, if_pos rfl, h1]
    dsimp only
    rw [h2]
  · obtain ⟨q, hq⟩ := setB_cons l
    have h1 := set_readQ hl t
    have h2 := take_front (setB l) t
    rw [hq] at h1 h2 ⊢
    rw [List.cons_append] at h1 h2 ⊢
    rw [partR_consQ, if_neg (by decide), h1]
    dsimp only
    rw [h2]
theorem part_putQ {b p t : Bs} (h : partQ b = .ok (p, t)) : IsPart p ∧ b = p ++ t := by
  cases b with
  | nil => cases h
  | cons c s =>
    rw [partR_consQ] at h
    by_cases hc : c = 1
    · rw [if_pos hc] at h
      cases hs : specQ (c :: s) with
      | error e => rw [hs] at h; cases h
      | ok r =>
        obtain ⟨x, u⟩ := r
        rw [hs] at h
        dsimp only at h
        injection h with h; injection h with h1 h2
        obtain ⟨k1, k2⟩ := spec_putQ hs
        subst h2
        have := take_front (specB x) u
        rw [← k2, h1] at this
        subst this
        exact ⟨.inl ⟨x, k1, rfl⟩, k2⟩
    · rw [if_neg hc] at h
      cases hs : setQ (c :: s) with
      | error e => rw [hs] at h; cases h
      | ok r =>
        obtain ⟨x, u⟩ := r
        rw [hs] at h
        dsimp only at h
        injection h with h; injection h with h1 h2
        obtain ⟨k1, k2⟩ := set_putQ hs
        subst h2
        have := take_front (setB x) u
        rw [← k2, h1] at this
        subst this
        exact ⟨.inr ⟨x, k1, rfl⟩, k2⟩
theorem parts_readQ : ∀ (ps : List Bs) (t : Bs), (∀ p ∈ ps, IsPart p) → partsQ ps.length (ps.flatten ++ t) = .ok (ps, t) := by
  intro ps
  induction ps with
  | nil => intro t _; rfl
  | cons p r ih =>
    intro t h
    show partsQ (r.length + 1) ((p ++ r.flatten) ++ t) = _
    unfold partsQ
    rw [List.append_assoc, bindR_at (part_readQ (h p (by simp)) _), bindR_at (ih t fun q hq => h q (by simp [hq]))]
    rfl
theorem parts_putQ : ∀ (k : Nat) (b t : Bs) (ps : List Bs), partsQ k b = .ok (ps, t) → ps.length = k ∧ (∀ p ∈ ps, IsPart p) ∧ b = ps.flatten ++ t := by
  intro k
  induction k with
  | zero =>
    intro b t ps h
    unfold partsQ retR at h
    injection h with h; injection h with h1 h2
    subst h1 h2
    exact ⟨rfl, (fun p hp => by cases hp), rfl⟩
  | succ k ih =>
    intro b t ps h
    unfold partsQ at h
    obtain ⟨p, t1, h1, h⟩ := bindR_ok h
    obtain ⟨r, t2, h2, h⟩ := bindR_ok h
    unfold retR at h
    injection h with h; injection h with h3 h4
    subst h3 h4
    obtain ⟨q1, q2⟩ := part_putQ h1
    obtain ⟨k1, k2, k3⟩ := ih _ _ _ h2
    refine ⟨by simp [k1], fun x hx => ?_, by rw [q2, k3]; simp⟩
    rcases List.mem_cons.1 hx with rfl | hx
    · exact q1
    · exact k2 x hx
theorem list_readQ {ps : List Bs} (h1 : ps.length ≤ 1000) (h2 : ∀ p ∈ ps, IsPart p) : listQ (listB ps) = .ok (ps, []) := by
  unfold listQ listB
  rw [bindR_at (x := 3) (t := _) rfl, bindR_at (chk_ok rfl), bindR_at (num_putQ (by omega) _), bindR_at (chk_ok h1)]
  have := parts_readQ ps [] h2
  rwa [List.append_nil] at this
theorem list_putQ {b : Bs} {ps : List Bs} (h : listQ b = .ok (ps, [])) : ps.length ≤ 1000 ∧ (∀ p ∈ ps, IsPart p) ∧ b = listB ps := by
  unfold listQ at h
  obtain ⟨c, t1, h1, h⟩ := bindR_ok h
  obtain ⟨_, t2, h2, h⟩ := bindR_ok h
  obtain ⟨n, t3, h3, h⟩ := bindR_ok h
  obtain ⟨_, t4, h4, h⟩ := bindR_ok h
  have e1 := byte_is h1
  obtain ⟨c2, e2⟩ := chk_is h2
  have e3 := (num_backQ h3).1
  obtain ⟨c4, e4⟩ := chk_is h4
  obtain ⟨q1, q2, q3⟩ := parts_putQ _ _ _ _ h
  refine ⟨by omega, q2, ?_⟩
  unfold listB
  rw [q1, e1, c2, e2, e3, e4, q3, List.append_nil]
def spReadSQ (b : Bs) : Sp × Int := wholeOf sp0 specQ b
def rdSetQ (b : Bs) : List Int × Int := wholeOf [] setQ b
def rdListQ (b : Bs) : List Bs × Int := wholeOf [] listQ b
section
variable {α β : Type}
theorem nn_numQ : NoNil numQ := by
  have key : ∀ (b : Bs) (i acc e : Nat), gotQ i acc b = .error e → e ≠ 0 := by
    intro b
    induction b with
    | nil => intro i acc e h; rw [gotQ] at h; injection h with h; omega
    | cons c s ih =>
      intro i acc e h
      rw [gotQ] at h
      split at h
      · split at h
        · injection h with h; omega
        · cases h
      · split at h
        · exact ih _ _ _ h
        · injection h with h; omega
  exact fun b e h => key b 0 0 e h
end
theorem nn_specQ : NoNil specQ :=
  nn_bind nn_byte fun _ => nn_bind (nn_chk _) fun _ => nn_bind nn_numQ fun _ => nn_bind nn_numQ fun _ => nn_bind nn_numQ fun _ => nn_bind nn_numQ fun _ => nn_bind (nn_chk _) fun _ => nn_bind (nn_take _) fun _ => nn_bind nn_byte fun _ => nn_bind (nn_chk _) fun _ => nn_bind nn_numQ fun _ => nn_bind nn_numQ fun _ => nn_bind (nn_chk _) fun _ => nn_ret _
theorem nn_runsQ : ∀ (k : Nat) (first : Bool) (last : Nat), NoNil (runsQ k first last) := by
  intro k
  induction k with
  | zero => intro _ _; exact nn_ret _
  | succ k ih => intro first last; exact nn_bind nn_numQ fun _ => nn_bind nn_numQ fun _ => nn_bind (nn_chk _) fun _ => nn_bind (ih _ _) fun _ => nn_ret _
theorem nn_setQ : NoNil setQ := nn_bind nn_byte fun _ => nn_bind (nn_chk _) fun _ => nn_bind nn_numQ fun _ => nn_bind (nn_chk _) fun _ => nn_runsQ _ _ _
theorem nn_partQ : NoNil partQ := fun b e h => by
  cases b with
  | nil => unfold partQ at h; injection h with h; omega
  | cons c s =>
    rw [partR_consQ] at h
    split at h
    · cases hr : specQ (c :: s) with
      | error e' => rw [hr] at h; injection h with h; rw [← h]; exact nn_specQ _ _ hr
      | ok r => rw [hr] at h; cases h
    · cases hr : setQ (c :: s) with
      | error e' => rw [hr] at h; injection h with h; rw [← h]; exact nn_setQ _ _ hr
      | ok r => rw [hr] at h; cases h
theorem nn_partsQ : ∀ (k : Nat), NoNil (partsQ k) := by
  intro k
  induction k with
  | zero => exact nn_ret _
  | succ k ih => exact nn_bind nn_partQ fun _ => nn_bind ih fun _ => nn_ret _
theorem nn_listQ : NoNil listQ := nn_bind nn_byte fun _ => nn_bind (nn_chk _) fun _ => nn_bind nn_numQ fun _ => nn_bind (nn_chk _) fun _ => nn_partsQ _
theorem spec_backQ {s : Sp} (h : rightS s = true) : ptSpec s = (specB s, 0) ∧ spReadSQ (specB s) = (s, 0) := by
  refine ⟨by unfold ptSpec; rw [if_pos h], whole_at (by have := specB_len h; omega) ?_⟩
  have := spec_readQ h []
  rwa [List.append_nil] at this
theorem set_backQ {l : List Int} (h : rightB l = true) : ptSet l = (setB l, 0) ∧ rdSetQ (setB l) = (l, 0) := by
  refine ⟨by unfold ptSet; rw [if_pos h], whole_at (by have := setB_len h; omega) ?_⟩
  have := set_readQ h []
  rwa [List.append_nil] at this
theorem list_backQ {ps : List Bs} (h1 : ps.length ≤ 3) (h2 : ∀ p ∈ ps, IsPart p) : ptList ps = (listB ps, 0) ∧ rdListQ (listB ps) = (ps, 0) := by
  refine ⟨?_, whole_at ?_ (list_readQ (by omega) h2)⟩
  · unfold ptList
    rw [if_neg (by omega), if_pos (List.all_eq_true.2 fun p hp => part_ok (h2 p hp))]
  · have k : ps.flatten.length ≤ 4700 * ps.length := by
      clear h1
      induction ps with
      | nil => exact Nat.zero_le _
      | cons p r ih =>
        have := part_len (h2 p (by simp))
        have := ih fun q hq => h2 q (by simp [hq])
        simp only [List.flatten_cons, List.length_append, List.length_cons]
        omega
    have k2 := numB_len (n := ps.length) (by omega)
    unfold listB
    simp only [List.length_cons, List.length_append]
    omega
/-- of bytes that are a spec's: they are put so, and one byte less is too short -/
theorem spec_oneQ {b : Bs} {s : Sp} (h : spReadSQ b = (s, 0)) : b ≠ [] ∧ b.headD 0 = 1 ∧ ptSpec s = (b, 0) ∧ (b.length ≤ 65536 → spReadSQ b.dropLast = (sp0, 2)) := by
  have h1 := whole_ok nn_specQ h
  obtain ⟨k1, k2⟩ := spec_putQ h1
  rw [List.append_nil] at k2
  obtain ⟨q, hq⟩ := specB_cons s
  have hb : b ≠ [] := by rw [k2, hq]; simp
  refine ⟨hb, by rw [k2, hq]; rfl, by unfold ptSpec; rw [if_pos k1, ← k2], fun hl => ?_⟩
  exact whole_err (by rw [List.length_dropLast]; omega) (clean_specQ.short h1 hb)
theorem set_oneQ {b : Bs} {l : List Int} (h : rdSetQ b = (l, 0)) : b ≠ [] ∧ b.headD 0 = 2 ∧ ptSet l = (b, 0) ∧ (b.length ≤ 65536 → rdSetQ b.dropLast = ([], 2)) := by
  have h1 := whole_ok nn_setQ h
  obtain ⟨k1, k2⟩ := set_putQ h1
  rw [List.append_nil] at k2
  obtain ⟨q, hq⟩ := setB_cons l
  have hb : b ≠ [] := by rw [k2, hq]; simp
  refine ⟨hb, by rw [k2, hq]; rfl, by unfold ptSet; rw [if_pos k1, ← k2], fun hl => ?_⟩
  exact whole_err (by rw [List.length_dropLast]; omega) (clean_setQ.short h1 hb)
theorem list_oneQ {b : Bs} {ps : List Bs} (h : rdListQ b = (ps, 0)) : b.headD 0 = 3 ∧ ptList ps = (b, 0) := by
  obtain ⟨k1, k2, k3⟩ := list_putQ (whole_ok nn_listQ h)
  refine ⟨by rw [k3]; rfl, ?_⟩
  unfold ptList
  rw [if_neg (by omega), if_pos (List.all_eq_true.2 fun p hp => part_ok (k2 p hp)), ← k3]

/-- a part of a list is read just where it is a spec's bytes or a set's -/
theorem part_okQ {p : Bs} : (wholeOf [] partQ p).2 = 0 ↔ partOk p = true := by
  constructor
  · intro h
    obtain ⟨x, hx⟩ : ∃ x, wholeOf [] partQ p = (x, 0) := ⟨(wholeOf [] partQ p).1, by rw [← h]⟩
    obtain ⟨k1, k2⟩ := part_putQ (whole_ok nn_partQ hx)
    rw [List.append_nil] at k2
    subst k2
    exact part_ok k1
  · intro h
    have hp : IsPart p := by
      unfold partOk at h
      rw [decide_eq_true_eq] at h
      rcases h with h | h
      · obtain ⟨s, hs⟩ : ∃ s, spReadS p = (s, 0) := ⟨(spReadS p).1, by rw [← h]⟩
        have h2 := (spec_one hs).2.2.1
        unfold ptSpec at h2
        split at h2
        · rename_i hr
          injection h2 with h2 _
          exact .inl ⟨s, hr, h2.symm⟩
        · injection h2 with _ h2; cases h2
      · obtain ⟨s, hs⟩ : ∃ s, rdSet p = (s, 0) := ⟨(rdSet p).1, by rw [← h]⟩
        have h2 := (set_one hs).2.2.1
        unfold ptSet at h2
        split at h2
        · rename_i hr
          injection h2 with h2 _
          exact .inr ⟨s, hr, h2.symm⟩
        · injection h2 with _ h2; cases h2
    have h3 := part_readQ hp []
    rw [List.append_nil] at h3
    rw [whole_at (by have := part_len hp; omega) h3]

end Go.Proofs.Ytlpogkcfjbabaaa

namespace Go.Proofs.Ytlpogkcfjbabaaa
open Go.RowKit

def Glob (w : World) : Prop := (w = w)
theorem Glob.next {w w' : World} (h : Glob w) (hb : Below w.heap.size w w') : Glob w' := by
  have _h := h
  have _hb := hb
  first
    | exact rfl

end Go.Proofs.Ytlpogkcfjbabaaa

namespace Go.Proofs.Ytlpogkcfjbabaaa
open Go.RowKit

/-- a thing as an element: three cells -/
def ETh : Elem Th := fun _ _ x vs => vs = [.int .i64 x.kind, .int .i64 x.up, .string x.tag] ∧ I64 x.kind ∧ I64 x.up ∧ x.tag.size ≤ maxLen
theorem eth_steady : Steady ETh := ⟨fun h _ _ => h⟩
/-- '.slice A n c' reads as the things g, all below block B -/
def RG (w : World) (B : Nat) (A : Option Addr) (n : Nat) (g : Gr) : Prop := RN ETh 3 w (Lt B) A n g
section
variable {w w' : World} {B n : Nat} {A : Option Addr} {g : Gr}
theorem RG.len (h : RG w B A n g) : g.length = n := h.1
theorem RG.nil : RG w B A 0 [] := RN.nil
theorem RG.next (h : RG w w.heap.size A n g) (hb : Below w.heap.size w w') : RG w' w'.heap.size A n g := RN.next eth_steady h hb
theorem RG.below (h : RG w B A n g) (hb : Below B w w') : RG w' B A n g := RN.below eth_steady h hb
theorem RG.drewN (h : RG w B A n g) (k : Nat) : RG (w.drewN k) B A n g := RN.drewN h eth_steady k
theorem RG.one (h : RG w B A n g) {k : Nat} (hk : k < n) : ∃ b off, A = some ⟨b, off, none⟩ ∧ b < B ∧ w.cell? ⟨b, off + k * 3, none⟩ = some (.int .i64 (gk g k)) ∧ w.cell? ⟨b, off + k * 3 + 1, none⟩ = some (.int .i64 (gu g k)) ∧ w.cell? ⟨b, off + k * 3 + 2, none⟩ = some (.string (gt g k)) ∧ (I64 (gk g k) ∧ I64 (gu g k) ∧ (gt g k).size ≤ maxLen) := by
  have hl : k < g.length := by rw [h.1]; exact hk
  obtain ⟨b, off, vs, e, hb, _, hc, hv⟩ := RN.at h (List.getElem?_eq_getElem hl)
  obtain ⟨hv', hb1⟩ := hv
  subst hv'
  have hg : g.getD k th0 = g[k] := by rw [List.getD, List.getElem?_eq_getElem hl]; rfl
  refine ⟨b, off, e, hb, ?_, ?_, ?_, by unfold gk gu gt; rw [hg]; exact hb1⟩
  · have := hc 0 _ rfl; unfold gk; rw [hg]; exact this
  · have := hc 1 _ rfl; unfold gu; rw [hg]; exact this
  · have := hc 2 _ rfl; unfold gt; rw [hg]; exact this
end

/-- the counts of five kinds, as an array's value -/
def kVal (g : Gr) (l : List Int) : Value := .agg #[.int .i64 (kc g l 0), .int .i64 (kc g l 1), .int .i64 (kc g l 2), .int .i64 (kc g l 3), .int .i64 (kc g l 4)]

end Go.Proofs.Ytlpogkcfjbabaaa

namespace Go.Proofs.Ytlpogkcfjbabaaa
open Go.RowKit

theorem bytes_snoc (s : ByteArray) (k : Nat) (h : k < s.size) : s.data.toList.take (k + 1) = s.data.toList.take k ++ [s[k]] := by
  rw [List.take_succ_eq_append_getElem (by simpa using h)]; rfl
theorem str_empty {s : ByteArray} (h : s.size = 0) : s = ⟨#[]⟩ := by
  apply ByteArray.ext
  exact Array.eq_empty_of_size_eq_zero h
theorem str_facts {s : ByteArray} (h : s.size ≠ 0) : (¬ s.toList = []) ∧ s.toList.isEmpty = false ∧ (s.toList == []) = false ∧ (s.toList != []) = true := by
  have h1 : ¬ s.toList = [] := fun e => h (by
    rw [ByteArray.toList_eq] at e
    have : s.data.toList.length = 0 := by rw [e]; rfl
    simpa using this)
  refine ⟨h1, ?_, ?_, ?_⟩
  · rw [← Bool.not_eq_true, List.isEmpty_iff]; exact h1
  · rw [← Bool.not_eq_true, beq_iff_eq]; exact h1
  · rw [bne_iff_ne]; exact h1
theorem tagB_size {s : ByteArray} (h : tagB s = true) : s.size ≤ 16 := by
  unfold tagB at h
  rw [Bool.and_eq_true, decide_eq_true_eq] at h
  exact h.2
theorem rightG_no {g : Gr} {i : Nat} (hi : i < g.length) (h : ¬ okT g i) : rightG g = false := by
  unfold rightG
  rw [decide_eq_false_iff_not]
  exact fun h' => h (h'.2.2 i hi)
theorem okT_zero (g : Gr) : okT g 0 ↔ gk g 0 = 0 ∧ gu g 0 = -1 ∧ (gt g 0).size = 0 := by unfold okT; rw [if_pos rfl]
theorem okT_pos {g : Gr} {i : Nat} (h : 0 < i) : okT g i ↔ 0 ≤ gu g i ∧ gu g i < i ∧ ((gt g i).size = 0 ∨ gk g i = 2) ∧ tagB (gt g i) = true ∧
      ((gk g i = 1 ∧ gk g (gu g i).toNat = 0) ∨ (gk g i = 2 ∧ gk g (gu g i).toNat < 2) ∨ ((gk g i = 3 ∨ gk g i = 4) ∧ gk g (gu g i).toNat = 2)) := by unfold okT; rw [if_neg (by omega)]
/-- one number more is appended -/
theorem wpList_append_EI {P : Program} {ops : Array Oper} {rest : List Oper} {o : Oper} {a : Act} {Q : Exit → Act → World → Prop} {w wr : World} {v : Value} {xs : List Int} (hgd : o.guard = none) (s x : Operand) (ty t : TypeId)
    (ho : o.op = .call { callee := .builtin .append, args := #[s, x], argTypes := #[ty, ty] })
    (h : ON EI 1 t w v xs wr) (i : TypeInfo) (ht : P.underlying ty = some (.slice t)) (hi : P.info? t = some i) (hz : i.zero = some (.int .i64 0)) (hsize : i.size = 1) (hby : i.bytes = 8)
    (hs : a.eval s = v) (x0 : Int) (hx : a.eval x = .slice (some ⟨wr.heap.size, 0, none⟩) 1 1) (hl : xs.length ≤ 1000)
    (hk : ∀ v' w', ON EI 1 t w v' (xs ++ [x0]) w' → wpList P ops Q rest (a.put o.dst v') w') : wpList P ops Q (o :: rest) a (wr.alloc (.cells #[.int .i64 x0] t)) :=
  wpList_append_ON hgd s x ty ho ei_steady h i (.int .i64 0) 8 ht hi hz hsize hby rfl (by decide) hs x0 #[.int .i64 x0] hx rfl (by intro u hu; simp at hu; subst hu; rfl) rfl (by unfold maxLen; omega) (by omega) hk

theorem wholeL_no {g : Gr} {l : List Int} (h : ¬ (rightG g = true ∧ rightB l = true ∧ ∀ x ∈ l, x < g.length)) : wholeL g l = [] := by
  unfold wholeL wholeOk
  rw [if_neg]
  intro h'
  rw [Bool.and_eq_true, Bool.and_eq_true, decide_eq_true_eq] at h'
  exact h ⟨h'.1.1, h'.1.2, h'.2⟩
theorem wholeL_yes {g : Gr} {l : List Int} (h1 : rightG g = true) (h2 : rightB l = true) (h3 : ∀ x ∈ l, x < g.length) : wholeL g l = numsF (anyOver g l) g.length := by
  unfold wholeL wholeOk
  rw [if_pos (by rw [h1, h2, decide_eq_true h3]; rfl)]
theorem right_lt_last {l : List Int} (h : rightB l = true) : ∀ (j i : Nat), i < j → j < l.length → l.getD i 0 < l.getD j 0 := by
  rw [rightB_iff] at h
  intro j
  induction j with
  | zero => intro i hi; omega
  | succ j ih =>
    intro i hi hj
    have := (h (j + 1) hj).2.2 (by omega)
    rw [Nat.add_sub_cancel] at this
    rcases Nat.lt_or_ge i j with h' | h'
    · have := ih i h' (by omega); omega
    · obtain rfl : i = j := by omega
      exact this
theorem all_lt_last {l : List Int} (h : rightB l = true) (hl : 0 < l.length) (N : Nat) : l.getD (l.length - 1) 0 < N → ∀ x ∈ l, x < N := by
  intro h1 x hx
  obtain ⟨i, hi, rfl⟩ := List.getElem_of_mem hx
  have e : l[i] = l.getD i 0 := by rw [List.getD, List.getElem?_eq_getElem hi]; rfl
  rw [e]
  rcases Nat.lt_or_ge i (l.length - 1) with h' | h'
  · have := right_lt_last h (l.length - 1) i h' (by omega); omega
  · obtain rfl : i = l.length - 1 := by omega
    exact h1
theorem anyOver_no {g : Gr} {l : List Int} {k : Nat} (h : ∀ i, i < l.length → overG g k (l.getD i 0).toNat = false) : anyOver g l k = false := by
  unfold anyOver
  rw [List.any_eq_false]
  intro x hx
  obtain ⟨i, hi, rfl⟩ := List.getElem_of_mem hx
  have := h i hi
  rw [List.getD, List.getElem?_eq_getElem hi] at this
  intro h'
  rw [show l[i] = (some l[i]).getD 0 from rfl, this] at h'
  cases h'

end Go.Proofs.Ytlpogkcfjbabaaa

namespace Go.Proofs.Ytlpogkcfjbabaaa
open Go.RowKit

def sameB (xs ys : List Int) : Bool := xs == ys
theorem sameB_iff {xs ys : List Int} : sameB xs ys = true ↔ xs = ys := by unfold sameB; exact beq_iff_eq
set_option maxHeartbeats 400000 in
theorem same_any (A A' : Option Addr) (n c n' c' : Nat) (xs ys : List Int) (w : World) (B B' : Nat) (hr : RI w B A n xs) (hr' : RI w B' A' n' ys) (hn : n ≤ maxLen) (hn' : n' ≤ maxLen) :
    Calls Try.prog 19 #[.slice A n c, .slice A' n' c'] w fun e w' => e = .returned (.bool (sameB xs ys)) ∧ ∃ k, w' = w.drewN k := by
  unfold maxLen at hn hn'
  have HLEN := Lib.hid hr.1
  have HLEN' := Lib.hid hr'.1
  by_cases hnn : n = n'
  · subst hnn
    go_enter Try.func19, Try.ntmps19
    go_wp2
    go_loopw [5] (fun i wr => ∃ k : Nat, k ≤ n ∧ i = .int .i64 k ∧ (∀ i, i < k → xs.getD i 0 = ys.getD i 0) ∧ ∃ q, wr = w.drewN q) (fun i _ => n - (intOf i).toNat)
    case atStart => exact ⟨0, Nat.zero_le _, rfl, fun i hi => absurd hi (by omega), 0, rfl⟩
    case round =>
      obtain ⟨k, hk, rfl, hpre, q, rfl⟩ := hrel
      have HP := Lib.hid hpre
      clear hpre
      by_cases hlt : k < n
      · obtain ⟨b, off, rfl, hb, hc⟩ := hr.2 (by omega)
        obtain ⟨b', off', rfl, hb', hc'⟩ := hr'.2 (by omega)
        have hck := hc k hlt
        have hck' := hc' k hlt
        clear hc hr hc' hr'
        by_cases hx : xs.getD k 0 = ys.getD k 0
        · have HX := Lib.hid hx
          have h1 : (xs.getD k 0 == ys.getD k 0) = true := by simpa using hx
          have h2 : (xs.getD k 0 != ys.getD k 0) = false := by simpa using hx
          clear hx
          generalize hx : xs.getD k 0 = x at *
          generalize hy : ys.getD k 0 = y at *
          have HXX := Lib.hid hx
          have HYY := Lib.hid hy
          clear hx hy
          go_wp2
          go_quiet (fail)
          go_wp2
          go_roundw
          case rel =>
            refine ⟨k + 1, by omega, by go_num, ?_, _, rfl⟩
            intro i hi
            rcases Nat.lt_or_ge i k with h | h
            · exact HP.out i h
            · obtain rfl : i = k := by omega
              rw [HXX.out, HYY.out]; exact HX.out
          case measure => simp [intOf]; omega
        · have hne : Hid (sameB xs ys = false) := Lib.hid (by
            rw [← Bool.not_eq_true, sameB_iff]
            rintro rfl; exact hx rfl)
          have h1 : (xs.getD k 0 == ys.getD k 0) = false := by simpa using hx
          have h2 : (xs.getD k 0 != ys.getD k 0) = true := by simpa using hx
          clear hx
          generalize xs.getD k 0 = x at *
          generalize ys.getD k 0 = y at *
          go_wp2
          go_quiet (fail)
          go_wp2
          go_ret
          exact ⟨ret_bool hne.out, _, World.drewN_drewN _ _ _⟩
      · have hall : Hid (sameB xs ys = true) := Lib.hid (by
          rw [sameB_iff]
          have h1 := HLEN.out; have h2 := HLEN'.out
          refine List.ext_getElem (by omega) fun i hi hi' => ?_
          have := HP.out i (by omega)
          rwa [show xs.getD i 0 = xs[i] by simp [List.getD, hi], show ys.getD i 0 = ys[i] by simp [List.getD, hi']] at this)
        clear hr hr'
        go_wp2
        go_ret
        exact ⟨ret_bool hall.out, _, rfl⟩
  · have hne : Hid (sameB xs ys = false) := Lib.hid (by
      rw [← Bool.not_eq_true, sameB_iff]
      rintro rfl
      have h1 := HLEN.out; have h2 := HLEN'.out; omega)
    clear hr hr'
    go_enter Try.func19, Try.ntmps19
    go_wp2
    go_ret
    exact ⟨ret_bool hne.out, 0, rfl⟩

/-- of two that are the same -/
theorem r_same1 {A A' : Option Addr} {n c n' c' : Nat} {xs ys : List Int} {w : World} (hr : RI w w.heap.size A n xs) (hr' : RI w w.heap.size A' n' ys) (hn : n ≤ maxLen) (h : xs = ys) :
    Calls Try.prog 19 #[.slice A n c, .slice A' n' c'] w fun e w' => e = .returned (.bool true) ∧ Below w.heap.size w w' := by
  subst h
  exact (same_any A A' n c n' c' xs xs w _ _ hr hr' hn (by rw [← hr'.1, hr.1]; exact hn)).mono fun _ _ ⟨h1, k, h2⟩ => ⟨by rw [h1, sameB_iff.2 rfl], by rw [h2]; exact bel_drew w k⟩

end Go.Proofs.Ytlpogkcfjbabaaa
