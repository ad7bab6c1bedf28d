import PyProof.Rows.All
import VafmsBaseSpec
import VafmsaSpec
import Wide.All
import OpenK.AllK
import Wide.FinOn
import PyProof.EqAt
import PyProof.EqKinds
import PyProof.TupleCall
import Open.SpecLaws
import KE.OsGo
import HandS.ForSpec
import HandS.ForMost
import PySem.Challenge.RW_formattexts_s01_answers
import HandS.ExcInit
import HandS.ExcField
import KE.KExcInit
import PyProof.InstStoreFacts
import HandS.SortKw
import KE.DatumOrd
import HandS.StrMore
import KE.Datum
import KE.KEqSeq
import HandS.Text
import HandS.Rev
import HandS.Strs
import PyVafmsa
import PyFlatLaws
import HandS.TryMany
section
set_option linter.all false
/-! The plan: a format laid out as steps, its prints and scannings by walking them, against the specification's own recursions. -/
namespace FT
open VafmsBase

inductive Stp where
  | txt (w : Text) (t : Nat)
  | num (lo hi t : Nat)
  | word (lo hi t : Nat)
  | cho (ls : List (Nat × Nat))
/-- the numbers of a lead, its text, where it leads -/
structure Ld where
  nums : Value
  txt : Text
  tgt : Nat

/-- zeros in front up to a width -/
def zfill (d : Text) (w : Nat) : Text := List.replicate (w - d.length) 48 ++ d
def widthOf (lo hi : Nat) : Nat := if lo = hi then lo else 1
def numPrint (lo hi n : Nat) : Option Text :=
  let d := zfill (digitsOf n) (widthOf lo hi)
  if lo ≤ d.length ∧ d.length ≤ hi then some d else none
def Stp.byVal : Stp → Value → Option Ld
  | .txt w t, _ => some ⟨[], w, t⟩
  | .num lo hi t, v => match v with
    | [] => none
    | n :: _ => (numPrint lo hi n).map fun d => ⟨[n], d, t⟩
  | .word lo hi t, v => match v with
    | [] => none
    | k :: u => if lo ≤ k ∧ k ≤ hi then (if (u.take k).length < k ∨ (u.take k).all (fun x => decide (x < 26)) = false then none else some ⟨k :: u.take k, (u.take k).map (fun x => 97 + x), t⟩) else none
  | .cho ls, v => (ls.find? fun l => decide (v.take 1 = [l.1])).map fun l => ⟨[l.1], [], l.2⟩
/-- the texts that stand in front, of hi down to lo bytes -/
def fronts (t : Text) (lo hi : Nat) : List Text := (downFrom lo (min hi t.length)).map fun k => t.take k
def Stp.byTxt : Stp → Text → List Ld
  | .txt w t, x => if x.take w.length = w then [⟨[], w, t⟩] else []
  | .num lo hi t, x => (fronts x lo hi).filterMap fun d => if d.all isDigit = true ∧ numPrint lo hi (numberOf d) = some d then some ⟨[numberOf d], d, t⟩ else none
  | .word lo hi t, x => (fronts x lo hi).filterMap fun d => if d.all isLetter = true then some ⟨d.length :: d.map (fun b => b - 97), d, t⟩ else none
  | .cho ls, _ => ls.map fun l => ⟨[l.1], [], l.2⟩

/-! ### walking by a text -/
abbrev Scn := Text → List Value
def endScn : Scn := fun t => if t = [] then [[]] else []
def nextScn (F : List Scn) (s : Stp) : Scn := fun t => (s.byTxt t).flatMap fun l => ((F.getD l.tgt fun _ => []) (t.drop l.txt.length)).map fun v => l.nums ++ v
def scns (S : List Stp) : List Scn := S.foldl (fun F s => F ++ [nextScn F s]) [endScn]
def scn (S : List Stp) (n : Nat) : Scn := (scns S).getD n fun _ => []
theorem scns_snoc (S : List Stp) (s : Stp) : scns (S ++ [s]) = scns S ++ [nextScn (scns S) s] := by
  unfold scns
  rw [List.foldl_append]
  rfl
theorem rev_ind {α : Type} {P : List α → Prop} (h0 : P []) (hs : ∀ l a, P l → P (l ++ [a])) : ∀ l, P l := fun l => by
  have : ∀ r : List α, P r.reverse := fun r => by
    induction r with
    | nil => exact h0
    | cons a r ih =>
      rw [List.reverse_cons]
      exact hs _ _ ih
  have h := this l.reverse
  rwa [List.reverse_reverse] at h
theorem scns_length : ∀ S : List Stp, (scns S).length = S.length + 1 := rev_ind rfl fun S s ih => by
  rw [scns_snoc, List.length_append, ih, List.length_append]
  rfl
theorem scns_append (S : List Stp) : ∀ T : List Stp, ∃ F, scns (S ++ T) = scns S ++ F := rev_ind ⟨[], by simp⟩ fun T s ih => by
  obtain ⟨F, e⟩ := ih
  refine ⟨F ++ [nextScn (scns (S ++ T)) s], ?_⟩
  rw [← List.append_assoc, scns_snoc, e, List.append_assoc]
theorem scn_append {S : List Stp} (T : List Stp) {n : Nat} (h : n ≤ S.length) : scn (S ++ T) n = scn S n := by
  obtain ⟨F, e⟩ := scns_append S T
  unfold scn
  rw [e, List.getD_eq_getElem?_getD, List.getD_eq_getElem?_getD, List.getElem?_append_left (by rw [scns_length]; omega)]
theorem scn_last (S : List Stp) (s : Stp) (t : Text) : scn (S ++ [s]) (S.length + 1) t = (s.byTxt t).flatMap fun l => (scn S l.tgt (t.drop l.txt.length)).map fun v => l.nums ++ v := by
  show ((scns (S ++ [s])).getD (S.length + 1) fun _ => []) t = _
  rw [scns_snoc, List.getD_eq_getElem?_getD, ← scns_length S, List.getElem?_append_right (Nat.le_refl _), Nat.sub_self]
  rfl
theorem scn_end (S : List Stp) : scn S 0 = endScn := scn_append (S := []) S (Nat.le_refl _)

/-! ### walking by a value -/
abbrev Prt := Value → Option Text
def endPrt : Prt := fun v => if v = [] then some [] else none
def nextPrt (F : List Prt) (s : Stp) : Prt := fun v => (s.byVal v).bind fun l => ((F.getD l.tgt fun _ => none) (v.drop l.nums.length)).map fun x => l.txt ++ x
def prts (S : List Stp) : List Prt := S.foldl (fun F s => F ++ [nextPrt F s]) [endPrt]
def prt (S : List Stp) (n : Nat) : Prt := (prts S).getD n fun _ => none
theorem prts_snoc (S : List Stp) (s : Stp) : prts (S ++ [s]) = prts S ++ [nextPrt (prts S) s] := by
  unfold prts
  rw [List.foldl_append]
  rfl
theorem prts_length : ∀ S : List Stp, (prts S).length = S.length + 1 := rev_ind rfl fun S s ih => by
  rw [prts_snoc, List.length_append, ih, List.length_append]
  rfl
theorem prts_append (S : List Stp) : ∀ T : List Stp, ∃ F, prts (S ++ T) = prts S ++ F := rev_ind ⟨[], by simp⟩ fun T s ih => by
  obtain ⟨F, e⟩ := ih
  refine ⟨F ++ [nextPrt (prts (S ++ T)) s], ?_⟩
  rw [← List.append_assoc, prts_snoc, e, List.append_assoc]
theorem prt_append {S : List Stp} (T : List Stp) {n : Nat} (h : n ≤ S.length) : prt (S ++ T) n = prt S n := by
  obtain ⟨F, e⟩ := prts_append S T
  unfold prt
  rw [e, List.getD_eq_getElem?_getD, List.getD_eq_getElem?_getD, List.getElem?_append_left (by rw [prts_length]; omega)]
theorem prt_last (S : List Stp) (s : Stp) (v : Value) : prt (S ++ [s]) (S.length + 1) v = (s.byVal v).bind fun l => (prt S l.tgt (v.drop l.nums.length)).map fun x => l.txt ++ x := by
  show ((prts (S ++ [s])).getD (S.length + 1) fun _ => none) v = _
  rw [prts_snoc, List.getD_eq_getElem?_getD, ← prts_length S, List.getElem?_append_right (Nat.le_refl _), Nat.sub_self]
  rfl
theorem prt_end (S : List Stp) : prt S 0 = endPrt := prt_append (S := []) S (Nat.le_refl _)

/-! ### laying -/
/-- where n times begin, by n: from 0 to n -/
def layTimes (f : List Stp → Nat → List Stp × Nat) (sep : Text) : Nat → List Stp → Nat → List Stp × List Nat
  | 0, S, a => (S, [a])
  | 1, S, a => ((f S a).1, [a, (f S a).2])
  | n + 2, S, a =>
    let x := layTimes f sep (n + 1) S a
    let y := f (x.1 ++ [.txt sep (x.2.getLastD 0)]) (x.1.length + 1)
    (y.1, x.2 ++ [y.2])
def lay : Fmt → List Stp → Nat → List Stp × Nat
  | .done, S, a => (S, a)
  | .lit w r, S, a => let x := lay r S a; (x.1 ++ [.txt w x.2], x.1.length + 1)
  | .num lo hi r, S, a => let x := lay r S a; (x.1 ++ [.num lo hi x.2], x.1.length + 1)
  | .word lo hi r, S, a => let x := lay r S a; (x.1 ++ [.word lo hi x.2], x.1.length + 1)
  | .alt p q r, S, a =>
    let x := lay r S a
    let y := lay p x.1 x.2
    let z := lay q y.1 x.2
    (z.1 ++ [.cho [(0, y.2), (1, z.2)]], z.1.length + 1)
  | .opt p r, S, a =>
    let x := lay r S a
    let y := lay p x.1 x.2
    (y.1 ++ [.cho [(1, y.2), (0, x.2)]], y.1.length + 1)
  | .rep s lo hi p r, S, a =>
    let x := lay r S a
    let y := layTimes (fun S a => lay p S a) s hi x.1 x.2
    (y.1 ++ [.cho ((downFrom lo hi).map fun n => (n, y.2.getD n 0))], y.1.length + 1)

/-! ### numbers -/
theorem zfill_len (d : Text) (w : Nat) : (zfill d w).length = max w d.length := by
  unfold zfill
  rw [List.length_append, List.length_replicate]
  omega
theorem digits_pos (n : Nat) : 1 ≤ (digitsOf n).length := by
  unfold digitsOf
  rw [List.length_map]
  have : Nat.toDigits 10 n ≠ [] := Nat.toDigits_ne_nil
  cases h : Nat.toDigits 10 n with
  | nil => exact absurd h this
  | cons a l => simp
theorem numPrint_is {lo hi : Nat} (h1 : 1 ≤ lo) (h2 : lo ≤ hi) (n : Nat) : numPrint lo hi n = printNum lo hi n := by
  have hd := digits_pos n
  unfold numPrint printNum
  dsimp only
  by_cases e : lo = hi
  · subst e
    rw [if_pos rfl]
    have hw : widthOf lo lo = lo := if_pos rfl
    rw [hw, zfill_len]
    by_cases c : (digitsOf n).length ≤ lo
    · rw [if_pos c, if_pos (by omega)]
      rfl
    · rw [if_neg c, if_neg (by omega)]
  · rw [if_neg e]
    have hw : widthOf lo hi = 1 := if_neg e
    rw [hw, zfill_len]
    have hz : zfill (digitsOf n) 1 = digitsOf n := by
      unfold zfill
      rw [show 1 - (digitsOf n).length = 0 by omega]
      rfl
    rw [hz, show max 1 (digitsOf n).length = (digitsOf n).length by omega]
end FT
end
section
set_option linter.all false
namespace FT
open VafmsBase

theorem fm_congr {α β : Type} {l : List α} {f g : α → Option β} : (∀ a ∈ l, f a = g a) → l.filterMap f = l.filterMap g := by
  induction l with
  | nil => intro _; rfl
  | cons a l ih =>
    intro h
    rw [List.filterMap_cons, List.filterMap_cons, h a (List.mem_cons_self ..), ih fun b hb => h b (List.mem_cons_of_mem _ hb)]
theorem fl_congr {α β : Type} {l : List α} {f g : α → List β} : (∀ a ∈ l, f a = g a) → l.flatMap f = l.flatMap g := by
  induction l with
  | nil => intro _; rfl
  | cons a l ih =>
    intro h
    rw [List.flatMap_cons, List.flatMap_cons, h a (List.mem_cons_self ..), ih fun b hb => h b (List.mem_cons_of_mem _ hb)]
theorem downFrom_succ (lo hi : Nat) : downFrom lo (hi + 1) = if lo ≤ hi + 1 then (hi + 1) :: downFrom lo hi else [] := by
  unfold downFrom
  rw [List.range_succ, List.filter_append, List.reverse_append]
  by_cases h : lo ≤ hi + 1
  · rw [if_pos h]
    simp [h]
  · rw [if_neg h]
    simp only [List.filter_cons, List.filter_nil]
    rw [if_neg (by simpa using h)]
    have e : (List.range (hi + 1)).filter (fun n => decide (lo ≤ n)) = [] := by
      rw [List.filter_eq_nil_iff]
      intro a ha
      have := List.mem_range.mp ha
      simp
      omega
    rw [e]
    rfl
theorem downFrom_zero (lo : Nat) : downFrom lo 0 = if lo = 0 then [0] else [] := by
  unfold downFrom
  by_cases h : lo = 0
  · subst h; rfl
  · rw [if_neg h]
    simp [List.range_succ]
    omega
theorem mem_downFrom {lo hi k : Nat} : k ∈ downFrom lo hi ↔ lo ≤ k ∧ k ≤ hi := by
  unfold downFrom
  rw [List.mem_reverse, List.mem_filter, List.mem_range]
  simp
  omega
theorem downFrom_cut {β : Type} (lo L : Nat) (g : Nat → Option β) (hg : ∀ k, L < k → g k = none) : ∀ hi, (downFrom lo hi).filterMap g = (downFrom lo (min hi L)).filterMap g
  | 0 => by simp
  | hi + 1 => by
    by_cases h : hi + 1 ≤ L
    · rw [Nat.min_eq_left h]
    · have e : min (hi + 1) L = min hi L := by omega
      rw [e, downFrom_succ]
      by_cases c : lo ≤ hi + 1
      · rw [if_pos c, List.filterMap_cons, hg (hi + 1) (by omega)]
        exact downFrom_cut lo L g hg hi
      · rw [if_neg c]
        have : downFrom lo (min hi L) = [] := by
          cases e2 : downFrom lo (min hi L) with
          | nil => rfl
          | cons a l =>
            have : a ∈ downFrom lo (min hi L) := by rw [e2]; simp
            have := mem_downFrom.mp this
            omega
        rw [this]
theorem digits_step (n : Nat) : digitsOf n = if n < 10 then [48 + n] else digitsOf (n / 10) ++ [48 + n % 10] := by
  unfold digitsOf
  have dc : ∀ m, m < 10 → (Nat.digitChar m).toNat = 48 + m := by decide
  by_cases h : n < 10
  · rw [if_pos h, Nat.toDigits_of_lt_base h, List.map_cons, List.map_nil, dc n h]
  · rw [if_neg h, Nat.toDigits_of_base_le (by decide) (by omega), List.map_append, List.map_cons, List.map_nil, dc _ (Nat.mod_lt _ (by decide))]
theorem numberOf_snoc (d : Text) (b : Nat) : numberOf (d ++ [b]) = 10 * numberOf d + (b - 48) := by
  unfold numberOf
  rw [List.foldl_append]
  rfl
theorem numberOf_zero (d : Text) : numberOf (48 :: d) = numberOf d := by
  unfold numberOf
  rfl
theorem isDigit_iff {b : Nat} : isDigit b = true ↔ 48 ≤ b ∧ b ≤ 57 := by
  unfold isDigit
  simp
theorem isLetter_iff {b : Nat} : isLetter b = true ↔ 97 ≤ b ∧ b ≤ 122 := by
  unfold isLetter
  simp
theorem number_pos {b : Nat} (e : Text) (h : 49 ≤ b) : ∀ e : Text, 1 ≤ numberOf (b :: e) := by
  refine rev_ind ?_ ?_
  · unfold numberOf
    simp
    omega
  · intro l a ih
    rw [show b :: (l ++ [a]) = (b :: l) ++ [a] from rfl, numberOf_snoc]
    omega
theorem digits_back : ∀ d : Text, d.all isDigit = true → d ≠ [] → (d.length = 1 ∨ d.head? ≠ some 48) → digitsOf (numberOf d) = d := by
  refine rev_ind (fun _ h => absurd rfl h) ?_
  intro e b ih ha _ hc
  rw [List.all_append, Bool.and_eq_true] at ha
  have hb : 48 ≤ b ∧ b ≤ 57 := isDigit_iff.mp (by simpa using ha.2)
  rw [numberOf_snoc, digits_step]
  cases e with
  | nil =>
    have h0 : numberOf [] = 0 := rfl
    rw [h0, if_pos (by omega)]
    simp
    omega
  | cons c e =>
    have hc' : c ≠ 48 := by
      rcases hc with h | h
      · simp at h
      · simpa using h
    have hcd : 48 ≤ c ∧ c ≤ 57 := by
      have := ha.1
      rw [List.all_cons, Bool.and_eq_true] at this
      exact isDigit_iff.mp this.1
    have hp := number_pos e (b := c) (by omega) e
    have ih' := ih ha.1 (by simp) (.inr (by simpa using hc'))
    rw [if_neg (by omega), show (10 * numberOf (c :: e) + (b - 48)) / 10 = numberOf (c :: e) by omega, show (10 * numberOf (c :: e) + (b - 48)) % 10 = b - 48 by omega, ih', show 48 + (b - 48) = b by omega]
theorem zfill_back : ∀ d : Text, d.all isDigit = true → d ≠ [] → zfill (digitsOf (numberOf d)) d.length = d
  | [], _, h => absurd rfl h
  | [b], ha, _ => by
    rw [digits_back [b] ha (by simp) (.inl rfl)]
    rfl
  | c :: b :: e, ha, _ => by
    have hae : (b :: e).all isDigit = true := by
      rw [List.all_cons, Bool.and_eq_true] at ha
      exact ha.2
    by_cases hc : c = 48
    · subst hc
      have ih := zfill_back (b :: e) hae (by simp)
      have hl := congrArg List.length ih
      rw [zfill_len] at hl
      rw [numberOf_zero]
      unfold zfill at ih ⊢
      rw [show (48 :: b :: e).length - (digitsOf (numberOf (b :: e))).length = ((b :: e).length - (digitsOf (numberOf (b :: e))).length) + 1 by rw [List.length_cons]; omega, List.replicate_succ, List.cons_append, ih]
    · rw [digits_back _ ha (by simp) (.inr (by simpa using hc))]
      unfold zfill
      simp
/-- digits are their own number's print: just where the specification takes them -/
theorem numPrint_iff {lo hi : Nat} (h1 : 1 ≤ lo) {d : Text} (ha : d.all isDigit = true) (hlo : lo ≤ d.length) (hhi : d.length ≤ hi) :
    numPrint lo hi (numberOf d) = some d ↔ (lo = hi ∨ d.length = 1 ∨ d.head? ≠ some 48) := by
  have hne : d ≠ [] := fun e => by subst e; simp at hlo; omega
  unfold numPrint
  dsimp only
  by_cases e : lo = hi
  · subst e
    have hl : d.length = lo := by omega
    have hw : widthOf lo lo = lo := if_pos rfl
    rw [hw, ← hl, zfill_back d ha hne, if_pos ⟨Nat.le_refl _, Nat.le_refl _⟩]
    simp
  · have hw : widthOf lo hi = 1 := if_neg e
    have hz : zfill (digitsOf (numberOf d)) 1 = digitsOf (numberOf d) := by
      unfold zfill
      rw [show 1 - (digitsOf (numberOf d)).length = 0 by have := digits_pos (numberOf d); omega]
      rfl
    rw [hw, hz]
    constructor
    · intro q
      refine .inr ?_
      split at q
      · have q' : digitsOf (numberOf d) = d := Option.some.inj q
        cases d with
        | nil => exact absurd rfl hne
        | cons c r =>
          by_cases hc : c = 48
          · subst hc
            cases r with
            | nil => exact .inl rfl
            | cons b r =>
              exfalso
              have hae : (b :: r).all isDigit = true := by
                rw [List.all_cons, Bool.and_eq_true] at ha
                exact ha.2
              rw [numberOf_zero] at q'
              have hl := congrArg List.length (zfill_back (b :: r) hae (by simp))
              rw [zfill_len, q'] at hl
              simp at hl
          · exact .inr (by simpa using hc)
      · cases q
    · intro q
      have q' : d.length = 1 ∨ d.head? ≠ some 48 := by
        rcases q with q | q
        · exact absurd q e
        · exact q
      rw [digits_back d ha hne q', if_pos ⟨hlo, hhi⟩]
/-! ### leads by a text -/
theorem fronts_scan {β : Type} (lo hi : Nat) (x : Text) (g : Text → Option β) : (fronts x lo hi).filterMap g = (downFrom lo hi).filterMap fun k => if (x.take k).length = k then g (x.take k) else none := by
  unfold fronts
  rw [List.filterMap_map, downFrom_cut lo x.length (fun k => if (x.take k).length = k then g (x.take k) else none) (fun k hk => if_neg (by rw [List.length_take]; omega)) hi]
  refine fm_congr fun k hk => ?_
  have := mem_downFrom.mp hk
  rw [if_pos (by rw [List.length_take]; omega)]
  rfl
theorem flatMap_filterMap {α β γ : Type} (l : List α) (f : α → Option β) (g : β → List γ) : (l.filterMap f).flatMap g = l.flatMap fun a => match f a with | none => [] | some b => g b := by
  induction l with
  | nil => rfl
  | cons a l ih =>
    rw [List.filterMap_cons, List.flatMap_cons, ← ih]
    cases f a with
    | none => rfl
    | some b => rfl
theorem num_leads {lo hi t : Nat} (h1 : 1 ≤ lo) (x : Text) (G : Value → Text → List Value) : ((Stp.num lo hi t).byTxt x).flatMap (fun l => G l.nums (x.drop l.txt.length)) = (scanNum lo hi x).flatMap fun y => G y.1 y.2 := by
  show (((fronts x lo hi).filterMap fun d => if d.all isDigit = true ∧ numPrint lo hi (numberOf d) = some d then some (⟨[numberOf d], d, t⟩ : Ld) else none).flatMap _) = _
  rw [fronts_scan]
  unfold scanNum
  rw [flatMap_filterMap, flatMap_filterMap]
  refine fl_congr fun k hk => ?_
  have hk' := mem_downFrom.mp hk
  dsimp only
  by_cases hl : (x.take k).length = k
  · rw [if_pos hl]
    by_cases ha : (x.take k).all isDigit = true
    · have iff := numPrint_iff (hi := hi) h1 ha (by omega) (by omega)
      rw [hl] at iff
      by_cases hc : lo = hi ∨ k = 1 ∨ (x.take k).head? ≠ some 48
      · rw [if_pos ⟨ha, iff.mpr hc⟩, if_pos ⟨hl, ha, hc⟩]
        dsimp only
        rw [hl]
      · rw [if_neg (fun q => hc (iff.mp q.2)), if_neg (fun q => hc q.2.2)]
    · rw [if_neg (fun q => ha q.1), if_neg (fun q => ha q.2.1)]
  · rw [if_neg hl, if_neg (fun q => hl q.1)]
theorem word_leads {lo hi t : Nat} (x : Text) (G : Value → Text → List Value) : ((Stp.word lo hi t).byTxt x).flatMap (fun l => G l.nums (x.drop l.txt.length)) = (scanWord lo hi x).flatMap fun y => G y.1 y.2 := by
  show (((fronts x lo hi).filterMap fun d => if d.all isLetter = true then some (⟨d.length :: d.map (fun b => b - 97), d, t⟩ : Ld) else none).flatMap _) = _
  rw [fronts_scan]
  unfold scanWord
  rw [flatMap_filterMap, flatMap_filterMap]
  refine fl_congr fun k hk => ?_
  dsimp only
  by_cases hl : (x.take k).length = k
  · rw [if_pos hl]
    by_cases ha : (x.take k).all isLetter = true
    · rw [if_pos ha, if_pos ⟨hl, ha⟩]
      dsimp only
      rw [hl]
    · rw [if_neg ha, if_neg (fun q => ha q.2)]
  · rw [if_neg hl, if_neg (fun q => hl q.1)]
theorem behind_take : ∀ (w x : Text), behind w x = if x.take w.length = w then some (x.drop w.length) else none
  | [], x => by simp [behind]
  | a :: w, [] => by simp [behind]
  | a :: w, b :: x => by
    show (if a = b then behind w x else none) = _
    by_cases h : a = b
    · subst h
      rw [if_pos rfl, behind_take w x]
      by_cases c : x.take w.length = w
      · rw [if_pos c, if_pos (by simp [c])]
        simp
      · rw [if_neg c, if_neg (by simpa using c)]
    · rw [if_neg h, if_neg]
      intro q
      exact h (List.cons.inj q).1.symm
end FT
end
section
set_option linter.all false
namespace FT
open VafmsBase

/-- what a laid row does: the entry leads, by texts and by values, as the specification says, and then goes on from `a` -/
structure Lays (g : Text → List (Value × Text)) (p : Value → Option (Text × Value)) (S : List Stp) (a : Nat) (S' : List Stp) (b : Nat) : Prop where
  ext : ∃ T, S' = S ++ T
  le : b ≤ S'.length
  scan : ∀ t, scn S' b t = (g t).flatMap fun y => (scn S a y.2).map fun v => y.1 ++ v
  prn : ∀ v, prt S' b v = (p v).bind fun x => (prt S a x.2).map fun y => x.1 ++ y
theorem Lays.here {S : List Stp} {a : Nat} (h : a ≤ S.length) : Lays (fun t => [([], t)]) (fun v => some ([], v)) S a S a :=
  ⟨⟨[], by simp⟩, h, fun t => by simp, fun v => by simp⟩
theorem ext_scn {S S' : List Stp} (e : ∃ T, S' = S ++ T) {n : Nat} (h : n ≤ S.length) : scn S' n = scn S n := by
  obtain ⟨T, rfl⟩ := e
  exact scn_append T h
theorem ext_prt {S S' : List Stp} (e : ∃ T, S' = S ++ T) {n : Nat} (h : n ≤ S.length) : prt S' n = prt S n := by
  obtain ⟨T, rfl⟩ := e
  exact prt_append T h
theorem ext_le {S S' : List Stp} (e : ∃ T, S' = S ++ T) : S.length ≤ S'.length := by
  obtain ⟨T, rfl⟩ := e
  rw [List.length_append]
  omega
theorem ext_trans {S S1 S2 : List Stp} (e : ∃ T, S1 = S ++ T) (e' : ∃ T, S2 = S1 ++ T) : ∃ T, S2 = S ++ T := by
  obtain ⟨T, rfl⟩ := e
  obtain ⟨U, rfl⟩ := e'
  exact ⟨T ++ U, by rw [List.append_assoc]⟩
theorem flatMap_flatMap {α β γ : Type} (l : List α) (f : α → List β) (g : β → List γ) : (l.flatMap f).flatMap g = l.flatMap fun a => (f a).flatMap g := by
  induction l with
  | nil => rfl
  | cons a l ih => rw [List.flatMap_cons, List.flatMap_append, ih, List.flatMap_cons]
theorem map_flatMap {α β γ : Type} (l : List α) (f : α → List β) (g : β → γ) : (l.flatMap f).map g = l.flatMap fun a => (f a).map g := by
  induction l with
  | nil => rfl
  | cons a l ih => rw [List.flatMap_cons, List.map_append, ih, List.flatMap_cons]
theorem flatMap_map {α β γ : Type} (l : List α) (f : α → β) (g : β → List γ) : (l.map f).flatMap g = l.flatMap fun a => g (f a) := by
  induction l with
  | nil => rfl
  | cons a l ih => rw [List.map_cons, List.flatMap_cons, List.flatMap_cons, ih]
/-- a row ahead of a row -/
theorem Lays.seq {g1 g2 : Text → List (Value × Text)} {p1 p2 : Value → Option (Text × Value)} {S S1 S2 : List Stp} {a b c : Nat} (h2 : Lays g2 p2 S a S1 b) (h1 : Lays g1 p1 S1 b S2 c) :
    Lays (fun t => (g1 t).flatMap fun x => (g2 x.2).map fun y => (x.1 ++ y.1, y.2)) (fun v => (p1 v).bind fun x => (p2 x.2).map fun y => (x.1 ++ y.1, y.2)) S a S2 c := by
  refine ⟨ext_trans h2.ext h1.ext, h1.le, fun t => ?_, fun v => ?_⟩
  · rw [h1.scan, flatMap_flatMap]
    refine fl_congr fun x _ => ?_
    rw [h2.scan, map_flatMap, flatMap_map]
    refine fl_congr fun y _ => ?_
    rw [List.map_map]
    refine List.map_congr_left fun z _ => ?_
    simp
  · rw [h1.prn]
    cases p1 v with
    | none => rfl
    | some x =>
      show ((prt S1 b x.2).map fun y => x.1 ++ y) = _
      rw [h2.prn]
      show _ = (((p2 x.2).map fun y => (x.1 ++ y.1, y.2)).bind fun x => _)
      cases p2 x.2 with
      | none => rfl
      | some y =>
        show ((prt S a y.2).map fun z => y.1 ++ z).map (fun z => x.1 ++ z) = (prt S a y.2).map fun z => (x.1 ++ y.1) ++ z
        cases prt S a y.2 with
        | none => rfl
        | some z => simp
theorem Lays.congr {g g' : Text → List (Value × Text)} {p p' : Value → Option (Text × Value)} {S S' : List Stp} {a b : Nat} (h : Lays g p S a S' b) (eg : ∀ t, g t = g' t) (ep : ∀ v, p v = p' v) : Lays g' p' S a S' b :=
  ⟨h.ext, h.le, fun t => by rw [h.scan, eg], fun v => by rw [h.prn, ep]⟩
/-- one step -/
theorem Lays.one {g : Text → List (Value × Text)} {p : Value → Option (Text × Value)} {S : List Stp} {a : Nat} (s : Stp)
    (hs : ∀ t, (s.byTxt t).flatMap (fun l => (scn S l.tgt (t.drop l.txt.length)).map fun v => l.nums ++ v) = (g t).flatMap fun y => (scn S a y.2).map fun v => y.1 ++ v)
    (hp : ∀ v, (s.byVal v).bind (fun l => (prt S l.tgt (v.drop l.nums.length)).map fun x => l.txt ++ x) = (p v).bind fun x => (prt S a x.2).map fun y => x.1 ++ y) : Lays g p S a (S ++ [s]) (S.length + 1) :=
  ⟨⟨[s], rfl⟩, by rw [List.length_append]; exact Nat.le_refl _, fun t => by rw [scn_last, hs], fun v => by rw [prt_last, hp]⟩
theorem lays_txt {S : List Stp} {a : Nat} (w : Text) : Lays (fun t => match behind w t with | none => [] | some u => [([], u)]) (fun v => some (w, v)) S a (S ++ [.txt w a]) (S.length + 1) := by
  refine .one _ (fun t => ?_) (fun v => ?_)
  · rw [behind_take]
    show (if t.take w.length = w then [(⟨[], w, a⟩ : Ld)] else []).flatMap _ = _
    by_cases h : t.take w.length = w
    · rw [if_pos h, if_pos h]
      simp
    · rw [if_neg h, if_neg h]
      rfl
  · simp [Stp.byVal]
theorem lays_num {S : List Stp} {a lo hi : Nat} (h1 : 1 ≤ lo) (h2 : lo ≤ hi) : Lays (scanNum lo hi) (fun v => match v with | [] => none | n :: u => (printNum lo hi n).map fun d => (d, u)) S a (S ++ [.num lo hi a]) (S.length + 1) := by
  refine .one _ (fun t => ?_) (fun v => ?_)
  · have h := num_leads (hi := hi) (t := a) h1 t fun n u => (scn S a u).map fun v => n ++ v
    rw [← h]
    refine fl_congr fun l hl => ?_
    have e : l.tgt = a := by
      obtain ⟨d, _, hd⟩ := List.mem_filterMap.mp hl
      split at hd
      · exact (Option.some.inj hd) ▸ rfl
      · cases hd
    rw [e]
  · cases v with
    | nil => rfl
    | cons n u =>
      show ((numPrint lo hi n).map fun d => (⟨[n], d, a⟩ : Ld)).bind _ = ((printNum lo hi n).map fun d => (d, u)).bind _
      rw [numPrint_is h1 h2]
      cases printNum lo hi n with
      | none => rfl
      | some d => rfl
theorem lays_word {S : List Stp} {a lo hi : Nat} : Lays (scanWord lo hi) (fun v => match v with | [] => none | k :: u => if k < lo ∨ hi < k ∨ u.length < k then none else (printWord (u.take k)).map fun d => (d, u.drop k)) S a (S ++ [.word lo hi a]) (S.length + 1) := by
  refine .one _ (fun t => ?_) (fun v => ?_)
  · have h := word_leads (lo := lo) (hi := hi) (t := a) t fun n u => (scn S a u).map fun v => n ++ v
    rw [← h]
    refine fl_congr fun l hl => ?_
    have e : l.tgt = a := by
      obtain ⟨d, _, hd⟩ := List.mem_filterMap.mp hl
      split at hd
      · exact (Option.some.inj hd) ▸ rfl
      · cases hd
    rw [e]
  · cases v with
    | nil => rfl
    | cons k u =>
      show Option.bind (if lo ≤ k ∧ k ≤ hi then (if (u.take k).length < k ∨ (u.take k).all (fun x => decide (x < 26)) = false then none else some (⟨k :: u.take k, (u.take k).map (fun x => 97 + x), a⟩ : Ld)) else none) _ = Option.bind (if k < lo ∨ hi < k ∨ u.length < k then none else (printWord (u.take k)).map fun d => (d, u.drop k)) _
      unfold printWord
      by_cases c1 : lo ≤ k ∧ k ≤ hi
      · rw [if_pos c1]
        by_cases c2 : u.length < k
        · rw [if_pos (.inl (by rw [List.length_take]; omega)), if_pos (.inr (.inr c2))]
          rfl
        · rw [if_neg (show ¬ (k < lo ∨ hi < k ∨ u.length < k) by omega)]
          have hl : (u.take k).length = k := by rw [List.length_take]; omega
          by_cases c3 : (u.take k).all (fun x => decide (x < 26)) = true
          · rw [if_neg (fun q => by
              rcases q with q | q
              · omega
              · rw [c3] at q; cases q), if_pos c3]
            show ((prt S a ((k :: u).drop (k :: u.take k).length)).map _) = (prt S a (u.drop k)).map _
            rw [List.length_cons, hl]
            rfl
          · rw [if_pos (.inr (by simpa using c3)), if_neg c3]
            rfl
      · rw [if_neg c1, if_pos (show k < lo ∨ hi < k ∨ u.length < k by omega)]
        rfl

/-! ### choices -/
theorem lays_opt {g : Text → List (Value × Text)} {p : Value → Option (Text × Value)} {S S1 : List Stp} {a b : Nat} (ha : a ≤ S.length) (h : Lays g p S a S1 b) :
    Lays (fun t => tagged 1 (g t) ++ [([0], t)]) (fun v => match v with | 0 :: u => some ([], u) | 1 :: u => p u | _ => none) S a (S1 ++ [.cho [(1, b), (0, a)]]) (S1.length + 1) := by
  have haS := ext_le h.ext
  refine ⟨ext_trans h.ext ⟨_, rfl⟩, by rw [List.length_append]; exact Nat.le_refl _, fun t => ?_, fun v => ?_⟩
  · rw [scn_last]
    show ((scn S1 b (t.drop 0)).map fun v => [1] ++ v) ++ (((scn S1 a (t.drop 0)).map fun v => [0] ++ v) ++ []) = _
    rw [List.drop_zero, List.append_nil, List.flatMap_append, h.scan, map_flatMap, ext_scn h.ext ha]
    unfold tagged
    rw [flatMap_map]
    congr 1
    · refine fl_congr fun y _ => ?_
      rw [List.map_map]
      rfl
    · simp
  · rw [prt_last]
    show (([(1, b), (0, a)].find? fun l => decide (v.take 1 = [l.1])).map fun l => (⟨[l.1], [], l.2⟩ : Ld)).bind _ = _
    match v with
    | [] => rfl
    | 0 :: u =>
      show ((prt S1 a u).map fun x => [] ++ x) = ((prt S a u).map fun y => [] ++ y)
      rw [ext_prt h.ext ha]
    | 1 :: u =>
      show ((prt S1 b u).map fun x => [] ++ x) = _
      rw [h.prn]
      show Option.map (fun x => x) _ = _
      simp
    | (n + 2) :: u =>
      have e : ([(1, b), (0, a)].find? fun l => decide (((n + 2) :: u).take 1 = [l.1])) = none := by
        simp [List.find?]
      rw [e]
      rfl
theorem lays_alt {g1 g2 : Text → List (Value × Text)} {p1 p2 : Value → Option (Text × Value)} {S S1 S2 : List Stp} {a b c : Nat} (ha : a ≤ S.length) (h1 : Lays g1 p1 S a S1 b) (h2 : Lays g2 p2 S1 a S2 c) :
    Lays (fun t => tagged 0 (g1 t) ++ tagged 1 (g2 t)) (fun v => match v with | 0 :: u => p1 u | 1 :: u => p2 u | _ => none) S a (S2 ++ [.cho [(0, b), (1, c)]]) (S2.length + 1) := by
  refine ⟨ext_trans (ext_trans h1.ext h2.ext) ⟨_, rfl⟩, by rw [List.length_append]; exact Nat.le_refl _, fun t => ?_, fun v => ?_⟩
  · rw [scn_last]
    show ((scn S2 b (t.drop 0)).map fun v => [0] ++ v) ++ (((scn S2 c (t.drop 0)).map fun v => [1] ++ v) ++ []) = _
    rw [List.drop_zero, List.append_nil, List.flatMap_append, h2.scan, ext_scn h2.ext h1.le, h1.scan, map_flatMap, map_flatMap, ext_scn h1.ext ha]
    unfold tagged
    rw [flatMap_map, flatMap_map]
    congr 1
    · refine fl_congr fun y _ => ?_
      rw [List.map_map]
      rfl
    · refine fl_congr fun y _ => ?_
      rw [List.map_map]
      rfl
  · rw [prt_last]
    show (([(0, b), (1, c)].find? fun l => decide (v.take 1 = [l.1])).map fun l => (⟨[l.1], [], l.2⟩ : Ld)).bind _ = _
    match v with
    | [] => rfl
    | 0 :: u =>
      show ((prt S2 b u).map fun x => [] ++ x) = _
      rw [ext_prt h2.ext h1.le, h1.prn]
      show Option.map (fun x => x) _ = _
      simp
    | 1 :: u =>
      show ((prt S2 c u).map fun x => [] ++ x) = _
      rw [h2.prn, ext_prt h1.ext ha]
      show Option.map (fun x => x) _ = _
      simp
    | (n + 2) :: u =>
      have e : ([(0, b), (1, c)].find? fun l => decide (((n + 2) :: u).take 1 = [l.1])) = none := by
        simp [List.find?]
      rw [e]
      rfl

theorem Lays.more {g : Text → List (Value × Text)} {p : Value → Option (Text × Value)} {S S1 S2 : List Stp} {a b : Nat} (h : Lays g p S a S1 b) (e : ∃ T, S2 = S1 ++ T) : Lays g p S a S2 b :=
  ⟨ext_trans h.ext e, Nat.le_trans h.le (ext_le e), fun t => by rw [ext_scn e h.le, h.scan], fun v => by rw [ext_prt e h.le, h.prn]⟩
/-! ### repeats -/
theorem scanTimes_false {g : Text → List (Value × Text)} (sep : Text) (k : Nat) (t : Text) :
    ((match behind sep t with | none => ([] : List (Value × Text)) | some u => [(([] : Value), u)]).flatMap fun x : Value × Text => (scanTimes g sep (k + 1) true x.2).map fun y : Value × Text => (x.1 ++ y.1, y.2)) = scanTimes g sep (k + 1) false t := by
  show _ = (match (if false = true then some t else behind sep t) with
    | none => []
    | some u => (g u).flatMap fun x : Value × Text => (scanTimes g sep k false x.2).map fun y : Value × Text => (x.1 ++ y.1, y.2))
  rw [if_neg Bool.false_ne_true]
  cases behind sep t with
  | none => rfl
  | some u =>
    show ((scanTimes g sep (k + 1) true u).map fun y => (([] : Value) ++ y.1, y.2)) ++ [] = _
    rw [List.append_nil]
    have e : (fun y : Value × Text => (([] : Value) ++ y.1, y.2)) = id := rfl
    rw [e, List.map_id]
    rfl
theorem printTimes_false {p : Value → Option (Text × Value)} (sep : Text) (k : Nat) (v : Value) :
    (printTimes p sep (k + 1) true v).map (fun y => (sep ++ y.1, y.2)) = printTimes p sep (k + 1) false v := by
  show ((p v).bind fun x => (printTimes p sep k false x.2).map fun y => ((if true = true then [] else sep) ++ (x.1 ++ y.1), y.2)).map _ = ((p v).bind fun x => (printTimes p sep k false x.2).map fun y => ((if false = true then [] else sep) ++ (x.1 ++ y.1), y.2))
  cases p v with
  | none => rfl
  | some x =>
    show ((printTimes p sep k false x.2).map _).map _ = (printTimes p sep k false x.2).map _
    cases printTimes p sep k false x.2 with
    | none => rfl
    | some y => simp
theorem lays_times {g : Text → List (Value × Text)} {p : Value → Option (Text × Value)} {f : List Stp → Nat → List Stp × Nat} (hf : ∀ S a, a ≤ S.length → Lays g p S a (f S a).1 (f S a).2) (sep : Text) {S : List Stp} {a : Nat} (ha : a ≤ S.length) :
    ∀ n, (layTimes f sep n S a).2.length = n + 1 ∧ (∃ T, (layTimes f sep n S a).1 = S ++ T) ∧
      ∀ k, k ≤ n → Lays (scanTimes g sep k true) (printTimes p sep k true) S a (layTimes f sep n S a).1 ((layTimes f sep n S a).2.getD k 0)
  | 0 => ⟨rfl, ⟨[], by simp [layTimes]⟩, fun k hk => by
    obtain rfl : k = 0 := by omega
    exact Lays.here ha⟩
  | 1 => by
    have h := hf S a ha
    refine ⟨rfl, h.ext, fun k hk => ?_⟩
    cases k with
    | zero => exact (Lays.here ha).more h.ext
    | succ k =>
      obtain rfl : k = 0 := by omega
      refine Lays.congr ((Lays.here ha).seq h) (fun t => ?_) (fun v => ?_)
      · rfl
      · show ((p v).bind fun x => some (x.1 ++ [], x.2)) = ((p v).bind fun x => some ([] ++ (x.1 ++ []), x.2))
        rfl
  | n + 2 => by
    obtain ⟨hl, hx, hk⟩ := lays_times hf sep ha (n + 1)
    have hlast : (layTimes f sep (n + 1) S a).2.getLastD 0 = (layTimes f sep (n + 1) S a).2.getD (n + 1) 0 := by
      rw [List.getLastD_eq_getLast?, List.getLast?_eq_getElem?, hl, List.getD_eq_getElem?_getD]
      rfl
    have h1 := hk (n + 1) (Nat.le_refl _)
    rw [← hlast] at h1
    have h2 : Lays (scanTimes g sep (n + 1) false) (printTimes p sep (n + 1) false) S a ((layTimes f sep (n + 1) S a).1 ++ [.txt sep ((layTimes f sep (n + 1) S a).2.getLastD 0)]) ((layTimes f sep (n + 1) S a).1.length + 1) :=
      Lays.congr (h1.seq (lays_txt (S := (layTimes f sep (n + 1) S a).1) sep)) (fun t => scanTimes_false sep n t) fun v => by
        show (printTimes p sep (n + 1) true v).map _ = _
        exact printTimes_false sep n v
    have h3 := hf _ _ h2.le
    have e3 := ext_trans (⟨_, rfl⟩ : ∃ T, (layTimes f sep (n + 1) S a).1 ++ [.txt sep ((layTimes f sep (n + 1) S a).2.getLastD 0)] = (layTimes f sep (n + 1) S a).1 ++ T) h3.ext
    refine ⟨?_, ext_trans hx e3, fun k hkn => ?_⟩
    · show ((layTimes f sep (n + 1) S a).2 ++ [_]).length = _
      rw [List.length_append, hl]
      rfl
    · show Lays _ _ S a _ (((layTimes f sep (n + 1) S a).2 ++ [_]).getD k 0)
      by_cases c : k ≤ n + 1
      · rw [List.getD_eq_getElem?_getD, List.getElem?_append_left (by omega), ← List.getD_eq_getElem?_getD]
        exact (hk k c).more e3
      · obtain rfl : k = n + 2 := by omega
        rw [List.getD_eq_getElem?_getD, List.getElem?_append_right (by omega), hl, Nat.sub_self]
        refine Lays.congr (h2.seq h3) (fun t => rfl) fun v => ?_
        show _ = ((p v).bind fun x => (printTimes p sep (n + 1) false x.2).map fun y => ([] ++ (x.1 ++ y.1), y.2))
        rfl
theorem find_key (E : Nat → Nat) (m : Nat) : ∀ l : List Nat, ((l.map fun n => (n, E n)).find? fun q => decide ([m] = [q.1])) = if m ∈ l then some (m, E m) else none
  | [] => rfl
  | a :: l => by
    rw [List.map_cons, List.find?_cons]
    by_cases h : m = a
    · subst h
      simp
    · have ih := find_key E m l
      have e : decide ([m] = [a]) = false := by simpa using h
      dsimp only
      rw [e]
      dsimp only
      rw [ih]
      simp [h]
theorem lays_rep {g : Nat → Text → List (Value × Text)} {p : Nat → Value → Option (Text × Value)} {S S1 : List Stp} {a lo hi : Nat} (E : Nat → Nat) (hx : ∃ T, S1 = S ++ T) (h : ∀ k, k ≤ hi → Lays (g k) (p k) S a S1 (E k)) :
    Lays (fun t => (downFrom lo hi).flatMap fun n => tagged n (g n t)) (fun v => match v with | [] => none | n :: u => if n < lo ∨ hi < n then none else p n u) S a (S1 ++ [.cho ((downFrom lo hi).map fun n => (n, E n))]) (S1.length + 1) := by
  refine ⟨ext_trans hx ⟨_, rfl⟩, by rw [List.length_append]; exact Nat.le_refl _, fun t => ?_, fun v => ?_⟩
  · rw [scn_last]
    show (((downFrom lo hi).map fun n => (n, E n)).map fun l => (⟨[l.1], [], l.2⟩ : Ld)).flatMap _ = _
    rw [List.map_map, flatMap_map, flatMap_flatMap]
    refine fl_congr fun n hn => ?_
    have hn' := mem_downFrom.mp hn
    show (scn S1 (E n) (t.drop 0)).map (fun v => [n] ++ v) = _
    rw [List.drop_zero, (h n hn'.2).scan, map_flatMap]
    unfold tagged
    rw [flatMap_map]
    refine fl_congr fun y _ => ?_
    rw [List.map_map]
    rfl
  · rw [prt_last]
    cases v with
    | nil =>
      show ((((downFrom lo hi).map fun n => (n, E n)).find? fun l => decide (([] : Value) = [l.1])).map fun l => (⟨[l.1], [], l.2⟩ : Ld)).bind _ = none
      have e : (((downFrom lo hi).map fun n => (n, E n)).find? fun l => decide (([] : Value) = [l.1])) = none := by simp
      rw [e]
      rfl
    | cons n u =>
      show ((((downFrom lo hi).map fun n => (n, E n)).find? fun l => decide ([n] = [l.1])).map fun l => (⟨[l.1], [], l.2⟩ : Ld)).bind _ = _
      rw [find_key]
      by_cases c : n < lo ∨ hi < n
      · rw [if_neg (fun q => by have := mem_downFrom.mp q; omega)]
        show _ = (if n < lo ∨ hi < n then none else p n u).bind _
        rw [if_pos c]
        rfl
      · rw [if_pos (mem_downFrom.mpr (by omega))]
        show _ = (if n < lo ∨ hi < n then none else p n u).bind _
        rw [if_neg c]
        show ((prt S1 (E n) u).map fun x => [] ++ x) = _
        rw [(h n (by omega)).prn]
        show Option.map (fun x => x) _ = _
        simp
/-! ### a format -/
theorem lay_ok : ∀ (f : Fmt) (S : List Stp) (a : Nat), okPieces f = true → a ≤ S.length → Lays (scans f) (printed f) S a (lay f S a).1 (lay f S a).2
  | .done, S, a, _, ha => Lays.here ha
  | .lit w r, S, a, ho, ha => by
    have ho' : okPieces r = true := by
      have q : (!w.isEmpty && (okText LITERAL w && okPieces r)) = true := ho
      rw [Bool.and_eq_true, Bool.and_eq_true] at q
      exact q.2.2
    have h := lay_ok r S a ho' ha
    refine Lays.congr (h.seq (lays_txt w)) (fun t => ?_) (fun v => ?_)
    · show _ = (match behind w t with | none => [] | some u => scans r u)
      cases behind w t with
      | none => rfl
      | some u =>
        show ((scans r u).map fun y => (([] : Value) ++ y.1, y.2)) ++ [] = scans r u
        rw [List.append_nil]
        exact List.map_id _
    · rfl
  | .num lo hi r, S, a, ho, ha => by
    have q : (decide (1 ≤ lo) && (decide (lo ≤ hi) && (decide (hi ≤ DIGITS) && okPieces r))) = true := ho
    simp only [Bool.and_eq_true, decide_eq_true_eq] at q
    have h := lay_ok r S a q.2.2.2 ha
    refine Lays.congr (h.seq (lays_num q.1 q.2.1)) (fun t => rfl) (fun v => ?_)
    cases v with
    | nil => rfl
    | cons n u =>
      show ((printNum lo hi n).map fun d => (d, u)).bind _ = (printNum lo hi n).bind _
      cases printNum lo hi n <;> rfl
  | .word lo hi r, S, a, ho, ha => by
    have q : (decide (1 ≤ lo) && (decide (lo ≤ hi) && (decide (hi ≤ LETTERS) && okPieces r))) = true := ho
    simp only [Bool.and_eq_true, decide_eq_true_eq] at q
    have h := lay_ok r S a q.2.2.2 ha
    refine Lays.congr (h.seq lays_word) (fun t => rfl) (fun v => ?_)
    cases v with
    | nil => rfl
    | cons k u =>
      show Option.bind (if k < lo ∨ hi < k ∨ u.length < k then none else (printWord (u.take k)).map fun d => (d, u.drop k)) _ = (if k < lo ∨ hi < k ∨ u.length < k then none else (printWord (u.take k)).bind fun d => (printed r (u.drop k)).map fun x => (d ++ x.1, x.2))
      by_cases c : k < lo ∨ hi < k ∨ u.length < k
      · rw [if_pos c, if_pos c]
        rfl
      · rw [if_neg c, if_neg c]
        cases printWord (u.take k) <;> rfl
  | .alt p q r, S, a, ho, ha => by
    have ho' : (okPieces p && (okPieces q && okPieces r)) = true := ho
    simp only [Bool.and_eq_true] at ho'
    have h := lay_ok r S a ho'.2.2 ha
    have hp := lay_ok p _ _ ho'.1 h.le
    have hq := lay_ok q (lay p (lay r S a).1 (lay r S a).2).1 (lay r S a).2 ho'.2.1 (Nat.le_trans h.le (ext_le hp.ext))
    have hq' : Lays (scans q) (printed q) (lay p (lay r S a).1 (lay r S a).2).1 (lay r S a).2 (lay q (lay p (lay r S a).1 (lay r S a).2).1 (lay r S a).2).1 (lay q (lay p (lay r S a).1 (lay r S a).2).1 (lay r S a).2).2 := hq
    refine Lays.congr (h.seq (lays_alt h.le hp hq')) (fun t => rfl) (fun v => ?_)
    match v with
    | [] => rfl
    | 0 :: u => rfl
    | 1 :: u => rfl
    | (n + 2) :: u => rfl
  | .opt p r, S, a, ho, ha => by
    have ho' : (okPieces p && okPieces r) = true := ho
    simp only [Bool.and_eq_true] at ho'
    have h := lay_ok r S a ho'.2 ha
    have hp := lay_ok p _ _ ho'.1 h.le
    refine Lays.congr (h.seq (lays_opt h.le hp)) (fun t => rfl) (fun v => ?_)
    match v with
    | [] => rfl
    | 0 :: u =>
      show (printed r u).map (fun x => ([] ++ x.1, x.2)) = printed r u
      exact Option.map_id'
    | 1 :: u => rfl
    | (n + 2) :: u => rfl
  | .rep s lo hi p r, S, a, ho, ha => by
    have q : (okText LITERAL s && (decide (lo ≤ hi) && (decide (hi ≤ TIMES) && (!p.hasRep && (okPieces p && okPieces r))))) = true := ho
    simp only [Bool.and_eq_true] at q
    have h := lay_ok r S a q.2.2.2.2.2 ha
    obtain ⟨hl, hx, hk⟩ := lays_times (fun S a ha => lay_ok p S a q.2.2.2.2.1 ha) s h.le hi
    refine Lays.congr (h.seq (lays_rep (lo := lo) (fun n => (layTimes (fun S a => lay p S a) s hi (lay r S a).1 (lay r S a).2).2.getD n 0) hx hk)) (fun t => rfl) (fun v => ?_)
    cases v with
    | nil => rfl
    | cons n u =>
      show (if n < lo ∨ hi < n then none else printTimes (printed p) s n true u).bind _ = (if n < lo ∨ hi < n then none else (printTimes (printed p) s n true u).bind fun x => (printed r x.2).map fun y => (x.1 ++ y.1, y.2))
      by_cases c : n < lo ∨ hi < n
      · rw [if_pos c, if_pos c]
        rfl
      · rw [if_neg c, if_neg c]
def plan (f : Fmt) : List Stp := (lay f [] 0).1
/-- where the format begins: the last step -/
theorem lay_last : ∀ (f : Fmt) (S : List Stp) (a : Nat), a = S.length → (lay f S a).2 = (lay f S a).1.length
  | .done, _, _, h => h
  | .lit _ _, _, _, _ => by simp [lay]
  | .num _ _ _, _, _, _ => by simp [lay]
  | .word _ _ _, _, _, _ => by simp [lay]
  | .alt _ _ _, _, _, _ => by simp [lay]
  | .opt _ _, _, _, _ => by simp [lay]
  | .rep _ _ _ _ _, _, _, _ => by simp [lay]
theorem plan_scan {f : Fmt} (ho : okPieces f = true) (t : Text) : scn (plan f) (plan f).length t = scannings f t := by
  have h := (lay_ok f [] 0 ho (Nat.le_refl _)).scan t
  rw [lay_last f [] 0 rfl] at h
  unfold plan
  rw [h, scn_end]
  unfold scannings
  generalize scans f t = l
  induction l with
  | nil => rfl
  | cons y l ih =>
    rw [List.flatMap_cons, ih, List.filter_cons]
    unfold endScn
    cases hy : y.2 with
    | nil => simp [hy]
    | cons b u => simp [hy]
theorem plan_print {f : Fmt} (ho : okPieces f = true) (v : Value) : prt (plan f) (plan f).length v = VafmsBase.print f v := by
  have h := (lay_ok f [] 0 ho (Nat.le_refl _)).prn v
  rw [lay_last f [] 0 rfl] at h
  unfold plan
  rw [h, prt_end]
  unfold VafmsBase.print endPrt
  cases printed f v with
  | none => rfl
  | some x =>
    obtain ⟨t, u⟩ := x
    cases u with
    | nil => simp
    | cons b u => simp
end FT
end
section
set_option linter.all false
/-! Formats seen piece by piece: every kind of piece has a text, two bounds and rows. -/
namespace FT
open VafmsBase

structure Pce where
  kind : Nat
  text : Text
  lo : Nat
  hi : Nat
  rows : List Fmt
def pces : Fmt → List Pce
  | .done => []
  | .lit w r => ⟨0, w, 0, 0, []⟩ :: pces r
  | .num lo hi r => ⟨1, [], lo, hi, []⟩ :: pces r
  | .word lo hi r => ⟨2, [], lo, hi, []⟩ :: pces r
  | .alt a b r => ⟨3, [], 0, 0, [a, b]⟩ :: pces r
  | .opt a r => ⟨4, [], 0, 0, [a]⟩ :: pces r
  | .rep s lo hi a r => ⟨5, s, lo, hi, [a]⟩ :: pces r
/-- how deep rows stand within others -/
def depth : Fmt → Nat
  | .done => 0
  | .lit _ r => depth r
  | .num _ _ r => depth r
  | .word _ _ r => depth r
  | .alt a b r => max (max (depth a) (depth b) + 1) (depth r)
  | .opt a r => max (depth a + 1) (depth r)
  | .rep _ _ _ a r => max (depth a + 1) (depth r)
theorem depth_le_size : ∀ f : Fmt, depth f ≤ f.size
  | .done => Nat.le_refl _
  | .lit _ r => by have := depth_le_size r; simp only [depth, Fmt.size]; omega
  | .num _ _ r => by have := depth_le_size r; simp only [depth, Fmt.size]; omega
  | .word _ _ r => by have := depth_le_size r; simp only [depth, Fmt.size]; omega
  | .alt a b r => by have := depth_le_size r; have := depth_le_size a; have := depth_le_size b; simp only [depth, Fmt.size]; omega
  | .opt a r => by have := depth_le_size r; have := depth_le_size a; simp only [depth, Fmt.size]; omega
  | .rep _ _ _ a r => by have := depth_le_size r; have := depth_le_size a; simp only [depth, Fmt.size]; omega
/-- rows within a piece are less deep -/
theorem depth_rows : ∀ {f : Fmt} {d : Nat}, depth f < d + 1 → ∀ p ∈ pces f, ∀ g ∈ p.rows, depth g < d
  | .done, _, _, p, hp, _, _ => by cases hp
  | .lit _ r, d, h, p, hp, g, hg => by
    simp only [depth] at h
    rcases List.mem_cons.mp hp with rfl | hp
    · cases hg
    · exact depth_rows h p hp g hg
  | .num _ _ r, d, h, p, hp, g, hg => by
    simp only [depth] at h
    rcases List.mem_cons.mp hp with rfl | hp
    · cases hg
    · exact depth_rows h p hp g hg
  | .word _ _ r, d, h, p, hp, g, hg => by
    simp only [depth] at h
    rcases List.mem_cons.mp hp with rfl | hp
    · cases hg
    · exact depth_rows h p hp g hg
  | .alt a b r, d, h, p, hp, g, hg => by
    simp only [depth] at h
    rcases List.mem_cons.mp hp with rfl | hp
    · rcases List.mem_cons.mp hg with rfl | hg
      · omega
      · rcases List.mem_cons.mp hg with rfl | hg
        · omega
        · cases hg
    · exact depth_rows (by omega) p hp g hg
  | .opt a r, d, h, p, hp, g, hg => by
    simp only [depth] at h
    rcases List.mem_cons.mp hp with rfl | hp
    · rcases List.mem_cons.mp hg with rfl | hg
      · omega
      · cases hg
    · exact depth_rows (by omega) p hp g hg
  | .rep _ _ _ a r, d, h, p, hp, g, hg => by
    simp only [depth] at h
    rcases List.mem_cons.mp hp with rfl | hp
    · rcases List.mem_cons.mp hg with rfl | hg
      · omega
      · cases hg
    · exact depth_rows (by omega) p hp g hg
/-! ### counts -/
def sumSize (l : List Fmt) : Nat := (l.map Fmt.size).sum
theorem size_pces : ∀ f : Fmt, f.size = ((pces f).map fun p => 1 + (p.rows.map Fmt.size).sum).sum
  | .done => rfl
  | .lit _ r => by simp only [pces, Fmt.size, List.map_cons, List.sum_cons, List.map_nil, List.sum_nil, size_pces r]; omega
  | .num _ _ r => by simp only [pces, Fmt.size, List.map_cons, List.sum_cons, List.map_nil, List.sum_nil, size_pces r]; omega
  | .word _ _ r => by simp only [pces, Fmt.size, List.map_cons, List.sum_cons, List.map_nil, List.sum_nil, size_pces r]; omega
  | .alt a b r => by simp only [pces, Fmt.size, List.map_cons, List.sum_cons, List.map_nil, List.sum_nil]; rw [size_pces r]; omega
  | .opt a r => by simp only [pces, Fmt.size, List.map_cons, List.sum_cons, List.map_nil, List.sum_nil]; rw [size_pces r]; omega
  | .rep _ _ _ a r => by simp only [pces, Fmt.size, List.map_cons, List.sum_cons, List.map_nil, List.sum_nil]; rw [size_pces r]; omega
/-- the greatest of none is 0 -/
def most : List Nat → Nat
  | [] => 0
  | x :: xs => xs.foldl Nat.max x
def pceHoles (p : Pce) : Nat :=
  if p.kind = 0 then 0 else if p.kind = 5 then 1 + p.hi * most (p.rows.map Fmt.holes) else 1 + most (p.rows.map Fmt.holes)
theorem holes_pces : ∀ f : Fmt, f.holes = ((pces f).map pceHoles).sum
  | .done => rfl
  | .lit _ r => by simp only [pces, Fmt.holes, List.map_cons, List.sum_cons]; rw [holes_pces r]; show _ = 0 + _; omega
  | .num _ _ r => by simp only [pces, Fmt.holes, List.map_cons, List.sum_cons]; rw [holes_pces r]; show _ = (1 + 0) + _; omega
  | .word _ _ r => by simp only [pces, Fmt.holes, List.map_cons, List.sum_cons]; rw [holes_pces r]; show _ = (1 + 0) + _; omega
  | .alt a b r => by
    simp only [pces, Fmt.holes, List.map_cons, List.sum_cons]; rw [holes_pces r]
    show _ = (1 + Nat.max a.holes b.holes) + _
    omega
  | .opt a r => by simp only [pces, Fmt.holes, List.map_cons, List.sum_cons]; rw [holes_pces r]; show _ = (1 + a.holes) + _; omega
  | .rep _ _ hi a r => by simp only [pces, Fmt.holes, List.map_cons, List.sum_cons]; rw [holes_pces r]; show _ = (1 + hi * a.holes) + _; omega
/-! ### as numbers -/
theorem row_pces : ∀ f : Fmt, f.row = (pces f).length
  | .done => rfl
  | .lit _ r => by simp only [pces, Fmt.row, List.length_cons, row_pces r]
  | .num _ _ r => by simp only [pces, Fmt.row, List.length_cons, row_pces r]
  | .word _ _ r => by simp only [pces, Fmt.row, List.length_cons, row_pces r]
  | .alt _ _ r => by simp only [pces, Fmt.row, List.length_cons, row_pces r]
  | .opt _ r => by simp only [pces, Fmt.row, List.length_cons, row_pces r]
  | .rep _ _ _ _ r => by simp only [pces, Fmt.row, List.length_cons, row_pces r]
def hasText (k : Nat) : Bool := k == 0 || k == 5
def hasBounds (k : Nat) : Bool := k == 1 || (k == 2 || k == 5)
def pceFlat (p : Pce) : List Int :=
  int p.kind :: ((if hasText p.kind then listed p.text else []) ++ ((if hasBounds p.kind then [int p.lo, int p.hi] else []) ++ p.rows.flatMap flatFmt))
theorem flat_pces : ∀ f : Fmt, flatPieces f = (pces f).flatMap pceFlat
  | .done => rfl
  | .lit w r => by
    simp only [pces, flatPieces, List.flatMap_cons]; rw [flat_pces r]
    show 0 :: (listed w ++ _) = (0 :: (listed w ++ ([] ++ []))) ++ _
    simp
  | .num lo hi r => by
    simp only [pces, flatPieces, List.flatMap_cons]; rw [flat_pces r]
    rfl
  | .word lo hi r => by
    simp only [pces, flatPieces, List.flatMap_cons]; rw [flat_pces r]
    rfl
  | .alt a b r => by
    simp only [pces, flatPieces, List.flatMap_cons]; rw [flat_pces r]
    show _ = (3 :: ([] ++ ([] ++ (flatFmt a ++ (flatFmt b ++ []))))) ++ _
    simp [flatFmt]
  | .opt a r => by
    simp only [pces, flatPieces, List.flatMap_cons]; rw [flat_pces r]
    show _ = (4 :: ([] ++ ([] ++ (flatFmt a ++ [])))) ++ _
    simp [flatFmt]
  | .rep s lo hi a r => by
    simp only [pces, flatPieces, List.flatMap_cons]; rw [flat_pces r]
    show _ = (5 :: (listed s ++ ([int lo, int hi] ++ (flatFmt a ++ [])))) ++ _
    simp [flatFmt]
end FT
end
section
set_option linter.all false
namespace FT
open VafmsBase

def row0 (p : Pce) : Fmt := p.rows.getD 0 .done
def row1 (p : Pce) : Fmt := p.rows.getD 1 .done
/-- what a choice piece lays, and its leads -/
def layCho (p : Pce) (S : List Stp) (a : Nat) : List Stp × List (Nat × Nat) :=
  if p.kind = 3 then
    let y := lay (row0 p) S a
    let z := lay (row1 p) y.1 a
    (z.1, [(0, y.2), (1, z.2)])
  else if p.kind = 4 then
    let y := lay (row0 p) S a
    (y.1, [(1, y.2), (0, a)])
  else
    let y := layTimes (fun S a => lay (row0 p) S a) p.text p.hi S a
    (y.1, (downFrom p.lo p.hi).map fun n => (n, y.2.getD n 0))
def layPce (p : Pce) (S : List Stp) (a : Nat) : List Stp × Nat :=
  if p.kind = 0 then (S ++ [.txt p.text a], S.length + 1)
  else if p.kind = 1 then (S ++ [.num p.lo p.hi a], S.length + 1)
  else if p.kind = 2 then (S ++ [.word p.lo p.hi a], S.length + 1)
  else ((layCho p S a).1 ++ [.cho (layCho p S a).2], (layCho p S a).1.length + 1)
theorem lay_pces : ∀ (f : Fmt) (S : List Stp) (a : Nat), lay f S a = (pces f).foldr (fun p x => layPce p x.1 x.2) (S, a)
  | .done, _, _ => rfl
  | .lit w r, S, a => by
    show ((lay r S a).1 ++ _, _) = layPce _ _ _
    rw [← lay_pces r S a]
    rfl
  | .num lo hi r, S, a => by
    show ((lay r S a).1 ++ _, _) = layPce _ _ _
    rw [← lay_pces r S a]
    rfl
  | .word lo hi r, S, a => by
    show ((lay r S a).1 ++ _, _) = layPce _ _ _
    rw [← lay_pces r S a]
    rfl
  | .alt p q r, S, a => by
    show _ = layPce _ _ _
    rw [← lay_pces r S a]
    rfl
  | .opt p r, S, a => by
    show _ = layPce _ _ _
    rw [← lay_pces r S a]
    rfl
  | .rep s lo hi p r, S, a => by
    show _ = layPce _ _ _
    rw [← lay_pces r S a]
    rfl
/-- the six forms of a piece -/
inductive PForm : Pce → Prop
  | lit (w) : PForm ⟨0, w, 0, 0, []⟩
  | num (lo hi) : PForm ⟨1, [], lo, hi, []⟩
  | word (lo hi) : PForm ⟨2, [], lo, hi, []⟩
  | alt (a b) : PForm ⟨3, [], 0, 0, [a, b]⟩
  | opt (a) : PForm ⟨4, [], 0, 0, [a]⟩
  | rep (s lo hi a) : PForm ⟨5, s, lo, hi, [a]⟩
theorem pform : ∀ {f : Fmt} {p : Pce}, p ∈ pces f → PForm p
  | .done, _, h => by cases h
  | .lit w r, p, h => by
    rcases List.mem_cons.mp h with rfl | h
    · exact .lit w
    · exact pform h
  | .num lo hi r, p, h => by
    rcases List.mem_cons.mp h with rfl | h
    · exact .num lo hi
    · exact pform h
  | .word lo hi r, p, h => by
    rcases List.mem_cons.mp h with rfl | h
    · exact .word lo hi
    · exact pform h
  | .alt a b r, p, h => by
    rcases List.mem_cons.mp h with rfl | h
    · exact .alt a b
    · exact pform h
  | .opt a r, p, h => by
    rcases List.mem_cons.mp h with rfl | h
    · exact .opt a
    · exact pform h
  | .rep s lo hi a r, p, h => by
    rcases List.mem_cons.mp h with rfl | h
    · exact .rep s lo hi a
    · exact pform h
/-! ### how many steps -/
theorem layTimes_len {f : List Stp → Nat → List Stp × Nat} {n : Nat} (hf : ∀ S a, (f S a).1.length ≤ S.length + n) (sep : Text) (S : List Stp) (a : Nat) : ∀ k, (layTimes f sep k S a).1.length ≤ S.length + k * (n + 1)
  | 0 => by show S.length ≤ _; omega
  | 1 => by have := hf S a; show (f S a).1.length ≤ _; omega
  | k + 2 => by
    have h1 := layTimes_len hf sep S a (k + 1)
    have h2 := hf ((layTimes f sep (k + 1) S a).1 ++ [.txt sep ((layTimes f sep (k + 1) S a).2.getLastD 0)]) ((layTimes f sep (k + 1) S a).1.length + 1)
    show (f ((layTimes f sep (k + 1) S a).1 ++ _) _).1.length ≤ _
    rw [List.length_append, List.length_singleton] at h2
    have h3 : (layTimes f sep (k + 2) S a).1.length = (layTimes f sep (k + 2) S a).1.length := rfl
    have : (k + 2) * (n + 1) = (k + 1) * (n + 1) + (n + 1) := Nat.succ_mul _ _
    rw [this]
    omega
theorem lay_len_plain : ∀ (f : Fmt) (S : List Stp) (a : Nat), f.hasRep = false → (lay f S a).1.length ≤ S.length + f.size
  | .done, _, _, _ => Nat.le_refl _
  | .lit w r, S, a, h => by have := lay_len_plain r S a h; simp only [lay, List.length_append, List.length_singleton, Fmt.size]; omega
  | .num _ _ r, S, a, h => by have := lay_len_plain r S a h; simp only [lay, List.length_append, List.length_singleton, Fmt.size]; omega
  | .word _ _ r, S, a, h => by have := lay_len_plain r S a h; simp only [lay, List.length_append, List.length_singleton, Fmt.size]; omega
  | .alt p q r, S, a, h => by
    have h' : (p.hasRep || (q.hasRep || r.hasRep)) = false := h
    simp only [Bool.or_eq_false_iff] at h'
    have h1 := lay_len_plain r S a h'.2.2
    have h2 := lay_len_plain p (lay r S a).1 (lay r S a).2 h'.1
    have h3 := lay_len_plain q (lay p (lay r S a).1 (lay r S a).2).1 (lay r S a).2 h'.2.1
    simp only [lay, List.length_append, List.length_singleton, Fmt.size]; omega
  | .opt p r, S, a, h => by
    have h' : (p.hasRep || r.hasRep) = false := h
    simp only [Bool.or_eq_false_iff] at h'
    have h1 := lay_len_plain r S a h'.2
    have h2 := lay_len_plain p (lay r S a).1 (lay r S a).2 h'.1
    simp only [lay, List.length_append, List.length_singleton, Fmt.size]; omega
  | .rep _ _ _ _ _, _, _, h => by cases h
theorem lay_len : ∀ (f : Fmt) (S : List Stp) (a : Nat), okPieces f = true → (lay f S a).1.length ≤ S.length + 5 * f.size
  | .done, _, _, _ => Nat.le_refl _
  | .lit w r, S, a, ho => by
    have q : (!w.isEmpty && (okText LITERAL w && okPieces r)) = true := ho
    simp only [Bool.and_eq_true] at q
    have := lay_len r S a q.2.2; simp only [lay, List.length_append, List.length_singleton, Fmt.size]; omega
  | .num lo hi r, S, a, ho => by
    have q : (decide (1 ≤ lo) && (decide (lo ≤ hi) && (decide (hi ≤ DIGITS) && okPieces r))) = true := ho
    simp only [Bool.and_eq_true] at q
    have := lay_len r S a q.2.2.2; simp only [lay, List.length_append, List.length_singleton, Fmt.size]; omega
  | .word lo hi r, S, a, ho => by
    have q : (decide (1 ≤ lo) && (decide (lo ≤ hi) && (decide (hi ≤ LETTERS) && okPieces r))) = true := ho
    simp only [Bool.and_eq_true] at q
    have := lay_len r S a q.2.2.2; simp only [lay, List.length_append, List.length_singleton, Fmt.size]; omega
  | .alt p q r, S, a, h => by
    have h' : (okPieces p && (okPieces q && okPieces r)) = true := h
    simp only [Bool.and_eq_true] at h'
    have h1 := lay_len r S a h'.2.2
    have h2 := lay_len p (lay r S a).1 (lay r S a).2 h'.1
    have h3 := lay_len q (lay p (lay r S a).1 (lay r S a).2).1 (lay r S a).2 h'.2.1
    simp only [lay, List.length_append, List.length_singleton, Fmt.size]; omega
  | .opt p r, S, a, h => by
    have h' : (okPieces p && okPieces r) = true := h
    simp only [Bool.and_eq_true] at h'
    have h1 := lay_len r S a h'.2
    have h2 := lay_len p (lay r S a).1 (lay r S a).2 h'.1
    simp only [lay, List.length_append, List.length_singleton, Fmt.size]; omega
  | .rep s lo hi p r, S, a, ho => by
    have q : (okText LITERAL s && (decide (lo ≤ hi) && (decide (hi ≤ 4) && (!p.hasRep && (okPieces p && okPieces r))))) = true := ho
    simp only [Bool.and_eq_true, decide_eq_true_eq] at q
    have h1 := lay_len r S a q.2.2.2.2.2
    have hp : p.hasRep = false := by simpa using q.2.2.2.1
    have h2 := layTimes_len (n := p.size) (fun S a => lay_len_plain p S a hp) s (lay r S a).1 (lay r S a).2 hi
    have h3 : hi * (p.size + 1) ≤ 4 * (p.size + 1) := Nat.mul_le_mul_right _ q.2.2.1
    have h4 : (lay (.rep s lo hi p r) S a).1.length = (layTimes (fun S a => lay p S a) s hi (lay r S a).1 (lay r S a).2).1.length + 1 := by
      simp only [lay, List.length_append, List.length_singleton]
    have h5 : (layTimes (fun S a => lay p S a) s hi (lay r S a).1 (lay r S a).2).1.length ≤ (lay r S a).1.length + hi * (p.size + 1) := h2
    have h6 : (Fmt.rep s lo hi p r).size = p.size + r.size + 1 := by simp only [Fmt.size]; try omega
    rw [h4, h6]
    generalize hi * (p.size + 1) = z at *
    omega
end FT
end
section
set_option linter.all false
set_option maxHeartbeats 1000000
/-! Formats read from numbers as the program reads them, and that it is the specification's reading. -/
namespace FT
open VafmsBase
def readTxt (lo : Nat) : Reader Text := readListed lo 8 (readNat 32 126)
def readTwo (lo : Nat) : Reader (Nat × Nat) := fun y => (readNat lo 4 y).bind fun a => (readNat a.1 4 a.2).map fun e => ((a.1, e.1), e.2)
abbrev Got3 := Option (Fmt × Nat × List Int)
def npPieces : Nat → Bool → Nat → Nat → List Int → Got3
  | 0, _, _, _, _ => none
  | f + 1, b, k, n, x =>
    let row (b : Bool) (n : Nat) (y : List Int) : Got3 := (readNat 0 14 y).bind fun k => npPieces f b k.1 n k.2
    if k = 0 then some (.done, n, x) else (readNat 0 5 x).bind fun kd =>
      if 14 ≤ n then none
      else if kd.1 = 0 then (readTxt 1 kd.2).bind fun w => (npPieces f b (k - 1) (n + 1) w.2).map fun r => (.lit w.1 r.1, r.2)
      else if kd.1 = 1 then (readTwo 1 kd.2).bind fun u => (npPieces f b (k - 1) (n + 1) u.2).map fun r => (.num u.1.1 u.1.2 r.1, r.2)
      else if kd.1 = 2 then (readTwo 1 kd.2).bind fun u => (npPieces f b (k - 1) (n + 1) u.2).map fun r => (.word u.1.1 u.1.2 r.1, r.2)
      else if kd.1 = 3 then (row b (n + 1) kd.2).bind fun a => (row b a.2.1 a.2.2).bind fun e => (npPieces f b (k - 1) e.2.1 e.2.2).map fun r => (.alt a.1 e.1 r.1, r.2)
      else if kd.1 = 4 then (row b (n + 1) kd.2).bind fun a => (npPieces f b (k - 1) a.2.1 a.2.2).map fun r => (.opt a.1 r.1, r.2)
      else if b = true then none else (readTxt 0 kd.2).bind fun s => (readTwo 0 s.2).bind fun u => (row true (n + 1) u.2).bind fun a => (npPieces f b (k - 1) a.2.1 a.2.2).map fun r => (.rep s.1 u.1.1 u.1.2 a.1 r.1, r.2)
def npRow (f : Nat) (b : Bool) (n : Nat) (y : List Int) : Got3 := (readNat 0 14 y).bind fun k => npPieces f b k.1 n k.2
/-- what is asked of the pieces, n having been read ahead -/
def ck (b : Bool) (n : Nat) (g : Fmt) : Bool := okPieces g && (decide (n + g.size ≤ 14) && (!b || !g.hasRep))
theorem ck_iff {b : Bool} {n : Nat} {g : Fmt} : ck b n g = true ↔ okPieces g = true ∧ n + g.size ≤ 14 ∧ (b = true → g.hasRep = false) := by
  unfold ck
  cases b <;> simp
theorem readNat_nil (lo hi : Nat) : readNat lo hi [] = none := rfl
theorem readNat_cons (lo hi : Nat) (z : Int) (r : List Int) : readNat lo hi (z :: r) = if int lo ≤ z ∧ z ≤ int hi then some (z.toNat, r) else none := rfl
theorem readNat_some {lo hi n : Nat} {x r : List Int} (h : readNat lo hi x = some (n, r)) : x = int n :: r ∧ lo ≤ n ∧ n ≤ hi := by
  cases x with
  | nil => cases h
  | cons z x =>
    rw [readNat_cons] at h
    split at h
    · rename_i hz
      obtain ⟨rfl, rfl⟩ := Prod.mk.inj (Option.some.inj h)
      unfold int at *
      have : ((z.toNat : Nat) : Int) = z := Int.toNat_of_nonneg (by omega)
      exact ⟨by rw [this], by omega, by omega⟩
    · cases h
theorem readTimes_len : ∀ {k : Nat} {x r : List Int} {t : Text}, readTimes (readNat 32 126) k x = some (t, r) → t.length = k ∧ r.length ≤ x.length ∧ t.all okByte = true
  | 0, x, r, t, h => by
    obtain ⟨rfl, rfl⟩ := Prod.mk.inj (Option.some.inj h)
    exact ⟨rfl, Nat.le_refl _, rfl⟩
  | k + 1, x, r, t, h => by
    have h' : (readNat 32 126 x).bind (fun u => (readTimes (readNat 32 126) k u.2).map fun v => (u.1 :: v.1, v.2)) = some (t, r) := h
    cases e : readNat 32 126 x with
    | none => rw [e] at h'; cases h'
    | some u =>
      obtain ⟨a, y⟩ := u
      rw [e] at h'
      have h2 : (readTimes (readNat 32 126) k y).map (fun v => (a :: v.1, v.2)) = some (t, r) := h'
      cases e2 : readTimes (readNat 32 126) k y with
      | none => rw [e2] at h2; cases h2
      | some v =>
        obtain ⟨v1, v2⟩ := v
        rw [e2] at h2
        obtain ⟨rfl, rfl⟩ := Prod.mk.inj (Option.some.inj h2)
        obtain ⟨i1, i2, i3⟩ := readTimes_len e2
        obtain ⟨rfl, b1, b2⟩ := readNat_some e
        refine ⟨by rw [List.length_cons, i1], by dsimp only; rw [List.length_cons]; omega, ?_⟩
        rw [List.all_cons, i3]
        unfold okByte
        rw [decide_eq_true b1, decide_eq_true b2]
        rfl
theorem readTxt_some {lo : Nat} {x r : List Int} {t : Text} (h : readTxt lo x = some (t, r)) : lo ≤ t.length ∧ t.length ≤ 8 ∧ r.length ≤ x.length ∧ t.all okByte = true ∧ readText 8 x = some (t, r) := by
  have h' : (readNat lo 8 x).bind (fun n => readTimes (readNat 32 126) n.1 n.2) = some (t, r) := h
  cases e : readNat lo 8 x with
  | none => rw [e] at h'; cases h'
  | some u =>
    obtain ⟨a, y⟩ := u
    rw [e] at h'
    have h2 : readTimes (readNat 32 126) a y = some (t, r) := h'
    obtain ⟨i1, i2, i3⟩ := readTimes_len h2
    obtain ⟨rfl, b1, b2⟩ := readNat_some e
    refine ⟨by omega, by omega, by rw [List.length_cons]; omega, i3, ?_⟩
    show (readNat 0 8 (int a :: y)).bind (fun n => readTimes (readNat 32 126) n.1 n.2) = some (t, r)
    rw [readNat_cons, if_pos ⟨by unfold int; omega, by unfold int; omega⟩]
    exact h2
/-- a text of any length: where it is long enough both read it -/
theorem readTxt_of {lo : Nat} {x r : List Int} {t : Text} (h : readText 8 x = some (t, r)) : readTxt lo x = (if lo ≤ t.length then some (t, r) else none) ∧ t.length ≤ 8 ∧ t.all okByte = true ∧ r.length ≤ x.length := by
  have h' : (readNat 0 8 x).bind (fun n => readTimes (readNat 32 126) n.1 n.2) = some (t, r) := h
  cases e : readNat 0 8 x with
  | none => rw [e] at h'; cases h'
  | some u =>
    obtain ⟨a, y⟩ := u
    rw [e] at h'
    have h2 : readTimes (readNat 32 126) a y = some (t, r) := h'
    obtain ⟨i1, i2, i3⟩ := readTimes_len h2
    obtain ⟨rfl, b1, b2⟩ := readNat_some e
    refine ⟨?_, by omega, i3, by rw [List.length_cons]; omega⟩
    show (readNat lo 8 (int a :: y)).bind (fun n => readTimes (readNat 32 126) n.1 n.2) = _
    rw [readNat_cons, i1]
    by_cases hlo : lo ≤ a
    · rw [if_pos ⟨by unfold int; omega, by unfold int; omega⟩, if_pos hlo]
      exact h2
    · rw [if_neg (fun z => hlo (by have := z.1; unfold int at this; omega)), if_neg hlo]
      rfl
theorem readTxt_none {lo : Nat} {x : List Int} (h : readText 8 x = none) : readTxt lo x = none := by
  cases e : readTxt lo x with
  | none => rfl
  | some u =>
    obtain ⟨t, r⟩ := u
    have := (readTxt_some e).2.2.2.2
    rw [this] at h
    cases h
theorem readTwo_some {lo a b : Nat} {x r : List Int} (h : readTwo lo x = some ((a, b), r)) : lo ≤ a ∧ a ≤ b ∧ b ≤ 4 ∧ r.length ≤ x.length ∧ readPair (readNat lo 4) (readNat lo 4) x = some ((a, b), r) := by
  have h' : (readNat lo 4 x).bind (fun a => (readNat a.1 4 a.2).map fun e => ((a.1, e.1), e.2)) = some ((a, b), r) := h
  cases e : readNat lo 4 x with
  | none => rw [e] at h'; cases h'
  | some u =>
    obtain ⟨a', y⟩ := u
    rw [e] at h'
    have h2 : (readNat a' 4 y).map (fun e => ((a', e.1), e.2)) = some ((a, b), r) := h'
    cases e2 : readNat a' 4 y with
    | none => rw [e2] at h2; cases h2
    | some v =>
      obtain ⟨b', z⟩ := v
      rw [e2] at h2
      obtain ⟨h3, rfl⟩ := Prod.mk.inj (Option.some.inj h2)
      obtain ⟨rfl, rfl⟩ := Prod.mk.inj h3
      obtain ⟨ex, b1, b2⟩ := readNat_some e
      obtain ⟨ey, c1, c2⟩ := readNat_some e2
      refine ⟨b1, c1, c2, by rw [ex, ey]; simp only [List.length_cons]; omega, ?_⟩
      unfold readPair
      rw [e]
      show (readNat lo 4 y).map _ = _
      rw [ey, readNat_cons, if_pos ⟨by unfold int; omega, by unfold int; omega⟩]
      unfold int
      rw [Int.toNat_natCast]
      rfl
/-- two bounds: where the second isn't below the first both read them -/
theorem readTwo_of {lo a b : Nat} {x r : List Int} (h : readPair (readNat lo 4) (readNat lo 4) x = some ((a, b), r)) : readTwo lo x = (if a ≤ b then some ((a, b), r) else none) ∧ lo ≤ a ∧ a ≤ 4 ∧ b ≤ 4 ∧ r.length ≤ x.length := by
  have h' : (readNat lo 4 x).bind (fun u => (readNat lo 4 u.2).map fun v => ((u.1, v.1), v.2)) = some ((a, b), r) := h
  cases e : readNat lo 4 x with
  | none => rw [e] at h'; cases h'
  | some u =>
    obtain ⟨a', y⟩ := u
    rw [e] at h'
    have h2 : (readNat lo 4 y).map (fun v => ((a', v.1), v.2)) = some ((a, b), r) := h'
    cases e2 : readNat lo 4 y with
    | none => rw [e2] at h2; cases h2
    | some v =>
      obtain ⟨b', z⟩ := v
      rw [e2] at h2
      obtain ⟨h3, rfl⟩ := Prod.mk.inj (Option.some.inj h2)
      obtain ⟨rfl, rfl⟩ := Prod.mk.inj h3
      obtain ⟨ex, b1, b2⟩ := readNat_some e
      obtain ⟨ey, c1, c2⟩ := readNat_some e2
      refine ⟨?_, b1, b2, c2, by rw [ex, ey]; simp only [List.length_cons]; omega⟩
      unfold readTwo
      rw [e]
      show (readNat a' 4 y).map _ = _
      rw [ey, readNat_cons]
      by_cases hab : a' ≤ b'
      · rw [if_pos ⟨by unfold int; omega, by unfold int; omega⟩, if_pos hab]
        unfold int
        rw [Int.toNat_natCast]
        rfl
      · rw [if_neg (fun z => hab (by have := z.1; unfold int at this; omega)), if_neg hab]
        rfl
theorem readTwo_none {lo : Nat} {x : List Int} (h : readPair (readNat lo 4) (readNat lo 4) x = none) : readTwo lo x = none := by
  cases e : readTwo lo x with
  | none => rfl
  | some u =>
    obtain ⟨⟨a, b⟩, r⟩ := u
    have := (readTwo_some e).2.2.2.2
    rw [this] at h
    cases h
end FT
end
section
set_option linter.all false
set_option maxHeartbeats 4000000
namespace FT
open VafmsBase
def spRowR (f : Nat) (y : List Int) : Option (Fmt × List Int) := (readNat 0 14 y).bind fun k => readPieces f k.1 k.2
section
variable {f k : Nat} {y : List Int} (hk : k ≠ 0)
include hk
theorem rp_0 : readPieces (f + 1) k ((0 : Int) :: y) = (readText 8 y).bind fun w => (readPieces f (k - 1) w.2).map fun r => (.lit w.1 r.1, r.2) := by
  rw [readPieces.eq_def]
  dsimp only
  rw [if_neg hk]
  rfl
theorem rp_1 : readPieces (f + 1) k ((1 : Int) :: y) = (readPair (readNat 1 4) (readNat 1 4) y).bind fun u => (readPieces f (k - 1) u.2).map fun r => (.num u.1.1 u.1.2 r.1, r.2) := by
  rw [readPieces.eq_def]
  dsimp only
  rw [if_neg hk]
  rfl
theorem rp_2 : readPieces (f + 1) k ((2 : Int) :: y) = (readPair (readNat 1 4) (readNat 1 4) y).bind fun u => (readPieces f (k - 1) u.2).map fun r => (.word u.1.1 u.1.2 r.1, r.2) := by
  rw [readPieces.eq_def]
  dsimp only
  rw [if_neg hk]
  rfl
theorem rp_3 : readPieces (f + 1) k ((3 : Int) :: y) = (spRowR f y).bind fun a => (spRowR f a.2).bind fun b => (readPieces f (k - 1) b.2).map fun r => (.alt a.1 b.1 r.1, r.2) := by
  rw [readPieces.eq_def]
  dsimp only
  rw [if_neg hk]
  rfl
theorem rp_4 : readPieces (f + 1) k ((4 : Int) :: y) = (spRowR f y).bind fun a => (readPieces f (k - 1) a.2).map fun r => (.opt a.1 r.1, r.2) := by
  rw [readPieces.eq_def]
  dsimp only
  rw [if_neg hk]
  rfl
theorem rp_5 : readPieces (f + 1) k ((5 : Int) :: y) = (readText 8 y).bind fun s => (readPair (readNat 0 4) (readNat 0 4) s.2).bind fun u => (spRowR f u.2).bind fun a => (readPieces f (k - 1) a.2).map fun r => (.rep s.1 u.1.1 u.1.2 a.1 r.1, r.2) := by
  rw [readPieces.eq_def]
  dsimp only
  rw [if_neg hk]
  show (readPair (readText LITERAL) (readPair (readNat 0 TIMES) (readNat 0 TIMES)) y).bind _ = _
  unfold readPair
  show Option.bind (Option.bind (readText 8 y) fun u => (Option.bind (readNat 0 4 u.2) _).map _) _ = _
  cases readText 8 y with
  | none => rfl
  | some s =>
    show Option.bind (Option.map _ (Option.bind (readNat 0 4 s.2) _)) _ = Option.bind (Option.bind (readNat 0 4 s.2) _) _
    cases readNat 0 4 s.2 with
    | none => rfl
    | some a =>
      show Option.bind (Option.map _ (Option.map _ (readNat 0 4 a.2))) _ = Option.bind (Option.map _ (readNat 0 4 a.2)) _
      cases readNat 0 4 a.2 with
      | none => rfl
      | some e => rfl
theorem rp_no {z : Int} (hz : ¬ (0 ≤ z ∧ z ≤ 5)) : readPieces (f + 1) k (z :: y) = none := by
  rw [readPieces.eq_def]
  dsimp only
  rw [if_neg hk]
  split
  all_goals first
    | rfl
    | (rename_i e; injection e with e _; omega)
    | (rename_i e _; injection e with e _; omega)
theorem rp_nil : readPieces (f + 1) k [] = none := by
  rw [readPieces.eq_def]
  dsimp only
  rw [if_neg hk]
end
theorem rp_done {f : Nat} {x : List Int} : readPieces (f + 1) 0 x = some (.done, x) := by
  rw [readPieces.eq_def]
  rfl
theorem ob {A B : Type} {o : Option A} {g : A → Option B} {y : B} (h : o.bind g = some y) : ∃ a, o = some a ∧ g a = some y := by
  cases o with
  | none => cases h
  | some a => exact ⟨a, rfl, h⟩
theorem om {A B : Type} {o : Option A} {g : A → B} {y : B} (h : o.map g = some y) : ∃ a, o = some a ∧ y = g a := by
  cases o with
  | none => cases h
  | some a => exact ⟨a, rfl, (Option.some.inj h).symm⟩
/-- what is left is no longer; a row with pieces has some -/
theorem rp_len : ∀ (f k : Nat) (x r : List Int) (g : Fmt), readPieces f k x = some (g, r) → r.length ≤ x.length ∧ (k ≠ 0 → 1 ≤ g.size ∧ r.length < x.length)
  | 0, k, x, r, g, h => by cases h
  | f + 1, 0, x, r, g, h => by
    rw [rp_done] at h
    obtain ⟨rfl, rfl⟩ := Prod.mk.inj (Option.some.inj h)
    exact ⟨Nat.le_refl _, fun z => absurd rfl z⟩
  | f + 1, k + 1, [], r, g, h => by
    rw [rp_nil (Nat.succ_ne_zero k)] at h
    cases h
  | f + 1, k + 1, z :: y, r, g, h => by
    have hk := Nat.succ_ne_zero k
    have ih := rp_len f
    have row : ∀ (y r : List Int) (g : Fmt), spRowR f y = some (g, r) → r.length ≤ y.length := fun y r g h => by
      obtain ⟨⟨j, x⟩, h1, h2⟩ := ob h
      obtain ⟨rfl, _, _⟩ := readNat_some h1
      have := (ih j x r g h2).1
      rw [List.length_cons]
      omega
    by_cases hz : 0 ≤ z ∧ z ≤ 5
    · have hz6 : z = 0 ∨ z = 1 ∨ z = 2 ∨ z = 3 ∨ z = 4 ∨ z = 5 := by omega
      rw [List.length_cons]
      rcases hz6 with rfl | rfl | rfl | rfl | rfl | rfl
      · rw [rp_0 hk] at h
        obtain ⟨⟨w, y1⟩, h1, h2⟩ := ob h
        obtain ⟨⟨g2, y2⟩, h3, h4⟩ := om h2
        obtain ⟨rfl, rfl⟩ := Prod.mk.inj h4
        have a1 := (readTxt_of (lo := 0) h1).2.2.2
        have a2 := (ih _ _ _ _ h3).1
        dsimp only at *
        exact ⟨by omega, fun _ => ⟨by show 1 ≤ g2.size + 1; omega, by omega⟩⟩
      · rw [rp_1 hk] at h
        obtain ⟨⟨⟨a, b⟩, y1⟩, h1, h2⟩ := ob h
        obtain ⟨⟨g2, y2⟩, h3, h4⟩ := om h2
        obtain ⟨rfl, rfl⟩ := Prod.mk.inj h4
        have a1 := (readTwo_of h1).2.2.2.2
        have a2 := (ih _ _ _ _ h3).1
        dsimp only at *
        exact ⟨by omega, fun _ => ⟨by show 1 ≤ g2.size + 1; omega, by omega⟩⟩
      · rw [rp_2 hk] at h
        obtain ⟨⟨⟨a, b⟩, y1⟩, h1, h2⟩ := ob h
        obtain ⟨⟨g2, y2⟩, h3, h4⟩ := om h2
        obtain ⟨rfl, rfl⟩ := Prod.mk.inj h4
        have a1 := (readTwo_of h1).2.2.2.2
        have a2 := (ih _ _ _ _ h3).1
        dsimp only at *
        exact ⟨by omega, fun _ => ⟨by show 1 ≤ g2.size + 1; omega, by omega⟩⟩
      · rw [rp_3 hk] at h
        obtain ⟨⟨ga, ya⟩, h1, h2⟩ := ob h
        obtain ⟨⟨gb, yb⟩, h3, h4⟩ := ob h2
        obtain ⟨⟨g2, y2⟩, h5, h6⟩ := om h4
        obtain ⟨rfl, rfl⟩ := Prod.mk.inj h6
        have a1 := row _ _ _ h1
        have a2 := row _ _ _ h3
        have a3 := (ih _ _ _ _ h5).1
        dsimp only at *
        exact ⟨by omega, fun _ => ⟨by show 1 ≤ ga.size + gb.size + g2.size + 1; omega, by omega⟩⟩
      · rw [rp_4 hk] at h
        obtain ⟨⟨ga, ya⟩, h1, h2⟩ := ob h
        obtain ⟨⟨g2, y2⟩, h5, h6⟩ := om h2
        obtain ⟨rfl, rfl⟩ := Prod.mk.inj h6
        have a1 := row _ _ _ h1
        have a3 := (ih _ _ _ _ h5).1
        dsimp only at *
        exact ⟨by omega, fun _ => ⟨by show 1 ≤ ga.size + g2.size + 1; omega, by omega⟩⟩
      · rw [rp_5 hk] at h
        obtain ⟨⟨w, y1⟩, h1, h2⟩ := ob h
        obtain ⟨⟨⟨a, b⟩, y2⟩, h3, h4⟩ := ob h2
        obtain ⟨⟨ga, ya⟩, h5, h6⟩ := ob h4
        obtain ⟨⟨g2, y3⟩, h7, h8⟩ := om h6
        obtain ⟨rfl, rfl⟩ := Prod.mk.inj h8
        have a1 := (readTxt_of (lo := 0) h1).2.2.2
        have a2 := (readTwo_of h3).2.2.2.2
        have a3 := row _ _ _ h5
        have a4 := (ih _ _ _ _ h7).1
        dsimp only at *
        exact ⟨by omega, fun _ => ⟨by show 1 ≤ ga.size + g2.size + 1; omega, by omega⟩⟩
    · rw [rp_no hk hz] at h
      cases h
end FT
end
section
set_option linter.all false
set_option maxHeartbeats 4000000
namespace FT
open VafmsBase
def chk (b : Bool) (n : Nat) (u : Fmt × List Int) : Got3 := if ck b n u.1 = true then some (u.1, n + u.1.size, u.2) else none
theorem bind_none {A B : Type} {o : Option A} {g : A → Option B} (h : ∀ u, o = some u → g u = none) : o.bind g = none := by
  cases o with
  | none => rfl
  | some a => exact h a rfl
theorem chk_no {b : Bool} {n : Nat} {u : Fmt × List Int} (h : ¬ ck b n u.1 = true) : chk b n u = none := if_neg h
theorem chk_yes {b : Bool} {n : Nat} {u : Fmt × List Int} (h : ck b n u.1 = true) : chk b n u = some (u.1, n + u.1.size, u.2) := if_pos h
/-- the last pieces with one piece ahead -/
theorem lift_ck {b : Bool} {n n2 : Nat} {C : Fmt → Fmt} (o : Option (Fmt × List Int)) (h1 : ∀ g, ck b n (C g) = ck b n2 g) (h2 : ∀ g, n + (C g).size = n2 + g.size) :
    (o.bind (chk b n2)).map (fun r => (C r.1, r.2)) = (o.map fun r => (C r.1, r.2)).bind (chk b n) := by
  cases o with
  | none => rfl
  | some u =>
    show (chk b n2 u).map _ = chk b n (C u.1, u.2)
    unfold chk
    rw [h1]
    by_cases h : ck b n2 u.1 = true
    · rw [if_pos h, if_pos h, h2]
      rfl
    · rw [if_neg h, if_neg h]
      rfl
theorem ck_lit {b : Bool} {n : Nat} {t : Text} (g : Fmt) (h1 : 1 ≤ t.length) (h2 : t.length ≤ 8) (h3 : t.all okByte = true) : ck b n (.lit t g) = ck b (n + 1) g := by
  rw [Bool.eq_iff_iff, ck_iff, ck_iff]
  have e : okPieces (.lit t g) = okPieces g := by
    show (!t.isEmpty && (okText LITERAL t && okPieces g)) = _
    unfold okText
    rw [h3, decide_eq_true (show t.length ≤ LITERAL from h2)]
    cases t with
    | nil => exact absurd h1 (by decide)
    | cons a t => rfl
  rw [e]
  show _ ∧ n + (g.size + 1) ≤ 14 ∧ (b = true → g.hasRep = false) ↔ _
  rw [show n + (g.size + 1) = n + 1 + g.size by omega]
theorem ck_num {b : Bool} {n lo hi : Nat} (g : Fmt) (h1 : 1 ≤ lo) (h2 : lo ≤ hi) (h3 : hi ≤ 4) : ck b n (.num lo hi g) = ck b (n + 1) g := by
  rw [Bool.eq_iff_iff, ck_iff, ck_iff]
  have e : okPieces (.num lo hi g) = okPieces g := by
    show (decide (1 ≤ lo) && (decide (lo ≤ hi) && (decide (hi ≤ DIGITS) && okPieces g))) = _
    rw [decide_eq_true h1, decide_eq_true h2, decide_eq_true (show hi ≤ DIGITS from h3)]
    rfl
  rw [e]
  show _ ∧ n + (g.size + 1) ≤ 14 ∧ (b = true → g.hasRep = false) ↔ _
  rw [show n + (g.size + 1) = n + 1 + g.size by omega]
theorem ck_word {b : Bool} {n lo hi : Nat} (g : Fmt) (h1 : 1 ≤ lo) (h2 : lo ≤ hi) (h3 : hi ≤ 4) : ck b n (.word lo hi g) = ck b (n + 1) g := by
  rw [Bool.eq_iff_iff, ck_iff, ck_iff]
  have e : okPieces (.word lo hi g) = okPieces g := by
    show (decide (1 ≤ lo) && (decide (lo ≤ hi) && (decide (hi ≤ LETTERS) && okPieces g))) = _
    rw [decide_eq_true h1, decide_eq_true h2, decide_eq_true (show hi ≤ LETTERS from h3)]
    rfl
  rw [e]
  show _ ∧ n + (g.size + 1) ≤ 14 ∧ (b = true → g.hasRep = false) ↔ _
  rw [show n + (g.size + 1) = n + 1 + g.size by omega]
theorem ck_alt {b : Bool} {n : Nat} (ga gb g : Fmt) : ck b n (.alt ga gb g) = (ck b (n + 1) ga && (ck b (n + 1 + ga.size) gb && ck b (n + 1 + ga.size + gb.size) g)) := by
  rw [Bool.eq_iff_iff, Bool.and_eq_true, Bool.and_eq_true, ck_iff, ck_iff, ck_iff, ck_iff]
  show ((okPieces ga && (okPieces gb && okPieces g)) = true ∧ n + (ga.size + gb.size + g.size + 1) ≤ 14 ∧ (b = true → (ga.hasRep || (gb.hasRep || g.hasRep)) = false)) ↔ _
  simp only [Bool.and_eq_true, Bool.or_eq_false_iff]
  constructor
  · rintro ⟨⟨h1, h2, h3⟩, h4, h5⟩
    exact ⟨⟨h1, by omega, fun z => (h5 z).1⟩, ⟨h2, by omega, fun z => (h5 z).2.1⟩, h3, by omega, fun z => (h5 z).2.2⟩
  · rintro ⟨⟨h1, h2, h3⟩, ⟨h4, h5, h6⟩, h7, h8, h9⟩
    exact ⟨⟨h1, h4, h7⟩, by omega, fun z => ⟨h3 z, h6 z, h9 z⟩⟩
theorem ck_opt {b : Bool} {n : Nat} (ga g : Fmt) : ck b n (.opt ga g) = (ck b (n + 1) ga && ck b (n + 1 + ga.size) g) := by
  rw [Bool.eq_iff_iff, Bool.and_eq_true, ck_iff, ck_iff, ck_iff]
  show ((okPieces ga && okPieces g) = true ∧ n + (ga.size + g.size + 1) ≤ 14 ∧ (b = true → (ga.hasRep || g.hasRep) = false)) ↔ _
  simp only [Bool.and_eq_true, Bool.or_eq_false_iff]
  constructor
  · rintro ⟨⟨h1, h3⟩, h4, h5⟩
    exact ⟨⟨h1, by omega, fun z => (h5 z).1⟩, h3, by omega, fun z => (h5 z).2⟩
  · rintro ⟨⟨h1, h2, h3⟩, h7, h8, h9⟩
    exact ⟨⟨h1, h7⟩, by omega, fun z => ⟨h3 z, h9 z⟩⟩
theorem ck_rep {n lo hi : Nat} {s : Text} (ga g : Fmt) (h1 : s.length ≤ 8) (h2 : s.all okByte = true) (h3 : lo ≤ hi) (h4 : hi ≤ 4) : ck false n (.rep s lo hi ga g) = (ck true (n + 1) ga && ck false (n + 1 + ga.size) g) := by
  rw [Bool.eq_iff_iff, Bool.and_eq_true, ck_iff, ck_iff, ck_iff]
  have e : okPieces (.rep s lo hi ga g) = (!ga.hasRep && (okPieces ga && okPieces g)) := by
    show (okText LITERAL s && (decide (lo ≤ hi) && (decide (hi ≤ TIMES) && (!ga.hasRep && (okPieces ga && okPieces g))))) = _
    unfold okText
    rw [h2, decide_eq_true (show s.length ≤ LITERAL from h1), decide_eq_true h3, decide_eq_true (show hi ≤ TIMES from h4)]
    rfl
  rw [e]
  show ((!ga.hasRep && (okPieces ga && okPieces g)) = true ∧ n + (ga.size + g.size + 1) ≤ 14 ∧ (false = true → _)) ↔ _
  simp only [Bool.and_eq_true, Bool.not_eq_true']
  constructor
  · rintro ⟨⟨h1, h2, h3⟩, h4, _⟩
    exact ⟨⟨h2, by omega, fun _ => h1⟩, h3, by omega, fun z => absurd z (by decide)⟩
  · rintro ⟨⟨h1, h2, h3⟩, h7, h8, h9⟩
    exact ⟨⟨h3 trivial, h1, h7⟩, by omega, fun z => absurd z (by decide)⟩
theorem readTxt_0 (y : List Int) : readTxt 0 y = readText 8 y := rfl
theorem np_iff : ∀ (f : Nat) (b : Bool) (k n : Nat) (x : List Int), x.length < f → n ≤ 14 → npPieces f b k n x = (readPieces f k x).bind (chk b n)
  | 0, b, k, n, x, hx, hn => by omega
  | f + 1, b, 0, n, x, hx, hn => by
    rw [rp_done]
    show some (Fmt.done, n, x) = chk b n (.done, x)
    rw [chk_yes (ck_iff.mpr ⟨rfl, by show n + 0 ≤ 14; omega, fun _ => rfl⟩)]
    rfl
  | f + 1, b, k + 1, n, [], hx, hn => by
    rw [rp_nil (Nat.succ_ne_zero k)]
    rfl
  | f + 1, b, k + 1, n, z :: y, hx, hn => by
    have hk := Nat.succ_ne_zero k
    have ih := np_iff f
    rw [List.length_cons] at hx
    have row : ∀ (b : Bool) (n : Nat) (y : List Int), y.length ≤ f → n ≤ 14 → npRow f b n y = (spRowR f y).bind (chk b n) := fun b n y hy hn => by
      unfold npRow spRowR
      cases e : readNat 0 14 y with
      | none => rfl
      | some u =>
        obtain ⟨j, x⟩ := u
        obtain ⟨rfl, _, _⟩ := readNat_some e
        rw [List.length_cons] at hy
        exact ih b j n x (by omega) hn
    have rowlen : ∀ (y r : List Int) (g : Fmt), spRowR f y = some (g, r) → r.length ≤ y.length := fun y r g h => by
      obtain ⟨⟨j, x⟩, h1, h2⟩ := ob h
      obtain ⟨rfl, _, _⟩ := readNat_some h1
      have := (rp_len f j x r g h2).1
      rw [List.length_cons]
      omega
    by_cases hz : 0 ≤ z ∧ z ≤ 5
    · by_cases h14 : 14 ≤ n
      · have e1 : npPieces (f + 1) b (k + 1) n (z :: y) = none := by
          rw [npPieces.eq_def]
          dsimp only
          rw [if_neg hk]
          exact bind_none fun u _ => if_pos h14
        rw [e1]
        refine (bind_none fun u hu => ?_).symm
        have h1 := ((rp_len _ _ _ _ _ (show readPieces (f + 1) (k + 1) (z :: y) = some (u.1, u.2) from hu)).2 hk).1
        exact chk_no fun h => by
          have := (ck_iff.mp h).2.1
          omega
      have step : ∀ j : Nat, j ≤ 5 → z = int j → npPieces (f + 1) b (k + 1) n (z :: y) = (if j = 0 then (readTxt 1 y).bind fun w => (npPieces f b k (n + 1) w.2).map fun r => (.lit w.1 r.1, r.2)
          else if j = 1 then (readTwo 1 y).bind fun u => (npPieces f b k (n + 1) u.2).map fun r => (.num u.1.1 u.1.2 r.1, r.2)
          else if j = 2 then (readTwo 1 y).bind fun u => (npPieces f b k (n + 1) u.2).map fun r => (.word u.1.1 u.1.2 r.1, r.2)
          else if j = 3 then (npRow f b (n + 1) y).bind fun a => (npRow f b a.2.1 a.2.2).bind fun e => (npPieces f b k e.2.1 e.2.2).map fun r => (.alt a.1 e.1 r.1, r.2)
          else if j = 4 then (npRow f b (n + 1) y).bind fun a => (npPieces f b k a.2.1 a.2.2).map fun r => (.opt a.1 r.1, r.2)
          else if b = true then none else (readTxt 0 y).bind fun s => (readTwo 0 s.2).bind fun u => (npRow f true (n + 1) u.2).bind fun a => (npPieces f b k a.2.1 a.2.2).map fun r => (.rep s.1 u.1.1 u.1.2 a.1 r.1, r.2)) := fun j hj ez => by
        rw [npPieces.eq_def]
        dsimp only
        rw [if_neg hk, ez, readNat_cons, if_pos ⟨by unfold int; omega, by unfold int; omega⟩]
        show (if 14 ≤ n then none else _) = _
        rw [if_neg h14]
        unfold int
        rw [Int.toNat_natCast]
        rfl
      have hz6 : z = 0 ∨ z = 1 ∨ z = 2 ∨ z = 3 ∨ z = 4 ∨ z = 5 := by omega
      rcases hz6 with rfl | rfl | rfl | rfl | rfl | rfl
      · rw [step 0 (by decide) rfl, rp_0 hk, if_pos rfl]
        cases e : readText 8 y with
        | none => rw [readTxt_none e]; rfl
        | some u =>
          obtain ⟨t, r⟩ := u
          obtain ⟨e1, e2, e3, e4⟩ := readTxt_of (lo := 1) e
          rw [e1]
          by_cases h1 : 1 ≤ t.length
          · rw [if_pos h1]
            show (npPieces f b k (n + 1) r).map _ = ((readPieces f k r).map _).bind (chk b n)
            rw [ih b k (n + 1) r (by omega) (by omega)]
            exact lift_ck (C := fun g => .lit t g) _ (fun g => ck_lit g h1 e2 e3) fun g => by show n + (g.size + 1) = _; omega
          · rw [if_neg h1]
            refine (bind_none fun u hu => chk_no fun h => ?_).symm
            obtain ⟨v, _, hv⟩ := om hu
            rw [hv] at h
            have h2 : (!t.isEmpty && (okText LITERAL t && okPieces v.1)) = true := (ck_iff.mp h).1
            cases t with
            | nil => cases h2
            | cons a t => exact h1 (by rw [List.length_cons]; omega)
      · rw [step 1 (by decide) rfl, rp_1 hk, if_neg (by decide), if_pos rfl]
        cases e : readPair (readNat 1 4) (readNat 1 4) y with
        | none => rw [readTwo_none e]; rfl
        | some u =>
          obtain ⟨⟨lo, hi⟩, r⟩ := u
          obtain ⟨e1, e2, e3, e4, e5⟩ := readTwo_of e
          rw [e1]
          by_cases h1 : lo ≤ hi
          · rw [if_pos h1]
            show (npPieces f b k (n + 1) r).map _ = ((readPieces f k r).map _).bind (chk b n)
            rw [ih b k (n + 1) r (by omega) (by omega)]
            exact lift_ck (C := fun g => .num lo hi g) _ (fun g => ck_num g e2 h1 e4) fun g => by show n + (g.size + 1) = _; omega
          · rw [if_neg h1]
            refine (bind_none fun u hu => chk_no fun h => ?_).symm
            obtain ⟨v, _, hv⟩ := om hu
            rw [hv] at h
            have h2 : (decide (1 ≤ lo) && (decide (lo ≤ hi) && (decide (hi ≤ DIGITS) && okPieces v.1))) = true := (ck_iff.mp h).1
            rw [decide_eq_false h1] at h2
            simp at h2
      · rw [step 2 (by decide) rfl, rp_2 hk, if_neg (by decide), if_neg (by decide), if_pos rfl]
        cases e : readPair (readNat 1 4) (readNat 1 4) y with
        | none => rw [readTwo_none e]; rfl
        | some u =>
          obtain ⟨⟨lo, hi⟩, r⟩ := u
          obtain ⟨e1, e2, e3, e4, e5⟩ := readTwo_of e
          rw [e1]
          by_cases h1 : lo ≤ hi
          · rw [if_pos h1]
            show (npPieces f b k (n + 1) r).map _ = ((readPieces f k r).map _).bind (chk b n)
            rw [ih b k (n + 1) r (by omega) (by omega)]
            exact lift_ck (C := fun g => .word lo hi g) _ (fun g => ck_word g e2 h1 e4) fun g => by show n + (g.size + 1) = _; omega
          · rw [if_neg h1]
            refine (bind_none fun u hu => chk_no fun h => ?_).symm
            obtain ⟨v, _, hv⟩ := om hu
            rw [hv] at h
            have h2 : (decide (1 ≤ lo) && (decide (lo ≤ hi) && (decide (hi ≤ LETTERS) && okPieces v.1))) = true := (ck_iff.mp h).1
            rw [decide_eq_false h1] at h2
            simp at h2
      · rw [step 3 (by decide) rfl, rp_3 hk, if_neg (by decide), if_neg (by decide), if_neg (by decide), if_pos rfl, row b (n + 1) y (by omega) (by omega)]
        cases ea : spRowR f y with
        | none => rfl
        | some u =>
          obtain ⟨ga, ya⟩ := u
          have la := rowlen _ _ _ ea
          show (chk b (n + 1) (ga, ya)).bind _ = ((spRowR f ya).bind _).bind (chk b n)
          by_cases ca : ck b (n + 1) ga = true
          · rw [chk_yes ca]
            have na := (ck_iff.mp ca).2.1
            show (npRow f b (n + 1 + ga.size) ya).bind _ = _
            rw [row b (n + 1 + ga.size) ya (by omega) na]
            cases eb : spRowR f ya with
            | none => rfl
            | some u =>
              obtain ⟨gb, yb⟩ := u
              have lb := rowlen _ _ _ eb
              show (chk b (n + 1 + ga.size) (gb, yb)).bind _ = ((readPieces f k yb).map _).bind (chk b n)
              by_cases cb : ck b (n + 1 + ga.size) gb = true
              · rw [chk_yes cb]
                have nb := (ck_iff.mp cb).2.1
                show (npPieces f b k (n + 1 + ga.size + gb.size) yb).map _ = _
                rw [ih b k _ yb (by omega) nb]
                exact lift_ck (C := fun g => .alt ga gb g) _ (fun g => by rw [ck_alt, ca, cb]; rfl) fun g => by show n + (ga.size + gb.size + g.size + 1) = _; omega
              · rw [chk_no cb]
                refine (bind_none fun u hu => chk_no fun h => ?_).symm
                obtain ⟨v, _, hv⟩ := om hu
                rw [hv] at h
                have h2 : ck b n (.alt ga gb v.1) = true := h
                rw [ck_alt, Bool.and_eq_true, Bool.and_eq_true] at h2
                exact cb h2.2.1
          · rw [chk_no ca]
            refine (bind_none fun u hu => chk_no fun h => ?_).symm
            obtain ⟨v, _, hv2⟩ := ob hu
            obtain ⟨v2, _, hv⟩ := om hv2
            rw [hv] at h
            have h2 : ck b n (.alt ga v.1 v2.1) = true := h
            rw [ck_alt, Bool.and_eq_true] at h2
            exact ca h2.1
      · rw [step 4 (by decide) rfl, rp_4 hk, if_neg (by decide), if_neg (by decide), if_neg (by decide), if_neg (by decide), if_pos rfl, row b (n + 1) y (by omega) (by omega)]
        cases ea : spRowR f y with
        | none => rfl
        | some u =>
          obtain ⟨ga, ya⟩ := u
          have la := rowlen _ _ _ ea
          show (chk b (n + 1) (ga, ya)).bind _ = ((readPieces f k ya).map _).bind (chk b n)
          by_cases ca : ck b (n + 1) ga = true
          · rw [chk_yes ca]
            have na := (ck_iff.mp ca).2.1
            show (npPieces f b k (n + 1 + ga.size) ya).map _ = _
            rw [ih b k _ ya (by omega) na]
            exact lift_ck (C := fun g => .opt ga g) _ (fun g => by rw [ck_opt, ca]; rfl) fun g => by show n + (ga.size + g.size + 1) = _; omega
          · rw [chk_no ca]
            refine (bind_none fun u hu => chk_no fun h => ?_).symm
            obtain ⟨v, _, hv⟩ := om hu
            rw [hv] at h
            have h2 : ck b n (.opt ga v.1) = true := h
            rw [ck_opt, Bool.and_eq_true] at h2
            exact ca h2.1
      · rw [step 5 (by decide) rfl, rp_5 hk, if_neg (by decide), if_neg (by decide), if_neg (by decide), if_neg (by decide), if_neg (by decide)]
        cases b with
        | true =>
          rw [if_pos rfl]
          refine (bind_none fun u hu => chk_no fun h => ?_).symm
          obtain ⟨v1, _, hv1⟩ := ob hu
          obtain ⟨v2, _, hv2⟩ := ob hv1
          obtain ⟨v3, _, hv3⟩ := ob hv2
          obtain ⟨v4, _, hv⟩ := om hv3
          rw [hv] at h
          have h2 := (ck_iff.mp h).2.2 rfl
          cases h2
        | false =>
        rw [if_neg Bool.false_ne_true, readTxt_0]
        cases e : readText 8 y with
        | none => rfl
        | some u =>
          obtain ⟨s, r⟩ := u
          obtain ⟨_, e2, e3, e4⟩ := readTxt_of (lo := 0) e
          show (readTwo 0 r).bind _ = ((readPair (readNat 0 4) (readNat 0 4) r).bind _).bind (chk false n)
          cases e5 : readPair (readNat 0 4) (readNat 0 4) r with
          | none => rw [readTwo_none e5]; rfl
          | some u =>
            obtain ⟨⟨lo, hi⟩, r2⟩ := u
            obtain ⟨e6, _, _, e9, e10⟩ := readTwo_of e5
            rw [e6]
            show _ = ((spRowR f r2).bind _).bind (chk false n)
            by_cases h1 : lo ≤ hi
            · rw [if_pos h1]
              show (npRow f true (n + 1) r2).bind _ = _
              rw [row true (n + 1) r2 (by omega) (by omega)]
              cases ea : spRowR f r2 with
              | none => rfl
              | some u =>
                obtain ⟨ga, ya⟩ := u
                have la := rowlen _ _ _ ea
                show (chk true (n + 1) (ga, ya)).bind _ = ((readPieces f k ya).map _).bind (chk false n)
                by_cases ca : ck true (n + 1) ga = true
                · rw [chk_yes ca]
                  have na := (ck_iff.mp ca).2.1
                  show (npPieces f false k (n + 1 + ga.size) ya).map _ = _
                  rw [ih false k _ ya (by omega) na]
                  exact lift_ck (C := fun g => .rep s lo hi ga g) _ (fun g => by rw [ck_rep ga g e2 e3 h1 e9, ca]; rfl) fun g => by show n + (ga.size + g.size + 1) = _; omega
                · rw [chk_no ca]
                  refine (bind_none fun u hu => chk_no fun h => ?_).symm
                  obtain ⟨v, _, hv⟩ := om hu
                  rw [hv] at h
                  have h2 : ck false n (.rep s lo hi ga v.1) = true := h
                  rw [ck_rep ga v.1 e2 e3 h1 e9, Bool.and_eq_true] at h2
                  exact ca h2.1
            · rw [if_neg h1]
              refine (bind_none fun u hu => chk_no fun h => ?_).symm
              obtain ⟨v3, _, hv3⟩ := ob hu
              obtain ⟨v4, _, hv⟩ := om hv3
              rw [hv] at h
              have h2 : (okText LITERAL s && (decide (lo ≤ hi) && (decide (hi ≤ TIMES) && (!v3.1.hasRep && (okPieces v3.1 && okPieces v4.1))))) = true := (ck_iff.mp h).1
              rw [decide_eq_false h1] at h2
              simp at h2
    · rw [rp_no hk hz]
      rw [npPieces.eq_def]
      dsimp only
      rw [if_neg hk, readNat_cons, if_neg (fun h => hz ⟨by have := h.1; unfold int at this; omega, by have := h.2; unfold int at this; omega⟩)]
      rfl
end FT
end
section
set_option Elab.async false
set_option linter.all false
set_option maxRecDepth 100000
set_option maxHeartbeats 4000000
namespace FX
open PySem PySem.Spec PyProof.Rows L2

/-- the i-th statement of the program's top -/
def topS (i : Nat) : Stmt := PySem.Challenge.pw_formattexts_s01_answers.main.body.getD i (.Pass ⟨0, 0, 0, 0⟩)

/-- what stands behind the top of a def that is called by its name -/
structure DefIs (K : PySem.W.Frag) (mg : Str → Option Value) (x : Str) (f : Addr) (fd : FuncData) (ps : List Str) : Prop where
  gl : mg x = some (.ref f)
  kp : PySem.W.keepIn K (.ref f) = true
  bd : Binds K fd ps []
/-- a def that keeps a promise, by its name -/
structure DefOk (P : Program) (w : World) (K : PySem.W.Frag) (mg : Str → Option Value) (base : Heap) (CX : CXT) (k : Nat) (x : Str) (sp : Sp) : Prop where
  ex : ∃ f fd ps, DefIs K mg x f fd ps ∧ FnOk P w K mg base CX k f fd ps sp
/-- a whole number that a name of the top holds -/
def NumIs (mg : Str → Option Value) (x : Str) (i : Int) : Prop := ∃ t, mg x = some (.int i t)
theorem pe_num {X : Cx} {x : Str} {i : Int} {pos : Pos} (h : NumIs X.mg x i) (hg : Gl X x := by rfl) (hd : (x == ("__debug__" : Str)) = false := by decide) : PE X (.Name x pos) (tC (.int i)) := by
  obtain ⟨t, e⟩ := h
  exact pe_glob hg e ⟨t, rfl⟩ hd
theorem pcall {X : Cx} {CX : CXT} {k : Nat} {x : Str} {sp : Sp} {E : XK} {p pos : Pos} {e : Expr} {es : List Expr} {t : TA} (D : DefOk X.prog X.w X.K X.mg X.base CX k x sp) (hr : Room k X.A) (hx : Passes CX X E) (ha : PA X (e :: es) t)
    (hg : Gl X x := by rfl) (hdb : (x == ("__debug__" : Str)) = false := by decide) (he : starEach (e :: es) X.env = (false, eval e X.env) :: starEach es X.env := by rfl) (hpl : (backTo pos (starEach es X.env)).any (·.1) = false := by rfl) :
    PE X (.Call (.Name x p) (e :: es) [] pos) (tCall sp [] E t) := by
  obtain ⟨f, fd, ps, I, F⟩ := D.ex
  exact pe_call F hr hg I.gl I.kp I.bd .nil hx ha hdb he hpl
end FX
end
section
set_option Elab.async false
set_option linter.all false
set_option maxRecDepth 100000
set_option maxHeartbeats 4000000
/-! An error class of the program's own under Exception, whose __init__ says Exception.__init__(self) and then stores values: the way of HandS.ExcInit, for this base. -/
namespace PySem
namespace FErr
open PySem.W PySem.Calls PyProof.Rows
abbrev eT : List Value := [.type "Exception", .type "BaseException", .type "object"]
theorem typ_E : typeOf (.type "Exception") = pure (.type "type") := by kernel_rfl
section
open Builtin Builtin.ObjectAttr
variable {prog : Program} {w : World} {A : Around} {R : Result → Shared → Prop} {hp : Heap} {g : Array GenState} {d : Drawn} {t : Nat} {os : OsState} {K : W.Frag} {f : Str} {tk : Tok} {v : Value} {x C dx : Addr} {fv : Array Value} {cd : ClassData}
/-- self.f = v: the first one -/
theorem osa_first (X : K.In hp) (hx : hp.get? x = some { cls := .ref C, data := .fields fv }) (hcd : W.clsIn K C = some cd) (hm : excTail eT cd.mro = true) (hne : cd.mro.isEmpty = false) (hh : cd.hasDict = true) (ha : W.findIn K (.ref C) f = some none)
    (hq : ∀ h' tk' dx, (∀ b o, b ≠ x → hp.get? b = some o → h'.get? b = some o) → hp.objs.size ≤ dx → dx ≠ x → h'.get? x = some { cls := .ref C, dict := some dx, data := .fields fv } →
      h'.Ns1 dx (fun y => if y = f then some v else none) → R (.ok (.ret .none)) ⟨h', g, d, tk', os⟩) :
    codeAny (model prog w) A (.call (.builtin "object.__setattr__") ⟨[.ref x, .str f tk, v], []⟩) R ⟨hp, g, d, t, os⟩ := by
  have I : W.InstAt hp x { cls := .ref C, data := .fields fv } C none := ⟨hx, rfl, rfl, trivial⟩
  have hob : cd.mro.contains (.type "object") = true := (excTail_contains "object" _ hm).trans (by decide +kernel)
  have away : x ≠ hp.objs.size := Nat.ne_of_lt (Heap.lt_size hx)
  have SF := PySem.F.store_object
  have under : W.Looks (model prog w) hp (isInstance (.ref x) (.type "object")) true := I.type.andThen (W.looks_mroIn X (by unfold W.mroIn; rw [hcd, Option.bind_some, if_neg (by rw [hne]; decide), hob]))
  have line : W.Looks (model prog w) hp (mroOf (.ref C)) cd.mro := (W.looks_clsIn X hcd).andThen .now
  have none3 : W.Looks (model prog w) hp (storeTaker? none) none := .now
  have own : W.Looks (model prog w) hp (classData C) cd := W.looks_clsIn X hcd
  refine codeAny_call_builtin SF.slot.plain SF.entry (@W.check_slot (model prog w) _ _ ⟨hp, g, d, t, os⟩ "object.__setattr__" "object" "__setattr__" (.ref x) [.str f tk, v] [] _ SF.kind SF.split under (SF.args (.ref x) (.str f tk) v) ?_)
  rw [W.osa_eq, refuse_eq]
  refine wpAny_bind (wpAny_bind (I.type.at (wpAny_bind (line.at ?_))))
  rw [excTail_pass _ (PySem.F.store_Exception.passes _) _ hm]
  refine wpAny_pure (wpAny_bind (I.type.at (wpAny_bind ((W.looks_findIn X ha).at (wpAny_bind (none3.at ?_))))))
  show wpAny _ _ (storeInOwnDict (.ref x) (.ref C) (.str f tk) f v false) _ _ _
  obtain ⟨nm, bs, mro, ns, qn, hd, sn, sb, ab, col, dl⟩ := cd
  obtain rfl : hd = true := hh
  unfold storeInOwnDict ownDictForStores
  repeat (first | with_reducible refine HandSPX.store_in_new ?_ ?_ | with_reducible refine wpAny_loadPart_at hx ?_ | with_reducible refine own.at ?_ | wp_step)
  · exact ⟨_, #[], _, (Heap.get?_update_ne _ _ _ _ away.symm).trans (Heap.get?_push_at rfl rfl), rfl, fun e he => absurd he (by simp), fun _ => rfl⟩
  · intro h' tk' hn' hs
    have later : (hp.push { cls := .type "dict", data := .dict #[] }).get? x = some { cls := .ref C, data := .fields fv } := Heap.get?_push_of_some _ hx
    exact hq h' tk' hp.objs.size (fun b o hb ho => (hs.2 b (Nat.ne_of_lt (Heap.lt_size ho))).trans ((Heap.get?_update_ne _ _ _ _ hb).trans (Heap.get?_push_of_some _ ho))) (Nat.le_refl _) away.symm
      ((hs.2 x away).trans (Heap.get?_update_self _ later rfl)) hn'
/-- self.f = v: a further one -/
theorem osa_next {m0 : Str → Option Value} {nl : List Str} (X : K.In hp) (hx : hp.get? x = some { cls := .ref C, dict := some dx, data := .fields fv }) (hns : hp.Ns1 dx m0) (hw : Within m0 nl) (hz : nl.length ≤ 1000) (hcd : W.clsIn K C = some cd)
    (hm : excTail eT cd.mro = true) (hne : cd.mro.isEmpty = false) (hh : cd.hasDict = true) (ha : W.findIn K (.ref C) f = some none)
    (hq : ∀ h' tk', (∀ b o, b ≠ dx → hp.get? b = some o → h'.get? b = some o) → h'.Ns1 dx (fun y => if y = f then some v else m0 y) → R (.ok (.ret .none)) ⟨h', g, d, tk', os⟩) :
    codeAny (model prog w) A (.call (.builtin "object.__setattr__") ⟨[.ref x, .str f tk, v], []⟩) R ⟨hp, g, d, t, os⟩ := by
  obtain ⟨oD, esD, epD, hoD, hdD, _⟩ := hns.count hw
  have I : W.InstAt hp x { cls := .ref C, dict := some dx, data := .fields fv } C (some oD) := ⟨hx, rfl, rfl, hoD⟩
  have hob : cd.mro.contains (.type "object") = true := (excTail_contains "object" _ hm).trans (by decide +kernel)
  have SF := PySem.F.store_object
  have under : W.Looks (model prog w) hp (isInstance (.ref x) (.type "object")) true := I.type.andThen (W.looks_mroIn X (by unfold W.mroIn; rw [hcd, Option.bind_some, if_neg (by rw [hne]; decide), hob]))
  have line : W.Looks (model prog w) hp (mroOf (.ref C)) cd.mro := (W.looks_clsIn X hcd).andThen .now
  have none3 : W.Looks (model prog w) hp (storeTaker? none) none := .now
  have own : W.Looks (model prog w) hp (classData C) cd := W.looks_clsIn X hcd
  refine codeAny_call_builtin SF.slot.plain SF.entry (@W.check_slot (model prog w) _ _ ⟨hp, g, d, t, os⟩ "object.__setattr__" "object" "__setattr__" (.ref x) [.str f tk, v] [] _ SF.kind SF.split under (SF.args (.ref x) (.str f tk) v) ?_)
  rw [W.osa_eq, refuse_eq]
  refine wpAny_bind (wpAny_bind (I.type.at (wpAny_bind (line.at ?_))))
  rw [excTail_pass _ (PySem.F.store_Exception.passes _) _ hm]
  refine wpAny_pure (wpAny_bind (I.type.at (wpAny_bind ((W.looks_findIn X ha).at (wpAny_bind (none3.at ?_))))))
  show wpAny _ _ (storeInOwnDict (.ref x) (.ref C) (.str f tk) f v false) _ _ _
  obtain ⟨nm, bs, mro, ns, qn, hd, sn, sb, ab, col, dl⟩ := cd
  obtain rfl : hd = true := hh
  unfold storeInOwnDict ownDictForStores
  repeat (first | with_reducible refine OEX.store_in_old hns hw hz ?_ | with_reducible refine wpAny_loadPart_at hx ?_ | with_reducible refine own.at ?_ | wp_step)
  intro h' tk' hn' hs
  exact hq h' tk' (fun b o hb ho => (hs.2 b hb).trans ho) hn'
end
end FErr
end PySem

namespace L2
open PySem PySem.Spec PyProof.Rows

/-- what the written part says of the class -/
structure ErrC (K : PySem.W.Frag) (C : Addr) : Prop where
  cls : ∃ nm q N bs bm sn sub ab col dd k0 k1 k2 k3 k5, K.lookup C = some (excClassObj nm q C N bs bm true sn sub ab col dd k0 k1 k2 k3 k5 "Exception.__new__") ∧ PySem.W.excTail PySem.FErr.eT bm = true
  sa : PySem.W.findIn K (.ref C) "__setattr__" = some (some (.builtin "object.__setattr__"))
  exC : PySem.W.subIn K (.ref C) (.type "BaseException") = some true
  tyC : PySem.W.typeIn K (.ref C) = some (.type "type")
  kC : PySem.W.keepIn K (.ref C) = true
section
variable {X : Cx} {pins : List (Addr × Obj)} {σ : St} {H : Hp} {s : Shared} {a C dx : Addr} {f : Str} {y : V} {u : Value} {fs : List (Str × V)} {Q : Unit → Shared → Prop} {E : Value → Shared → Prop} {A : Around}
theorem ErrC.line {K : PySem.W.Frag} (T : ErrC K C) : ∃ cd : ClassData, PySem.W.clsIn K C = some cd ∧ PySem.W.excTail PySem.FErr.eT cd.mro = true ∧ cd.mro.isEmpty = false ∧ cd.hasDict = true := by
  obtain ⟨nm, q, N, bs, bm, sn, sub, ab, col, dd, k0, k1, k2, k3, k5, hC, hbm⟩ := T.cls
  exact ⟨_, by unfold PySem.W.clsIn; rw [hC] <;> rfl, hbm, rfl, rfl⟩
theorem est_new (T : ErrC X.K C) (I : Inv X pins σ H s) (e : H a = some (exo a C none)) (hno : PySem.W.findIn X.K (.ref C) f = some none) (ry : RelV y u)
    (h : ∀ dx s', H dx = none → dx ≠ a → Inv X pins σ (upd (upd H dx (exd dx [(f, y)])) a (exo a C (some dx))) s' → Q () s') : wpAny (model X.prog X.w) A (setAttr (.ref a) f u) Q E s := by
  obtain ⟨cd, hcl, hmr, hne, hdd⟩ := T.line
  obtain ⟨t1, ho⟩ := exo_at I.hok e
  obtain ⟨hp, g, d, t, os⟩ := s
  refine PySem.W.set_plain I.kIn (ox := { cls := .ref C, dict := none, data := .fields #[.ref t1, .none, .none, .none, .bool false, .none] }) (od := none) ⟨ho, rfl, rfl, trivial⟩ T.sa ?_
  refine PySem.FErr.osa_first I.kIn ho hcl hmr hne hdd hno (fun h' tk' dx k dn dne hx hn => ?_)
  have hnd : H dx = none := I.hok.fresh dn
  have old : ∀ {b : Addr} {o : Obj}, hp.get? b = some o → b ≠ dx := fun {b o} q => Nat.ne_of_lt (Nat.lt_of_lt_of_le (Heap.lt_size q) dn)
  have apart : ∀ {b : Addr}, H b = none → b ≠ a := fun {b} n z => by
    subst z
    rw [e] at n
    cases n
  have U : Un X.fs [] H (upd (upd H dx (exd dx [(f, y)])) a (exo a C (some dx))) hp h' := {
    keep := fun b o q n _ _ => k b o (apart n) q
    slot := fun b o q n _ _ => ⟨o.slots, k b o (apart n) q⟩
    free := fun b o q n _ => by rw [upd_ne (apart n), upd_ne (old q)]; exact n
    there := fun b o q _ => if hb : b = a then hb ▸ ⟨_, hx⟩ else ⟨o, k b o hb q⟩
    tups := fun b xs q => by rw [upd_ne (at_ne e q exo_tup), upd_ne (ne_of_none q hnd)]; exact q
    frzs := fun b o v q => by rw [upd_ne (at_ne e q exo_frz), upd_ne (ne_of_none q hnd)]; exact q
    tbls := fun b ps q => ⟨#[], by rw [upd_ne (at_ne e q exo_tbl), upd_ne (ne_of_none q hnd), q]; simp⟩ }
  refine h dx _ hnd dne (I.un (t' := tk') U fun b o q => ?_)
  by_cases hb : b = a
  · subst hb
    rw [upd_same] at q
    cases q
    exact exo_ok hx
  rw [upd_ne hb] at q
  by_cases hd : b = dx
  · subst hd
    rw [upd_same] at q
    cases q
    exact exd_ok hn (relO_put (fs := []) ry fun g => True.intro)
  rw [upd_ne hd] at q
  refine (I.hok b o q).stay (fun c v hc z => k c v ?_ z) (fun c hc => ?_) (fun c xs hc => ?_)
  · rcases hc with hc | hc
    · exact hc ▸ hb
    · exact at_ne e hc exo_own
  · rw [upd_ne (at_ne e hc exo_own), upd_ne (ne_of_none hc hnd)]
    exact hc
  · rw [upd_ne (at_ne e hc exo_tup), upd_ne (ne_of_none hc hnd)]
    exact hc
theorem est_old (T : ErrC X.K C) (I : Inv X pins σ H s) (e : H a = some (exo a C (some dx))) (ed : H dx = some (exd dx fs)) (hl : fs.length ≤ 900) (hno : PySem.W.findIn X.K (.ref C) f = some none) (ry : RelV y u)
    (h : ∀ s', Inv X pins σ (upd H dx (exd dx ((f, y) :: fs))) s' → Q () s') : wpAny (model X.prog X.w) A (setAttr (.ref a) f u) Q E s := by
  obtain ⟨cd, hcl, hmr, hne, hdd⟩ := T.line
  obtain ⟨t1, ho⟩ := exo_at I.hok e
  obtain ⟨mA, hns, rel⟩ := exd_at I.hok ed
  have hw := within_of rel
  obtain ⟨hp, g, d, t, os⟩ := s
  obtain ⟨oD, _, _, hoD, _, _⟩ := hns.count hw
  refine PySem.W.set_plain I.kIn (ox := { cls := .ref C, dict := some dx, data := .fields #[.ref t1, .none, .none, .none, .bool false, .none] }) (od := some oD) ⟨ho, rfl, rfl, hoD⟩ T.sa ?_
  refine PySem.FErr.osa_next I.kIn ho hns hw (by rw [List.length_map]; omega) hcl hmr hne hdd hno (fun h' tk' k hn => h _ ?_)
  refine I.write (t' := tk') (x := dx) (e := dx) (o := exd dx ((f, y) :: fs)) (by rw [ed]; exact True.intro) (.inl rfl) k ?_ (exd_ok hn (relO_put ry rel))
  obtain ⟨o, _, _, e', _⟩ := hn
  exact ⟨o, e'⟩
theorem einit_ok {us : List Value} {Q : Value → Shared → Prop} (T : ErrC X.K C) (I : Inv X pins σ H s) (e : H a = some (exo a C none)) (hl : us.length ≤ sizeLine) (h : ∀ s', Inv X pins σ H s' → Q .none s') :
    wpAny (model X.prog X.w) A (call (.builtin "Exception.__init__") (.ref a :: us)) Q E s := by
  obtain ⟨nm, q, N, bs, bm, sn, sub, ab, col, dd, k0, k1, k2, k3, k5, hC, hbm⟩ := T.cls
  obtain ⟨t1, ho⟩ := exo_at I.hok e
  obtain ⟨hp, g, d, t, os⟩ := s
  refine wpAny_call (PySem.HandSPX.init_base F.excBase_Exception (fun Y => PySem.W.excTail_contains Y bm hbm) (I.kIn _ _ hC) ho hl fun h' t2 k hx => ?_)
  have J := I.write (t' := t) (x := a) (e := a) (o := exo a C none) (by rw [e]; exact True.intro) (.inl rfl) k ⟨_, hx⟩ (exo_ok hx)
  have same : upd H a (exo a C none) = H := by
    funext b
    by_cases hb : b = a
    · rw [hb, upd_same, e]
    · rw [upd_ne hb]
  rw [same] at J
  exact h _ J
end

/-! ### readings and rules -/
/-- Exception.__init__(self) -/
def tExI (K : PySem.W.Frag) (ta : TA) : TE := fun σ H Q => ta σ H fun vs H1 => ∃ (a C : Addr) (ws : List V), vs = .ref a :: ws ∧ ws.length ≤ 1000 ∧ ErrC K C ∧ H1 a = some (exo a C none) ∧ Q .non H1
/-- self.f = e, self an error being made -/
def tEst (K : PySem.W.Frag) (f : Str) (to te : TE) : TS := fun D σ H => te σ H fun y H1 => to σ H1 fun x H2 => ∃ a C : Addr, x = .ref a ∧ ErrC K C ∧ PySem.W.findIn K (.ref C) f = some none ∧
  ((H2 a = some (exo a C none) ∧ ∀ dx, H2 dx = none → dx ≠ a → D.nx σ (upd (upd H2 dx (exd dx [(f, y)])) a (exo a C (some dx)))) ∨
    ∃ (dx : Addr) (fs : List (Str × V)), H2 a = some (exo a C (some dx)) ∧ H2 dx = some (exd dx fs) ∧ fs.length ≤ 900 ∧ D.nx σ (upd H2 dx (exd dx ((f, y) :: fs))))
section
variable {X : Cx} {o e : Expr} {es : List Expr} {to te : TE} {ta : TA} {f : Str} {p p' p1 p2 pos : Pos}
theorem pe_exinit {pl : Sem Bool} (hg : Gl X "Exception") (hm : X.mg "Exception" = none) (vV : PySem.W.findCls X.K (.type "Exception") (.type "type") "__init__" = some (.val (.builtin "Exception.__init__"))) (ha : PA X (e :: es) ta)
    (hc : eval (.Call (.Attribute (.Name "Exception" p1) "__init__" p2) (e :: es) [] pos) X.env = (do
      let ov ← eval (.Name "Exception" p1) X.env
      standAt p2.atName
      let (f, first) ← holding [ov] (getMethod ov "__init__" pl)
      callWith pos f first (backTo pos (starEach (e :: es) X.env)) (backToKw pos (keywordEach [] X.env))) := by rfl)
    (he : starEach (e :: es) X.env = (false, eval e X.env) :: starEach es X.env := by rfl) (hpl : (backTo pos (starEach es X.env)).any (·.1) = false := by rfl) :
    PE X (.Call (.Attribute (.Name "Exception" p1) "__init__" p2) (e :: es) [] pos) (tExI X.K ta) := by
  refine ⟨fun pins s σ H Q I h => PySem.W.methodCall_KW (ld_blt I hg hm PyProof.Rows.Boot.«Exception» ?_ (by decide) (by decide)) hc⟩
  obtain ⟨m, fr⟩ := I.fr
  refine PySem.W.method_type fr I.ok.mod.kin PySem.FErr.typ_E (by decide +kernel) vV (by decide +kernel) ?_
  show wpAny _ _ (callWith pos (Value.builtin "Exception.__init__") [] (backTo pos (starEach (e :: es) X.env)) []) _ _ _
  refine PyProof.Rows.callWith_method1 (thn (ha.run pos pins _ σ H _ (I.tok _) h) fun us s1 ⟨vs, H1, I1, r1, a, C, ws, ev, hl, T, ea, q⟩ => ?_) he hpl
  subst ev
  cases r1 with
  | @cons _ u0 _ ur ra rw' =>
    obtain rfl : u0 = Value.ref a := ra
    exact einit_ok T I1 ea (by rw [← Paired.length rw', sizeLine_eq]; omega) fun s' J => ⟨.non, H1, J, rfl, q⟩
theorem ps_est (ho : PE X o to) (he : PE X e te) (hs : swapsWith e (some (.Attribute o f p')) pos.line X.env = pure false := by rfl) : PS X (.Assign [.Attribute o f p'] e pos) (tEst X.K f to te) := by
  refine ⟨fun pins s σ H D I h => plainObj_wpAny_Assign_Attribute (thn (he.run pins s σ H _ I h) fun v s1 ⟨y, H1, I1, r1, q1⟩ => thn (ho.run pins s1 σ H1 _ I1 q1) fun u s2 ⟨x, H2, I2, r2, a, C, ex, T, hno, q⟩ => ?_) hs⟩
  subst ex
  obtain rfl : u = Value.ref a := r2
  rcases q with ⟨ea, q⟩ | ⟨dx, fs, ea, ed, hl, q⟩
  · exact est_new T I2 ea hno r1 fun dx s' n ne J => ⟨σ, _, J, q dx n ne⟩
  · exact est_old T I2 ea ed hl hno r1 fun s' J => ⟨σ, _, J, q⟩
/-- an error of the class at C made by C(e, ..), its __init__ keeping sp -/
theorem pmk_err {CX : CXT} {x : Str} {C fI : Addr} {k : Nat} {fd : FuncData} {ps : List Str} {sp : Sp} {ds : List Value} {dvs : List V} (T : ErrC X.K C) (iC : PySem.W.findIn X.K (.ref C) "__init__" = some (some (.ref fI))) (tI : PySem.W.typeIn X.K (.ref fI) = some (.type "function"))
    (F1 : FnOk X.prog X.w X.K X.mg X.base CX k fI fd ps sp) (hr : Room (k + 1) X.A) (hb : Binds X.K fd ps ds) (hd : Vals dvs ds) (hx : Passes CX X (fun _ _ _ => False)) (hm : X.mg x = some (.ref C)) (ha : PA X (e :: es) ta) (hg : Gl X x := by rfl)
    (hdb : (x == ("__debug__" : Str)) = false := by decide) (he : starEach (e :: es) X.env = (false, eval e X.env) :: starEach es X.env := by rfl) (hpl : (backTo pos (starEach es X.env)).any (·.1) = false := by rfl) :
    PMk X (.Call (.Name x p) (e :: es) [] pos) (tMkO C sp dvs ta) := by
  intro pins s σ H Q I h
  obtain ⟨nm, q, N, bs, bm, sn, sub, ab, col, dd, k0, k1, k2, k3, k5, hC, hbm⟩ := T.cls
  refine wpAny_Call_Name_kw (ld_glob I hg hm ?_ hdb)
  refine PySem.W.callWith_K (h₀ := X.base) I.ok.mod.kin T.kC (thn (ha.run pos pins s σ H _ I h) fun us s1 ⟨vs, H1, I1, r1, hz, q1⟩ => ⟨I1.kIn, ?_⟩) he hpl
  show wpAny _ _ (call (.ref C) us) _ _ _
  obtain ⟨hp, g, dr, tk, os⟩ := s1
  have up : hp.objs.size ≤ hp.objs.size + 1 := Nat.le_succ _
  have hq := q1 (hp.objs.size + 1) (I1.hok.fresh up)
  have kk : ∀ b o, hp.get? b = some o → ((hp.push (PySem.W.kdv_tup us)).push (PySem.HandSPX.excO C hp.objs.size)).get? b = some o := fun b o e => Heap.get?_push_of_some _ (Heap.get?_push_of_some _ e)
  have there : ((hp.push (PySem.W.kdv_tup us)).push (PySem.HandSPX.excO C hp.objs.size)).get? (hp.objs.size + 1) = some (PySem.HandSPX.excO C hp.objs.size) := by heap_get
  have I2 : Inv X pins σ (upd H1 (hp.objs.size + 1) (exo (hp.objs.size + 1) C none)) ⟨(hp.push (PySem.W.kdv_tup us)).push (PySem.HandSPX.excO C hp.objs.size), g, dr, tk, os⟩ := I1.laid (t' := tk) kk up (exo_ok there)
  have r2 : Vals (V.ref (hp.objs.size + 1) :: (vs ++ dvs)) (Value.ref (hp.objs.size + 1) :: (us ++ ds)) := .cons rfl (r1.append hd)
  have hl : (Value.ref (hp.objs.size + 1) :: us ++ ds).length = ps.length := by
    have e := r2.length
    rw [F1.len _ _ _ _ hq] at e
    exact e.symm
  refine wpAny_call (PySem.HandSPX.call_own F.excBase_Exception (fun Y => PySem.W.excTail_contains Y bm hbm) (I1.kIn _ _ hC) (PySem.W.looks_findIn I1.kIn iC) (fun self => PySem.W.bind_fn I1.kIn self tI) (by rw [← Paired.length r1, sizeLine_eq]; omega)
    (codeAny_mono (F1.run _ X.stack _ _ ⟨Value.ref (hp.objs.size + 1) :: us, []⟩ (Value.ref (hp.objs.size + 1) :: (us ++ ds)) _ _ (fun _ _ _ => False) (hr.make C us []) (I2.env0.make C us []) (hb _ (Value.ref (hp.objs.size + 1) :: us) I2.kIn hl) r2 hq) fun r s' hq' => ?_))
  cases r with
  | error er => exact hx pins σ _ _ er s' I2 hq'
  | ok fl =>
    cases fl with
    | ret u =>
      obtain ⟨v, H2, os2, bare2, un2, hok2, rv, ev, d, fs, ea, ed, hd1, q2⟩ := hq'
      subst ev
      obtain ⟨h2, g2, d2, t2, os'⟩ := s'
      exact ⟨rv, mk_end (raises_own T.exC T.tyC) I1 up kk un2 hok2 os2 bare2 ea ed hd1 q2⟩
    | next => exact False.elim hq'
    | brk => exact False.elim hq'
    | cont => exact False.elim hq'
end
end L2
end
section
set_option Elab.async false
set_option linter.all false
set_option maxRecDepth 100000
set_option maxHeartbeats 4000000
/-! Rules that the program wants besides: max with default=, a method of an instance whose class is one of several. -/
namespace FX
open PySem PySem.Spec PyProof.Rows L2

/-- the greatest, or else d -/
def maxD (d : Int) : List Int → Int
  | [] => d
  | x :: xs => xs.foldl (fun a y => if a < y then y else a) x
def rMaxD (K : PySem.W.Frag) : List V → List V → Hp → VK → Prop := fun vs zs H Q => ∃ (a : Addr) (ns : List Int) (d : Int), vs = [V.ref a] ∧ zs = [V.int d] ∧ SqL K H a (ns.map V.int) ∧ Q (.int (maxD d ns)) H
theorem cr_maxD {X : Cx} (hc : X.calm = true) (hu : X.A.units + 64 < cLine) : CallRK X (.builtin "max") [Str.ofString "default"] (rMaxD X.K) := by
  intro pins s σ H vs zs us ws Q I r rz h
  obtain ⟨a, ns, d, rfl, rfl, hs, q⟩ := h
  obtain ⟨its, rv, hl, _⟩ := I.list hs
  rw [Vals.ref1 r]
  obtain ⟨w1, rfl, t, rfl⟩ := vals1 rz
  have hH : PySem.W.HoldAll s.heap its.toArray.toList ns := PySem.W.HoldAll.of_ints (rv.ints)
  refine PySem.W.max_list_datum_default (xs := ns) (I.ok.hd hc) hl.isList hH ?_ (fun e h' tk k => ?_) (fun y ys i v h' tk e hi hv k => ?_)
  · have e : PySem.W.Datum.depth Int = 0 := rfl
    rw [e]
    omega
  · subst e
    exact ⟨.int d, H, I.kept k, ⟨t, rfl⟩, q⟩
  · subst e
    obtain ⟨t', rfl⟩ := PySem.W.int_of_holds hv
    refine ⟨.int _, H, I.kept k, ⟨t', rfl⟩, ?_⟩
    have e : maxD d (y :: ys) = PySem.W.maxOf y ys := by
      show ys.foldl _ y = ys.foldl _ y
      congr 1
      funext a b
      show (if a < b then b else a) = (if PySem.W.DatumOrd.lt a b = true then b else a)
      have : (PySem.W.DatumOrd.lt a b = true) ↔ a < b := by
        show decide (a < b) = true ↔ a < b
        exact decide_eq_true_iff
      by_cases hab : a < b
      · rw [if_pos hab, if_pos (this.mpr hab)]
      · rw [if_neg hab, if_neg (fun z => hab (this.mp z))]
    rw [← e]
    exact q
/-- o.m(e, ..) of an instance of one of several classes; sps tells for each class its def and its promise -/
structure MethOk (P : Program) (w : World) (K : PySem.W.Frag) (mg : Str → Option Value) (base : Heap) (CX : CXT) (k : Nat) (C : Addr) (m : Str) (sp : Sp) : Prop where
  ex : ∃ f fd ps, Cls K C ∧ Meth K C m f ∧ Binds K fd ps [] ∧ FnOk P w K mg base CX k f fd ps sp
def tMethA (A : Addr → Prop) (m : Str) (sp : Addr → Sp) (E : XK) (ta : TE) (t : TA) : TE := fun σ H Q => ta σ H fun x H1 => ∃ a C dx fs, x = .ref a ∧ H1 a = some (.ins C dx fs) ∧ A C ∧ fs.lookup m = none ∧
  t σ H1 fun vs H2 => sp C (x :: (vs ++ [])) H2 Q E
theorem pe_methA {X : Cx} {CX : CXT} {k : Nat} {A : Addr → Prop} {sp : Addr → Sp} {E : XK} {m : Str} {pos apos : Pos} {e o : Expr} {es : List Expr} {ta : TE} {t : TA} {pl : Sem Bool} (he : PE X o ta) (M : ∀ C, A C → MethOk X.prog X.w X.K X.mg X.base CX k C m (sp C)) (hr : Room k X.A) (hx : Passes CX X E) (ha : PA X (e :: es) t)
    (hst : starEach (e :: es) X.env = (false, eval e X.env) :: starEach es X.env := by rfl) (hpl : (backTo pos (starEach es X.env)).any (·.1) = false := by rfl)
    (ht : eval (.Call (.Attribute o m apos) (e :: es) [] pos) X.env = (do
      let ov ← eval o X.env
      standAt apos.atName
      let (f, first) ← holding [ov] (getMethod ov m pl)
      callWith pos f first (backTo pos (starEach (e :: es) X.env)) (backToKw pos (keywordEach [] X.env))) := by rfl) :
    PE X (.Call (.Attribute o m apos) (e :: es) [] pos) (tMethA A m sp E ta t) := by
  refine ⟨fun pins s σ H Q I h => ?_⟩
  refine PySem.W.methodCall_KW (pl := pl) (thn (he.run pins s σ H _ I h) fun u s1 ⟨x, H1, I1, rx, a, C, dx, fs, ex, ea, hA, l, q⟩ => ?_) ht
  subst ex
  obtain rfl : u = Value.ref a := rx
  obtain ⟨f, fd, ps, c, hm, hb, F⟩ := (M C hA).ex
  refine getmeth_ok I1 ea c hm l ?_
  refine PySem.W.callWith_K (first := [.ref a]) (h₀ := X.base) I.ok.mod.kin hm.kp (thn (ha.run pos pins s1 σ H1 _ I1 q) fun us s2 ⟨vs, H2, I2, r, q2⟩ => ⟨I2.kIn, ?_⟩) hst hpl
  exact run_fn (us := .ref a :: us) (vs := .ref a :: vs) F hr hb .nil hx I2 (.cons rfl r) q2
/-- o.m(e, ..), the class known -/
theorem pmeth {X : Cx} {CX : CXT} {k : Nat} {C : Addr} {sp : Sp} {E : XK} {m : Str} {pos apos : Pos} {e o : Expr} {es : List Expr} {ta : TE} {t : TA} {pl : Sem Bool} (M : MethOk X.prog X.w X.K X.mg X.base CX k C m sp) (hr : Room k X.A) (hx : Passes CX X E) (he : PE X o ta) (ha : PA X (e :: es) t)
    (hst : starEach (e :: es) X.env = (false, eval e X.env) :: starEach es X.env := by rfl) (hpl : (backTo pos (starEach es X.env)).any (·.1) = false := by rfl)
    (ht : eval (.Call (.Attribute o m apos) (e :: es) [] pos) X.env = (do
      let ov ← eval o X.env
      standAt apos.atName
      let (f, first) ← holding [ov] (getMethod ov m pl)
      callWith pos f first (backTo pos (starEach (e :: es) X.env)) (backToKw pos (keywordEach [] X.env))) := by rfl) :
    PE X (.Call (.Attribute o m apos) (e :: es) [] pos) (tMeth C m sp [] E ta t) := by
  obtain ⟨f, fd, ps, c, hm, hb, F⟩ := M.ex
  exact pe_meth he c hm F hr hb .nil hx ha hst hpl ht
theorem pmeth0 {X : Cx} {CX : CXT} {k : Nat} {C : Addr} {sp : Sp} {E : XK} {m : Str} {pos apos : Pos} {o : Expr} {ta : TE} {pl : Sem Bool} (M : MethOk X.prog X.w X.K X.mg X.base CX k C m sp) (hr : Room k X.A) (hx : Passes CX X E) (he : PE X o ta)
    (ht : eval (.Call (.Attribute o m apos) [] [] pos) X.env = (do
      let ov ← eval o X.env
      standAt apos.atName
      let (f, first) ← holding [ov] (getMethod ov m pl)
      callWith pos f first (backTo pos (starEach [] X.env)) (backToKw pos (keywordEach [] X.env))) := by rfl) :
    PE X (.Call (.Attribute o m apos) [] [] pos) (tMeth C m sp [] E ta tNil) := by
  obtain ⟨f, fd, ps, c, hm, hb, F⟩ := M.ex
  exact pe_meth0 he c hm F hr hb .nil hx ht
/-- a class that is made by its name -/
structure MakeOk (P : Program) (w : World) (K : PySem.W.Frag) (mg : Str → Option Value) (base : Heap) (CX : CXT) (k : Nat) (x : Str) (C : Addr) (sp : Sp) : Prop where
  ex : ∃ f fd ps, mg x = some (.ref C) ∧ Mk K C f ∧ Binds K fd ps [] ∧ FnOk P w K mg base CX k f fd ps sp
theorem pmake {X : Cx} {CX : CXT} {k : Nat} {x : Str} {C : Addr} {sp : Sp} {E : XK} {p pos : Pos} {e : Expr} {es : List Expr} {t : TA} (M : MakeOk X.prog X.w X.K X.mg X.base CX k x C sp) (hr : Room (k + 1) X.A) (hx : Passes CX X E) (ha : PA X (e :: es) t) (hg : Gl X x := by rfl)
    (hdb : (x == ("__debug__" : Str)) = false := by decide) (he : starEach (e :: es) X.env = (false, eval e X.env) :: starEach es X.env := by rfl) (hpl : (backTo pos (starEach es X.env)).any (·.1) = false := by rfl) :
    PE X (.Call (.Name x p) (e :: es) [] pos) (tMake C sp [] E t) := by
  obtain ⟨f, fd, ps, hm, mk, hb, F⟩ := M.ex
  exact pe_make mk F hr hg hm hb .nil hx ha hdb he hpl
theorem pmake0 {X : Cx} {CX : CXT} {k : Nat} {x : Str} {C : Addr} {sp : Sp} {E : XK} {p pos : Pos} (M : MakeOk X.prog X.w X.K X.mg X.base CX k x C sp) (hr : Room (k + 1) X.A) (hx : Passes CX X E) (hg : Gl X x := by rfl)
    (hdb : (x == ("__debug__" : Str)) = false := by decide) : PE X (.Call (.Name x p) [] [] pos) (tMake C sp [] E tNil) := by
  obtain ⟨f, fd, ps, hm, mk, hb, F⟩ := M.ex
  exact pe_make0 mk F hr hg hm hb .nil hx hdb
end FX
end
section
set_option Elab.async false
set_option linter.all false
set_option maxRecDepth 100000
set_option maxHeartbeats 4000000
namespace FX
open PySem PySem.Spec PyProof.Rows L2

def TxtIs (mg : Str → Option Value) (x : Str) (z : Str) : Prop := ∃ t, mg x = some (.str z t)
theorem pe_txt {X : Cx} {x : Str} {z : Str} {pos : Pos} (h : TxtIs X.mg x z) (hg : Gl X x := by rfl) (hd : (x == ("__debug__" : Str)) = false := by decide) : PE X (.Name x pos) (tC (.str z)) := by
  obtain ⟨t, e⟩ := h
  exact pe_glob hg e ⟨t, rfl⟩ hd
/-- a written tuple -/
structure TupIs (K : PySem.W.Frag) (mg : Str → Option Value) (x : Str) (a : Addr) (xs : List V) : Prop where
  gl : mg x = some (.ref a)
  sq : ∀ H, SqT K H a xs
  ob : ∃ o, K.lookup a = some o ∧ o.cls = .type "tuple" ∧ o.dict = none
/-- a written dict -/
structure DicIs (K : PySem.W.Frag) (mg : Str → Option Value) (x : Str) (a : Addr) (kvs : List (Key × V)) : Prop where
  gl : mg x = some (.ref a)
  nd : (a == sysModules) = false
  at_ : ∃ vs, KV kvs vs ∧ ∀ (P : Program) (w : World) (h : Heap), K.In h → h.DictOf (mixKind P w) a vs
theorem pe_tab {X : Cx} {x : Str} {a : Addr} {xs : List V} {pos : Pos} (h : TupIs X.K X.mg x a xs) (hg : Gl X x := by rfl) (hd : (x == ("__debug__" : Str)) = false := by decide) : PE X (.Name x pos) (tC (.ref a)) := pe_glob hg h.gl rfl hd
theorem pe_dic {X : Cx} {x : Str} {a : Addr} {xs : List (Key × V)} {pos : Pos} (h : DicIs X.K X.mg x a xs) (hg : Gl X x := by rfl) (hd : (x == ("__debug__" : Str)) = false := by decide) : PE X (.Name x pos) (tC (.ref a)) := pe_glob hg h.gl rfl hd
/-- a def of the top, as it stands -/
structure DefAt (K : PySem.W.Frag) (mg : Str → Option Value) (x qual : Str) (st : Stmt) (ps : List Str) : Prop where
  ex : ∃ f fd, Fun K x qual st f fd ∧ mg x = some (.ref f) ∧ Binds K fd ps []
structure ClassAt (K : PySem.W.Frag) (mg : Str → Option Value) (x : Str) (C : Addr) (fields : List Str) : Prop where
  gl : mg x = some (.ref C)
  cl : Cls K C
  makes : PySem.W.makesIn K C = true
  kp : PySem.W.keepIn K (.ref C) = true
  na : ∀ f, f ∈ fields → NoAttr K C f
structure ErrAt (K : PySem.W.Frag) (mg : Str → Option Value) (x : Str) (C : Addr) (fields : List Str) : Prop where
  gl : mg x = some (.ref C)
  er : ErrC K C
  xf : XfC K C
  te : PySem.W.exmOne K (.ref C) (.ref C) = some true
  na : ∀ f, f ∈ fields → NoAttr K C f
structure InitAt (K : PySem.W.Frag) (C : Addr) (qual : Str) (st : Stmt) (ps : List Str) : Prop where
  ex : ∃ f fd, PySem.W.findIn K (.ref C) "__init__" = some (some (.ref f)) ∧ PySem.W.isFn K (.ref f) = true ∧ Fun K "__init__" qual st f fd ∧ Binds K fd ps []
structure MethAt (K : PySem.W.Frag) (C : Addr) (m qual : Str) (st : Stmt) (ps : List Str) : Prop where
  ex : ∃ f fd, Meth K C m f ∧ Fun K m qual st f fd ∧ Binds K fd ps []
section
variable {P : Program} {w : World} {K : PySem.W.Frag} {mg : Str → Option Value} {base : Heap} {CX : CXT} {k : Nat} {x m qual : Str} {st : Stmt} {ps fields : List Str} {C : Addr} {sp : Sp}
theorem DefAt.ok (D : DefAt K mg x qual st ps) (h : ∀ f fd, Fun K x qual st f fd → FnOk P w K mg base CX k f fd ps sp) : DefOk P w K mg base CX k x sp := by
  obtain ⟨f, fd, F, g, b⟩ := D.ex
  exact ⟨f, fd, ps, ⟨g, F.kp, b⟩, h f fd F⟩
theorem MethAt.ok (D : MethAt K C m qual st ps) (c : Cls K C) (h : ∀ f fd, Fun K m qual st f fd → FnOk P w K mg base CX k f fd ps sp) : MethOk P w K mg base CX k C m sp := by
  obtain ⟨f, fd, M, F, b⟩ := D.ex
  exact ⟨f, fd, ps, c, M, b, h f fd F⟩
theorem InitAt.ok (D : InitAt K C qual st ps) (c : ClassAt K mg x C fields) (h : ∀ f fd, Fun K "__init__" qual st f fd → FnOk P w K mg base CX k f fd ps sp) : MakeOk P w K mg base CX k x C sp := by
  obtain ⟨f, fd, i, s, F, b⟩ := D.ex
  exact ⟨f, fd, ps, c.gl, ⟨c.makes, i, s, c.kp⟩, b, h f fd F⟩
theorem DefOk.mono {j : Nat} (D : DefOk P w K mg base CX k x sp) (h : k ≤ j) : DefOk P w K mg base CX j x sp := by
  obtain ⟨f, fd, ps, a, b⟩ := D.ex
  exact ⟨f, fd, ps, a, b.mono h⟩
end
/-- where the classes and the tables of the top stand -/
structure Cs where
  Fault : Addr
  Piece : Addr
  NotAFormat : Addr
  NumberReading : Addr
  Lead : Addr
  TextStep : Addr
  NumberStep : Addr
  WordStep : Addr
  ChoiceStep : Addr
  Token : Addr
  Source : Addr
  Reading : Addr
  Keeper : Addr
  KIND_WORDS : Addr
  ROW_COUNTS : Addr
  SIGNS : Addr
/-- what the top has written -/
structure Top (K : PySem.W.Frag) (mg : Str → Option Value) (c : Cs) : Prop where
  n_NO_TOKEN : NumIs mg "NO_TOKEN" 1
  n_OUT_OF_PLACE : NumIs mg "OUT_OF_PLACE" 2
  n_OUT_OF_BOUNDS : NumIs mg "OUT_OF_BOUNDS" 3
  n_TOO_MANY : NumIs mg "TOO_MANY" 4
  n_REPEAT_WITHIN_REPEAT : NumIs mg "REPEAT_WITHIN_REPEAT" 5
  n_TOO_MUCH_GONE_THROUGH : NumIs mg "TOO_MUCH_GONE_THROUGH" 6
  n_LITERAL : NumIs mg "LITERAL" 0
  n_NUMBER : NumIs mg "NUMBER" 1
  n_WORD : NumIs mg "WORD" 2
  n_ALTERNATIVES : NumIs mg "ALTERNATIVES" 3
  n_OPTIONAL : NumIs mg "OPTIONAL" 4
  n_REPEAT : NumIs mg "REPEAT" 5
  n_MOST_PIECES : NumIs mg "MOST_PIECES" 14
  n_MOST_GONE_THROUGH : NumIs mg "MOST_GONE_THROUGH" 8
  n_MOST_TEXT_BYTES_pieces : NumIs mg "MOST_TEXT_BYTES_pieces" 8
  n_HIGHEST_BOUND : NumIs mg "HIGHEST_BOUND" 4
  n_ROW_END : NumIs mg "ROW_END" 10
  n_BLANK : NumIs mg "BLANK" 32
  n_QUOTE : NumIs mg "QUOTE" 34
  n_ZERO : NumIs mg "ZERO" 48
  n_NINE : NumIs mg "NINE" 57
  n_BACKSLASH : NumIs mg "BACKSLASH" 92
  n_SMALL_A : NumIs mg "SMALL_A" 97
  n_SMALL_Z : NumIs mg "SMALL_Z" 122
  n_LAST_BYTE : NumIs mg "LAST_BYTE" 126
  n_LETTER_COUNT : NumIs mg "LETTER_COUNT" 26
  n_END_plans : NumIs mg "END_plans" 0
  n_MOST_LETTERS : NumIs mg "MOST_LETTERS" 6
  n_MOST_DIGITS : NumIs mg "MOST_DIGITS" 4
  n_MOST_VALUES : NumIs mg "MOST_VALUES" 6
  n_MOST_NUMERALS : NumIs mg "MOST_NUMERALS" 60
  n_LOAD : NumIs mg "LOAD" 0
  n_SHOWN : NumIs mg "SHOWN" 1
  n_FORMAT : NumIs mg "FORMAT" 2
  n_PRINT : NumIs mg "PRINT" 3
  n_SCAN : NumIs mg "SCAN" 4
  n_WAYS : NumIs mg "WAYS" 5
  n_TOLD : NumIs mg "TOLD" 6
  n_LENGTHS : NumIs mg "LENGTHS" 7
  n_ROUND : NumIs mg "ROUND" 8
  n_PUT : NumIs mg "PUT" 9
  n_MOST_SOURCE_BYTES : NumIs mg "MOST_SOURCE_BYTES" 1200
  n_MOST_TEXT_BYTES_scanning : NumIs mg "MOST_TEXT_BYTES_scanning" 24
  n_MOST_NUMBERS : NumIs mg "MOST_NUMBERS" 60
  n_HIGHEST_NUMBER : NumIs mg "HIGHEST_NUMBER" 9999
  n_MARK : TxtIs mg "MARK" "mark"
  n_NUMERAL : TxtIs mg "NUMERAL" "numeral"
  n_STRING : TxtIs mg "STRING" "string"
  n_END_tokens : TxtIs mg "END_tokens" "end"
  n_LETTERS : TxtIs mg "LETTERS" "abcdefghijklmnopqrstuvwxyz"
  n_KIND_WORDS : TupIs K mg "KIND_WORDS" c.KIND_WORDS [.str "", .str "num", .str "word", .str "alt", .str "opt", .str "rep"]
  n_ROW_COUNTS : TupIs K mg "ROW_COUNTS" c.ROW_COUNTS [.int 0, .int 0, .int 0, .int 2, .int 1, .int 1]
  n_SIGNS : DicIs K mg "SIGNS" c.SIGNS [(.inl 40, .str "("), (.inl 41, .str ")"), (.inl 59, .str ";"), (.inl 123, .str "{"), (.inl 125, .str "}")]
  b_len : mg "len" = none
  b_sum : mg "sum" = none
  b_max : mg "max" = none
  b_min : mg "min" = none
  b_all : mg "all" = none
  b_range : mg "range" = none
  b_reversed : mg "reversed" = none
  b_ord : mg "ord" = none
  b_str : mg "str" = none
  b_list : mg "list" = none
  b_Exception : mg "Exception" = none
  f_Exception : PySem.W.findCls K (.type "Exception") (.type "type") "__init__" = some (.val (.builtin "Exception.__init__"))
  a_has_text : DefAt K mg "has_text" "has_text" (topS 22) ["kind"]
  a_has_bounds : DefAt K mg "has_bounds" "has_bounds" (topS 23) ["kind"]
  a_fewest_text_bytes : DefAt K mg "fewest_text_bytes" "fewest_text_bytes" (topS 24) ["kind"]
  a_lowest_bound : DefAt K mg "lowest_bound" "lowest_bound" (topS 25) ["kind"]
  a_read_behind_text : DefAt K mg "read_behind_text" "read_behind_text" (topS 26) ["reading", "kind", "text", "within_repeat"]
  a_piece_count : DefAt K mg "piece_count" "piece_count" (topS 27) ["row"]
  a_gone_through : DefAt K mg "gone_through" "gone_through" (topS 28) ["row"]
  a_piece_gone_through : DefAt K mg "piece_gone_through" "piece_gone_through" (topS 29) ["piece"]
  a_is_digit : DefAt K mg "is_digit" "is_digit" (topS 40) ["byte"]
  a_is_letter : DefAt K mg "is_letter" "is_letter" (topS 41) ["byte"]
  a_spelled : DefAt K mg "spelled" "spelled" (topS 42) ["text"]
  a_number_of : DefAt K mg "number_of" "number_of" (topS 43) ["digits"]
  a_row_numbers : DefAt K mg "row_numbers" "row_numbers" (topS 45) ["row"]
  a_piece_numbers : DefAt K mg "piece_numbers" "piece_numbers" (topS 46) ["piece"]
  a_one_form : DefAt K mg "one_form" "one_form" (topS 47) ["row", "listed"]
  a_line_of : DefAt K mg "line_of" "line_of" (topS 48) ["words"]
  a_value_line : DefAt K mg "value_line" "value_line" (topS 49) ["numbers"]
  a_row_words : DefAt K mg "row_words" "row_words" (topS 50) ["row"]
  a_piece_words : DefAt K mg "piece_words" "piece_words" (topS 51) ["piece"]
  a_quoted : DefAt K mg "quoted" "quoted" (topS 52) ["text"]
  a_read_format : DefAt K mg "read_format" "read_format" (topS 55) ["numbers"]
  a_shortest_length : DefAt K mg "shortest_length" "shortest_length" (topS 58) ["row"]
  a_shortest_piece_length : DefAt K mg "shortest_piece_length" "shortest_piece_length" (topS 59) ["piece"]
  a_longest_length : DefAt K mg "longest_length" "longest_length" (topS 60) ["row"]
  a_longest_piece_length : DefAt K mg "longest_piece_length" "longest_piece_length" (topS 61) ["piece"]
  a_repeated_length : DefAt K mg "repeated_length" "repeated_length" (topS 62) ["piece", "times", "each"]
  a_beginnings : DefAt K mg "beginnings" "beginnings" (topS 70) ["text", "lo", "hi"]
  a_steps_of : DefAt K mg "steps_of" "steps_of" (topS 73) ["row"]
  a_lay_row : DefAt K mg "lay_row" "lay_row" (topS 74) ["steps", "row", "after"]
  a_lay_piece : DefAt K mg "lay_piece" "lay_piece" (topS 75) ["steps", "piece", "after"]
  a_lay_step : DefAt K mg "lay_step" "lay_step" (topS 76) ["steps", "step"]
  a_choices : DefAt K mg "choices" "choices" (topS 77) ["steps", "piece", "after"]
  a_lay_times : DefAt K mg "lay_times" "lay_times" (topS 78) ["steps", "piece", "after"]
  a_print_of : DefAt K mg "print_of" "print_of" (topS 79) ["row", "numbers"]
  a_way_counts : DefAt K mg "way_counts" "way_counts" (topS 80) ["steps", "text"]
  a_ways_from : DefAt K mg "ways_from" "ways_from" (topS 81) ["step", "counts", "text", "place"]
  a_scanning_count : DefAt K mg "scanning_count" "scanning_count" (topS 82) ["row", "text"]
  a_first_scanning : DefAt K mg "first_scanning" "first_scanning" (topS 83) ["row", "text"]
  a_first_lead : DefAt K mg "first_lead" "first_lead" (topS 84) ["step", "counts", "text", "place"]
  a_read_tokens : DefAt K mg "read_tokens" "read_tokens" (topS 95) ["source"]
  a_past_blanks : DefAt K mg "past_blanks" "past_blanks" (topS 96) ["source", "place"]
  a_token_at : DefAt K mg "token_at" "token_at" (topS 97) ["source", "place"]
  a_run_end : DefAt K mg "run_end" "run_end" (topS 98) ["source", "place", "first", "last"]
  a_sign_word_at : DefAt K mg "sign_word_at" "sign_word_at" (topS 99) ["source", "place"]
  a_numeral_at : DefAt K mg "numeral_at" "numeral_at" (topS 100) ["source", "place"]
  a_string_at : DefAt K mg "string_at" "string_at" (topS 101) ["source", "place"]
  a_can_stand_in_string : DefAt K mg "can_stand_in_string" "can_stand_in_string" (topS 102) ["source", "at", "behind_backslash"]
  a_read_source : DefAt K mg "read_source" "read_source" (topS 107) ["source"]
  a_is_mark : DefAt K mg "is_mark" "is_mark" (topS 109) ["token", "told"]
  a_kind_begun : DefAt K mg "kind_begun" "kind_begun" (topS 110) ["token"]
  a_is_whole_value : DefAt K mg "is_whole_value" "is_whole_value" (topS 127) ["value"]
  a_counted : DefAt K mg "counted" "counted" (topS 128) ["numbers"]
  a_found : DefAt K mg "found" "found" (topS 129) ["numbers"]
  a_has_list : DefAt K mg "has_list" "has_list" (topS 130) ["call"]
  a_answer : DefAt K mg "answer" "answer" (topS 131) ["keeper", "call", "numbers"]
  a_answers : DefAt K mg "answers" "answers" (topS 132) ["calls"]
  c_Fault : ErrAt K mg "Fault" c.Fault ["kind", "place"]
  i_Fault : InitAt K c.Fault "Fault.__init__" (inClass (topS 7) 0) ["self", "kind", "place"]
  c_Piece : ClassAt K mg "Piece" c.Piece ["kind", "text", "lo", "hi", "rows"]
  i_Piece : InitAt K c.Piece "Piece.__init__" (inClass (topS 21) 0) ["self", "kind", "text", "lo", "hi", "rows"]
  c_NotAFormat : ErrAt K mg "NotAFormat" c.NotAFormat []
  i_NotAFormat : InitAt K c.NotAFormat "NotAFormat.__init__" (inClass (topS 54) 0) ["self"]
  c_NumberReading : ClassAt K mg "NumberReading" c.NumberReading ["numbers", "at", "pieces_read"]
  i_NumberReading : InitAt K c.NumberReading "NumberReading.__init__" (inClass (topS 56) 0) ["self", "numbers"]
  m_NumberReading_take : MethAt K c.NumberReading "take" "NumberReading.take" (inClass (topS 56) 1) ["self", "lowest", "highest"]
  m_NumberReading_read_row : MethAt K c.NumberReading "read_row" "NumberReading.read_row" (inClass (topS 56) 2) ["self", "within_repeat"]
  m_NumberReading_read_piece : MethAt K c.NumberReading "read_piece" "NumberReading.read_piece" (inClass (topS 56) 3) ["self", "within_repeat"]
  m_NumberReading_read_text : MethAt K c.NumberReading "read_text" "NumberReading.read_text" (inClass (topS 56) 4) ["self", "fewest"]
  m_NumberReading_read_bound : MethAt K c.NumberReading "read_bound" "NumberReading.read_bound" (inClass (topS 56) 5) ["self", "lowest"]
  c_Lead : ClassAt K mg "Lead" c.Lead ["numbers", "text", "target"]
  i_Lead : InitAt K c.Lead "Lead.__init__" (inClass (topS 65) 0) ["self", "numbers", "text", "target"]
  c_TextStep : ClassAt K mg "TextStep" c.TextStep ["text", "target"]
  i_TextStep : InitAt K c.TextStep "TextStep.__init__" (inClass (topS 66) 0) ["self", "text", "target"]
  m_TextStep_by_value : MethAt K c.TextStep "by_value" "TextStep.by_value" (inClass (topS 66) 1) ["self", "numbers"]
  m_TextStep_by_text : MethAt K c.TextStep "by_text" "TextStep.by_text" (inClass (topS 66) 2) ["self", "text"]
  c_NumberStep : ClassAt K mg "NumberStep" c.NumberStep ["lo", "hi", "target"]
  i_NumberStep : InitAt K c.NumberStep "NumberStep.__init__" (inClass (topS 67) 0) ["self", "lo", "hi", "target"]
  m_NumberStep_by_value : MethAt K c.NumberStep "by_value" "NumberStep.by_value" (inClass (topS 67) 1) ["self", "numbers"]
  m_NumberStep_by_text : MethAt K c.NumberStep "by_text" "NumberStep.by_text" (inClass (topS 67) 2) ["self", "text"]
  c_WordStep : ClassAt K mg "WordStep" c.WordStep ["lo", "hi", "target"]
  i_WordStep : InitAt K c.WordStep "WordStep.__init__" (inClass (topS 68) 0) ["self", "lo", "hi", "target"]
  m_WordStep_by_value : MethAt K c.WordStep "by_value" "WordStep.by_value" (inClass (topS 68) 1) ["self", "numbers"]
  m_WordStep_by_text : MethAt K c.WordStep "by_text" "WordStep.by_text" (inClass (topS 68) 2) ["self", "text"]
  c_ChoiceStep : ClassAt K mg "ChoiceStep" c.ChoiceStep ["leads"]
  i_ChoiceStep : InitAt K c.ChoiceStep "ChoiceStep.__init__" (inClass (topS 69) 0) ["self", "leads"]
  m_ChoiceStep_by_value : MethAt K c.ChoiceStep "by_value" "ChoiceStep.by_value" (inClass (topS 69) 1) ["self", "numbers"]
  m_ChoiceStep_by_text : MethAt K c.ChoiceStep "by_text" "ChoiceStep.by_text" (inClass (topS 69) 2) ["self", "text"]
  c_Token : ClassAt K mg "Token" c.Token ["kind", "told", "place", "behind"]
  i_Token : InitAt K c.Token "Token.__init__" (inClass (topS 94) 0) ["self", "kind", "told", "place", "behind"]
  c_Source : ClassAt K mg "Source" c.Source ["row", "listed"]
  i_Source : InitAt K c.Source "Source.__init__" (inClass (topS 106) 0) ["self", "row", "listed"]
  c_Reading : ClassAt K mg "Reading" c.Reading ["tokens", "at", "pieces_read"]
  i_Reading : InitAt K c.Reading "Reading.__init__" (inClass (topS 108) 0) ["self", "tokens"]
  m_Reading_next_is : MethAt K c.Reading "next_is" "Reading.next_is" (inClass (topS 108) 1) ["self", "kind"]
  m_Reading_take : MethAt K c.Reading "take" "Reading.take" (inClass (topS 108) 2) ["self"]
  m_Reading_take_kind : MethAt K c.Reading "take_kind" "Reading.take_kind" (inClass (topS 108) 3) ["self", "kind"]
  m_Reading_take_mark : MethAt K c.Reading "take_mark" "Reading.take_mark" (inClass (topS 108) 4) ["self", "told"]
  m_Reading_read_row : MethAt K c.Reading "read_row" "Reading.read_row" (inClass (topS 108) 5) ["self", "within_repeat"]
  m_Reading_read_piece : MethAt K c.Reading "read_piece" "Reading.read_piece" (inClass (topS 108) 6) ["self", "within_repeat"]
  m_Reading_check_piece : MethAt K c.Reading "check_piece" "Reading.check_piece" (inClass (topS 108) 7) ["self", "token", "kind", "within_repeat"]
  m_Reading_read_text : MethAt K c.Reading "read_text" "Reading.read_text" (inClass (topS 108) 8) ["self", "begun", "kind"]
  m_Reading_read_bound : MethAt K c.Reading "read_bound" "Reading.read_bound" (inClass (topS 108) 9) ["self", "lowest"]
  m_Reading_read_value : MethAt K c.Reading "read_value" "Reading.read_value" (inClass (topS 108) 10) ["self"]
  c_Keeper : ClassAt K mg "Keeper" c.Keeper ["row", "listed"]
  i_Keeper : InitAt K c.Keeper "Keeper.__init__" (inClass (topS 126) 0) ["self"]
  m_Keeper_load : MethAt K c.Keeper "load" "Keeper.load" (inClass (topS 126) 1) ["self", "source"]
  m_Keeper_shown : MethAt K c.Keeper "shown" "Keeper.shown" (inClass (topS 126) 2) ["self"]
  m_Keeper_as_numbers : MethAt K c.Keeper "as_numbers" "Keeper.as_numbers" (inClass (topS 126) 3) ["self"]
  m_Keeper_printed : MethAt K c.Keeper "printed" "Keeper.printed" (inClass (topS 126) 4) ["self", "value"]
  m_Keeper_scanned : MethAt K c.Keeper "scanned" "Keeper.scanned" (inClass (topS 126) 5) ["self", "text"]
  m_Keeper_ways : MethAt K c.Keeper "ways" "Keeper.ways" (inClass (topS 126) 6) ["self", "text"]
  m_Keeper_listed_value : MethAt K c.Keeper "listed_value" "Keeper.listed_value" (inClass (topS 126) 7) ["self", "number"]
  m_Keeper_lengths : MethAt K c.Keeper "lengths" "Keeper.lengths" (inClass (topS 126) 8) ["self"]
  m_Keeper_come_back : MethAt K c.Keeper "come_back" "Keeper.come_back" (inClass (topS 126) 9) ["self", "value"]
  m_Keeper_put : MethAt K c.Keeper "put" "Keeper.put" (inClass (topS 126) 10) ["self", "pieces"]
end FX
end
section
set_option Elab.async false
set_option linter.all false
set_option maxRecDepth 100000
set_option maxHeartbeats 4000000
namespace FX
open PySem PySem.Spec PyProof.Rows L2 FT
open VafmsBase (Fmt)

def nvs (t : List Nat) : List V := t.map fun n : Nat => V.int (Int.ofNat n)
def ivs (l : List Int) : List V := l.map V.int
theorem nvs_ivs (t : List Nat) : nvs t = ivs (VafmsBase.ints t) := by
  unfold nvs ivs VafmsBase.ints
  rw [List.map_map]
  rfl
theorem ivs_append (a b : List Int) : ivs (a ++ b) = ivs a ++ ivs b := List.map_append
theorem nvs_append (a b : List Nat) : nvs (a ++ b) = nvs a ++ nvs b := List.map_append
theorem ivs_length (a : List Int) : (ivs a).length = a.length := by simp [ivs]
theorem nvs_length (a : List Nat) : (nvs a).length = a.length := by simp [nvs]

def pcF (k : Nat) (t : Addr) (lo hi : Nat) (r : Addr) : List (Str × V) := [("kind", .int (k : Int)), ("text", .ref t), ("lo", .int (lo : Int)), ("hi", .int (hi : Int)), ("rows", .ref r)]
theorem lk_here {k : Str} {v : V} {r : List (Str × V)} : List.lookup k ((k, v) :: r) = some v := by
  have e : (k == k) = true := beq_self_eq_true k
  simp only [List.lookup, e]
theorem lk_past {k g : Str} {v : V} {r : List (Str × V)} (h : (k == g) = false) : List.lookup k ((g, v) :: r) = List.lookup k r := by
  simp only [List.lookup, h]
section
variable {k lo hi : Nat} {t r : Addr}
theorem pcF_kind : (pcF k t lo hi r).lookup ("kind" : Str) = some (.int (k : Int)) := lk_here
theorem pcF_text : (pcF k t lo hi r).lookup ("text" : Str) = some (.ref t) := (lk_past (by decide +kernel)).trans lk_here
theorem pcF_lo : (pcF k t lo hi r).lookup ("lo" : Str) = some (.int (lo : Int)) := (lk_past (by decide +kernel)).trans ((lk_past (by decide +kernel)).trans lk_here)
theorem pcF_hi : (pcF k t lo hi r).lookup ("hi" : Str) = some (.int (hi : Int)) := (lk_past (by decide +kernel)).trans ((lk_past (by decide +kernel)).trans ((lk_past (by decide +kernel)).trans lk_here))
theorem pcF_rows : (pcF k t lo hi r).lookup ("rows" : Str) = some (.ref r) := (lk_past (by decide +kernel)).trans ((lk_past (by decide +kernel)).trans ((lk_past (by decide +kernel)).trans ((lk_past (by decide +kernel)).trans lk_here)))
end
/-- at v a piece; its rows stand at rs -/
def PcAt (c : Cs) (H : Hp) (v : V) (k : Nat) (t : List Nat) (lo hi : Nat) (rs : List Addr) : Prop :=
  ∃ p dx ta ra : Addr, v = .ref p ∧ H p = some (.ins c.Piece dx (pcF k ta lo hi ra)) ∧ H ta = some (.lst (nvs t)) ∧ H ra = some (.lst (rs.map V.ref))
theorem PcAt.same {c : Cs} {H H' : Hp} {v : V} {k : Nat} {t : List Nat} {lo hi : Nat} {rs : List Addr} (h : PcAt c H v k t lo hi rs) (s : Same H H') : PcAt c H' v k t lo hi rs := by
  obtain ⟨p, dx, ta, ra, e, h1, h2, h3⟩ := h
  exact ⟨p, dx, ta, ra, e, s _ _ h1, s _ _ h2, s _ _ h3⟩
def Pcs (c : Cs) (H : Hp) : Fmt → List V → Prop
  | .done, vs => vs = []
  | .lit w r, vs => ∃ v us, vs = v :: us ∧ PcAt c H v 0 w 0 0 [] ∧ Pcs c H r us
  | .num lo hi r, vs => ∃ v us, vs = v :: us ∧ PcAt c H v 1 [] lo hi [] ∧ Pcs c H r us
  | .word lo hi r, vs => ∃ v us, vs = v :: us ∧ PcAt c H v 2 [] lo hi [] ∧ Pcs c H r us
  | .alt a b r, vs => ∃ v us ra rb xa xb, vs = v :: us ∧ PcAt c H v 3 [] 0 0 [ra, rb] ∧ H ra = some (.lst xa) ∧ Pcs c H a xa ∧ H rb = some (.lst xb) ∧ Pcs c H b xb ∧ Pcs c H r us
  | .opt a r, vs => ∃ v us ra xa, vs = v :: us ∧ PcAt c H v 4 [] 0 0 [ra] ∧ H ra = some (.lst xa) ∧ Pcs c H a xa ∧ Pcs c H r us
  | .rep s lo hi a r, vs => ∃ v us ra xa, vs = v :: us ∧ PcAt c H v 5 s lo hi [ra] ∧ H ra = some (.lst xa) ∧ Pcs c H a xa ∧ Pcs c H r us
/-- at a the list of a row's pieces -/
def RowAt (c : Cs) (H : Hp) (a : Addr) (f : Fmt) : Prop := ∃ vs, H a = some (.lst vs) ∧ Pcs c H f vs
theorem Pcs.same {c : Cs} {H H' : Hp} (s : Same H H') : ∀ {f : Fmt} {vs : List V}, Pcs c H f vs → Pcs c H' f vs
  | .done, _, h => h
  | .lit _ _, _, ⟨v, us, e, h1, h2⟩ => ⟨v, us, e, h1.same s, Pcs.same s h2⟩
  | .num _ _ _, _, ⟨v, us, e, h1, h2⟩ => ⟨v, us, e, h1.same s, Pcs.same s h2⟩
  | .word _ _ _, _, ⟨v, us, e, h1, h2⟩ => ⟨v, us, e, h1.same s, Pcs.same s h2⟩
  | .alt _ _ _, _, ⟨v, us, ra, rb, xa, xb, e, h1, ha, h2, hb, h3, h4⟩ => ⟨v, us, ra, rb, xa, xb, e, h1.same s, s _ _ ha, Pcs.same s h2, s _ _ hb, Pcs.same s h3, Pcs.same s h4⟩
  | .opt _ _, _, ⟨v, us, ra, xa, e, h1, ha, h2, h4⟩ => ⟨v, us, ra, xa, e, h1.same s, s _ _ ha, Pcs.same s h2, Pcs.same s h4⟩
  | .rep _ _ _ _ _, _, ⟨v, us, ra, xa, e, h1, ha, h2, h4⟩ => ⟨v, us, ra, xa, e, h1.same s, s _ _ ha, Pcs.same s h2, Pcs.same s h4⟩
theorem RowAt.same {c : Cs} {H H' : Hp} {a : Addr} {f : Fmt} (h : RowAt c H a f) (s : Same H H') : RowAt c H' a f := by
  obtain ⟨vs, h1, h2⟩ := h
  exact ⟨vs, s _ _ h1, h2.same s⟩
/-- a piece as pieces are seen -/
def PceAt (c : Cs) (H : Hp) (v : V) (p : Pce) : Prop := ∃ rs, PcAt c H v p.kind p.text p.lo p.hi rs ∧ Paired (RowAt c H) rs p.rows
theorem Paired.mapR {α β : Type} {F G : α → β → Prop} : ∀ {l : List α} {m : List β}, Paired F l m → (∀ a b, F a b → G a b) → Paired G l m
  | _, _, .nil, _ => .nil
  | _, _, .cons r t, f => .cons (f _ _ r) (Paired.mapR t f)
theorem PceAt.same {c : Cs} {H H' : Hp} {v : V} {p : Pce} (h : PceAt c H v p) (s : Same H H') : PceAt c H' v p := by
  obtain ⟨rs, h1, h2⟩ := h
  exact ⟨rs, h1.same s, Paired.mapR h2 fun a f x => x.same s⟩
theorem Pcs.view {c : Cs} {H : Hp} : ∀ {f : Fmt} {vs : List V}, Pcs c H f vs → Paired (PceAt c H) vs (pces f)
  | .done, _, h => by
    obtain rfl := h
    exact .nil
  | .lit _ _, _, ⟨v, us, e, h1, h2⟩ => e ▸ .cons ⟨_, h1, .nil⟩ (Pcs.view h2)
  | .num _ _ _, _, ⟨v, us, e, h1, h2⟩ => e ▸ .cons ⟨_, h1, .nil⟩ (Pcs.view h2)
  | .word _ _ _, _, ⟨v, us, e, h1, h2⟩ => e ▸ .cons ⟨_, h1, .nil⟩ (Pcs.view h2)
  | .alt _ _ _, _, ⟨v, us, ra, rb, xa, xb, e, h1, ha, h2, hb, h3, h4⟩ => e ▸ .cons ⟨_, h1, .cons ⟨_, ha, h2⟩ (.cons ⟨_, hb, h3⟩ .nil)⟩ (Pcs.view h4)
  | .opt _ _, _, ⟨v, us, ra, xa, e, h1, ha, h2, h4⟩ => e ▸ .cons ⟨_, h1, .cons ⟨_, ha, h2⟩ .nil⟩ (Pcs.view h4)
  | .rep _ _ _ _ _, _, ⟨v, us, ra, xa, e, h1, ha, h2, h4⟩ => e ▸ .cons ⟨_, h1, .cons ⟨_, ha, h2⟩ .nil⟩ (Pcs.view h4)
theorem Paired.at {α β : Type} {F : α → β → Prop} : ∀ {l : List α} {m : List β} {i : Nat} {x : α}, Paired F l m → l[i]? = some x → ∃ y, m[i]? = some y ∧ F x y
  | _, _, i, x, .nil, h => by simp at h
  | _, _, 0, x, .cons r t, h => by
    obtain rfl := Option.some.inj h
    exact ⟨_, rfl, r⟩
  | _, _, i + 1, x, .cons r t, h => Paired.at (i := i) t h
theorem take_more {α : Type} : ∀ {l : List α} {i : Nat} {x : α}, l[i]? = some x → l.take (i + 1) = l.take i ++ [x]
  | [], i, x, h => by simp at h
  | a :: l, 0, x, h => by
    obtain rfl := Option.some.inj h
    rfl
  | a :: l, i + 1, x, h => by
    have ih := take_more (l := l) (i := i) (x := x) h
    show a :: l.take (i + 1) = a :: l.take i ++ [x]
    rw [ih]
    rfl
end FX
end
section
set_option Elab.async false
set_option linter.all false
set_option maxRecDepth 100000
set_option maxHeartbeats 4000000
namespace FX
open PySem PySem.Spec PyProof.Rows L2 FT
open VafmsBase (Fmt)

theorem _root_.L2.Same.add {H : Hp} {p : Addr} {o : HO} (h : H p = none) : Same H (upd H p o) := fun b u e => by
  rw [upd_ne (ne_of_none e h)]
  exact e
/-- an object that H does not know may change -/
theorem _root_.L2.Same.chg {H H' : Hp} {p : Addr} {o : HO} (s : Same H H') (h : H p = none) : Same H (upd H' p o) := fun b u e => by
  rw [upd_ne (ne_of_none e h)]
  exact s b u e
theorem inV_ints (i : Int) (l : List Int) : inV (.int i) (l.map V.int) = l.any (fun j => j == i) := by
  unfold inV
  rw [List.any_map]
  rfl
theorem sz {n : Nat} (h : n ≤ 100000) : n ≤ sizeLine := Nat.le_trans h (by decide)
theorem szl {n : Nat} (h : n < 100000) : n < sizeLine := Nat.lt_of_lt_of_le h (by decide)
/-- the heap but for one object -/
def hideA (D : Addr) (H : Hp) : Hp := fun b => if b = D then none else H b
theorem hideA_ne {D b : Addr} {H : Hp} (h : b ≠ D) : hideA D H b = H b := if_neg h
theorem hideA_same {D : Addr} {H : Hp} : Same (hideA D H) H := fun b o e => by
  unfold hideA at e
  split at e
  · cases e
  · exact e
theorem hideA_upd {D : Addr} {H H' : Hp} {o : HO} (s : Same H H') : Same (hideA D H) (hideA D (upd H' D o)) := fun b u e => by
  unfold hideA at e ⊢
  split at e
  · cases e
  · rename_i h
    rw [if_neg h, upd_ne h]
    exact s b u e
/-- [e for x in xs], each item's value as R tells, all else as it was -/
theorem lc_R {K : PySem.W.Frag} {te : TE} {j : Nat} {a : Addr} {xs : List V} {σ : L2.St} {H : Hp} {Q : VK} (R : Nat → V → Hp → Prop) (mono : ∀ i y H H', R i y H → Same H H' → R i y H') (hS : SqL K H a xs) (hl : xs.length ≤ 100000)
    (hw : ∀ x, wipe ((wipe σ [j]).set j (some x)) [j] = wipe σ [j])
    (hte : ∀ D i x H', H D = none → (H' D).isSome = true → xs[i]? = some x → Same H H' → ∀ Q' : VK, (∀ y H2, Same H' H2 → R i y (hideA D H2) → Q' y H2) → te ((wipe σ [j]).set j (some x)) H' Q')
    (k : ∀ D ys H', H D = none → Same H H' → H' D = some (.lst ys) → ys.length = xs.length → (∀ i y, ys[i]? = some y → R i y H') → Q (.ref D) H') :
    ∀ D, H D = none → ∃ W : Nat → Nat → Hp → Prop, (∃ m, W 0 m (upd H D (.lst []))) ∧ ∀ i m H, W i m H →
      ((Itl K a).stop i H ∧ Q (.ref D) H) ∨ ((Itl K a).go i H ∧ ∃ Nx : Hp → Prop, (∀ H', Nx H' → ∃ m', m' < m ∧ W (i + 1) m' H') ∧ ∀ x H', (Itl K a).yld i H x H' → gName j x (wipe σ [j]) H' fun σ2 H2 => wipe σ2 [j] = wipe σ [j] ∧ tYes σ2 H2 fun b H3 =>
        if b = true then te σ2 H3 fun y H4 => ∃ acc, H4 D = some (.lst acc) ∧ acc.length < sizeLine ∧ Nx (upd H4 D (.lst (acc ++ [y]))) else Nx H3) := fun D hD => by
  refine lc_list (K := K) (a := a) (xs := xs) (fun i H' => Same H H' ∧ ∃ ys, H' D = some (.lst ys) ∧ ys.length = i ∧ ∀ n y, ys[n]? = some y → R n y (hideA D H')) ⟨Same.add hD, [], upd_same, rfl, fun n y h => by simp at h⟩ (fun i H' _ h => h.1.seq hS) ?_ ?_
  · rintro i x H' hi ⟨s, ys, hy, hyl, hr⟩
    refine ⟨hw x, ?_⟩
    unfold tYes
    dsimp only
    rw [if_pos rfl]
    refine hte D i x H' hD (by rw [hy]; rfl) hi s _ fun y H2 s2 r2 => ⟨ys, s2 _ _ hy, szl (by
      have := (List.getElem?_eq_some_iff.mp hi).1
      omega), Same.chg (Same.trans s s2) hD, ys ++ [y], upd_same, by rw [List.length_append, hyl]; rfl, fun n z hz => ?_⟩
    by_cases hn : n < ys.length
    · rw [List.getElem?_append_left hn] at hz
      exact mono n z _ _ (hr n z hz) (hideA_upd s2)
    · rw [List.getElem?_append_right (by omega)] at hz
      have e0 : n - ys.length = 0 := by
        cases e : n - ys.length with
        | zero => rfl
        | succ m => rw [e] at hz; simp at hz
      rw [e0] at hz
      obtain rfl : y = z := Option.some.inj hz
      have en : n = i := by omega
      subst en
      exact mono _ _ _ _ r2 (hideA_upd (Same.refl H2))
  · rintro H' ⟨s, ys, hy, hyl, hr⟩
    exact k D ys H' hD s hy hyl fun i y hiy => mono i y _ _ (hr i y hiy) hideA_same
/-- .. of values that need no heap -/
theorem lc_vals {K : PySem.W.Frag} {te : TE} {j : Nat} {a : Addr} {xs zs : List V} {σ : L2.St} {H : Hp} {Q : VK} (hS : SqL K H a xs) (hz : zs.length = xs.length) (hl : xs.length ≤ 100000)
    (hw : ∀ x, wipe ((wipe σ [j]).set j (some x)) [j] = wipe σ [j])
    (hte : ∀ (i : Nat) (x z : V) (H' : Hp), xs[i]? = some x → zs[i]? = some z → Same H H' → ∀ Q' : VK, (∀ H2, Same H' H2 → Q' z H2) → te ((wipe σ [j]).set j (some x)) H' Q')
    (k : ∀ D H', H D = none → Same H H' → H' D = some (.lst zs) → Q (.ref D) H') :
    ∀ D, H D = none → ∃ W : Nat → Nat → Hp → Prop, (∃ m, W 0 m (upd H D (.lst []))) ∧ ∀ i m H, W i m H →
      ((Itl K a).stop i H ∧ Q (.ref D) H) ∨ ((Itl K a).go i H ∧ ∃ Nx : Hp → Prop, (∀ H', Nx H' → ∃ m', m' < m ∧ W (i + 1) m' H') ∧ ∀ x H', (Itl K a).yld i H x H' → gName j x (wipe σ [j]) H' fun σ2 H2 => wipe σ2 [j] = wipe σ [j] ∧ tYes σ2 H2 fun b H3 =>
        if b = true then te σ2 H3 fun y H4 => ∃ acc, H4 D = some (.lst acc) ∧ acc.length < sizeLine ∧ Nx (upd H4 D (.lst (acc ++ [y]))) else Nx H3) :=
  lc_R (fun i y _ => zs[i]? = some y) (fun _ _ _ _ h _ => h) hS hl hw (fun D i x H' _ _ hi s Q' q => by
    have hlt := (List.getElem?_eq_some_iff.mp hi).1
    have hz' : zs[i]? = some (zs[i]'(by omega)) := List.getElem?_eq_getElem (by omega)
    exact hte i x _ H' hi hz' s Q' fun H2 s2 => q _ H2 s2 hz') fun D ys H' hD s hy hyl hr => k D H' hD s (by
    have e : ys = zs := by
      refine List.ext_getElem? fun i => ?_
      by_cases h : i < ys.length
      · have h1 : ys[i]? = some ys[i] := List.getElem?_eq_getElem h
        rw [h1, hr i _ h1]
      · rw [List.getElem?_eq_none (by omega), List.getElem?_eq_none (by omega)]
    rw [← e]
    exact hy)

/-- te leaves the heap and gives v -/
def Gv (te : TE) (σ : L2.St) (H : Hp) (v : V) : Prop := ∀ Q : VK, Q v H → te σ H Q
theorem gv_var {i : Nat} {σ : L2.St} {H : Hp} {v : V} (h : σ[i]? = some (some v)) : Gv (tVar i) σ H v := fun Q q => ⟨v, h, q⟩
theorem gv_fld {K : PySem.W.Frag} {ta : TE} {σ : L2.St} {H : Hp} {a C dx : Addr} {fs : List (Str × V)} {f : Str} {v : V} (h : Gv ta σ H (.ref a)) (ho : H a = some (.ins C dx fs)) (hc : Cls K C) (hn : NoAttr K C f) (hl : fs.lookup f = some v) : Gv (tFld K ta f) σ H v := fun Q q =>
  h _ ⟨a, C, dx, fs, v, rfl, ho, hc, hn, hl, q⟩
theorem t_lc_R {K : PySem.W.Frag} {tl te : TE} {j : Nat} {a : Addr} {xs : List V} {σ : L2.St} {H : Hp} {Q : VK} (ht : Gv tl σ H (.ref a)) (R : Nat → V → Hp → Prop) (hS : SqL K H a xs) (hl : xs.length ≤ 100000) (mono : ∀ i y H H', R i y H → Same H H' → R i y H')
    (hw : ∀ x, wipe ((wipe σ [j]).set j (some x)) [j] = wipe σ [j])
    (hte : ∀ D i x H', H D = none → (H' D).isSome = true → xs[i]? = some x → Same H H' → ∀ Q' : VK, (∀ y H2, Same H' H2 → R i y (hideA D H2) → Q' y H2) → te ((wipe σ [j]).set j (some x)) H' Q')
    (k : ∀ D ys H', H D = none → Same H H' → H' D = some (.lst ys) → ys.length = xs.length → (∀ i y, ys[i]? = some y → R i y H') → Q (.ref D) H') : tLc (iList K tl) (gName j) tYes te [j] σ H Q :=
  ht _ ⟨a, rfl, ⟨xs, hS⟩, lc_R R mono hS hl hw hte k⟩
theorem t_lc_vals {K : PySem.W.Frag} {tl te : TE} {j : Nat} {a : Addr} {xs : List V} {σ : L2.St} {H : Hp} {Q : VK} (zs : List V) (ht : Gv tl σ H (.ref a)) (hS : SqL K H a xs) (hz : zs.length = xs.length) (hl : xs.length ≤ 100000)
    (hw : ∀ x, wipe ((wipe σ [j]).set j (some x)) [j] = wipe σ [j])
    (hte : ∀ (i : Nat) (x z : V) (H' : Hp), xs[i]? = some x → zs[i]? = some z → Same H H' → ∀ Q' : VK, (∀ H2, Same H' H2 → Q' z H2) → te ((wipe σ [j]).set j (some x)) H' Q')
    (k : ∀ D H', H D = none → Same H H' → H' D = some (.lst zs) → Q (.ref D) H') : tLc (iList K tl) (gName j) tYes te [j] σ H Q :=
  ht _ ⟨a, rfl, ⟨xs, hS⟩, lc_vals hS hz hl hw hte k⟩

/-- the slots at a def's start -/
def pad : List Str → List V → L2.St
  | [], _ => []
  | _ :: N, v :: vs => some v :: pad N vs
  | _ :: N, [] => none :: pad N []
theorem pad_nil : ∀ N : List Str, pad N [] = List.replicate N.length none
  | [] => rfl
  | _ :: N => by
    show none :: pad N [] = _
    rw [pad_nil N]
    rfl
theorem start_pad : ∀ {N : List Str} {vs : List V}, Nat.ble vs.length N.length = true → L2.start N vs = pad N vs
  | N, [], _ => by
    rw [pad_nil]
    rfl
  | [], _ :: _, h => by cases h
  | _ :: N, v :: vs, h => by
    have ih := start_pad (N := N) (vs := vs) h
    show some v :: (vs.map some ++ List.replicate (N.length + 1 - (vs.length + 1)) none) = some v :: pad N vs
    rw [← ih, Nat.add_sub_add_right]
    rfl

/-! ### statements in a row -/
theorem seq_go {t u : TS} {D : Ends} {σ : L2.St} {H : Hp} (h : t { D with nx := u D } σ H) : tSeq t u D σ H := h
/-- a statement whose ways meet again in M -/
theorem seq_by {t u : TS} {D : Ends} {σ : L2.St} {H : Hp} (M : L2.St → Hp → Prop) (h2 : ∀ σ' H', M σ' H' → u D σ' H') (h1 : ∀ N : L2.St → Hp → Prop, (∀ σ' H', M σ' H' → N σ' H') → t { D with nx := N } σ H) : tSeq t u D σ H := h1 _ h2
/-- for x in xs -/
theorem t_for {K : PySem.W.Frag} {tl : TE} {tb : TS} {j : Nat} {a : Addr} {xs : List V} {D : Ends} {σ : L2.St} {H : Hp} (Pv : Nat → L2.St → Hp → Prop) (ht : Gv tl σ H (.ref a)) (hS : SqL K H a xs) (h0 : Pv 0 σ H) (hl : ∀ i σ H, Pv i σ H → SqL K H a xs)
    (hs : ∀ (i : Nat) (x : V) (σ : L2.St) (H : Hp) (N : L2.St → Hp → Prop), xs[i]? = some x → Pv i σ H → (∀ σ' H', Pv (i + 1) σ' H' → N σ' H') → tb { D with nx := N, ct := N, bk := D.nx } (σ.set j (some x)) H) (hd : ∀ σ H, Pv xs.length σ H → D.nx σ H) :
    tFor (iList K tl) (gName j) tb D σ H :=
  ht _ ⟨a, rfl, ⟨xs, hS⟩, for_list (K := K) (a := a) (xs := xs) Pv h0 (fun i σ H _ p => hl i σ H p) (fun i x σ H hi p => hs i x σ H _ hi p fun _ _ z => z) hd⟩
/-- a new list, all else as it was -/
def NewL (H : Hp) (l : List V) (Q : VK) : Prop := ∀ p H', H p = none → Same H H' → H' p = some (.lst l) → Q (.ref p) H'

/-! ### walks of any kind: n turns, the items known ahead, the heap left as it is -/
structure Turns (J : It) (n : Nat) (it : Nat → V) (H : Hp) : Prop where
  go : ∀ i H', Same H H' → i < n → J.go i H'
  stop : ∀ H', Same H H' → J.stop n H'
  yld : ∀ i H' x H'', Same H H' → i < n → J.yld i H' x H'' → H'' = H' ∧ x = it i
theorem turns_str (x : Str) (H : Hp) : Turns (Its x) x.cps.size (fun i => .str ⟨#[x.cps.getD i 0]⟩) H :=
  ⟨fun i H' _ h => h, fun H' _ => Nat.le_refl _, fun i H' y H'' _ h hy => by
    obtain ⟨e, c, hc, e2⟩ := hy
    refine ⟨e, ?_⟩
    rw [e2]
    have : x.cps.getD i 0 = c := by
      rw [Array.getD_eq_getD_getElem?, hc]
      rfl
    rw [this]⟩
theorem turns_range (lo : Int) (n : Nat) (H : Hp) : Turns (Itr lo n) n (fun i => .int (lo + i)) H :=
  ⟨fun i H' _ h => h, fun H' _ => Nat.le_refl _, fun i H' y H'' _ h hy => hy⟩
theorem turns_rangeC (lo c : Int) (n : Nat) (H : Hp) : Turns (Itc lo c n) n (fun i => .int (lo + (i : Nat) * c)) H :=
  ⟨fun i H' _ h => h, fun H' _ => Nat.le_refl _, fun i H' y H'' _ h hy => hy⟩
theorem turns_rev {K : PySem.W.Frag} {a : Addr} {xs : List V} {H : Hp} (h : H a = some (.lst xs)) : Turns (Itv K a xs.length) xs.length (fun i => xs.getD (xs.length - 1 - i) .non) H :=
  ⟨fun i H' s hi => ⟨hi, xs, xs[xs.length - 1 - i]'(by omega), SqL.of (s _ _ h), List.getElem?_eq_getElem (by omega)⟩, fun H' _ => Nat.le_refl _, fun i H' y H'' s hi hy => ⟨hy.1, by
    have e := hy.2 xs (SqL.of (s _ _ h))
    rw [List.getD_eq_getElem?_getD, e]
    rfl⟩⟩
theorem t_lc_gen {wi : TI} {te : TE} {j : Nat} {J : It} {n : Nat} {it : Nat → V} {σ : L2.St} {H : Hp} {Q : VK} (ht : ∀ R : It → Hp → Prop, R J H → wi σ H R) (Tn : Turns J n it H) (R : Nat → V → Hp → Prop) (mono : ∀ i y H H', R i y H → Same H H' → R i y H') (hl : n ≤ 100000)
    (hw : ∀ x, wipe ((wipe σ [j]).set j (some x)) [j] = wipe σ [j])
    (hte : ∀ D i H', H D = none → (H' D).isSome = true → i < n → Same H H' → ∀ Q' : VK, (∀ y H2, Same H' H2 → R i y (hideA D H2) → Q' y H2) → te ((wipe σ [j]).set j (some (it i))) H' Q')
    (k : ∀ D ys H', H D = none → Same H H' → H' D = some (.lst ys) → ys.length = n → (∀ i y, ys[i]? = some y → R i y H') → Q (.ref D) H') : tLc wi (gName j) tYes te [j] σ H Q := by
  refine ht _ fun D hD => ⟨fun i m H' => m = n - i ∧ i ≤ n ∧ Same H H' ∧ ∃ ys, H' D = some (.lst ys) ∧ ys.length = i ∧ ∀ n y, ys[n]? = some y → R n y (hideA D H'), ⟨n, by omega, Nat.zero_le _, Same.add hD, [], upd_same, rfl, fun n y h => by simp at h⟩, ?_⟩
  rintro i m H' ⟨rfl, hi, s, ys, hy, hyl, hr⟩
  by_cases hlt : i < n
  · refine .inr ⟨Tn.go i H' s hlt, fun H' => i + 1 ≤ n ∧ Same H H' ∧ ∃ ys, H' D = some (.lst ys) ∧ ys.length = i + 1 ∧ ∀ n y, ys[n]? = some y → R n y (hideA D H'), fun H2 p => ⟨n - (i + 1), by omega, rfl, p.1, p.2⟩, fun x H2 hx => ?_⟩
    obtain ⟨rfl, rfl⟩ := Tn.yld i H' x H2 s hlt hx
    refine ⟨hw _, ?_⟩
    unfold tYes
    dsimp only
    rw [if_pos rfl]
    refine hte D i H2 hD (by rw [hy]; rfl) hlt s _ fun y H3 s2 r2 => ⟨ys, s2 _ _ hy, szl (by omega), hlt, Same.chg (Same.trans s s2) hD, ys ++ [y], upd_same, by rw [List.length_append, hyl]; rfl, fun m z hz => ?_⟩
    by_cases hn : m < ys.length
    · rw [List.getElem?_append_left hn] at hz
      exact mono m z _ _ (hr m z hz) (hideA_upd s2)
    · rw [List.getElem?_append_right (by omega)] at hz
      have e0 : m - ys.length = 0 := by
        cases e : m - ys.length with
        | zero => rfl
        | succ q => rw [e] at hz; simp at hz
      rw [e0] at hz
      obtain rfl : y = z := Option.some.inj hz
      have en : m = i := by omega
      subst en
      exact mono _ _ _ _ r2 (hideA_upd (Same.refl H3))
  · have e : i = n := by omega
    subst e
    exact .inl ⟨Tn.stop H' s, k D ys H' hD s hy hyl fun i y hiy => mono i y _ _ (hr i y hiy) hideA_same⟩
/-- .. of values that need no heap -/
theorem t_lc_genv {wi : TI} {te : TE} {j : Nat} {J : It} {n : Nat} {it : Nat → V} {σ : L2.St} {H : Hp} {Q : VK} (zs : List V) (ht : ∀ R : It → Hp → Prop, R J H → wi σ H R) (Tn : Turns J n it H) (hz : zs.length = n) (hl : n ≤ 100000)
    (hw : ∀ x, wipe ((wipe σ [j]).set j (some x)) [j] = wipe σ [j])
    (hte : ∀ (i : Nat) (z : V) (H' : Hp), i < n → zs[i]? = some z → Same H H' → ∀ Q' : VK, (∀ H2, Same H' H2 → Q' z H2) → te ((wipe σ [j]).set j (some (it i))) H' Q')
    (k : ∀ D H', H D = none → Same H H' → H' D = some (.lst zs) → Q (.ref D) H') : tLc wi (gName j) tYes te [j] σ H Q :=
  t_lc_gen ht Tn (fun i y _ => zs[i]? = some y) (fun _ _ _ _ h _ => h) hl hw (fun D i H' _ _ hi s Q' q => by
    have hz' : zs[i]? = some (zs[i]'(by omega)) := List.getElem?_eq_getElem (by omega)
    exact hte i _ H' hi hz' s Q' fun H2 s2 => q _ H2 s2 hz') fun D ys H' hD s hy hyl hr => k D H' hD s (by
    have e : ys = zs := by
      refine List.ext_getElem? fun i => ?_
      by_cases h : i < ys.length
      · have h1 : ys[i]? = some ys[i] := List.getElem?_eq_getElem h
        rw [h1, hr i _ h1]
      · rw [List.getElem?_eq_none (by omega), List.getElem?_eq_none (by omega)]
    rw [← e]
    exact hy)
theorem t_for_gen {wi : TI} {tb : TS} {j : Nat} {J : It} {n : Nat} {it : Nat → V} {D : Ends} {σ : L2.St} {H : Hp} (Pv : Nat → L2.St → Hp → Prop) (ht : ∀ R : It → Hp → Prop, R J H → wi σ H R) (Tn : Turns J n it H) (h0 : Pv 0 σ H) (hsame : ∀ i σ H', Pv i σ H' → Same H H')
    (hs : ∀ (i : Nat) (σ : L2.St) (H : Hp) (N : L2.St → Hp → Prop), i < n → Pv i σ H → (∀ σ' H', Pv (i + 1) σ' H' → N σ' H') → tb { D with nx := N, ct := N, bk := D.nx } (σ.set j (some (it i))) H) (hd : ∀ σ H, Pv n σ H → D.nx σ H) :
    tFor wi (gName j) tb D σ H := by
  refine ht _ ⟨fun i m σ H => m = n - i ∧ i ≤ n ∧ Pv i σ H, ⟨n, by omega, Nat.zero_le _, h0⟩, ?_⟩
  rintro i m σ H' ⟨rfl, hi, p⟩
  have s := hsame i σ H' p
  by_cases hlt : i < n
  · refine .inr ⟨Tn.go i H' s hlt, fun σ H' => i + 1 ≤ n ∧ Pv (i + 1) σ H', fun σ2 H2 q => ⟨n - (i + 1), by omega, rfl, q⟩, fun x H2 hx => ?_⟩
    obtain ⟨rfl, rfl⟩ := Tn.yld i H' x H2 s hlt hx
    exact hs i σ H2 _ hlt p fun σ' H'' q => ⟨hlt, q⟩
  · have e : i = n := by omega
    subst e
    exact .inl ⟨Tn.stop H' s, hd σ H' p⟩
/-! ### lists of texts -/
def TxtAt (H : Hp) (v : V) (t : List Nat) : Prop := ∃ a : Addr, v = .ref a ∧ H a = some (.lst (nvs t))
def TxtsAt (H : Hp) (vs : List V) (ts : List (List Nat)) : Prop := Paired (TxtAt H) vs ts
theorem TxtAt.same {H H' : Hp} {v : V} {t : List Nat} (h : TxtAt H v t) (s : Same H H') : TxtAt H' v t := by
  obtain ⟨a, e, x⟩ := h
  exact ⟨a, e, s _ _ x⟩
theorem TxtsAt.same {H H' : Hp} {vs : List V} {ts : List (List Nat)} (h : TxtsAt H vs ts) (s : Same H H') : TxtsAt H' vs ts := Paired.mapR h fun a b x => x.same s
theorem paired_app {α β : Type} {F : α → β → Prop} : ∀ {l : List α} {m : List β} {l' : List α} {m' : List β}, Paired F l m → Paired F l' m' → Paired F (l ++ l') (m ++ m')
  | _, _, _, _, .nil, h => h
  | _, _, _, _, .cons r t, h => .cons r (paired_app t h)
/-- a text at a place that was free in H0 -/
def TxtNew (H0 H : Hp) (v : V) (t : List Nat) : Prop := ∃ a : Addr, v = .ref a ∧ H0 a = none ∧ H a = some (.lst (nvs t))
def TxtsNew (H0 H : Hp) (vs : List V) (ts : List (List Nat)) : Prop := Paired (TxtNew H0 H) vs ts
theorem TxtsNew.same {H0 H H' : Hp} {vs : List V} {ts : List (List Nat)} (h : TxtsNew H0 H vs ts) (s : Same H H') : TxtsNew H0 H' vs ts := Paired.mapR h fun a b x => by
  obtain ⟨a, e, n, x⟩ := x
  exact ⟨a, e, n, s _ _ x⟩
theorem TxtsNew.at_ {H0 H : Hp} {vs : List V} {ts : List (List Nat)} (h : TxtsNew H0 H vs ts) : TxtsAt H vs ts := Paired.mapR h fun a b x => by
  obtain ⟨a, e, n, x⟩ := x
  exact ⟨a, e, x⟩
/-- a new list of texts, each at a new place -/
def NewT (H : Hp) (ts : List (List Nat)) (Q : VK) : Prop := ∀ p vs H', H p = none → Same H H' → H' p = some (.lst vs) → TxtsNew H (hideA p H') vs ts → Q (.ref p) H'
/-- texts that were made behind H1, where D stood: they stand apart from D -/
theorem TxtsNew.over {H H1 H2 : Hp} {b D : Addr} {o u : HO} {vs : List V} {ts : List (List Nat)} (h : TxtsNew H1 (hideA b H2) vs ts) (s : Same H H1) (hD : H1 D = some o) : TxtsNew H (hideA D (upd H2 D u)) vs ts := Paired.mapR h fun v t x => by
  obtain ⟨a, e, n, x⟩ := x
  have ne : a ≠ D := fun z => by rw [z, hD] at n; cases n
  exact ⟨a, e, s.free n, by rw [hideA_ne ne, upd_ne ne]; exact hideA_same _ _ x⟩
theorem TxtNew.over {H H1 H2 : Hp} {D b : Addr} {o u : HO} {t : List Nat} (hb : H1 b = none) (h : H2 b = some (.lst (nvs t))) (s : Same H H1) (hD : H1 D = some o) : TxtNew H (hideA D (upd H2 D u)) (.ref b) t := by
  have ne : b ≠ D := fun z => by rw [z, hD] at hb; cases hb
  exact ⟨b, rfl, s.free hb, by rw [hideA_ne ne, upd_ne ne]; exact h⟩
/-- a new text stands apart from what was there -/
theorem new_apart {H H' : Hp} {D b : Addr} {o u : HO} (hD : H D = some o) (hb : H b = none) (h : H' b = some u) : hideA D H' b = some u := by
  rw [hideA_ne]
  · exact h
  · intro e
    rw [e, hD] at hb
    cases hb
theorem paired_of {α β : Type} {F : α → β → Prop} : ∀ (ys : List α) (ts : List β), ys.length = ts.length → (∀ (i : Nat) (y : α), ys[i]? = some y → ∃ t : β, ts[i]? = some t ∧ F y t) → Paired F ys ts
  | [], [], _, _ => .nil
  | [], _ :: _, e, _ => by cases e
  | _ :: _, [], e, _ => by cases e
  | y :: ys, n :: v, e, h => by
    obtain ⟨m, h1, h2⟩ := h 0 y rfl
    obtain rfl : n = m := Option.some.inj h1
    exact .cons h2 (paired_of ys v (Nat.succ.inj e) fun i z hz => h (i + 1) z hz)
theorem hide_same {D : Addr} {H H' : Hp} (s : Same H H') : Same (hideA D H) (hideA D H') := fun b u e => by
  unfold hideA at e ⊢
  split at e
  · cases e
  · rename_i h
    rw [if_neg h]
    exact s b u e
/-- for x in e, e giving a list as S tells -/
theorem t_forE {K : PySem.W.Frag} {tl : TE} {tb : TS} {j : Nat} {D : Ends} {σ : L2.St} {H : Hp} (S : Addr → List V → Hp → Prop) (ht : ∀ R : VK, (∀ a xs H1, S a xs H1 → R (.ref a) H1) → tl σ H R) (k : ∀ a xs H1, S a xs H1 → tFor (iList K (tC (.ref a))) (gName j) tb D σ H1) :
    tFor (iList K tl) (gName j) tb D σ H := ht _ fun a xs H1 hs => k a xs H1 hs
/-- what stood beside D, behind changes of D alone -/
theorem beside {D b : Addr} {H H' : Hp} {o : HO} (s : Same (hideA D H) (hideA D H')) (h : H b = some o) (hne : b ≠ D) : H' b = some o := hideA_same _ _ (s b o (by rw [hideA_ne hne]; exact h))
theorem hide_from {D : Addr} {H0 H H' : Hp} (hD : H0 D = none) (s0 : Same H0 H) (s : Same (hideA D H) (hideA D H')) : Same H0 H' := fun b o e => beside s (s0 b o e) fun z => by rw [z, hD] at e; cases e
theorem gv_c {σ : L2.St} {H : Hp} {v : V} : Gv (tC v) σ H v := fun Q q => q
end FX
end
section
set_option Elab.async false
set_option linter.all false
set_option maxRecDepth 100000
set_option maxHeartbeats 4000000
namespace FX
open PySem PySem.Spec PyProof.Rows L2 FT
open VafmsBase (Fmt)
local macro_rules | `(tactic| walk_at "rd") => `(tactic| dsimp only [tAug, tOp, tC, tCB, tCons, tNil, gName, tVar, tAsg, tRet, tIfS, tTest, tNext, tDrop, tFld, tCKw, tCall, rI0, rI, CMul, rEq, pad, List.set, List.getElem?_cons_zero, List.getElem?_cons_succ, cxOf, List.map_cons, List.map_nil])
local macro_rules | `(tactic| walk_at "sq") => `(tactic| (refine seq_go ?_; walk_at "rd"))
local macro_rules | `(tactic| walk_at "r0") => `(tactic| (rw [start_pad (by rfl)]; walk_at "rd"))
section
variable {P : Program} {w : World} {K : PySem.W.Frag} {mg : Str → Option Value} {base : Heap} {c : Cs}

def spHasText : Sp := fun vs H Q _ => ∃ k : Nat, vs = [.int (k : Int)] ∧ ∀ H', Same H H' → Q (.bl (hasText k)) H'
theorem sc_has_text : FnScope ["kind"] ["kind"] (defScope (topS 22)) := ⟨rfl, rfl, rfl, by decide +kernel, rfl, by decide +kernel, by decide +kernel⟩
theorem d_has_text (T : Top K mg c) : DefOk P w K mg base CX0 1 "has_text" spHasText := T.a_has_text.ok fun f fd F => by
  refine F.ok sc_has_text (fun vs H Q E h => ?_) (fun cdv A outer s H vs Q E hr h => ⟨_, (pss_one (ps_ret (pe_cmpR op_in_seq (pv 0) (pe_tup (pa_cons (pe_num T.n_LITERAL) (pa_cons (pe_num T.n_REPEAT) pa_nil))) (by rfl)))), ?_⟩)
  · obtain ⟨p, rfl, _⟩ := h
    rfl
  · obtain ⟨k, rfl, q⟩ := h
    refine ⟨_, rfl, (by show 2 ≤ sizeLine; decide), fun p hp => ⟨p, [.int 0, .int 5], rfl, .inr (SqT.of upd_same), rfl, rfl, ?_⟩⟩
    have e : inV (.int (k : Int)) [.int 0, .int 5] = hasText k := by
      rw [show ([.int 0, .int 5] : List V) = [0, 5].map V.int from rfl, inV_ints]
      unfold hasText
      rw [Bool.eq_iff_iff]
      simp
      omega
    show Q (.bl (inV (.int (k : Int)) [.int 0, .int 5])) _
    rw [e]
    exact q _ (Same.add hp)
def spHasBounds : Sp := fun vs H Q _ => ∃ k : Nat, vs = [.int (k : Int)] ∧ ∀ H', Same H H' → Q (.bl (hasBounds k)) H'
theorem sc_has_bounds : FnScope ["kind"] ["kind"] (defScope (topS 23)) := ⟨rfl, rfl, rfl, by decide +kernel, rfl, by decide +kernel, by decide +kernel⟩
theorem d_has_bounds (T : Top K mg c) : DefOk P w K mg base CX0 1 "has_bounds" spHasBounds := T.a_has_bounds.ok fun f fd F => by
  refine F.ok sc_has_bounds (fun vs H Q E h => ?_) (fun cdv A outer s H vs Q E hr h => ⟨_, (pss_one (ps_ret (pe_cmpR op_in_seq (pv 0) (pe_tup (pa_cons (pe_num T.n_NUMBER) (pa_cons (pe_num T.n_WORD) (pa_cons (pe_num T.n_REPEAT) pa_nil)))) (by rfl)))), ?_⟩)
  · obtain ⟨p, rfl, _⟩ := h
    rfl
  · obtain ⟨k, rfl, q⟩ := h
    refine ⟨_, rfl, (by show 3 ≤ sizeLine; decide), fun p hp => ⟨p, [.int 1, .int 2, .int 5], rfl, .inr (SqT.of upd_same), rfl, rfl, ?_⟩⟩
    have e : inV (.int (k : Int)) [.int 1, .int 2, .int 5] = hasBounds k := by
      rw [show ([.int 1, .int 2, .int 5] : List V) = [1, 2, 5].map V.int from rfl, inV_ints]
      unfold hasBounds
      rw [Bool.eq_iff_iff]
      simp
      omega
    show Q (.bl (inV (.int (k : Int)) [.int 1, .int 2, .int 5])) _
    rw [e]
    exact q _ (Same.add hp)

/-! ### piece_count -/
theorem DefAt.never {x qual : Str} {st : Stmt} {ps : List Str} {CX : CXT} {k : Nat} (D : DefAt K mg x qual st ps) : DefOk P w K mg base CX k x (fun _ _ _ _ => False) := D.ok fun f fd F => ⟨fun _ _ _ _ h => h.elim, fun _ _ _ _ _ _ _ _ _ _ _ _ _ h => h.elim⟩
theorem DefOk.imp {x : Str} {CX : CXT} {k : Nat} {sp sp' : Sp} (D : DefOk P w K mg base CX k x sp) (h : ∀ vs H Q E, sp' vs H Q E → sp vs H Q E) : DefOk P w K mg base CX k x sp' := by
  obtain ⟨f, fd, ps, a, b⟩ := D.ex
  exact ⟨f, fd, ps, a, b.imp h⟩
def spCount (c : Cs) (d : Nat) : Sp := fun vs H Q _ => ∃ (a : Addr) (f : Fmt), vs = [.ref a] ∧ RowAt c H a f ∧ depth f < d ∧ f.size ≤ 1000 ∧ ∀ H', Same H H' → Q (.int (f.size : Int)) H'
theorem sc_piece_count : FnScope ["row", "count", "piece", "inner"] ["row"] (defScope (topS 27)) := ⟨rfl, rfl, rfl, by decide +kernel, rfl, by decide +kernel, by decide +kernel⟩
theorem nvs_map (l : List Nat) : nvs l = (l.map Int.ofNat).map V.int := by
  simp [nvs]
theorem sum_ints (l : List Nat) : (l.map Int.ofNat).sum = Int.ofNat l.sum := by
  induction l with
  | nil => rfl
  | cons a l ih =>
    rw [List.map_cons, List.sum_cons, List.sum_cons, ih]
    rfl
theorem paired_map {α β : Type} {F : α → β → Prop} : ∀ {l : List α} {m : List β}, Paired F l m → l.length = m.length
  | _, _, .nil => rfl
  | _, _, .cons _ t => by rw [List.length_cons, List.length_cons, paired_map t]
theorem mem_of_at {α : Type} {l : List α} {i : Nat} {x : α} (h : l[i]? = some x) : x ∈ l := by
  obtain ⟨h1, h2⟩ := List.getElem?_eq_some_iff.mp h
  rw [← h2]
  exact List.getElem_mem h1
theorem le_sum_of_mem : ∀ {l : List Nat} {x : Nat}, x ∈ l → x ≤ l.sum
  | a :: l, x, h => by
    rw [List.sum_cons]
    rcases List.mem_cons.mp h with rfl | h
    · omega
    · have := le_sum_of_mem h
      omega
theorem row_len_le_size : ∀ f : Fmt, (pces f).length ≤ f.size := fun f => by
  rw [size_pces]
  generalize pces f = l
  induction l with
  | nil => exact Nat.le_refl _
  | cons p l ih =>
    rw [List.length_cons, List.map_cons, List.sum_cons]
    omega
theorem pce_size_le {f : Fmt} {p : Pce} (h : p ∈ pces f) : 1 + (p.rows.map Fmt.size).sum ≤ f.size := by
  rw [size_pces f]
  exact le_sum_of_mem (List.mem_map.mpr ⟨p, h, rfl⟩)
theorem row_size_le {f g : Fmt} {p : Pce} (h : p ∈ pces f) (hg : g ∈ p.rows) : g.size ≤ f.size := by
  have h1 := pce_size_le h
  have h2 : g.size ≤ (p.rows.map Fmt.size).sum := le_sum_of_mem (List.mem_map.mpr ⟨g, hg, rfl⟩)
  omega
theorem rows_len_le {f : Fmt} {p : Pce} (h : p ∈ pces f) : p.rows.length ≤ 2 := by
  induction f with
  | done => cases h
  | lit _ r ih => rcases List.mem_cons.mp h with rfl | h; · exact Nat.zero_le _
                  · exact ih h
  | num _ _ r ih => rcases List.mem_cons.mp h with rfl | h; · exact Nat.zero_le _
                    · exact ih h
  | word _ _ r ih => rcases List.mem_cons.mp h with rfl | h; · exact Nat.zero_le _
                     · exact ih h
  | alt a b r _ _ ih => rcases List.mem_cons.mp h with rfl | h; · exact Nat.le_refl _
                        · exact ih h
  | opt a r _ ih => rcases List.mem_cons.mp h with rfl | h; · exact (by decide : 1 ≤ 2)
                    · exact ih h
  | rep _ _ _ a r _ ih => rcases List.mem_cons.mp h with rfl | h; · exact (by decide : 1 ≤ 2)
                          · exact ih h
theorem d_piece_count (T : Top K mg c) : ∀ d, DefOk P w K mg base CX0 d "piece_count" (spCount c d)
  | 0 => T.a_piece_count.never.imp fun vs H Q E h => by
    obtain ⟨a, f, _, _, hd, _⟩ := h
    omega
  | d + 1 => T.a_piece_count.ok fun f fd F => by
    have D := d_piece_count T d
    refine F.ok sc_piece_count (fun vs H Q E h => ?_) (fun cdv A outer s H vs Q E hr h => ⟨_, (pss_cons (ps_set (i := 1) sc_piece_count.nd rfl (.inl rfl) pe_int)
 (pss_cons (ps_for PassesOwn.never rfl (pi_list (pv 0)) (pg_name (i := 2) sc_piece_count.nd rfl (.inl rfl))
 (pss_one (ps_aug (i := 1) sc_piece_count.nd rfl (.inl rfl) (pe_op op_add pe_int (pe_callB (cr_sum rfl) (by rfl) T.b_sum (by decide +kernel) (pa_cons (pe_lc (own := [("inner", 3)]) (g := gName 3) (tt := tYes) (by rfl) sc_piece_count.nd (pi_list (pe_fld (pv 2) rfl)) (blkOk_by (own := [("inner", 3)]) (N := ["row", "count", "piece", "inner"]) (sc := defScope (topS 27)) (by decide +kernel)) (fun _ _ _ _ _ => pg_name (i := 3) sc_piece_count.nd rfl (Or.inl rfl)) (fun _ _ _ _ _ => pts_nil) (fun _ _ _ _ _ => (pcall D hr pass0 (pa_cons (pv 3) pa_nil)))) pa_nil))) ip_add)))
 (pss_one (ps_ret (pv 1))))), ?_⟩)
    · obtain ⟨p, _, rfl, _⟩ := h
      rfl
    · obtain ⟨a, f, rfl, ⟨vs, ha, hp⟩, hd, hz, q⟩ := h
      have W := hp.view
      have hlen := paired_map W
      refine ⟨_, rfl, a, rfl, ⟨_, SqL.of ha⟩, for_list (K := K) (a := a) (xs := vs) (fun i σ H' => Same H H' ∧ ∃ v, σ = [some (.ref a), some (.int (Int.ofNat (((pces f).take i).map fun p => 1 + (p.rows.map Fmt.size).sum).sum)), v, none]) ⟨Same.refl H, _, rfl⟩ (fun i σ H' _ ⟨s1, _⟩ => s1.seq (SqL.of ha)) ?_ ?_⟩
      · rintro i x σ H1 hi ⟨s1, v, rfl⟩
        obtain ⟨p, hpi, rs, ⟨pa, dx, ta, ra, rfl, hP, hT, hR⟩, hrows⟩ := Paired.at W hi
        have hpm := mem_of_at hpi
        have hrl := paired_map hrows
        walk_at "rd"
        refine ⟨_, rfl, ?_⟩
        refine t_lc_vals (nvs (p.rows.map Fmt.size)) (gv_fld (gv_var rfl) (s1 _ _ hP) T.c_Piece.cl (T.c_Piece.na _ (by simp)) pcF_rows) (SqL.of (s1 _ _ hR)) (by simp [nvs, hrl]) (by simp; have := rows_len_le hpm; omega) (by intro x; rfl) (fun n y z H2 hn hz' s2 Q' q' => ?_) fun D H2 hD s2 hDl => ?_
        · rw [List.getElem?_map] at hn
          cases hrn : rs[n]? with
          | none => rw [hrn] at hn; cases hn
          | some r =>
            rw [hrn] at hn
            obtain rfl : V.ref r = y := Option.some.inj hn
            obtain ⟨g, hgn, hg⟩ := Paired.at hrows hrn
            have hgm := mem_of_at hgn
            have ez : z = .int (g.size : Int) := by
              unfold nvs at hz'
              rw [List.map_map, List.getElem?_map, hgn] at hz'
              exact (Option.some.inj hz').symm
            subst ez
            exact ⟨_, rfl, r, g, rfl, hg.same (Same.trans s1 s2), depth_rows hd p hpm g hgm, Nat.le_trans (row_size_le hpm hgm) hz, fun H3 s3 => q' H3 s3⟩
        · refine ⟨D, (p.rows.map Fmt.size).map Int.ofNat, rfl, SqL.of (by rw [hDl, nvs_map]), ?_⟩
          refine ⟨_, _, rfl, rfl, _, _, rfl, rfl, Same.trans s1 s2, some (.ref pa), ?_⟩
          rw [take_more hpi, List.map_append, List.sum_append, List.map_cons, List.map_nil, List.sum_cons, List.sum_nil, sum_ints]
          rfl
      · rintro σ H1 ⟨s1, v, rfl⟩
        refine ⟨_, rfl, ?_⟩
        have e : (vs.length) = (pces f).length := hlen
        have e2 : ((((pces f).take vs.length).map fun p => 1 + (p.rows.map Fmt.size).sum).sum) = f.size := by
          rw [e, List.take_length, ← size_pces]
        rw [e2]
        exact q H1 s1


/-! ### what the limits say piece by piece -/
theorem ok_pces : ∀ {f : Fmt}, VafmsBase.okPieces f = true → ∀ p ∈ pces f, p.kind ≤ 5 ∧ p.lo ≤ 4 ∧ p.hi ≤ 4 ∧ p.text.length ≤ 8 ∧ p.text.all VafmsBase.okByte = true ∧ ∀ g ∈ p.rows, VafmsBase.okPieces g = true
  | .done, _, p, hp => by cases hp
  | .lit w r, ho, p, hp => by
    have q : (!w.isEmpty && ((decide (w.length ≤ 8) && w.all VafmsBase.okByte) && VafmsBase.okPieces r)) = true := ho
    simp only [Bool.and_eq_true, decide_eq_true_eq] at q
    rcases List.mem_cons.mp hp with rfl | hp
    · exact ⟨Nat.zero_le _, Nat.zero_le _, Nat.zero_le _, q.2.1.1, q.2.1.2, fun g hg => by cases hg⟩
    · exact ok_pces q.2.2 p hp
  | .num lo hi r, ho, p, hp => by
    have q : (decide (1 ≤ lo) && (decide (lo ≤ hi) && (decide (hi ≤ 4) && VafmsBase.okPieces r))) = true := ho
    simp only [Bool.and_eq_true, decide_eq_true_eq] at q
    rcases List.mem_cons.mp hp with rfl | hp
    · exact ⟨(by decide : (1:Nat) ≤ 5), by show lo ≤ 4; omega, q.2.2.1, Nat.zero_le _, rfl, fun g hg => by cases hg⟩
    · exact ok_pces q.2.2.2 p hp
  | .word lo hi r, ho, p, hp => by
    have q : (decide (1 ≤ lo) && (decide (lo ≤ hi) && (decide (hi ≤ 4) && VafmsBase.okPieces r))) = true := ho
    simp only [Bool.and_eq_true, decide_eq_true_eq] at q
    rcases List.mem_cons.mp hp with rfl | hp
    · exact ⟨(by decide : (2:Nat) ≤ 5), by show lo ≤ 4; omega, q.2.2.1, Nat.zero_le _, rfl, fun g hg => by cases hg⟩
    · exact ok_pces q.2.2.2 p hp
  | .alt a b r, ho, p, hp => by
    have q : (VafmsBase.okPieces a && (VafmsBase.okPieces b && VafmsBase.okPieces r)) = true := ho
    simp only [Bool.and_eq_true] at q
    rcases List.mem_cons.mp hp with rfl | hp
    · refine ⟨(by decide : (3:Nat) ≤ 5), Nat.zero_le _, Nat.zero_le _, Nat.zero_le _, rfl, fun g hg => ?_⟩
      rcases List.mem_cons.mp hg with rfl | hg
      · exact q.1
      · rcases List.mem_cons.mp hg with rfl | hg
        · exact q.2.1
        · cases hg
    · exact ok_pces q.2.2 p hp
  | .opt a r, ho, p, hp => by
    have q : (VafmsBase.okPieces a && VafmsBase.okPieces r) = true := ho
    simp only [Bool.and_eq_true] at q
    rcases List.mem_cons.mp hp with rfl | hp
    · refine ⟨(by decide : (4:Nat) ≤ 5), Nat.zero_le _, Nat.zero_le _, Nat.zero_le _, rfl, fun g hg => ?_⟩
      rcases List.mem_cons.mp hg with rfl | hg
      · exact q.1
      · cases hg
    · exact ok_pces q.2 p hp
  | .rep s lo hi a r, ho, p, hp => by
    have q : ((decide (s.length ≤ 8) && s.all VafmsBase.okByte) && (decide (lo ≤ hi) && (decide (hi ≤ 4) && (!a.hasRep && (VafmsBase.okPieces a && VafmsBase.okPieces r))))) = true := ho
    simp only [Bool.and_eq_true, decide_eq_true_eq] at q
    rcases List.mem_cons.mp hp with rfl | hp
    · refine ⟨(by decide : (5:Nat) ≤ 5), by show lo ≤ 4; omega, q.2.2.1, q.1.1, q.1.2, fun g hg => ?_⟩
      rcases List.mem_cons.mp hg with rfl | hg
      · exact q.2.2.2.2.1
      · cases hg
    · exact ok_pces q.2.2.2.2.2 p hp

/-! ### gone_through -/
def spGone (c : Cs) (d : Nat) : Sp := fun vs H Q _ => ∃ (a : Addr) (f : Fmt), vs = [.ref a] ∧ RowAt c H a f ∧ depth f < d ∧ f.size ≤ 1000 ∧ VafmsBase.okPieces f = true ∧ ∀ H', Same H H' → Q (.int (f.holes : Int)) H'
def spPGone (c : Cs) (d : Nat) : Sp := fun vs H Q _ => ∃ (v : V) (p : Pce), vs = [v] ∧ PceAt c H v p ∧ (∀ g ∈ p.rows, depth g < d ∧ g.size ≤ 1000 ∧ VafmsBase.okPieces g = true) ∧ p.rows.length ≤ 2 ∧ p.hi ≤ 4 ∧ ∀ H', Same H H' → Q (.int (pceHoles p : Int)) H'
theorem sc_gone_through : FnScope ["row", "piece"] ["row"] (defScope (topS 28)) := ⟨rfl, rfl, rfl, by decide +kernel, rfl, by decide +kernel, by decide +kernel⟩
theorem sc_piece_gone_through : FnScope ["piece", "within", "inner"] ["piece"] (defScope (topS 29)) := ⟨rfl, rfl, rfl, by decide +kernel, rfl, by decide +kernel, by decide +kernel⟩
theorem maxD_most (l : List Nat) : maxD 0 (l.map Int.ofNat) = Int.ofNat (most l) := by
  cases l with
  | nil => rfl
  | cons x xs =>
    show (xs.map Int.ofNat).foldl _ (Int.ofNat x) = Int.ofNat (xs.foldl Nat.max x)
    induction xs generalizing x with
    | nil => rfl
    | cons y ys ih =>
      rw [List.map_cons, List.foldl_cons, List.foldl_cons, ← ih]
      congr 1
      show (if (x : Int) < (y : Int) then (y : Int) else (x : Int)) = ((max x y : Nat) : Int)
      split <;> omega
mutual
theorem d_gone_through (T : Top K mg c) : ∀ d, DefOk P w K mg base CX0 (d + d) "gone_through" (spGone c d)
  | 0 => T.a_gone_through.never.imp fun vs H Q E h => by
    obtain ⟨a, f, _, _, hd, _⟩ := h
    omega
  | d + 1 => DefOk.mono (k := d + d + 1 + 1) (j := d + 1 + (d + 1)) (h := by omega) <| T.a_gone_through.ok fun f fd F => by
    have D := d_piece_gone_through T d
    refine F.ok sc_gone_through (fun vs H Q E h => ?_) (fun cdv A outer s H vs Q E hr h => ⟨_, (pss_one (ps_ret (pe_callB (cr_sum rfl) (by rfl) T.b_sum (by decide +kernel) (pa_cons (pe_lc (own := [("piece", 1)]) (g := gName 1) (tt := tYes) (by rfl) sc_gone_through.nd (pi_list (pv 0)) (blkOk_by (own := [("piece", 1)]) (N := ["row", "piece"]) (sc := defScope (topS 28)) (by decide +kernel)) (fun _ _ _ _ _ => pg_name (i := 1) sc_gone_through.nd rfl (Or.inl rfl)) (fun _ _ _ _ _ => pts_nil) (fun _ _ _ _ _ => (pcall D (hr.mono (by omega)) pass0 (pa_cons (pv 1) pa_nil)))) pa_nil)))), ?_⟩)
    · obtain ⟨p, _, rfl, _⟩ := h
      rfl
    · obtain ⟨a, f, rfl, ⟨vs, ha, hp⟩, hd, hz, hok, q⟩ := h
      have W := hp.view
      have hlen := paired_map W
      walk_at "r0"
      refine t_lc_vals (nvs ((pces f).map pceHoles)) (gv_var rfl) (SqL.of ha) (by simp [nvs, hlen]) (by have := row_len_le_size f; omega) (fun x => rfl) (fun n y z H2 hn hz' s2 Q' q' => ?_) fun D H2 hD s2 hDl => ?_
      · obtain ⟨p, hpn, hpa⟩ := Paired.at W hn
        have hpm := mem_of_at hpn
        have ez : z = .int (pceHoles p : Int) := by
          unfold nvs at hz'
          rw [List.map_map, List.getElem?_map, hpn] at hz'
          exact (Option.some.inj hz').symm
        subst ez
        have hk := ok_pces hok p hpm
        exact ⟨_, rfl, y, p, rfl, hpa.same s2, fun g hg => ⟨depth_rows hd p hpm g hg, Nat.le_trans (row_size_le hpm hg) hz, hk.2.2.2.2.2 g hg⟩, rows_len_le hpm, hk.2.2.1, fun H3 s3 => q' H3 s3⟩
      · refine ⟨D, ((pces f).map pceHoles).map Int.ofNat, rfl, SqL.of (by rw [hDl, nvs_map]), ?_⟩
        rw [sum_ints, ← holes_pces]
        exact q H2 s2
theorem d_piece_gone_through (T : Top K mg c) : ∀ d, DefOk P w K mg base CX0 (d + d + 1) "piece_gone_through" (spPGone c d) := fun d => T.a_piece_gone_through.ok fun f fd F => by
  have D := d_gone_through T d
  refine F.ok sc_piece_gone_through (fun vs H Q E h => ?_) (fun cdv A outer s H vs Q E hr h => ⟨_, (pss_cons (ps_if (pt_cmpR op_eq (pe_fld (pv 0) rfl) (pe_num T.n_LITERAL) (nomark _))
 (pss_one (ps_ret pe_int))
 pss_nil)
 (pss_cons (ps_set (i := 1) sc_piece_gone_through.nd rfl (.inl rfl) (pe_callBK (cr_maxD rfl hr.units) (by rfl) T.b_max (by decide +kernel) (pa_cons (pe_lc (own := [("inner", 2)]) (g := gName 2) (tt := tYes) (by rfl) sc_piece_gone_through.nd (pi_list (pe_fld (pv 0) rfl)) (blkOk_by (own := [("inner", 2)]) (N := ["piece", "within", "inner"]) (sc := defScope (topS 29)) (by decide +kernel)) (fun _ _ _ _ _ => pg_name (i := 2) sc_piece_gone_through.nd rfl (Or.inl rfl)) (fun _ _ _ _ _ => pts_nil) (fun _ _ _ _ _ => (pcall D (hr.mono (by omega)) pass0 (pa_cons (pv 2) pa_nil)))) pa_nil) (pk_cons pe_int pk_nil)))
 (pss_cons (ps_if (pt_cmpR op_eq (pe_fld (pv 0) rfl) (pe_num T.n_REPEAT) (nomark _))
 (pss_one (ps_ret (pe_op op_add pe_int (pe_op op_mul (pe_fld (pv 0) rfl) (pv 1)))))
 pss_nil)
 (pss_one (ps_ret (pe_op op_add pe_int (pv 1))))))), ?_⟩)
  · obtain ⟨p, _, rfl, _⟩ := h
    rfl
  · obtain ⟨v, p, rfl, ⟨rs, ⟨pa, dx, ta, ra, rfl, hP, hT, hR⟩, hrows⟩, hg, hl, hhi, q⟩ := h
    have hrl := paired_map hrows
    walk_at "r0"
    walk_at "sq"
    refine ⟨_, rfl, pa, c.Piece, dx, _, _, rfl, hP, T.c_Piece.cl, T.c_Piece.na _ (by simp), pcF_kind, rfl, _, rfl, ?_⟩
    by_cases h0 : p.kind = 0
    · rw [if_pos (decide_eq_true (by rw [h0]; rfl))]
      have e : pceHoles p = 0 := if_pos h0
      rw [e] at q
      exact q H (Same.refl H)
    rw [if_neg (by
      rw [decide_eq_false (fun e => h0 (by injection e; omega))]
      exact Bool.false_ne_true)]
    walk_at "sq"
    refine t_lc_vals (nvs (p.rows.map Fmt.holes)) (gv_fld (gv_var rfl) hP T.c_Piece.cl (T.c_Piece.na _ (by simp)) pcF_rows) (SqL.of hR) (by simp [nvs, hrl]) (by simp; omega) (fun x => rfl) (fun n y z H2 hn hz' s2 Q' q' => ?_) fun D H2 hD s2 hDl => ?_
    · rw [List.getElem?_map] at hn
      cases hrn : rs[n]? with
      | none => rw [hrn] at hn; cases hn
      | some r =>
        rw [hrn] at hn
        obtain rfl : V.ref r = y := Option.some.inj hn
        obtain ⟨g, hgn, hgr⟩ := Paired.at hrows hrn
        have hgm := mem_of_at hgn
        have ez : z = .int (g.holes : Int) := by
          unfold nvs at hz'
          rw [List.map_map, List.getElem?_map, hgn] at hz'
          exact (Option.some.inj hz').symm
        subst ez
        obtain ⟨g1, g2, g3⟩ := hg g hgm
        exact ⟨_, rfl, r, g, rfl, hgr.same s2, g1, g2, g3, fun H3 s3 => q' H3 s3⟩
    · refine ⟨D, (p.rows.map Fmt.holes).map Int.ofNat, 0, rfl, rfl, SqL.of (by rw [hDl, nvs_map]), ?_⟩
      rw [maxD_most]
      walk_at "sq"
      refine ⟨_, rfl, pa, c.Piece, dx, _, _, rfl, s2 _ _ hP, T.c_Piece.cl, T.c_Piece.na _ (by simp), pcF_kind, rfl, _, rfl, ?_⟩
      by_cases h5 : p.kind = 5
      · rw [if_pos (decide_eq_true (by rw [h5]; rfl))]
        refine ⟨_, rfl, pa, c.Piece, dx, _, _, rfl, s2 _ _ hP, T.c_Piece.cl, T.c_Piece.na _ (by simp), pcF_hi, _, rfl, _, _, rfl, rfl, .inl ⟨by omega, by omega⟩, _, _, rfl, rfl, ?_⟩
        have e : pceHoles p = 1 + p.hi * most (p.rows.map Fmt.holes) := by
          unfold pceHoles
          rw [if_neg h0, if_pos h5]
        rw [e] at q
        exact q H2 s2
      · rw [if_neg (by
          rw [decide_eq_false (fun e => h5 (by injection e; omega))]
          exact Bool.false_ne_true)]
        refine ⟨_, rfl, _, _, rfl, rfl, ?_⟩
        have e : pceHoles p = 1 + most (p.rows.map Fmt.holes) := by
          unfold pceHoles
          rw [if_neg h0, if_neg h5]
        rw [e] at q
        exact q H2 s2
end
end
end FX
end
section
set_option Elab.async false
set_option linter.all false
set_option maxRecDepth 100000
set_option maxHeartbeats 4000000
namespace FX
open PySem PySem.Spec PyProof.Rows L2 FT
open VafmsBase (Fmt)
local macro_rules | `(tactic| walk_at "rd") => `(tactic| try dsimp only [tAug, tOp, tC, tCB, tCons, tNil, gName, tVar, tAsg, tRet, tIfS, tTest, tB, tNext, tDrop, tFld, tCKw, tCall, rI0, rI, CMul, rEq, rNe, tBM, rAppend, rExtend, rCat, rIn, rIxT, rIxL, tSl, rSlL, tPart, tNoPart, tChain, tUn, rU, tIf, tNot, tOr, tAnd, tMake, sFld, tLst, tTup, pad, List.set, List.getElem?_cons_zero, List.getElem?_cons_succ, cxOf, List.map_cons, List.map_nil, List.append_nil, List.cons_append, List.nil_append])
local macro_rules | `(tactic| walk_at "sq") => `(tactic| (refine seq_go ?_; walk_at "rd"))
local macro_rules | `(tactic| walk_at "r0") => `(tactic| (rw [start_pad (by rfl)]; walk_at "rd"))
/-- C(..): its __init__ stores its arguments one by one -/
def spFields (C : Addr) (fs : List Str) : Sp := fun vs H Q _ => ∃ (p dx : Addr) (us : List V), vs = .ref p :: us ∧ us.length = fs.length ∧ H p = some (.ins C dx []) ∧ Q .non (upd H p (.ins C dx (fs.zip us)))
theorem made {H : Hp} {x dx C : Addr} {fs : List (Str × V)} (hx : H x = none) (hd : H dx = none) : Same H (upd (upd (upd H dx (.own x)) x (.ins C dx [])) x (.ins C dx fs)) ∧ upd (upd (upd H dx (.own x)) x (.ins C dx [])) x (.ins C dx fs) x = some (.ins C dx fs) :=
  ⟨Same.chg (Same.chg (Same.add hd) hx) hx, upd_same⟩
section
variable {P : Program} {w : World} {K : PySem.W.Frag} {mg : Str → Option Value} {base : Heap} {c : Cs}
/-! ### signs -/
def spDigit : Sp := fun vs H Q _ => ∃ b : Nat, vs = [.int (b : Int)] ∧ Q (.bl (VafmsBase.isDigit b)) H
def spLetter : Sp := fun vs H Q _ => ∃ b : Nat, vs = [.int (b : Int)] ∧ Q (.bl (VafmsBase.isLetter b)) H
theorem sc_is_digit : FnScope ["byte"] ["byte"] (defScope (topS 40)) := ⟨rfl, rfl, rfl, by decide +kernel, rfl, by decide +kernel, by decide +kernel⟩
theorem sc_is_letter : FnScope ["byte"] ["byte"] (defScope (topS 41)) := ⟨rfl, rfl, rfl, by decide +kernel, rfl, by decide +kernel, by decide +kernel⟩
theorem d_is_digit (T : Top K mg c) : DefOk P w K mg base CX0 1 "is_digit" spDigit := T.a_is_digit.ok fun f fd F => by
  refine F.ok sc_is_digit (fun vs H Q E h => ?_) (fun cdv A outer s H vs Q E hr h => ⟨_, (pss_one (ps_ret (pe_chain op_le op_le (pe_num T.n_ZERO) (pv 0) (pe_num T.n_NINE)))), ?_⟩)
  · obtain ⟨p, rfl, _⟩ := h
    rfl
  · obtain ⟨b, rfl, q⟩ := h
    walk_at "r0"
    refine ⟨_, rfl, _, _, rfl, rfl, _, rfl, ?_⟩
    by_cases h1 : (48 : Int) ≤ b
    · rw [if_pos (decide_eq_true h1)]
      refine ⟨_, _, rfl, rfl, ?_⟩
      have e : VafmsBase.isDigit b = decide ((b : Int) ≤ 57) := by
        unfold VafmsBase.isDigit
        rw [Bool.eq_iff_iff]
        simp
        omega
      rw [← e]
      exact q
    · rw [if_neg (by rw [decide_eq_false h1]; exact Bool.false_ne_true)]
      have e : VafmsBase.isDigit b = false := by
        unfold VafmsBase.isDigit
        rw [decide_eq_false (by omega)]
        rfl
      rw [e] at q
      exact q
theorem d_is_letter (T : Top K mg c) : DefOk P w K mg base CX0 1 "is_letter" spLetter := T.a_is_letter.ok fun f fd F => by
  refine F.ok sc_is_letter (fun vs H Q E h => ?_) (fun cdv A outer s H vs Q E hr h => ⟨_, (pss_one (ps_ret (pe_chain op_le op_le (pe_num T.n_SMALL_A) (pv 0) (pe_num T.n_SMALL_Z)))), ?_⟩)
  · obtain ⟨p, rfl, _⟩ := h
    rfl
  · obtain ⟨b, rfl, q⟩ := h
    walk_at "r0"
    refine ⟨_, rfl, _, _, rfl, rfl, _, rfl, ?_⟩
    by_cases h1 : (97 : Int) ≤ b
    · rw [if_pos (decide_eq_true h1)]
      refine ⟨_, _, rfl, rfl, ?_⟩
      have e : VafmsBase.isLetter b = decide ((b : Int) ≤ 122) := by
        unfold VafmsBase.isLetter
        rw [Bool.eq_iff_iff]
        simp
        omega
      rw [← e]
      exact q
    · rw [if_neg (by rw [decide_eq_false h1]; exact Bool.false_ne_true)]
      have e : VafmsBase.isLetter b = false := by
        unfold VafmsBase.isLetter
        rw [decide_eq_false (by omega)]
        rfl
      rw [e] at q
      exact q
def spNumOf : Sp := fun vs H Q _ => ∃ (a : Addr) (t : List Nat), vs = [.ref a] ∧ H a = some (.lst (nvs t)) ∧ t.all VafmsBase.isDigit = true ∧ t.length ≤ 10 ∧ Q (.int (VafmsBase.numberOf t : Int)) H
theorem sc_number_of : FnScope ["digits", "number", "digit"] ["digits"] (defScope (topS 43)) := ⟨rfl, rfl, rfl, by decide +kernel, rfl, by decide +kernel, by decide +kernel⟩
theorem number_lt : ∀ t : List Nat, t.all VafmsBase.isDigit = true → VafmsBase.numberOf t < 10 ^ t.length := rev_ind (fun _ => by decide) fun t b ih h => by
  rw [List.all_append, Bool.and_eq_true] at h
  have hb : 48 ≤ b ∧ b ≤ 57 := isDigit_iff.mp (by simpa using h.2)
  have := ih h.1
  rw [numberOf_snoc, List.length_append, List.length_singleton, Nat.pow_succ]
  omega
theorem all_take {α : Type} {p : α → Bool} {l : List α} (h : l.all p = true) (i : Nat) : (l.take i).all p = true := by
  rw [List.all_eq_true] at h ⊢
  exact fun x hx => h x (List.mem_of_mem_take hx)
theorem d_number_of (T : Top K mg c) : DefOk P w K mg base CX0 1 "number_of" spNumOf := T.a_number_of.ok fun f fd F => by
  refine F.ok sc_number_of (fun vs H Q E h => ?_) (fun cdv A outer s H vs Q E hr h => ⟨_, (pss_cons (ps_set (i := 1) sc_number_of.nd rfl (.inl rfl) pe_int)
 (pss_cons (ps_for PassesOwn.never rfl (pi_list (pv 0)) (pg_name (i := 2) sc_number_of.nd rfl (.inl rfl))
 (pss_one (ps_set (i := 1) sc_number_of.nd rfl (.inl rfl) (pe_op op_sub (pe_op op_add (pe_op op_mul (pv 1) pe_int) (pv 2)) (pe_num T.n_ZERO)))))
 (pss_one (ps_ret (pv 1))))), ?_⟩)
  · obtain ⟨p, _, rfl, _⟩ := h
    rfl
  · obtain ⟨a, t, rfl, ha, hd, hl, q⟩ := h
    walk_at "r0"
    walk_at "sq"
    refine seq_go ?_
    refine t_for (a := a) (xs := nvs t) (fun i σ H' => H' = H ∧ ∃ v, σ = [some (.ref a), some (.int (VafmsBase.numberOf (t.take i) : Int)), v]) (gv_var rfl) (SqL.of ha) ⟨rfl, _, rfl⟩ (fun i σ H' h => by rw [h.1]; exact SqL.of ha) ?_ ?_
    · rintro i x σ H1 N hi ⟨rfl, v, rfl⟩ hN
      unfold nvs at hi
      rw [List.getElem?_map] at hi
      cases hti : t[i]? with
      | none => rw [hti] at hi; cases hi
      | some b =>
        rw [hti] at hi
        obtain rfl : V.int (Int.ofNat b) = x := Option.some.inj hi
        have hb : 48 ≤ b ∧ b ≤ 57 := isDigit_iff.mp (List.all_eq_true.mp hd b (List.mem_of_getElem? hti))
        walk_at "rd"
        refine ⟨_, rfl, _, _, rfl, rfl, .inr (by decide), _, rfl, _, _, rfl, rfl, _, _, rfl, rfl, hN _ _ ⟨rfl, some (.int (Int.ofNat b)), ?_⟩⟩
        have e : ((VafmsBase.numberOf (t.take i) : Int) * 10 + Int.ofNat b - 48) = ((VafmsBase.numberOf (t.take (i + 1)) : Nat) : Int) := by
          rw [take_more hti, numberOf_snoc]
          show ((VafmsBase.numberOf (t.take i) : Int) * 10 + (b : Int) - 48) = _
          omega
        rw [← e]
    · rintro σ H1 ⟨rfl, v, rfl⟩
      refine ⟨_, rfl, ?_⟩
      rw [nvs_length, List.take_length]
      exact q

/-! ### leads and steps as they lie -/
theorem sc_Lead_init : FnScope ["self", "numbers", "text", "target"] ["self", "numbers", "text", "target"] (defScope (inClass (topS 65) 0)) := ⟨rfl, rfl, rfl, by decide +kernel, rfl, by decide +kernel, by decide +kernel⟩
theorem putF_new {f : Str} {v : V} : ∀ {fs : List (Str × V)}, (∀ x ∈ fs, ¬ x.1 = f) → putF f v fs = fs ++ [(f, v)]
  | [], _ => rfl
  | (g, x) :: r, h => by
    have h1 : ¬ g = f := h (g, x) (List.mem_cons_self ..)
    show (if g = f then _ else _) = _
    rw [if_neg h1, putF_new fun y hy => h y (List.mem_cons_of_mem _ hy)]
    rfl
theorem m_Lead (T : Top K mg c) : MakeOk P w K mg base CX0 1 "Lead" c.Lead (spFields c.Lead ["numbers", "text", "target"]) := T.i_Lead.ok T.c_Lead fun f fd F => by
  refine F.ok sc_Lead_init (fun vs H Q E h => ?_) (fun cdv A outer s H vs Q E hr h => ⟨_, (pss_cons (ps_fld (pv 0) (pv 1) rfl)
 (pss_cons (ps_fld (pv 0) (pv 2) rfl)
 (pss_one (ps_fld (pv 0) (pv 3) rfl)))), ?_⟩)
  · obtain ⟨p, dx, us, rfl, hl, _⟩ := h
    rw [List.length_cons, hl]
    rfl
  · obtain ⟨p, dx, us, rfl, hl, hp, q⟩ := h
    match us, hl with
    | [v1, v2, v3], _ =>
      walk_at "r0"
      walk_at "sq"
      refine ⟨_, rfl, _, rfl, p, _, dx, _, rfl, hp, T.c_Lead.cl, T.c_Lead.na _ (by simp), (by show 0 < 1000; decide), ?_⟩
      walk_at "sq"
      refine ⟨_, rfl, _, rfl, p, _, dx, _, rfl, upd_same, T.c_Lead.cl, T.c_Lead.na _ (by simp), (by show 1 < 1000; decide), ?_⟩
      rw [upd_upd]
      refine ⟨_, rfl, _, rfl, p, _, dx, _, rfl, upd_same, T.c_Lead.cl, T.c_Lead.na _ (by simp), (by show 2 < 1000; decide), ?_⟩
      rw [upd_upd]
      exact q
end
end FX
end
section
set_option Elab.async false
set_option linter.all false
set_option maxRecDepth 100000
set_option maxHeartbeats 4000000
namespace FX
open PySem PySem.Spec PyProof.Rows L2 FT
open VafmsBase (Fmt)
local macro_rules | `(tactic| walk_at "rd") => `(tactic| try dsimp only [tAug, tOp, tC, tCB, tCons, tNil, gName, tVar, tAsg, tRet, tIfS, tTest, tB, tNext, tDrop, tFld, tCKw, tCall, rI0, rI, CMul, rEq, rNe, tBM, rAppend, rExtend, rCat, rIn, rIxT, rIxL, tSl, rSlL, tPart, tNoPart, tChain, tUn, rU, tIf, tNot, tOr, tAnd, tMake, sFld, tLst, tTup, pad, List.set, List.getElem?_cons_zero, List.getElem?_cons_succ, cxOf, List.map_cons, List.map_nil, List.append_nil, List.cons_append, List.nil_append])
local macro_rules | `(tactic| walk_at "sq") => `(tactic| (refine seq_go ?_; walk_at "rd"))
local macro_rules | `(tactic| walk_at "r0") => `(tactic| (rw [start_pad (by rfl)]; walk_at "rd"))
section
variable {P : Program} {w : World} {K : PySem.W.Frag} {mg : Str → Option Value} {base : Heap} {c : Cs}
theorem sc_TextStep_init : FnScope ["self", "text", "target"] ["self", "text", "target"] (defScope (inClass (topS 66) 0)) := ⟨rfl, rfl, rfl, by decide +kernel, rfl, by decide +kernel, by decide +kernel⟩
theorem m_TextStep (T : Top K mg c) : MakeOk P w K mg base CX0 1 "TextStep" c.TextStep (spFields c.TextStep ["text", "target"]) := T.i_TextStep.ok T.c_TextStep fun f fd F => by
  refine F.ok sc_TextStep_init (fun vs H Q E h => ?_) (fun cdv A outer s H vs Q E hr h => ⟨_, (pss_cons (ps_fld (pv 0) (pv 1) rfl)
 (pss_one (ps_fld (pv 0) (pv 2) rfl))), ?_⟩)
  · obtain ⟨p, dx, us, rfl, hl, _⟩ := h
    rw [List.length_cons, hl]
    rfl
  · obtain ⟨p, dx, us, rfl, hl, hp, q⟩ := h
    match us, hl with
    | [v1, v2], _ =>
      walk_at "r0"
      walk_at "sq"
      refine ⟨_, rfl, _, rfl, p, _, dx, _, rfl, hp, T.c_TextStep.cl, T.c_TextStep.na _ (by simp), (by show 0 < 1000; decide), ?_⟩
      refine ⟨_, rfl, _, rfl, p, _, dx, _, rfl, upd_same, T.c_TextStep.cl, T.c_TextStep.na _ (by simp), (by show 1 < 1000; decide), ?_⟩
      rw [upd_upd]
      exact q
theorem sc_NumberStep_init : FnScope ["self", "lo", "hi", "target"] ["self", "lo", "hi", "target"] (defScope (inClass (topS 67) 0)) := ⟨rfl, rfl, rfl, by decide +kernel, rfl, by decide +kernel, by decide +kernel⟩
theorem m_NumberStep (T : Top K mg c) : MakeOk P w K mg base CX0 1 "NumberStep" c.NumberStep (spFields c.NumberStep ["lo", "hi", "target"]) := T.i_NumberStep.ok T.c_NumberStep fun f fd F => by
  refine F.ok sc_NumberStep_init (fun vs H Q E h => ?_) (fun cdv A outer s H vs Q E hr h => ⟨_, (pss_cons (ps_fld (pv 0) (pv 1) rfl)
 (pss_cons (ps_fld (pv 0) (pv 2) rfl)
 (pss_one (ps_fld (pv 0) (pv 3) rfl)))), ?_⟩)
  · obtain ⟨p, dx, us, rfl, hl, _⟩ := h
    rw [List.length_cons, hl]
    rfl
  · obtain ⟨p, dx, us, rfl, hl, hp, q⟩ := h
    match us, hl with
    | [v1, v2, v3], _ =>
      walk_at "r0"
      walk_at "sq"
      refine ⟨_, rfl, _, rfl, p, _, dx, _, rfl, hp, T.c_NumberStep.cl, T.c_NumberStep.na _ (by simp), (by show 0 < 1000; decide), ?_⟩
      walk_at "sq"
      refine ⟨_, rfl, _, rfl, p, _, dx, _, rfl, upd_same, T.c_NumberStep.cl, T.c_NumberStep.na _ (by simp), (by show 1 < 1000; decide), ?_⟩
      rw [upd_upd]
      refine ⟨_, rfl, _, rfl, p, _, dx, _, rfl, upd_same, T.c_NumberStep.cl, T.c_NumberStep.na _ (by simp), (by show 2 < 1000; decide), ?_⟩
      rw [upd_upd]
      exact q
theorem sc_WordStep_init : FnScope ["self", "lo", "hi", "target"] ["self", "lo", "hi", "target"] (defScope (inClass (topS 68) 0)) := ⟨rfl, rfl, rfl, by decide +kernel, rfl, by decide +kernel, by decide +kernel⟩
theorem m_WordStep (T : Top K mg c) : MakeOk P w K mg base CX0 1 "WordStep" c.WordStep (spFields c.WordStep ["lo", "hi", "target"]) := T.i_WordStep.ok T.c_WordStep fun f fd F => by
  refine F.ok sc_WordStep_init (fun vs H Q E h => ?_) (fun cdv A outer s H vs Q E hr h => ⟨_, (pss_cons (ps_fld (pv 0) (pv 1) rfl)
 (pss_cons (ps_fld (pv 0) (pv 2) rfl)
 (pss_one (ps_fld (pv 0) (pv 3) rfl)))), ?_⟩)
  · obtain ⟨p, dx, us, rfl, hl, _⟩ := h
    rw [List.length_cons, hl]
    rfl
  · obtain ⟨p, dx, us, rfl, hl, hp, q⟩ := h
    match us, hl with
    | [v1, v2, v3], _ =>
      walk_at "r0"
      walk_at "sq"
      refine ⟨_, rfl, _, rfl, p, _, dx, _, rfl, hp, T.c_WordStep.cl, T.c_WordStep.na _ (by simp), (by show 0 < 1000; decide), ?_⟩
      walk_at "sq"
      refine ⟨_, rfl, _, rfl, p, _, dx, _, rfl, upd_same, T.c_WordStep.cl, T.c_WordStep.na _ (by simp), (by show 1 < 1000; decide), ?_⟩
      rw [upd_upd]
      refine ⟨_, rfl, _, rfl, p, _, dx, _, rfl, upd_same, T.c_WordStep.cl, T.c_WordStep.na _ (by simp), (by show 2 < 1000; decide), ?_⟩
      rw [upd_upd]
      exact q
theorem sc_ChoiceStep_init : FnScope ["self", "leads"] ["self", "leads"] (defScope (inClass (topS 69) 0)) := ⟨rfl, rfl, rfl, by decide +kernel, rfl, by decide +kernel, by decide +kernel⟩
theorem m_ChoiceStep (T : Top K mg c) : MakeOk P w K mg base CX0 1 "ChoiceStep" c.ChoiceStep (spFields c.ChoiceStep ["leads"]) := T.i_ChoiceStep.ok T.c_ChoiceStep fun f fd F => by
  refine F.ok sc_ChoiceStep_init (fun vs H Q E h => ?_) (fun cdv A outer s H vs Q E hr h => ⟨_, (pss_one (ps_fld (pv 0) (pv 1) rfl)), ?_⟩)
  · obtain ⟨p, dx, us, rfl, hl, _⟩ := h
    rw [List.length_cons, hl]
    rfl
  · obtain ⟨p, dx, us, rfl, hl, hp, q⟩ := h
    match us, hl with
    | [v1], _ =>
      walk_at "r0"
      refine ⟨_, rfl, _, rfl, p, _, dx, _, rfl, hp, T.c_ChoiceStep.cl, T.c_ChoiceStep.na _ (by simp), (by show 0 < 1000; decide), ?_⟩
      exact q
theorem sc_Token_init : FnScope ["self", "kind", "told", "place", "behind"] ["self", "kind", "told", "place", "behind"] (defScope (inClass (topS 94) 0)) := ⟨rfl, rfl, rfl, by decide +kernel, rfl, by decide +kernel, by decide +kernel⟩
theorem m_Token (T : Top K mg c) : MakeOk P w K mg base CX0 1 "Token" c.Token (spFields c.Token ["kind", "told", "place", "behind"]) := T.i_Token.ok T.c_Token fun f fd F => by
  refine F.ok sc_Token_init (fun vs H Q E h => ?_) (fun cdv A outer s H vs Q E hr h => ⟨_, (pss_cons (ps_fld (pv 0) (pv 1) rfl)
 (pss_cons (ps_fld (pv 0) (pv 2) rfl)
 (pss_cons (ps_fld (pv 0) (pv 3) rfl)
 (pss_one (ps_fld (pv 0) (pv 4) rfl))))), ?_⟩)
  · obtain ⟨p, dx, us, rfl, hl, _⟩ := h
    rw [List.length_cons, hl]
    rfl
  · obtain ⟨p, dx, us, rfl, hl, hp, q⟩ := h
    match us, hl with
    | [v1, v2, v3, v4], _ =>
      walk_at "r0"
      walk_at "sq"
      refine ⟨_, rfl, _, rfl, p, _, dx, _, rfl, hp, T.c_Token.cl, T.c_Token.na _ (by simp), (by show 0 < 1000; decide), ?_⟩
      walk_at "sq"
      refine ⟨_, rfl, _, rfl, p, _, dx, _, rfl, upd_same, T.c_Token.cl, T.c_Token.na _ (by simp), (by show 1 < 1000; decide), ?_⟩
      rw [upd_upd]
      walk_at "sq"
      refine ⟨_, rfl, _, rfl, p, _, dx, _, rfl, upd_same, T.c_Token.cl, T.c_Token.na _ (by simp), (by show 2 < 1000; decide), ?_⟩
      rw [upd_upd]
      refine ⟨_, rfl, _, rfl, p, _, dx, _, rfl, upd_same, T.c_Token.cl, T.c_Token.na _ (by simp), (by show 3 < 1000; decide), ?_⟩
      rw [upd_upd]
      exact q
theorem sc_Piece_init : FnScope ["self", "kind", "text", "lo", "hi", "rows"] ["self", "kind", "text", "lo", "hi", "rows"] (defScope (inClass (topS 21) 0)) := ⟨rfl, rfl, rfl, by decide +kernel, rfl, by decide +kernel, by decide +kernel⟩
theorem m_Piece (T : Top K mg c) : MakeOk P w K mg base CX0 1 "Piece" c.Piece (spFields c.Piece ["kind", "text", "lo", "hi", "rows"]) := T.i_Piece.ok T.c_Piece fun f fd F => by
  refine F.ok sc_Piece_init (fun vs H Q E h => ?_) (fun cdv A outer s H vs Q E hr h => ⟨_, (pss_cons (ps_fld (pv 0) (pv 1) rfl)
 (pss_cons (ps_fld (pv 0) (pv 2) rfl)
 (pss_cons (ps_fld (pv 0) (pv 3) rfl)
 (pss_cons (ps_fld (pv 0) (pv 4) rfl)
 (pss_one (ps_fld (pv 0) (pv 5) rfl)))))), ?_⟩)
  · obtain ⟨p, dx, us, rfl, hl, _⟩ := h
    rw [List.length_cons, hl]
    rfl
  · obtain ⟨p, dx, us, rfl, hl, hp, q⟩ := h
    match us, hl with
    | [v1, v2, v3, v4, v5], _ =>
      walk_at "r0"
      walk_at "sq"
      refine ⟨_, rfl, _, rfl, p, _, dx, _, rfl, hp, T.c_Piece.cl, T.c_Piece.na _ (by simp), (by show 0 < 1000; decide), ?_⟩
      walk_at "sq"
      refine ⟨_, rfl, _, rfl, p, _, dx, _, rfl, upd_same, T.c_Piece.cl, T.c_Piece.na _ (by simp), (by show 1 < 1000; decide), ?_⟩
      rw [upd_upd]
      walk_at "sq"
      refine ⟨_, rfl, _, rfl, p, _, dx, _, rfl, upd_same, T.c_Piece.cl, T.c_Piece.na _ (by simp), (by show 2 < 1000; decide), ?_⟩
      rw [upd_upd]
      walk_at "sq"
      refine ⟨_, rfl, _, rfl, p, _, dx, _, rfl, upd_same, T.c_Piece.cl, T.c_Piece.na _ (by simp), (by show 3 < 1000; decide), ?_⟩
      rw [upd_upd]
      refine ⟨_, rfl, _, rfl, p, _, dx, _, rfl, upd_same, T.c_Piece.cl, T.c_Piece.na _ (by simp), (by show 4 < 1000; decide), ?_⟩
      rw [upd_upd]
      exact q
theorem sc_Source_init : FnScope ["self", "row", "listed"] ["self", "row", "listed"] (defScope (inClass (topS 106) 0)) := ⟨rfl, rfl, rfl, by decide +kernel, rfl, by decide +kernel, by decide +kernel⟩
theorem m_Source (T : Top K mg c) : MakeOk P w K mg base CX0 1 "Source" c.Source (spFields c.Source ["row", "listed"]) := T.i_Source.ok T.c_Source fun f fd F => by
  refine F.ok sc_Source_init (fun vs H Q E h => ?_) (fun cdv A outer s H vs Q E hr h => ⟨_, (pss_cons (ps_fld (pv 0) (pv 1) rfl)
 (pss_one (ps_fld (pv 0) (pv 2) rfl))), ?_⟩)
  · obtain ⟨p, dx, us, rfl, hl, _⟩ := h
    rw [List.length_cons, hl]
    rfl
  · obtain ⟨p, dx, us, rfl, hl, hp, q⟩ := h
    match us, hl with
    | [v1, v2], _ =>
      walk_at "r0"
      walk_at "sq"
      refine ⟨_, rfl, _, rfl, p, _, dx, _, rfl, hp, T.c_Source.cl, T.c_Source.na _ (by simp), (by show 0 < 1000; decide), ?_⟩
      refine ⟨_, rfl, _, rfl, p, _, dx, _, rfl, upd_same, T.c_Source.cl, T.c_Source.na _ (by simp), (by show 1 < 1000; decide), ?_⟩
      rw [upd_upd]
      exact q
end
end FX
end
section
set_option Elab.async false
set_option linter.all false
set_option maxRecDepth 100000
set_option maxHeartbeats 4000000
namespace FX
open PySem PySem.Spec PyProof.Rows L2 FT
open VafmsBase (Fmt)
/-- the heap but for some objects -/
def hideZ (Z : List Addr) (H : Hp) : Hp := fun b => if b ∈ Z then none else H b
theorem hideZ_ne {Z : List Addr} {b : Addr} {H : Hp} (h : b ∉ Z) : hideZ Z H b = H b := if_neg h
theorem hideZ_same {Z : List Addr} {H : Hp} : Same (hideZ Z H) H := fun b o e => by
  unfold hideZ at e
  split at e
  · cases e
  · exact e
theorem hideZ_of {Z : List Addr} {H H' : Hp} (s : Same H H') : Same (hideZ Z H) (hideZ Z H') := fun b u e => by
  unfold hideZ at e ⊢
  split at e
  · cases e
  · rename_i h
    rw [if_neg h]
    exact s b u e
theorem hideZ_A {A : Addr} {Z : List Addr} {H H' : Hp} (hA : A ∈ Z) (s : Same (hideA A H) (hideA A H')) : Same (hideZ Z H) (hideZ Z H') := fun b u e => by
  unfold hideZ at e ⊢
  split at e
  · cases e
  · rename_i h
    rw [if_neg h]
    have hne : b ≠ A := fun z => h (z ▸ hA)
    exact beside s e hne
theorem hideZ_more {D : Addr} {Z : List Addr} {H : Hp} : Same (hideZ (D :: Z) H) (hideZ Z H) := fun b u e => by
  unfold hideZ at e ⊢
  split at e
  · cases e
  · rename_i h
    rw [if_neg fun z => h (List.mem_cons_of_mem _ z)]
    exact e
/-- behind D new, what was beside Z is beside D, too -/
theorem hideZ_new {D : Addr} {Z : List Addr} {H H' : Hp} (hD : H D = none) (s : Same (hideZ Z H) (hideZ Z H')) : Same (hideZ Z H) (hideZ (D :: Z) H') := fun b u e => by
  have e2 := s b u e
  unfold hideZ at e e2 ⊢
  split at e
  · cases e
  · rename_i h
    rw [if_neg h] at e2
    rw [if_neg fun z => ?_]
    · exact e2
    · rcases List.mem_cons.mp z with z | z
      · rw [z, hD] at e
        cases e
      · exact h z
theorem hideZ_upd {D : Addr} {Z : List Addr} {H : Hp} {o : HO} (hD : D ∈ Z) : Same (hideZ Z H) (hideZ Z (upd H D o)) := fun b u e => by
  unfold hideZ at e ⊢
  split at e
  · cases e
  · rename_i h
    rw [if_neg h, upd_ne fun z : b = D => h (by rw [z]; exact hD)]
    exact e
theorem hideZ_add {D : Addr} {Z : List Addr} {H : Hp} {o : HO} (hD : H D = none) : Same (hideZ Z H) (hideZ Z (upd H D o)) := hideZ_of (Same.add hD)
theorem Same.some {H H' : Hp} (s : Same H H') {z : Addr} (h : H z ≠ none) : H' z ≠ none := fun e => by
  cases h2 : H z with
  | none => exact h h2
  | some o => rw [s _ _ h2] at e; cases e
theorem z_new {Z : List Addr} {H H1 : Hp} {y : Addr} {o : HO} (hz : ∀ z ∈ Z, H z ≠ none) (hy : H y = none) (h : H1 y = some o) : hideZ Z H1 y = some o := by
  rw [hideZ_ne fun m => hz y m hy]
  exact h
theorem occ {Z : List Addr} {H H' : Hp} (hz : ∀ z ∈ Z, H z ≠ none) (s : Same H H') : ∀ z ∈ Z, H' z ≠ none := fun z m => Same.some s (hz z m)
theorem hide_hide {D : Addr} {Z : List Addr} {H : Hp} : hideZ Z (hideA D H) = hideZ (D :: Z) H := by
  funext b
  unfold hideZ hideA
  by_cases h : b ∈ Z
  · rw [if_pos h, if_pos (List.mem_cons_of_mem _ h)]
  · rw [if_neg h]
    by_cases e : b = D
    · rw [if_pos e, if_pos (by rw [e]; exact List.mem_cons_self ..)]
    · rw [if_neg e, if_neg fun z => by
        rcases List.mem_cons.mp z with z | z
        · exact e z
        · exact h z]
end FX
end
section
set_option Elab.async false
set_option linter.all false
set_option maxRecDepth 100000
set_option maxHeartbeats 4000000
namespace FX
open PySem PySem.Spec PyProof.Rows L2 FT
open VafmsBase (Fmt)
local macro_rules | `(tactic| walk_at "rd") => `(tactic| try dsimp only [tAug, tOp, tC, tCB, tCons, tNil, gName, tVar, tAsg, tRet, tIfS, tTest, tB, tNext, tDrop, tFld, tCKw, tCall, rI0, rI, CMul, rEq, rNe, tBM, rAppend, rExtend, rCat, rIn, rIxT, rIxL, tSl, rSlL, tPart, tNoPart, tChain, tUn, rU, tIf, tNot, tOr, tAnd, tMake, sFld, tLst, tTup, pad, List.set, List.getElem?_cons_zero, List.getElem?_cons_succ, cxOf, List.map_cons, List.map_nil, List.append_nil, List.cons_append, List.nil_append])
local macro_rules | `(tactic| walk_at "sq") => `(tactic| (refine seq_go ?_; walk_at "rd"))
local macro_rules | `(tactic| walk_at "r0") => `(tactic| (rw [start_pad (by rfl)]; walk_at "rd"))
theorem cut_to (xs : List V) (n : Nat) : cutV xs none (some (n : Int)) = xs.take n := by
  unfold cutV
  rw [HT.sIx_nat, HT.sIx_none, List.drop_zero, Nat.sub_zero, ← List.take_take, List.take_length]
theorem cut_from (xs : List V) (n : Nat) : cutV xs (some (n : Int)) none = xs.drop n := by
  unfold cutV
  rw [HT.sIx_nat, HT.sIx_none]
  by_cases h : n ≤ xs.length
  · rw [Nat.min_eq_left h, ← List.length_drop, List.take_length]
  · rw [Nat.min_eq_right (by omega), List.drop_length, List.drop_eq_nil_of_le (by omega)]
    simp
theorem cut_mid (xs : List V) (a b : Nat) : cutV xs (some (a : Int)) (some (b : Int)) = (xs.drop a).take (b - a) := by
  unfold cutV
  rw [HT.sIx_nat, HT.sIx_nat]
  by_cases h : a ≤ xs.length
  · rw [Nat.min_eq_left h]
    by_cases hb : b ≤ xs.length
    · rw [Nat.min_eq_left hb]
    · rw [Nat.min_eq_right (by omega), List.take_of_length_le (by rw [List.length_drop]; omega), List.take_of_length_le (by rw [List.length_drop]; omega)]
  · rw [Nat.min_eq_right (by omega : xs.length ≤ a), List.drop_length, List.drop_eq_nil_of_le (by omega)]
    simp
theorem eq_ints (a b : List Int) : PyData.eqv (.list (a.map PyData.int)) (.list (b.map PyData.int)) = decide (a = b) := PySem.W.Datum.eqv (α := List Int) a b
theorem dp_ints {K : PySem.W.Frag} {H : Hp} {a : Addr} {l : List Int} (h : SqL K H a (l.map V.int)) : Dp K H (.ref a) (.list (l.map PyData.int)) := by
  refine .lst h ?_
  clear h
  induction l with
  | nil => exact .nil
  | cons x l ih => exact .cons (.int x) ih
theorem shaped_ints (l : List Int) : SeqAt.shaped (.list (l.map PyData.int)) = true := by
  have e : PyData.canLayAll0 (l.map PyData.int) = true := by
    induction l with
    | nil => rfl
    | cons a l ih =>
      rw [List.map_cons]
      simp only [PyData.canLayAll0, PyData.canLay0, Bool.true_and]
      exact ih
  unfold SeqAt.shaped
  simp only [PyData.canLay0, PyData.depth, e, PySem.W.ke_depthAll]
  rfl
theorem zfill_codes (n wd : Nat) (hw : wd ≤ 100) : (Txt.zfill (Str.ofString (toString (n : Int))) (wd : Int)).cps.toList = FT.zfill (VafmsBase.digitsOf n) wd := by
  have e : (Str.ofString (toString (n : Int))).cps.toList = VafmsBase.digitsOf n := PySem.W.KIN.signs_num n
  generalize Str.ofString (toString (n : Int)) = x at e
  have hl : x.length = (VafmsBase.digitsOf n).length := by
    rw [← e]
    rfl
  unfold Txt.zfill FT.zfill
  by_cases h : (wd : Int) ≤ (x.length : Int)
  · rw [if_pos h, e, show wd - (VafmsBase.digitsOf n).length = 0 by omega]
    rfl
  · rw [if_neg h]
    have h0 : ∃ d r, VafmsBase.digitsOf n = d :: r ∧ 48 ≤ d ∧ d ≤ 57 := by
      have hp := FT.digits_pos n
      cases hd : VafmsBase.digitsOf n with
      | nil => rw [hd] at hp; simp at hp
      | cons d r =>
        refine ⟨d, r, rfl, ?_⟩
        have : d ∈ (Nat.toDigits 10 n).map fun c => c.toNat := by
          show d ∈ VafmsBase.digitsOf n
          rw [hd]
          exact List.mem_cons_self ..
        obtain ⟨ch, hc, rfl⟩ := List.mem_map.mp this
        have := Nat.isDigit_of_mem_toDigits (by decide) (by decide) hc
        unfold Char.isDigit at this
        simp only [Bool.and_eq_true, decide_eq_true_eq] at this
        exact ⟨this.1, this.2⟩
    obtain ⟨d, r, hd, hd1, hd2⟩ := h0
    have hx0 : x.cps[0]? = some d := by
      rw [← Array.getElem?_toList, e, hd]
      rfl
    have ez : PySem.zfilled x ((wd : Int).toNat - x.length) = Builtin.Str.padded x ((wd : Int).toNat - x.length) 0 48 := by
      unfold PySem.zfilled
      rw [hx0]
      split
      · rename_i h; injection h with h; omega
      · rename_i h; injection h with h; omega
      · rfl
    rw [ez]
    show ((Array.replicate _ 48 ++ x.cps) ++ Array.replicate 0 48).toList = _
    simp [e, hl]
/-- where a lead lies -/
def ldF (a1 a2 : Addr) (t : Nat) : List (Str × V) := [("numbers", .ref a1), ("text", .ref a2), ("target", .int (Int.ofNat t))]
def LeadAt (c : Cs) (H : Hp) (v : V) (l : Ld) : Prop := ∃ p dx a1 a2 : Addr, v = .ref p ∧ H p = some (.ins c.Lead dx (ldF a1 a2 l.tgt)) ∧ H a1 = some (.lst (nvs l.nums)) ∧ H a2 = some (.lst (nvs l.txt))
theorem LeadAt.same {c : Cs} {H H' : Hp} {v : V} {l : Ld} (h : LeadAt c H v l) (s : Same H H') : LeadAt c H' v l := by
  obtain ⟨p, dx, a1, a2, e, h1, h2, h3⟩ := h
  exact ⟨p, dx, a1, a2, e, s _ _ h1, s _ _ h2, s _ _ h3⟩
def StepAt (c : Cs) (H : Hp) (v : V) : Stp → Prop
  | .txt w t => ∃ p dx a : Addr, v = .ref p ∧ H p = some (.ins c.TextStep dx [("text", .ref a), ("target", .int (Int.ofNat t))]) ∧ H a = some (.lst (nvs w))
  | .num lo hi t => ∃ p dx : Addr, v = .ref p ∧ H p = some (.ins c.NumberStep dx [("lo", .int (Int.ofNat lo)), ("hi", .int (Int.ofNat hi)), ("target", .int (Int.ofNat t))])
  | .word lo hi t => ∃ p dx : Addr, v = .ref p ∧ H p = some (.ins c.WordStep dx [("lo", .int (Int.ofNat lo)), ("hi", .int (Int.ofNat hi)), ("target", .int (Int.ofNat t))])
  | .cho ls => ∃ (p dx a : Addr) (vs : List V), v = .ref p ∧ H p = some (.ins c.ChoiceStep dx [("leads", .ref a)]) ∧ H a = some (.lst vs) ∧ Paired (LeadAt c H) vs (ls.map fun l => (⟨[l.1], [], l.2⟩ : Ld))
theorem StepAt.same {c : Cs} {H H' : Hp} {v : V} : ∀ {s : Stp}, StepAt c H v s → Same H H' → StepAt c H' v s
  | .txt _ _, ⟨p, dx, a, e, h1, h2⟩, s => ⟨p, dx, a, e, s _ _ h1, s _ _ h2⟩
  | .num _ _ _, ⟨p, dx, e, h1⟩, s => ⟨p, dx, e, s _ _ h1⟩
  | .word _ _ _, ⟨p, dx, e, h1⟩, s => ⟨p, dx, e, s _ _ h1⟩
  | .cho _, ⟨p, dx, a, vs, e, h1, h2, h3⟩, s => ⟨p, dx, a, vs, e, s _ _ h1, s _ _ h2, Paired.mapR h3 fun a b x => x.same s⟩
/-- a lead or None -/
def GivesLd (c : Cs) (Z : List Addr) (H : Hp) (o : Option Ld) (Q : VK) : Prop := match o with
  | none => ∀ H', Same H H' → Q .non H'
  | some l => ∀ x H', Same H H' → LeadAt c (hideZ Z H') x l → Q x H'
/-- a new list of leads -/
def NewLds (c : Cs) (Z : List Addr) (H : Hp) (ls : List Ld) (Q : VK) : Prop := ∀ p vs H', H p = none → Same H H' → H' p = some (.lst vs) → Paired (LeadAt c (hideZ (p :: Z) H')) vs ls → Q (.ref p) H'

section
variable {P : Program} {w : World} {K : PySem.W.Frag} {mg : Str → Option Value} {base : Heap} {c : Cs}
/-! ### rules by K, for the items of comprehensions -/
theorem sl_listK {X : Cx} (K : PySem.W.Frag) (h : X.K = K := by rfl) : SlR X (rSlL K) := by
  subst h
  exact sl_list
theorem ix_listK {X : Cx} (K : PySem.W.Frag) (h : X.K = K := by rfl) : IxR X (rIxL K) := by
  subst h
  exact ix_list
theorem pe_fldK {X : Cx} (K : PySem.W.Frag) {e : Expr} {ta : TE} {f : Str} {pos : Pos} (he : PE X e ta) (hb : attributeBase e f X.env (eval e X.env) = eval e X.env := by rfl) (h : X.K = K := by rfl) : PE X (.Attribute e f pos) (tFld K ta f) := by
  subst h
  exact pe_fld he hb
theorem call_lenK {X : Cx} (K : PySem.W.Frag) (h : X.K = K := by rfl) : CallR X (.builtin "len") (fun xs H Q => ∃ p ys, xs = [.ref p] ∧ (SqL K H p ys ∨ SqT K H p ys) ∧ Q (.int ys.length) H) := by
  subst h
  exact call_len_seq
/-! ### beginnings -/
def spBegin : Sp := fun vs H Q _ => ∃ (a : Addr) (t : List Nat) (lo hi : Nat), vs = [.ref a, .int (Int.ofNat lo), .int (Int.ofNat hi)] ∧ H a = some (.lst (nvs t)) ∧ t.length ≤ 10000 ∧ 1 ≤ lo ∧ lo ≤ 1000 ∧ hi ≤ 1000 ∧ ∀ p vs H', H p = none → Same H H' → H' p = some (.lst vs) → TxtsNew H H' vs (fronts t lo hi) → Q (.ref p) H'
theorem sc_beginnings : FnScope ["text", "lo", "hi", "size"] ["text", "lo", "hi"] (defScope (topS 70)) := ⟨rfl, rfl, rfl, by decide +kernel, rfl, by decide +kernel, by decide +kernel⟩
theorem downFrom_get : ∀ (hi lo : Nat), (VafmsBase.downFrom lo hi).length = hi + 1 - lo ∧ ∀ i k, (VafmsBase.downFrom lo hi)[i]? = some k → k = hi - i ∧ i + lo ≤ hi
  | 0, lo => by
    rw [downFrom_zero]
    by_cases h : lo = 0
    · rw [if_pos h]
      refine ⟨by simp [h], fun i k e => ?_⟩
      cases i with
      | zero =>
        have := Option.some.inj e
        omega
      | succ i => simp at e
    · rw [if_neg h]
      exact ⟨by simp; omega, fun i k e => by simp at e⟩
  | hi + 1, lo => by
    obtain ⟨h1, h2⟩ := downFrom_get hi lo
    rw [downFrom_succ]
    by_cases h : lo ≤ hi + 1
    · rw [if_pos h]
      refine ⟨by rw [List.length_cons, h1]; omega, fun i k e => ?_⟩
      cases i with
      | zero =>
        have := Option.some.inj e
        omega
      | succ i =>
        have := h2 i k e
        omega
    · rw [if_neg h]
      exact ⟨by simp; omega, fun i k e => by simp at e⟩
theorem d_beginnings (T : Top K mg c) : DefOk P w K mg base CX0 1 "beginnings" spBegin := T.a_beginnings.ok fun f fd F => by
  refine F.ok sc_beginnings (fun vs H Q E h => ?_) (fun cdv A outer s H vs Q E hr h => ⟨_, (pss_one (ps_ret (pe_lc (own := [("size", 3)]) (g := gName 3) (tt := tYes) (by rfl) sc_beginnings.nd (pi_range3 (by rfl) T.b_range (pa_cons (pe_callB (call_min2 rfl) (by rfl) T.b_min (by decide +kernel) (pa_cons (pv 2) (pa_cons (pe_callB call_len_seq (by rfl) T.b_len (by decide +kernel) (pa_cons (pv 0) pa_nil)) pa_nil))) (pa_cons (pe_op op_sub (pv 1) pe_int) (pa_cons (pe_un un_neg pe_int) pa_nil)))) (blkOk_by (own := [("size", 3)]) (N := ["text", "lo", "hi", "size"]) (sc := defScope (topS 70)) (by decide +kernel)) (fun _ _ _ _ _ => pg_name (i := 3) sc_beginnings.nd rfl (Or.inl rfl)) (fun _ _ _ _ _ => pts_nil) (fun _ _ _ _ _ => (pe_slice (sl_listK K) (pv 0) po_none (po_some (pv 3))))))), ?_⟩)
  · obtain ⟨p, _, _, _, rfl, _⟩ := h
    rfl
  · obtain ⟨a, t, lo, hi, rfl, ha, ht, h1, h2, h3, q⟩ := h
    walk_at "r0"
    have em : (if ((nvs t).length : Int) < Int.ofNat hi then ((nvs t).length : Int) else Int.ofNat hi) = ((min hi t.length : Nat) : Int) := by
      rw [nvs_length]
      show (if (t.length : Int) < (hi : Int) then (t.length : Int) else (hi : Int)) = _
      split <;> omega
    obtain ⟨hdl, hdg⟩ := downFrom_get (min hi t.length) lo
    refine t_lc_gen (J := Itc ((min hi t.length : Nat) : Int) (-1) ((((min hi t.length : Nat) : Int) - ((lo : Int) - 1)).toNat)) (fun R r => ?_) (turns_rangeC _ _ _ H) (fun i y H' => ∃ t', (fronts t lo hi)[i]? = some t' ∧ ∃ a : Addr, y = .ref a ∧ H a = none ∧ H' a = some (.lst (nvs t'))) (fun i y H1 H2 h s => by
      obtain ⟨t', e, a, e2, en, x⟩ := h
      exact ⟨t', e, a, e2, en, s _ _ x⟩) (by omega) (fun x => rfl) (fun D i H1 hD hDs hi' s1 Q' q' => ?_) fun D ys H1 hD s1 hDl hyl hR => ?_
    · refine ⟨_, rfl, _, rfl, a, _, rfl, .inl (SqL.of ha), _, _, rfl, ?_⟩
      rw [em]
      refine ⟨_, rfl, _, _, rfl, rfl, _, rfl, _, _, _, _, rfl, RgC.neg (by omega) (by omega) (by show -(2 ^ 62) ≤ ((lo : Int) - 1); omega) (by show ((lo : Int) - 1) < 2 ^ 62; omega), r⟩
    · have hil : i < (VafmsBase.downFrom lo (min hi t.length)).length := by rw [hdl]; omega
      have hk := hdg i _ (List.getElem?_eq_getElem hil)
      refine ⟨_, rfl, _, rfl, _, rfl, a, _, rfl, SqL.of (s1 _ _ ha), fun p hp => ?_⟩
      have ei : ((min hi t.length : Nat) : Int) + (i : Nat) * (-1) = (((VafmsBase.downFrom lo (min hi t.length))[i] : Nat) : Int) := by
        rw [hk.1]
        omega
      rw [ei, cut_to]
      refine q' _ _ (Same.add hp) ⟨t.take (VafmsBase.downFrom lo (min hi t.length))[i], ?_, p, rfl, s1.free hp, ?_⟩
      · unfold fronts
        rw [List.getElem?_map, List.getElem?_eq_getElem hil]
        rfl
      · have hne : p ≠ D := fun e => by rw [← e, hp] at hDs; cases hDs
        rw [hideA_ne hne, upd_same]
        unfold nvs
        rw [List.map_take]
    · refine q D ys H1 hD s1 hDl ?_
      have hfl : ys.length = (fronts t lo hi).length := by
        unfold fronts
        rw [hyl, List.length_map, hdl]
        omega
      exact paired_of ys _ hfl hR
end
end FX
end
section
set_option Elab.async false
set_option linter.all false
set_option maxRecDepth 100000
set_option maxHeartbeats 4000000
namespace FX
open PySem PySem.Spec PyProof.Rows L2 FT
open VafmsBase (Fmt)
local macro_rules | `(tactic| walk_at "rd") => `(tactic| dsimp only [tAug, tOp, tC, tCB, tCons, tNil, gName, tVar, tAsg, tRet, tIfS, tTest, tB, tNext, tDrop, tFld, tCKw, tCall, rI0, rI, CMul, rEq, tBM, rAppend, rExtend, tLst, tTup, pad, List.set, List.getElem?_cons_zero, List.getElem?_cons_succ, cxOf, List.map_cons, List.map_nil, List.append_nil])
local macro_rules | `(tactic| walk_at "sq") => `(tactic| (refine seq_go ?_; walk_at "rd"))
local macro_rules | `(tactic| walk_at "r0") => `(tactic| (rw [start_pad (by rfl)]; walk_at "rd"))
section
variable {P : Program} {w : World} {K : PySem.W.Frag} {mg : Str → Option Value} {base : Heap} {c : Cs}
/-! ### lengths -/
theorem flat_len : ∀ {f : Fmt}, VafmsBase.okPieces f = true → (VafmsBase.flatPieces f).length ≤ 14 * f.size
  | .done, _ => Nat.le_refl _
  | .lit w r, ho => by
    have q : (!w.isEmpty && ((decide (w.length ≤ 8) && w.all VafmsBase.okByte) && VafmsBase.okPieces r)) = true := ho
    simp only [Bool.and_eq_true, decide_eq_true_eq] at q
    have := flat_len q.2.2
    simp only [VafmsBase.flatPieces, VafmsBase.listed, VafmsBase.ints, List.length_cons, List.length_append, List.length_map, Fmt.size]
    omega
  | .num lo hi r, ho => by
    have q : (decide (1 ≤ lo) && (decide (lo ≤ hi) && (decide (hi ≤ 4) && VafmsBase.okPieces r))) = true := ho
    simp only [Bool.and_eq_true, decide_eq_true_eq] at q
    have := flat_len q.2.2.2
    simp only [VafmsBase.flatPieces, List.length_cons, Fmt.size]
    omega
  | .word lo hi r, ho => by
    have q : (decide (1 ≤ lo) && (decide (lo ≤ hi) && (decide (hi ≤ 4) && VafmsBase.okPieces r))) = true := ho
    simp only [Bool.and_eq_true, decide_eq_true_eq] at q
    have := flat_len q.2.2.2
    simp only [VafmsBase.flatPieces, List.length_cons, Fmt.size]
    omega
  | .alt a b r, ho => by
    have q : (VafmsBase.okPieces a && (VafmsBase.okPieces b && VafmsBase.okPieces r)) = true := ho
    simp only [Bool.and_eq_true] at q
    have := flat_len q.1
    have := flat_len q.2.1
    have := flat_len q.2.2
    simp only [VafmsBase.flatPieces, List.length_cons, List.length_append, Fmt.size]
    omega
  | .opt a r, ho => by
    have q : (VafmsBase.okPieces a && VafmsBase.okPieces r) = true := ho
    simp only [Bool.and_eq_true] at q
    have := flat_len q.1
    have := flat_len q.2
    simp only [VafmsBase.flatPieces, List.length_cons, List.length_append, Fmt.size]
    omega
  | .rep s lo hi a r, ho => by
    have q : ((decide (s.length ≤ 8) && s.all VafmsBase.okByte) && (decide (lo ≤ hi) && (decide (hi ≤ 4) && (!a.hasRep && (VafmsBase.okPieces a && VafmsBase.okPieces r))))) = true := ho
    simp only [Bool.and_eq_true, decide_eq_true_eq] at q
    have := flat_len q.2.2.2.2.1
    have := flat_len q.2.2.2.2.2
    simp only [VafmsBase.flatPieces, VafmsBase.listed, VafmsBase.ints, List.length_cons, List.length_append, List.length_map, Fmt.size]
    omega
theorem flatMap_take_len {α β : Type} (g : α → List β) : ∀ (l : List α) (i : Nat), ((l.take i).flatMap g).length ≤ (l.flatMap g).length
  | [], i => by simp
  | a :: l, 0 => by simp
  | a :: l, i + 1 => by
    have := flatMap_take_len g l i
    rw [List.take_succ_cons, List.flatMap_cons, List.flatMap_cons, List.length_append, List.length_append]
    omega
theorem flatMap_more {α β : Type} (g : α → List β) {l : List α} {i : Nat} {x : α} (h : l[i]? = some x) : (l.take (i + 1)).flatMap g = (l.take i).flatMap g ++ g x := by
  rw [take_more h, List.flatMap_append, List.flatMap_cons, List.flatMap_nil, List.append_nil]
theorem flatMap_item_len {α β : Type} (g : α → List β) {l : List α} {x : α} (h : x ∈ l) : (g x).length ≤ (l.flatMap g).length := by
  induction l with
  | nil => cases h
  | cons a l ih =>
    rw [List.flatMap_cons, List.length_append]
    rcases List.mem_cons.mp h with rfl | h
    · omega
    · have := ih h
      omega
/-! ### row_numbers, piece_numbers -/
def spRowN (c : Cs) (d : Nat) : Sp := fun vs H Q _ => ∃ (a : Addr) (f : Fmt), vs = [.ref a] ∧ RowAt c H a f ∧ depth f < d ∧ f.size ≤ 1000 ∧ VafmsBase.okPieces f = true ∧ NewL H (ivs (VafmsBase.flatFmt f)) Q
def spPceN (c : Cs) (d : Nat) : Sp := fun vs H Q _ => ∃ (v : V) (p : Pce), vs = [v] ∧ PceAt c H v p ∧ (∀ g ∈ p.rows, depth g < d ∧ g.size ≤ 1000 ∧ VafmsBase.okPieces g = true) ∧ p.rows.length ≤ 2 ∧ p.text.length ≤ 8 ∧ (pceFlat p).length ≤ 50000 ∧ NewL H (ivs (pceFlat p)) Q
theorem sc_row_numbers : FnScope ["row", "numbers", "piece"] ["row"] (defScope (topS 45)) := ⟨rfl, rfl, rfl, by decide +kernel, rfl, by decide +kernel, by decide +kernel⟩
theorem sc_piece_numbers : FnScope ["piece", "numbers", "row"] ["piece"] (defScope (topS 46)) := ⟨rfl, rfl, rfl, by decide +kernel, rfl, by decide +kernel, by decide +kernel⟩
mutual
theorem d_row_numbers (T : Top K mg c) : ∀ d, DefOk P w K mg base CX0 (d + d + 1) "row_numbers" (spRowN c d)
  | 0 => T.a_row_numbers.never.imp fun vs H Q E h => by
    obtain ⟨a, f, _, _, hd, _⟩ := h
    omega
  | d + 1 => DefOk.mono (k := d + d + 1 + 1 + 1) (j := d + 1 + (d + 1) + 1) (h := by omega) <| T.a_row_numbers.ok fun f fd F => by
    have D := d_piece_numbers T d
    refine F.ok sc_row_numbers (fun vs H Q E h => ?_) (fun cdv A outer s H vs Q E hr h => ⟨_, (pss_cons (ps_set (i := 1) sc_row_numbers.nd rfl (.inl rfl) (pe_lst (pa_cons (pe_callB call_len_seq (by rfl) T.b_len (by decide +kernel) (pa_cons (pv 0) pa_nil)) pa_nil)))
 (pss_cons (ps_for PassesOwn.never rfl (pi_list (pv 0)) (pg_name (i := 2) sc_row_numbers.nd rfl (.inl rfl))
 (pss_one (ps_expr (pe_bm PySem.F.plainAttrs_list PySem.F.slot_list_extend PySem.F.type_list_extend mt_extend (pv 1) (pa_cons (pcall D (hr.mono (by omega)) pass0 (pa_cons (pv 2) pa_nil)) pa_nil)))))
 (pss_one (ps_ret (pv 1))))), ?_⟩)
    · obtain ⟨p, _, rfl, _⟩ := h
      rfl
    · obtain ⟨a, f, rfl, ⟨vs, ha, hp⟩, hd, hz, hok, q⟩ := h
      have W := hp.view
      have hlen := paired_map W
      have hfl := flat_len hok
      rw [flat_pces] at hfl
      walk_at "r0"
      walk_at "sq"
      refine ⟨_, rfl, a, vs, rfl, .inl (SqL.of ha), (by show 1 ≤ sizeLine; decide), fun D hD => ?_⟩
      refine seq_go ?_
      refine t_for (a := a) (xs := vs) (fun i σ H' => Same H H' ∧ H' D = some (.lst (ivs (VafmsBase.int f.row :: ((pces f).take i).flatMap pceFlat))) ∧ ∃ v, σ = [some (.ref a), some (.ref D), v]) (gv_var rfl) ((Same.add hD).seq (SqL.of ha)) ⟨Same.add hD, ?_, _, rfl⟩ (fun i σ H' h => h.1.seq (SqL.of ha)) ?_ ?_
      · rw [upd_same, row_pces, ← hlen]
        rfl
      · rintro i x σ H1 N hi ⟨s1, hD1, v, rfl⟩ hN
        obtain ⟨p, hpi, hpa⟩ := Paired.at W hi
        have hpm := mem_of_at hpi
        have hk := ok_pces hok p hpm
        have hpl := flatMap_item_len pceFlat hpm
        have htl := flatMap_take_len pceFlat (pces f) i
        walk_at "rd"
        refine ⟨_, rfl, .inl ⟨rfl, _, SqL.of hD1⟩, _, rfl, x, p, rfl, hpa.same s1, fun g hg => ⟨depth_rows hd p hpm g hg, Nat.le_trans (row_size_le hpm hg) hz, hk.2.2.2.2.2 g hg⟩, rows_len_le hpm, hk.2.2.2.1, by omega, fun b H2 hb s2 hbl => ?_⟩
        refine ⟨D, b, _, _, rfl, rfl, s2 _ _ hD1, hbl, sz (by rw [ivs_length, ivs_length, List.length_cons]; omega), hN _ _ ⟨Same.chg (Same.trans s1 s2) hD, ?_, _, rfl⟩⟩
        rw [upd_same, flatMap_more _ hpi, ← ivs_append]
        rfl
      · rintro σ H1 ⟨s1, hD1, v, rfl⟩
        refine ⟨_, rfl, q D H1 hD s1 ?_⟩
        rw [hD1, hlen, List.take_length, ← flat_pces]
        rfl
theorem d_piece_numbers (T : Top K mg c) : ∀ d, DefOk P w K mg base CX0 (d + d + 1 + 1) "piece_numbers" (spPceN c d) := fun d => T.a_piece_numbers.ok fun f fd F => by
  have D := d_row_numbers T d
  refine F.ok sc_piece_numbers (fun vs H Q E h => ?_) (fun cdv A outer s H vs Q E hr h => ⟨_, (pss_cons (ps_set (i := 1) sc_piece_numbers.nd rfl (.inl rfl) (pe_lst (pa_cons (pe_fld (pv 0) rfl) pa_nil)))
 (pss_cons (ps_if (pt_val (pcall (d_has_text T) (hr.mono (by omega)) pass0 (pa_cons (pe_fld (pv 0) rfl) pa_nil)))
 (pss_cons (ps_expr (pe_bm PySem.F.plainAttrs_list PySem.F.slot_list_append PySem.F.type_list_append mt_append (pv 1) (pa_cons (pe_callB call_len_seq (by rfl) T.b_len (by decide +kernel) (pa_cons (pe_fld (pv 0) rfl) pa_nil)) pa_nil)))
 (pss_one (ps_expr (pe_bm PySem.F.plainAttrs_list PySem.F.slot_list_extend PySem.F.type_list_extend mt_extend (pv 1) (pa_cons (pe_fld (pv 0) rfl) pa_nil)))))
 pss_nil)
 (pss_cons (ps_if (pt_val (pcall (d_has_bounds T) (hr.mono (by omega)) pass0 (pa_cons (pe_fld (pv 0) rfl) pa_nil)))
 (pss_cons (ps_expr (pe_bm PySem.F.plainAttrs_list PySem.F.slot_list_append PySem.F.type_list_append mt_append (pv 1) (pa_cons (pe_fld (pv 0) rfl) pa_nil)))
 (pss_one (ps_expr (pe_bm PySem.F.plainAttrs_list PySem.F.slot_list_append PySem.F.type_list_append mt_append (pv 1) (pa_cons (pe_fld (pv 0) rfl) pa_nil)))))
 pss_nil)
 (pss_cons (ps_for PassesOwn.never rfl (pi_list (pe_fld (pv 0) rfl)) (pg_name (i := 2) sc_piece_numbers.nd rfl (.inl rfl))
 (pss_one (ps_expr (pe_bm PySem.F.plainAttrs_list PySem.F.slot_list_extend PySem.F.type_list_extend mt_extend (pv 1) (pa_cons (pcall D (hr.mono (by omega)) pass0 (pa_cons (pv 2) pa_nil)) pa_nil)))))
 (pss_one (ps_ret (pv 1))))))), ?_⟩)
  · obtain ⟨p, _, rfl, _⟩ := h
    rfl
  · obtain ⟨v, p, rfl, ⟨rs, ⟨pa, dx, ta, ra, rfl, hP, hT, hR⟩, hrows⟩, hg, hl, htx, hfl, q⟩ := h
    have hrl := paired_map hrows
    have c1 := T.c_Piece.cl
    have nk := T.c_Piece.na "kind" (by simp)
    walk_at "r0"
    walk_at "sq"
    refine ⟨_, rfl, pa, c.Piece, dx, _, _, rfl, hP, c1, nk, pcF_kind, (by show 1 ≤ sizeLine; decide), fun D hD => ?_⟩
    have len1 : (pceFlat p).length = 1 + ((if hasText p.kind then VafmsBase.listed p.text else []).length + ((if hasBounds p.kind then [VafmsBase.int p.lo, VafmsBase.int p.hi] else []).length + (p.rows.flatMap VafmsBase.flatFmt).length)) := by
      unfold pceFlat
      rw [List.length_cons, List.length_append, List.length_append]
      omega
    -- the text
    refine seq_by (fun σ H' => Same H H' ∧ H' D = some (.lst (ivs (VafmsBase.int p.kind :: (if hasText p.kind then VafmsBase.listed p.text else [])))) ∧ σ = [some (.ref pa), some (.ref D), none]) ?_ ?_
    rotate_left
    · intro N hN
      walk_at "rd"
      refine ⟨_, rfl, pa, c.Piece, dx, _, _, rfl, Same.add hD _ _ hP, c1, nk, pcF_kind, p.kind, rfl, fun H1 s1 => ⟨_, rfl, ?_⟩⟩
      have sD : Same H H1 := Same.trans (Same.add hD) s1
      have hD1 : H1 D = some (.lst [.int (p.kind : Int)]) := s1 _ _ upd_same
      cases ht : hasText p.kind with
      | false =>
        rw [if_neg Bool.false_ne_true]
        exact hN _ _ ⟨sD, by rw [hD1, ht]; rfl, rfl⟩
      | true =>
        rw [if_pos rfl]
        walk_at "sq"
        refine ⟨_, rfl, .inl ⟨rfl, _, SqL.of hD1⟩, _, rfl, pa, c.Piece, dx, _, _, rfl, sD _ _ hP, c1, T.c_Piece.na _ (by simp), pcF_text, ta, nvs p.text, rfl, .inl (SqL.of (sD _ _ hT)), D, _, _, rfl, rfl, hD1, (by show 1 < sizeLine; decide), ?_⟩
        have sD2 := Same.chg (o := .lst ([.int (p.kind : Int)] ++ [.int ((nvs p.text).length : Int)])) sD hD
        refine ⟨_, rfl, .inl ⟨rfl, _, SqL.of upd_same⟩, _, rfl, pa, c.Piece, dx, _, _, rfl, sD2 _ _ hP, c1, T.c_Piece.na _ (by simp), pcF_text, D, ta, _, _, rfl, rfl, upd_same, sD2 _ _ hT, sz (by rw [nvs_length]; show 2 + _ ≤ _; omega), hN _ _ ⟨Same.chg sD2 hD, ?_, rfl⟩⟩
        rw [upd_same, nvs_length, nvs_ivs, ht]
        rfl
    rintro _ H1 ⟨s1, hD1, rfl⟩
    -- the bounds
    refine seq_by (fun σ H' => Same H H' ∧ H' D = some (.lst (ivs (VafmsBase.int p.kind :: ((if hasText p.kind then VafmsBase.listed p.text else []) ++ (if hasBounds p.kind then [VafmsBase.int p.lo, VafmsBase.int p.hi] else []))))) ∧ σ = [some (.ref pa), some (.ref D), none]) ?_ ?_
    rotate_left
    · intro N hN
      walk_at "rd"
      refine ⟨_, rfl, pa, c.Piece, dx, _, _, rfl, s1 _ _ hP, c1, nk, pcF_kind, p.kind, rfl, fun H2 s2 => ⟨_, rfl, ?_⟩⟩
      have sD := Same.trans s1 s2
      have hD2 := s2 _ _ hD1
      cases hb : hasBounds p.kind with
      | false =>
        rw [if_neg Bool.false_ne_true]
        exact hN _ _ ⟨sD, by rw [hD2, hb]; simp, rfl⟩
      | true =>
        rw [if_pos rfl]
        have hl1 : (if hasText p.kind = true then VafmsBase.listed p.text else []).length ≤ 20 := by
          split
          · show (VafmsBase.int _ :: VafmsBase.ints p.text).length ≤ 20
            rw [List.length_cons, VafmsBase.ints, List.length_map]
            omega
          · exact Nat.zero_le _
        walk_at "sq"
        refine ⟨_, rfl, .inl ⟨rfl, _, SqL.of hD2⟩, _, rfl, pa, c.Piece, dx, _, _, rfl, sD _ _ hP, c1, T.c_Piece.na _ (by simp), pcF_lo, D, _, _, rfl, rfl, hD2, szl (by rw [ivs_length, List.length_cons]; omega), ?_⟩
        have sD2 := Same.chg (o := .lst (ivs (VafmsBase.int p.kind :: (if hasText p.kind = true then VafmsBase.listed p.text else [])) ++ [.int (p.lo : Int)])) sD hD
        refine ⟨_, rfl, .inl ⟨rfl, _, SqL.of upd_same⟩, _, rfl, pa, c.Piece, dx, _, _, rfl, sD2 _ _ hP, c1, T.c_Piece.na _ (by simp), pcF_hi, D, _, _, rfl, rfl, upd_same, szl (by rw [List.length_append, ivs_length, List.length_cons, List.length_singleton]; omega), hN _ _ ⟨Same.chg sD2 hD, ?_, rfl⟩⟩
        rw [upd_same]
        simp [ivs, VafmsBase.int, hb]
    rintro _ H2 ⟨s2, hD2, rfl⟩
    -- the rows
    refine seq_go ?_
    refine t_for (a := ra) (xs := rs.map V.ref) (fun i σ H' => Same H H' ∧ H' D = some (.lst (ivs (VafmsBase.int p.kind :: ((if hasText p.kind then VafmsBase.listed p.text else []) ++ ((if hasBounds p.kind then [VafmsBase.int p.lo, VafmsBase.int p.hi] else []) ++ (p.rows.take i).flatMap VafmsBase.flatFmt))))) ∧ ∃ v, σ = [some (.ref pa), some (.ref D), v]) (gv_fld (gv_var rfl) (s2 _ _ hP) c1 (T.c_Piece.na _ (by simp)) pcF_rows) (SqL.of (s2 _ _ hR)) ⟨s2, by rw [hD2]; simp, _, rfl⟩ (fun i σ H' h => SqL.of (h.1 _ _ hR)) ?_ ?_
    · rintro i x σ H3 N hi ⟨s3, hD3, v, rfl⟩ hN
      rw [List.getElem?_map] at hi
      cases hrn : rs[i]? with
      | none => rw [hrn] at hi; cases hi
      | some r =>
        rw [hrn] at hi
        obtain rfl : V.ref r = x := Option.some.inj hi
        obtain ⟨g, hgn, hgr⟩ := Paired.at hrows hrn
        have hgm := mem_of_at hgn
        obtain ⟨g1, g2, g3⟩ := hg g hgm
        have hil := flatMap_item_len VafmsBase.flatFmt hgm
        have htl := flatMap_take_len VafmsBase.flatFmt p.rows i
        walk_at "rd"
        refine ⟨_, rfl, .inl ⟨rfl, _, SqL.of hD3⟩, _, rfl, r, g, rfl, hgr.same s3, g1, g2, g3, fun b H4 hb s4 hbl => ?_⟩
        refine ⟨D, b, _, _, rfl, rfl, s4 _ _ hD3, hbl, sz (by
          rw [ivs_length, ivs_length, List.length_cons, List.length_append, List.length_append]
          omega), hN _ _ ⟨Same.chg (Same.trans s3 s4) hD, ?_, _, rfl⟩⟩
        rw [upd_same, flatMap_more _ hgn, ← ivs_append]
        simp
    · rintro σ H3 ⟨s3, hD3, v, rfl⟩
      refine ⟨_, rfl, q D H3 hD s3 ?_⟩
      rw [hD3, List.length_map, hrl, List.take_length]
      rfl
end
end
end FX
end
section
set_option linter.all false
/-! The one form as lines of words. -/
namespace FT
open VafmsBase
open Vafmsa (strText spaced piecesText formatText valueText sourceText QUOTE SLASH)

def kw : Nat → Text
  | 1 => [110, 117, 109]
  | 2 => [119, 111, 114, 100]
  | 3 => [97, 108, 116]
  | 4 => [111, 112, 116]
  | 5 => [114, 101, 112]
  | _ => []
def fmtWords : Fmt → List Text
  | .done => []
  | .lit w r => strText w :: fmtWords r
  | .num lo hi r => kw 1 :: digitsOf lo :: digitsOf hi :: fmtWords r
  | .word lo hi r => kw 2 :: digitsOf lo :: digitsOf hi :: fmtWords r
  | .alt a b r => kw 3 :: [123] :: (fmtWords a ++ [125] :: [123] :: (fmtWords b ++ [125] :: fmtWords r))
  | .opt a r => kw 4 :: [123] :: (fmtWords a ++ [125] :: fmtWords r)
  | .rep s lo hi a r => kw 5 :: strText s :: digitsOf lo :: digitsOf hi :: [123] :: (fmtWords a ++ [125] :: fmtWords r)
def rowWords (f : Fmt) : List Text := [123] :: (fmtWords f ++ [[125]])
def pceWords (p : Pce) : List Text :=
  (if p.kind = 0 then [] else [kw p.kind]) ++ ((if hasText p.kind then [strText p.text] else []) ++ ((if hasBounds p.kind then [digitsOf p.lo, digitsOf p.hi] else []) ++ p.rows.flatMap rowWords))
theorem words_pces : ∀ f : Fmt, fmtWords f = (pces f).flatMap pceWords
  | .done => rfl
  | .lit w r => by simp only [pces, fmtWords, List.flatMap_cons]; rw [words_pces r]; rfl
  | .num lo hi r => by simp only [pces, fmtWords, List.flatMap_cons]; rw [words_pces r]; rfl
  | .word lo hi r => by simp only [pces, fmtWords, List.flatMap_cons]; rw [words_pces r]; rfl
  | .alt a b r => by
    simp only [pces, fmtWords, List.flatMap_cons]; rw [words_pces r]
    show _ = ([kw 3] ++ ([] ++ ([] ++ (rowWords a ++ (rowWords b ++ []))))) ++ _
    simp [rowWords]
  | .opt a r => by
    simp only [pces, fmtWords, List.flatMap_cons]; rw [words_pces r]
    show _ = ([kw 4] ++ ([] ++ ([] ++ (rowWords a ++ [])))) ++ _
    simp [rowWords]
  | .rep s lo hi a r => by
    simp only [pces, fmtWords, List.flatMap_cons]; rw [words_pces r]
    show _ = ([kw 5] ++ ([strText s] ++ ([digitsOf lo, digitsOf hi] ++ (rowWords a ++ [])))) ++ _
    simp [rowWords]
def blanked (l : List Text) : Text := l.flatMap fun w => 32 :: w
theorem blanked_cons (w : Text) (l : List Text) : blanked (w :: l) = 32 :: (w ++ blanked l) := by
  unfold blanked
  rw [List.flatMap_cons]
  rfl
theorem blanked_append (a b : List Text) : blanked (a ++ b) = blanked a ++ blanked b := List.flatMap_append
theorem spaced_two (lo hi : Nat) : spaced [lo, hi] = 32 :: (digitsOf lo ++ (32 :: digitsOf hi)) := by
  unfold spaced
  simp
theorem pieces_words : ∀ f : Fmt, piecesText f = blanked (fmtWords f)
  | .done => rfl
  | .lit w r => by simp only [piecesText, fmtWords, blanked_cons, pieces_words r]
  | .num lo hi r => by
    simp only [piecesText, fmtWords, blanked_cons, pieces_words r, spaced_two]
    show [32, 110, 117, 109] ++ _ = _
    simp [kw]
  | .word lo hi r => by
    simp only [piecesText, fmtWords, blanked_cons, pieces_words r, spaced_two]
    show [32, 119, 111, 114, 100] ++ _ = _
    simp [kw]
  | .alt a b r => by
    simp only [piecesText, fmtWords, blanked_cons, blanked_append, pieces_words r, pieces_words a, pieces_words b]
    show [32, 97, 108, 116, 32, 123] ++ (_ ++ ([32, 125, 32, 123] ++ (_ ++ ([32, 125] ++ _)))) = _
    simp [kw]
  | .opt a r => by
    simp only [piecesText, fmtWords, blanked_cons, blanked_append, pieces_words r, pieces_words a]
    show [32, 111, 112, 116, 32, 123] ++ (_ ++ ([32, 125] ++ _)) = _
    simp [kw]
  | .rep s lo hi a r => by
    simp only [piecesText, fmtWords, blanked_cons, blanked_append, pieces_words r, pieces_words a, spaced_two]
    show [32, 114, 101, 112, 32] ++ (_ ++ (_ ++ ([32, 123] ++ (_ ++ ([32, 125] ++ _))))) = _
    simp [kw]
/-- words as a line: a blank ahead of all but what stands first -/
def lineStep (l w : Text) : Text := (if l = [] then l else l ++ [32]) ++ w
def lineOf (ws : List Text) : Text := ws.foldl lineStep [] ++ [10]
theorem line_rest : ∀ (ws : List Text) (l : Text), l ≠ [] → ws.foldl lineStep l = l ++ blanked ws
  | [], l, _ => by simp [blanked]
  | w :: ws, l, h => by
    rw [List.foldl_cons, line_rest ws _ (by unfold lineStep; rw [if_neg h]; simp), blanked_cons]
    unfold lineStep
    rw [if_neg h]
    simp
theorem lineOf_cons {w : Text} (ws : List Text) (h : w ≠ []) : lineOf (w :: ws) = w ++ (blanked ws ++ [10]) := by
  unfold lineOf
  rw [List.foldl_cons, line_rest ws _ (by unfold lineStep; simpa using h)]
  unfold lineStep
  simp
def tFormat : Text := [102, 111, 114, 109, 97, 116]
def tValue : Text := [118, 97, 108, 117, 101]
theorem format_line (f : Fmt) : formatText f = lineOf (tFormat :: rowWords f) := by
  rw [lineOf_cons _ (by unfold tFormat; simp)]
  unfold formatText rowWords
  rw [blanked_cons, blanked_append, pieces_words]
  show [102, 111, 114, 109, 97, 116, 32, 123] ++ (_ ++ [32, 125, 10]) = _
  simp [tFormat, blanked]
theorem spaced_blanked (v : List Nat) : spaced v = blanked (v.map digitsOf) := by
  unfold spaced blanked
  induction v with
  | nil => rfl
  | cons a v ih => rw [List.flatMap_cons, List.map_cons, List.flatMap_cons, ih]
theorem value_line (v : Value) : valueText v = lineOf (tValue :: [40] :: (v.map digitsOf ++ [[41, 59]])) := by
  rw [lineOf_cons _ (by unfold tValue; simp)]
  unfold valueText
  rw [blanked_cons, blanked_append, spaced_blanked]
  show [118, 97, 108, 117, 101, 32, 40] ++ (_ ++ [32, 41, 59, 10]) = _
  simp [tValue, blanked]
end FT
end
section
set_option Elab.async false
set_option linter.all false
set_option maxRecDepth 100000
set_option maxHeartbeats 4000000
namespace FX
open PySem PySem.Spec PyProof.Rows L2 FT
open VafmsBase (Fmt)
local macro_rules | `(tactic| walk_at "rd") => `(tactic| try dsimp only [tAug, tOp, tC, tCB, tCons, tNil, gName, tVar, tAsg, tRet, tIfS, tTest, tB, tNext, tDrop, tFld, tCKw, tCall, rI0, rI, CMul, rEq, rNe, tBM, rAppend, rExtend, rCat, rIn, rIxT, tLst, tTup, pad, List.set, List.getElem?_cons_zero, List.getElem?_cons_succ, cxOf, List.map_cons, List.map_nil, List.append_nil, List.cons_append, List.nil_append])
local macro_rules | `(tactic| walk_at "sq") => `(tactic| (refine seq_go ?_; walk_at "rd"))
local macro_rules | `(tactic| walk_at "r0") => `(tactic| (rw [start_pad (by rfl)]; walk_at "rd"))
section
variable {P : Program} {w : World} {K : PySem.W.Frag} {mg : Str → Option Value} {base : Heap} {c : Cs}
/-! ### spelled -/
def spSpelled : Sp := fun vs H Q _ => ∃ z : Str, vs = [.str z] ∧ z.cps.size ≤ 1000 ∧ NewL H (nvs z.cps.toList) Q
theorem sc_spelled : FnScope ["text", "sign"] ["text"] (defScope (topS 42)) := ⟨rfl, rfl, rfl, by decide +kernel, rfl, by decide +kernel, by decide +kernel⟩
theorem d_spelled (T : Top K mg c) : DefOk P w K mg base CX0 1 "spelled" spSpelled := T.a_spelled.ok fun f fd F => by
  refine F.ok sc_spelled (fun vs H Q E h => ?_) (fun cdv A outer s H vs Q E hr h => ⟨_, (pss_one (ps_ret (pe_lc (own := [("sign", 1)]) (g := gName 1) (tt := tYes) (by rfl) sc_spelled.nd (pi_str (pv 0)) (blkOk_by (own := [("sign", 1)]) (N := ["text", "sign"]) (sc := defScope (topS 42)) (by decide +kernel)) (fun _ _ _ _ _ => pg_name (i := 1) sc_spelled.nd rfl (Or.inl rfl)) (fun _ _ _ _ _ => pts_nil) (fun _ _ _ _ _ => (pe_callB call_ord (by rfl) T.b_ord (by decide +kernel) (pa_cons (pv 1) pa_nil)))))), ?_⟩)
  · obtain ⟨p, rfl, _⟩ := h
    rfl
  · obtain ⟨z, rfl, hz, q⟩ := h
    walk_at "r0"
    refine t_lc_genv (nvs z.cps.toList) (fun R r => ⟨_, rfl, z, rfl, r⟩) (turns_str z _) (by rw [nvs_length, Array.length_toList]) (by omega) (fun x => rfl) (fun i y H1 hi hy s1 Q' q' => ?_) fun D H1 hD s1 hl => q D H1 hD s1 hl
    refine ⟨_, rfl, _, rfl, rfl, ?_⟩
    have e : y = .int (Int.ofNat (z.cps.getD i 0)) := by
      unfold nvs at hy
      rw [List.getElem?_map, Array.getElem?_toList, Array.getElem?_eq_getElem hi] at hy
      rw [← Option.some.inj hy, Array.getD_eq_getD_getElem?, Array.getElem?_eq_getElem hi]
      rfl
    subst e
    exact q' H1 (Same.refl H1)
/-! ### quoted -/
def spQuoted : Sp := fun vs H Q _ => ∃ (a : Addr) (t : List Nat), vs = [.ref a] ∧ H a = some (.lst (nvs t)) ∧ t.length ≤ 1000 ∧ NewL H (nvs (Vafmsa.strText t)) Q
theorem sc_quoted : FnScope ["text", "string", "byte"] ["text"] (defScope (topS 52)) := ⟨rfl, rfl, rfl, by decide +kernel, rfl, by decide +kernel, by decide +kernel⟩
def esc (b : Nat) : List Nat := if b = 34 ∨ b = 92 then [92, b] else [b]
theorem esc_len (t : List Nat) : (t.flatMap esc).length ≤ 2 * t.length := by
  induction t with
  | nil => exact Nat.le_refl _
  | cons a t ih =>
    rw [List.flatMap_cons, List.length_append, List.length_cons]
    have : (esc a).length ≤ 2 := by
      unfold esc
      split <;> simp
    omega
theorem d_quoted (T : Top K mg c) : DefOk P w K mg base CX0 1 "quoted" spQuoted := T.a_quoted.ok fun f fd F => by
  refine F.ok sc_quoted (fun vs H Q E h => ?_) (fun cdv A outer s H vs Q E hr h => ⟨_, (pss_cons (ps_set (i := 1) sc_quoted.nd rfl (.inl rfl) (pe_lst (pa_cons (pe_num T.n_QUOTE) pa_nil)))
 (pss_cons (ps_for PassesOwn.never rfl (pi_list (pv 0)) (pg_name (i := 2) sc_quoted.nd rfl (.inl rfl))
 (pss_cons (ps_if (pt_cmpR op_in_seq (pv 2) (pe_tup (pa_cons (pe_num T.n_QUOTE) (pa_cons (pe_num T.n_BACKSLASH) pa_nil))) (by rfl))
 (pss_one (ps_expr (pe_bm PySem.F.plainAttrs_list PySem.F.slot_list_append PySem.F.type_list_append mt_append (pv 1) (pa_cons (pe_num T.n_BACKSLASH) pa_nil))))
 pss_nil)
 (pss_one (ps_expr (pe_bm PySem.F.plainAttrs_list PySem.F.slot_list_append PySem.F.type_list_append mt_append (pv 1) (pa_cons (pv 2) pa_nil))))))
 (pss_cons (ps_expr (pe_bm PySem.F.plainAttrs_list PySem.F.slot_list_append PySem.F.type_list_append mt_append (pv 1) (pa_cons (pe_num T.n_QUOTE) pa_nil)))
 (pss_one (ps_ret (pv 1)))))), ?_⟩)
  · obtain ⟨p, _, rfl, _⟩ := h
    rfl
  · obtain ⟨a, t, rfl, ha, ht, q⟩ := h
    walk_at "r0"
    walk_at "sq"
    refine ⟨(by show 1 ≤ sizeLine; decide), fun D hD => ?_⟩
    refine seq_go ?_
    refine t_for (a := a) (xs := nvs t) (fun i σ H' => Same H H' ∧ H' D = some (.lst (nvs (34 :: (t.take i).flatMap esc))) ∧ ∃ v, σ = [some (.ref a), some (.ref D), v]) (gv_var rfl) (SqL.of (Same.add hD _ _ ha)) ⟨Same.add hD, upd_same, _, rfl⟩ (fun i σ H' h => SqL.of (h.1 _ _ ha)) ?_ ?_
    · rintro i x σ H1 N hi ⟨s1, hD1, v, rfl⟩ hN
      unfold nvs at hi
      rw [List.getElem?_map] at hi
      cases hti : t[i]? with
      | none => rw [hti] at hi; cases hi
      | some b =>
        rw [hti] at hi
        obtain rfl : V.int (Int.ofNat b) = x := Option.some.inj hi
        have hel := esc_len (t.take i)
        have htk : (t.take i).length ≤ t.length := by rw [List.length_take]; omega
        refine seq_by (fun σ' H' => Same H H' ∧ H' D = some (.lst (nvs ((34 :: (t.take i).flatMap esc) ++ (if b = 34 ∨ b = 92 then [92] else [])))) ∧ σ' = [some (.ref a), some (.ref D), some (.int (Int.ofNat b))]) ?_ ?_
        · rintro σ' H2 ⟨s2, hD2, rfl⟩
          walk_at "rd"
          refine ⟨_, rfl, .inl ⟨rfl, _, SqL.of hD2⟩, _, rfl, D, _, _, rfl, rfl, hD2, szl (by
            rw [nvs_length, List.length_append, List.length_cons]
            have : (if b = 34 ∨ b = 92 then [92] else ([] : List Nat)).length ≤ 1 := by split <;> simp
            omega), hN _ _ ⟨Same.chg s2 hD, ?_, _, rfl⟩⟩
          rw [upd_same, flatMap_more _ hti]
          unfold esc nvs
          split <;> simp
        · intro M hM
          walk_at "rd"
          refine ⟨_, rfl, (by show 2 ≤ sizeLine; decide), fun p hp => ⟨p, [.int 34, .int 92], rfl, .inr (SqT.of upd_same), rfl, rfl, _, rfl, ?_⟩⟩
          have e : (if false = true then !inV (.int (Int.ofNat b)) [.int 34, .int 92] else inV (.int (Int.ofNat b)) [.int 34, .int 92]) = decide (b = 34 ∨ b = 92) := by
            rw [if_neg Bool.false_ne_true, show ([.int 34, .int 92] : List V) = [34, 92].map V.int from rfl, inV_ints, Bool.eq_iff_iff]
            simp
            omega
          rw [e]
          have s2 : Same H (upd H1 p (.tup [.int 34, .int 92])) := Same.trans s1 (Same.add hp)
          have hD2 : upd H1 p (.tup [.int 34, .int 92]) D = some (.lst (nvs (34 :: (t.take i).flatMap esc))) := Same.add hp _ _ hD1
          by_cases hb : b = 34 ∨ b = 92
          · rw [if_pos (decide_eq_true hb)]
            walk_at "rd"
            refine ⟨_, rfl, .inl ⟨rfl, _, SqL.of hD2⟩, D, _, _, rfl, rfl, hD2, szl (by rw [nvs_length, List.length_cons]; omega), hM _ _ ⟨Same.chg s2 hD, ?_, rfl⟩⟩
            rw [upd_same, if_pos hb, nvs_append]
            rfl
          · rw [if_neg (by rw [decide_eq_false hb]; exact Bool.false_ne_true)]
            exact hM _ _ ⟨s2, by rw [hD2, if_neg hb, List.append_nil], rfl⟩
    · rintro σ H1 ⟨s1, hD1, v, rfl⟩
      rw [nvs_length, List.take_length] at hD1
      have hel := esc_len t
      walk_at "sq"
      refine ⟨_, rfl, .inl ⟨rfl, _, SqL.of hD1⟩, D, _, _, rfl, rfl, hD1, szl (by rw [nvs_length, List.length_cons]; omega), ?_⟩
      refine ⟨_, rfl, q D _ hD (Same.chg s1 hD) ?_⟩
      rw [upd_same]
      unfold Vafmsa.strText nvs
      simp [esc, Vafmsa.QUOTE, Vafmsa.SLASH]
      rfl

/-! ### line_of -/
def spLine : Sp := fun vs H Q _ => ∃ (a : Addr) (us : List V) (ts : List (List Nat)), vs = [.ref a] ∧ H a = some (.lst us) ∧ TxtsAt H us ts ∧ (lineOf ts).length ≤ 50000 ∧ ts.length ≤ 50000 ∧ NewL H (nvs (lineOf ts)) Q
theorem sc_line_of : FnScope ["words", "line", "word"] ["words"] (defScope (topS 48)) := ⟨rfl, rfl, rfl, by decide +kernel, rfl, by decide +kernel, by decide +kernel⟩
theorem lineStep_len (l t : List Nat) : (lineStep l t).length = l.length + (if l = [] then 0 else 1) + t.length := by
  unfold lineStep
  split
  · simp_all
  · simp_all
    omega
theorem line_take_len : ∀ (ts : List (List Nat)) (l : List Nat) (i : Nat), ((ts.take i).foldl lineStep l).length ≤ (ts.foldl lineStep l).length
  | [], l, i => by simp
  | t :: ts, l, 0 => by
    have mono : ∀ (ts : List (List Nat)) (l : List Nat), l.length ≤ (ts.foldl lineStep l).length := fun ts => by
      induction ts with
      | nil => exact fun l => Nat.le_refl _
      | cons t ts ih =>
        intro l
        rw [List.foldl_cons]
        have h1 := ih (lineStep l t)
        have h2 := lineStep_len l t
        omega
    exact mono (t :: ts) l
  | t :: ts, l, i + 1 => by
    rw [List.take_succ_cons, List.foldl_cons, List.foldl_cons]
    exact line_take_len ts _ i
theorem d_line_of (T : Top K mg c) : DefOk P w K mg base CX0 1 "line_of" spLine := T.a_line_of.ok fun f fd F => by
  refine F.ok sc_line_of (fun vs H Q E h => ?_) (fun cdv A outer s H vs Q E hr h => ⟨_, (pss_cons (ps_set (i := 1) sc_line_of.nd rfl (.inl rfl) (pe_lst pa_nil))
 (pss_cons (ps_for PassesOwn.never rfl (pi_list (pv 0)) (pg_name (i := 2) sc_line_of.nd rfl (.inl rfl))
 (pss_cons (ps_if (pt_truth (pv 1) (by intro _; rfl))
 (pss_one (ps_expr (pe_bm PySem.F.plainAttrs_list PySem.F.slot_list_append PySem.F.type_list_append mt_append (pv 1) (pa_cons (pe_num T.n_BLANK) pa_nil))))
 pss_nil)
 (pss_one (ps_expr (pe_bm PySem.F.plainAttrs_list PySem.F.slot_list_extend PySem.F.type_list_extend mt_extend (pv 1) (pa_cons (pv 2) pa_nil))))))
 (pss_cons (ps_expr (pe_bm PySem.F.plainAttrs_list PySem.F.slot_list_append PySem.F.type_list_append mt_append (pv 1) (pa_cons (pe_num T.n_ROW_END) pa_nil)))
 (pss_one (ps_ret (pv 1)))))), ?_⟩)
  · obtain ⟨p, _, _, rfl, _⟩ := h
    rfl
  · obtain ⟨a, us, ts, rfl, ha, hts, hl, htl, q⟩ := h
    have hlen := paired_map hts
    have hL : (lineOf ts).length = (ts.foldl lineStep []).length + 1 := by
      unfold lineOf
      rw [List.length_append]
      rfl
    walk_at "r0"
    walk_at "sq"
    refine ⟨Nat.zero_le _, fun D hD => ?_⟩
    refine seq_go ?_
    refine t_for (a := a) (xs := us) (fun i σ H' => Same H H' ∧ H' D = some (.lst (nvs ((ts.take i).foldl lineStep []))) ∧ ∃ v, σ = [some (.ref a), some (.ref D), v]) (gv_var rfl) (SqL.of (Same.add hD _ _ ha)) ⟨Same.add hD, upd_same, _, rfl⟩ (fun i σ H' h => SqL.of (h.1 _ _ ha)) ?_ ?_
    · rintro i x σ H1 N hi ⟨s1, hD1, v, rfl⟩ hN
      obtain ⟨t, hti, b, rfl, hb⟩ := Paired.at hts hi
      have hstep : (ts.take (i + 1)).foldl lineStep [] = lineStep ((ts.take i).foldl lineStep []) t := by
        rw [take_more hti, List.foldl_append]
        rfl
      have hle := line_take_len ts [] (i + 1)
      rw [hstep] at hle
      have hsl := lineStep_len ((ts.take i).foldl lineStep []) t
      generalize hacc : (ts.take i).foldl lineStep [] = acc at *
      refine seq_by (fun σ' H' => Same H H' ∧ H' D = some (.lst (nvs (if acc = [] then acc else acc ++ [32]))) ∧ σ' = [some (.ref a), some (.ref D), some (.ref b)]) ?_ ?_
      · rintro σ' H2 ⟨s2, hD2, rfl⟩
        walk_at "rd"
        refine ⟨_, rfl, .inl ⟨rfl, _, SqL.of hD2⟩, _, rfl, D, b, _, _, rfl, rfl, hD2, s2 _ _ hb, sz (by
          rw [nvs_length, nvs_length]
          by_cases hc : acc = []
          · rw [if_pos hc] at hsl ⊢
            omega
          · rw [if_neg hc] at hsl ⊢
            rw [List.length_append, List.length_singleton]
            omega), hN _ _ ⟨Same.chg s2 hD, ?_, _, rfl⟩⟩
        rw [upd_same, hstep, ← nvs_append]
        rfl
      · intro M hM
        walk_at "rd"
        refine ⟨_, rfl, !(nvs acc).isEmpty, .inl ⟨_, SqL.of hD1, rfl⟩, ?_⟩
        by_cases hc : acc = []
        · subst hc
          rw [if_neg (by simp [nvs])]
          exact hM _ _ ⟨s1, hD1, rfl⟩
        · rw [if_pos (by cases acc with | nil => exact absurd rfl hc | cons => rfl)]
          walk_at "rd"
          refine ⟨_, rfl, .inl ⟨rfl, _, SqL.of hD1⟩, D, _, _, rfl, rfl, hD1, szl (by
            rw [nvs_length]
            rw [if_neg hc] at hsl
            omega), hM _ _ ⟨Same.chg s1 hD, ?_, rfl⟩⟩
          rw [upd_same, if_neg hc, nvs_append]
          rfl
    · rintro σ H1 ⟨s1, hD1, v, rfl⟩
      rw [hlen, List.take_length] at hD1
      walk_at "sq"
      refine ⟨_, rfl, .inl ⟨rfl, _, SqL.of hD1⟩, D, _, _, rfl, rfl, hD1, szl (by rw [nvs_length]; omega), ?_⟩
      refine ⟨_, rfl, q D _ hD (Same.chg s1 hD) ?_⟩
      rw [upd_same]
      unfold lineOf
      rw [nvs_append]
      rfl
end
end FX
end
section
set_option Elab.async false
set_option linter.all false
set_option maxRecDepth 100000
set_option maxHeartbeats 4000000
namespace FX
open PySem PySem.Spec PyProof.Rows L2 FT
open VafmsBase (Fmt)
local macro_rules | `(tactic| walk_at "rd") => `(tactic| try dsimp only [tAug, tOp, tC, tCB, tCons, tNil, gName, tVar, tAsg, tRet, tIfS, tTest, tB, tNext, tDrop, tFld, tCKw, tCall, rI0, rI, CMul, rEq, rNe, tBM, rAppend, rExtend, rCat, rIn, rIxT, tLst, tTup, pad, List.set, List.getElem?_cons_zero, List.getElem?_cons_succ, cxOf, List.map_cons, List.map_nil, List.append_nil, List.cons_append, List.nil_append])
local macro_rules | `(tactic| walk_at "sq") => `(tactic| (refine seq_go ?_; walk_at "rd"))
local macro_rules | `(tactic| walk_at "r0") => `(tactic| (rw [start_pad (by rfl)]; walk_at "rd"))
/-! ### lengths -/
theorem digits_len_le {n k : Nat} (hk : 0 < k) (h : n < 10 ^ k) : (VafmsBase.digitsOf n).length ≤ k := by
  unfold VafmsBase.digitsOf
  rw [List.length_map]
  exact (Nat.length_toDigits_le_iff (by decide) hk).mpr h
theorem strText_len (t : List Nat) : (Vafmsa.strText t).length ≤ 2 * t.length + 2 := by
  have e : Vafmsa.strText t = 34 :: (t.flatMap esc ++ [34]) := rfl
  have := esc_len t
  rw [e, List.length_cons, List.length_append, List.length_singleton]
  omega
theorem words_len : ∀ f : Fmt, (fmtWords f).length ≤ 6 * f.size
  | .done => Nat.le_refl _
  | .lit _ r => by have := words_len r; simp only [fmtWords, List.length_cons, Fmt.size]; omega
  | .num _ _ r => by have := words_len r; simp only [fmtWords, List.length_cons, Fmt.size]; omega
  | .word _ _ r => by have := words_len r; simp only [fmtWords, List.length_cons, Fmt.size]; omega
  | .alt a b r => by have := words_len r; have := words_len a; have := words_len b; simp only [fmtWords, List.length_cons, List.length_append, Fmt.size]; omega
  | .opt a r => by have := words_len r; have := words_len a; simp only [fmtWords, List.length_cons, List.length_append, Fmt.size]; omega
  | .rep _ _ _ a r => by have := words_len r; have := words_len a; simp only [fmtWords, List.length_cons, List.length_append, Fmt.size]; omega
theorem blanked_len_cons (t : List Nat) (l : List (List Nat)) : (blanked (t :: l)).length = t.length + 1 + (blanked l).length := by
  rw [blanked_cons, List.length_cons, List.length_append]
  omega
theorem blanked_len_app (a b : List (List Nat)) : (blanked (a ++ b)).length = (blanked a).length + (blanked b).length := by
  rw [blanked_append, List.length_append]
theorem kw_len (k : Nat) : (kw k).length ≤ 4 := by
  unfold kw
  split <;> simp
theorem words_bytes : ∀ {f : Fmt}, VafmsBase.okPieces f = true → (blanked (fmtWords f)).length ≤ 40 * f.size
  | .done, _ => Nat.le_refl _
  | .lit w r, ho => by
    have q : (!w.isEmpty && ((decide (w.length ≤ 8) && w.all VafmsBase.okByte) && VafmsBase.okPieces r)) = true := ho
    simp only [Bool.and_eq_true, decide_eq_true_eq] at q
    have := words_bytes q.2.2
    have := strText_len w
    simp only [fmtWords, blanked_len_cons, Fmt.size]
    omega
  | .num lo hi r, ho => by
    have q : (decide (1 ≤ lo) && (decide (lo ≤ hi) && (decide (hi ≤ 4) && VafmsBase.okPieces r))) = true := ho
    simp only [Bool.and_eq_true, decide_eq_true_eq] at q
    have := words_bytes q.2.2.2
    have := digits_len_le (n := lo) (k := 1) (by decide) (by omega)
    have := digits_len_le (n := hi) (k := 1) (by decide) (by omega)
    have := kw_len 1
    simp only [fmtWords, blanked_len_cons, Fmt.size]
    omega
  | .word lo hi r, ho => by
    have q : (decide (1 ≤ lo) && (decide (lo ≤ hi) && (decide (hi ≤ 4) && VafmsBase.okPieces r))) = true := ho
    simp only [Bool.and_eq_true, decide_eq_true_eq] at q
    have := words_bytes q.2.2.2
    have := digits_len_le (n := lo) (k := 1) (by decide) (by omega)
    have := digits_len_le (n := hi) (k := 1) (by decide) (by omega)
    have := kw_len 2
    simp only [fmtWords, blanked_len_cons, Fmt.size]
    omega
  | .alt a b r, ho => by
    have q : (VafmsBase.okPieces a && (VafmsBase.okPieces b && VafmsBase.okPieces r)) = true := ho
    simp only [Bool.and_eq_true] at q
    have := words_bytes q.1
    have := words_bytes q.2.1
    have := words_bytes q.2.2
    have := kw_len 3
    simp only [fmtWords, blanked_len_cons, blanked_len_app, List.length_cons, List.length_nil, Fmt.size]
    omega
  | .opt a r, ho => by
    have q : (VafmsBase.okPieces a && VafmsBase.okPieces r) = true := ho
    simp only [Bool.and_eq_true] at q
    have := words_bytes q.1
    have := words_bytes q.2
    have := kw_len 4
    simp only [fmtWords, blanked_len_cons, blanked_len_app, List.length_cons, List.length_nil, Fmt.size]
    omega
  | .rep s lo hi a r, ho => by
    have q : ((decide (s.length ≤ 8) && s.all VafmsBase.okByte) && (decide (lo ≤ hi) && (decide (hi ≤ 4) && (!a.hasRep && (VafmsBase.okPieces a && VafmsBase.okPieces r))))) = true := ho
    simp only [Bool.and_eq_true, decide_eq_true_eq] at q
    have := words_bytes q.2.2.2.2.1
    have := words_bytes q.2.2.2.2.2
    have := strText_len s
    have := digits_len_le (n := lo) (k := 1) (by decide) (by omega)
    have := digits_len_le (n := hi) (k := 1) (by decide) (by omega)
    have := kw_len 5
    simp only [fmtWords, blanked_len_cons, blanked_len_app, List.length_cons, List.length_nil, Fmt.size]
    omega
section
variable {P : Program} {w : World} {K : PySem.W.Frag} {mg : Str → Option Value} {base : Heap} {c : Cs}
def spRowW (c : Cs) (d : Nat) : Sp := fun vs H Q _ => ∃ (a : Addr) (f : Fmt), vs = [.ref a] ∧ RowAt c H a f ∧ depth f < d ∧ f.size ≤ 1000 ∧ VafmsBase.okPieces f = true ∧ NewT H (rowWords f) Q
def spPceW (c : Cs) (d : Nat) : Sp := fun vs H Q _ => ∃ (v : V) (p : Pce), vs = [v] ∧ PceAt c H v p ∧ (∀ g ∈ p.rows, depth g < d ∧ g.size ≤ 1000 ∧ VafmsBase.okPieces g = true) ∧ p.rows.length ≤ 2 ∧ p.kind ≤ 5 ∧ p.text.length ≤ 8 ∧ p.lo ≤ 4 ∧ p.hi ≤ 4 ∧ (pceWords p).length ≤ 50000 ∧ NewT H (pceWords p) Q
theorem sc_row_words : FnScope ["row", "words", "piece"] ["row"] (defScope (topS 50)) := ⟨rfl, rfl, rfl, by decide +kernel, rfl, by decide +kernel, by decide +kernel⟩
theorem sc_piece_words : FnScope ["piece", "words", "row"] ["piece"] (defScope (topS 51)) := ⟨rfl, rfl, rfl, by decide +kernel, rfl, by decide +kernel, by decide +kernel⟩
mutual
theorem d_row_words (T : Top K mg c) : ∀ d, DefOk P w K mg base CX0 (d + d + 1) "row_words" (spRowW c d)
  | 0 => T.a_row_words.never.imp fun vs H Q E h => by
    obtain ⟨a, f, _, _, hd, _⟩ := h
    omega
  | d + 1 => DefOk.mono (k := d + d + 1 + 1 + 1) (j := d + 1 + (d + 1) + 1) (h := by omega) <| T.a_row_words.ok fun f fd F => by
    have D := d_piece_words T d
    refine F.ok sc_row_words (fun vs H Q E h => ?_) (fun cdv A outer s H vs Q E hr h => ⟨_, (pss_cons (ps_set (i := 1) sc_row_words.nd rfl (.inl rfl) (pe_lst (pa_cons (pcall (d_spelled T) (hr.mono (by omega)) pass0 (pa_cons pe_str pa_nil)) pa_nil)))
 (pss_cons (ps_for PassesOwn.never rfl (pi_list (pv 0)) (pg_name (i := 2) sc_row_words.nd rfl (.inl rfl))
 (pss_one (ps_expr (pe_bm PySem.F.plainAttrs_list PySem.F.slot_list_extend PySem.F.type_list_extend mt_extend (pv 1) (pa_cons (pcall D (hr.mono (by omega)) pass0 (pa_cons (pv 2) pa_nil)) pa_nil)))))
 (pss_cons (ps_expr (pe_bm PySem.F.plainAttrs_list PySem.F.slot_list_append PySem.F.type_list_append mt_append (pv 1) (pa_cons (pcall (d_spelled T) (hr.mono (by omega)) pass0 (pa_cons pe_str pa_nil)) pa_nil)))
 (pss_one (ps_ret (pv 1)))))), ?_⟩)
    · obtain ⟨p, _, rfl, _⟩ := h
      rfl
    · obtain ⟨a, f, rfl, ⟨vs, ha, hp⟩, hd, hz, hok, q⟩ := h
      have W := hp.view
      have hlen := paired_map W
      have hwl := words_len f
      rw [words_pces] at hwl
      walk_at "r0"
      walk_at "sq"
      refine ⟨_, rfl, by decide +kernel, fun b H0 hb s0 hbl => ⟨by show 1 ≤ sizeLine; decide, fun D hD0 => ?_⟩⟩
      have hD : H D = none := s0.free hD0
      have sD : Same H (upd H0 D (.lst [.ref b])) := Same.trans s0 (Same.add hD0)
      refine seq_go ?_
      refine t_for (a := a) (xs := vs) (fun i σ H' => Same H H' ∧ (∃ us, H' D = some (.lst us) ∧ TxtsNew H (hideA D H') us ([123] :: ((pces f).take i).flatMap pceWords)) ∧ ∃ v, σ = [some (.ref a), some (.ref D), v]) (gv_var rfl) (SqL.of (sD _ _ ha)) ⟨sD, ⟨_, upd_same, .cons ⟨b, rfl, hb, ?_⟩ .nil⟩, _, rfl⟩ (fun i σ H' h => SqL.of (h.1 _ _ ha)) ?_ ?_
      · have hbD : b ≠ D := ne_of_none hbl hD0
        rw [hideA_ne hbD, upd_ne hbD, hbl]
        rfl
      · rintro i x σ H1 N hi ⟨s1, ⟨us, hD1, hus⟩, v, rfl⟩ hN
        obtain ⟨p, hpi, hpa⟩ := Paired.at W hi
        have hpm := mem_of_at hpi
        have hk := ok_pces hok p hpm
        have hpl := flatMap_item_len pceWords hpm
        have htl := flatMap_take_len pceWords (pces f) i
        have hul := paired_map hus
        rw [List.length_cons] at hul
        walk_at "rd"
        refine ⟨_, rfl, .inl ⟨rfl, _, SqL.of hD1⟩, _, rfl, x, p, rfl, hpa.same s1, fun g hg => ⟨depth_rows hd p hpm g hg, Nat.le_trans (row_size_le hpm hg) hz, hk.2.2.2.2.2 g hg⟩, rows_len_le hpm, hk.1, hk.2.2.2.1, hk.2.1, hk.2.2.1, by omega, fun b2 ws H2 hb2 s2 hbl2 hws => ?_⟩
        have hwl2 := paired_map hws
        refine ⟨D, b2, _, _, rfl, rfl, s2 _ _ hD1, hbl2, sz (by omega), hN _ _ ⟨Same.chg (Same.trans s1 s2) hD, ⟨_, upd_same, ?_⟩, _, rfl⟩⟩
        rw [flatMap_more _ hpi, ← List.cons_append]
        exact paired_app (TxtsNew.same hus (hideA_upd s2)) (TxtsNew.over hws s1 hD1)
      · rintro σ H1 ⟨s1, ⟨us, hD1, hus⟩, v, rfl⟩
        rw [hlen, List.take_length, ← words_pces] at hus
        have hul := paired_map hus
        rw [List.length_cons] at hul
        have hwl := words_len f
        walk_at "sq"
        refine ⟨_, rfl, .inl ⟨rfl, _, SqL.of hD1⟩, _, rfl, by decide +kernel, fun b2 H2 hb2 s2 hbl2 => ?_⟩
        refine ⟨D, _, _, rfl, rfl, s2 _ _ hD1, szl (by omega), ?_⟩
        refine ⟨_, rfl, q D _ _ hD (Same.chg (Same.trans s1 s2) hD) upd_same ?_⟩
        have e : rowWords f = ([123] :: fmtWords f) ++ [[125]] := rfl
        rw [e]
        exact paired_app (TxtsNew.same hus (hideA_upd s2)) (.cons (TxtNew.over hb2 hbl2 s1 hD1) .nil)
theorem d_piece_words (T : Top K mg c) : ∀ d, DefOk P w K mg base CX0 (d + d + 1 + 1) "piece_words" (spPceW c d) := fun d => T.a_piece_words.ok fun f fd F => by
  have D := d_row_words T d
  refine F.ok sc_piece_words (fun vs H Q E h => ?_) (fun cdv A outer s H vs Q E hr h => ⟨_, (pss_cons (ps_set (i := 1) sc_piece_words.nd rfl (.inl rfl) (pe_lst pa_nil))
 (pss_cons (ps_if (pt_cmpR op_ne (pe_fld (pv 0) rfl) (pe_num T.n_LITERAL) (nomark _))
 (pss_one (ps_expr (pe_bm PySem.F.plainAttrs_list PySem.F.slot_list_append PySem.F.type_list_append mt_append (pv 1) (pa_cons (pcall (d_spelled T) (hr.mono (by omega)) pass0 (pa_cons (pe_ix ix_tup (pe_tab T.n_KIND_WORDS) (pe_fld (pv 0) rfl) (fun _ _ => rfl)) pa_nil)) pa_nil))))
 pss_nil)
 (pss_cons (ps_if (pt_val (pcall (d_has_text T) (hr.mono (by omega)) pass0 (pa_cons (pe_fld (pv 0) rfl) pa_nil)))
 (pss_one (ps_expr (pe_bm PySem.F.plainAttrs_list PySem.F.slot_list_append PySem.F.type_list_append mt_append (pv 1) (pa_cons (pcall (d_quoted T) (hr.mono (by omega)) pass0 (pa_cons (pe_fld (pv 0) rfl) pa_nil)) pa_nil))))
 pss_nil)
 (pss_cons (ps_if (pt_val (pcall (d_has_bounds T) (hr.mono (by omega)) pass0 (pa_cons (pe_fld (pv 0) rfl) pa_nil)))
 (pss_cons (ps_expr (pe_bm PySem.F.plainAttrs_list PySem.F.slot_list_append PySem.F.type_list_append mt_append (pv 1) (pa_cons (pcall (d_spelled T) (hr.mono (by omega)) pass0 (pa_cons (pe_callTy call_str_int (by rfl) T.b_str (by decide +kernel) (pa_cons (pe_fld (pv 0) rfl) pa_nil)) pa_nil)) pa_nil)))
 (pss_one (ps_expr (pe_bm PySem.F.plainAttrs_list PySem.F.slot_list_append PySem.F.type_list_append mt_append (pv 1) (pa_cons (pcall (d_spelled T) (hr.mono (by omega)) pass0 (pa_cons (pe_callTy call_str_int (by rfl) T.b_str (by decide +kernel) (pa_cons (pe_fld (pv 0) rfl) pa_nil)) pa_nil)) pa_nil)))))
 pss_nil)
 (pss_cons (ps_for PassesOwn.never rfl (pi_list (pe_fld (pv 0) rfl)) (pg_name (i := 2) sc_piece_words.nd rfl (.inl rfl))
 (pss_one (ps_expr (pe_bm PySem.F.plainAttrs_list PySem.F.slot_list_extend PySem.F.type_list_extend mt_extend (pv 1) (pa_cons (pcall D (hr.mono (by omega)) pass0 (pa_cons (pv 2) pa_nil)) pa_nil)))))
 (pss_one (ps_ret (pv 1)))))))), ?_⟩)
  · obtain ⟨p, _, rfl, _⟩ := h
    rfl
  · obtain ⟨v, p, rfl, ⟨rs, ⟨pa, dx, ta, ra, rfl, hP, hT, hR⟩, hrows⟩, hg, hl, hk5, htx, hlo, hhi, hwl, q⟩ := h
    have hrl := paired_map hrows
    have c1 := T.c_Piece.cl
    have nk := T.c_Piece.na "kind" (by simp)
    obtain ⟨w1, ew1⟩ : ∃ w1, w1 = (if p.kind = 0 then ([] : List (List Nat)) else [kw p.kind]) := ⟨_, rfl⟩
    obtain ⟨w2, ew2⟩ : ∃ w2, w2 = (if hasText p.kind then [Vafmsa.strText p.text] else []) := ⟨_, rfl⟩
    obtain ⟨w3, ew3⟩ : ∃ w3, w3 = (if hasBounds p.kind then [VafmsBase.digitsOf p.lo, VafmsBase.digitsOf p.hi] else []) := ⟨_, rfl⟩
    have ew : pceWords p = w1 ++ (w2 ++ (w3 ++ p.rows.flatMap rowWords)) := by rw [ew1, ew2, ew3]; rfl
    rw [ew] at q hwl
    have l1 : w1.length ≤ 1 := by rw [ew1]; split <;> simp
    have l2 : w2.length ≤ 1 := by rw [ew2]; split <;> simp
    have l3 : w3.length ≤ 2 := by rw [ew3]; split <;> simp
    walk_at "r0"
    walk_at "sq"
    refine ⟨Nat.zero_le _, fun D hD => ?_⟩
    -- the kind's word
    refine seq_by (fun σ' H' => Same H H' ∧ (∃ us, H' D = some (.lst us) ∧ TxtsNew H (hideA D H') us w1) ∧ σ' = [some (.ref pa), some (.ref D), none]) ?_ ?_
    rotate_left
    · intro N hN
      walk_at "rd"
      have s0 : Same H (upd H D (.lst [])) := Same.add hD
      refine ⟨_, rfl, pa, c.Piece, dx, _, _, rfl, s0 _ _ hP, c1, nk, pcF_kind, rfl, _, rfl, ?_⟩
      by_cases h0 : p.kind = 0
      · rw [if_neg (by rw [h0]; simp)]
        exact hN _ _ ⟨s0, ⟨[], upd_same, by rw [ew1, if_pos h0]; exact .nil⟩, rfl⟩
      · rw [if_pos (by
          rw [decide_eq_false (fun e => h0 (by injection e; omega))]
          rfl)]
        walk_at "rd"
        have hz : ∃ z : Str, ([.str "", .str "num", .str "word", .str "alt", .str "opt", .str "rep"] : List V)[p.kind]? = some (.str z) ∧ z.cps.size ≤ 1000 ∧ z.cps.toList = kw p.kind := by
          have : p.kind = 1 ∨ p.kind = 2 ∨ p.kind = 3 ∨ p.kind = 4 ∨ p.kind = 5 := by omega
          rcases this with e | e | e | e | e <;> rw [e] <;> exact ⟨_, rfl, by decide +kernel, by decide +kernel⟩
        obtain ⟨z, hz1, hz2, hz3⟩ := hz
        refine ⟨_, rfl, .inl ⟨rfl, _, SqL.of upd_same⟩, _, rfl, pa, c.Piece, dx, _, _, rfl, s0 _ _ hP, c1, nk, pcF_kind, c.KIND_WORDS, _, _, _, rfl, rfl, T.n_KIND_WORDS.sq _, atI_nat hz1, z, rfl, hz2, fun b H2 hb s2 hbl => ?_⟩
        refine ⟨D, _, _, rfl, rfl, s2 _ _ upd_same, szl (by decide), hN _ _ ⟨Same.chg (Same.trans s0 s2) hD, ⟨_, upd_same, ?_⟩, rfl⟩⟩
        rw [ew1, if_neg h0, ← hz3]
        exact .cons (TxtNew.over hb hbl s0 upd_same) .nil
    rintro _ H1 ⟨s1, ⟨u1, hD1, hu1⟩, rfl⟩
    have ul1 := paired_map hu1
    -- the text
    refine seq_by (fun σ' H' => Same H H' ∧ (∃ us, H' D = some (.lst us) ∧ TxtsNew H (hideA D H') us (w1 ++ w2)) ∧ σ' = [some (.ref pa), some (.ref D), none]) ?_ ?_
    rotate_left
    · intro N hN
      walk_at "rd"
      refine ⟨_, rfl, pa, c.Piece, dx, _, _, rfl, s1 _ _ hP, c1, nk, pcF_kind, p.kind, rfl, fun H2 s2 => ⟨_, rfl, ?_⟩⟩
      have sD := Same.trans s1 s2
      have hD2 := s2 _ _ hD1
      have hu2 := TxtsNew.same hu1 (H' := hideA D H2) (fun b o e => by
        unfold hideA at e ⊢
        split at e
        · cases e
        · rename_i hne
          rw [if_neg hne]
          exact s2 _ _ e)
      cases ht : hasText p.kind with
      | false =>
        rw [if_neg Bool.false_ne_true]
        have e2 : w2 = [] := by rw [ew2, ht]; rfl
        exact hN _ _ ⟨sD, ⟨_, hD2, by rw [e2, List.append_nil]; exact hu2⟩, rfl⟩
      | true =>
        rw [if_pos rfl]
        walk_at "rd"
        have e2 : w2 = [Vafmsa.strText p.text] := by rw [ew2, ht]; rfl
        refine ⟨_, rfl, .inl ⟨rfl, _, SqL.of hD2⟩, _, rfl, pa, c.Piece, dx, _, _, rfl, sD _ _ hP, c1, T.c_Piece.na _ (by simp), pcF_text, ta, p.text, rfl, sD _ _ hT, by omega, fun b H3 hb s3 hbl => ?_⟩
        refine ⟨D, _, _, rfl, rfl, s3 _ _ hD2, szl (by omega), hN _ _ ⟨Same.chg (Same.trans sD s3) hD, ⟨_, upd_same, ?_⟩, rfl⟩⟩
        rw [e2]
        exact paired_app (TxtsNew.same hu2 (hideA_upd s3)) (.cons (TxtNew.over hb hbl sD hD2) .nil)
    rintro _ H2 ⟨s2, ⟨u2, hD2, hu2⟩, rfl⟩
    have ul2 := paired_map hu2
    rw [List.length_append] at ul2
    -- the bounds
    refine seq_by (fun σ' H' => Same H H' ∧ (∃ us, H' D = some (.lst us) ∧ TxtsNew H (hideA D H') us ((w1 ++ w2) ++ w3)) ∧ σ' = [some (.ref pa), some (.ref D), none]) ?_ ?_
    rotate_left
    · intro N hN
      walk_at "rd"
      refine ⟨_, rfl, pa, c.Piece, dx, _, _, rfl, s2 _ _ hP, c1, nk, pcF_kind, p.kind, rfl, fun H3 s3 => ⟨_, rfl, ?_⟩⟩
      have sD := Same.trans s2 s3
      have hD3 := s3 _ _ hD2
      have hu3 := TxtsNew.same hu2 (H' := hideA D H3) (fun b o e => by
        unfold hideA at e ⊢
        split at e
        · cases e
        · rename_i hne
          rw [if_neg hne]
          exact s3 _ _ e)
      cases ht : hasBounds p.kind with
      | false =>
        rw [if_neg Bool.false_ne_true]
        have e3 : w3 = [] := by rw [ew3, ht]; rfl
        exact hN _ _ ⟨sD, ⟨_, hD3, by rw [e3, List.append_nil]; exact hu3⟩, rfl⟩
      | true =>
        rw [if_pos rfl]
        have e3 : w3 = [VafmsBase.digitsOf p.lo] ++ [VafmsBase.digitsOf p.hi] := by rw [ew3, ht]; rfl
        have small : ∀ n : Nat, n ≤ 4 → (n : Int).natAbs.log2 < 1920 ∧ (Str.ofString (toString (n : Int))).cps.size ≤ 1000 := fun n hn => by
          have h2 := congrArg List.length (PySem.W.KIN.signs_num n)
          rw [Array.length_toList] at h2
          have h3 := digits_len_le (n := n) (k := 1) (by decide) (by omega)
          unfold VafmsBase.digitsOf at h3
          refine ⟨?_, by rw [h2]; rw [List.length_map] at h3 ⊢; omega⟩
          have : n = 0 ∨ n = 1 ∨ n = 2 ∨ n = 3 ∨ n = 4 := by omega
          rcases this with e | e | e | e | e <;> rw [e] <;> decide
        walk_at "sq"
        refine ⟨_, rfl, .inl ⟨rfl, _, SqL.of hD3⟩, _, rfl, pa, c.Piece, dx, _, _, rfl, sD _ _ hP, c1, T.c_Piece.na _ (by simp), pcF_lo, _, rfl, (small _ hlo).1, _, rfl, (small _ hlo).2, fun b H4 hb s4 hbl => ?_⟩
        have sD4 := Same.trans sD s4
        have hD4 := s4 _ _ hD3
        refine ⟨D, _, _, rfl, rfl, hD4, szl (by omega), ?_⟩
        have sD5 := Same.chg (o := .lst (u2 ++ [.ref b])) sD4 hD
        refine ⟨_, rfl, .inl ⟨rfl, _, SqL.of upd_same⟩, _, rfl, pa, c.Piece, dx, _, _, rfl, sD5 _ _ hP, c1, T.c_Piece.na _ (by simp), pcF_hi, _, rfl, (small _ hhi).1, _, rfl, (small _ hhi).2, fun b2 H6 hb2 s6 hbl2 => ?_⟩
        refine ⟨D, _, _, rfl, rfl, s6 _ _ upd_same, szl (by rw [List.length_append, List.length_singleton]; omega), hN _ _ ⟨Same.chg (Same.trans sD5 s6) hD, ⟨_, upd_same, ?_⟩, rfl⟩⟩
        rw [e3, ← List.append_assoc]
        have el : H4 b = some (.lst (nvs (VafmsBase.digitsOf p.lo))) := by
          rw [hbl, PySem.W.KIN.signs_num]
          rfl
        have eh : H6 b2 = some (.lst (nvs (VafmsBase.digitsOf p.hi))) := by
          rw [hbl2, PySem.W.KIN.signs_num]
          rfl
        have a1 : TxtsNew H (hideA D (upd H4 D (.lst (u2 ++ [.ref b])))) (u2 ++ [.ref b]) ((w1 ++ w2) ++ [VafmsBase.digitsOf p.lo]) := paired_app (TxtsNew.same hu3 (hideA_upd s4)) (.cons (TxtNew.over hb el sD hD3) .nil)
        exact paired_app (TxtsNew.same a1 (hideA_upd s6)) (.cons (TxtNew.over hb2 eh sD5 upd_same) .nil)
    rintro _ H3 ⟨s3, ⟨u3, hD3, hu3⟩, rfl⟩
    -- the rows
    refine seq_go ?_
    refine t_for (a := ra) (xs := rs.map V.ref) (fun i σ H' => Same H H' ∧ (∃ us, H' D = some (.lst us) ∧ TxtsNew H (hideA D H') us (((w1 ++ w2) ++ w3) ++ (p.rows.take i).flatMap rowWords)) ∧ ∃ v, σ = [some (.ref pa), some (.ref D), v]) (gv_fld (gv_var rfl) (s3 _ _ hP) c1 (T.c_Piece.na _ (by simp)) pcF_rows) (SqL.of (s3 _ _ hR)) ⟨s3, ⟨_, hD3, by simpa using hu3⟩, _, rfl⟩ (fun i σ H' h => SqL.of (h.1 _ _ hR)) ?_ ?_
    · rintro i x σ H4 N hi ⟨s4, ⟨us, hD4, hus⟩, v, rfl⟩ hN
      rw [List.getElem?_map] at hi
      cases hrn : rs[i]? with
      | none => rw [hrn] at hi; cases hi
      | some r =>
        rw [hrn] at hi
        obtain rfl : V.ref r = x := Option.some.inj hi
        obtain ⟨g, hgn, hgr⟩ := Paired.at hrows hrn
        have hgm := mem_of_at hgn
        obtain ⟨g1, g2, g3⟩ := hg g hgm
        have hil := flatMap_item_len rowWords hgm
        have htl := flatMap_take_len rowWords p.rows i
        have hul := paired_map hus
        rw [List.length_append, List.length_append, List.length_append] at hul hwl
        walk_at "rd"
        refine ⟨_, rfl, .inl ⟨rfl, _, SqL.of hD4⟩, _, rfl, r, g, rfl, hgr.same s4, g1, g2, g3, fun b ws H5 hb s5 hbl hws => ?_⟩
        have hwsl := paired_map hws
        refine ⟨D, b, _, _, rfl, rfl, s5 _ _ hD4, hbl, sz (by omega), hN _ _ ⟨Same.chg (Same.trans s4 s5) hD, ⟨_, upd_same, ?_⟩, _, rfl⟩⟩
        rw [flatMap_more _ hgn, ← List.append_assoc]
        exact paired_app (TxtsNew.same hus (hideA_upd s5)) (TxtsNew.over hws s4 hD4)
    · rintro σ H4 ⟨s4, ⟨us, hD4, hus⟩, v, rfl⟩
      rw [List.length_map, hrl, List.take_length] at hus
      refine ⟨_, rfl, q D us H4 hD s4 hD4 ?_⟩
      simpa using hus
end
end
end FX
end
section
set_option Elab.async false
set_option linter.all false
set_option maxRecDepth 100000
set_option maxHeartbeats 4000000
namespace FX
open PySem PySem.Spec PyProof.Rows L2 FT
open VafmsBase (Fmt)
local macro_rules | `(tactic| walk_at "rd") => `(tactic| try dsimp only [tAug, tOp, tC, tCB, tCons, tNil, gName, tVar, tAsg, tRet, tIfS, tTest, tB, tNext, tDrop, tFld, tCKw, tCall, rI0, rI, CMul, rEq, rNe, tBM, rAppend, rExtend, rCat, rIn, rIxT, tLst, tTup, pad, List.set, List.getElem?_cons_zero, List.getElem?_cons_succ, cxOf, List.map_cons, List.map_nil, List.append_nil, List.cons_append, List.nil_append])
local macro_rules | `(tactic| walk_at "sq") => `(tactic| (refine seq_go ?_; walk_at "rd"))
local macro_rules | `(tactic| walk_at "r0") => `(tactic| (rw [start_pad (by rfl)]; walk_at "rd"))
theorem value_len {v : List Nat} (hv : ∀ n ∈ v, n ≤ 9999) : (blanked (v.map VafmsBase.digitsOf)).length ≤ 5 * v.length := by
  induction v with
  | nil => exact Nat.le_refl _
  | cons a v ih =>
    have h1 := ih fun n hn => hv n (List.mem_cons_of_mem _ hn)
    have h2 := digits_len_le (n := a) (k := 4) (by decide) (by have := hv a (List.mem_cons_self ..); omega)
    rw [List.map_cons, blanked_len_cons, List.length_cons]
    omega
theorem num_small (n : Nat) (hn : n ≤ 9999) : (n : Int).natAbs.log2 < 1920 ∧ (Str.ofString (toString (n : Int))).cps.size ≤ 1000 := by
  have h2 := congrArg List.length (PySem.W.KIN.signs_num n)
  rw [Array.length_toList] at h2
  have h3 := digits_len_le (n := n) (k := 4) (by decide) (by omega)
  unfold VafmsBase.digitsOf at h3
  refine ⟨?_, by rw [h2]; rw [List.length_map] at h3 ⊢; omega⟩
  have e : (n : Int).natAbs = n := rfl
  rw [e]
  by_cases h : n = 0
  · rw [h]; decide
  · have := (Nat.log2_lt h (k := 14)).mpr (by omega)
    omega
section
variable {P : Program} {w : World} {K : PySem.W.Frag} {mg : Str → Option Value} {base : Heap} {c : Cs}
def spValueLine : Sp := fun vs H Q _ => ∃ (a : Addr) (v : List Nat), vs = [.ref a] ∧ H a = some (.lst (nvs v)) ∧ (∀ n ∈ v, n ≤ 9999) ∧ v.length ≤ 1000 ∧ NewL H (nvs (Vafmsa.valueText v)) Q
theorem sc_value_line : FnScope ["numbers", "numerals", "number"] ["numbers"] (defScope (topS 49)) := ⟨rfl, rfl, rfl, by decide +kernel, rfl, by decide +kernel, by decide +kernel⟩
theorem d_value_line (T : Top K mg c) : DefOk P w K mg base CX0 2 "value_line" spValueLine := T.a_value_line.ok fun f fd F => by
  refine F.ok sc_value_line (fun vs H Q E h => ?_) (fun cdv A outer s H vs Q E hr h => ⟨_, (pss_cons (ps_setLc (i := 1) (own := [("number", 2)]) (g := gName 2) (tt := tYes) (by rfl) sc_value_line.nd rfl rfl (sw_true rfl rfl rfl (by decide +kernel)) (pi_list (pv 0)) (blkOk_by (own := [("number", 2)]) (N := ["numbers", "numerals", "number"]) (sc := defScope (topS 49)) (by decide +kernel)) (fun _ _ _ _ _ => pg_name (i := 2) sc_value_line.nd rfl (Or.inl rfl)) (fun _ _ _ _ _ => pts_nil) (fun _ _ _ _ _ => (pcall (d_spelled T) (hr.mono (by omega)) pass0 (pa_cons (pe_callTy call_str_int (by rfl) T.b_str (by decide +kernel) (pa_cons (pv 2) pa_nil)) pa_nil))))
 (pss_one (ps_ret (pcall (d_line_of T) (hr.mono (by omega)) pass0 (pa_cons (pe_op op_cat (pe_op op_cat (pe_lst (pa_cons (pcall (d_spelled T) (hr.mono (by omega)) pass0 (pa_cons pe_str pa_nil)) (pa_cons (pcall (d_spelled T) (hr.mono (by omega)) pass0 (pa_cons pe_str pa_nil)) pa_nil))) (pv 1)) (pe_lst (pa_cons (pcall (d_spelled T) (hr.mono (by omega)) pass0 (pa_cons pe_str pa_nil)) pa_nil))) pa_nil))))), ?_⟩)
  · obtain ⟨p, _, rfl, _⟩ := h
    rfl
  · obtain ⟨a, v, rfl, ha, hv, hl, q⟩ := h
    walk_at "r0"
    walk_at "sq"
    refine t_lc_R (a := a) (xs := nvs v) (gv_var rfl) (fun i y H' => ∃ n, v[i]? = some n ∧ TxtAt H' y (VafmsBase.digitsOf n)) (SqL.of ha) (by rw [nvs_length]; omega) (fun i y H1 H2 h s => by
      obtain ⟨n, e, x⟩ := h
      exact ⟨n, e, x.same s⟩) (fun x => rfl) (fun D i x H1 hD hDs hi s1 Q' q' => ?_) fun D ys H1 hD s1 hDl hyl hR => ?_
    · unfold nvs at hi
      rw [List.getElem?_map] at hi
      cases hvi : v[i]? with
      | none => rw [hvi] at hi; cases hi
      | some n =>
        rw [hvi] at hi
        obtain rfl : V.int (Int.ofNat n) = x := Option.some.inj hi
        have hs := num_small n (hv n (mem_of_at hvi))
        refine ⟨_, rfl, _, rfl, hs.1, _, rfl, hs.2, fun b H2 hb s2 hbl => q' _ _ s2 ⟨n, hvi, b, rfl, ?_⟩⟩
        rw [hideA_ne (by
          intro e
          rw [← e, hb] at hDs
          cases hDs), hbl]
        have e := PySem.W.KIN.signs_num n
        exact congrArg (fun l => some (HO.lst (nvs l))) e
    · have hys : TxtsAt H1 ys (v.map VafmsBase.digitsOf) := by
        have gen : ∀ (ys : List V) (v : List Nat), ys.length = v.length → (∀ i y, ys[i]? = some y → ∃ n, v[i]? = some n ∧ TxtAt H1 y (VafmsBase.digitsOf n)) → TxtsAt H1 ys (v.map VafmsBase.digitsOf) := fun ys => by
          induction ys with
          | nil => intro v e _; cases v with | nil => exact .nil | cons => cases e
          | cons y ys ih =>
            intro v e h
            cases v with
            | nil => cases e
            | cons n v =>
              obtain ⟨m, h1, h2⟩ := h 0 y rfl
              obtain rfl : n = m := Option.some.inj h1
              exact .cons h2 (ih v (Nat.succ.inj e) fun i z hz => h (i + 1) z hz)
        exact gen ys v (by rw [hyl, nvs_length]) hR
      refine ⟨_, rfl, by decide +kernel, fun b1 H2 hb1 s2 hbl1 => ?_⟩
      refine ⟨_, rfl, by decide +kernel, fun b2 H3 hb2 s3 hbl2 => ?_⟩
      refine ⟨by show 2 ≤ sizeLine; decide, fun p4 hp4 => ?_⟩
      have s14 : Same H1 (upd H3 p4 (.lst [.ref b1, .ref b2])) := Same.trans (Same.trans s2 s3) (Same.add hp4)
      refine ⟨_, rfl, p4, D, _, _, rfl, rfl, upd_same, s14 _ _ hDl, sz (by rw [hyl, nvs_length]; show 2 + _ ≤ _; omega), fun p5 hp5 => ?_⟩
      have s15 := Same.trans s14 (Same.add (o := .lst ([.ref b1, .ref b2] ++ ys)) hp5)
      refine ⟨_, rfl, by decide +kernel, fun b6 H6 hb6 s6 hbl6 => ?_⟩
      refine ⟨by show 1 ≤ sizeLine; decide, fun p7 hp7 => ?_⟩
      have s67 : Same H6 (upd H6 p7 (.lst [.ref b6])) := Same.add hp7
      refine ⟨p5, p7, _, _, rfl, rfl, s67 _ _ (s6 _ _ upd_same), upd_same, sz (by rw [List.length_append, hyl, nvs_length]; show 2 + v.length + 1 ≤ _; omega), fun p8 hp8 => ?_⟩
      have s78 := Same.add (o := .lst ([.ref b1, .ref b2] ++ ys ++ [.ref b6])) hp8
      have sAll := Same.trans s15 (Same.trans s6 (Same.trans s67 s78))
      have et : lineOf ([tValue, [40]] ++ v.map VafmsBase.digitsOf ++ [[41, 59]]) = Vafmsa.valueText v := by
        rw [value_line]
        rfl
      have hvl := value_len hv
      have hll : (lineOf ([tValue, [40]] ++ v.map VafmsBase.digitsOf ++ [[41, 59]])).length ≤ 50000 := by
        rw [List.append_assoc, List.cons_append, lineOf_cons _ (by unfold tValue; simp), List.length_append, List.length_append, List.cons_append, List.nil_append, blanked_len_cons, blanked_len_app]
        show 5 + ((1 + 1 + (_ + 3)) + 1) ≤ 50000
        omega
      refine ⟨p8, _, [tValue, [40]] ++ v.map VafmsBase.digitsOf ++ [[41, 59]], rfl, upd_same, ?_, hll, by simp; omega, fun p9 H9 hp9 s9 hl9 => ?_⟩
      · refine paired_app (paired_app (.cons ⟨b1, rfl, ?_⟩ (.cons ⟨b2, rfl, ?_⟩ .nil)) (TxtsAt.same hys sAll)) (.cons ⟨b6, rfl, ?_⟩ .nil)
        · have := Same.trans s3 (Same.trans (Same.add hp4) (Same.trans (Same.add (o := .lst ([.ref b1, .ref b2] ++ ys)) hp5) (Same.trans s6 (Same.trans s67 s78))))
          exact this _ _ hbl1
        · have := Same.trans (Same.add hp4) (Same.trans (Same.add (o := .lst ([.ref b1, .ref b2] ++ ys)) hp5) (Same.trans s6 (Same.trans s67 s78)))
          exact this _ _ hbl2
        · exact s78 _ _ (s67 _ _ hbl6)
      · refine q p9 H9 ?_ (Same.trans s1 (Same.trans sAll s9)) (by rw [hl9, et])
        exact s1.free (sAll.free hp9)

/-- what fits a value -/
def ValOk (v : List Nat) : Prop := v.length ≤ 60 ∧ ∀ n ∈ v, n ≤ 9999
theorem valueText_len {v : List Nat} (h : ValOk v) : (Vafmsa.valueText v).length ≤ 400 := by
  have hvl := value_len h.2
  have := h.1
  rw [FT.value_line, lineOf_cons _ (by unfold tValue; simp), List.length_append, List.length_append, blanked_len_cons, blanked_len_app]
  show 5 + ((1 + 1 + (_ + 3)) + 1) ≤ 400
  omega
theorem formatText_len {f : Fmt} (h : VafmsBase.okPieces f = true) : (Vafmsa.formatText f).length ≤ 40 * f.size + 20 := by
  have := words_bytes h
  rw [format_line, lineOf_cons _ (by unfold tFormat; simp), List.length_append, List.length_append]
  unfold rowWords
  rw [blanked_len_cons, blanked_len_app]
  show 6 + ((1 + 1 + (_ + 2)) + 1) ≤ _
  omega
def spOneForm (c : Cs) (d : Nat) : Sp := fun vs H Q _ => ∃ (a b : Addr) (f : Fmt) (us : List V) (vals : List (List Nat)), vs = [.ref a, .ref b] ∧ RowAt c H a f ∧ depth f < d ∧ f.size ≤ 1000 ∧ VafmsBase.okPieces f = true ∧ H b = some (.lst us) ∧ TxtsAt H us vals ∧ vals.length ≤ 20 ∧ (∀ v ∈ vals, ValOk v) ∧ NewL H (nvs (Vafmsa.sourceText ⟨f, vals⟩)) Q
theorem sc_one_form : FnScope ["row", "listed", "text", "numbers"] ["row", "listed"] (defScope (topS 47)) := ⟨rfl, rfl, rfl, by decide +kernel, rfl, by decide +kernel, by decide +kernel⟩
theorem flatMap_const_len {α β : Type} {g : α → List β} {n : Nat} : ∀ {l : List α}, (∀ x ∈ l, (g x).length ≤ n) → (l.flatMap g).length ≤ n * l.length
  | [], _ => by simp
  | a :: l, h => by
    have h1 := flatMap_const_len (l := l) fun x hx => h x (List.mem_cons_of_mem _ hx)
    have h2 := h a (List.mem_cons_self ..)
    rw [List.flatMap_cons, List.length_append, List.length_cons, Nat.mul_add]
    omega
theorem d_one_form (T : Top K mg c) (d : Nat) : DefOk P w K mg base CX0 (d + d + 1 + 1 + 1) "one_form" (spOneForm c d) := T.a_one_form.ok fun f fd F => by
  refine F.ok sc_one_form (fun vs H Q E h => ?_) (fun cdv A outer s H vs Q E hr h => ⟨_, (pss_cons (ps_set (i := 2) sc_one_form.nd rfl (.inl rfl) (pcall (d_line_of T) (hr.mono (by omega)) pass0 (pa_cons (pe_op op_cat (pe_lst (pa_cons (pcall (d_spelled T) (hr.mono (by omega)) pass0 (pa_cons pe_str pa_nil)) pa_nil)) (pcall (d_row_words T d) (hr.mono (by omega)) pass0 (pa_cons (pv 0) pa_nil))) pa_nil)))
 (pss_cons (ps_for PassesOwn.never rfl (pi_list (pv 1)) (pg_name (i := 3) sc_one_form.nd rfl (.inl rfl))
 (pss_one (ps_expr (pe_bm PySem.F.plainAttrs_list PySem.F.slot_list_extend PySem.F.type_list_extend mt_extend (pv 2) (pa_cons (pcall (d_value_line T) (hr.mono (by omega)) pass0 (pa_cons (pv 3) pa_nil)) pa_nil)))))
 (pss_one (ps_ret (pv 2))))), ?_⟩)
  · obtain ⟨p, _, _, _, _, rfl, _⟩ := h
    rfl
  · obtain ⟨a, b, f, us, vals, rfl, hrow, hd, hz, hok, hb, hus, hvl, hvo, q⟩ := h
    have hlen := paired_map hus
    have hft := formatText_len hok
    have hwl := words_len f
    walk_at "r0"
    walk_at "sq"
    refine ⟨_, rfl, by decide +kernel, fun b1 H1 hb1 s1 hbl1 => ⟨by show 1 ≤ sizeLine; decide, fun p2 hp2 => ?_⟩⟩
    have s12 : Same H (upd H1 p2 (.lst [.ref b1])) := Same.trans s1 (Same.add hp2)
    refine ⟨_, rfl, a, f, rfl, hrow.same s12, hd, hz, hok, fun p3 ws H3 hp3 s3 hl3 hws => ?_⟩
    have hwsl := paired_map hws
    have hrwl : (rowWords f).length ≤ 6 * f.size + 2 := by
      unfold rowWords
      rw [List.length_cons, List.length_append, List.length_singleton]
      omega
    refine ⟨p2, p3, _, _, rfl, rfl, s3 _ _ upd_same, hl3, sz (by rw [hwsl]; show 1 + _ ≤ _; omega), fun p4 hp4 => ?_⟩
    have s34 := Same.add (o := .lst ([.ref b1] ++ ws)) hp4
    have et : lineOf ([tFormat] ++ rowWords f) = Vafmsa.formatText f := by
      rw [format_line]
      rfl
    refine ⟨p4, _, [tFormat] ++ rowWords f, rfl, upd_same, paired_app (.cons ⟨b1, rfl, ?_⟩ .nil) (TxtsAt.same (TxtsAt.same (TxtsNew.at_ hws) hideA_same) s34), by rw [et]; omega, by rw [List.length_append, List.length_singleton]; omega, fun D H5 hD5 s5 hl5 => ?_⟩
    · have := s34 _ _ (s3 _ _ (Same.add hp2 _ _ hbl1))
      exact this
    rw [et] at hl5
    have sAll : Same H H5 := Same.trans s12 (Same.trans s3 (Same.trans s34 s5))
    have hD : H D = none := s12.free (s3.free (s34.free hD5))
    refine seq_go ?_
    refine t_for (a := b) (xs := us) (fun i σ H' => Same H H' ∧ H' D = some (.lst (nvs (Vafmsa.formatText f ++ (vals.take i).flatMap Vafmsa.valueText))) ∧ ∃ v, σ = [some (.ref a), some (.ref b), some (.ref D), v]) (gv_var rfl) (SqL.of (sAll _ _ hb)) ⟨sAll, by rw [hl5]; simp, _, rfl⟩ (fun i σ H' h => SqL.of (h.1 _ _ hb)) ?_ ?_
    · rintro i x σ H6 N hi ⟨s6, hD6, v, rfl⟩ hN
      obtain ⟨t, hti, a2, rfl, ha2⟩ := Paired.at hus hi
      have htm := mem_of_at hti
      have hto := hvo t htm
      have htl := valueText_len hto
      have hpre := flatMap_take_len Vafmsa.valueText vals i
      have hall := flatMap_const_len (g := Vafmsa.valueText) (n := 400) (l := vals) fun x hx => valueText_len (hvo x hx)
      walk_at "rd"
      refine ⟨_, rfl, .inl ⟨rfl, _, SqL.of hD6⟩, _, rfl, a2, t, rfl, s6 _ _ ha2, hto.2, by have := hto.1; omega, fun b7 H7 hb7 s7 hl7 => ?_⟩
      refine ⟨D, b7, _, _, rfl, rfl, s7 _ _ hD6, hl7, sz (by rw [nvs_length, nvs_length, List.length_append]; omega), hN _ _ ⟨Same.chg (Same.trans s6 s7) hD, ?_, _, rfl⟩⟩
      rw [upd_same, flatMap_more _ hti, ← nvs_append, List.append_assoc]
    · rintro σ H6 ⟨s6, hD6, v, rfl⟩
      refine ⟨_, rfl, q D H6 hD s6 ?_⟩
      rw [hD6, hlen, List.take_length]
      rfl
end
end FX
end
section
set_option Elab.async false
set_option linter.all false
set_option maxRecDepth 100000
set_option maxHeartbeats 4000000
namespace FX
open PySem PySem.Spec PyProof.Rows L2 FT
open VafmsBase (Fmt)
local macro_rules | `(tactic| walk_at "rd") => `(tactic| try dsimp only [tAug, tOp, tC, tCB, tCons, tNil, gName, tVar, tAsg, tRet, tIfS, tTest, tB, tNext, tDrop, tFld, tCKw, tCall, tMeth, rI0, rI, CMul, rEq, rNe, rEqD, rNeD, tBM, rAppend, rExtend, rCat, rIn, rIxT, rIxL, tSl, rSlL, tPart, tNoPart, tChain, tUn, rU, tIf, tNot, tOr, tAnd, tMake, sFld, tLst, tTup, pad, List.set, List.getElem?_cons_zero, List.getElem?_cons_succ, cxOf, List.map_cons, List.map_nil, List.append_nil, List.cons_append, List.nil_append])
local macro_rules | `(tactic| walk_at "sq") => `(tactic| (refine seq_go ?_; walk_at "rd"))
local macro_rules | `(tactic| walk_at "r0") => `(tactic| (rw [start_pad (by rfl)]; walk_at "rd"))
local macro_rules | `(tactic| walk_at "lk") => `(tactic| first
  | exact lk_here
  | exact (lk_past (by decide +kernel)).trans lk_here
  | exact (lk_past (by decide +kernel)).trans ((lk_past (by decide +kernel)).trans lk_here)
  | exact (lk_past (by decide +kernel)).trans ((lk_past (by decide +kernel)).trans ((lk_past (by decide +kernel)).trans lk_here)))
section
variable {P : Program} {w : World} {K : PySem.W.Frag} {mg : Str → Option Value} {base : Heap} {c : Cs}
def clsOf (c : Cs) : Stp → Addr
  | .txt _ _ => c.TextStep
  | .num _ _ _ => c.NumberStep
  | .word _ _ _ => c.WordStep
  | .cho _ => c.ChoiceStep
def StpOk : Stp → Prop
  | .txt w _ => w.length ≤ 8
  | .num lo hi _ => 1 ≤ lo ∧ lo ≤ hi ∧ hi ≤ 4
  | .word lo hi _ => 1 ≤ lo ∧ lo ≤ hi ∧ hi ≤ 4
  | .cho ls => ls.length ≤ 10
/-- by_value of a step whose class stands at C -/
def spBV (c : Cs) (sel : Stp → Prop) : Sp := fun vs H Q _ => ∃ (Z : List Addr) (v : V) (a : Addr) (s : Stp) (u : List Nat), vs = [v, .ref a] ∧ (∀ z ∈ Z, H z ≠ none) ∧ sel s ∧ StepAt c (hideZ Z H) v s ∧ StpOk s ∧ H a = some (.lst (nvs u)) ∧ (∀ n ∈ u, n ≤ 9999) ∧ u.length ≤ 1000 ∧ GivesLd c Z H (s.byVal u) Q
def spBT (c : Cs) (sel : Stp → Prop) : Sp := fun vs H Q _ => ∃ (Z : List Addr) (v : V) (a : Addr) (s : Stp) (t : List Nat), vs = [v, .ref a] ∧ (∀ z ∈ Z, H z ≠ none) ∧ sel s ∧ StepAt c (hideZ Z H) v s ∧ StpOk s ∧ H a = some (.lst (nvs t)) ∧ t.length ≤ 10000 ∧ NewLds c Z H (s.byTxt t) Q
/-- Lead(..) made -/
theorem lead_made {H : Hp} {x dx a1 a2 : Addr} {l : Ld} (hx : H x = none) (hd : H dx = none) (h1 : H a1 = some (.lst (nvs l.nums))) (h2 : H a2 = some (.lst (nvs l.txt))) :
    Same H (upd (upd (upd H dx (.own x)) x (.ins c.Lead dx [])) x (.ins c.Lead dx (List.zip ["numbers", "text", "target"] [V.ref a1, V.ref a2, V.int (Int.ofNat l.tgt)]))) ∧
    LeadAt c (upd (upd (upd H dx (.own x)) x (.ins c.Lead dx [])) x (.ins c.Lead dx (List.zip ["numbers", "text", "target"] [V.ref a1, V.ref a2, V.int (Int.ofNat l.tgt)]))) (.ref x) l := by
  have s := (made (C := c.Lead) (fs := List.zip ["numbers", "text", "target"] [V.ref a1, V.ref a2, V.int (Int.ofNat l.tgt)]) hx hd).1
  exact ⟨s, x, dx, a1, a2, rfl, upd_same, s _ _ h1, s _ _ h2⟩
/-- a Lead made beside Z -/
theorem lead_made_z {Z : List Addr} {H : Hp} {x dx a1 a2 : Addr} {l : Ld} (hz : ∀ z ∈ Z, H z ≠ none) (hx : H x = none) (hd : H dx = none) (h1 : hideZ Z H a1 = some (.lst (nvs l.nums))) (h2 : hideZ Z H a2 = some (.lst (nvs l.txt))) :
    Same H (upd (upd (upd H dx (.own x)) x (.ins c.Lead dx [])) x (.ins c.Lead dx (List.zip ["numbers", "text", "target"] [V.ref a1, V.ref a2, V.int (Int.ofNat l.tgt)]))) ∧
    LeadAt c (hideZ Z (upd (upd (upd H dx (.own x)) x (.ins c.Lead dx [])) x (.ins c.Lead dx (List.zip ["numbers", "text", "target"] [V.ref a1, V.ref a2, V.int (Int.ofNat l.tgt)])))) (.ref x) l := by
  have mk := made (C := c.Lead) (fs := List.zip ["numbers", "text", "target"] [V.ref a1, V.ref a2, V.int (Int.ofNat l.tgt)]) hx hd
  exact ⟨mk.1, x, dx, a1, a2, rfl, z_new hz hx mk.2, hideZ_of mk.1 _ _ h1, hideZ_of mk.1 _ _ h2⟩
theorem sc_TextStep_by_value : FnScope ["self", "numbers"] ["self", "numbers"] (defScope (inClass (topS 66) 1)) := ⟨rfl, rfl, rfl, by decide +kernel, rfl, by decide +kernel, by decide +kernel⟩
theorem d_TextStep_by_value (T : Top K mg c) : MethOk P w K mg base CX0 3 c.TextStep "by_value" (spBV c fun s => clsOf c s = c.TextStep ∧ ∃ t n, s = .txt t n) := T.m_TextStep_by_value.ok T.c_TextStep.cl fun f fd F => by
  refine F.ok sc_TextStep_by_value (fun vs H Q E h => ?_) (fun cdv A outer s H vs Q E hr h => ⟨_, (pss_one (ps_ret (pmake (m_Lead T) (hr.mono (by omega)) pass0 (pa_cons (pe_lst pa_nil) (pa_cons (pe_fld (pv 0) rfl) (pa_cons (pe_fld (pv 0) rfl) pa_nil)))))), ?_⟩)
  · obtain ⟨Z, p, _, _, _, rfl, _⟩ := h
    rfl
  · obtain ⟨Z, v, a, s, u, rfl, hzn, ⟨_, t, n, rfl⟩, ⟨p, dx, b, rfl, hpz, hbz⟩, _, ha, hu, hl, q⟩ := h
    have hp := hideZ_same _ _ hpz
    have hb := hideZ_same _ _ hbz
    walk_at "r0"
    refine ⟨Nat.zero_le _, fun e he => ?_⟩
    have s0 : Same H (upd H e (.lst [])) := Same.add he
    refine ⟨_, rfl, p, _, dx, _, _, rfl, s0 _ _ hp, T.c_TextStep.cl, T.c_TextStep.na _ (by simp), by walk_at "lk", _, rfl, p, _, dx, _, _, rfl, s0 _ _ hp, T.c_TextStep.cl, T.c_TextStep.na _ (by simp), by walk_at "lk", fun x d1 hx hd1 hne => ?_⟩
    refine ⟨x, d1, _, rfl, rfl, upd_same, rfl, ?_⟩
    have m := lead_made_z (c := c) (l := ⟨[], t, n⟩) (occ hzn s0) hx hd1 (z_new hzn he upd_same) (hideZ_of s0 _ _ hbz)
    exact q _ _ (Same.trans s0 m.1) m.2
theorem sc_TextStep_by_text : FnScope ["self", "text"] ["self", "text"] (defScope (inClass (topS 66) 2)) := ⟨rfl, rfl, rfl, by decide +kernel, rfl, by decide +kernel, by decide +kernel⟩
theorem nvs_inj {a b : List Nat} : a.map Int.ofNat = b.map Int.ofNat ↔ a = b := by
  constructor
  · intro h
    have h2 := congrArg (List.map Int.toNat) h
    rw [List.map_map, List.map_map] at h2
    have e : (Int.toNat ∘ Int.ofNat) = id := rfl
    rw [e, List.map_id, List.map_id] at h2
    exact h2
  · intro h; rw [h]
theorem dp_nats {K : PySem.W.Frag} {H : Hp} {a : Addr} {l : List Nat} (h : H a = some (.lst (nvs l))) : Dp K H (.ref a) (.list ((l.map Int.ofNat).map PyData.int)) := dp_ints (by
  have e : (l.map Int.ofNat).map V.int = nvs l := by simp [nvs]
  rw [e]
  exact SqL.of h)
theorem d_TextStep_by_text (T : Top K mg c) : MethOk P w K mg base CX0 3 c.TextStep "by_text" (spBT c fun s => clsOf c s = c.TextStep ∧ ∃ t n, s = .txt t n) := T.m_TextStep_by_text.ok T.c_TextStep.cl fun f fd F => by
  refine F.ok sc_TextStep_by_text (fun vs H Q E h => ?_) (fun cdv A outer s H vs Q E hr h => ⟨_, (pss_cons (ps_if (pt_cmpR (op_eqD hr.units) (pe_slice sl_list (pv 1) po_none (po_some (pe_callB call_len_seq (by rfl) T.b_len (by decide +kernel) (pa_cons (pe_fld (pv 0) rfl) pa_nil)))) (pe_fld (pv 0) rfl) (nomark _))
 (pss_one (ps_ret (pe_lst (pa_cons (pmake (m_Lead T) (hr.mono (by omega)) pass0 (pa_cons (pe_lst pa_nil) (pa_cons (pe_fld (pv 0) rfl) (pa_cons (pe_fld (pv 0) rfl) pa_nil)))) pa_nil))))
 pss_nil)
 (pss_one (ps_ret (pe_lst pa_nil)))), ?_⟩)
  · obtain ⟨Z, p, _, _, _, rfl, _⟩ := h
    rfl
  · obtain ⟨Z, v, a, s, x, rfl, hzn, ⟨_, t, n, rfl⟩, ⟨p, dx, b, rfl, hpz, hbz⟩, hok, ha, hl, q⟩ := h
    have hp := hideZ_same _ _ hpz
    have hb := hideZ_same _ _ hbz
    have cl := T.c_TextStep.cl
    have n1 := T.c_TextStep.na "text" (by simp)
    have n2 := T.c_TextStep.na "target" (by simp)
    walk_at "r0"
    walk_at "sq"
    refine ⟨_, rfl, _, rfl, p, _, dx, _, _, rfl, hp, cl, n1, by walk_at "lk", b, _, rfl, .inl (SqL.of hb), _, rfl, a, _, rfl, SqL.of ha, fun e he => ?_⟩
    have s0 : Same H (upd H e (.lst (cutV (nvs x) none (some ((nvs t).length : Int))))) := Same.add he
    have ec : cutV (nvs x) none (some ((nvs t).length : Int)) = nvs (x.take t.length) := by
      rw [cut_to, nvs_length]
      unfold nvs
      rw [List.map_take]
    rw [ec] at s0 ⊢
    refine ⟨_, rfl, p, _, dx, _, _, rfl, s0 _ _ hp, cl, n1, by walk_at "lk", _, _, dp_nats upd_same, dp_nats (s0 _ _ hb), shaped_ints _, shaped_ints _, _, rfl, ?_⟩
    rw [eq_ints]
    by_cases hc : x.take t.length = t
    · rw [if_pos (decide_eq_true (by rw [hc]))]
      walk_at "rd"
      refine ⟨Nat.zero_le _, fun e2 he2 => ?_⟩
      have s1 := Same.trans s0 (Same.add (o := .lst []) he2)
      refine ⟨_, rfl, p, _, dx, _, _, rfl, s1 _ _ hp, cl, n1, by walk_at "lk", _, rfl, p, _, dx, _, _, rfl, s1 _ _ hp, cl, n2, by walk_at "lk", fun y d1 hy hd1 hne => ?_⟩
      refine ⟨y, d1, _, rfl, rfl, upd_same, rfl, ?_⟩
      have m := lead_made_z (c := c) (l := ⟨[], t, n⟩) (occ hzn s1) hy hd1 (z_new (occ hzn s0) he2 upd_same) (hideZ_of s1 _ _ hbz)
      refine ⟨by show 1 ≤ sizeLine; decide, fun D hD => ?_⟩
      have s2 := Same.trans s1 m.1
      refine q D _ _ (s2.free hD) (Same.trans s2 (Same.add hD)) upd_same ?_
      have e : Stp.byTxt (.txt t n) x = [⟨[], t, n⟩] := if_pos hc
      rw [e]
      exact .cons (m.2.same (hideZ_new hD (hideZ_of (Same.add hD)))) .nil
    · rw [if_neg (by rw [decide_eq_false (fun e => hc (nvs_inj.mp e))]; exact Bool.false_ne_true)]
      walk_at "rd"
      refine ⟨Nat.zero_le _, fun D hD => q D [] _ (s0.free hD) (Same.trans s0 (Same.add hD)) upd_same ?_⟩
      have e : Stp.byTxt (.txt t n) x = [] := if_neg hc
      rw [e]
      exact .nil

/-! ### NumberStep -/
theorem nvs_get {l : List Nat} {i n : Nat} (h : l[i]? = some n) : (nvs l)[i]? = some (.int (Int.ofNat n)) := by
  unfold nvs
  rw [List.getElem?_map, h]
  rfl
theorem sc_NumberStep_by_value : FnScope ["self", "numbers", "width", "digits"] ["self", "numbers"] (defScope (inClass (topS 67) 1)) := ⟨rfl, rfl, rfl, by decide +kernel, rfl, by decide +kernel, by decide +kernel⟩
theorem d_NumberStep_by_value (T : Top K mg c) : MethOk P w K mg base CX0 3 c.NumberStep "by_value" (spBV c fun s => clsOf c s = c.NumberStep ∧ ∃ lo hi n, s = .num lo hi n) := T.m_NumberStep_by_value.ok T.c_NumberStep.cl fun f fd F => by
  refine F.ok sc_NumberStep_by_value (fun vs H Q E h => ?_) (fun cdv A outer s H vs Q E hr h => ⟨_, (pss_cons (ps_if (pt_not (pt_truth (pv 1) (by intro _; rfl)))
 (pss_one (ps_ret pe_non))
 pss_nil)
 (pss_cons (ps_set (i := 2) sc_NumberStep_by_value.nd rfl (.inl rfl) (pe_ifExp (pt_cmpR op_eq (pe_fld (pv 0) rfl) (pe_fld (pv 0) rfl) (nomark _)) (pe_fld (pv 0) rfl) pe_int))
 (pss_cons (ps_set (i := 3) sc_NumberStep_by_value.nd rfl (.inl rfl) (pcall (d_spelled T) (hr.mono (by omega)) pass0 (pa_cons (pe_bm PySem.F.plainAttrs_str PySem.F.slot_str_zfill PySem.F.type_str_zfill mt_zfill (pe_callTy call_str_int (by rfl) T.b_str (by decide +kernel) (pa_cons (pe_ix ix_list (pv 1) pe_int (fun _ _ => rfl)) pa_nil)) (pa_cons (pv 2) pa_nil)) pa_nil)))
 (pss_cons (ps_if (pt_chain op_le op_le (pe_fld (pv 0) rfl) (pe_callB call_len_seq (by rfl) T.b_len (by decide +kernel) (pa_cons (pv 3) pa_nil)) (pe_fld (pv 0) rfl))
 (pss_one (ps_ret (pmake (m_Lead T) (hr.mono (by omega)) pass0 (pa_cons (pe_slice sl_list (pv 1) po_none (po_some pe_int)) (pa_cons (pv 3) (pa_cons (pe_fld (pv 0) rfl) pa_nil))))))
 pss_nil)
 (pss_one (ps_ret pe_non)))))), ?_⟩)
  · obtain ⟨Z, p, _, _, _, rfl, _⟩ := h
    rfl
  · obtain ⟨Z, v, a, s, u, rfl, hzn, ⟨_, lo, hi, n, rfl⟩, ⟨p, dx, rfl, hpz⟩, ⟨ok1, ok2, ok3⟩, ha, hu, hl, q⟩ := h
    have hp := hideZ_same _ _ hpz
    have cl := T.c_NumberStep.cl
    have n1 := T.c_NumberStep.na "lo" (by simp)
    have n2 := T.c_NumberStep.na "hi" (by simp)
    have n3 := T.c_NumberStep.na "target" (by simp)
    walk_at "r0"
    walk_at "sq"
    cases u with
    | nil =>
      refine ⟨_, rfl, false, .inl ⟨_, SqL.of ha, rfl⟩, ?_⟩
      exact q H (Same.refl H)
    | cons m u =>
      refine ⟨_, rfl, true, .inl ⟨_, SqL.of ha, rfl⟩, ?_⟩
      rw [if_neg (by decide)]
      have hm : m ≤ 9999 := hu m (List.mem_cons_self ..)
      have hs := num_small m hm
      have hdl := digits_len_le (n := m) (k := 4) (by decide) (by omega)
      -- the width
      refine seq_by (fun σ' H' => H' = H ∧ σ' = [some (.ref p), some (.ref a), some (.int (Int.ofNat (widthOf lo hi))), none]) ?_ ?_
      rotate_left
      · intro N hN
        walk_at "rd"
        refine ⟨_, rfl, p, _, dx, _, _, rfl, hp, cl, n1, by walk_at "lk", _, rfl, p, _, dx, _, _, rfl, hp, cl, n2, by walk_at "lk", rfl, _, rfl, ?_⟩
        by_cases e : lo = hi
        · rw [if_pos (decide_eq_true (by rw [e]))]
          refine ⟨_, rfl, p, _, dx, _, _, rfl, hp, cl, n1, by walk_at "lk", hN _ _ ⟨rfl, ?_⟩⟩
          unfold widthOf
          rw [if_pos e]
        · rw [if_neg (by
            rw [decide_eq_false (fun z => e (by injection z with z; exact Int.ofNat.inj z))]
            exact Bool.false_ne_true)]
          refine hN _ _ ⟨rfl, ?_⟩
          unfold widthOf
          rw [if_neg e]
          rfl
      rintro _ _ ⟨rfl, rfl⟩
      have hw4 : widthOf lo hi ≤ 4 := by
        unfold widthOf
        split <;> omega
      have hpad : PadOk (Int.ofNat (widthOf lo hi)) = true := by
        have : widthOf lo hi = 0 ∨ widthOf lo hi = 1 ∨ widthOf lo hi = 2 ∨ widthOf lo hi = 3 ∨ widthOf lo hi = 4 := by omega
        rcases this with e | e | e | e | e <;> rw [e] <;> decide +kernel
      have hz := zfill_codes m (widthOf lo hi) (by omega)
      have hzl : (FT.zfill (VafmsBase.digitsOf m) (widthOf lo hi)).length ≤ 4 := by
        rw [FT.zfill_len]
        omega
      have h0 : (nvs (m :: u))[0]? = some (.int (Int.ofNat m)) := rfl
      walk_at "sq"
      refine ⟨_, rfl, a, _, 0, _, rfl, rfl, SqL.of ha, atI_nat h0, _, rfl, hs.1, rfl, _, rfl, _, _, rfl, rfl, hpad, _, rfl, ?_, fun b H1 hb s1 hbl => ?_⟩
      · rw [← Array.length_toList]
        have e := hz
        show (Txt.zfill (Str.ofString (toString (m : Int))) (widthOf lo hi : Int)).cps.toList.length ≤ 1000
        rw [e]
        omega
      have hbl2 : H1 b = some (.lst (nvs (FT.zfill (VafmsBase.digitsOf m) (widthOf lo hi)))) := by
        rw [hbl]
        exact congrArg (fun l => some (HO.lst (nvs l))) hz
      generalize hd : FT.zfill (VafmsBase.digitsOf m) (widthOf lo hi) = d at hzl hbl2
      have ebv : Stp.byVal (.num lo hi n) (m :: u) = if lo ≤ d.length ∧ d.length ≤ hi then some ⟨[m], d, n⟩ else none := by
        show (numPrint lo hi m).map _ = _
        unfold numPrint
        rw [hd]
        dsimp only
        split <;> rfl
      walk_at "sq"
      refine ⟨_, rfl, p, _, dx, _, _, rfl, s1 _ _ hp, cl, n1, by walk_at "lk", _, rfl, b, _, rfl, .inl (SqL.of hbl2), _, _, rfl, rfl, _, rfl, ?_⟩
      rw [nvs_length]
      by_cases c1 : (Int.ofNat lo) ≤ (d.length : Int)
      · rw [if_pos (decide_eq_true c1)]
        walk_at "rd"
        refine ⟨_, rfl, p, _, dx, _, _, rfl, s1 _ _ hp, cl, n2, by walk_at "lk", _, _, rfl, rfl, _, rfl, ?_⟩
        by_cases c2 : (d.length : Int) ≤ Int.ofNat hi
        · rw [if_pos (decide_eq_true c2)]
          rw [if_pos ⟨Int.ofNat_le.mp c1, Int.ofNat_le.mp c2⟩] at ebv
          rw [ebv] at q
          walk_at "rd"
          refine ⟨_, rfl, _, rfl, a, _, rfl, SqL.of (s1 _ _ ha), fun e he => ?_⟩
          have s2 := Same.trans s1 (Same.add (o := .lst (cutV (nvs (m :: u)) none (some 1))) he)
          have ec : cutV (nvs (m :: u)) none (some 1) = nvs [m] := cut_to _ 1
          rw [ec] at s2 ⊢
          refine ⟨_, rfl, _, rfl, p, _, dx, _, _, rfl, s2 _ _ hp, cl, n3, by walk_at "lk", fun y d1 hy hd1 hne => ?_⟩
          refine ⟨y, d1, _, rfl, rfl, upd_same, rfl, ?_⟩
          have mk := lead_made_z (c := c) (l := ⟨[m], d, n⟩) (occ hzn s2) hy hd1 (z_new (occ hzn s1) he upd_same) (hideZ_of (Same.add he) _ _ (z_new hzn hb hbl2))
          exact q _ _ (Same.trans s2 mk.1) mk.2
        · rw [if_neg (by rw [decide_eq_false c2]; exact Bool.false_ne_true)]
          rw [if_neg (fun z => c2 (Int.ofNat_le.mpr z.2))] at ebv
          rw [ebv] at q
          exact q H1 s1
      · rw [if_neg (by rw [decide_eq_false c1]; exact Bool.false_ne_true)]
        rw [if_neg (fun z => c1 (Int.ofNat_le.mpr z.1))] at ebv
        rw [ebv] at q
        refine ⟨_, rfl, ?_⟩
        rw [if_neg Bool.false_ne_true]
        exact q H1 s1
end
end FX
end
section
set_option Elab.async false
set_option linter.all false
set_option maxRecDepth 100000
set_option maxHeartbeats 4000000
namespace FX
open PySem PySem.Spec PyProof.Rows L2 FT
open VafmsBase (Fmt)
local macro_rules | `(tactic| walk_at "rd") => `(tactic| try dsimp only [tAug, tOp, tC, tCB, tCons, tNil, gName, tVar, tAsg, tRet, tIfS, tTest, tB, tNext, tDrop, tFld, tCKw, tCall, tMeth, rI0, rI, CMul, rEq, rNe, rEqD, rNeD, tBM, rAppend, rExtend, rCat, rIn, rIxT, rIxL, rAll, rMax, tSl, rSlL, tPart, tNoPart, tChain, tUn, rU, tIf, tNot, tOr, tAnd, tMake, sFld, tLst, tTup, pad, List.set, List.getElem?_cons_zero, List.getElem?_cons_succ, cxOf, List.map_cons, List.map_nil, List.append_nil, List.cons_append, List.nil_append])
local macro_rules | `(tactic| walk_at "sq") => `(tactic| (refine seq_go ?_; walk_at "rd"))
local macro_rules | `(tactic| walk_at "r0") => `(tactic| (rw [start_pad (by rfl)]; walk_at "rd"))
local macro_rules | `(tactic| walk_at "lk") => `(tactic| first
  | exact lk_here
  | exact (lk_past (by decide +kernel)).trans lk_here
  | exact (lk_past (by decide +kernel)).trans ((lk_past (by decide +kernel)).trans lk_here)
  | exact (lk_past (by decide +kernel)).trans ((lk_past (by decide +kernel)).trans ((lk_past (by decide +kernel)).trans lk_here)))
local macro_rules | `(tactic| walk_at "ln") => `(tactic| first
  | rfl
  | exact (lk_past (by decide +kernel)).trans rfl
  | exact (lk_past (by decide +kernel)).trans ((lk_past (by decide +kernel)).trans rfl)
  | exact (lk_past (by decide +kernel)).trans ((lk_past (by decide +kernel)).trans ((lk_past (by decide +kernel)).trans rfl)))
theorem filterMap_more {α β : Type} (g : α → Option β) {l : List α} {i : Nat} {x : α} (h : l[i]? = some x) : (l.take (i + 1)).filterMap g = (l.take i).filterMap g ++ (g x).toList := by
  rw [take_more h, List.filterMap_append]
  cases hg : g x with
  | none => simp [hg]
  | some y => simp [hg]
section
variable {P : Program} {w : World} {K : PySem.W.Frag} {mg : Str → Option Value} {base : Heap} {c : Cs}
theorem fronts_len {t d : List Nat} {lo hi : Nat} (h : d ∈ fronts t lo hi) : lo ≤ d.length ∧ d.length ≤ hi := by
  unfold fronts at h
  obtain ⟨k, hk, rfl⟩ := List.mem_map.mp h
  have := mem_downFrom.mp hk
  rw [List.length_take]
  omega
theorem fronts_count (t : List Nat) (lo hi : Nat) : (fronts t lo hi).length ≤ hi + 1 := by
  unfold fronts
  rw [List.length_map, (downFrom_get _ lo).1]
  omega
/-- a list of leads is no text with bytes -/
theorem leads_apart {H G : Hp} {D a : Addr} {us : List V} {ls : List Ld} {t : List Nat} (hD : H D = some (.lst us)) (hus : Paired (LeadAt c G) us ls) (ha : H a = some (.lst (nvs t))) (ht : t ≠ []) : a ≠ D := fun e => by
  rw [e, hD] at ha
  have e2 : us = nvs t := HO.lst.inj (Option.some.inj ha)
  cases t with
  | nil => exact ht rfl
  | cons n t =>
    rw [e2] at hus
    cases hus with
    | cons h _ =>
      obtain ⟨p, _, _, _, z, _⟩ := h
      cases z
theorem lead_beside {H G : Hp} {D : Addr} {us : List V} {ls : List Ld} {y : V} {l : Ld} (hD : H D = some (.lst us)) (hus : Paired (LeadAt c G) us ls) (hy : LeadAt c H y l) (h1 : l.nums ≠ []) (h2 : l.txt ≠ []) : LeadAt c (hideA D H) y l := by
  obtain ⟨p, dx, a1, a2, e, hp, ha1, ha2⟩ := hy
  have np : p ≠ D := ne_of hp hD (by intro z; cases z)
  exact ⟨p, dx, a1, a2, e, by rw [hideA_ne np]; exact hp, by rw [hideA_ne (leads_apart hD hus ha1 h1)]; exact ha1, by rw [hideA_ne (leads_apart hD hus ha2 h2)]; exact ha2⟩
theorem sc_NumberStep_by_text : FnScope ["self", "text", "leads", "digits", "lead", "byte"] ["self", "text"] (defScope (inClass (topS 67) 2)) := ⟨rfl, rfl, rfl, by decide +kernel, rfl, by decide +kernel, by decide +kernel⟩
theorem d_NumberStep_by_text (T : Top K mg c) : MethOk P w K mg base CX0 4 c.NumberStep "by_text" (spBT c fun s => clsOf c s = c.NumberStep ∧ ∃ lo hi n, s = .num lo hi n) := T.m_NumberStep_by_text.ok T.c_NumberStep.cl fun f fd F => by
  refine F.ok sc_NumberStep_by_text (fun vs H Q E h => ?_) (fun cdv A outer s H vs Q E hr h => ⟨_, (pss_cons (ps_set (i := 2) sc_NumberStep_by_text.nd rfl (.inl rfl) (pe_lst pa_nil))
 (pss_cons (ps_for PassesOwn.never rfl (pi_list (pcall (d_beginnings T) (hr.mono (by omega)) pass0 (pa_cons (pv 1) (pa_cons (pe_fld (pv 0) rfl) (pa_cons (pe_fld (pv 0) rfl) pa_nil))))) (pg_name (i := 3) sc_NumberStep_by_text.nd rfl (.inl rfl))
 (pss_one (ps_if (pt_val (pe_callB (cr_all rfl) (by rfl) T.b_all (by decide +kernel) (pa_cons (pe_lc (own := [("byte", 5)]) (g := gName 5) (tt := tYes) (by rfl) sc_NumberStep_by_text.nd (pi_list (pv 3)) (blkOk_by (own := [("byte", 5)]) (N := ["self", "text", "leads", "digits", "lead", "byte"]) (sc := defScope (inClass (topS 67) 2)) (by decide +kernel)) (fun _ _ _ _ _ => pg_name (i := 5) sc_NumberStep_by_text.nd rfl (Or.inl rfl)) (fun _ _ _ _ _ => pts_nil) (fun _ _ _ _ _ => (pcall (d_is_digit T) (hr.mono (by omega)) pass0 (pa_cons (pv 5) pa_nil)))) pa_nil)))
 (pss_cons (ps_set (i := 4) sc_NumberStep_by_text.nd rfl (.inl rfl) (pmeth (d_NumberStep_by_value T) (hr.mono (by omega)) pass0 (pv 0) (pa_cons (pe_lst (pa_cons (pcall (d_number_of T) (hr.mono (by omega)) pass0 (pa_cons (pv 3) pa_nil)) pa_nil)) pa_nil)))
 (pss_one (ps_if (PW.pt (pw_and (pt_cmpR op_notN (pv 4) pe_non (nomark _)) (pw_and1 (pt_cmpR (op_eqD hr.units) (pe_fld (pv 4) rfl) (pv 3) (nomark _)))))
 (pss_one (ps_expr (pe_bm PySem.F.plainAttrs_list PySem.F.slot_list_append PySem.F.type_list_append mt_append (pv 2) (pa_cons (pv 4) pa_nil))))
 pss_nil)))
 pss_nil)))
 (pss_one (ps_ret (pv 2))))), ?_⟩)
  · obtain ⟨Z, p, _, _, _, rfl, _⟩ := h
    rfl
  · obtain ⟨Z, v, a, s, t, rfl, hzn, ⟨hsel, lo, hi, n, rfl⟩, ⟨p, dx, rfl, hpz⟩, ⟨ok1, ok2, ok3⟩, ha, hl, q⟩ := h
    have hp := hideZ_same _ _ hpz
    have cl := T.c_NumberStep.cl
    have n1 := T.c_NumberStep.na "lo" (by simp)
    have n2 := T.c_NumberStep.na "hi" (by simp)
    obtain ⟨g, hg⟩ : ∃ g : List Nat → Option Ld, g = fun d => if d.all VafmsBase.isDigit = true ∧ numPrint lo hi (VafmsBase.numberOf d) = some d then some (⟨[VafmsBase.numberOf d], d, n⟩ : Ld) else none := ⟨_, rfl⟩
    have eby : Stp.byTxt (.num lo hi n) t = (fronts t lo hi).filterMap g := by rw [hg]; rfl
    rw [eby] at q
    have hfc := fronts_count t lo hi
    walk_at "r0"
    walk_at "sq"
    refine ⟨Nat.zero_le _, fun D hD => ?_⟩
    have s0 : Same H (upd H D (.lst [])) := Same.add hD
    refine seq_go ?_
    refine t_forE (fun b fs H1 => Same H H1 ∧ H1 D = some (.lst []) ∧ b ≠ D ∧ H1 b = some (.lst fs) ∧ TxtsNew (upd H D (.lst [])) H1 fs (fronts t lo hi)) (fun R hR => ?_) ?_
    · walk_at "rd"
      refine ⟨_, rfl, _, rfl, p, _, dx, _, _, rfl, s0 _ _ hp, cl, n1, by walk_at "lk", _, rfl, p, _, dx, _, _, rfl, s0 _ _ hp, cl, n2, by walk_at "lk", a, t, lo, hi, rfl, s0 _ _ ha, hl, ok1, by omega, by omega, fun b fs H1 hb s1 hbl hfs => hR b fs H1 ⟨Same.trans s0 s1, s1 _ _ upd_same, fun e => ?_, hbl, hfs⟩⟩
      rw [e, upd_same] at hb
      cases hb
    rintro b fs H1 ⟨s01, hD1, hbD, hbl, hfs⟩
    have hfl := paired_map hfs
    refine t_for (a := b) (xs := fs) (fun i σ H' => Same (hideA D H1) (hideA D H') ∧ (∃ us, H' D = some (.lst us) ∧ Paired (LeadAt c (hideZ (D :: Z) H')) us (((fronts t lo hi).take i).filterMap g)) ∧ ∃ v3 v4, σ = [some (.ref p), some (.ref a), some (.ref D), v3, v4, none]) gv_c (SqL.of hbl) ⟨Same.refl _, ⟨[], hD1, .nil⟩, _, _, rfl⟩ (fun i σ H' h => SqL.of (beside h.1 hbl hbD)) ?_ ?_
    · rintro i x σ H2 N hi2 ⟨s2, ⟨us, hD2, hus⟩, v3, v4, rfl⟩ hN
      obtain ⟨d, hdi, b2, rfl, hb2n, hb2⟩ := Paired.at hfs hi2
      have hdm := List.mem_of_getElem? hdi
      obtain ⟨hd1, hd2⟩ := fronts_len hdm
      have hb2D : b2 ≠ D := fun e => by rw [e, upd_same] at hb2n; cases hb2n
      have hb22 := beside s2 hb2 hb2D
      have sH2 : Same H H2 := hide_from hD s01 s2
      have hul := paired_map hus
      have hull : us.length ≤ hi + 1 := by
        rw [hul]
        refine Nat.le_trans (List.length_filterMap_le _ _) ?_
        rw [List.length_take]
        omega
      walk_at "rd"
      refine t_lc_vals ((d.map VafmsBase.isDigit).map V.bl) (gv_var rfl) (SqL.of hb22) (by simp [nvs]) (by rw [nvs_length]; omega) (fun x => rfl) (fun m y z H3 hm hz s3 Q' q' => ?_) fun e H3 he s3 hel => ?_
      · unfold nvs at hm
        rw [List.getElem?_map] at hm
        cases hdm2 : d[m]? with
        | none => rw [hdm2] at hm; cases hm
        | some by_ =>
          rw [hdm2] at hm
          obtain rfl : V.int (Int.ofNat by_) = y := Option.some.inj hm
          rw [List.getElem?_map, List.getElem?_map, hdm2] at hz
          obtain rfl : V.bl (VafmsBase.isDigit by_) = z := Option.some.inj hz
          exact ⟨_, rfl, by_, rfl, q' _ (Same.refl _)⟩
      refine ⟨e, d.map VafmsBase.isDigit, rfl, SqL.of hel, _, rfl, ?_⟩
      have eall : (d.map VafmsBase.isDigit).all id = d.all VafmsBase.isDigit := by simp
      rw [eall]
      have s23 : Same (hideA D H1) (hideA D H3) := Same.trans s2 (hide_same s3)
      have hD3 := s3 _ _ hD2
      have hus3 := Paired.mapR hus fun v l (x : LeadAt c (hideZ (D :: Z) H2) v l) => x.same (hideZ_of s3)
      by_cases hdig : d.all VafmsBase.isDigit = true
      · rw [if_pos hdig]
        have hnl := number_lt d hdig
        have hn9 : VafmsBase.numberOf d ≤ 9999 := by
          have : (10 : Nat) ^ d.length ≤ 10 ^ 4 := Nat.pow_le_pow_right (by decide) (by omega)
          omega
        have hp3 := s3 _ _ (sH2 _ _ hp)
        have oc4 : ∀ H5, Same H3 H5 → ∀ z ∈ D :: Z, H5 z ≠ none := fun H5 s5 z m => by
          rcases List.mem_cons.mp m with rfl | m
          · rw [s5 _ _ hD3]
            simp
          · exact occ hzn (Same.trans sH2 (Same.trans s3 s5)) z m
        have hpz3 : ∀ H5, Same H3 H5 → hideZ (D :: Z) H5 p = some (.ins c.NumberStep dx _) := fun H5 s5 => hideZ_new hD (hideZ_of (Same.trans sH2 (Same.trans s3 s5))) _ _ hpz
        have hb3 := s3 _ _ hb22
        walk_at "sq"
        refine ⟨_, rfl, p, dx, _, rfl, hp3, by walk_at "ln", _, rfl, b2, d, rfl, hb3, hdig, by omega, by show 1 ≤ sizeLine; decide, fun e4 he4 => ?_⟩
        have s4 : Same H3 (upd H3 e4 (.lst [.int (VafmsBase.numberOf d : Int)])) := Same.add he4
        refine ⟨D :: Z, .ref p, e4, .num lo hi n, [VafmsBase.numberOf d], rfl, oc4 _ s4, ⟨hsel, _, _, _, rfl⟩, ⟨p, dx, rfl, hpz3 _ s4⟩, ⟨ok1, ok2, ok3⟩, upd_same, by simpa using hn9, by simp, ?_⟩
        have ebv : Stp.byVal (.num lo hi n) [VafmsBase.numberOf d] = (numPrint lo hi (VafmsBase.numberOf d)).map fun d' => ⟨[VafmsBase.numberOf d], d', n⟩ := rfl
        rw [ebv]
        cases hnp : numPrint lo hi (VafmsBase.numberOf d) with
        | none =>
          intro H5 s5
          have s35 := Same.trans s4 s5
          walk_at "rd"
          refine ⟨_, rfl, rfl, _, rfl, ?_⟩
          rw [if_neg (by simp), if_neg Bool.false_ne_true]
          refine hN _ _ ⟨Same.trans s23 (hide_same s35), ⟨us, s35 _ _ hD3, ?_⟩, _, _, rfl⟩
          have eg : g d = none := by
            rw [hg]
            exact if_neg fun z => by rw [hnp] at z; cases z.2
          rw [filterMap_more g hdi, eg]
          simpa using Paired.mapR hus3 fun v l (x : LeadAt c (hideZ (D :: Z) H3) v l) => x.same (hideZ_of s35)
        | some d' =>
          intro y H5 s5 hy
          have s35 := Same.trans s4 s5
          have hus5 := Paired.mapR hus3 fun v l (x : LeadAt c (hideZ (D :: Z) H3) v l) => x.same (hideZ_of s35)
          have hD5 := s35 _ _ hD3
          walk_at "rd"
          refine ⟨_, rfl, rfl, _, rfl, ?_⟩
          obtain ⟨py, dy, a1, a2, rfl, hpy, ha1, ha2⟩ := hy.same hideZ_same
          rw [if_pos (by simp)]
          refine ⟨_, rfl, py, _, dy, _, _, rfl, hpy, T.c_Lead.cl, T.c_Lead.na _ (by simp), by walk_at "lk", _, rfl, _, _, dp_nats ha2, dp_nats (s35 _ _ hb3), shaped_ints _, shaped_ints _, _, rfl, ?_⟩
          rw [eq_ints]
          by_cases hdd : d' = d
          · subst hdd
            rw [if_pos (decide_eq_true rfl)]
            have eg : g d' = some ⟨[VafmsBase.numberOf d'], d', n⟩ := by
              rw [hg]
              exact if_pos ⟨hdig, hnp⟩
            refine ⟨_, rfl, .inl ⟨rfl, _, SqL.of hD5⟩, _, rfl, D, us, _, rfl, rfl, hD5, szl (by omega), hN _ _ ⟨?_, ⟨_, upd_same, ?_⟩, _, _, rfl⟩⟩
            · exact Same.trans s23 (hideA_upd s35)
            · rw [filterMap_more g hdi, eg]
              refine paired_app (Paired.mapR hus5 fun v l (x : LeadAt c (hideZ (D :: Z) H5) v l) => x.same (hideZ_upd (List.mem_cons_self ..))) (.cons ?_ .nil)
              exact hy.same (hideZ_upd (List.mem_cons_self ..))
          · rw [if_neg (by rw [decide_eq_false (fun e => hdd (nvs_inj.mp e))]; exact Bool.false_ne_true)]
            refine hN _ _ ⟨Same.trans s23 (hide_same s35), ⟨us, hD5, ?_⟩, _, _, rfl⟩
            have eg : g d = none := by
              rw [hg]
              exact if_neg fun z => by rw [hnp] at z; exact hdd (Option.some.inj z.2)
            rw [filterMap_more g hdi, eg]
            simpa using hus5
      · rw [if_neg hdig]
        refine hN _ _ ⟨s23, ⟨us, hD3, ?_⟩, _, _, rfl⟩
        have eg : g d = none := by
          rw [hg]
          exact if_neg fun z => hdig z.1
        rw [filterMap_more g hdi, eg]
        simpa using hus3
    · rintro σ H2 ⟨s2, ⟨us, hD2, hus⟩, v3, v4, rfl⟩
      rw [hfl, List.take_length] at hus
      exact ⟨_, rfl, q D us H2 hD (hide_from hD s01 s2) hD2 hus⟩
end
end FX
end
section
set_option Elab.async false
set_option linter.all false
set_option maxRecDepth 100000
set_option maxHeartbeats 4000000
namespace FX
open PySem PySem.Spec PyProof.Rows L2 FT
open VafmsBase (Fmt)
local macro_rules | `(tactic| walk_at "rd") => `(tactic| try dsimp only [tAug, tOp, tC, tCB, tCons, tNil, gName, tVar, tAsg, tRet, tIfS, tTest, tB, tNext, tDrop, tFld, tCKw, tCall, tMeth, rI0, rI, CMul, rEq, rNe, rEqD, rNeD, tBM, rAppend, rExtend, rCat, rIn, rIxT, rIxL, rAll, rMax, tSl, rSlL, tPart, tNoPart, tChain, tUn, rU, tIf, tNot, tOr, tAnd, tMake, sFld, tLst, tTup, pad, List.set, List.getElem?_cons_zero, List.getElem?_cons_succ, cxOf, List.map_cons, List.map_nil, List.append_nil, List.cons_append, List.nil_append])
local macro_rules | `(tactic| walk_at "sq") => `(tactic| (refine seq_go ?_; walk_at "rd"))
local macro_rules | `(tactic| walk_at "r0") => `(tactic| (rw [start_pad (by rfl)]; walk_at "rd"))
local macro_rules | `(tactic| walk_at "lk") => `(tactic| first
  | exact lk_here
  | exact (lk_past (by decide +kernel)).trans lk_here
  | exact (lk_past (by decide +kernel)).trans ((lk_past (by decide +kernel)).trans lk_here)
  | exact (lk_past (by decide +kernel)).trans ((lk_past (by decide +kernel)).trans ((lk_past (by decide +kernel)).trans lk_here)))
local macro_rules | `(tactic| walk_at "ln") => `(tactic| first
  | rfl
  | exact (lk_past (by decide +kernel)).trans rfl
  | exact (lk_past (by decide +kernel)).trans ((lk_past (by decide +kernel)).trans rfl)
  | exact (lk_past (by decide +kernel)).trans ((lk_past (by decide +kernel)).trans ((lk_past (by decide +kernel)).trans rfl)))
section
variable {P : Program} {w : World} {K : PySem.W.Frag} {mg : Str → Option Value} {base : Heap} {c : Cs}
theorem sc_WordStep_by_value : FnScope ["self", "numbers", "letters", "letter"] ["self", "numbers"] (defScope (inClass (topS 68) 1)) := ⟨rfl, rfl, rfl, by decide +kernel, rfl, by decide +kernel, by decide +kernel⟩
theorem d_WordStep_by_value (T : Top K mg c) : MethOk P w K mg base CX0 3 c.WordStep "by_value" (spBV c fun s => clsOf c s = c.WordStep ∧ ∃ lo hi n, s = .word lo hi n) := T.m_WordStep_by_value.ok T.c_WordStep.cl fun f fd F => by
  refine F.ok sc_WordStep_by_value (fun vs H Q E h => ?_) (fun cdv A outer s H vs Q E hr h => ⟨_, (pss_cons (ps_if (PW.pt (pw_or (pt_not (pt_truth (pv 1) (by intro _; rfl))) (pw_or1 (pt_not (pt_chain op_le op_le (pe_fld (pv 0) rfl) (pe_ix ix_list (pv 1) pe_int (fun _ _ => rfl)) (pe_fld (pv 0) rfl))))))
 (pss_one (ps_ret pe_non))
 pss_nil)
 (pss_cons (ps_set (i := 2) sc_WordStep_by_value.nd rfl (.inl rfl) (pe_slice sl_list (pv 1) (po_some pe_int) (po_some (pe_op op_add pe_int (pe_ix ix_list (pv 1) pe_int (fun _ _ => rfl))))))
 (pss_cons (ps_if (PW.pt (pw_or (pt_cmpR op_lt (pe_callB call_len_seq (by rfl) T.b_len (by decide +kernel) (pa_cons (pv 2) pa_nil)) (pe_ix ix_list (pv 1) pe_int (fun _ _ => rfl)) (nomark _)) (pw_or1 (pt_cmpR op_ge (pe_callB (cr_max rfl) (by rfl) T.b_max (by decide +kernel) (pa_cons (pv 2) pa_nil)) (pe_num T.n_LETTER_COUNT) (nomark _)))))
 (pss_one (ps_ret pe_non))
 pss_nil)
 (pss_one (ps_ret (pmake (m_Lead T) (hr.mono (by omega)) pass0 (pa_cons (pe_op op_cat (pe_slice sl_list (pv 1) po_none (po_some pe_int)) (pv 2)) (pa_cons (pe_lc (own := [("letter", 3)]) (g := gName 3) (tt := tYes) (by rfl) sc_WordStep_by_value.nd (pi_list (pv 2)) (blkOk_by (own := [("letter", 3)]) (N := ["self", "numbers", "letters", "letter"]) (sc := defScope (inClass (topS 68) 1)) (by decide +kernel)) (fun _ _ _ _ _ => pg_name (i := 3) sc_WordStep_by_value.nd rfl (Or.inl rfl)) (fun _ _ _ _ _ => pts_nil) (fun _ _ _ _ _ => (pe_op op_add (pe_num T.n_SMALL_A) (pv 3)))) (pa_cons (pe_fld (pv 0) rfl) pa_nil))))))))), ?_⟩)
  · obtain ⟨Z, p, _, _, _, rfl, _⟩ := h
    rfl
  · obtain ⟨Z, v, a, s, u, rfl, hzn, ⟨_, lo, hi, n, rfl⟩, ⟨p, dx, rfl, hpz⟩, ⟨ok1, ok2, ok3⟩, ha, hu, hl, q⟩ := h
    have hp := hideZ_same _ _ hpz
    have cl := T.c_WordStep.cl
    have n1 := T.c_WordStep.na "lo" (by simp)
    have n2 := T.c_WordStep.na "hi" (by simp)
    have n3 := T.c_WordStep.na "target" (by simp)
    walk_at "r0"
    cases u with
    | nil =>
      walk_at "sq"
      refine ⟨_, rfl, false, .inl ⟨_, SqL.of ha, rfl⟩, ?_⟩
      exact q H (Same.refl H)
    | cons m u =>
      have h0 : (nvs (m :: u))[0]? = some (.int (Int.ofNat m)) := rfl
      have ebv : Stp.byVal (.word lo hi n) (m :: u) = if lo ≤ m ∧ m ≤ hi then (if (u.take m).length < m ∨ (u.take m).all (fun x => decide (x < 26)) = false then none else some ⟨m :: u.take m, (u.take m).map (fun x => 97 + x), n⟩) else none := rfl
      walk_at "sq"
      refine ⟨_, rfl, true, .inl ⟨_, SqL.of ha, rfl⟩, ?_⟩
      rw [if_neg (by decide)]
      refine ⟨_, rfl, p, _, dx, _, _, rfl, hp, cl, n1, by walk_at "lk", _, rfl, a, _, 0, _, rfl, rfl, SqL.of ha, atI_nat h0, _, _, rfl, rfl, _, rfl, ?_⟩
      by_cases c1 : (Int.ofNat lo) ≤ Int.ofNat m
      rotate_left
      · rw [if_neg (by rw [decide_eq_false c1]; exact Bool.false_ne_true)]
        rw [if_neg (fun z => c1 (Int.ofNat_le.mpr z.1))] at ebv
        rw [ebv] at q
        refine ⟨_, rfl, ?_⟩
        rw [if_pos (by decide)]
        exact q H (Same.refl H)
      rw [if_pos (decide_eq_true c1)]
      walk_at "rd"
      refine ⟨_, rfl, p, _, dx, _, _, rfl, hp, cl, n2, by walk_at "lk", _, _, rfl, rfl, _, rfl, ?_⟩
      by_cases c2 : (Int.ofNat m) ≤ Int.ofNat hi
      rotate_left
      · rw [if_pos (by rw [decide_eq_false c2]; rfl)]
        rw [if_neg (fun z => c2 (Int.ofNat_le.mpr z.2))] at ebv
        rw [ebv] at q
        exact q H (Same.refl H)
      rw [if_neg (by rw [decide_eq_true c2]; decide)]
      rw [if_pos ⟨Int.ofNat_le.mp c1, Int.ofNat_le.mp c2⟩] at ebv
      have hm4 : m ≤ 4 := Nat.le_trans (Int.ofNat_le.mp c2) ok3
      have hm1 : 1 ≤ m := Nat.le_trans ok1 (Int.ofNat_le.mp c1)
      walk_at "sq"
      refine ⟨_, rfl, _, rfl, _, rfl, a, _, 0, _, rfl, rfl, SqL.of ha, atI_nat h0, _, _, rfl, rfl, _, rfl, a, _, rfl, SqL.of ha, fun e he => ?_⟩
      have ec : cutV (nvs (m :: u)) (some 1) (some (1 + Int.ofNat m)) = nvs (u.take m) := by
        have := cut_mid (nvs (m :: u)) 1 (1 + m)
        rw [Int.natCast_add] at this
        rw [show (1 : Int) + Int.ofNat m = ((1 : Nat) : Int) + (m : Int) from rfl]
        rw [show (some 1 : Option Int) = some ((1 : Nat) : Int) from rfl, this, Nat.add_sub_cancel_left]
        unfold nvs
        rw [List.map_take]
        rfl
      rw [ec]
      have s1 : Same H (upd H e (.lst (nvs (u.take m)))) := Same.add he
      obtain ⟨t, ht⟩ : ∃ t, t = u.take m := ⟨_, rfl⟩
      rw [← ht] at s1 ebv ⊢
      have htl : t.length ≤ m := by rw [ht, List.length_take]; omega
      have ht9 : ∀ x ∈ t, x ≤ 9999 := fun x hx => hu x (List.mem_cons_of_mem _ (by rw [ht] at hx; exact List.mem_of_mem_take hx))
      walk_at "sq"
      refine ⟨_, rfl, e, _, rfl, .inl (SqL.of upd_same), _, rfl, a, _, 0, _, rfl, rfl, SqL.of (s1 _ _ ha), atI_nat h0, _, _, rfl, rfl, _, rfl, ?_⟩
      by_cases c3 : ((nvs t).length : Int) < Int.ofNat m
      · rw [if_pos (decide_eq_true c3), if_pos rfl]
        rw [nvs_length] at c3
        rw [if_pos (.inl (Int.ofNat_lt.mp c3))] at ebv
        rw [ebv] at q
        exact q _ s1
      rw [if_neg (by rw [decide_eq_false c3]; exact Bool.false_ne_true)]
      rw [nvs_length] at c3
      have htl2 : ¬ t.length < m := fun z => c3 (Int.ofNat_lt.mpr z)
      have hne : t ≠ [] := fun z => by rw [z] at htl2; simp at htl2; omega
      refine ⟨_, rfl, e, t.map Int.ofNat, rfl, SqL.of (by rw [upd_same]; simp [nvs]), (by rw [List.length_map]; omega), fun mx hmem hmax => ⟨_, _, rfl, rfl, _, rfl, ?_⟩⟩
      have hall : (t.all fun x => decide (x < 26)) = !decide ((26 : Int) ≤ mx) := by
        obtain ⟨x0, hx0, rfl⟩ := List.mem_map.mp hmem
        rw [Bool.eq_iff_iff, List.all_eq_true]
        simp only [decide_eq_true_eq, Bool.not_eq_true', decide_eq_false_iff_not]
        constructor
        · intro h
          have h1 := h x0 hx0
          show ¬ (26 : Int) ≤ (x0 : Int)
          omega
        · intro h x hx
          have h1 := hmax (Int.ofNat x) (List.mem_map.mpr ⟨x, hx, rfl⟩)
          have h2 : (x : Int) ≤ (x0 : Int) := h1
          have h3 : ¬ (26 : Int) ≤ (x0 : Int) := h
          omega
      by_cases c4 : (26 : Int) ≤ mx
      · rw [if_pos (decide_eq_true c4)]
        rw [if_pos (.inr (by rw [hall, decide_eq_true c4]; rfl))] at ebv
        rw [ebv] at q
        exact q _ s1
      rw [if_neg (by rw [decide_eq_false c4]; exact Bool.false_ne_true)]
      rw [if_neg (fun z => by
        rcases z with z | z
        · exact htl2 z
        · rw [hall, decide_eq_false c4] at z
          cases z)] at ebv
      rw [ebv] at q
      walk_at "rd"
      refine ⟨_, rfl, _, rfl, a, _, rfl, SqL.of (s1 _ _ ha), fun e2 he2 => ?_⟩
      have ec2 : cutV (nvs (m :: u)) none (some 1) = nvs [m] := cut_to _ 1
      rw [ec2]
      have s2 := Same.trans s1 (Same.add (o := .lst (nvs [m])) he2)
      have he_2 := Same.add (o := .lst (nvs [m])) he2 _ _ (upd_same (H := H) (a := e) (o := .lst (nvs t)))
      refine ⟨_, rfl, e2, e, _, _, rfl, rfl, upd_same, he_2, sz (by rw [nvs_length, nvs_length]; show 1 + _ ≤ _; omega), fun e3 he3 => ?_⟩
      have s3 := Same.trans s2 (Same.add (o := .lst (nvs [m] ++ nvs t)) he3)
      have he_3 := Same.add (o := .lst (nvs [m] ++ nvs t)) he3 _ _ he_2
      refine t_lc_vals (nvs (t.map fun x => 97 + x)) (gv_var rfl) (SqL.of he_3) (by simp [nvs]) (by rw [nvs_length]; omega) (fun x => rfl) (fun i y z H4 hi hz s4 Q' q' => ?_) fun D H4 hD s4 hDl => ?_
      · unfold nvs at hi hz
        rw [List.getElem?_map] at hi
        cases hti : t[i]? with
        | none => rw [hti] at hi; cases hi
        | some b =>
          rw [hti] at hi
          obtain rfl : V.int (Int.ofNat b) = y := Option.some.inj hi
          rw [List.getElem?_map, List.getElem?_map, hti] at hz
          obtain rfl : V.int (Int.ofNat (97 + b)) = z := Option.some.inj hz
          refine ⟨_, rfl, _, _, rfl, rfl, ?_⟩
          have e : (97 : Int) + Int.ofNat b = Int.ofNat (97 + b) := by
            show (97 : Int) + (b : Int) = ((97 + b : Nat) : Int)
            omega
          show Q' (V.int ((97 : Int) + Int.ofNat b)) H4
          rw [e]
          exact q' _ (Same.refl _)
      · have s5 := Same.trans s3 s4
        refine ⟨_, rfl, p, _, dx, _, _, rfl, s5 _ _ hp, cl, n3, by walk_at "lk", fun y d1 hy hd1 hne => ?_⟩
        refine ⟨y, d1, _, rfl, rfl, upd_same, rfl, ?_⟩
        have e3l : hideZ Z H4 e3 = some (.lst (nvs (m :: t))) := by
          have z := hideZ_of s4 _ _ (z_new (o := .lst (nvs [m] ++ nvs t)) (occ hzn s2) he3 upd_same)
          rw [← nvs_append] at z
          exact z
        have mk := lead_made_z (c := c) (l := ⟨m :: t, t.map fun x => 97 + x, n⟩) (occ hzn s5) hy hd1 e3l (z_new (occ hzn s3) hD hDl)
        exact q _ _ (Same.trans s5 mk.1) mk.2

theorem sc_WordStep_by_text : FnScope ["self", "text", "leads", "letters", "numbers", "byte"] ["self", "text"] (defScope (inClass (topS 68) 2)) := ⟨rfl, rfl, rfl, by decide +kernel, rfl, by decide +kernel, by decide +kernel⟩
theorem d_WordStep_by_text (T : Top K mg c) : MethOk P w K mg base CX0 4 c.WordStep "by_text" (spBT c fun s => clsOf c s = c.WordStep ∧ ∃ lo hi n, s = .word lo hi n) := T.m_WordStep_by_text.ok T.c_WordStep.cl fun f fd F => by
  refine F.ok sc_WordStep_by_text (fun vs H Q E h => ?_) (fun cdv A outer s H vs Q E hr h => ⟨_, (pss_cons (ps_set (i := 2) sc_WordStep_by_text.nd rfl (.inl rfl) (pe_lst pa_nil))
 (pss_cons (ps_for PassesOwn.never rfl (pi_list (pcall (d_beginnings T) (hr.mono (by omega)) pass0 (pa_cons (pv 1) (pa_cons (pe_fld (pv 0) rfl) (pa_cons (pe_fld (pv 0) rfl) pa_nil))))) (pg_name (i := 3) sc_WordStep_by_text.nd rfl (.inl rfl))
 (pss_one (ps_if (pt_val (pe_callB (cr_all rfl) (by rfl) T.b_all (by decide +kernel) (pa_cons (pe_lc (own := [("byte", 5)]) (g := gName 5) (tt := tYes) (by rfl) sc_WordStep_by_text.nd (pi_list (pv 3)) (blkOk_by (own := [("byte", 5)]) (N := ["self", "text", "leads", "letters", "numbers", "byte"]) (sc := defScope (inClass (topS 68) 2)) (by decide +kernel)) (fun _ _ _ _ _ => pg_name (i := 5) sc_WordStep_by_text.nd rfl (Or.inl rfl)) (fun _ _ _ _ _ => pts_nil) (fun _ _ _ _ _ => (pcall (d_is_letter T) (hr.mono (by omega)) pass0 (pa_cons (pv 5) pa_nil)))) pa_nil)))
 (pss_cons (ps_set (i := 4) sc_WordStep_by_text.nd rfl (.inl rfl) (pe_op op_cat (pe_lst (pa_cons (pe_callB call_len_seq (by rfl) T.b_len (by decide +kernel) (pa_cons (pv 3) pa_nil)) pa_nil)) (pe_lc (own := [("byte", 5)]) (g := gName 5) (tt := tYes) (by rfl) sc_WordStep_by_text.nd (pi_list (pv 3)) (blkOk_by (own := [("byte", 5)]) (N := ["self", "text", "leads", "letters", "numbers", "byte"]) (sc := defScope (inClass (topS 68) 2)) (by decide +kernel)) (fun _ _ _ _ _ => pg_name (i := 5) sc_WordStep_by_text.nd rfl (Or.inl rfl)) (fun _ _ _ _ _ => pts_nil) (fun _ _ _ _ _ => (pe_op op_sub (pv 5) (pe_num T.n_SMALL_A))))))
 (pss_one (ps_expr (pe_bm PySem.F.plainAttrs_list PySem.F.slot_list_append PySem.F.type_list_append mt_append (pv 2) (pa_cons (pmake (m_Lead T) (hr.mono (by omega)) pass0 (pa_cons (pv 4) (pa_cons (pv 3) (pa_cons (pe_fld (pv 0) rfl) pa_nil)))) pa_nil)))))
 pss_nil)))
 (pss_one (ps_ret (pv 2))))), ?_⟩)
  · obtain ⟨Z, p, _, _, _, rfl, _⟩ := h
    rfl
  · obtain ⟨Z, v, a, s, t, rfl, hzn, ⟨hsel, lo, hi, n, rfl⟩, ⟨p, dx, rfl, hpz⟩, ⟨ok1, ok2, ok3⟩, ha, hl, q⟩ := h
    have hp := hideZ_same _ _ hpz
    have cl := T.c_WordStep.cl
    have n1 := T.c_WordStep.na "lo" (by simp)
    have n2 := T.c_WordStep.na "hi" (by simp)
    have n3 := T.c_WordStep.na "target" (by simp)
    obtain ⟨g, hg⟩ : ∃ g : List Nat → Option Ld, g = fun d => if d.all VafmsBase.isLetter = true then some (⟨d.length :: d.map (fun b => b - 97), d, n⟩ : Ld) else none := ⟨_, rfl⟩
    have eby : Stp.byTxt (.word lo hi n) t = (fronts t lo hi).filterMap g := by rw [hg]; rfl
    rw [eby] at q
    have hfc := fronts_count t lo hi
    walk_at "r0"
    walk_at "sq"
    refine ⟨Nat.zero_le _, fun D hD => ?_⟩
    have s0 : Same H (upd H D (.lst [])) := Same.add hD
    refine seq_go ?_
    refine t_forE (fun b fs H1 => Same H H1 ∧ H1 D = some (.lst []) ∧ b ≠ D ∧ H1 b = some (.lst fs) ∧ TxtsNew (upd H D (.lst [])) H1 fs (fronts t lo hi)) (fun R hR => ?_) ?_
    · walk_at "rd"
      refine ⟨_, rfl, _, rfl, p, _, dx, _, _, rfl, s0 _ _ hp, cl, n1, by walk_at "lk", _, rfl, p, _, dx, _, _, rfl, s0 _ _ hp, cl, n2, by walk_at "lk", a, t, lo, hi, rfl, s0 _ _ ha, hl, ok1, by omega, by omega, fun b fs H1 hb s1 hbl hfs => hR b fs H1 ⟨Same.trans s0 s1, s1 _ _ upd_same, fun e => ?_, hbl, hfs⟩⟩
      rw [e, upd_same] at hb
      cases hb
    rintro b fs H1 ⟨s01, hD1, hbD, hbl, hfs⟩
    have hfl := paired_map hfs
    refine t_for (a := b) (xs := fs) (fun i σ H' => Same (hideA D H1) (hideA D H') ∧ (∃ us, H' D = some (.lst us) ∧ Paired (LeadAt c (hideZ (D :: Z) H')) us (((fronts t lo hi).take i).filterMap g)) ∧ ∃ v3 v4, σ = [some (.ref p), some (.ref a), some (.ref D), v3, v4, none]) gv_c (SqL.of hbl) ⟨Same.refl _, ⟨[], hD1, .nil⟩, _, _, rfl⟩ (fun i σ H' h => SqL.of (beside h.1 hbl hbD)) ?_ ?_
    · rintro i x σ H2 N hi2 ⟨s2, ⟨us, hD2, hus⟩, v3, v4, rfl⟩ hN
      obtain ⟨d, hdi, b2, rfl, hb2n, hb2⟩ := Paired.at hfs hi2
      have hdm := List.mem_of_getElem? hdi
      obtain ⟨hd1, hd2⟩ := fronts_len hdm
      have hdne : d ≠ [] := fun e => by rw [e] at hd1; simp at hd1; omega
      have hb2D : b2 ≠ D := fun e => by rw [e, upd_same] at hb2n; cases hb2n
      have hb22 := beside s2 hb2 hb2D
      have sH2 : Same H H2 := hide_from hD s01 s2
      have hul := paired_map hus
      have hull : us.length ≤ hi + 1 := by
        rw [hul]
        refine Nat.le_trans (List.length_filterMap_le _ _) ?_
        rw [List.length_take]
        omega
      walk_at "rd"
      refine t_lc_vals ((d.map VafmsBase.isLetter).map V.bl) (gv_var rfl) (SqL.of hb22) (by simp [nvs]) (by rw [nvs_length]; omega) (fun x => rfl) (fun m y z H3 hm hz s3 Q' q' => ?_) fun e H3 he s3 hel => ?_
      · unfold nvs at hm
        rw [List.getElem?_map] at hm
        cases hdm2 : d[m]? with
        | none => rw [hdm2] at hm; cases hm
        | some by_ =>
          rw [hdm2] at hm
          obtain rfl : V.int (Int.ofNat by_) = y := Option.some.inj hm
          rw [List.getElem?_map, List.getElem?_map, hdm2] at hz
          obtain rfl : V.bl (VafmsBase.isLetter by_) = z := Option.some.inj hz
          exact ⟨_, rfl, by_, rfl, q' _ (Same.refl _)⟩
      refine ⟨e, d.map VafmsBase.isLetter, rfl, SqL.of hel, _, rfl, ?_⟩
      have eall : (d.map VafmsBase.isLetter).all id = d.all VafmsBase.isLetter := by simp
      rw [eall]
      have s23 : Same (hideA D H1) (hideA D H3) := Same.trans s2 (hide_same s3)
      have hD3 := s3 _ _ hD2
      have hus3 := Paired.mapR hus fun v l (x : LeadAt c (hideZ (D :: Z) H2) v l) => x.same (hideZ_of s3)
      by_cases hdig : d.all VafmsBase.isLetter = true
      · rw [if_pos hdig]
        have hp3 := s3 _ _ (sH2 _ _ hp)
        have oc4 : ∀ H5, Same H3 H5 → ∀ z ∈ D :: Z, H5 z ≠ none := fun H5 s5 z m => by
          rcases List.mem_cons.mp m with rfl | m
          · rw [s5 _ _ hD3]
            simp
          · exact occ hzn (Same.trans sH2 (Same.trans s3 s5)) z m
        have hb3 := s3 _ _ hb22
        have hbz : hideZ (D :: Z) H3 b2 = some (.lst (nvs d)) := by
          rw [hideZ_ne]
          · exact hb3
          · intro m
            rcases List.mem_cons.mp m with m | m
            · exact hb2D m
            · exact occ hzn s0 b2 m hb2n
        walk_at "sq"
        refine ⟨_, rfl, b2, _, rfl, .inl (SqL.of hb3), by show 1 ≤ sizeLine; decide, fun e4 he4 => ?_⟩
        have s4 := Same.add (o := .lst [.int ((nvs d).length : Int)]) he4
        refine t_lc_vals (nvs (d.map fun x => x - 97)) (gv_var rfl) (SqL.of (s4 _ _ hb3)) (by simp [nvs]) (by rw [nvs_length]; omega) (fun x => rfl) (fun m y z H5 hm hz s5 Q' q' => ?_) fun e5 H5 he5 s5 hel5 => ?_
        · unfold nvs at hm hz
          rw [List.getElem?_map] at hm
          cases hdm2 : d[m]? with
          | none => rw [hdm2] at hm; cases hm
          | some by_ =>
            rw [hdm2] at hm
            obtain rfl : V.int (Int.ofNat by_) = y := Option.some.inj hm
            rw [List.getElem?_map, List.getElem?_map, hdm2] at hz
            obtain rfl : V.int (Int.ofNat (by_ - 97)) = z := Option.some.inj hz
            refine ⟨_, rfl, _, _, rfl, rfl, ?_⟩
            have hbl := isLetter_iff.mp (List.all_eq_true.mp hdig by_ (List.mem_of_getElem? hdm2))
            have e : Int.ofNat by_ - (97 : Int) = Int.ofNat (by_ - 97) := by
              show (by_ : Int) - 97 = ((by_ - 97 : Nat) : Int)
              omega
            show Q' (V.int (Int.ofNat by_ - (97 : Int))) H5
            rw [e]
            exact q' _ (Same.refl _)
        · have s35 := Same.trans s4 s5
          refine ⟨e4, e5, _, _, rfl, rfl, s5 _ _ upd_same, hel5, sz (by simp [nvs]; omega), fun e6 he6 => ?_⟩
          have s36 := Same.trans s35 (Same.add (o := .lst ([.int ((nvs d).length : Int)] ++ nvs (d.map fun x => x - 97))) he6)
          have enum : ([.int ((nvs d).length : Int)] ++ nvs (d.map fun x => x - 97) : List V) = nvs (d.length :: d.map fun x => x - 97) := by
            rw [nvs_length]
            rfl
          rw [enum] at s36 ⊢
          refine ⟨_, rfl, .inl ⟨rfl, _, SqL.of (s36 _ _ hD3)⟩, _, rfl, _, rfl, _, rfl, p, _, dx, _, _, rfl, s36 _ _ hp3, cl, n3, by walk_at "lk", fun y d1 hy hd1' hne => ?_⟩
          refine ⟨y, d1, _, rfl, rfl, upd_same, rfl, ?_⟩
          have mk := lead_made_z (c := c) (l := ⟨d.length :: d.map fun x => x - 97, d, n⟩) (oc4 _ s36) hy hd1' (z_new (oc4 _ s35) he6 upd_same) (hideZ_of s36 _ _ hbz)
          have s37 := Same.trans s36 mk.1
          have hD7 := s37 _ _ hD3
          have hus7 := Paired.mapR hus3 fun v l (x : LeadAt c (hideZ (D :: Z) H3) v l) => x.same (hideZ_of s37)
          have eg : g d = some ⟨d.length :: d.map fun x => x - 97, d, n⟩ := by
            rw [hg]
            exact if_pos hdig
          refine ⟨D, us, _, rfl, rfl, hD7, szl (by omega), hN _ _ ⟨Same.trans s23 (hideA_upd s37), ⟨_, upd_same, ?_⟩, _, _, rfl⟩⟩
          rw [filterMap_more g hdi, eg]
          exact paired_app (Paired.mapR hus7 fun v l (x : LeadAt c (hideZ (D :: Z) _) v l) => x.same (hideZ_upd (List.mem_cons_self ..))) (.cons (mk.2.same (hideZ_upd (List.mem_cons_self ..))) .nil)
      · rw [if_neg hdig]
        refine hN _ _ ⟨s23, ⟨us, hD3, ?_⟩, _, _, rfl⟩
        have eg : g d = none := by
          rw [hg]
          exact if_neg fun z => hdig z
        rw [filterMap_more g hdi, eg]
        simpa using hus3
    · rintro σ H2 ⟨s2, ⟨us, hD2, hus⟩, v3, v4, rfl⟩
      rw [hfl, List.take_length] at hus
      exact ⟨_, rfl, q D us H2 hD (hide_from hD s01 s2) hD2 hus⟩
/-! ### ChoiceStep -/
theorem sc_ChoiceStep_by_value : FnScope ["self", "numbers", "lead"] ["self", "numbers"] (defScope (inClass (topS 69) 1)) := ⟨rfl, rfl, rfl, by decide +kernel, rfl, by decide +kernel, by decide +kernel⟩
theorem find_take {α : Type} {p : α → Bool} {l : List α} {i : Nat} {x : α} (h : l[i]? = some x) (h0 : (l.take i).find? p = none) (hx : p x = true) : l.find? p = some x := by
  have e : l = l.take i ++ (l.drop i) := (List.take_append_drop i l).symm
  have hd : l.drop i = x :: l.drop (i + 1) := by
    obtain ⟨h1, h2⟩ := List.getElem?_eq_some_iff.mp h
    rw [List.drop_eq_getElem_cons h1, h2]
  rw [e, List.find?_append, h0, hd, List.find?_cons, hx]
  rfl
theorem d_ChoiceStep_by_value (T : Top K mg c) : MethOk P w K mg base CX0 3 c.ChoiceStep "by_value" (spBV c fun s => clsOf c s = c.ChoiceStep ∧ ∃ ls, s = .cho ls) := T.m_ChoiceStep_by_value.ok T.c_ChoiceStep.cl fun f fd F => by
  refine F.ok sc_ChoiceStep_by_value (fun vs H Q E h => ?_) (fun cdv A outer s H vs Q E hr h => ⟨_, (pss_cons (ps_for PassesOwn.never rfl (pi_list (pe_fld (pv 0) rfl)) (pg_name (i := 2) sc_ChoiceStep_by_value.nd rfl (.inl rfl))
 (pss_one (ps_if (pt_cmpR (op_eqD hr.units) (pe_fld (pv 2) rfl) (pe_slice sl_list (pv 1) po_none (po_some pe_int)) (nomark _))
 (pss_one (ps_ret (pv 2)))
 pss_nil)))
 (pss_one (ps_ret pe_non))), ?_⟩)
  · obtain ⟨Z, p, _, _, _, rfl, _⟩ := h
    rfl
  · obtain ⟨Z, v, a, s, u, rfl, hzn, ⟨hsel, ls, rfl⟩, ⟨p, dx, b, ws, rfl, hpz, hbz, hws⟩, hok, ha, hu, hl, q⟩ := h
    have hp := hideZ_same _ _ hpz
    have hb := hideZ_same _ _ hbz
    have cl := T.c_ChoiceStep.cl
    have hwl := paired_map hws
    rw [List.length_map] at hwl
    have ebv : Stp.byVal (.cho ls) u = (ls.find? fun l => decide (u.take 1 = [l.1])).map fun l => (⟨[l.1], [], l.2⟩ : Ld) := rfl
    walk_at "r0"
    refine seq_go ?_
    refine t_for (a := b) (xs := ws) (fun i σ H' => Same H H' ∧ (ls.take i).find? (fun l => decide (u.take 1 = [l.1])) = none ∧ ∃ v2, σ = [some (.ref p), some (.ref a), v2]) (gv_fld (gv_var rfl) hp cl (T.c_ChoiceStep.na _ (by simp)) (by walk_at "lk")) (SqL.of hb) ⟨Same.refl H, rfl, _, rfl⟩ (fun i σ H' h => SqL.of (h.1 _ _ hb)) ?_ ?_
    · rintro i x σ H1 N hi ⟨s1, hf, v2, rfl⟩ hN
      obtain ⟨l', hli, hla⟩ := Paired.at hws hi
      rw [List.getElem?_map] at hli
      cases hl2 : ls[i]? with
      | none => rw [hl2] at hli; cases hli
      | some l =>
        rw [hl2] at hli
        obtain rfl : (⟨[l.1], [], l.2⟩ : Ld) = l' := Option.some.inj hli
        obtain ⟨py, dy, a1, a2, rfl, hpy, ha1, ha2⟩ := hla.same hideZ_same
        walk_at "rd"
        refine ⟨_, rfl, py, _, dy, _, _, rfl, s1 _ _ hpy, T.c_Lead.cl, T.c_Lead.na _ (by simp), by walk_at "lk", _, rfl, _, rfl, a, _, rfl, SqL.of (s1 _ _ ha), fun e he => ?_⟩
        have ec : cutV (nvs u) none (some 1) = nvs (u.take 1) := by
          have := cut_to (nvs u) 1
          rw [show (some 1 : Option Int) = some ((1 : Nat) : Int) from rfl, this]
          unfold nvs
          rw [List.map_take]
        rw [ec]
        have s2 := Same.trans s1 (Same.add (o := .lst (nvs (u.take 1))) he)
        refine ⟨_, _, dp_nats (s2 _ _ ha1), dp_nats upd_same, shaped_ints _, shaped_ints _, _, rfl, ?_⟩
        rw [eq_ints]
        by_cases hc : u.take 1 = [l.1]
        · rw [if_pos (decide_eq_true (by rw [hc]))]
          have hfind := find_take hl2 hf (decide_eq_true hc)
          rw [ebv, hfind] at q
          exact ⟨_, rfl, q _ _ s2 (hla.same (hideZ_of s2))⟩
        · rw [if_neg (by rw [decide_eq_false (fun e => hc (nvs_inj.mp e).symm)]; exact Bool.false_ne_true)]
          refine hN _ _ ⟨s2, ?_, _, rfl⟩
          rw [take_more hl2, List.find?_append, hf, List.find?_cons, decide_eq_false hc]
          rfl
    · rintro σ H1 ⟨s1, hf, v2, rfl⟩
      rw [hwl, List.take_length] at hf
      rw [ebv, hf] at q
      exact q H1 s1
theorem sc_ChoiceStep_by_text : FnScope ["self", "text"] ["self", "text"] (defScope (inClass (topS 69) 2)) := ⟨rfl, rfl, rfl, by decide +kernel, rfl, by decide +kernel, by decide +kernel⟩
theorem d_ChoiceStep_by_text (T : Top K mg c) : MethOk P w K mg base CX0 1 c.ChoiceStep "by_text" (spBT c fun s => clsOf c s = c.ChoiceStep ∧ ∃ ls, s = .cho ls) := T.m_ChoiceStep_by_text.ok T.c_ChoiceStep.cl fun f fd F => by
  refine F.ok sc_ChoiceStep_by_text (fun vs H Q E h => ?_) (fun cdv A outer s H vs Q E hr h => ⟨_, (pss_one (ps_ret (pe_callTy call_list_of (by rfl) T.b_list (by decide +kernel) (pa_cons (pe_fld (pv 0) rfl) pa_nil)))), ?_⟩)
  · obtain ⟨Z, p, _, _, _, rfl, _⟩ := h
    rfl
  · obtain ⟨Z, v, a, s, u, rfl, hzn, ⟨hsel, ls, rfl⟩, ⟨p, dx, b, ws, rfl, hpz, hbz, hws⟩, hok, ha, hl, q⟩ := h
    have hp := hideZ_same _ _ hpz
    have hb := hideZ_same _ _ hbz
    walk_at "r0"
    refine ⟨_, rfl, p, _, dx, _, _, rfl, hp, T.c_ChoiceStep.cl, T.c_ChoiceStep.na _ (by simp), by walk_at "lk", b, ws, rfl, .inl (SqL.of hb), fun D hD => ?_⟩
    refine q D ws _ hD (Same.add hD) upd_same (Paired.mapR hws fun v l x => x.same (hideZ_new hD (hideZ_of (Same.add hD))))
end
end FX
end
section
set_option Elab.async false
set_option linter.all false
set_option maxHeartbeats 1000000
namespace FT
open VafmsBase
/-! what is laid stands behind what was laid, and leads ahead -/
theorem times_ext {f : List Stp → Nat → List Stp × Nat} (hf : ∀ S a, ∃ T, (f S a).1 = S ++ T) (sep : Text) (S : List Stp) (a : Nat) : ∀ n, ∃ T, (layTimes f sep n S a).1 = S ++ T
  | 0 => ⟨[], by simp [layTimes]⟩
  | 1 => hf S a
  | n + 2 => by
    obtain ⟨T, e⟩ := times_ext hf sep S a (n + 1)
    obtain ⟨U, e2⟩ := hf ((layTimes f sep (n + 1) S a).1 ++ [.txt sep ((layTimes f sep (n + 1) S a).2.getLastD 0)]) ((layTimes f sep (n + 1) S a).1.length + 1)
    refine ⟨T ++ ([.txt sep ((layTimes f sep (n + 1) S a).2.getLastD 0)] ++ U), ?_⟩
    show (f _ _).1 = _
    rw [e2, e]
    simp
theorem lay_ext : ∀ (f : Fmt) (S : List Stp) (a : Nat), ∃ T, (lay f S a).1 = S ++ T
  | .done, S, a => ⟨[], by simp [lay]⟩
  | .lit w r, S, a => by
    obtain ⟨T, e⟩ := lay_ext r S a
    exact ⟨T ++ [.txt w (lay r S a).2], by simp [lay, e]⟩
  | .num lo hi r, S, a => by
    obtain ⟨T, e⟩ := lay_ext r S a
    exact ⟨T ++ [.num lo hi (lay r S a).2], by simp [lay, e]⟩
  | .word lo hi r, S, a => by
    obtain ⟨T, e⟩ := lay_ext r S a
    exact ⟨T ++ [.word lo hi (lay r S a).2], by simp [lay, e]⟩
  | .alt p q r, S, a => by
    have h1 := lay_ext r S a
    have h2 := ext_trans h1 (lay_ext p (lay r S a).1 (lay r S a).2)
    have h3 := ext_trans h2 (lay_ext q (lay p (lay r S a).1 (lay r S a).2).1 (lay r S a).2)
    exact ext_trans h3 ⟨_, rfl⟩
  | .opt p r, S, a => by
    have h1 := lay_ext r S a
    have h2 := ext_trans h1 (lay_ext p (lay r S a).1 (lay r S a).2)
    exact ext_trans h2 ⟨_, rfl⟩
  | .rep s lo hi p r, S, a => by
    have h1 := lay_ext r S a
    have h2 := ext_trans h1 (times_ext (fun S a => lay_ext p S a) s (lay r S a).1 (lay r S a).2 hi)
    exact ext_trans h2 ⟨_, rfl⟩
theorem layCho_ext (p : Pce) (S : List Stp) (a : Nat) : ∃ T, (layCho p S a).1 = S ++ T := by
  unfold layCho
  split
  · exact ext_trans (lay_ext _ S a) (lay_ext _ _ _)
  · split
    · exact lay_ext _ S a
    · exact times_ext (fun S a => lay_ext _ S a) _ S a _
theorem layPce_ext (p : Pce) (S : List Stp) (a : Nat) : ∃ T, (layPce p S a).1 = S ++ T := by
  unfold layPce
  split
  · exact ⟨_, rfl⟩
  · split
    · exact ⟨_, rfl⟩
    · split
      · exact ⟨_, rfl⟩
      · exact ext_trans (layCho_ext p S a) ⟨_, rfl⟩
theorem pces_ext (S : List Stp) (a : Nat) : ∀ l : List Pce, ∃ T, (l.foldr (fun p x => layPce p x.1 x.2) (S, a)).1 = S ++ T
  | [] => ⟨[], by simp⟩
  | p :: l => ext_trans (pces_ext S a l) (layPce_ext p _ _)
theorem times_count (f : List Stp → Nat → List Stp × Nat) (sep : Text) (S : List Stp) (a : Nat) : ∀ n, (layTimes f sep n S a).2.length = n + 1
  | 0 => rfl
  | 1 => rfl
  | n + 2 => by
    show ((layTimes f sep (n + 1) S a).2 ++ [_]).length = _
    rw [List.length_append, times_count f sep S a (n + 1)]
    rfl
theorem getLastD_mem : ∀ (l : List Nat) (x : Nat), l.getLastD x ∈ x :: l
  | [], x => List.mem_cons_self ..
  | y :: l, x => by
    rw [List.getLastD_cons]
    exact List.mem_cons_of_mem _ (getLastD_mem l y)
/-! ### all steps are fine -/
def tgts : Stp → List Nat
  | .txt _ t => [t]
  | .num _ _ t => [t]
  | .word _ _ t => [t]
  | .cho ls => ls.map (·.2)
def Good (S : List Stp) : Prop := ∀ (i : Nat) (s : Stp), S[i]? = some s → FX.StpOk s ∧ ∀ t ∈ tgts s, t ≤ i
theorem Good.snoc {S : List Stp} {s : Stp} (h : Good S) (h1 : FX.StpOk s) (h2 : ∀ t ∈ tgts s, t ≤ S.length) : Good (S ++ [s]) := fun i x hi => by
  by_cases hl : i < S.length
  · rw [List.getElem?_append_left hl] at hi
    exact h i x hi
  · rw [List.getElem?_append_right (by omega)] at hi
    have e0 : i - S.length = 0 := by
      cases e : i - S.length with
      | zero => rfl
      | succ m => rw [e] at hi; simp at hi
    rw [e0] at hi
    obtain rfl : s = x := Option.some.inj hi
    exact ⟨h1, fun t ht => Nat.le_trans (h2 t ht) (by omega)⟩
theorem times_good {f : List Stp → Nat → List Stp × Nat} (hf : ∀ S a, Good S → a ≤ S.length → Good (f S a).1 ∧ (f S a).2 ≤ (f S a).1.length) (he : ∀ S a, ∃ T, (f S a).1 = S ++ T) (sep : Text) (hs : sep.length ≤ 8) (S : List Stp) (a : Nat) (g : Good S) (ha : a ≤ S.length) :
    ∀ n, Good (layTimes f sep n S a).1 ∧ ∀ t ∈ (layTimes f sep n S a).2, t ≤ (layTimes f sep n S a).1.length
  | 0 => ⟨g, fun t ht => by
    rcases List.mem_cons.mp ht with rfl | ht
    · exact ha
    · cases ht⟩
  | 1 => ⟨(hf S a g ha).1, fun t ht => by
    rcases List.mem_cons.mp ht with rfl | ht
    · exact Nat.le_trans ha (ext_le (he S _))
    · rcases List.mem_cons.mp ht with rfl | ht
      · exact (hf S a g ha).2
      · cases ht⟩
  | n + 2 => by
    obtain ⟨g1, l1⟩ := times_good hf he sep hs S a g ha (n + 1)
    have hlast : (layTimes f sep (n + 1) S a).2.getLastD 0 ∈ (layTimes f sep (n + 1) S a).2 := by
      have hc := times_count f sep S a (n + 1)
      cases e : (layTimes f sep (n + 1) S a).2 with
      | nil => rw [e] at hc; simp at hc
      | cons x l =>
        rw [List.getLastD_cons]
        exact getLastD_mem l x
    have g2 : Good ((layTimes f sep (n + 1) S a).1 ++ [.txt sep ((layTimes f sep (n + 1) S a).2.getLastD 0)]) := g1.snoc hs fun t ht => by
      rcases List.mem_cons.mp ht with rfl | ht
      · exact l1 _ hlast
      · cases ht
    have h := hf _ ((layTimes f sep (n + 1) S a).1.length + 1) g2 (by simp)
    have e := ext_le (he ((layTimes f sep (n + 1) S a).1 ++ [.txt sep ((layTimes f sep (n + 1) S a).2.getLastD 0)]) ((layTimes f sep (n + 1) S a).1.length + 1))
    rw [List.length_append] at e
    refine ⟨h.1, fun t ht => ?_⟩
    rcases List.mem_append.mp ht with ht | ht
    · have := l1 t ht
      show t ≤ (f _ _).1.length
      omega
    · rcases List.mem_cons.mp ht with rfl | ht
      · exact h.2
      · cases ht
theorem downFrom_len_mem : ∀ (hi lo : Nat), (downFrom lo hi).length ≤ hi + 1 ∧ ∀ n ∈ downFrom lo hi, n ≤ hi
  | 0, lo => by
    rw [downFrom_zero]
    split
    · exact ⟨Nat.le_refl _, fun n hn => by
        rcases List.mem_cons.mp hn with rfl | hn
        · exact Nat.le_refl _
        · cases hn⟩
    · exact ⟨Nat.zero_le _, fun n hn => by cases hn⟩
  | hi + 1, lo => by
    obtain ⟨h1, h2⟩ := downFrom_len_mem hi lo
    rw [downFrom_succ]
    split
    · exact ⟨by rw [List.length_cons]; omega, fun n hn => by
        rcases List.mem_cons.mp hn with rfl | hn
        · exact Nat.le_refl _
        · have := h2 n hn
          omega⟩
    · exact ⟨Nat.zero_le _, fun n hn => by cases hn⟩
theorem lay_good : ∀ (f : Fmt) (S : List Stp) (a : Nat), okPieces f = true → Good S → a ≤ S.length → Good (lay f S a).1 ∧ (lay f S a).2 ≤ (lay f S a).1.length
  | .done, S, a, _, g, ha => ⟨g, ha⟩
  | .lit w r, S, a, ho, g, ha => by
    have q : (!w.isEmpty && ((decide (w.length ≤ 8) && w.all okByte) && okPieces r)) = true := ho
    simp only [Bool.and_eq_true, decide_eq_true_eq] at q
    obtain ⟨g1, l1⟩ := lay_good r S a q.2.2 g ha
    refine ⟨g1.snoc q.2.1.1 fun t ht => ?_, by simp [lay]⟩
    rcases List.mem_cons.mp ht with rfl | ht
    · exact l1
    · cases ht
  | .num lo hi r, S, a, ho, g, ha => by
    have q : (decide (1 ≤ lo) && (decide (lo ≤ hi) && (decide (hi ≤ 4) && okPieces r))) = true := ho
    simp only [Bool.and_eq_true, decide_eq_true_eq] at q
    obtain ⟨g1, l1⟩ := lay_good r S a q.2.2.2 g ha
    refine ⟨g1.snoc ⟨q.1, q.2.1, q.2.2.1⟩ fun t ht => ?_, by simp [lay]⟩
    rcases List.mem_cons.mp ht with rfl | ht
    · exact l1
    · cases ht
  | .word lo hi r, S, a, ho, g, ha => by
    have q : (decide (1 ≤ lo) && (decide (lo ≤ hi) && (decide (hi ≤ 4) && okPieces r))) = true := ho
    simp only [Bool.and_eq_true, decide_eq_true_eq] at q
    obtain ⟨g1, l1⟩ := lay_good r S a q.2.2.2 g ha
    refine ⟨g1.snoc ⟨q.1, q.2.1, q.2.2.1⟩ fun t ht => ?_, by simp [lay]⟩
    rcases List.mem_cons.mp ht with rfl | ht
    · exact l1
    · cases ht
  | .alt p q r, S, a, ho, g, ha => by
    have h' : (okPieces p && (okPieces q && okPieces r)) = true := ho
    simp only [Bool.and_eq_true] at h'
    obtain ⟨g1, l1⟩ := lay_good r S a h'.2.2 g ha
    obtain ⟨g2, l2⟩ := lay_good p _ _ h'.1 g1 l1
    have e2 := ext_le (lay_ext p (lay r S a).1 (lay r S a).2)
    obtain ⟨g3, l3⟩ := lay_good q _ (lay r S a).2 h'.2.1 g2 (by omega)
    have e3 := ext_le (lay_ext q (lay p (lay r S a).1 (lay r S a).2).1 (lay r S a).2)
    refine ⟨g3.snoc (by show 2 ≤ 10; decide) fun t ht => ?_, by simp [lay]⟩
    rcases List.mem_cons.mp ht with rfl | ht
    · exact Nat.le_trans l2 e3
    · rcases List.mem_cons.mp ht with rfl | ht
      · exact l3
      · cases ht
  | .opt p r, S, a, ho, g, ha => by
    have h' : (okPieces p && okPieces r) = true := ho
    simp only [Bool.and_eq_true] at h'
    obtain ⟨g1, l1⟩ := lay_good r S a h'.2 g ha
    obtain ⟨g2, l2⟩ := lay_good p _ _ h'.1 g1 l1
    have e2 := ext_le (lay_ext p (lay r S a).1 (lay r S a).2)
    refine ⟨g2.snoc (by show 2 ≤ 10; decide) fun t ht => ?_, by simp [lay]⟩
    rcases List.mem_cons.mp ht with rfl | ht
    · exact l2
    · rcases List.mem_cons.mp ht with rfl | ht
      · exact Nat.le_trans l1 e2
      · cases ht
  | .rep s lo hi p r, S, a, ho, g, ha => by
    have q : ((decide (s.length ≤ 8) && s.all okByte) && (decide (lo ≤ hi) && (decide (hi ≤ 4) && (!p.hasRep && (okPieces p && okPieces r))))) = true := ho
    simp only [Bool.and_eq_true, decide_eq_true_eq] at q
    obtain ⟨g1, l1⟩ := lay_good r S a q.2.2.2.2.2 g ha
    obtain ⟨g2, l2⟩ := times_good (f := fun S a => lay p S a) (fun S a gS ha => lay_good p S a q.2.2.2.2.1 gS ha) (fun S a => lay_ext p S a) s q.1.1 _ _ g1 l1 hi
    have hd := downFrom_len_mem hi lo
    refine ⟨g2.snoc (by show ((downFrom lo hi).map _).length ≤ 10; rw [List.length_map]; omega) fun t ht => ?_, by simp [lay]⟩
    obtain ⟨x, hx, rfl⟩ := List.mem_map.mp ht
    obtain ⟨n, hn, rfl⟩ := List.mem_map.mp hx
    show (layTimes (fun S a => lay p S a) s hi (lay r S a).1 (lay r S a).2).2.getD n 0 ≤ _
    have hc := times_count (fun S a => lay p S a) s (lay r S a).1 (lay r S a).2 hi
    have hnh := hd.2 n hn
    rw [List.getD_eq_getElem?_getD, List.getElem?_eq_getElem (by omega)]
    exact l2 _ (List.getElem_mem _)
end FT
end
section
set_option Elab.async false
set_option linter.all false
set_option maxRecDepth 100000
set_option maxHeartbeats 4000000
namespace FX
open PySem PySem.Spec PyProof.Rows L2 FT
open VafmsBase (Fmt)
local macro_rules | `(tactic| walk_at "rd") => `(tactic| try dsimp only [tAug, tOp, tC, tCB, tCons, tNil, gName, tVar, tAsg, tRet, tIfS, tTest, tB, tNext, tDrop, tFld, tCKw, tCall, tMeth, rI0, rI, CMul, rEq, rNe, rEqD, rNeD, tBM, rAppend, rExtend, rCat, rIn, rIxT, rIxL, tSl, rSlL, tPart, tNoPart, tChain, tUn, rU, tIf, tNot, tOr, tAnd, tMake, sFld, tLst, tTup, pad, List.set, List.getElem?_cons_zero, List.getElem?_cons_succ, cxOf, List.map_cons, List.map_nil, List.append_nil, List.cons_append, List.nil_append])
local macro_rules | `(tactic| walk_at "sq") => `(tactic| (refine seq_go ?_; walk_at "rd"))
local macro_rules | `(tactic| walk_at "r0") => `(tactic| (rw [start_pad (by rfl)]; walk_at "rd"))
local macro_rules | `(tactic| walk_at "lk") => `(tactic| first
  | exact lk_here
  | exact (lk_past (by decide +kernel)).trans lk_here
  | exact (lk_past (by decide +kernel)).trans ((lk_past (by decide +kernel)).trans lk_here)
  | exact (lk_past (by decide +kernel)).trans ((lk_past (by decide +kernel)).trans ((lk_past (by decide +kernel)).trans lk_here)))
section
variable {P : Program} {w : World} {K : PySem.W.Frag} {mg : Str → Option Value} {base : Heap} {c : Cs}
/-- at A a list of steps, each beside Z; the end stands first -/
def PlanAt (c : Cs) (Z : List Addr) (H : Hp) (A : Addr) (S : List Stp) : Prop := A ∈ Z ∧ (∀ z ∈ Z, H z ≠ none) ∧ ∃ vs, H A = some (.lst (.non :: vs)) ∧ Paired (StepAt c (hideZ Z H)) vs S
theorem PlanAt.same {Z : List Addr} {H H' : Hp} {A : Addr} {S : List Stp} (h : PlanAt c Z H A S) (s : Same H H') : PlanAt c Z H' A S := by
  obtain ⟨h0, hz, vs, h1, h2⟩ := h
  exact ⟨h0, fun z m => Same.some s (hz z m), vs, s _ _ h1, Paired.mapR h2 fun a b x => x.same (hideZ_of s)⟩
/-- D is new: what is laid stands beside it, too -/
theorem PlanAt.wide {Z : List Addr} {H H' : Hp} {A D : Addr} {S : List Stp} (h : PlanAt c Z H A S) (hD : H D = none) (s : Same H H') (hD' : H' D ≠ none) : PlanAt c (D :: Z) H' A S := by
  obtain ⟨h0, hz, vs, h1, h2⟩ := h
  exact ⟨List.mem_cons_of_mem _ h0, fun z m => by
    rcases List.mem_cons.mp m with rfl | m
    · exact hD'
    · exact Same.some s (hz z m), vs, s _ _ h1, Paired.mapR h2 fun a b x => x.same (hideZ_new hD (hideZ_of s))⟩
/-- an object of Z other than A may change -/
theorem PlanAt.put {Z : List Addr} {H : Hp} {A D : Addr} {S : List Stp} {o : HO} (h : PlanAt c Z H A S) (hD : D ∈ Z) (hne : A ≠ D) : PlanAt c Z (upd H D o) A S := by
  obtain ⟨h0, hz, vs, h1, h2⟩ := h
  refine ⟨h0, fun z m => ?_, vs, by rw [upd_ne hne]; exact h1, Paired.mapR h2 fun a b x => x.same (hideZ_upd hD)⟩
  by_cases e : z = D
  · rw [e, upd_same]; simp
  · rw [upd_ne e]; exact hz z m
theorem PlanAt.less {Z : List Addr} {H : Hp} {A D : Addr} {S : List Stp} (h : PlanAt c (D :: Z) H A S) (hA : A ∈ Z) : PlanAt c Z H A S := by
  obtain ⟨h0, hz, vs, h1, h2⟩ := h
  exact ⟨hA, fun z m => hz z (List.mem_cons_of_mem _ m), vs, h1, Paired.mapR h2 fun a b x => x.same hideZ_more⟩
/-- D is no object of H: changes of A and of D are none beside A -/
theorem hideA_chg {A D : Addr} {H H' : Hp} {o : HO} (s : Same (hideA A H) (hideA A H')) (hD : H D = none) : Same (hideA A H) (hideA A (upd H' D o)) := fun b u e => by
  have e2 := s b u e
  unfold hideA at e e2 ⊢
  split at e
  · cases e
  · rename_i h
    rw [if_neg h] at e2 ⊢
    rw [upd_ne fun z => ?_]
    · exact e2
    · rw [z, hD] at e; cases e
def spLayStep (c : Cs) : Sp := fun vs H Q _ => ∃ (Z : List Addr) (A : Addr) (v : V) (S : List Stp) (s : Stp), vs = [.ref A, v] ∧ PlanAt c Z H A S ∧ StepAt c (hideZ Z H) v s ∧ S.length ≤ 90000 ∧
  ∀ H', Same (hideA A H) (hideA A H') → PlanAt c Z H' A (S ++ [s]) → Q (.int (Int.ofNat (S.length + 1))) H'
theorem sc_lay_step : FnScope ["steps", "step"] ["steps", "step"] (defScope (topS 76)) := ⟨rfl, rfl, rfl, by decide +kernel, rfl, by decide +kernel, by decide +kernel⟩
theorem d_lay_step (T : Top K mg c) : DefOk P w K mg base CX0 1 "lay_step" (spLayStep c) := T.a_lay_step.ok fun f fd F => by
  refine F.ok sc_lay_step (fun vs H Q E h => ?_) (fun cdv A outer s H vs Q E hr h => ⟨_, (pss_cons (ps_expr (pe_bm PySem.F.plainAttrs_list PySem.F.slot_list_append PySem.F.type_list_append mt_append (pv 0) (pa_cons (pv 1) pa_nil)))
 (pss_one (ps_ret (pe_op op_sub (pe_callB call_len_seq (by rfl) T.b_len (by decide +kernel) (pa_cons (pv 0) pa_nil)) pe_int)))), ?_⟩)
  · obtain ⟨Z, p, _, _, _, rfl, _⟩ := h
    rfl
  · obtain ⟨Z, a, v, S, s, rfl, ⟨hZ, hzn, us, ha, hus⟩, hv, hl, q⟩ := h
    have hul := paired_map hus
    walk_at "r0"
    walk_at "sq"
    refine ⟨_, rfl, .inl ⟨rfl, _, SqL.of ha⟩, _, rfl, a, _, _, rfl, rfl, ha, szl (by rw [List.length_cons]; omega), ?_⟩
    refine ⟨_, rfl, a, _, rfl, .inl (SqL.of upd_same), _, _, rfl, rfl, ?_⟩
    have e : ((V.non :: us ++ [v]).length : Int) - 1 = Int.ofNat (S.length + 1) := by
      rw [List.length_append, List.length_cons, hul]
      show ((S.length + 1 + 1 : Nat) : Int) - 1 = ((S.length + 1 : Nat) : Int)
      omega
    rw [e]
    refine q _ (hideA_upd (Same.refl H)) ⟨hZ, fun z m => ?_, us ++ [v], upd_same, ?_⟩
    · by_cases e : z = a
      · rw [e, upd_same]; simp
      · rw [upd_ne e]; exact hzn z m
    exact paired_app (Paired.mapR hus fun a b x => x.same (hideZ_upd hZ)) (.cons (hv.same (hideZ_upd hZ)) .nil)
/-! ### rows and pieces -/
/-- lay_row for rows less deep than d -/
def spLayRow (c : Cs) (d : Nat) : Sp := fun vs H Q _ => ∃ (Z : List Addr) (A r : Addr) (S : List Stp) (f : Fmt) (a : Nat), vs = [.ref A, .ref r, .int (Int.ofNat a)] ∧ PlanAt c Z H A S ∧ RowAt c (hideZ Z H) r f ∧ depth f < d ∧ VafmsBase.okPieces f = true ∧ (lay f S a).1.length ≤ 90000 ∧
  ∀ H', Same (hideA A H) (hideA A H') → PlanAt c Z H' A (lay f S a).1 → Q (.int (Int.ofNat (lay f S a).2)) H'
def spLayPiece (c : Cs) (d : Nat) : Sp := fun vs H Q _ => ∃ (Z : List Addr) (A : Addr) (v : V) (S : List Stp) (g : Fmt) (p : Pce) (a : Nat), vs = [.ref A, v, .int (Int.ofNat a)] ∧ PlanAt c Z H A S ∧ PceAt c (hideZ Z H) v p ∧ p ∈ pces g ∧ VafmsBase.okPieces g = true ∧ (∀ x ∈ p.rows, depth x < d) ∧ (layPce p S a).1.length ≤ 90000 ∧
  ∀ H', Same (hideA A H) (hideA A H') → PlanAt c Z H' A (layPce p S a).1 → Q (.int (Int.ofNat (layPce p S a).2)) H'
def spChoices (c : Cs) (d : Nat) : Sp := fun vs H Q _ => ∃ (Z : List Addr) (A : Addr) (v : V) (S : List Stp) (g : Fmt) (p : Pce) (a : Nat), vs = [.ref A, v, .int (Int.ofNat a)] ∧ PlanAt c Z H A S ∧ PceAt c (hideZ Z H) v p ∧ p ∈ pces g ∧ VafmsBase.okPieces g = true ∧ 3 ≤ p.kind ∧ (∀ x ∈ p.rows, depth x < d) ∧ (layCho p S a).1.length ≤ 90000 ∧
  ∀ D ws H', Same (hideA A H) (hideA A H') → PlanAt c Z H' A (layCho p S a).1 → (hideZ Z H') D = some (.lst ws) → Paired (LeadAt c (hideZ Z H')) ws ((layCho p S a).2.map fun l => (⟨[l.1], [], l.2⟩ : Ld)) → Q (.ref D) H'
def spLayTimes (c : Cs) (d : Nat) : Sp := fun vs H Q _ => ∃ (Z : List Addr) (A : Addr) (v : V) (S : List Stp) (g : Fmt) (p : Pce) (a : Nat), vs = [.ref A, v, .int (Int.ofNat a)] ∧ PlanAt c Z H A S ∧ PceAt c (hideZ Z H) v p ∧ p ∈ pces g ∧ VafmsBase.okPieces g = true ∧ p.kind = 5 ∧ (∀ x ∈ p.rows, depth x < d) ∧ (layCho p S a).1.length ≤ 90000 ∧
  ∀ D H', H D = none → Same (hideA A H) (hideA A H') → PlanAt c Z H' A (layCho p S a).1 → H' D = some (.lst (nvs (layTimes (fun S a => lay (row0 p) S a) p.text p.hi S a).2)) → Q (.ref D) H'
end
end FX
end
section
set_option Elab.async false
set_option linter.all false
set_option maxRecDepth 100000
set_option maxHeartbeats 4000000
namespace FX
open PySem PySem.Spec PyProof.Rows L2 FT
open VafmsBase (Fmt)
local macro_rules | `(tactic| walk_at "rd") => `(tactic| try dsimp only [tAug, tOp, tC, tCB, tCons, tNil, gName, tVar, tAsg, tRet, tIfS, tTest, tB, tNext, tDrop, tFld, tCKw, tCall, tMeth, rI0, rI, CMul, rEq, rNe, rEqD, rNeD, tBM, rAppend, rExtend, rCat, rIn, rIxT, rIxL, tSl, rSlL, tPart, tNoPart, tChain, tUn, rU, tIf, tNot, tOr, tAnd, tMake, sFld, tLst, tTup, pad, List.set, List.getElem?_cons_zero, List.getElem?_cons_succ, cxOf, List.map_cons, List.map_nil, List.append_nil, List.cons_append, List.nil_append])
local macro_rules | `(tactic| walk_at "sq") => `(tactic| (refine seq_go ?_; walk_at "rd"))
local macro_rules | `(tactic| walk_at "r0") => `(tactic| (rw [start_pad (by rfl)]; walk_at "rd"))
local macro_rules | `(tactic| walk_at "lk") => `(tactic| first
  | exact lk_here
  | exact (lk_past (by decide +kernel)).trans lk_here
  | exact (lk_past (by decide +kernel)).trans ((lk_past (by decide +kernel)).trans lk_here)
  | exact (lk_past (by decide +kernel)).trans ((lk_past (by decide +kernel)).trans ((lk_past (by decide +kernel)).trans lk_here)))
section
variable {P : Program} {w : World} {K : PySem.W.Frag} {mg : Str → Option Value} {base : Heap} {c : Cs}
theorem sc_lay_piece : FnScope ["steps", "piece", "after"] ["steps", "piece", "after"] (defScope (topS 75)) := ⟨rfl, rfl, rfl, by decide +kernel, rfl, by decide +kernel, by decide +kernel⟩
theorem d_lay_piece (T : Top K mg c) {d k : Nat} (hk : 2 ≤ k) (D : DefOk P w K mg base CX0 k "choices" (spChoices c d)) : DefOk P w K mg base CX0 (k + 1) "lay_piece" (spLayPiece c d) := T.a_lay_piece.ok fun f fd F => by
  refine F.ok sc_lay_piece (fun vs H Q E h => ?_) (fun cdv A outer s H vs Q E hr h => ⟨_, (pss_cons (ps_if (pt_cmpR op_eq (pe_fld (pv 1) rfl) (pe_num T.n_LITERAL) (nomark _))
 (pss_one (ps_ret (pcall (d_lay_step T) (hr.mono (by omega)) pass0 (pa_cons (pv 0) (pa_cons (pmake (m_TextStep T) (hr.mono hk) pass0 (pa_cons (pe_fld (pv 1) rfl) (pa_cons (pv 2) pa_nil))) pa_nil)))))
 pss_nil)
 (pss_cons (ps_if (pt_cmpR op_eq (pe_fld (pv 1) rfl) (pe_num T.n_NUMBER) (nomark _))
 (pss_one (ps_ret (pcall (d_lay_step T) (hr.mono (by omega)) pass0 (pa_cons (pv 0) (pa_cons (pmake (m_NumberStep T) (hr.mono hk) pass0 (pa_cons (pe_fld (pv 1) rfl) (pa_cons (pe_fld (pv 1) rfl) (pa_cons (pv 2) pa_nil)))) pa_nil)))))
 pss_nil)
 (pss_cons (ps_if (pt_cmpR op_eq (pe_fld (pv 1) rfl) (pe_num T.n_WORD) (nomark _))
 (pss_one (ps_ret (pcall (d_lay_step T) (hr.mono (by omega)) pass0 (pa_cons (pv 0) (pa_cons (pmake (m_WordStep T) (hr.mono hk) pass0 (pa_cons (pe_fld (pv 1) rfl) (pa_cons (pe_fld (pv 1) rfl) (pa_cons (pv 2) pa_nil)))) pa_nil)))))
 pss_nil)
 (pss_one (ps_ret (pcall (d_lay_step T) (hr.mono (by omega)) pass0 (pa_cons (pv 0) (pa_cons (pmake (m_ChoiceStep T) (hr.mono hk) pass0 (pa_cons (pcall D (hr.mono (by omega)) pass0 (pa_cons (pv 0) (pa_cons (pv 1) (pa_cons (pv 2) pa_nil)))) pa_nil)) pa_nil)))))))), ?_⟩)
  · obtain ⟨Z, p, _, _, _, _, _, rfl, _⟩ := h
    rfl
  · obtain ⟨Z, p, v, S, g, pc, a, rfl, hpl, hpc, hpm, hok, hdep, hlen, q⟩ := h
    obtain ⟨rs, ⟨pa, dx, ta, ra, rfl, hPz, hTz, hRz⟩, hrows⟩ := id hpc
    have hP := hideZ_same _ _ hPz
    have c1 := T.c_Piece.cl
    have nk := T.c_Piece.na "kind" (by simp)
    have hzn := hpl.2.1
    obtain ⟨ok1, ok2, ok3, ok4, ok5, ok6⟩ := ok_pces hok pc hpm
    have hS : S.length ≤ 90000 := Nat.le_trans (ext_le (layPce_ext pc S a)) hlen
    walk_at "r0"
    walk_at "sq"
    refine ⟨_, rfl, pa, c.Piece, dx, _, _, rfl, hP, c1, nk, pcF_kind, rfl, _, rfl, ?_⟩
    by_cases h0 : pc.kind = 0
    · rw [if_pos (decide_eq_true (by rw [h0]; rfl))]
      have e : layPce pc S a = (S ++ [.txt pc.text a], S.length + 1) := if_pos h0
      rw [e] at q hlen
      walk_at "rd"
      refine ⟨_, rfl, _, rfl, pa, c.Piece, dx, _, _, rfl, hP, c1, T.c_Piece.na _ (by simp), pcF_text, _, rfl, fun y d1 hy hd1 hne => ⟨y, d1, _, rfl, rfl, upd_same, rfl, ?_⟩⟩
      have mk := made (C := c.TextStep) (fs := [("text", .ref ta), ("target", .int (Int.ofNat a))]) hy hd1
      refine ⟨Z, p, _, S, .txt pc.text a, rfl, hpl.same mk.1, ⟨y, d1, ta, rfl, z_new hzn hy mk.2, hideZ_of mk.1 _ _ hTz⟩, by omega, fun H' s' pl' => q H' (Same.trans (hide_same mk.1) s') pl'⟩
    rw [if_neg (by
      rw [decide_eq_false (fun e => h0 (by injection e; omega))]
      exact Bool.false_ne_true)]
    walk_at "sq"
    refine ⟨_, rfl, pa, c.Piece, dx, _, _, rfl, hP, c1, nk, pcF_kind, rfl, _, rfl, ?_⟩
    by_cases h1 : pc.kind = 1
    · rw [if_pos (decide_eq_true (by rw [h1]; rfl))]
      have e : layPce pc S a = (S ++ [.num pc.lo pc.hi a], S.length + 1) := by
        unfold layPce
        rw [if_neg h0, if_pos h1]
      rw [e] at q hlen
      walk_at "rd"
      refine ⟨_, rfl, _, rfl, pa, c.Piece, dx, _, _, rfl, hP, c1, T.c_Piece.na _ (by simp), pcF_lo, _, rfl, pa, c.Piece, dx, _, _, rfl, hP, c1, T.c_Piece.na _ (by simp), pcF_hi, _, rfl, fun y d1 hy hd1 hne => ⟨y, d1, _, rfl, rfl, upd_same, rfl, ?_⟩⟩
      have mk := made (C := c.NumberStep) (fs := [("lo", .int (Int.ofNat pc.lo)), ("hi", .int (Int.ofNat pc.hi)), ("target", .int (Int.ofNat a))]) hy hd1
      refine ⟨Z, p, _, S, .num pc.lo pc.hi a, rfl, hpl.same mk.1, ⟨y, d1, rfl, z_new hzn hy mk.2⟩, by omega, fun H' s' pl' => q H' (Same.trans (hide_same mk.1) s') pl'⟩
    rw [if_neg (by
      rw [decide_eq_false (fun e => h1 (by injection e; omega))]
      exact Bool.false_ne_true)]
    walk_at "sq"
    refine ⟨_, rfl, pa, c.Piece, dx, _, _, rfl, hP, c1, nk, pcF_kind, rfl, _, rfl, ?_⟩
    by_cases h2 : pc.kind = 2
    · rw [if_pos (decide_eq_true (by rw [h2]; rfl))]
      have e : layPce pc S a = (S ++ [.word pc.lo pc.hi a], S.length + 1) := by
        unfold layPce
        rw [if_neg h0, if_neg h1, if_pos h2]
      rw [e] at q hlen
      walk_at "rd"
      refine ⟨_, rfl, _, rfl, pa, c.Piece, dx, _, _, rfl, hP, c1, T.c_Piece.na _ (by simp), pcF_lo, _, rfl, pa, c.Piece, dx, _, _, rfl, hP, c1, T.c_Piece.na _ (by simp), pcF_hi, _, rfl, fun y d1 hy hd1 hne => ⟨y, d1, _, rfl, rfl, upd_same, rfl, ?_⟩⟩
      have mk := made (C := c.WordStep) (fs := [("lo", .int (Int.ofNat pc.lo)), ("hi", .int (Int.ofNat pc.hi)), ("target", .int (Int.ofNat a))]) hy hd1
      refine ⟨Z, p, _, S, .word pc.lo pc.hi a, rfl, hpl.same mk.1, ⟨y, d1, rfl, z_new hzn hy mk.2⟩, by omega, fun H' s' pl' => q H' (Same.trans (hide_same mk.1) s') pl'⟩
    rw [if_neg (by
      rw [decide_eq_false (fun e => h2 (by injection e; omega))]
      exact Bool.false_ne_true)]
    have e : layPce pc S a = ((layCho pc S a).1 ++ [.cho (layCho pc S a).2], (layCho pc S a).1.length + 1) := by
      unfold layPce
      rw [if_neg h0, if_neg h1, if_neg h2]
    rw [e] at q hlen
    rw [List.length_append, List.length_singleton] at hlen
    walk_at "rd"
    refine ⟨_, rfl, _, rfl, _, rfl, _, rfl, Z, p, _, S, g, pc, a, rfl, hpl, hpc, hpm, hok, by omega, hdep, by omega, fun D1 ws H1 s1 hpl1 hD1 hws y d1 hy hd1 hne => ⟨y, d1, _, rfl, rfl, upd_same, rfl, ?_⟩⟩
    have mk := made (C := c.ChoiceStep) (fs := [("leads", .ref D1)]) hy hd1
    refine ⟨Z, p, _, _, .cho (layCho pc S a).2, rfl, hpl1.same mk.1, ⟨y, d1, D1, ws, rfl, z_new hpl1.2.1 hy mk.2, hideZ_of mk.1 _ _ hD1, Paired.mapR hws fun v l x => x.same (hideZ_of mk.1)⟩, by omega, fun H' s' pl' => q H' (Same.trans s1 (Same.trans (hide_same mk.1) s')) pl'⟩
theorem sc_lay_row : FnScope ["steps", "row", "after", "piece"] ["steps", "row", "after"] (defScope (topS 74)) := ⟨rfl, rfl, rfl, by decide +kernel, rfl, by decide +kernel, by decide +kernel⟩
theorem drop_back {α : Type} {l : List α} {i : Nat} {p : α} (h : l[l.length - 1 - i]? = some p) (hi : i < l.length) : l.drop (l.length - (i + 1)) = p :: l.drop (l.length - i) := by
  obtain ⟨h1, h2⟩ := List.getElem?_eq_some_iff.mp h
  have e : l.length - (i + 1) = l.length - 1 - i := by omega
  rw [e, List.drop_eq_getElem_cons h1, h2]
  congr 2
  omega
theorem d_lay_row (T : Top K mg c) {d k : Nat} (hk : 1 ≤ k) (D : DefOk P w K mg base CX0 k "lay_piece" (spLayPiece c d)) : DefOk P w K mg base CX0 (k + 1) "lay_row" (spLayRow c (d + 1)) := T.a_lay_row.ok fun f fd F => by
  refine F.ok sc_lay_row (fun vs H Q E h => ?_) (fun cdv A outer s H vs Q E hr h => ⟨_, (pss_cons (ps_for PassesOwn.never rfl (pi_reversed (by rfl) T.b_reversed (pa_cons (pv 1) pa_nil)) (pg_name (i := 3) sc_lay_row.nd rfl (.inl rfl))
 (pss_one (ps_set (i := 2) sc_lay_row.nd rfl (.inl rfl) (pcall D (hr.mono (by omega)) pass0 (pa_cons (pv 0) (pa_cons (pv 3) (pa_cons (pv 2) pa_nil)))))))
 (pss_one (ps_ret (pv 2)))), ?_⟩)
  · obtain ⟨Z, p, _, _, _, _, rfl, _⟩ := h
    rfl
  · obtain ⟨Z, p, r, S, fm, a, rfl, hpl, ⟨vs, hr0z, hpcs⟩, hdep, hok, hlen, q⟩ := h
    have hr0 := hideZ_same _ _ hr0z
    have W := hpcs.view
    have hvl := paired_map W
    rw [lay_pces] at q hlen
    have hrp : r ≠ p := fun e => by
      rw [e] at hr0z
      have : hideZ Z H p = none := if_pos hpl.1
      rw [this] at hr0z
      cases hr0z
    walk_at "r0"
    refine seq_go ?_
    refine ⟨_, rfl, r, vs, rfl, SqL.of hr0, ?_⟩
    refine RT.for_Itv (K := K) (a := r) (xs := vs) (fun i σ H' => Same (hideA p H) (hideA p H') ∧ PlanAt c Z H' p (((pces fm).drop (vs.length - i)).foldr (fun p x => layPce p x.1 x.2) (S, a)).1 ∧ ∃ v3, σ = [some (.ref p), some (.ref r), some (.int (Int.ofNat (((pces fm).drop (vs.length - i)).foldr (fun p x => layPce p x.1 x.2) (S, a)).2)), v3]) ⟨Same.refl _, ?_, none, ?_⟩ (fun i σ H' h => SqL.of (beside h.1 hr0 hrp)) ?_ ?_
    · rw [Nat.sub_zero, hvl, List.drop_length]
      exact hpl
    · rw [Nat.sub_zero, hvl, List.drop_length]
      rfl
    · rintro i x σ H1 hil hix ⟨s1, hpl1, v3, rfl⟩
      obtain ⟨pc, hpi, hpcA⟩ := Paired.at W hix
      have hpm := mem_of_at hpi
      have hdr := drop_back (l := pces fm) (i := i) (p := pc) (by rw [← hvl]; exact hpi) (by rw [← hvl]; exact hil)
      rw [← hvl] at hdr
      have hz1 : Same (hideZ Z H) (hideZ Z H1) := hideZ_A hpl.1 s1
      walk_at "rd"
      refine ⟨_, rfl, _, rfl, _, rfl, Z, p, _, _, fm, pc, _, rfl, hpl1, hpcA.same hz1, hpm, hok, fun y hy => depth_rows hdep pc hpm y hy, ?_, fun H2 s2 hpl2 => ?_⟩
      · have e1 : (pces fm).drop (vs.length - (i + 1)) = pc :: (pces fm).drop (vs.length - i) := hdr
        have e2 : (pces fm) = (pces fm).take (vs.length - (i + 1)) ++ (pc :: (pces fm).drop (vs.length - i)) := by rw [← e1, List.take_append_drop]
        rw [e2, List.foldr_append] at hlen
        refine Nat.le_trans ?_ hlen
        exact ext_le (pces_ext _ _ _)
      · refine ⟨Same.trans s1 s2, ?_, some x, ?_⟩
        · rw [hdr]
          exact hpl2
        · rw [hdr]
          rfl
    · rintro σ H1 ⟨s1, hpl1, v3, rfl⟩
      rw [Nat.sub_self, List.drop_zero] at hpl1 ⊢
      exact ⟨_, rfl, q H1 s1 hpl1⟩
end
end FX
end
section
set_option Elab.async false
set_option linter.all false
set_option maxRecDepth 100000
set_option maxHeartbeats 4000000
namespace FX
open PySem PySem.Spec PyProof.Rows L2 FT
open VafmsBase (Fmt)
local macro_rules | `(tactic| walk_at "rd") => `(tactic| try dsimp only [tAug, tOp, tC, tCB, tCons, tNil, gName, tVar, tAsg, tRet, tIfS, tTest, tB, tNext, tDrop, tFld, tCKw, tCall, tMeth, rI0, rI, CMul, rEq, rNe, rEqD, rNeD, tBM, rAppend, rExtend, rCat, rIn, rIxT, rIxL, tSl, rSlL, tPart, tNoPart, tChain, tUn, rU, tIf, tNot, tOr, tAnd, tMake, sFld, tLst, tTup, pad, List.set, List.getElem?_cons_zero, List.getElem?_cons_succ, cxOf, List.map_cons, List.map_nil, List.append_nil, List.cons_append, List.nil_append])
local macro_rules | `(tactic| walk_at "sq") => `(tactic| (refine seq_go ?_; walk_at "rd"))
local macro_rules | `(tactic| walk_at "r0") => `(tactic| (rw [start_pad (by rfl)]; walk_at "rd"))
local macro_rules | `(tactic| walk_at "lk") => `(tactic| first
  | exact lk_here
  | exact (lk_past (by decide +kernel)).trans lk_here
  | exact (lk_past (by decide +kernel)).trans ((lk_past (by decide +kernel)).trans lk_here)
  | exact (lk_past (by decide +kernel)).trans ((lk_past (by decide +kernel)).trans ((lk_past (by decide +kernel)).trans lk_here)))
section
variable {P : Program} {w : World} {K : PySem.W.Frag} {mg : Str → Option Value} {base : Heap} {c : Cs}
theorem nvs_at {t : List Nat} {i n : Nat} (h : t[i]? = some n) : (nvs t)[i]? = some (.int (Int.ofNat n)) := by
  unfold nvs
  rw [List.getElem?_map, h]
  rfl
/-- where the next time is laid -/
def tmBase (f : List Stp → Nat → List Stp × Nat) (sep : List Nat) (i : Nat) (S : List Stp) (a : Nat) : List Stp × Nat :=
  if i = 0 then (S, a) else ((layTimes f sep i S a).1 ++ [.txt sep ((layTimes f sep i S a).2.getLastD 0)], (layTimes f sep i S a).1.length + 1)
theorem times_next (f : List Stp → Nat → List Stp × Nat) (sep : List Nat) (S : List Stp) (a : Nat) : ∀ i, layTimes f sep (i + 1) S a = ((f (tmBase f sep i S a).1 (tmBase f sep i S a).2).1, (layTimes f sep i S a).2 ++ [(f (tmBase f sep i S a).1 (tmBase f sep i S a).2).2])
  | 0 => rfl
  | i + 1 => rfl
theorem tmBase_ext (f : List Stp → Nat → List Stp × Nat) (sep : List Nat) (S : List Stp) (a : Nat) (i : Nat) : ∃ T, (tmBase f sep i S a).1 = (layTimes f sep i S a).1 ++ T := by
  unfold tmBase
  split
  · rename_i h
    subst h
    exact ⟨[], by simp [layTimes]⟩
  · exact ⟨_, rfl⟩
theorem times_le {f : List Stp → Nat → List Stp × Nat} (he : ∀ S a, ∃ T, (f S a).1 = S ++ T) (sep : List Nat) (S : List Stp) (a : Nat) {i : Nat} : ∀ n, i ≤ n → (layTimes f sep i S a).1.length ≤ (layTimes f sep n S a).1.length
  | 0, h => by
    obtain rfl : i = 0 := by omega
    exact Nat.le_refl _
  | n + 1, h => by
    by_cases e : i = n + 1
    · subst e
      exact Nat.le_refl _
    · refine Nat.le_trans (times_le he sep S a n (by omega)) ?_
      rw [times_next]
      exact Nat.le_trans (ext_le (tmBase_ext f sep S a n)) (ext_le (he _ _))
theorem sc_lay_times : FnScope ["steps", "piece", "after", "entries", "behind"] ["steps", "piece", "after"] (defScope (topS 78)) := ⟨rfl, rfl, rfl, by decide +kernel, rfl, by decide +kernel, by decide +kernel⟩
theorem d_lay_times (T : Top K mg c) {d k : Nat} (hk : 2 ≤ k) (D : DefOk P w K mg base CX0 k "lay_row" (spLayRow c d)) : DefOk P w K mg base CX0 (k + 1) "lay_times" (spLayTimes c d) := T.a_lay_times.ok fun f fd F => by
  refine F.ok sc_lay_times (fun vs H Q E h => ?_) (fun cdv A outer s H vs Q E hr h => ⟨_, (pss_cons (ps_set (i := 3) sc_lay_times.nd rfl (.inl rfl) (pe_lst (pa_cons (pv 2) pa_nil)))
 (pss_cons (ps_while PassesOwn.never (pt_cmpR op_le (pe_callB call_len_seq (by rfl) T.b_len (by decide +kernel) (pa_cons (pv 3) pa_nil)) (pe_fld (pv 1) rfl) (nomark _))
 (pss_cons (ps_set (i := 4) sc_lay_times.nd rfl (.inl rfl) (pv 2))
 (pss_cons (ps_if (pt_cmpR op_gt (pe_callB call_len_seq (by rfl) T.b_len (by decide +kernel) (pa_cons (pv 3) pa_nil)) pe_int (nomark _))
 (pss_one (ps_set (i := 4) sc_lay_times.nd rfl (.inl rfl) (pcall (d_lay_step T) (hr.mono (by omega)) pass0 (pa_cons (pv 0) (pa_cons (pmake (m_TextStep T) (hr.mono (by omega)) pass0 (pa_cons (pe_fld (pv 1) rfl) (pa_cons (pe_ix ix_list (pv 3) (pe_un un_neg pe_int) (fun _ _ => rfl)) pa_nil))) pa_nil)))))
 pss_nil)
 (pss_one (ps_expr (pe_bm PySem.F.plainAttrs_list PySem.F.slot_list_append PySem.F.type_list_append mt_append (pv 3) (pa_cons (pcall D (hr.mono (by omega)) pass0 (pa_cons (pv 0) (pa_cons (pe_ix ix_list (pe_fld (pv 1) rfl) pe_int (fun _ _ => rfl)) (pa_cons (pv 4) pa_nil)))) pa_nil)))))))
 (pss_one (ps_ret (pv 3))))), ?_⟩)
  · obtain ⟨Z, p, _, _, _, _, _, rfl, _⟩ := h
    rfl
  · obtain ⟨Z, p, v, S, g, pc, a, rfl, hpl, hpc, hpm, hok, hk5, hdep, hlen, q⟩ := h
    obtain ⟨ok1, ok2, ok3, ok4, ok5, ok6⟩ := ok_pces hok pc hpm
    obtain ⟨sp_, lo, hi, f0, rfl⟩ : ∃ s lo hi f0, pc = ⟨5, s, lo, hi, [f0]⟩ := by
      cases pform hpm <;> first | exact ⟨_, _, _, _, rfl⟩ | (simp at hk5)
    obtain ⟨rs, ⟨pa, dx, ta, ra, rfl, hPz, hTz, hRz⟩, hrows⟩ := id hpc
    obtain ⟨r0, rfl, hr0⟩ : ∃ r0, rs = [r0] ∧ RowAt c (hideZ Z H) r0 f0 := by
      cases hrows with
      | cons x t => cases t; exact ⟨_, rfl, x⟩
    have c1 := T.c_Piece.cl
    obtain ⟨FF, hFF⟩ : ∃ FF : List Stp → Nat → List Stp × Nat, FF = fun S a => lay f0 S a := ⟨_, rfl⟩
    have hFe : ∀ S a, ∃ T, (FF S a).1 = S ++ T := fun S a => by rw [hFF]; exact lay_ext f0 S a
    have echo : (layCho ⟨5, sp_, lo, hi, [f0]⟩ S a).1 = (layTimes FF sp_ hi S a).1 := by rw [hFF]; rfl
    rw [echo] at q hlen
    have q' : ∀ (D : Addr) (H' : Hp), H D = none → Same (hideA p H) (hideA p H') → PlanAt c Z H' p (layTimes FF sp_ hi S a).1 → H' D = some (.lst (nvs (layTimes FF sp_ hi S a).2)) → Q (.ref D) H' := by
      intro D H' h1 h2 h3 h4
      rw [hFF] at h4
      exact q D H' h1 h2 h3 h4
    have hFd : depth f0 < d := hdep f0 (List.mem_cons_self ..)
    have hokf : VafmsBase.okPieces f0 = true := ok6 f0 (List.mem_cons_self ..)
    have hP := hideZ_same _ _ hPz
    have hpP : pa ≠ p := fun e => by
      rw [e] at hPz
      have : hideZ Z H p = none := if_pos hpl.1
      rw [this] at hPz
      cases hPz
    walk_at "r0"
    walk_at "sq"
    refine ⟨_, rfl, (by show 1 ≤ sizeLine; decide), fun D hD => ?_⟩
    have hpD : p ≠ D := fun e => by
      obtain ⟨_, hz, _, h1, _⟩ := hpl
      rw [e, hD] at h1
      cases h1
    refine seq_go ?_
    refine ⟨fun m σ H' => ∃ i, i ≤ hi ∧ m = hi - i ∧ Same (hideA p H) (hideA p H') ∧ PlanAt c (D :: Z) H' p (layTimes FF sp_ i S a).1 ∧ H' D = some (.lst (nvs (layTimes FF sp_ i S a).2)) ∧ ∃ v4, σ = [some (.ref p), some (.ref pa), some (.int (Int.ofNat a)), some (.ref D), v4], ⟨hi, 0, Nat.zero_le _, rfl, hideA_chg (Same.refl _) hD, hpl.wide hD (Same.add hD) (by rw [upd_same]; simp), upd_same, none, rfl⟩, ?_⟩
    rintro m σ H1 ⟨i, hi1, rfl, s1, hpl1, hD1, v4, rfl⟩
    have hz1 : Same (hideZ Z H) (hideZ (D :: Z) H1) := hideZ_new hD (hideZ_A hpl.1 s1)
    have hcnt := times_count FF sp_ S a i
    walk_at "rd"
    refine ⟨_, rfl, D, _, rfl, .inl (SqL.of hD1), _, rfl, pa, c.Piece, dx, _, _, rfl, hideZ_same _ _ (hz1 _ _ hPz), c1, T.c_Piece.na _ (by simp), pcF_hi, _, _, rfl, rfl, _, rfl, ?_⟩
    rw [nvs_length, hcnt]
    by_cases hlt : i < hi
    · rw [if_pos (by rw [decide_eq_true (by omega : ((i + 1 : Nat) : Int) ≤ (hi : Int))])]
      refine ⟨fun σ' H' => ∃ v4, σ' = [some (.ref p), some (.ref pa), some (.int (Int.ofNat a)), some (.ref D), v4] ∧ Same (hideA p H) (hideA p H') ∧ PlanAt c (D :: Z) H' p (layTimes FF sp_ (i + 1) S a).1 ∧ H' D = some (.lst (nvs (layTimes FF sp_ (i + 1) S a).2)), fun σ' H' ⟨v4, e, n2, n3, n4⟩ => ⟨hi - (i + 1), by omega, i + 1, by omega, rfl, n2, n3, n4, v4, e⟩, ?_⟩
      have hlen1 : (layTimes FF sp_ (i + 1) S a).1.length ≤ 90000 := Nat.le_trans (times_le hFe sp_ S a hi (by omega)) hlen
      rw [times_next] at hlen1
      replace hlen1 : (FF (tmBase FF sp_ i S a).1 (tmBase FF sp_ i S a).2).1.length ≤ 90000 := hlen1
      have hhi : hi ≤ 4 := ok3
      walk_at "sq"
      refine ⟨_, rfl, ?_⟩
      refine seq_by (fun σ' H' => σ' = [some (.ref p), some (.ref pa), some (.int (Int.ofNat a)), some (.ref D), some (.int (Int.ofNat (tmBase FF sp_ i S a).2))] ∧ Same (hideA p H) (hideA p H') ∧ PlanAt c (D :: Z) H' p (tmBase FF sp_ i S a).1 ∧ H' D = some (.lst (nvs (layTimes FF sp_ i S a).2))) ?_ ?_
      rotate_left
      · intro N hN
        walk_at "rd"
        refine ⟨_, rfl, D, _, rfl, .inl (SqL.of hD1), _, _, rfl, rfl, _, rfl, ?_⟩
        rw [nvs_length, hcnt]
        cases i with
        | zero =>
          rw [if_neg (by decide)]
          exact hN _ _ ⟨rfl, s1, hpl1, hD1⟩
        | succ i =>
          rw [if_pos (by rw [decide_eq_true (by omega : (1 : Int) < ((i + 1 + 1 : Nat) : Int))])]
          walk_at "rd"
          have hat : atI (nvs (layTimes FF sp_ (i + 1) S a).2) (-1) = some (.int (Int.ofNat ((layTimes FF sp_ (i + 1) S a).2.getLastD 0))) := by
            have e : (layTimes FF sp_ (i + 1) S a).2 = (layTimes FF sp_ i S a).2 ++ [(FF (tmBase FF sp_ i S a).1 (tmBase FF sp_ i S a).2).2] := by rw [times_next]
            rw [e, nvs_append]
            have e2 : ((layTimes FF sp_ i S a).2 ++ [(FF (tmBase FF sp_ i S a).1 (tmBase FF sp_ i S a).2).2]).getLastD 0 = (FF (tmBase FF sp_ i S a).1 (tmBase FF sp_ i S a).2).2 := by simp
            rw [e2]
            exact atI_last _ _
          refine ⟨_, rfl, _, rfl, pa, c.Piece, dx, _, _, rfl, hideZ_same _ _ (hz1 _ _ hPz), c1, T.c_Piece.na _ (by simp), pcF_text, _, rfl, _, rfl, D, _, _, _, rfl, rfl, SqL.of hD1, hat, fun y d1 hy hd1 hne => ⟨y, d1, _, rfl, rfl, upd_same, rfl, ?_⟩⟩
          have mk := made (C := c.TextStep) (fs := [("text", .ref ta), ("target", .int (Int.ofNat ((layTimes FF sp_ (i + 1) S a).2.getLastD 0)))]) hy hd1
          refine ⟨D :: Z, p, _, _, .txt sp_ ((layTimes FF sp_ (i + 1) S a).2.getLastD 0), rfl, hpl1.same mk.1, ⟨y, d1, ta, rfl, z_new hpl1.2.1 hy mk.2, hideZ_of mk.1 _ _ (hz1 _ _ hTz)⟩, ?_, fun H' s' pl' => hN _ _ ⟨rfl, Same.trans s1 (Same.trans (hide_same mk.1) s'), pl', beside s' (mk.1 _ _ hD1) hpD.symm⟩⟩
          have := ext_le (hFe (tmBase FF sp_ (i + 1) S a).1 (tmBase FF sp_ (i + 1) S a).2)
          have h2 := ext_le (tmBase_ext FF sp_ S a (i + 1))
          show (layTimes FF sp_ (i + 1) S a).1.length ≤ 90000
          omega
      rintro _ H2 ⟨rfl, s2, hpl2, hD2⟩
      have hz2 : Same (hideZ Z H) (hideZ (D :: Z) H2) := hideZ_new hD (hideZ_A hpl.1 s2)
      walk_at "rd"
      refine ⟨_, rfl, .inl ⟨rfl, _, SqL.of hD2⟩, _, rfl, _, rfl, pa, c.Piece, dx, _, _, rfl, hideZ_same _ _ (hz2 _ _ hPz), c1, T.c_Piece.na _ (by simp), pcF_rows, ra, [.ref r0], 0, _, rfl, rfl, SqL.of (hideZ_same _ _ (hz2 _ _ hRz)), atI_nat (j := 0) rfl, _, rfl, D :: Z, p, r0, _, f0, _, rfl, hpl2, hr0.same hz2, hFd, hokf, ?_, fun H3 s3 hpl3 => ?_⟩
      · rw [hFF] at hlen1 ⊢
        exact hlen1
      · have hD3 := beside s3 hD2 hpD.symm
        refine ⟨D, _, _, rfl, rfl, hD3, szl (by rw [nvs_length, hcnt]; omega), _, rfl, hideA_chg (Same.trans s2 s3) hD, ?_, ?_⟩
        · rw [times_next]
          have := hpl3.put (o := .lst (nvs (layTimes FF sp_ i S a).2 ++ [.int (Int.ofNat (lay f0 (tmBase FF sp_ i S a).1 (tmBase FF sp_ i S a).2).2)])) (List.mem_cons_self ..) hpD
          rw [hFF] at this ⊢
          exact this
        · rw [upd_same, times_next, nvs_append]
          rw [hFF]
          rfl
    · rw [if_neg (by
        rw [decide_eq_false (by omega : ¬ ((i + 1 : Nat) : Int) ≤ (hi : Int))]
        exact Bool.false_ne_true)]
      obtain rfl : i = hi := by omega
      exact ⟨_, rfl, q' D H1 hD s1 (hpl1.less hpl.1) hD1⟩
end
end FX
end
section
set_option Elab.async false
set_option linter.all false
set_option maxRecDepth 100000
set_option maxHeartbeats 4000000
namespace FX
open PySem PySem.Spec PyProof.Rows L2 FT
open VafmsBase (Fmt)
local macro_rules | `(tactic| walk_at "rd") => `(tactic| try dsimp only [tAug, tOp, tC, tCB, tCons, tNil, gName, tVar, tAsg, tRet, tIfS, tTest, tB, tNext, tDrop, tFld, tCKw, tCall, tMeth, rI0, rI, CMul, rEq, rNe, rEqD, rNeD, tBM, rAppend, rExtend, rCat, rIn, rIxT, rIxL, tSl, rSlL, tPart, tNoPart, tChain, tUn, rU, tIf, tNot, tOr, tAnd, tMake, sFld, tLst, tTup, pad, List.set, List.getElem?_cons_zero, List.getElem?_cons_succ, cxOf, List.map_cons, List.map_nil, List.append_nil, List.cons_append, List.nil_append])
local macro_rules | `(tactic| walk_at "sq") => `(tactic| (refine seq_go ?_; walk_at "rd"))
local macro_rules | `(tactic| walk_at "r0") => `(tactic| (rw [start_pad (by rfl)]; walk_at "rd"))
local macro_rules | `(tactic| walk_at "lk") => `(tactic| first
  | exact lk_here
  | exact (lk_past (by decide +kernel)).trans lk_here
  | exact (lk_past (by decide +kernel)).trans ((lk_past (by decide +kernel)).trans lk_here)
  | exact (lk_past (by decide +kernel)).trans ((lk_past (by decide +kernel)).trans ((lk_past (by decide +kernel)).trans lk_here)))
section
variable {P : Program} {w : World} {K : PySem.W.Frag} {mg : Str → Option Value} {base : Heap} {c : Cs}
/-- [e for i in range(..)], with an invariant of one's own -/
theorem t_lc_inv {wi : TI} {te : TE} {j : Nat} {J : It} {n : Nat} {it : Nat → V} {σ : L2.St} {H : Hp} {Q : VK} (ht : ∀ R : It → Hp → Prop, R J H → wi σ H R) (go : ∀ i H', i < n → J.go i H') (stop : ∀ H', J.stop n H') (yld : ∀ i H' x H'', i < n → J.yld i H' x H'' → H'' = H' ∧ x = it i)
    (Inv : Nat → Addr → List V → Hp → Prop) (hl : n ≤ 100000) (hw : ∀ x, wipe ((wipe σ [j]).set j (some x)) [j] = wipe σ [j])
    (h0 : ∀ D, H D = none → Inv 0 D [] (upd H D (.lst []))) (hlen : ∀ i D ys H', Inv i D ys H' → H' D = some (.lst ys) ∧ ys.length = i)
    (hte : ∀ i D ys H', H D = none → i < n → Inv i D ys H' → ∀ Q' : VK, (∀ y H2, H2 D = some (.lst ys) → Inv (i + 1) D (ys ++ [y]) (upd H2 D (.lst (ys ++ [y]))) → Q' y H2) → te ((wipe σ [j]).set j (some (it i))) H' Q')
    (k : ∀ D ys H', H D = none → Inv n D ys H' → Q (.ref D) H') : tLc wi (gName j) tYes te [j] σ H Q := by
  refine ht _ fun D hD => ⟨fun i m H' => m = n - i ∧ i ≤ n ∧ ∃ ys, Inv i D ys H', ⟨n, by omega, Nat.zero_le _, [], h0 D hD⟩, ?_⟩
  rintro i m H' ⟨rfl, hi, ys, inv⟩
  obtain ⟨hy, hyl⟩ := hlen _ _ _ _ inv
  by_cases hlt : i < n
  · refine .inr ⟨go i H' hlt, fun H' => i + 1 ≤ n ∧ ∃ ys, Inv (i + 1) D ys H', fun H2 p => ⟨n - (i + 1), by omega, rfl, p.1, p.2⟩, fun x H2 hx => ?_⟩
    obtain ⟨rfl, rfl⟩ := yld i H' x H2 hlt hx
    refine ⟨hw _, ?_⟩
    unfold tYes
    dsimp only
    rw [if_pos rfl]
    exact hte i D ys H2 hD hlt inv _ fun y H3 h3 inv3 => ⟨ys, h3, szl (by omega), hlt, _, inv3⟩
  · have e : i = n := by omega
    subst e
    exact .inl ⟨stop H', k D ys H' hD inv⟩
theorem downFrom_count : ∀ (hi lo : Nat), (VafmsBase.downFrom lo hi).length = hi + 1 - lo := fun hi lo => (downFrom_get hi lo).1
theorem sc_choices : FnScope ["steps", "piece", "after", "entries", "times", "number"] ["steps", "piece", "after"] (defScope (topS 77)) := ⟨rfl, rfl, rfl, by decide +kernel, rfl, by decide +kernel, by decide +kernel⟩
theorem d_choices (T : Top K mg c) {d k : Nat} (hk : 2 ≤ k) (D : DefOk P w K mg base CX0 k "lay_row" (spLayRow c d)) : DefOk P w K mg base CX0 (k + 1 + 1) "choices" (spChoices c d) := T.a_choices.ok fun f fd F => by
  have DT := d_lay_times T hk D
  refine F.ok sc_choices (fun vs H Q E h => ?_) (fun cdv A outer s H vs Q E hr h => ⟨_, (pss_cons (ps_if (pt_cmpR op_eq (pe_fld (pv 1) rfl) (pe_num T.n_ALTERNATIVES) (nomark _))
 (pss_one (ps_ret (pe_lc (own := [("number", 5)]) (g := gName 5) (tt := tYes) (by rfl) sc_choices.nd (pi_range1 (by rfl) T.b_range (pa_cons pe_int pa_nil)) (blkOk_by (own := [("number", 5)]) (N := ["steps", "piece", "after", "entries", "times", "number"]) (sc := defScope (topS 77)) (by decide +kernel)) (fun _ _ _ _ _ => pg_name (i := 5) sc_choices.nd rfl (Or.inl rfl)) (fun _ _ _ _ _ => pts_nil) (fun _ _ _ _ _ => (pmake (m_Lead T) (hr.mono (by omega)) pass0 (pa_cons (pe_lst (pa_cons (pv 5) pa_nil)) (pa_cons (pe_lst pa_nil) (pa_cons (pcall D (hr.mono (by omega)) pass0 (pa_cons (pv 0) (pa_cons (pe_ix (ix_listK K) (pe_fldK K (pv 1) rfl) (pv 5) (fun _ _ => rfl)) (pa_cons (pv 2) pa_nil)))) pa_nil))))))))
 pss_nil)
 (pss_cons (ps_if (pt_cmpR op_eq (pe_fld (pv 1) rfl) (pe_num T.n_OPTIONAL) (nomark _))
 (pss_one (ps_ret (pe_lst (pa_cons (pmake (m_Lead T) (hr.mono (by omega)) pass0 (pa_cons (pe_lst (pa_cons pe_int pa_nil)) (pa_cons (pe_lst pa_nil) (pa_cons (pcall D (hr.mono (by omega)) pass0 (pa_cons (pv 0) (pa_cons (pe_ix ix_list (pe_fld (pv 1) rfl) pe_int (fun _ _ => rfl)) (pa_cons (pv 2) pa_nil)))) pa_nil)))) (pa_cons (pmake (m_Lead T) (hr.mono (by omega)) pass0 (pa_cons (pe_lst (pa_cons pe_int pa_nil)) (pa_cons (pe_lst pa_nil) (pa_cons (pv 2) pa_nil)))) pa_nil)))))
 pss_nil)
 (pss_cons (ps_set (i := 3) sc_choices.nd rfl (.inr rfl) (pcall DT (hr.mono (by omega)) pass0 (pa_cons (pv 0) (pa_cons (pv 1) (pa_cons (pv 2) pa_nil)))))
 (pss_one (ps_ret (pe_lc (own := [("times", 4)]) (g := gName 4) (tt := tYes) (by rfl) sc_choices.nd (pi_range3 (by rfl) T.b_range (pa_cons (pe_fld (pv 1) rfl) (pa_cons (pe_op op_sub (pe_fld (pv 1) rfl) pe_int) (pa_cons (pe_un un_neg pe_int) pa_nil)))) (blkOk_by (own := [("times", 4)]) (N := ["steps", "piece", "after", "entries", "times", "number"]) (sc := defScope (topS 77)) (by decide +kernel)) (fun _ _ _ _ _ => pg_name (i := 4) sc_choices.nd rfl (Or.inl rfl)) (fun _ _ _ _ _ => pts_nil) (fun _ _ _ _ _ => (pmake (m_Lead T) (hr.mono (by omega)) pass0 (pa_cons (pe_lst (pa_cons (pv 4) pa_nil)) (pa_cons (pe_lst pa_nil) (pa_cons (pe_ix (ix_listK K) (pv 3) (pv 4) (fun _ _ => rfl)) pa_nil))))))))))), ?_⟩)
  · obtain ⟨Z, p, _, _, _, _, _, rfl, _⟩ := h
    rfl
  · obtain ⟨Z, p, v, S, g, pc, a, rfl, hpl, hpc, hpm, hok, hk3, hdep, hlen, q⟩ := h
    obtain ⟨ok1, ok2, ok3, ok4, ok5, ok6⟩ := ok_pces hok pc hpm
    obtain ⟨rs, ⟨pa, dx, ta, ra, rfl, hPz, hTz, hRz⟩, hrows⟩ := id hpc
    have hP := hideZ_same _ _ hPz
    have c1 := T.c_Piece.cl
    have nk := T.c_Piece.na "kind" (by simp)
    have hpf := pform hpm
    walk_at "r0"
    walk_at "sq"
    refine ⟨_, rfl, pa, c.Piece, dx, _, _, rfl, hP, c1, nk, pcF_kind, rfl, _, rfl, ?_⟩
    by_cases h3 : pc.kind = 3
    · rw [if_pos (decide_eq_true (by rw [h3]; rfl))]
      obtain ⟨f0, f1, rfl⟩ : ∃ f0 f1, pc = ⟨3, [], 0, 0, [f0, f1]⟩ := by
        cases hpf <;> first | exact ⟨_, _, rfl⟩ | (simp at h3)
      obtain ⟨r0, r1, rfl, hr0, hr1⟩ : ∃ r0 r1, rs = [r0, r1] ∧ RowAt c (hideZ Z H) r0 f0 ∧ RowAt c (hideZ Z H) r1 f1 := by
        cases hrows with
        | cons x t => cases t with
          | cons y t => cases t; exact ⟨_, _, rfl, x, y⟩
      have e : layCho ⟨3, [], 0, 0, [f0, f1]⟩ S a = ((lay f1 (lay f0 S a).1 a).1, [(0, (lay f0 S a).2), (1, (lay f1 (lay f0 S a).1 a).2)]) := rfl
      rw [e] at q hlen
      replace hlen : (lay f1 (lay f0 S a).1 a).1.length ≤ 90000 := hlen
      obtain ⟨fn, hfn⟩ : ∃ fn : Nat → Fmt, fn = fun i => if i = 0 then f0 else f1 := ⟨_, rfl⟩
      obtain ⟨Sn, hSn⟩ : ∃ Sn : Nat → List Stp, Sn = fun i => if i = 0 then S else if i = 1 then (lay f0 S a).1 else (lay f1 (lay f0 S a).1 a).1 := ⟨_, rfl⟩
      obtain ⟨ld, hld⟩ : ∃ ld : List Ld, ld = [⟨[0], [], (lay f0 S a).2⟩, ⟨[1], [], (lay f1 (lay f0 S a).1 a).2⟩] := ⟨_, rfl⟩
      have hturn : ∀ i, i < 2 → ∃ r, [V.ref r0, V.ref r1][i]? = some (.ref r) ∧ RowAt c (hideZ Z H) r (fn i) ∧ depth (fn i) < d ∧ VafmsBase.okPieces (fn i) = true ∧ Sn (i + 1) = (lay (fn i) (Sn i) a).1 ∧ (lay (fn i) (Sn i) a).1.length ≤ 90000 ∧ ld[i]? = some ⟨[i], [], (lay (fn i) (Sn i) a).2⟩ := fun i hi => by
        have hx := ext_le (lay_ext f1 (lay f0 S a).1 a)
        have : i = 0 ∨ i = 1 := by omega
        rcases this with rfl | rfl
        · rw [hfn, hSn, hld]
          exact ⟨r0, rfl, hr0, hdep _ (by simp), ok6 _ (by simp), rfl, by show (lay f0 S a).1.length ≤ 90000; omega, rfl⟩
        · rw [hfn, hSn, hld]
          exact ⟨r1, rfl, hr1, hdep _ (by simp), ok6 _ (by simp), rfl, hlen, rfl⟩
      walk_at "rd"
      refine t_lc_inv (J := Itr 0 2) (n := 2) (it := fun i => .int (0 + (i : Nat))) (fun R r => ⟨2, rfl, by decide, by decide, r⟩) (fun i H' h => h) (fun H' => Nat.le_refl _) (fun i H' x H'' h hx => hx) (fun i D ys H' => Same (hideA p H) (hideA p H') ∧ H' D = some (.lst ys) ∧ ys.length = i ∧ PlanAt c (D :: Z) H' p (Sn i) ∧ Paired (LeadAt c (hideZ (D :: Z) H')) ys (ld.take i)) (by decide) (fun x => rfl) (fun D hD => ?_) (fun i D ys H' h => ⟨h.2.1, h.2.2.1⟩) (fun i D ys H1 hD hi ⟨s1, hD1, hyl, hpl1, hys⟩ Q' q' => ?_) (fun D ys H1 hD ⟨s1, hD1, hyl, hpl1, hys⟩ => ?_)
      · rw [hSn]
        exact ⟨hideA_chg (Same.refl _) hD, upd_same, rfl, hpl.wide hD (Same.add hD) (by rw [upd_same]; simp), .nil⟩
      · obtain ⟨r, hri, hrow, hd1, hok1, hS1, hlen1, hldi⟩ := hturn i hi
        have hpD : p ≠ D := fun e => by
          obtain ⟨_, hz, _, h1, _⟩ := hpl
          rw [e, hD] at h1
          cases h1
        have hz1 : Same (hideZ Z H) (hideZ (D :: Z) H1) := hideZ_new hD (hideZ_A hpl.1 s1)
        refine ⟨_, rfl, (by show 1 ≤ sizeLine; decide), fun e1 he1 => ?_⟩
        have t1 := Same.add (o := .lst [V.int (0 + (i : Nat))]) he1
        refine ⟨(by show 0 ≤ sizeLine; decide), fun e2 he2 => ?_⟩
        have t2 := Same.trans t1 (Same.add (o := .lst []) he2)
        have oc2 := occ hpl1.2.1 t2
        have g1 : hideZ (D :: Z) (upd (upd H1 e1 (.lst [V.int (0 + (i : Nat))])) e2 (.lst [])) e1 = some (.lst (nvs [i])) := z_new hpl1.2.1 he1 (by
          rw [upd_ne (ne_of_none upd_same he2), upd_same]
          show some (HO.lst [V.int (0 + (i : Int))]) = some (HO.lst [V.int (i : Int)])
          rw [Int.zero_add])
        have g2 : hideZ (D :: Z) (upd (upd H1 e1 (.lst [V.int (0 + (i : Nat))])) e2 (.lst [])) e2 = some (.lst (nvs [])) := z_new (occ hpl1.2.1 t1) he2 upd_same
        have hz2 := Same.trans hz1 (hideZ_of t2)
        refine ⟨_, rfl, _, rfl, pa, c.Piece, dx, _, _, rfl, hideZ_same _ _ (hz2 _ _ hPz), c1, T.c_Piece.na _ (by simp), pcF_rows, _, rfl, ra, _, ((0 : Int) + (i : Nat)), _, rfl, rfl, SqL.of (hideZ_same _ _ (hz2 _ _ hRz)), ?_, _, rfl, D :: Z, p, r, Sn i, fn i, a, rfl, hpl1.same t2, hrow.same hz2, hd1, hok1, hlen1, fun H3 s3 hpl3 y dy hy hdy hne => ⟨y, dy, _, rfl, rfl, upd_same, rfl, ?_⟩⟩
        · rw [Int.zero_add]
          exact atI_nat hri
        · have hz3 := hideZ_A (Z := D :: Z) (List.mem_cons_of_mem _ hpl.1) s3
          have mk := lead_made_z (c := c) (l := ⟨[i], [], (lay (fn i) (Sn i) a).2⟩) hpl3.2.1 hy hdy (hz3 _ _ g1) (hz3 _ _ g2)
          have hD3 : H3 D = some (.lst ys) := beside s3 (t2 _ _ hD1) hpD.symm
          refine q' _ _ (mk.1 _ _ hD3) ⟨?_, upd_same, by rw [List.length_append, hyl]; rfl, ?_, ?_⟩
          · exact hideA_chg (Same.trans s1 (Same.trans (hide_same t2) (Same.trans s3 (hide_same mk.1)))) hD
          · rw [hS1]
            exact (hpl3.same mk.1).put (List.mem_cons_self ..) hpD
          · rw [take_more hldi]
            have sx := Same.trans (hideZ_of (Z := D :: Z) t2) (Same.trans hz3 (hideZ_of mk.1))
            exact paired_app (Paired.mapR hys fun v l x => (x.same sx).same (hideZ_upd (List.mem_cons_self ..))) (.cons (mk.2.same (hideZ_upd (List.mem_cons_self ..))) .nil)
      · refine q D ys H1 s1 ?_ ?_ ?_
        · have := hpl1.less hpl.1
          rw [hSn] at this
          exact this
        · rw [hideZ_ne fun m => hpl.2.1 D m hD]
          exact hD1
        · rw [hld] at hys
          exact Paired.mapR hys fun v l x => x.same hideZ_more
    rw [if_neg (by
      rw [decide_eq_false (fun e => h3 (by injection e; omega))]
      exact Bool.false_ne_true)]
    walk_at "sq"
    refine ⟨_, rfl, pa, c.Piece, dx, _, _, rfl, hP, c1, nk, pcF_kind, rfl, _, rfl, ?_⟩
    by_cases h4 : pc.kind = 4
    · rw [if_pos (decide_eq_true (by rw [h4]; rfl))]
      obtain ⟨f0, rfl⟩ : ∃ f0, pc = ⟨4, [], 0, 0, [f0]⟩ := by
        cases hpf <;> first | exact ⟨_, rfl⟩ | (simp at h4)
      obtain ⟨r0, rfl, hr0⟩ : ∃ r0, rs = [r0] ∧ RowAt c (hideZ Z H) r0 f0 := by
        cases hrows with
        | cons x t => cases t; exact ⟨_, rfl, x⟩
      have e : layCho ⟨4, [], 0, 0, [f0]⟩ S a = ((lay f0 S a).1, [(1, (lay f0 S a).2), (0, a)]) := rfl
      rw [e] at q hlen
      walk_at "rd"
      refine ⟨(by show 1 ≤ sizeLine; decide), fun e1 he1 => ?_⟩
      have t1 := Same.add (o := .lst [V.int 1]) he1
      refine ⟨(by show 0 ≤ sizeLine; decide), fun e2 he2 => ?_⟩
      have t2 := Same.trans t1 (Same.add (o := .lst []) he2)
      have oc2 := occ hpl.2.1 t2
      have g1 : hideZ Z (upd (upd H e1 (.lst [V.int 1])) e2 (.lst [])) e1 = some (.lst (nvs [1])) := z_new hpl.2.1 he1 (by
        rw [upd_ne (ne_of_none upd_same he2), upd_same]
        rfl)
      have g2 : hideZ Z (upd (upd H e1 (.lst [V.int 1])) e2 (.lst [])) e2 = some (.lst (nvs [])) := z_new (occ hpl.2.1 t1) he2 upd_same
      have hz2 : Same (hideZ Z H) (hideZ Z (upd (upd H e1 (.lst [V.int 1])) e2 (.lst []))) := hideZ_of t2
      refine ⟨_, rfl, _, rfl, pa, c.Piece, dx, _, _, rfl, hideZ_same _ _ (hz2 _ _ hPz), c1, T.c_Piece.na _ (by simp), pcF_rows, ra, _, 0, _, rfl, rfl, SqL.of (hideZ_same _ _ (hz2 _ _ hRz)), atI_nat (j := 0) rfl, _, rfl, Z, p, r0, S, f0, a, rfl, hpl.same t2, hr0.same hz2, hdep _ (by simp), ok6 _ (by simp), hlen, fun H3 s3 hpl3 y dy hy hdy hne => ⟨y, dy, _, rfl, rfl, upd_same, rfl, ?_⟩⟩
      have hz3 := hideZ_A hpl.1 s3
      have mk := lead_made_z (c := c) (l := ⟨[1], [], (lay f0 S a).2⟩) hpl3.2.1 hy hdy (hz3 _ _ g1) (hz3 _ _ g2)
      have oc4 := occ hpl3.2.1 mk.1
      refine ⟨(by show 1 ≤ sizeLine; decide), fun e3 he3 => ?_⟩
      have t3 := Same.add (o := .lst [V.int 0]) he3
      refine ⟨(by show 0 ≤ sizeLine; decide), fun e4 he4 => ?_⟩
      have t4 := Same.trans t3 (Same.add (o := .lst []) he4)
      refine ⟨_, rfl, fun y2 dy2 hy2 hdy2 hne2 => ⟨y2, dy2, _, rfl, rfl, upd_same, rfl, ?_⟩⟩
      have mk2 := lead_made_z (c := c) (l := ⟨[0], [], a⟩) (a1 := e3) (a2 := e4) (occ oc4 t4) hy2 hdy2 (z_new oc4 he3 (by
        rw [upd_ne (ne_of_none upd_same he4), upd_same]
        rfl)) (z_new (occ oc4 t3) he4 upd_same)
      have t5 := Same.trans t4 mk2.1
      refine ⟨(by show 2 ≤ sizeLine; decide), fun D hD => ?_⟩
      have oc5 := occ oc4 t5
      have t6 := Same.add (o := .lst [V.ref y, V.ref y2]) hD
      refine q D _ _ ?_ ?_ (z_new oc5 hD upd_same) (.cons ((mk.2.same (hideZ_of t5)).same (hideZ_of t6)) (.cons (mk2.2.same (hideZ_of t6)) .nil))
      · exact Same.trans (hide_same t2) (Same.trans s3 (hide_same (Same.trans mk.1 (Same.trans t5 t6))))
      · exact hpl3.same (Same.trans mk.1 (Same.trans t5 t6))
    rw [if_neg (by
      rw [decide_eq_false (fun e => h4 (by injection e; omega))]
      exact Bool.false_ne_true)]
    have h5 : pc.kind = 5 := by omega
    have e : layCho pc S a = ((layTimes (fun S a => lay (row0 pc) S a) pc.text pc.hi S a).1, (VafmsBase.downFrom pc.lo pc.hi).map fun n => (n, (layTimes (fun S a => lay (row0 pc) S a) pc.text pc.hi S a).2.getD n 0)) := by
      unfold layCho
      rw [if_neg h3, if_neg h4]
    have hcnt := times_count (fun S a => lay (row0 pc) S a) pc.text S a pc.hi
    walk_at "sq"
    refine ⟨_, rfl, _, rfl, _, rfl, Z, p, _, S, g, pc, a, rfl, hpl, hpc, hpm, hok, h5, hdep, hlen, fun B H1 hB s1 hpl1 hB1 => ?_⟩
    rw [e] at q hpl1
    have hz1 := hideZ_A hpl.1 s1
    have hP1 := hideZ_same _ _ (hz1 _ _ hPz)
    obtain ⟨hdl, hdg⟩ := downFrom_get pc.hi pc.lo
    generalize (layTimes (fun S a => lay (row0 pc) S a) pc.text pc.hi S a).2 = en at *
    walk_at "rd"
    refine t_lc_gen (J := Itc (pc.hi : Int) (-1) (((pc.hi : Int) - ((pc.lo : Int) - 1)).toNat)) (fun R r => ?_) (turns_rangeC _ _ _ H1) (fun i y H' => ∃ n, (VafmsBase.downFrom pc.lo pc.hi)[i]? = some n ∧ LeadAt c (hideZ Z H') y ⟨[n], [], en.getD n 0⟩) (fun i y H1 H2 h s => by
      obtain ⟨n, e, x⟩ := h
      exact ⟨n, e, x.same (hideZ_of s)⟩) (by omega) (fun x => rfl) (fun D i H2 hD hDs hi' s2 Q' q' => ?_) fun D ys H2 hD s2 hDl hyl hR => ?_
    · refine ⟨_, rfl, pa, c.Piece, dx, _, _, rfl, hP1, c1, T.c_Piece.na _ (by simp), pcF_hi, _, rfl, pa, c.Piece, dx, _, _, rfl, hP1, c1, T.c_Piece.na _ (by simp), pcF_lo, _, _, rfl, rfl, _, rfl, _, _, _, _, rfl, RgC.neg (by omega) (by omega) (by omega) (by omega), r⟩
    · have hil : i < (VafmsBase.downFrom pc.lo pc.hi).length := by rw [hdl]; omega
      have hget : (VafmsBase.downFrom pc.lo pc.hi)[i]? = some (VafmsBase.downFrom pc.lo pc.hi)[i] := List.getElem?_eq_getElem hil
      have hk := hdg i _ hget
      have ei : ((pc.hi : Int) + (i : Nat) * (-1)) = (((VafmsBase.downFrom pc.lo pc.hi)[i] : Nat) : Int) := by
        rw [hk.1]
        omega
      rw [ei]
      generalize (VafmsBase.downFrom pc.lo pc.hi)[i] = n at *
      have hz2 := Same.trans hz1 (hideZ_of s2)
      have oc2 : ∀ z ∈ D :: Z, H2 z ≠ none := fun z m => by
        rcases List.mem_cons.mp m with rfl | m
        · intro e
          rw [e] at hDs
          cases hDs
        · exact occ hpl1.2.1 s2 z m
      refine ⟨_, rfl, (by show 1 ≤ sizeLine; decide), fun e1 he1 => ?_⟩
      have t1 := Same.add (o := .lst [V.int (n : Int)]) he1
      refine ⟨(by show 0 ≤ sizeLine; decide), fun e2 he2 => ?_⟩
      have t2 := Same.trans t1 (Same.add (o := .lst []) he2)
      have hen : en[n]? = some (en.getD n 0) := by
        rw [List.getD_eq_getElem?_getD, List.getElem?_eq_getElem (by omega)]
        rfl
      refine ⟨_, rfl, _, rfl, B, _, _, _, rfl, rfl, SqL.of (t2 _ _ (s2 _ _ hB1)), atI_nat (nvs_at hen), fun y dy hy hdy hne => ⟨y, dy, _, rfl, rfl, upd_same, rfl, ?_⟩⟩
      have mk := lead_made_z (c := c) (l := ⟨[n], [], en.getD n 0⟩) (a1 := e1) (a2 := e2) (occ oc2 t2) hy hdy (z_new oc2 he1 (by
        rw [upd_ne (ne_of_none upd_same he2), upd_same]
        rfl)) (z_new (occ oc2 t1) he2 upd_same)
      refine q' _ _ (Same.trans t2 mk.1) ⟨n, hget, ?_⟩
      rw [hide_hide]
      exact mk.2
    · refine q D ys H2 (Same.trans s1 (hide_same s2)) (hpl1.same s2) ?_ ?_
      · rw [hideZ_ne fun m => hpl1.2.1 D m hD]
        exact hDl
      · refine paired_of ys _ ?_ fun i y hy => ?_
        · rw [List.length_map, List.length_map, hdl, hyl]
          omega
        · obtain ⟨n, e1, e2⟩ := hR i y hy
          refine ⟨_, ?_, e2⟩
          rw [List.getElem?_map, List.getElem?_map, e1]
          rfl
end
end FX
end
section
set_option Elab.async false
set_option linter.all false
set_option maxRecDepth 100000
set_option maxHeartbeats 4000000
namespace FX
open PySem PySem.Spec PyProof.Rows L2 FT
open VafmsBase (Fmt)
local macro_rules | `(tactic| walk_at "rd") => `(tactic| try dsimp only [tAug, tOp, tC, tCB, tCons, tNil, gName, tVar, tAsg, tRet, tIfS, tTest, tB, tNext, tDrop, tFld, tCKw, tCall, tMeth, rI0, rI, CMul, rEq, rNe, rEqD, rNeD, tBM, rAppend, rExtend, rCat, rIn, rIxT, rIxL, tSl, rSlL, tPart, tNoPart, tChain, tUn, rU, tIf, tNot, tOr, tAnd, tMake, sFld, tLst, tTup, pad, List.set, List.getElem?_cons_zero, List.getElem?_cons_succ, cxOf, List.map_cons, List.map_nil, List.append_nil, List.cons_append, List.nil_append])
local macro_rules | `(tactic| walk_at "sq") => `(tactic| (refine seq_go ?_; walk_at "rd"))
local macro_rules | `(tactic| walk_at "r0") => `(tactic| (rw [start_pad (by rfl)]; walk_at "rd"))
local macro_rules | `(tactic| walk_at "lk") => `(tactic| first
  | exact lk_here
  | exact (lk_past (by decide +kernel)).trans lk_here
  | exact (lk_past (by decide +kernel)).trans ((lk_past (by decide +kernel)).trans lk_here)
  | exact (lk_past (by decide +kernel)).trans ((lk_past (by decide +kernel)).trans ((lk_past (by decide +kernel)).trans lk_here)))
local macro_rules | `(tactic| walk_at "ln") => `(tactic| first
  | exact (lk_past (by decide +kernel)).trans rfl
  | exact (lk_past (by decide +kernel)).trans ((lk_past (by decide +kernel)).trans rfl)
  | exact (lk_past (by decide +kernel)).trans ((lk_past (by decide +kernel)).trans ((lk_past (by decide +kernel)).trans rfl)))
section
variable {P : Program} {w : World} {K : PySem.W.Frag} {mg : Str → Option Value} {base : Heap} {c : Cs}
/-- how deep the calls of lay_row stand -/
def rowLev : Nat → Nat
  | 0 => 2
  | d + 1 => rowLev d + 1 + 1 + 1 + 1
theorem rowLev_le : ∀ d, 2 ≤ rowLev d ∧ rowLev d = 4 * d + 2
  | 0 => ⟨Nat.le_refl _, rfl⟩
  | d + 1 => by
    have := rowLev_le d
    simp only [rowLev]
    omega
theorem d_lay_rows (T : Top K mg c) : ∀ d, DefOk P w K mg base CX0 (rowLev d) "lay_row" (spLayRow c d)
  | 0 => T.a_lay_row.never.imp fun vs H Q E h => by
    obtain ⟨Z, A, r, S, f, a, _, _, _, hd, _⟩ := h
    omega
  | d + 1 => d_lay_row T (by omega) (d_lay_piece T (by have := (rowLev_le d).1; omega) (d_choices T (rowLev_le d).1 (d_lay_rows T d)))
theorem len_plan (f : Fmt) : (lay f [] 0).2 = (lay f [] 0).1.length := lay_last f [] 0 rfl
theorem plan_len {f : Fmt} (h : VafmsBase.okPieces f = true) (hs : f.size ≤ 1000) : (plan f).length ≤ 5000 := by
  have := lay_len f [] 0 h
  show (lay f [] 0).1.length ≤ 5000
  simp at this
  omega
theorem plan_good {f : Fmt} (h : VafmsBase.okPieces f = true) : Good (plan f) := (lay_good f [] 0 h (fun i s e => by simp at e) (Nat.le_refl _)).1
def spSteps (c : Cs) : Sp := fun vs H Q _ => ∃ (r : Addr) (f : Fmt), vs = [.ref r] ∧ RowAt c H r f ∧ depth f ≤ 20 ∧ f.size ≤ 1000 ∧ VafmsBase.okPieces f = true ∧
  ∀ A H', H A = none → Same H H' → PlanAt c [A] H' A (plan f) → Q (.ref A) H'
theorem sc_steps_of : FnScope ["row", "steps"] ["row"] (defScope (topS 73)) := ⟨rfl, rfl, rfl, by decide +kernel, rfl, by decide +kernel, by decide +kernel⟩
theorem d_steps_of (T : Top K mg c) : DefOk P w K mg base CX0 87 "steps_of" (spSteps c) := T.a_steps_of.ok fun f fd F => by
  have DR := d_lay_rows (P := P) (w := w) (base := base) T 21
  have DR : DefOk P w K mg base CX0 86 "lay_row" (spLayRow c 21) := DR
  refine F.ok sc_steps_of (fun vs H Q E h => ?_) (fun cdv A outer s H vs Q E hr h => ⟨_, (pss_cons (ps_set (i := 1) sc_steps_of.nd rfl (.inl rfl) (pe_lst (pa_cons pe_non pa_nil)))
 (pss_cons (ps_expr (pcall DR (hr.mono (by omega)) pass0 (pa_cons (pv 1) (pa_cons (pv 0) (pa_cons (pe_num T.n_END_plans) pa_nil)))))
 (pss_one (ps_ret (pv 1))))), ?_⟩)
  · obtain ⟨p, _, rfl, _⟩ := h
    rfl
  · obtain ⟨r, fm, rfl, hrow, hdep, hsz, hok, q⟩ := h
    walk_at "r0"
    walk_at "sq"
    refine ⟨(by show 1 ≤ sizeLine; decide), fun D hD => ?_⟩
    walk_at "sq"
    have hl := plan_len hok hsz
    refine ⟨_, rfl, _, rfl, [D], D, r, [], fm, 0, rfl, ⟨List.mem_cons_self .., fun z m => ?_, [], upd_same, .nil⟩, hrow.same ?_, by omega, hok, Nat.le_trans hl (by decide), fun H' s' hpl' => ?_⟩
    · rcases List.mem_cons.mp m with rfl | m
      · rw [upd_same]; simp
      · cases m
    · intro b o e
      rw [hideZ_ne, upd_ne (ne_of_none e hD)]
      · exact e
      · intro m
        rcases List.mem_cons.mp m with rfl | m
        · rw [hD] at e; cases e
        · cases m
    · exact ⟨_, rfl, q D H' hD (hide_from hD (Same.add hD) s') hpl'⟩
/-! ### any step -/
theorem meth_apart {C : Addr} {m q1 q2 : Str} {st1 st2 : Stmt} {ps1 ps2 : List Str} (a : MethAt K C m q1 st1 ps1) (b : MethAt K C m q2 st2 ps2) : q1 = q2 := by
  obtain ⟨f, fd, M, F, _⟩ := a.ex
  obtain ⟨g, gd, N, G, _⟩ := b.ex
  have e := M.at_.symm.trans N.at_
  obtain rfl : f = g := by injection e with e; injection e with e; injection e
  obtain ⟨oc, od, kV, doc, pm, an, cdv, ct, osl, e1, l1, _⟩ := F.ex
  obtain ⟨oc2, od2, kV2, doc2, pm2, an2, cdv2, ct2, osl2, e2, l2, _⟩ := G.ex
  have l := l1.symm.trans l2
  have hd : fd = gd := by injection l with l; injection l with _ _ l; injection l
  rw [e1, e2] at hd
  exact congrArg FuncData.qualname hd
def isStep (c : Cs) (C : Addr) : Prop := C = c.TextStep ∨ C = c.NumberStep ∨ C = c.WordStep ∨ C = c.ChoiceStep
theorem isStep_of (c : Cs) : ∀ s, isStep c (clsOf c s)
  | .txt _ _ => .inl rfl
  | .num _ _ _ => .inr (.inl rfl)
  | .word _ _ _ => .inr (.inr (.inl rfl))
  | .cho _ => .inr (.inr (.inr rfl))
theorem is_txt (T : Top K mg c) {s : Stp} (h : clsOf c s = c.TextStep) : clsOf c s = c.TextStep ∧ ∃ t n, s = .txt t n := by
  refine ⟨h, ?_⟩
  cases s with
  | txt t n => exact ⟨_, _, rfl⟩
  | num _ _ _ => exact absurd (meth_apart (show MethAt K c.NumberStep _ _ _ _ from T.m_NumberStep_by_value) (by rw [show c.NumberStep = c.TextStep from h]; exact T.m_TextStep_by_value)) (by decide +kernel)
  | word _ _ _ => exact absurd (meth_apart (show MethAt K c.WordStep _ _ _ _ from T.m_WordStep_by_value) (by rw [show c.WordStep = c.TextStep from h]; exact T.m_TextStep_by_value)) (by decide +kernel)
  | cho _ => exact absurd (meth_apart (show MethAt K c.ChoiceStep _ _ _ _ from T.m_ChoiceStep_by_value) (by rw [show c.ChoiceStep = c.TextStep from h]; exact T.m_TextStep_by_value)) (by decide +kernel)
theorem is_num (T : Top K mg c) {s : Stp} (h : clsOf c s = c.NumberStep) : clsOf c s = c.NumberStep ∧ ∃ lo hi n, s = .num lo hi n := by
  refine ⟨h, ?_⟩
  cases s with
  | num _ _ _ => exact ⟨_, _, _, rfl⟩
  | txt _ _ => exact absurd (meth_apart (show MethAt K c.TextStep _ _ _ _ from T.m_TextStep_by_value) (by rw [show c.TextStep = c.NumberStep from h]; exact T.m_NumberStep_by_value)) (by decide +kernel)
  | word _ _ _ => exact absurd (meth_apart (show MethAt K c.WordStep _ _ _ _ from T.m_WordStep_by_value) (by rw [show c.WordStep = c.NumberStep from h]; exact T.m_NumberStep_by_value)) (by decide +kernel)
  | cho _ => exact absurd (meth_apart (show MethAt K c.ChoiceStep _ _ _ _ from T.m_ChoiceStep_by_value) (by rw [show c.ChoiceStep = c.NumberStep from h]; exact T.m_NumberStep_by_value)) (by decide +kernel)
theorem is_word (T : Top K mg c) {s : Stp} (h : clsOf c s = c.WordStep) : clsOf c s = c.WordStep ∧ ∃ lo hi n, s = .word lo hi n := by
  refine ⟨h, ?_⟩
  cases s with
  | word _ _ _ => exact ⟨_, _, _, rfl⟩
  | txt _ _ => exact absurd (meth_apart (show MethAt K c.TextStep _ _ _ _ from T.m_TextStep_by_value) (by rw [show c.TextStep = c.WordStep from h]; exact T.m_WordStep_by_value)) (by decide +kernel)
  | num _ _ _ => exact absurd (meth_apart (show MethAt K c.NumberStep _ _ _ _ from T.m_NumberStep_by_value) (by rw [show c.NumberStep = c.WordStep from h]; exact T.m_WordStep_by_value)) (by decide +kernel)
  | cho _ => exact absurd (meth_apart (show MethAt K c.ChoiceStep _ _ _ _ from T.m_ChoiceStep_by_value) (by rw [show c.ChoiceStep = c.WordStep from h]; exact T.m_WordStep_by_value)) (by decide +kernel)
theorem is_cho (T : Top K mg c) {s : Stp} (h : clsOf c s = c.ChoiceStep) : clsOf c s = c.ChoiceStep ∧ ∃ ls, s = .cho ls := by
  refine ⟨h, ?_⟩
  cases s with
  | cho _ => exact ⟨_, rfl⟩
  | txt _ _ => exact absurd (meth_apart (show MethAt K c.TextStep _ _ _ _ from T.m_TextStep_by_value) (by rw [show c.TextStep = c.ChoiceStep from h]; exact T.m_ChoiceStep_by_value)) (by decide +kernel)
  | num _ _ _ => exact absurd (meth_apart (show MethAt K c.NumberStep _ _ _ _ from T.m_NumberStep_by_value) (by rw [show c.NumberStep = c.ChoiceStep from h]; exact T.m_ChoiceStep_by_value)) (by decide +kernel)
  | word _ _ _ => exact absurd (meth_apart (show MethAt K c.WordStep _ _ _ _ from T.m_WordStep_by_value) (by rw [show c.WordStep = c.ChoiceStep from h]; exact T.m_ChoiceStep_by_value)) (by decide +kernel)
theorem MethOk.imp {C : Addr} {m : Str} {CX : CXT} {k : Nat} {sp sp' : Sp} (D : MethOk P w K mg base CX k C m sp) (h : ∀ vs H Q E, sp' vs H Q E → sp vs H Q E) : MethOk P w K mg base CX k C m sp' := by
  obtain ⟨f, fd, ps, a, b, e, F⟩ := D.ex
  exact ⟨f, fd, ps, a, b, e, F.imp h⟩
theorem MethOk.mono {C : Addr} {m : Str} {CX : CXT} {j k : Nat} {sp : Sp} (D : MethOk P w K mg base CX k C m sp) (h : k ≤ j) : MethOk P w K mg base CX j C m sp := by
  obtain ⟨f, fd, ps, a, b, e, F⟩ := D.ex
  exact ⟨f, fd, ps, a, b, e, F.mono h⟩
theorem spBV_imp {s1 s2 : Stp → Prop} (h : ∀ s, s1 s → s2 s) {vs : List V} {H : Hp} {Q : VK} {E : XK} (x : spBV c s1 vs H Q E) : spBV c s2 vs H Q E := by
  obtain ⟨Z, v, a, s, u, e, hz, h1, r⟩ := x
  exact ⟨Z, v, a, s, u, e, hz, h s h1, r⟩
theorem spBT_imp {s1 s2 : Stp → Prop} (h : ∀ s, s1 s → s2 s) {vs : List V} {H : Hp} {Q : VK} {E : XK} (x : spBT c s1 vs H Q E) : spBT c s2 vs H Q E := by
  obtain ⟨Z, v, a, s, u, e, hz, h1, r⟩ := x
  exact ⟨Z, v, a, s, u, e, hz, h s h1, r⟩
theorem any_by_value (T : Top K mg c) : ∀ C, isStep c C → MethOk P w K mg base CX0 4 C "by_value" (spBV c fun s => clsOf c s = C) := fun C h => by
  rcases h with rfl | rfl | rfl | rfl
  · exact (MethOk.mono (d_TextStep_by_value T) (by decide)).imp fun vs H Q E x => spBV_imp (fun s hs => is_txt T hs) x
  · exact (MethOk.mono (d_NumberStep_by_value T) (by decide)).imp fun vs H Q E x => spBV_imp (fun s hs => is_num T hs) x
  · exact (MethOk.mono (d_WordStep_by_value T) (by decide)).imp fun vs H Q E x => spBV_imp (fun s hs => is_word T hs) x
  · exact (MethOk.mono (d_ChoiceStep_by_value T) (by decide)).imp fun vs H Q E x => spBV_imp (fun s hs => is_cho T hs) x
theorem any_by_text (T : Top K mg c) : ∀ C, isStep c C → MethOk P w K mg base CX0 4 C "by_text" (spBT c fun s => clsOf c s = C) := fun C h => by
  rcases h with rfl | rfl | rfl | rfl
  · exact (MethOk.mono (d_TextStep_by_text T) (by decide)).imp fun vs H Q E x => spBT_imp (fun s hs => is_txt T hs) x
  · exact (MethOk.mono (d_NumberStep_by_text T) (by decide)).imp fun vs H Q E x => spBT_imp (fun s hs => is_num T hs) x
  · exact (MethOk.mono (d_WordStep_by_text T) (by decide)).imp fun vs H Q E x => spBT_imp (fun s hs => is_word T hs) x
  · exact (MethOk.mono (d_ChoiceStep_by_text T) (by decide)).imp fun vs H Q E x => spBT_imp (fun s hs => is_cho T hs) x
theorem step_ins {H : Hp} {v : V} : ∀ {s : Stp}, StepAt c H v s → ∃ p dx fs, v = .ref p ∧ H p = some (.ins (clsOf c s) dx fs) ∧ List.lookup ("by_value" : Str) fs = none ∧ List.lookup ("by_text" : Str) fs = none
  | .txt w t, ⟨p, dx, a, e, h1, h2⟩ => ⟨p, dx, _, e, h1, by walk_at "ln", by walk_at "ln"⟩
  | .num lo hi t, ⟨p, dx, e, h1⟩ => ⟨p, dx, _, e, h1, by walk_at "ln", by walk_at "ln"⟩
  | .word lo hi t, ⟨p, dx, e, h1⟩ => ⟨p, dx, _, e, h1, by walk_at "ln", by walk_at "ln"⟩
  | .cho ls, ⟨p, dx, a, vs, e, h1, h2, h3⟩ => ⟨p, dx, _, e, h1, by walk_at "ln", by walk_at "ln"⟩
end
end FX
end
section
set_option Elab.async false
set_option linter.all false
set_option maxHeartbeats 1000000
namespace FT
open VafmsBase
theorem split_at {S : List Stp} {i : Nat} {s : Stp} (h : S[i]? = some s) : S = (S.take i ++ [s]) ++ S.drop (i + 1) ∧ (S.take i).length = i := by
  obtain ⟨h1, h2⟩ := List.getElem?_eq_some_iff.mp h
  refine ⟨?_, by rw [List.length_take]; omega⟩
  have e : S.drop i = s :: S.drop (i + 1) := by rw [List.drop_eq_getElem_cons h1, h2]
  rw [List.append_assoc]
  show S = S.take i ++ (s :: S.drop (i + 1))
  rw [← e, List.take_append_drop]
theorem byVal_ok {s : Stp} {v : Value} {l : Ld} (ok : FX.StpOk s) (h : s.byVal v = some l) : l.nums.length ≤ v.length ∧ l.txt.length ≤ 8 ∧ l.tgt ∈ tgts s := by
  cases s with
  | txt w t =>
    obtain rfl := Option.some.inj h
    exact ⟨Nat.zero_le _, ok, List.mem_cons_self ..⟩
  | num lo hi t =>
    obtain ⟨k1, k2, k3⟩ := ok
    cases v with
    | nil => cases h
    | cons n v =>
      have h' : (numPrint lo hi n).map (fun d => (⟨[n], d, t⟩ : Ld)) = some l := h
      unfold numPrint at h'
      dsimp only at h'
      split at h'
      · rename_i hd
        obtain rfl := Option.some.inj h'
        exact ⟨by simp, by show (zfill _ _).length ≤ 8; omega, List.mem_cons_self ..⟩
      · cases h'
  | word lo hi t =>
    obtain ⟨k1, k2, k3⟩ := ok
    cases v with
    | nil => cases h
    | cons k u =>
      have h' : (if lo ≤ k ∧ k ≤ hi then (if (u.take k).length < k ∨ (u.take k).all (fun x => decide (x < 26)) = false then none else some (⟨k :: u.take k, (u.take k).map (fun x => 97 + x), t⟩ : Ld)) else none) = some l := h
      split at h'
      · rename_i hk
        split at h'
        · cases h'
        · obtain rfl := Option.some.inj h'
          refine ⟨?_, ?_, List.mem_cons_self ..⟩
          · show (k :: u.take k).length ≤ (k :: u).length
            simp
            omega
          · show ((u.take k).map _).length ≤ 8
            simp
            omega
      · cases h'
  | cho ls =>
    have h' : (ls.find? fun l => decide (v.take 1 = [l.1])).map (fun l => (⟨[l.1], [], l.2⟩ : Ld)) = some l := h
    cases e : ls.find? fun l => decide (v.take 1 = [l.1]) with
    | none => rw [e] at h'; cases h'
    | some x =>
      rw [e] at h'
      obtain rfl := Option.some.inj h'
      refine ⟨?_, Nat.zero_le _, List.mem_map.mpr ⟨x, List.mem_of_find?_eq_some e, rfl⟩⟩
      have := List.find?_some e
      have := congrArg List.length (of_decide_eq_true this)
      rw [List.length_take] at this
      show 1 ≤ v.length
      simp at this
      omega
theorem fronts_mem {t d : Text} {lo hi : Nat} (h : d ∈ fronts t lo hi) : d.length ≤ t.length ∧ d.length ≤ hi := by
  obtain ⟨k, hk, rfl⟩ := List.mem_map.mp h
  have := (downFrom_len_mem (min hi t.length) lo).2 k hk
  rw [List.length_take]
  omega
theorem fronts_len_le {t : Text} {lo hi : Nat} : (fronts t lo hi).length ≤ hi + 1 := by
  unfold fronts
  rw [List.length_map]
  have := (downFrom_len_mem (min hi t.length) lo).1
  omega
theorem byTxt_ok {s : Stp} {t : Text} (ok : FX.StpOk s) : (s.byTxt t).length ≤ 10 ∧ ∀ l ∈ s.byTxt t, l.txt.length ≤ t.length ∧ l.nums.length ≤ 5 ∧ l.tgt ∈ tgts s := by
  cases s with
  | txt w n =>
    show (if t.take w.length = w then [(⟨[], w, n⟩ : Ld)] else []).length ≤ 10 ∧ ∀ l ∈ (if t.take w.length = w then [(⟨[], w, n⟩ : Ld)] else []), _
    split
    · rename_i e
      refine ⟨by simp, fun l hl => ?_⟩
      rcases List.mem_cons.mp hl with rfl | hl
      · have := congrArg List.length e
        rw [List.length_take] at this
        exact ⟨by show w.length ≤ t.length; omega, Nat.zero_le _, List.mem_cons_self ..⟩
      · cases hl
    · exact ⟨Nat.zero_le _, fun l hl => by cases hl⟩
  | num lo hi n =>
    obtain ⟨k1, k2, k3⟩ := ok
    refine ⟨Nat.le_trans (List.length_filterMap_le _ _) (Nat.le_trans fronts_len_le (by omega)), fun l hl => ?_⟩
    obtain ⟨d, hd, e⟩ := List.mem_filterMap.mp hl
    split at e
    · obtain rfl := Option.some.inj e
      exact ⟨(fronts_mem hd).1, by simp, List.mem_cons_self ..⟩
    · cases e
  | word lo hi n =>
    obtain ⟨k1, k2, k3⟩ := ok
    refine ⟨Nat.le_trans (List.length_filterMap_le _ _) (Nat.le_trans fronts_len_le (by omega)), fun l hl => ?_⟩
    obtain ⟨d, hd, e⟩ := List.mem_filterMap.mp hl
    split at e
    · obtain rfl := Option.some.inj e
      have := fronts_mem hd
      exact ⟨this.1, by show (d.length :: d.map _).length ≤ 5; simp; omega, List.mem_cons_self ..⟩
    · cases e
  | cho ls =>
    refine ⟨by show (ls.map _).length ≤ 10; rw [List.length_map]; exact ok, fun l hl => ?_⟩
    obtain ⟨x, hx, rfl⟩ := List.mem_map.mp hl
    exact ⟨Nat.zero_le _, by simp, List.mem_map.mpr ⟨x, hx, rfl⟩⟩
theorem prt_at {S : List Stp} {i : Nat} {s : Stp} (h : S[i]? = some s) (ok : FX.StpOk s) (ht : ∀ t ∈ tgts s, t ≤ i) (v : Value) : prt S (i + 1) v = (s.byVal v).bind fun l => (prt S l.tgt (v.drop l.nums.length)).map fun x => l.txt ++ x := by
  obtain ⟨e, hl⟩ := split_at h
  have e1 : prt S (i + 1) v = prt (S.take i ++ [s]) (i + 1) v := by
    have z := prt_append (S := S.take i ++ [s]) (S.drop (i + 1)) (n := i + 1) (by rw [List.length_append, hl]; simp)
    rw [← e] at z
    rw [z]
  rw [e1]
  have h2 := prt_last (S.take i) s v
  rw [hl] at h2
  rw [h2]
  cases hb : s.byVal v with
  | none => rfl
  | some l =>
    have := ht l.tgt (byVal_ok ok hb).2.2
    show (prt (S.take i) l.tgt _).map _ = (prt S l.tgt _).map _
    have e3 : prt S l.tgt = prt (S.take i) l.tgt := by
      have z := prt_append (S := S.take i) (S.drop i) (n := l.tgt) (by omega)
      rw [List.take_append_drop] at z
      exact z
    rw [e3]
theorem scn_at {S : List Stp} {i : Nat} {s : Stp} (h : S[i]? = some s) (ok : FX.StpOk s) (ht : ∀ t ∈ tgts s, t ≤ i) (t : Text) : scn S (i + 1) t = (s.byTxt t).flatMap fun l => (scn S l.tgt (t.drop l.txt.length)).map fun v => l.nums ++ v := by
  obtain ⟨e, hl⟩ := split_at h
  have e1 : scn S (i + 1) t = scn (S.take i ++ [s]) (i + 1) t := by
    have z := scn_append (S := S.take i ++ [s]) (S.drop (i + 1)) (n := i + 1) (by rw [List.length_append, hl]; simp)
    rw [← e] at z
    rw [z]
  rw [e1]
  have h2 := scn_last (S.take i) s t
  rw [hl] at h2
  rw [h2]
  refine fl_congr fun l hl' => ?_
  have := ht l.tgt ((byTxt_ok ok).2 l hl').2.2
  have e3 : scn S l.tgt = scn (S.take i) l.tgt := by
    have z := scn_append (S := S.take i) (S.drop i) (n := l.tgt) (by omega)
    rw [List.take_append_drop] at z
    exact z
  rw [e3]
end FT
end
section
set_option Elab.async false
set_option linter.all false
set_option maxRecDepth 100000
set_option maxHeartbeats 4000000
namespace FX
open PySem PySem.Spec PyProof.Rows L2 FT
open VafmsBase (Fmt)
local macro_rules | `(tactic| walk_at "rd") => `(tactic| try dsimp only [tMethA, ipI, tAug, tOp, tC, tCB, tCons, tNil, gName, tVar, tAsg, tRet, tIfS, tTest, tB, tNext, tDrop, tFld, tCKw, tCall, tMeth, rI0, rI, CMul, rEq, rNe, rEqD, rNeD, tBM, rAppend, rExtend, rCat, rIn, rIxT, rIxL, tSl, rSlL, tPart, tNoPart, tChain, tUn, rU, tIf, tNot, tOr, tAnd, tMake, sFld, tLst, tTup, pad, List.set, List.getElem?_cons_zero, List.getElem?_cons_succ, cxOf, List.map_cons, List.map_nil, List.append_nil, List.cons_append, List.nil_append])
local macro_rules | `(tactic| walk_at "sq") => `(tactic| (refine seq_go ?_; walk_at "rd"))
local macro_rules | `(tactic| walk_at "r0") => `(tactic| (rw [start_pad (by rfl)]; walk_at "rd"))
local macro_rules | `(tactic| walk_at "lk") => `(tactic| first
  | exact lk_here
  | exact (lk_past (by decide +kernel)).trans lk_here
  | exact (lk_past (by decide +kernel)).trans ((lk_past (by decide +kernel)).trans lk_here)
  | exact (lk_past (by decide +kernel)).trans ((lk_past (by decide +kernel)).trans ((lk_past (by decide +kernel)).trans lk_here)))
local macro_rules | `(tactic| walk_at "ln") => `(tactic| first
  | exact (lk_past (by decide +kernel)).trans rfl
  | exact (lk_past (by decide +kernel)).trans ((lk_past (by decide +kernel)).trans rfl)
  | exact (lk_past (by decide +kernel)).trans ((lk_past (by decide +kernel)).trans ((lk_past (by decide +kernel)).trans rfl)))
section
variable {P : Program} {w : World} {K : PySem.W.Frag} {mg : Str → Option Value} {base : Heap} {c : Cs}
/-- a text or None -/
def GivesT (H : Hp) (o : Option (List Nat)) (Q : VK) : Prop := match o with
  | none => ∀ H', Same H H' → Q .non H'
  | some t => ∀ D H', H D = none → Same H H' → H' D = some (.lst (nvs t)) → Q (.ref D) H'
def spPrintOf (c : Cs) : Sp := fun vs H Q _ => ∃ (r a : Addr) (f : Fmt) (v : List Nat), vs = [.ref r, .ref a] ∧ RowAt c H r f ∧ depth f ≤ 20 ∧ f.size ≤ 1000 ∧ VafmsBase.okPieces f = true ∧ H a = some (.lst (nvs v)) ∧ (∀ n ∈ v, n ≤ 9999) ∧ v.length ≤ 1000 ∧ GivesT H (VafmsBase.print f v) Q
theorem sc_print_of : FnScope ["row", "numbers", "steps", "at", "text", "used", "lead"] ["row", "numbers"] (defScope (topS 79)) := ⟨rfl, rfl, rfl, by decide +kernel, rfl, by decide +kernel, by decide +kernel⟩
theorem nvs_drop (t : List Nat) (n : Nat) : (nvs t).drop n = nvs (t.drop n) := by
  unfold nvs
  rw [List.map_drop]
theorem nvs_take (t : List Nat) (n : Nat) : (nvs t).take n = nvs (t.take n) := by
  unfold nvs
  rw [List.map_take]
theorem PlanAt.step {A : Addr} {H : Hp} {S : List Stp} (h : PlanAt c [A] H A S) : ∃ vs, H A = some (.lst (.non :: vs)) ∧ vs.length = S.length ∧ ∀ i s, S[i]? = some s → ∃ v, (.non :: vs)[i + 1]? = some v ∧ StepAt c H v s := by
  obtain ⟨_, _, vs, h1, h2⟩ := h
  refine ⟨vs, h1, paired_map h2, fun i s hi => ?_⟩
  have hl := paired_map h2
  obtain ⟨hi1, hi2⟩ := List.getElem?_eq_some_iff.mp hi
  obtain ⟨y, hy, hs⟩ := Paired.at (i := i) h2 (List.getElem?_eq_getElem (by omega))
  obtain rfl : s = y := Option.some.inj (hi.symm.trans hy)
  exact ⟨_, List.getElem?_eq_getElem (by omega : i < vs.length), hs.same hideZ_same⟩
theorem d_print_of (T : Top K mg c) : DefOk P w K mg base CX0 88 "print_of" (spPrintOf c) := T.a_print_of.ok fun f fd F => by
  refine F.ok sc_print_of (fun vs H Q E h => ?_) (fun cdv A outer s H vs Q E hr h => ⟨_, (pss_cons (ps_set (i := 2) sc_print_of.nd rfl (.inl rfl) (pcall (d_steps_of T) (hr.mono (by omega)) pass0 (pa_cons (pv 0) pa_nil)))
 (pss_cons (ps_set (i := 3) sc_print_of.nd rfl (.inl rfl) (pe_op op_sub (pe_callB call_len_seq (by rfl) T.b_len (by decide +kernel) (pa_cons (pv 2) pa_nil)) pe_int))
 (pss_cons (ps_set (i := 4) sc_print_of.nd rfl (.inl rfl) (pe_lst pa_nil))
 (pss_cons (ps_set (i := 5) sc_print_of.nd rfl (.inl rfl) pe_int)
 (pss_cons (ps_while PassesOwn.never (pt_cmpR op_ne (pv 3) (pe_num T.n_END_plans) (nomark _))
 (pss_cons (ps_set (i := 6) sc_print_of.nd rfl (.inl rfl) (pe_methA (pe_ix ix_list (pv 2) (pv 3) (fun _ _ => rfl)) (any_by_value T) (hr.mono (by omega)) pass0 (pa_cons (pe_slice sl_list (pv 1) (po_some (pv 5)) po_none) pa_nil)))
 (pss_cons (ps_if (pt_cmpR op_isN (pv 6) pe_non (nomark _))
 (pss_one (ps_ret pe_non))
 pss_nil)
 (pss_cons (ps_expr (pe_bm PySem.F.plainAttrs_list PySem.F.slot_list_extend PySem.F.type_list_extend mt_extend (pv 4) (pa_cons (pe_fld (pv 6) rfl) pa_nil)))
 (pss_cons (ps_aug (i := 5) sc_print_of.nd rfl (.inl rfl) (pe_callB call_len_seq (by rfl) T.b_len (by decide +kernel) (pa_cons (pe_fld (pv 6) rfl) pa_nil)) ip_add)
 (pss_one (ps_set (i := 3) sc_print_of.nd rfl (.inl rfl) (pe_fld (pv 6) rfl))))))))
 (pss_one (ps_ret (pe_ifExp (pt_cmpR op_eq (pv 5) (pe_callB call_len_seq (by rfl) T.b_len (by decide +kernel) (pa_cons (pv 1) pa_nil)) (nomark _)) (pv 4) pe_non)))))))), ?_⟩)
  · obtain ⟨p, _, _, _, rfl, _⟩ := h
    rfl
  · obtain ⟨r, a, fm, v, rfl, hrow, hdep, hsz, hok, ha, hv, hvl, q⟩ := h
    have hgood := plan_good hok
    have hpl := plan_len hok hsz
    rw [← plan_print hok] at q
    obtain ⟨S, hS⟩ : ∃ S, S = plan fm := ⟨_, rfl⟩
    rw [← hS] at q hgood hpl
    walk_at "r0"
    walk_at "sq"
    refine ⟨_, rfl, r, fm, rfl, hrow, hdep, hsz, hok, fun B H1 hB s1 hp1 => ?_⟩
    rw [← hS] at hp1
    obtain ⟨ws, hB1, hwl, hst⟩ := hp1.step
    walk_at "sq"
    refine ⟨_, rfl, B, _, rfl, .inl (SqL.of hB1), _, _, rfl, rfl, ?_⟩
    have e : ((V.non :: ws).length : Int) - 1 = Int.ofNat S.length := by
      rw [List.length_cons, hwl]
      show ((S.length + 1 : Nat) : Int) - 1 = (S.length : Int)
      omega
    rw [e]
    walk_at "sq"
    refine ⟨(by show 0 ≤ sizeLine; decide), fun D hD => ?_⟩
    walk_at "sq"
    refine seq_go ?_
    refine ⟨fun m σ H' => ∃ (used : Nat) (t : List Nat) (v6 : Option V), σ = [some (.ref r), some (.ref a), some (.ref B), some (.int (Int.ofNat m)), some (.ref D), some (.int (Int.ofNat used)), v6] ∧ m ≤ S.length ∧ used ≤ v.length ∧ t.length + 8 * m ≤ 8 * S.length ∧ prt S S.length v = (prt S m (v.drop used)).map (fun x => t ++ x) ∧ Same (hideA D H1) (hideA D H') ∧ H' D = some (.lst (nvs t)), ⟨S.length, 0, [], _, rfl, Nat.le_refl _, Nat.zero_le _, by simp, ?_, hideA_chg (Same.refl _) hD, upd_same⟩, ?_⟩
    · simp
    rintro m σ H2 ⟨used, t, v6, rfl, hm, hu, ht, hprt, s2, hD2⟩
    have s12 : Same H1 H2 := hide_from hD (Same.refl _) s2
    have sH2 : Same H H2 := Same.trans s1 s12
    walk_at "rd"
    refine ⟨_, rfl, rfl, _, rfl, ?_⟩
    cases m with
    | zero =>
      rw [if_neg (by decide)]
      walk_at "rd"
      rw [hprt, prt_end] at q
      refine ⟨_, rfl, _, rfl, a, _, rfl, .inl (SqL.of (sH2 _ _ ha)), rfl, _, rfl, ?_⟩
      rw [nvs_length]
      by_cases hul : used = v.length
      · rw [if_pos (by rw [hul]; exact decide_eq_true rfl)]
        have e0 : endPrt (v.drop used) = some [] := if_pos (by rw [hul, List.drop_length])
        rw [e0] at q
        refine ⟨_, rfl, q D H2 (s1.free hD) sH2 ?_⟩
        show H2 D = some (.lst (nvs (t ++ [])))
        rw [List.append_nil]
        exact hD2
      · rw [if_neg (by
          rw [decide_eq_false (fun e => hul (by injection e with e; exact Int.ofNat.inj e))]
          exact Bool.false_ne_true)]
        have e0 : endPrt (v.drop used) = none := if_neg (fun e => by
          have := congrArg List.length e
          rw [List.length_drop] at this
          simp at this
          omega)
        rw [e0] at q
        exact q H2 sH2
    | succ i =>
      rw [if_pos (by
        rw [decide_eq_false (by intro e; injection e with e; cases e)]
        rfl)]
      refine ⟨fun σ' H' => ∃ m', m' < i + 1 ∧ ∃ (used : Nat) (t : List Nat) (v6 : Option V), σ' = [some (.ref r), some (.ref a), some (.ref B), some (.int (Int.ofNat m')), some (.ref D), some (.int (Int.ofNat used)), v6] ∧ m' ≤ S.length ∧ used ≤ v.length ∧ t.length + 8 * m' ≤ 8 * S.length ∧ prt S S.length v = (prt S m' (v.drop used)).map (fun x => t ++ x) ∧ Same (hideA D H1) (hideA D H') ∧ H' D = some (.lst (nvs t)), fun _ _ z => z, ?_⟩
      obtain ⟨si, hsi⟩ : ∃ s, S[i]? = some s := ⟨_, List.getElem?_eq_getElem (by omega)⟩
      obtain ⟨sok, stg⟩ := hgood i si hsi
      obtain ⟨vi, hvi, hsta⟩ := hst i si hsi
      have hpa := prt_at hsi sok stg (v.drop used)
      rw [hpa] at hprt
      obtain ⟨pi, dxi, fsi, rfl, hpi, hlk, _⟩ := step_ins (hsta.same s12)
      walk_at "sq"
      refine ⟨_, rfl, _, rfl, B, _, _, _, rfl, rfl, SqL.of (s12 _ _ hB1), atI_nat (j := i + 1) hvi, pi, _, dxi, fsi, rfl, hpi, isStep_of c si, hlk, _, rfl, _, rfl, _, rfl, a, _, rfl, SqL.of (sH2 _ _ ha), fun e he => ?_⟩
      have s3 := Same.add (o := .lst (cutV (nvs v) (some (Int.ofNat used)) none)) he
      have ec : cutV (nvs v) (some (Int.ofNat used)) none = nvs (v.drop used) := (cut_from _ used).trans (nvs_drop v used)
      rw [ec] at s3 ⊢
      have hst3 : StepAt c (hideZ [D] (upd H2 e (.lst (nvs (v.drop used))))) (.ref pi) si := hsta.same fun b o hb => by
        have hne : b ≠ D := ne_of_none hb hD
        rw [hideZ_ne (by simpa using hne)]
        exact s3 _ _ (s12 _ _ hb)
      refine ⟨[D], .ref pi, e, si, v.drop used, rfl, fun z m => ?_, rfl, hst3, sok, upd_same, fun n hn => hv n (List.mem_of_mem_drop hn), by rw [List.length_drop]; omega, ?_⟩
      · obtain rfl : z = D := by simpa using m
        rw [s3 _ _ hD2]
        simp
      cases hb : si.byVal (v.drop used) with
      | none =>
        intro H4 s4
        have hq : prt S S.length v = none := by rw [hprt, hb]; rfl
        rw [hq] at q
        walk_at "sq"
        refine ⟨_, rfl, rfl, _, rfl, ?_⟩
        rw [if_pos (by decide)]
        exact q H4 (Same.trans sH2 (Same.trans s3 s4))
      | some l =>
        intro x H4 s4 hx
        obtain ⟨l1, l2, l3⟩ := byVal_ok sok hb
        rw [List.length_drop] at l1
        have htg := stg _ l3
        rw [hb] at hprt
        obtain ⟨px, dxx, a1, a2, rfl, hpx, ha1, ha2⟩ := hx
        have s24 := Same.trans s3 s4
        have hD4 := s24 _ _ hD2
        have cL := T.c_Lead.cl
        have sx : Same (hideZ [D] H4) (upd H4 D (.lst (nvs (t ++ l.txt)))) := fun b o e => by
          by_cases hbD : b = D
          · rw [hbD] at e
            have : hideZ [D] H4 D = none := if_pos (by simp)
            rw [this] at e
            cases e
          · rw [hideZ_ne (by simpa using hbD)] at e
            rw [upd_ne hbD]
            exact e
        walk_at "sq"
        refine ⟨_, rfl, rfl, _, rfl, ?_⟩
        rw [if_neg (by simp)]
        walk_at "sq"
        refine ⟨_, rfl, .inl ⟨rfl, _, SqL.of hD4⟩, _, rfl, px, _, dxx, _, _, rfl, hideZ_same _ _ hpx, cL, T.c_Lead.na _ (by simp), by walk_at "lk", D, a2, _, _, rfl, rfl, hD4, hideZ_same _ _ ha2, sz (by rw [nvs_length, nvs_length]; omega), ?_⟩
        rw [← nvs_append]
        walk_at "sq"
        refine ⟨_, rfl, _, rfl, px, _, dxx, _, _, rfl, sx _ _ hpx, cL, T.c_Lead.na _ (by simp), by walk_at "lk", a1, _, rfl, .inl (SqL.of (sx _ _ ha1)), _, _, rfl, rfl, ?_⟩
        walk_at "rd"
        refine ⟨_, rfl, px, _, dxx, _, _, rfl, sx _ _ hpx, cL, T.c_Lead.na _ (by simp), by walk_at "lk", l.tgt, by omega, used + l.nums.length, t ++ l.txt, some (.ref px), ?_, by omega, by omega, ?_, ?_, ?_, upd_same⟩
        · rw [nvs_length]
          rfl
        · rw [List.length_append]
          omega
        · rw [hprt]
          show ((prt S l.tgt ((v.drop used).drop l.nums.length)).map _).map _ = _
          rw [List.drop_drop, Option.map_map]
          congr 1
          funext y
          simp
        · exact hideA_chg (Same.trans s2 (hide_same s24)) hD
end
end FX
end
section
set_option Elab.async false
set_option linter.all false
set_option maxRecDepth 100000
set_option maxHeartbeats 4000000
namespace FX
open PySem PySem.Spec PyProof.Rows L2 FT
open VafmsBase (Fmt)
local macro_rules | `(tactic| walk_at "rd") => `(tactic| try dsimp only [tMethA, ipI, tAug, tOp, tC, tCB, tCons, tNil, gName, tVar, tAsg, tRet, tIfS, tTest, tB, tNext, tDrop, tFld, tCKw, tCall, tMeth, rI0, rI, CMul, rEq, rNe, rEqD, rNeD, tBM, rAppend, rExtend, rCat, rIn, rIxT, rIxL, tSl, rSlL, tPart, tNoPart, tChain, tUn, rU, tIf, tNot, tOr, tAnd, tMake, sFld, tLst, tTup, pad, List.set, List.getElem?_cons_zero, List.getElem?_cons_succ, cxOf, List.map_cons, List.map_nil, List.append_nil, List.cons_append, List.nil_append])
local macro_rules | `(tactic| walk_at "sq") => `(tactic| (refine seq_go ?_; walk_at "rd"))
local macro_rules | `(tactic| walk_at "r0") => `(tactic| (rw [start_pad (by rfl)]; walk_at "rd"))
local macro_rules | `(tactic| walk_at "lk") => `(tactic| first
  | exact lk_here
  | exact (lk_past (by decide +kernel)).trans lk_here
  | exact (lk_past (by decide +kernel)).trans ((lk_past (by decide +kernel)).trans lk_here)
  | exact (lk_past (by decide +kernel)).trans ((lk_past (by decide +kernel)).trans ((lk_past (by decide +kernel)).trans lk_here)))
local macro_rules | `(tactic| walk_at "ln") => `(tactic| first
  | exact (lk_past (by decide +kernel)).trans rfl
  | exact (lk_past (by decide +kernel)).trans ((lk_past (by decide +kernel)).trans rfl)
  | exact (lk_past (by decide +kernel)).trans ((lk_past (by decide +kernel)).trans ((lk_past (by decide +kernel)).trans rfl)))
section
variable {P : Program} {w : World} {K : PySem.W.Frag} {mg : Str → Option Value} {base : Heap} {c : Cs}
/-- [.. for x in e], e giving a list as S tells -/
theorem t_lcE {K : PySem.W.Frag} {tl te : TE} {g : TG} {tt : TT} {js : List Nat} {σ : L2.St} {H : Hp} {Q : VK} (S : Addr → List V → Hp → Prop) (ht : ∀ R : VK, (∀ a xs H1, S a xs H1 → R (.ref a) H1) → tl σ H R) (k : ∀ a xs H1, S a xs H1 → tLc (iList K (tC (.ref a))) g tt te js σ H1 Q) :
    tLc (iList K tl) g tt te js σ H Q := ht _ fun a xs H1 hs => k a xs H1 hs
/-- at C a list of lists of whole numbers -/
def CountsAt (H : Hp) (C : Addr) (R : List (List Nat)) : Prop := ∃ cs, H C = some (.lst cs) ∧ Paired (TxtAt H) cs R
theorem CountsAt.same {H H' : Hp} {C : Addr} {R : List (List Nat)} (h : CountsAt H C R) (s : Same H H') : CountsAt H' C R := by
  obtain ⟨cs, h1, h2⟩ := h
  exact ⟨cs, s _ _ h1, TxtsAt.same h2 s⟩
theorem paired_at2 {α β : Type} {F : α → β → Prop} : ∀ {l : List α} {m : List β} {i : Nat} {y : β}, Paired F l m → m[i]? = some y → ∃ x, l[i]? = some x ∧ F x y
  | _, _, i, x, .nil, h => by simp at h
  | _, _, 0, x, .cons r t, h => by
    obtain rfl := Option.some.inj h
    exact ⟨_, rfl, r⟩
  | _, _, i + 1, x, .cons r t, h => paired_at2 (i := i) t h
def cell (R : List (List Nat)) (i p : Nat) : Nat := (R.getD i []).getD p 0
theorem CountsAt.cell {H : Hp} {C : Addr} {R : List (List Nat)} (h : CountsAt H C R) {i p : Nat} (hi : i < R.length) (hp : p < (R.getD i []).length) : ∃ cs a, H C = some (.lst cs) ∧ cs[i]? = some (.ref a) ∧ H a = some (.lst (nvs (R.getD i []))) ∧ (nvs (R.getD i []))[p]? = some (.int (Int.ofNat (FX.cell R i p))) := by
  obtain ⟨cs, h1, h2⟩ := h
  have hR : R[i]? = some (R.getD i []) := by
    rw [List.getD_eq_getElem?_getD, List.getElem?_eq_getElem hi]
    rfl
  obtain ⟨x, hx, a, rfl, ha⟩ := paired_at2 h2 hR
  refine ⟨cs, a, h1, hx, ha, nvs_at ?_⟩
  unfold FX.cell
  rw [List.getD_eq_getElem?_getD (l := R.getD i []), List.getElem?_eq_getElem hp]
  rfl
def spWaysFrom (c : Cs) : Sp := fun vs H Q _ => ∃ (v : V) (C a : Addr) (R : List (List Nat)) (t : List Nat) (p : Nat) (s : Stp), vs = [v, .ref C, .ref a, .int (Int.ofNat p)] ∧ StepAt c H v s ∧ StpOk s ∧ CountsAt H C R ∧ (∀ n ∈ tgts s, n < R.length ∧ (R.getD n []).length = t.length + 1) ∧ H a = some (.lst (nvs t)) ∧ t.length ≤ 10000 ∧ p ≤ t.length ∧
  ∀ H', Same H H' → Q (.int (Int.ofNat ((s.byTxt (t.drop p)).map fun l => cell R l.tgt (p + l.txt.length)).sum)) H'
theorem sc_ways_from : FnScope ["step", "counts", "text", "place", "lead"] ["step", "counts", "text", "place"] (defScope (topS 81)) := ⟨rfl, rfl, rfl, by decide +kernel, rfl, by decide +kernel, by decide +kernel⟩
theorem d_ways_from (T : Top K mg c) : DefOk P w K mg base CX0 5 "ways_from" (spWaysFrom c) := T.a_ways_from.ok fun f fd F => by
  refine F.ok sc_ways_from (fun vs H Q E h => ?_) (fun cdv A outer s H vs Q E hr h => ⟨_, (pss_one (ps_ret (pe_callB (cr_sum rfl) (by rfl) T.b_sum (by decide +kernel) (pa_cons (pe_lc (own := [("lead", 4)]) (g := gName 4) (tt := tYes) (by rfl) sc_ways_from.nd (pi_list (pe_methA (pv 0) (any_by_text T) (hr.mono (by omega)) pass0 (pa_cons (pe_slice sl_list (pv 2) (po_some (pv 3)) po_none) pa_nil))) (blkOk_by (own := [("lead", 4)]) (N := ["step", "counts", "text", "place", "lead"]) (sc := defScope (topS 81)) (by decide +kernel)) (fun _ _ _ _ _ => pg_name (i := 4) sc_ways_from.nd rfl (Or.inl rfl)) (fun _ _ _ _ _ => pts_nil) (fun _ _ _ _ _ => (pe_ix (ix_listK K) (pe_ix (ix_listK K) (pv 1) (pe_fldK K (pv 4) rfl) (fun _ _ => rfl)) (pe_op op_add (pv 3) (pe_callB (call_lenK K) (by rfl) T.b_len (by decide +kernel) (pa_cons (pe_fldK K (pv 4) rfl) pa_nil))) (fun _ _ => rfl)))) pa_nil)))), ?_⟩)
  · obtain ⟨p, _, _, _, _, _, _, rfl, _⟩ := h
    rfl
  · obtain ⟨v, C, a, R, t, p, s, rfl, hst, sok, hC, hR, ha, htl, hp, q⟩ := h
    obtain ⟨pi, dxi, fsi, rfl, hpi, _, hlk⟩ := step_ins hst
    have hbt := byTxt_ok (t := t.drop p) sok
    walk_at "r0"
    refine t_lcE (fun b ls H1 => Same H H1 ∧ H1 b = some (.lst ls) ∧ Paired (LeadAt c H1) ls (s.byTxt (t.drop p))) (fun R' hR' => ?_) fun b ls H1 ⟨s1, hb, hls⟩ => ?_
    · refine ⟨_, rfl, pi, _, dxi, fsi, rfl, hpi, isStep_of c s, hlk, ?_⟩
      walk_at "rd"
      refine ⟨_, rfl, _, rfl, _, rfl, a, _, rfl, SqL.of ha, fun e he => ?_⟩
      have s3 := Same.add (o := .lst (cutV (nvs t) (some (Int.ofNat p)) none)) he
      have ec : cutV (nvs t) (some (Int.ofNat p)) none = nvs (t.drop p) := (cut_from _ p).trans (nvs_drop t p)
      rw [ec] at s3 ⊢
      refine ⟨[], .ref pi, e, s, t.drop p, rfl, fun z m => by simp at m, rfl, hst.same fun b o hb => by rw [hideZ_ne (by simp)]; exact s3 _ _ hb, sok, upd_same, by rw [List.length_drop]; omega, fun b ls H1 hb s1 hbl hls => ?_⟩
      exact hR' b ls H1 ⟨Same.trans s3 s1, hbl, Paired.mapR hls fun v l x => x.same hideZ_same⟩
    · have hll := paired_map hls
      refine t_lc_vals (nvs ((s.byTxt (t.drop p)).map fun l => cell R l.tgt (p + l.txt.length))) gv_c (SqL.of hb) (by rw [nvs_length, List.length_map, hll]) (by rw [hll]; omega) (fun x => rfl) (fun i x z H2 hi hz s2 Q' q' => ?_) fun D H2 hD s2 hDl => ?_
      · obtain ⟨l, hli, hla⟩ := Paired.at hls hi
        have hlm := List.mem_of_getElem? hli
        obtain ⟨l1, l2, l3⟩ := hbt.2 l hlm
        obtain ⟨r1, r2⟩ := hR _ l3
        rw [List.length_drop] at l1
        obtain ⟨cs, ca, c1, c2, c3, c4⟩ := (hC.same (Same.trans s1 s2)).cell (i := l.tgt) (p := p + l.txt.length) r1 (by rw [r2]; omega)
        obtain ⟨px, dxx, a1, a2, rfl, hpx, ha1, ha2⟩ := hla.same s2
        obtain rfl : z = .int (Int.ofNat (cell R l.tgt (p + l.txt.length))) := by
          have := nvs_at (t := (s.byTxt (t.drop p)).map fun l => cell R l.tgt (p + l.txt.length)) (i := i) (by rw [List.getElem?_map, hli]; rfl)
          exact Option.some.inj (hz.symm.trans this)
        have cL := T.c_Lead.cl
        refine ⟨_, rfl, _, rfl, px, _, dxx, _, _, rfl, hpx, cL, T.c_Lead.na _ (by simp), by walk_at "lk", C, cs, _, _, rfl, rfl, SqL.of c1, atI_nat (j := l.tgt) c2, _, rfl, _, rfl, px, _, dxx, _, _, rfl, hpx, cL, T.c_Lead.na _ (by simp), by walk_at "lk", a2, _, rfl, .inl (SqL.of ha2), _, _, rfl, rfl, ca, _, _, _, rfl, rfl, SqL.of c3, ?_, q' _ (Same.refl _)⟩
        rw [nvs_length]
        exact atI_nat (j := p + l.txt.length) c4
      · refine ⟨D, _, rfl, SqL.of (by rw [hDl, nvs_map]), ?_⟩
        rw [sum_ints]
        exact q H2 (Same.trans s1 s2)
/-! ### the table -/
def wayRow (S : List Stp) (t : List Nat) (j : Nat) : List Nat := (List.range (t.length + 1)).map fun p => (scn S j (t.drop p)).length
def wayTab (S : List Stp) (t : List Nat) (n : Nat) : List (List Nat) := (List.range n).map (wayRow S t)
theorem wayRow_len (S : List Stp) (t : List Nat) (j : Nat) : (wayRow S t j).length = t.length + 1 := by
  unfold wayRow
  rw [List.length_map, List.length_range]
theorem wayTab_at {S : List Stp} {t : List Nat} {n j : Nat} (h : j < n) : (wayTab S t n).getD j [] = wayRow S t j := by
  unfold wayTab
  rw [List.getD_eq_getElem?_getD, List.getElem?_map, List.getElem?_range h]
  rfl
theorem wayTab_cell {S : List Stp} {t : List Nat} {n j p : Nat} (h : j < n) (hp : p ≤ t.length) : cell (wayTab S t n) j p = (scn S j (t.drop p)).length := by
  unfold cell
  rw [wayTab_at h]
  unfold wayRow
  rw [List.getD_eq_getElem?_getD, List.getElem?_map, List.getElem?_range (by omega)]
  rfl
theorem wayTab_more (S : List Stp) (t : List Nat) (n : Nat) : wayTab S t (n + 1) = wayTab S t n ++ [wayRow S t n] := by
  unfold wayTab
  rw [List.range_succ, List.map_append]
  rfl
theorem wayRow_zero (S : List Stp) (t : List Nat) : wayRow S t 0 = List.replicate t.length 0 ++ [1] := by
  unfold wayRow
  rw [List.range_succ, List.map_append, scn_end]
  congr 1
  · refine List.ext_getElem (by simp) fun i h1 h2 => ?_
    simp only [List.getElem_map, List.getElem_range, List.getElem_replicate]
    have hi : i < t.length := by simpa using h1
    unfold endScn
    rw [if_neg fun e => by
      have := congrArg List.length e
      rw [List.length_drop] at this
      simp at this
      omega]
    rfl
  · simp [endScn]
theorem ways_sum {S : List Stp} {i : Nat} {s : Stp} (h : S[i]? = some s) (ok : StpOk s) (ht : ∀ t ∈ tgts s, t ≤ i) (t : List Nat) {p n : Nat} (hp : p ≤ t.length) (hn : i < n) : ((s.byTxt (t.drop p)).map fun l => cell (wayTab S t n) l.tgt (p + l.txt.length)).sum = (scn S (i + 1) (t.drop p)).length := by
  rw [scn_at h ok ht, List.length_flatMap]
  congr 1
  refine List.map_congr_left fun l hl => ?_
  obtain ⟨l1, l2, l3⟩ := (byTxt_ok ok).2 l hl
  rw [List.length_drop] at l1
  have := ht _ l3
  rw [wayTab_cell (by omega) (by omega), List.length_map, List.drop_drop]
def spWayCounts (c : Cs) : Sp := fun vs H Q _ => ∃ (B a : Addr) (S : List Stp) (t : List Nat), vs = [.ref B, .ref a] ∧ PlanAt c [B] H B S ∧ Good S ∧ S.length ≤ 5000 ∧ H a = some (.lst (nvs t)) ∧ t.length ≤ 1000 ∧
  ∀ C H', H C = none → Same H H' → CountsAt H' C (wayTab S t (S.length + 1)) → Q (.ref C) H'
theorem sc_way_counts : FnScope ["steps", "text", "counts", "step", "place"] ["steps", "text"] (defScope (topS 80)) := ⟨rfl, rfl, rfl, by decide +kernel, rfl, by decide +kernel, by decide +kernel⟩
theorem d_way_counts (T : Top K mg c) : DefOk P w K mg base CX0 6 "way_counts" (spWayCounts c) := T.a_way_counts.ok fun f fd F => by
  refine F.ok sc_way_counts (fun vs H Q E h => ?_) (fun cdv A outer s H vs Q E hr h => ⟨_, (pss_cons (ps_set (i := 2) sc_way_counts.nd rfl (.inr rfl) (pe_lst (pa_cons (pe_op op_cat (pe_op op_rep (pe_lst (pa_cons pe_int pa_nil)) (pe_callB call_len_seq (by rfl) T.b_len (by decide +kernel) (pa_cons (pv 1) pa_nil))) (pe_lst (pa_cons pe_int pa_nil))) pa_nil)))
 (pss_cons (ps_for PassesOwn.never rfl (pi_list (pe_slice sl_list (pv 0) (po_some pe_int) po_none)) (pg_name (i := 3) sc_way_counts.nd rfl (.inr rfl))
 (pss_one (ps_expr (pe_bm PySem.F.plainAttrs_list PySem.F.slot_list_append PySem.F.type_list_append mt_append (pv 2) (pa_cons (pe_lc (own := [("place", 4)]) (g := gName 4) (tt := tYes) (by rfl) sc_way_counts.nd (pi_range1 (by rfl) T.b_range (pa_cons (pe_op op_add (pe_callB call_len_seq (by rfl) T.b_len (by decide +kernel) (pa_cons (pv 1) pa_nil)) pe_int) pa_nil)) (blkOk_by (own := [("place", 4)]) (N := ["steps", "text", "counts", "step", "place"]) (sc := defScope (topS 80)) (by decide +kernel)) (fun _ _ _ _ _ => pg_name (i := 4) sc_way_counts.nd rfl (Or.inl rfl)) (fun _ _ _ _ _ => pts_nil) (fun _ _ _ _ _ => (pcall (d_ways_from T) (hr.mono (by omega)) pass0 (pa_cons (pv 3) (pa_cons (pv 2) (pa_cons (pv 1) (pa_cons (pv 4) pa_nil))))))) pa_nil)))))
 (pss_one (ps_ret (pv 2))))), ?_⟩)
  · obtain ⟨p, _, _, _, rfl, _⟩ := h
    rfl
  · obtain ⟨B, a, S, t, rfl, hpl, hgood, hSl, ha, htl, q⟩ := h
    obtain ⟨ws, hB, hwl, hst⟩ := hpl.step
    walk_at "r0"
    walk_at "sq"
    refine ⟨(by show 1 ≤ sizeLine; decide), fun e0 he0 => ?_⟩
    have t0 := Same.add (o := .lst [V.int 0]) he0
    refine ⟨_, rfl, a, _, rfl, .inl (SqL.of (t0 _ _ ha)), e0, _, _, rfl, rfl, upd_same, by omega, by rw [nvs_length]; omega, sz (by rw [nvs_length]; show 1 * _ ≤ _; omega), fun e1 he1 => ?_⟩
    have t1 := Same.trans t0 (Same.add (o := .lst (List.replicate ((nvs t).length : Int).toNat [V.int 0]).flatten) he1)
    refine ⟨(by show 1 ≤ sizeLine; decide), fun e2 he2 => ?_⟩
    have t2 := Same.trans t1 (Same.add (o := .lst [V.int 1]) he2)
    have h1 := Same.add (o := .lst [V.int 1]) he2 _ _ (upd_same (H := upd H e0 (.lst [V.int 0])) (a := e1) (o := .lst (List.replicate ((nvs t).length : Int).toNat [V.int 0]).flatten))
    refine ⟨e1, e2, _, _, rfl, rfl, h1, upd_same, sz (by simp [nvs]; omega), fun e3 he3 => ?_⟩
    have er : (List.replicate ((nvs t).length : Int).toNat [V.int 0]).flatten ++ [V.int 1] = nvs (wayRow S t 0) := by
      rw [wayRow_zero, nvs_append]
      congr 1
      rw [List.flatten_replicate_singleton, nvs_length]
      simp [nvs]
    rw [er]
    have t3 := Same.trans t2 (Same.add (o := .lst (nvs (wayRow S t 0))) he3)
    refine ⟨(by show 1 ≤ sizeLine; decide), fun C hC => ?_⟩
    have hCH : H C = none := t3.free hC
    have hBC : B ≠ C := fun e => by rw [e, hCH] at hB; cases hB
    have haC : a ≠ C := fun e => by rw [e, hCH] at ha; cases ha
    have t4 := Same.trans t3 (Same.add (o := .lst [V.ref e3]) hC)
    generalize hHH : upd (upd (upd (upd (upd H e0 (.lst [V.int 0])) e1 _) e2 (.lst [V.int 1])) e3 (.lst (nvs (wayRow S t 0)))) C (.lst [V.ref e3]) = H4 at t4 ⊢
    have hC4 : H4 C = some (.lst [V.ref e3]) := by rw [← hHH]; exact upd_same
    have h34 : hideA C H4 e3 = some (.lst (nvs (wayRow S t 0))) := by
      have hne : e3 ≠ C := ne_of_none upd_same hC
      rw [← hHH, hideA_ne hne, upd_ne hne, upd_same]
    clear hHH
    refine seq_go ?_
    refine t_forE (fun b xs H5 => Same H4 H5 ∧ H5 b = some (.lst xs) ∧ b ≠ C ∧ xs = ws) (fun R hR => ?_) ?_
    · walk_at "rd"
      refine ⟨_, rfl, _, rfl, B, _, rfl, SqL.of (t4 _ _ hB), fun e he => ?_⟩
      have ec : cutV (V.non :: ws) (some 1) none = ws := cut_from _ 1
      rw [ec]
      exact hR e ws _ ⟨Same.add he, upd_same, fun z => (by rw [z, hC4] at he; cases he), rfl⟩
    rintro b xs H5 ⟨s45, hb5, hbC, rfl⟩
    have s5 := Same.trans t4 s45
    refine t_for (a := b) (xs := xs) (fun i σ H' => Same (hideA C H5) (hideA C H') ∧ (∃ cs, H' C = some (.lst cs) ∧ Paired (TxtAt (hideA C H')) cs (wayTab S t (i + 1))) ∧ ∃ v3, σ = [some (.ref B), some (.ref a), some (.ref C), v3, none]) gv_c (SqL.of hb5) ⟨Same.refl _, ⟨_, s45 _ _ hC4, .cons ⟨e3, rfl, hide_same s45 _ _ h34⟩ .nil⟩, _, rfl⟩ (fun i σ H' h => SqL.of (beside h.1 hb5 hbC)) ?_ ?_
    · rintro i x σ H6 N hi ⟨s6, ⟨cs, hC6, hcs⟩, v3, rfl⟩ hN
      have sH6 : Same H H6 := hide_from hCH s5 s6
      have hil := (List.getElem?_eq_some_iff.mp hi).1
      obtain ⟨si, hsi⟩ : ∃ s, S[i]? = some s := ⟨_, List.getElem?_eq_getElem (by omega)⟩
      obtain ⟨sok, stg⟩ := hgood i si hsi
      obtain ⟨vi, hvi, hsta⟩ := hst i si hsi
      obtain rfl : x = vi := Option.some.inj (hi.symm.trans hvi)
      have hcl := paired_map hcs
      have hwt : (wayTab S t (i + 1)).length = i + 1 := by
        unfold wayTab
        rw [List.length_map, List.length_range]
      walk_at "rd"
      refine ⟨_, rfl, .inl ⟨rfl, _, SqL.of hC6⟩, ?_⟩
      refine t_lc_genv (J := Itr 0 (t.length + 1)) (n := t.length + 1) (it := fun i => .int (0 + (i : Nat))) (nvs (wayRow S t (i + 1))) (fun R r => ?_) (turns_range 0 _ H6) (by rw [nvs_length, wayRow_len]) (by omega) (fun x => rfl) (fun j z H7 hj hz s7 Q' q' => ?_) (fun D H7 hD s7 hDl => ?_)
      · refine ⟨_, rfl, a, _, rfl, .inl (SqL.of (sH6 _ _ ha)), _, _, rfl, rfl, _, rfl, by rw [nvs_length]; omega, by rw [nvs_length]; omega, ?_⟩
        have e : (((nvs t).length : Int) + 1).toNat = t.length + 1 := by
          rw [nvs_length]
          omega
        rw [e]
        exact r
      · refine ⟨_, rfl, _, rfl, _, rfl, _, rfl, x, C, a, wayTab S t (i + 1), t, j, si, ?_, hsta.same (Same.trans sH6 s7), sok, ⟨cs, s7 _ _ hC6, Paired.mapR hcs fun u v x => (x.same hideA_same).same s7⟩, fun n hn => ?_, s7 _ _ (sH6 _ _ ha), by omega, by omega, fun H8 s8 => ?_⟩
        · show [x, V.ref C, V.ref a, V.int (0 + (j : Int))] = _
          rw [Int.zero_add]
          rfl
        · have := stg n hn
          exact ⟨by omega, by rw [wayTab_at (by omega), wayRow_len]⟩
        · rw [ways_sum hsi sok stg t (by omega) (by omega)]
          obtain rfl : z = .int (Int.ofNat (scn S (i + 1) (t.drop j)).length) := by
            have := nvs_at (t := wayRow S t (i + 1)) (i := j) (n := (scn S (i + 1) (t.drop j)).length) (by
              unfold wayRow
              rw [List.getElem?_map, List.getElem?_range (by omega)]
              rfl)
            exact Option.some.inj (hz.symm.trans this)
          exact q' H8 s8
      · have hDC : D ≠ C := fun e => by rw [e, hC6] at hD; cases hD
        refine ⟨C, cs, _, rfl, rfl, s7 _ _ hC6, szl (by omega), hN _ _ ⟨Same.trans s6 (hideA_upd s7), ⟨_, upd_same, ?_⟩, some x, rfl⟩⟩
        rw [wayTab_more]
        exact paired_app (Paired.mapR hcs fun u v x => x.same (hideA_upd s7)) (.cons ⟨D, rfl, by rw [hideA_ne hDC, upd_ne hDC]; exact hDl⟩ .nil)
    · rintro σ H6 ⟨s6, ⟨cs, hC6, hcs⟩, v3, rfl⟩
      rw [hwl] at hcs
      exact ⟨_, rfl, q C H6 hCH (hide_from hCH s5 s6) ⟨cs, hC6, Paired.mapR hcs fun u v x => x.same hideA_same⟩⟩
end
end FX
end
section
set_option Elab.async false
set_option linter.all false
set_option maxRecDepth 100000
set_option maxHeartbeats 4000000
namespace FX
open PySem PySem.Spec PyProof.Rows L2 FT
open VafmsBase (Fmt)
local macro_rules | `(tactic| walk_at "rd") => `(tactic| try dsimp only [tMethA, ipI, tAug, tOp, tC, tCB, tCons, tNil, gName, tVar, tAsg, tRet, tIfS, tTest, tB, tNext, tDrop, tFld, tCKw, tCall, tMeth, rI0, rI, CMul, rEq, rNe, rEqD, rNeD, tBM, rAppend, rExtend, rCat, rIn, rIxT, rIxL, tSl, rSlL, tPart, tNoPart, tChain, tUn, rU, tIf, tNot, tOr, tAnd, tMake, sFld, tLst, tTup, pad, List.set, List.getElem?_cons_zero, List.getElem?_cons_succ, cxOf, List.map_cons, List.map_nil, List.append_nil, List.cons_append, List.nil_append])
local macro_rules | `(tactic| walk_at "sq") => `(tactic| (refine seq_go ?_; walk_at "rd"))
local macro_rules | `(tactic| walk_at "r0") => `(tactic| (rw [start_pad (by rfl)]; walk_at "rd"))
local macro_rules | `(tactic| walk_at "lk") => `(tactic| first
  | exact lk_here
  | exact (lk_past (by decide +kernel)).trans lk_here
  | exact (lk_past (by decide +kernel)).trans ((lk_past (by decide +kernel)).trans lk_here)
  | exact (lk_past (by decide +kernel)).trans ((lk_past (by decide +kernel)).trans ((lk_past (by decide +kernel)).trans lk_here)))
local macro_rules | `(tactic| walk_at "ln") => `(tactic| first
  | exact (lk_past (by decide +kernel)).trans rfl
  | exact (lk_past (by decide +kernel)).trans ((lk_past (by decide +kernel)).trans rfl)
  | exact (lk_past (by decide +kernel)).trans ((lk_past (by decide +kernel)).trans ((lk_past (by decide +kernel)).trans rfl)))
section
variable {P : Program} {w : World} {K : PySem.W.Frag} {mg : Str → Option Value} {base : Heap} {c : Cs}
/-- the items whose mark is true -/
def marked {α : Type} (xs : List α) (bs : List Bool) : List α := ((xs.zip bs).filter (·.2)).map (·.1)
theorem marked_more {α : Type} {xs : List α} {bs : List Bool} {i : Nat} {x : α} {b : Bool} (hx : xs[i]? = some x) (hb : bs[i]? = some b) : marked (xs.take (i + 1)) (bs.take (i + 1)) = marked (xs.take i) (bs.take i) ++ (if b = true then [x] else []) := by
  have hxl := (List.getElem?_eq_some_iff.mp hx).1
  have hbl := (List.getElem?_eq_some_iff.mp hb).1
  unfold marked
  rw [take_more hx, take_more hb, List.zip_append (by rw [List.length_take, List.length_take]; omega), List.filter_append, List.map_append]
  cases b <;> rfl
theorem paired_marked {α β : Type} {F : α → β → Prop} (pb : β → Bool) : ∀ {xs : List α} {ms : List β}, Paired F xs ms → Paired F (marked xs (ms.map pb)) (ms.filter pb)
  | _, _, .nil => .nil
  | x :: xs, m :: ms, .cons r t => by
    have ih := paired_marked pb t
    cases h : pb m with
    | true =>
      have e1 : marked (x :: xs) ((m :: ms).map pb) = x :: marked xs (ms.map pb) := by
        unfold marked
        simp [h]
      rw [e1, List.filter_cons, if_pos h]
      exact .cons r ih
    | false =>
      have e1 : marked (x :: xs) ((m :: ms).map pb) = marked xs (ms.map pb) := by
        unfold marked
        simp [h]
      rw [e1, List.filter_cons, if_neg (by rw [h]; exact Bool.false_ne_true)]
      exact ih
/-- [x for x in xs if ..] -/
theorem t_lc_filt {tl te : TE} {tt : TT} {j : Nat} {a : Addr} {xs : List V} {σ : L2.St} {H : Hp} {Q : VK} (bs : List Bool) (ht : Gv tl σ H (.ref a)) (hS : SqL K H a xs) (hb : bs.length = xs.length) (hl : xs.length ≤ 100000)
    (hw : ∀ x, wipe ((wipe σ [j]).set j (some x)) [j] = wipe σ [j])
    (htt : ∀ (i : Nat) (x : V) (b : Bool) (H' : Hp), xs[i]? = some x → bs[i]? = some b → Same H H' → ∀ Q' : Bool → Hp → Prop, (∀ H2, Same H' H2 → Q' b H2) → tt ((wipe σ [j]).set j (some x)) H' Q')
    (hte : ∀ (i : Nat) (x : V) (H' : Hp), xs[i]? = some x → ∀ Q' : VK, Q' x H' → te ((wipe σ [j]).set j (some x)) H' Q')
    (k : ∀ D H', H D = none → Same H H' → H' D = some (.lst (marked xs bs)) → Q (.ref D) H') : tLc (iList K tl) (gName j) tt te [j] σ H Q := by
  refine ht _ ⟨a, rfl, ⟨xs, hS⟩, fun D hD => ?_⟩
  refine lc_list (K := K) (a := a) (xs := xs) (fun i H' => Same H H' ∧ H' D = some (.lst (marked (xs.take i) (bs.take i))) ∧ (marked (xs.take i) (bs.take i)).length ≤ i) ⟨Same.add hD, upd_same, by simp [marked]⟩ (fun i H' _ h => h.1.seq hS) ?_ ?_
  · rintro i x H' hi ⟨s, hy, hyl⟩
    have hil := (List.getElem?_eq_some_iff.mp hi).1
    obtain ⟨b, hbi⟩ : ∃ b, bs[i]? = some b := ⟨_, List.getElem?_eq_getElem (by omega)⟩
    have hm := marked_more hi hbi
    refine ⟨hw x, htt i x b H' hi hbi s _ fun H2 s2 => ?_⟩
    cases b with
    | true =>
      rw [if_pos rfl]
      rw [if_pos rfl] at hm
      refine hte i x H2 hi _ ⟨_, s2 _ _ hy, szl (by omega), Same.chg (Same.trans s s2) hD, ?_, ?_⟩
      · rw [upd_same, hm]
      · rw [hm, List.length_append]
        show _ + 1 ≤ _
        omega
    | false =>
      rw [if_neg Bool.false_ne_true]
      rw [if_neg Bool.false_ne_true, List.append_nil] at hm
      rw [hm]
      exact ⟨Same.trans s s2, s2 _ _ hy, by omega⟩
  · rintro H' ⟨s, hy, hyl⟩
    rw [List.take_length, ← hb, List.take_length] at hy
    exact k D H' hD s hy
def spFirstLead (c : Cs) : Sp := fun vs H Q _ => ∃ (Z : List Addr) (v : V) (C a : Addr) (R : List (List Nat)) (t : List Nat) (p : Nat) (s : Stp) (l : Ld), vs = [v, .ref C, .ref a, .int (Int.ofNat p)] ∧ (∀ z ∈ Z, H z ≠ none) ∧ StepAt c (hideZ Z H) v s ∧ StpOk s ∧ CountsAt H C R ∧ (∀ n ∈ tgts s, n < R.length ∧ (R.getD n []).length = t.length + 1) ∧ H a = some (.lst (nvs t)) ∧ t.length ≤ 10000 ∧ p ≤ t.length ∧
  (s.byTxt (t.drop p)).find? (fun l => decide (0 < cell R l.tgt (p + l.txt.length))) = some l ∧ ∀ x H', Same H H' → LeadAt c (hideZ Z H') x l → Q x H'
theorem sc_first_lead : FnScope ["step", "counts", "text", "place", "leads", "lead"] ["step", "counts", "text", "place"] (defScope (topS 84)) := ⟨rfl, rfl, rfl, by decide +kernel, rfl, by decide +kernel, by decide +kernel⟩
theorem d_first_lead (T : Top K mg c) : DefOk P w K mg base CX0 5 "first_lead" (spFirstLead c) := T.a_first_lead.ok fun f fd F => by
  refine F.ok sc_first_lead (fun vs H Q E h => ?_) (fun cdv A outer s H vs Q E hr h => ⟨_, (pss_cons (ps_set (i := 4) sc_first_lead.nd rfl (.inl rfl) (pe_methA (pv 0) (any_by_text T) (hr.mono (by omega)) pass0 (pa_cons (pe_slice sl_list (pv 2) (po_some (pv 3)) po_none) pa_nil)))
 (pss_one (ps_ret (pe_ix ix_list (pe_lc (own := [("lead", 5)]) (g := gName 5) (by rfl) sc_first_lead.nd (pi_list (pv 4)) (blkOk_by (own := [("lead", 5)]) (N := ["step", "counts", "text", "place", "leads", "lead"]) (sc := defScope (topS 84)) (by decide +kernel)) (fun _ _ _ _ _ => pg_name (i := 5) sc_first_lead.nd rfl (Or.inl rfl)) (fun _ _ _ _ _ => (pts_one (pt_cmpR op_gt (pe_ix (ix_listK K) (pe_ix (ix_listK K) (pv 1) (pe_fldK K (pv 5) rfl) (fun _ _ => rfl)) (pe_op op_add (pv 3) (pe_callB (call_lenK K) (by rfl) T.b_len (by decide +kernel) (pa_cons (pe_fldK K (pv 5) rfl) pa_nil))) (fun _ _ => rfl)) pe_int (nomark _)))) (fun _ _ _ _ _ => (pv 5))) pe_int (fun _ _ => rfl))))), ?_⟩)
  · obtain ⟨Z, p, _, _, _, _, _, _, _, rfl, _⟩ := h
    rfl
  · obtain ⟨Z, v, C, a, R, t, p, s, l0, rfl, hzn, hst, sok, hC, hR, ha, htl, hp, hfind, q⟩ := h
    obtain ⟨pi, dxi, fsi, rfl, hpi, _, hlk⟩ := step_ins (hst.same hideZ_same)
    have hbt := byTxt_ok (t := t.drop p) sok
    walk_at "r0"
    walk_at "sq"
    refine ⟨_, rfl, pi, _, dxi, fsi, rfl, hpi, isStep_of c s, hlk, _, rfl, _, rfl, _, rfl, a, _, rfl, SqL.of ha, fun e he => ?_⟩
    have s3 := Same.add (o := .lst (cutV (nvs t) (some (Int.ofNat p)) none)) he
    have ec : cutV (nvs t) (some (Int.ofNat p)) none = nvs (t.drop p) := (cut_from _ p).trans (nvs_drop t p)
    rw [ec] at s3 ⊢
    refine ⟨Z, .ref pi, e, s, t.drop p, rfl, occ hzn s3, rfl, hst.same (hideZ_of s3), sok, upd_same, by rw [List.length_drop]; omega, fun b ls H1 hb s1 hbl hls => ?_⟩
    have s13 := Same.trans s3 s1
    have hll := paired_map hls
    walk_at "rd"
    refine t_lc_filt ((s.byTxt (t.drop p)).map fun l => decide (0 < cell R l.tgt (p + l.txt.length))) (gv_var rfl) (SqL.of hbl) (by rw [List.length_map, hll]) (by rw [hll]; omega) (fun x => rfl) (fun i x b2 H2 hi hb2 s2 Q' q' => ?_) (fun i x H2 hi Q' q' => ⟨x, rfl, q'⟩) fun D H2 hD s2 hDl => ?_
    · obtain ⟨l, hli, hla⟩ := Paired.at hls hi
      have hlm := List.mem_of_getElem? hli
      obtain ⟨l1, l2, l3⟩ := hbt.2 l hlm
      obtain ⟨r1, r2⟩ := hR _ l3
      rw [List.length_drop] at l1
      obtain ⟨cs, ca, c1, c2, c3, c4⟩ := (hC.same (Same.trans s13 s2)).cell (i := l.tgt) (p := p + l.txt.length) r1 (by rw [r2]; omega)
      obtain ⟨px, dxx, a1, a2, rfl, hpx, ha1, ha2⟩ := (hla.same hideZ_same).same s2
      rw [List.getElem?_map, hli] at hb2
      obtain rfl : decide (0 < cell R l.tgt (p + l.txt.length)) = b2 := Option.some.inj hb2
      have cL := T.c_Lead.cl
      refine ⟨_, rfl, _, rfl, px, _, dxx, _, _, rfl, hpx, cL, T.c_Lead.na _ (by simp), by walk_at "lk", C, cs, _, _, rfl, rfl, SqL.of c1, atI_nat (j := l.tgt) c2, _, rfl, _, rfl, px, _, dxx, _, _, rfl, hpx, cL, T.c_Lead.na _ (by simp), by walk_at "lk", a2, _, rfl, .inl (SqL.of ha2), _, _, rfl, rfl, ca, _, _, .int (Int.ofNat (cell R l.tgt (p + l.txt.length))), rfl, rfl, SqL.of c3, ?_, Int.ofNat (cell R l.tgt (p + l.txt.length)), 0, rfl, rfl, _, rfl, ?_⟩
      · rw [nvs_length]
        exact atI_nat (j := p + l.txt.length) c4
      · have e : decide ((0 : Int) < Int.ofNat (cell R l.tgt (p + l.txt.length))) = decide (0 < cell R l.tgt (p + l.txt.length)) := by
          rw [Bool.eq_iff_iff, decide_eq_true_iff, decide_eq_true_iff]
          show (0 : Int) < ((cell R l.tgt (p + l.txt.length) : Nat) : Int) ↔ _
          omega
        rw [e]
        exact q' _ (Same.refl _)
    · have hm := paired_marked (fun l : Ld => decide (0 < cell R l.tgt (p + l.txt.length))) hls
      rw [← List.head?_filter] at hfind
      cases hfl : (s.byTxt (t.drop p)).filter (fun l => decide (0 < cell R l.tgt (p + l.txt.length))) with
      | nil => rw [hfl] at hfind; cases hfind
      | cons l1 lr =>
        rw [hfl] at hfind hm
        obtain rfl : l1 = l0 := Option.some.inj hfind
        generalize marked ls _ = mm at hm hDl
        cases hm with
        | cons r tl =>
          rename_i x0 xr
          exact ⟨D, _, 0, x0, rfl, rfl, SqL.of hDl, atI_nat (j := 0) rfl, q _ _ (Same.trans s13 s2) (r.same (Same.trans hideZ_more (hideZ_of s2)))⟩
end
end FX
end
section
set_option Elab.async false
set_option linter.all false
set_option maxRecDepth 100000
set_option maxHeartbeats 4000000
namespace FX
open PySem PySem.Spec PyProof.Rows L2 FT
open VafmsBase (Fmt)
local macro_rules | `(tactic| walk_at "rd") => `(tactic| try dsimp only [tMethA, ipI, tAug, tOp, tC, tCB, tCons, tNil, gName, tVar, tAsg, tRet, tIfS, tTest, tB, tNext, tDrop, tFld, tCKw, tCall, tMeth, rI0, rI, CMul, rEq, rNe, rEqD, rNeD, tBM, rAppend, rExtend, rCat, rIn, rIxT, rIxL, tSl, rSlL, tPart, tNoPart, tChain, tUn, rU, tIf, tNot, tOr, tAnd, tMake, sFld, tLst, tTup, pad, List.set, List.getElem?_cons_zero, List.getElem?_cons_succ, cxOf, List.map_cons, List.map_nil, List.append_nil, List.cons_append, List.nil_append])
local macro_rules | `(tactic| walk_at "sq") => `(tactic| (refine seq_go ?_; walk_at "rd"))
local macro_rules | `(tactic| walk_at "r0") => `(tactic| (rw [start_pad (by rfl)]; walk_at "rd"))
local macro_rules | `(tactic| walk_at "lk") => `(tactic| first
  | exact lk_here
  | exact (lk_past (by decide +kernel)).trans lk_here
  | exact (lk_past (by decide +kernel)).trans ((lk_past (by decide +kernel)).trans lk_here)
  | exact (lk_past (by decide +kernel)).trans ((lk_past (by decide +kernel)).trans ((lk_past (by decide +kernel)).trans lk_here)))
local macro_rules | `(tactic| walk_at "ln") => `(tactic| first
  | exact (lk_past (by decide +kernel)).trans rfl
  | exact (lk_past (by decide +kernel)).trans ((lk_past (by decide +kernel)).trans rfl)
  | exact (lk_past (by decide +kernel)).trans ((lk_past (by decide +kernel)).trans ((lk_past (by decide +kernel)).trans rfl)))
section
variable {P : Program} {w : World} {K : PySem.W.Frag} {mg : Str → Option Value} {base : Heap} {c : Cs}
theorem first_of {α β : Type} {g : α → List β} {pb : α → Bool} : ∀ {L : List α}, (∀ l ∈ L, pb l = decide (0 < (g l).length)) → 0 < (L.flatMap g).length → ∃ l, L.find? pb = some l ∧ l ∈ L ∧ (L.flatMap g).head? = (g l).head? ∧ 0 < (g l).length
  | [], _, h => by simp at h
  | a :: L, hp, h => by
    have ha := hp a (List.mem_cons_self ..)
    by_cases hg : 0 < (g a).length
    · rw [decide_eq_true hg] at ha
      refine ⟨a, by rw [List.find?_cons, ha], List.mem_cons_self .., ?_, hg⟩
      rw [List.flatMap_cons]
      cases e : g a with
      | nil => rw [e] at hg; simp at hg
      | cons b l => rfl
    · rw [decide_eq_false hg] at ha
      have e : g a = [] := by
        cases e : g a with
        | nil => rfl
        | cons b l => rw [e] at hg; simp at hg
      rw [List.flatMap_cons, e, List.nil_append] at h ⊢
      obtain ⟨l, h1, h2, h3, h4⟩ := first_of (fun l hl => hp l (List.mem_cons_of_mem _ hl)) h
      exact ⟨l, by rw [List.find?_cons, ha]; exact h1, List.mem_cons_of_mem _ h2, h3, h4⟩
def spFirstScan (c : Cs) : Sp := fun vs H Q _ => ∃ (r a : Addr) (f : Fmt) (t : List Nat), vs = [.ref r, .ref a] ∧ RowAt c H r f ∧ depth f ≤ 20 ∧ f.size ≤ 1000 ∧ VafmsBase.okPieces f = true ∧ H a = some (.lst (nvs t)) ∧ t.length ≤ 1000 ∧ GivesT H (VafmsBase.scan f t) Q
theorem sc_first_scanning : FnScope ["row", "text", "steps", "counts", "at", "place", "numbers", "lead"] ["row", "text"] (defScope (topS 83)) := ⟨rfl, rfl, rfl, by decide +kernel, rfl, by decide +kernel, by decide +kernel⟩
theorem d_first_scanning (T : Top K mg c) : DefOk P w K mg base CX0 88 "first_scanning" (spFirstScan c) := T.a_first_scanning.ok fun f fd F => by
  refine F.ok sc_first_scanning (fun vs H Q E h => ?_) (fun cdv A outer s H vs Q E hr h => ⟨_, (pss_cons (ps_set (i := 2) sc_first_scanning.nd rfl (.inl rfl) (pcall (d_steps_of T) (hr.mono (by omega)) pass0 (pa_cons (pv 0) pa_nil)))
 (pss_cons (ps_set (i := 3) sc_first_scanning.nd rfl (.inl rfl) (pcall (d_way_counts T) (hr.mono (by omega)) pass0 (pa_cons (pv 2) (pa_cons (pv 1) pa_nil))))
 (pss_cons (ps_set (i := 4) sc_first_scanning.nd rfl (.inl rfl) (pe_op op_sub (pe_callB call_len_seq (by rfl) T.b_len (by decide +kernel) (pa_cons (pv 2) pa_nil)) pe_int))
 (pss_cons (ps_set (i := 5) sc_first_scanning.nd rfl (.inl rfl) pe_int)
 (pss_cons (ps_set (i := 6) sc_first_scanning.nd rfl (.inl rfl) (pe_lst pa_nil))
 (pss_cons (ps_if (pt_cmpR op_eq (pe_ix ix_list (pe_ix ix_list (pv 3) (pv 4) (fun _ _ => rfl)) (pv 5) (fun _ _ => rfl)) pe_int (nomark _))
 (pss_one (ps_ret pe_non))
 pss_nil)
 (pss_cons (ps_while PassesOwn.never (pt_cmpR op_ne (pv 4) (pe_num T.n_END_plans) (nomark _))
 (pss_cons (ps_set (i := 7) sc_first_scanning.nd rfl (.inl rfl) (pcall (d_first_lead T) (hr.mono (by omega)) pass0 (pa_cons (pe_ix ix_list (pv 2) (pv 4) (fun _ _ => rfl)) (pa_cons (pv 3) (pa_cons (pv 1) (pa_cons (pv 5) pa_nil))))))
 (pss_cons (ps_expr (pe_bm PySem.F.plainAttrs_list PySem.F.slot_list_extend PySem.F.type_list_extend mt_extend (pv 6) (pa_cons (pe_fld (pv 7) rfl) pa_nil)))
 (pss_cons (ps_aug (i := 5) sc_first_scanning.nd rfl (.inl rfl) (pe_callB call_len_seq (by rfl) T.b_len (by decide +kernel) (pa_cons (pe_fld (pv 7) rfl) pa_nil)) ip_add)
 (pss_one (ps_set (i := 4) sc_first_scanning.nd rfl (.inl rfl) (pe_fld (pv 7) rfl)))))))
 (pss_one (ps_ret (pv 6)))))))))), ?_⟩)
  · obtain ⟨p, _, _, _, rfl, _⟩ := h
    rfl
  · obtain ⟨r, a, fm, t, rfl, hrow, hdep, hsz, hok, ha, htl, q⟩ := h
    have hgood := plan_good hok
    have hpl := plan_len hok hsz
    have escan : VafmsBase.scan fm t = (scn (plan fm) (plan fm).length t).head? := by rw [plan_scan hok]; rfl
    rw [escan] at q
    obtain ⟨S, hS⟩ : ∃ S, S = plan fm := ⟨_, rfl⟩
    rw [← hS] at q hgood hpl
    walk_at "r0"
    walk_at "sq"
    refine ⟨_, rfl, r, fm, rfl, hrow, hdep, hsz, hok, fun B H1 hB s1 hp1 => ?_⟩
    rw [← hS] at hp1
    obtain ⟨ws, hB1, hwl, hst⟩ := hp1.step
    walk_at "sq"
    refine ⟨_, rfl, _, rfl, B, a, S, t, rfl, hp1, hgood, hpl, s1 _ _ ha, htl, fun C H2 hC s2 hCt => ?_⟩
    have sB := Same.trans s1 s2
    walk_at "sq"
    refine ⟨_, rfl, B, _, rfl, .inl (SqL.of (s2 _ _ hB1)), _, _, rfl, rfl, ?_⟩
    have e : ((V.non :: ws).length : Int) - 1 = Int.ofNat S.length := by
      rw [List.length_cons, hwl]
      show ((S.length + 1 : Nat) : Int) - 1 = (S.length : Int)
      omega
    rw [e]
    walk_at "sq"
    walk_at "sq"
    refine ⟨(by show 0 ≤ sizeLine; decide), fun N hN => ?_⟩
    have sN := Same.add (o := .lst []) hN
    have hwt : (wayTab S t (S.length + 1)).length = S.length + 1 := by
      unfold wayTab
      rw [List.length_map, List.length_range]
    obtain ⟨cs, ca, k1, k2, k3, k4⟩ := (hCt.same sN).cell (i := S.length) (p := 0) (by omega) (by rw [wayTab_at (by omega), wayRow_len]; omega)
    rw [wayTab_cell (by omega) (by omega), List.drop_zero] at k4
    walk_at "sq"
    refine ⟨_, rfl, _, rfl, C, cs, _, _, rfl, rfl, SqL.of k1, atI_nat (j := S.length) k2, _, rfl, ca, _, 0, _, rfl, rfl, SqL.of k3, atI_nat (j := 0) k4, rfl, _, rfl, ?_⟩
    cases hlen : (scn S S.length t).length with
    | zero =>
      rw [if_pos (by decide)]
      have : scn S S.length t = [] := List.length_eq_zero_iff.mp hlen
      rw [this] at q
      exact q _ (Same.trans sB sN)
    | succ n =>
      rw [if_neg (by
        rw [decide_eq_false (by intro z; injection z with z; cases z)]
        exact Bool.false_ne_true)]
      refine seq_go ?_
      refine ⟨fun m σ H' => ∃ (pl : Nat) (d : List Nat) (v7 : Option V), σ = [some (.ref r), some (.ref a), some (.ref B), some (.ref C), some (.int (Int.ofNat m)), some (.int (Int.ofNat pl)), some (.ref N), v7] ∧ m ≤ S.length ∧ pl ≤ t.length ∧ d.length + 5 * m ≤ 5 * S.length ∧ (scn S S.length t).head? = (scn S m (t.drop pl)).head?.map (fun x => d ++ x) ∧ 0 < (scn S m (t.drop pl)).length ∧ Same (hideA N H2) (hideA N H') ∧ H' N = some (.lst (nvs d)), ⟨S.length, 0, [], _, rfl, Nat.le_refl _, Nat.zero_le _, by simp, ?_, ?_, hideA_chg (Same.refl _) hN, upd_same⟩, ?_⟩
      · simp
      · rw [List.drop_zero, hlen]
        omega
      rintro m σ H3 ⟨pl, d, v7, rfl, hm, hpl2, hdl, hhd, hpos, s3, hN3⟩
      have s23 : Same H2 H3 := hide_from hN (Same.refl _) s3
      have sH3 : Same H H3 := Same.trans sB s23
      walk_at "rd"
      refine ⟨_, rfl, rfl, _, rfl, ?_⟩
      cases m with
      | zero =>
        rw [if_neg (by decide)]
        walk_at "rd"
        rw [scn_end] at hhd hpos
        have e0 : endScn (t.drop pl) = [[]] := by
          unfold endScn at hpos ⊢
          split
          · rfl
          · rename_i h
            rw [if_neg h] at hpos
            simp at hpos
        rw [e0] at hhd
        rw [hhd] at q
        refine ⟨_, rfl, q N H3 (sB.free hN) sH3 ?_⟩
        show H3 N = some (.lst (nvs (d ++ [])))
        rw [List.append_nil]
        exact hN3
      | succ i =>
        rw [if_pos (by
          rw [decide_eq_false (by intro e; injection e with e; cases e)]
          rfl)]
        refine ⟨fun σ' H' => ∃ m', m' < i + 1 ∧ ∃ (pl : Nat) (d : List Nat) (v7 : Option V), σ' = [some (.ref r), some (.ref a), some (.ref B), some (.ref C), some (.int (Int.ofNat m')), some (.int (Int.ofNat pl)), some (.ref N), v7] ∧ m' ≤ S.length ∧ pl ≤ t.length ∧ d.length + 5 * m' ≤ 5 * S.length ∧ (scn S S.length t).head? = (scn S m' (t.drop pl)).head?.map (fun x => d ++ x) ∧ 0 < (scn S m' (t.drop pl)).length ∧ Same (hideA N H2) (hideA N H') ∧ H' N = some (.lst (nvs d)), fun _ _ z => z, ?_⟩
        obtain ⟨si, hsi⟩ : ∃ s, S[i]? = some s := ⟨_, List.getElem?_eq_getElem (by omega)⟩
        obtain ⟨sok, stg⟩ := hgood i si hsi
        obtain ⟨vi, hvi, hsta⟩ := hst i si hsi
        have hsa := scn_at hsi sok stg (t.drop pl)
        rw [hsa] at hhd hpos
        have hbt := byTxt_ok (t := t.drop pl) sok
        obtain ⟨l, hf, hlm, hh, hgl⟩ := first_of (pb := fun l => decide (0 < cell (wayTab S t (S.length + 1)) l.tgt (pl + l.txt.length))) (fun l hl => by
          obtain ⟨l1, l2, l3⟩ := hbt.2 l hl
          rw [List.length_drop] at l1
          have := stg _ l3
          rw [wayTab_cell (by omega) (by omega), List.length_map, List.drop_drop]) hpos
        obtain ⟨l1, l2, l3⟩ := hbt.2 l hlm
        rw [List.length_drop] at l1
        have htg := stg _ l3
        rw [hh] at hhd
        rw [List.length_map, List.drop_drop] at hgl
        walk_at "sq"
        refine ⟨_, rfl, _, rfl, B, _, _, _, rfl, rfl, SqL.of (s23 _ _ (s2 _ _ hB1)), atI_nat (j := i + 1) hvi, _, rfl, _, rfl, _, rfl, [N], vi, C, a, wayTab S t (S.length + 1), t, pl, si, l, rfl, fun z mz => ?_, ?_, sok, hCt.same s23, fun n hn => ?_, sH3 _ _ ha, by omega, hpl2, hf, fun x H4 s4 hx => ?_⟩
        · obtain rfl : z = N := by simpa using mz
          rw [hN3]
          simp
        · refine hsta.same fun b o hb => ?_
          have hb2 := s2 _ _ hb
          have hne : b ≠ N := ne_of_none hb2 hN
          rw [hideZ_ne (by simpa using hne)]
          exact s23 _ _ hb2
        · have := stg n hn
          exact ⟨by omega, by rw [wayTab_at (by omega), wayRow_len]⟩
        · obtain ⟨px, dxx, a1, a2, rfl, hpx, ha1, ha2⟩ := hx
          have hN4 := s4 _ _ hN3
          have cL := T.c_Lead.cl
          have sx : Same (hideZ [N] H4) (upd H4 N (.lst (nvs (d ++ l.nums)))) := fun b o e => by
            by_cases hbN : b = N
            · rw [hbN] at e
              have : hideZ [N] H4 N = none := if_pos (by simp)
              rw [this] at e
              cases e
            · rw [hideZ_ne (by simpa using hbN)] at e
              rw [upd_ne hbN]
              exact e
          walk_at "sq"
          refine ⟨_, rfl, .inl ⟨rfl, _, SqL.of hN4⟩, _, rfl, px, _, dxx, _, _, rfl, hideZ_same _ _ hpx, cL, T.c_Lead.na _ (by simp), by walk_at "lk", N, a1, _, _, rfl, rfl, hN4, hideZ_same _ _ ha1, sz (by rw [nvs_length, nvs_length]; omega), ?_⟩
          rw [← nvs_append]
          walk_at "sq"
          refine ⟨_, rfl, _, rfl, px, _, dxx, _, _, rfl, sx _ _ hpx, cL, T.c_Lead.na _ (by simp), by walk_at "lk", a2, _, rfl, .inl (SqL.of (sx _ _ ha2)), _, _, rfl, rfl, ?_⟩
          walk_at "rd"
          refine ⟨_, rfl, px, _, dxx, _, _, rfl, sx _ _ hpx, cL, T.c_Lead.na _ (by simp), by walk_at "lk", l.tgt, by omega, pl + l.txt.length, d ++ l.nums, some (.ref px), ?_, by omega, by omega, ?_, ?_, hgl, ?_, upd_same⟩
          · rw [nvs_length]
            rfl
          · rw [List.length_append]
            omega
          · rw [hhd, List.drop_drop, List.head?_map, Option.map_map]
            congr 1
            funext y
            simp
          · exact hideA_chg (Same.trans s3 (hide_same s4)) hN
end
end FX
end
section
set_option Elab.async false
set_option linter.all false
set_option maxRecDepth 100000
set_option maxHeartbeats 4000000
namespace FX
open PySem PySem.Spec PyProof.Rows L2 FT
open VafmsBase (Fmt)
local macro_rules | `(tactic| walk_at "rd") => `(tactic| try dsimp only [tMethA, ipI, tAug, tOp, tC, tCB, tCons, tNil, gName, tVar, tAsg, tRet, tIfS, tTest, tB, tNext, tDrop, tFld, tCKw, tCall, tMeth, rI0, rI, CMul, rEq, rNe, rEqD, rNeD, tBM, rAppend, rExtend, rCat, rIn, rIxT, rIxL, tSl, rSlL, tPart, tNoPart, tChain, tUn, rU, tIf, tNot, tOr, tAnd, tMake, sFld, tLst, tTup, pad, List.set, List.getElem?_cons_zero, List.getElem?_cons_succ, cxOf, List.map_cons, List.map_nil, List.append_nil, List.cons_append, List.nil_append])
local macro_rules | `(tactic| walk_at "sq") => `(tactic| (refine seq_go ?_; walk_at "rd"))
local macro_rules | `(tactic| walk_at "r0") => `(tactic| (rw [start_pad (by rfl)]; walk_at "rd"))
local macro_rules | `(tactic| walk_at "lk") => `(tactic| first
  | exact lk_here
  | exact (lk_past (by decide +kernel)).trans lk_here
  | exact (lk_past (by decide +kernel)).trans ((lk_past (by decide +kernel)).trans lk_here)
  | exact (lk_past (by decide +kernel)).trans ((lk_past (by decide +kernel)).trans ((lk_past (by decide +kernel)).trans lk_here)))
local macro_rules | `(tactic| walk_at "ln") => `(tactic| first
  | exact (lk_past (by decide +kernel)).trans rfl
  | exact (lk_past (by decide +kernel)).trans ((lk_past (by decide +kernel)).trans rfl)
  | exact (lk_past (by decide +kernel)).trans ((lk_past (by decide +kernel)).trans ((lk_past (by decide +kernel)).trans rfl)))
section
variable {P : Program} {w : World} {K : PySem.W.Frag} {mg : Str → Option Value} {base : Heap} {c : Cs}
/-- where a run of such bytes ends -/
def runFrom (f : Nat → Bool) (s : List Nat) (p : Nat) : Nat := p + ((s.drop p).takeWhile f).length
theorem runFrom_step {f : Nat → Bool} {s : List Nat} {p b : Nat} (h : s[p]? = some b) : runFrom f s p = if f b = true then runFrom f s (p + 1) else p := by
  obtain ⟨h1, h2⟩ := List.getElem?_eq_some_iff.mp h
  unfold runFrom
  have e : s.drop p = b :: s.drop (p + 1) := by rw [List.drop_eq_getElem_cons h1, h2]
  rw [e, List.takeWhile_cons]
  by_cases hb : f b = true
  · rw [if_pos hb, if_pos hb, List.length_cons]
    omega
  · rw [if_neg hb, if_neg hb]
    rfl
theorem runFrom_end {f : Nat → Bool} {s : List Nat} {p : Nat} (h : s.length ≤ p) : runFrom f s p = p := by
  unfold runFrom
  rw [List.drop_eq_nil_of_le h]
  rfl
theorem runFrom_le {f : Nat → Bool} {s : List Nat} {p : Nat} (h : p ≤ s.length) : p ≤ runFrom f s p ∧ runFrom f s p ≤ s.length := by
  unfold runFrom
  have := List.Sublist.length_le (List.takeWhile_sublist (l := s.drop p) f)
  rw [List.length_drop] at this
  omega
def spPast : Sp := fun vs H Q _ => ∃ (a : Addr) (s : List Nat) (p : Nat), vs = [.ref a, .int (Int.ofNat p)] ∧ H a = some (.lst (nvs s)) ∧ s.length ≤ 10000 ∧ p ≤ s.length ∧ ∀ H', Same H H' → Q (.int (Int.ofNat (runFrom Vafmsa.isBlank s p))) H'
theorem sc_past_blanks : FnScope ["source", "place"] ["source", "place"] (defScope (topS 96)) := ⟨rfl, rfl, rfl, by decide +kernel, rfl, by decide +kernel, by decide +kernel⟩
theorem d_past_blanks (T : Top K mg c) : DefOk P w K mg base CX0 1 "past_blanks" spPast := T.a_past_blanks.ok fun f fd F => by
  refine F.ok sc_past_blanks (fun vs H Q E h => ?_) (fun cdv A outer s H vs Q E hr h => ⟨_, (pss_cons (ps_while PassesOwn.never (PW.pt (pw_and (pt_cmpR op_lt (pv 1) (pe_callB call_len_seq (by rfl) T.b_len (by decide +kernel) (pa_cons (pv 0) pa_nil)) (nomark _)) (pw_and1 (pt_cmpR op_in_seq (pe_ix ix_list (pv 0) (pv 1) (fun _ _ => rfl)) (pe_tup (pa_cons (pe_num T.n_BLANK) (pa_cons (pe_num T.n_ROW_END) pa_nil))) (by rfl)))))
 (pss_one (ps_aug (i := 1) sc_past_blanks.nd rfl (.inl rfl) pe_int ip_add)))
 (pss_one (ps_ret (pv 1)))), ?_⟩)
  · obtain ⟨p, _, _, rfl, _⟩ := h
    rfl
  · obtain ⟨a, s, p, rfl, ha, hl, hp, q⟩ := h
    walk_at "r0"
    refine seq_go ?_
    refine ⟨fun m σ H' => ∃ x, m = s.length - x ∧ x ≤ s.length ∧ σ = [some (.ref a), some (.int (Int.ofNat x))] ∧ Same H H' ∧ runFrom Vafmsa.isBlank s p = runFrom Vafmsa.isBlank s x, ⟨_, p, rfl, hp, rfl, Same.refl H, rfl⟩, ?_⟩
    rintro m σ H1 ⟨x, rfl, hx, rfl, s1, hrun⟩
    have ha1 := s1 _ _ ha
    walk_at "rd"
    refine ⟨_, rfl, _, rfl, a, _, rfl, .inl (SqL.of ha1), _, _, rfl, rfl, _, rfl, ?_⟩
    rw [nvs_length]
    by_cases hlt : x < s.length
    · rw [if_pos (decide_eq_true (by show (x : Int) < _; omega))]
      obtain ⟨b, hb⟩ : ∃ b, s[x]? = some b := ⟨_, List.getElem?_eq_getElem hlt⟩
      have hstep := runFrom_step (f := Vafmsa.isBlank) hb
      rw [hstep] at hrun
      refine ⟨_, rfl, _, rfl, a, _, _, _, rfl, rfl, SqL.of ha1, atI_nat (j := x) (nvs_at hb), (by show 2 ≤ sizeLine; decide), fun e he => ⟨e, [.int 32, .int 10], rfl, .inr (SqT.of upd_same), rfl, rfl, _, rfl, ?_⟩⟩
      have s2 := Same.trans s1 (Same.add (o := .tup [.int 32, .int 10]) he)
      have eb : inV (.int (Int.ofNat b)) [.int 32, .int 10] = Vafmsa.isBlank b := by
        rw [show ([.int 32, .int 10] : List V) = [32, 10].map V.int from rfl, inV_ints]
        unfold Vafmsa.isBlank
        rw [Bool.eq_iff_iff]
        simp
        omega
      rw [eb]
      cases hbl : Vafmsa.isBlank b with
      | true =>
        rw [if_pos (by decide)]
        rw [hbl, if_pos rfl] at hrun
        refine ⟨fun σ' H' => ∃ m', m' < s.length - x ∧ ∃ x, m' = s.length - x ∧ x ≤ s.length ∧ σ' = [some (.ref a), some (.int (Int.ofNat x))] ∧ Same H H' ∧ runFrom Vafmsa.isBlank s p = runFrom Vafmsa.isBlank s x, fun _ _ z => z, ?_⟩
        exact ⟨_, rfl, _, _, rfl, rfl, _, by omega, x + 1, rfl, hlt, rfl, s2, hrun⟩
      | false =>
        rw [if_neg (by decide)]
        rw [hbl, if_neg Bool.false_ne_true] at hrun
        rw [hrun] at q
        exact ⟨_, rfl, q _ s2⟩
    · rw [if_neg (by rw [decide_eq_false (by show ¬ (x : Int) < _; omega)]; exact Bool.false_ne_true)]
      have he := runFrom_end (f := Vafmsa.isBlank) (s := s) (p := x) (by omega)
      rw [he] at hrun
      rw [hrun] at q
      exact ⟨_, rfl, q _ s1⟩
def runLoHi (lo hi : Nat) (b : Nat) : Bool := decide (lo ≤ b) && decide (b ≤ hi)
def spRun : Sp := fun vs H Q _ => ∃ (a : Addr) (s : List Nat) (p lo hi : Nat), vs = [.ref a, .int (Int.ofNat p), .int (Int.ofNat lo), .int (Int.ofNat hi)] ∧ H a = some (.lst (nvs s)) ∧ s.length ≤ 10000 ∧ p ≤ s.length ∧ Q (.int (Int.ofNat (runFrom (runLoHi lo hi) s p))) H
theorem sc_run_end : FnScope ["source", "place", "first", "last"] ["source", "place", "first", "last"] (defScope (topS 98)) := ⟨rfl, rfl, rfl, by decide +kernel, rfl, by decide +kernel, by decide +kernel⟩
theorem d_run_end (T : Top K mg c) : DefOk P w K mg base CX0 1 "run_end" spRun := T.a_run_end.ok fun f fd F => by
  refine F.ok sc_run_end (fun vs H Q E h => ?_) (fun cdv A outer s H vs Q E hr h => ⟨_, (pss_cons (ps_while PassesOwn.never (PW.pt (pw_and (pt_cmpR op_lt (pv 1) (pe_callB call_len_seq (by rfl) T.b_len (by decide +kernel) (pa_cons (pv 0) pa_nil)) (nomark _)) (pw_and1 (pt_chain op_le op_le (pv 2) (pe_ix ix_list (pv 0) (pv 1) (fun _ _ => rfl)) (pv 3)))))
 (pss_one (ps_aug (i := 1) sc_run_end.nd rfl (.inl rfl) pe_int ip_add)))
 (pss_one (ps_ret (pv 1)))), ?_⟩)
  · obtain ⟨p, _, _, _, _, rfl, _⟩ := h
    rfl
  · obtain ⟨a, s, p, lo, hi, rfl, ha, hl, hp, q⟩ := h
    walk_at "r0"
    refine seq_go ?_
    refine ⟨fun m σ H' => ∃ x, m = s.length - x ∧ x ≤ s.length ∧ σ = [some (.ref a), some (.int (Int.ofNat x)), some (.int (Int.ofNat lo)), some (.int (Int.ofNat hi))] ∧ H' = H ∧ runFrom (runLoHi lo hi) s p = runFrom (runLoHi lo hi) s x, ⟨_, p, rfl, hp, rfl, rfl, rfl⟩, ?_⟩
    rintro m σ H1 ⟨x, rfl, hx, rfl, rfl, hrun⟩
    walk_at "rd"
    refine ⟨_, rfl, _, rfl, a, _, rfl, .inl (SqL.of ha), _, _, rfl, rfl, _, rfl, ?_⟩
    rw [nvs_length]
    by_cases hlt : x < s.length
    · rw [if_pos (decide_eq_true (by show (x : Int) < _; omega))]
      obtain ⟨b, hb⟩ : ∃ b, s[x]? = some b := ⟨_, List.getElem?_eq_getElem hlt⟩
      have hstep := runFrom_step (f := runLoHi lo hi) hb
      rw [hstep] at hrun
      have yes : runLoHi lo hi b = true → ∃ N : L2.St → Hp → Prop, (∀ σ' H', N σ' H' → ∃ m', m' < s.length - x ∧ ∃ x, m' = s.length - x ∧ x ≤ s.length ∧ σ' = [some (.ref a), some (.int (Int.ofNat x)), some (.int (Int.ofNat lo)), some (.int (Int.ofNat hi))] ∧ H' = H1 ∧ runFrom (runLoHi lo hi) s p = runFrom (runLoHi lo hi) s x) ∧ N [some (.ref a), some (.int (Int.ofNat x + 1)), some (.int (Int.ofNat lo)), some (.int (Int.ofNat hi))] H1 := fun hbl => by
        rw [hbl, if_pos rfl] at hrun
        exact ⟨_, fun _ _ z => z, _, by omega, x + 1, rfl, hlt, rfl, rfl, hrun⟩
      have no : ¬ runLoHi lo hi b = true → Q (.int (Int.ofNat x)) H1 := fun hbl => by
        rw [if_neg hbl] at hrun
        rw [hrun] at q
        exact q
      refine ⟨_, rfl, _, rfl, _, rfl, a, _, _, _, rfl, rfl, SqL.of ha, atI_nat (j := x) (nvs_at hb), _, _, rfl, rfl, _, rfl, ?_⟩
      by_cases h1 : lo ≤ b
      · rw [if_pos (decide_eq_true (by show (lo : Int) ≤ (b : Int); omega))]
        refine ⟨_, rfl, _, _, rfl, rfl, _, rfl, ?_⟩
        by_cases h2 : b ≤ hi
        · rw [if_pos (decide_eq_true (by show (b : Int) ≤ (hi : Int); omega))]
          obtain ⟨N, n1, n2⟩ := yes (by unfold runLoHi; rw [decide_eq_true h1, decide_eq_true h2]; rfl)
          exact ⟨N, n1, _, rfl, _, _, rfl, rfl, n2⟩
        · rw [if_neg (by rw [decide_eq_false (by show ¬ (b : Int) ≤ (hi : Int); omega)]; exact Bool.false_ne_true)]
          exact ⟨_, rfl, no (by unfold runLoHi; rw [decide_eq_false h2]; simp)⟩
      · rw [if_neg (by rw [decide_eq_false (by show ¬ (lo : Int) ≤ (b : Int); omega)]; exact Bool.false_ne_true)]
        refine ⟨_, rfl, ?_⟩
        rw [if_neg Bool.false_ne_true]
        exact ⟨_, rfl, no (by unfold runLoHi; rw [decide_eq_false h1]; simp)⟩
    · rw [if_neg (by rw [decide_eq_false (by show ¬ (x : Int) < _; omega)]; exact Bool.false_ne_true)]
      have he := runFrom_end (f := runLoHi lo hi) (s := s) (p := x) (by omega)
      rw [he] at hrun
      rw [hrun] at q
      exact ⟨_, rfl, q⟩
def canStand (s : List Nat) (i : Nat) (bb : Bool) : Bool := match s[i]? with
  | none => false
  | some b => if bb = true then (b == 34 || b == 92) else VafmsBase.okByte b
def spCanStand : Sp := fun vs H Q _ => ∃ (a : Addr) (s : List Nat) (p : Nat) (bb : Bool), vs = [.ref a, .int (Int.ofNat p), .bl bb] ∧ H a = some (.lst (nvs s)) ∧ s.length ≤ 10000 ∧ p ≤ s.length ∧ ∀ H', Same H H' → Q (.bl (canStand s p bb)) H'
theorem sc_can_stand_in_string : FnScope ["source", "at", "behind_backslash"] ["source", "at", "behind_backslash"] (defScope (topS 102)) := ⟨rfl, rfl, rfl, by decide +kernel, rfl, by decide +kernel, by decide +kernel⟩
theorem d_can_stand_in_string (T : Top K mg c) : DefOk P w K mg base CX0 1 "can_stand_in_string" spCanStand := T.a_can_stand_in_string.ok fun f fd F => by
  refine F.ok sc_can_stand_in_string (fun vs H Q E h => ?_) (fun cdv A outer s H vs Q E hr h => ⟨_, (pss_cons (ps_if (pt_cmpR op_eq (pv 1) (pe_callB call_len_seq (by rfl) T.b_len (by decide +kernel) (pa_cons (pv 0) pa_nil)) (nomark _))
 (pss_one (ps_ret pe_bl))
 pss_nil)
 (pss_cons (ps_if (pt_val (pv 2))
 (pss_one (ps_ret (pe_cmpR op_in_seq (pe_ix ix_list (pv 0) (pv 1) (fun _ _ => rfl)) (pe_tup (pa_cons (pe_num T.n_QUOTE) (pa_cons (pe_num T.n_BACKSLASH) pa_nil))) (by rfl))))
 pss_nil)
 (pss_one (ps_ret (pe_chain op_le op_le (pe_num T.n_BLANK) (pe_ix ix_list (pv 0) (pv 1) (fun _ _ => rfl)) (pe_num T.n_LAST_BYTE)))))), ?_⟩)
  · obtain ⟨p, _, _, _, rfl, _⟩ := h
    rfl
  · obtain ⟨a, s, p, bb, rfl, ha, hl, hp, q⟩ := h
    walk_at "r0"
    walk_at "sq"
    refine ⟨_, rfl, _, rfl, a, _, rfl, .inl (SqL.of ha), rfl, _, rfl, ?_⟩
    rw [nvs_length]
    by_cases hlt : p < s.length
    · rw [if_neg (by
        rw [decide_eq_false (fun e => by injection e with e; have := Int.ofNat.inj e; omega)]
        exact Bool.false_ne_true)]
      obtain ⟨b, hb⟩ : ∃ b, s[p]? = some b := ⟨_, List.getElem?_eq_getElem hlt⟩
      unfold canStand at q
      rw [hb] at q
      dsimp only at q
      walk_at "sq"
      refine ⟨_, rfl, _, rfl, ?_⟩
      cases bb with
      | true =>
        rw [if_pos rfl]
        rw [if_pos rfl] at q
        refine ⟨_, rfl, _, rfl, a, _, _, _, rfl, rfl, SqL.of ha, atI_nat (j := p) (nvs_at hb), (by show 2 ≤ sizeLine; decide), fun e he => ⟨e, [.int 34, .int 92], rfl, .inr (SqT.of upd_same), rfl, rfl, ?_⟩⟩
        have eb : inV (.int (Int.ofNat b)) [.int 34, .int 92] = (b == 34 || b == 92) := by
          rw [show ([.int 34, .int 92] : List V) = [34, 92].map V.int from rfl, inV_ints]
          rw [Bool.eq_iff_iff]
          simp
          omega
        rw [eb]
        exact q _ (Same.add he)
      | false =>
        rw [if_neg Bool.false_ne_true]
        rw [if_neg Bool.false_ne_true] at q
        refine ⟨_, rfl, _, rfl, a, _, _, _, rfl, rfl, SqL.of ha, atI_nat (j := p) (nvs_at hb), _, _, rfl, rfl, _, rfl, ?_⟩
        by_cases h1 : 32 ≤ b
        · rw [if_pos (decide_eq_true (by show (32 : Int) ≤ (b : Int); omega))]
          refine ⟨_, _, rfl, rfl, ?_⟩
          have e : decide (Int.ofNat b ≤ 126) = VafmsBase.okByte b := by
            unfold VafmsBase.okByte
            rw [Bool.eq_iff_iff]
            simp
            omega
          rw [e]
          exact q _ (Same.refl H)
        · rw [if_neg (by rw [decide_eq_false (by show ¬ (32 : Int) ≤ (b : Int); omega)]; exact Bool.false_ne_true)]
          have e : VafmsBase.okByte b = false := by
            unfold VafmsBase.okByte
            rw [decide_eq_false h1]
            rfl
          rw [e] at q
          exact q _ (Same.refl H)
    · obtain rfl : p = s.length := by omega
      rw [if_pos (decide_eq_true (show V.int (Int.ofNat s.length) = V.int (s.length : Int) from rfl))]
      unfold canStand at q
      rw [List.getElem?_eq_none (Nat.le_refl _)] at q
      exact q _ (Same.refl H)
end
end FX
end
section
set_option Elab.async false
set_option linter.all false
set_option maxRecDepth 100000
set_option maxHeartbeats 4000000
namespace FX
open PySem PySem.Spec PyProof.Rows L2 FT
open VafmsBase (Fmt)
local macro_rules | `(tactic| walk_at "rd") => `(tactic| try dsimp only [tAug, tOp, tC, tCB, tCons, tNil, gName, tVar, tAsg, tRet, tIfS, tTest, tB, tNext, tDrop, tFld, tCKw, tCall, rI0, rI, tExI, tEst, pad, List.set, List.getElem?_cons_zero, List.getElem?_cons_succ, cxOf, List.map_cons, List.map_nil, List.append_nil, List.cons_append, List.nil_append])
local macro_rules | `(tactic| walk_at "sq") => `(tactic| (refine seq_go ?_; walk_at "rd"))
local macro_rules | `(tactic| walk_at "r0") => `(tactic| (rw [start_pad (by rfl)]; walk_at "rd"))
section
variable {P : Program} {w : World} {K : PySem.W.Frag} {mg : Str → Option Value} {base : Heap} {c : Cs}
def spFaultInit (c : Cs) : Sp := fun vs H Q _ => ∃ (a : Addr) (x y : V), vs = [.ref a, x, y] ∧ H a = some (exo a c.Fault none) ∧ ∀ dx H', H dx = none → dx ≠ a → H' dx = some (exd dx [("place", y), ("kind", x)]) → H' a = some (exo a c.Fault (some dx)) → (∀ b, b ≠ a → b ≠ dx → H' b = H b) → Q .non H'
theorem sc_Fault_init : FnScope ["self", "kind", "place"] ["self", "kind", "place"] (defScope (inClass (topS 7) 0)) := ⟨rfl, rfl, rfl, by decide +kernel, rfl, by decide +kernel, by decide +kernel⟩
theorem d_Fault_init (T : Top K mg c) {f : Addr} {fd : FuncData} (F : Fun K "__init__" "Fault.__init__" (inClass (topS 7) 0) f fd) : FnOk P w K mg base CX0 1 f fd ["self", "kind", "place"] (spFaultInit c) := by
  refine F.ok sc_Fault_init (fun vs H Q E h => ?_) (fun cdv A outer s H vs Q E hr h => ⟨_, (pss_cons (ps_expr (pe_exinit (by rfl) T.b_Exception T.f_Exception (pa_cons (pv 0) pa_nil)))
 (pss_cons (ps_est (pv 0) (pv 1))
 (pss_one (ps_est (pv 0) (pv 2))))), ?_⟩)
  · obtain ⟨a, x, y, rfl, _⟩ := h
    rfl
  · obtain ⟨a, x, y, rfl, ha, q⟩ := h
    walk_at "r0"
    walk_at "sq"
    refine ⟨_, rfl, a, c.Fault, [], rfl, Nat.zero_le _, T.c_Fault.er, ha, ?_⟩
    walk_at "sq"
    refine ⟨_, rfl, _, rfl, a, c.Fault, rfl, T.c_Fault.er, T.c_Fault.na _ (by simp), .inl ⟨ha, fun dx hdx hne => ?_⟩⟩
    refine ⟨_, rfl, _, rfl, a, c.Fault, rfl, T.c_Fault.er, T.c_Fault.na _ (by simp), .inr ⟨dx, _, upd_same, by rw [upd_ne hne, upd_same], (by show 1 ≤ 900; decide), ?_⟩⟩
    refine q dx _ hdx hne upd_same ?_ fun b hb hb2 => ?_
    · rw [upd_ne (Ne.symm hne), upd_same]
    · rw [upd_ne hb2, upd_ne hb, upd_ne hb2]
/-- Fault(kind, place) made and raised -/
def tFault (c : Cs) (ta : TA) : L2.St → Hp → XK → Prop := fun σ H Q => ta σ H fun vs H1 => ∃ k p : Nat, vs = [.int (Int.ofNat k), .int (Int.ofNat p)] ∧ ∀ d H', H1 d = none → Same H1 H' → H' d = some (.xd [("place", .int (Int.ofNat p)), ("kind", .int (Int.ofNat k))]) → Q (.ref c.Fault) (some d) H'
theorem pmk_mono {X : Cx} {e : Expr} {t t' : L2.St → Hp → XK → Prop} (h : PMk X e t) (m : ∀ σ H Q, t' σ H Q → t σ H Q) : PMk X e t' := fun pins s σ H Q I h' => h pins s σ H Q I (m σ H Q h')
theorem pmk_fault {X : Cx} {e : Expr} {es : List Expr} {ta : TA} {p pos : Pos} (T : Top X.K X.mg c) (hr : Room 2 X.A) (ha : PA X (e :: es) ta) (mono : ∀ σ H (Q Q' : List V → Hp → Prop), (∀ vs H', Q vs H' → Q' vs H') → ta σ H Q → ta σ H Q') (hg : Gl X "Fault" := by rfl)
    (he : starEach (e :: es) X.env = (false, eval e X.env) :: starEach es X.env := by rfl) (hpl : (backTo pos (starEach es X.env)).any (·.1) = false := by rfl) :
    PMk X (.Call (.Name "Fault" p) (e :: es) [] pos) (tFault c ta) := by
  obtain ⟨f, fd, hi, hf, F, hb⟩ := T.i_Fault.ex
  have ht : PySem.W.typeIn X.K (.ref f) = some (.type "function") := by simpa [PySem.W.isFn] using hf
  refine pmk_mono (pmk_err (k := 1) (CX := CX0) (dvs := []) T.c_Fault.er hi ht (d_Fault_init T F) hr hb .nil pass0 T.c_Fault.gl ha hg (by decide) he hpl) fun σ H Q h => ?_
  refine mono σ H _ _ (fun vs H1 ⟨k, pl, e, q⟩ => ?_) h
  subst e
  refine ⟨(by show 2 ≤ 1000; decide), fun a ha' => ⟨a, _, _, rfl, upd_same, fun dx H' hdx hne h1 h2 h3 => ⟨rfl, dx, _, h2, h1, ?_, q dx _ ?_ ?_ ?_⟩⟩⟩
  · rw [upd_ne hne] at hdx
    exact hdx
  · rw [upd_ne hne] at hdx
    exact hdx
  · intro b o hb
    have n1 : b ≠ a := ne_of_none hb ha'
    rw [upd_ne hne] at hdx
    have n2 : b ≠ dx := ne_of_none hb hdx
    rw [upd_ne n2]
    have : H' b = some o := by rw [h3 b n1 n2, upd_ne n1]; exact hb
    (show (if b = a then none else H' b) = some o; rw [if_neg n1]; exact this)
  · exact upd_same
end
end FX
end
section
set_option Elab.async false
set_option linter.all false
set_option maxRecDepth 100000
set_option maxHeartbeats 4000000
namespace FX
open PySem PySem.Spec PyProof.Rows L2 FT
open VafmsBase (Fmt)
local macro_rules | `(tactic| walk_at "rd") => `(tactic| try dsimp only [tMethA, ipI, tAug, tOp, tC, tCB, tCons, tNil, gName, tVar, tAsg, tRet, tIfS, tTest, tB, tNext, tDrop, tFld, tCKw, tCall, tMeth, rI0, rI, CMul, rEq, rNe, rEqD, rNeD, tBM, rAppend, rExtend, rCat, rIn, rIxT, rIxL, tSl, rSlL, tPart, tNoPart, tChain, tUn, rU, tIf, tNot, tOr, tAnd, tMake, sFld, tLst, tTup, tFault, pad, List.set, List.getElem?_cons_zero, List.getElem?_cons_succ, cxOf, List.map_cons, List.map_nil, List.append_nil, List.cons_append, List.nil_append])
local macro_rules | `(tactic| walk_at "sq") => `(tactic| (refine seq_go ?_; walk_at "rd"))
local macro_rules | `(tactic| walk_at "r0") => `(tactic| (rw [start_pad (by rfl)]; walk_at "rd"))
section
variable {P : Program} {w : World} {K : PySem.W.Frag} {mg : Str → Option Value} {base : Heap} {c : Cs}
theorem mono_var {i : Nat} {σ : L2.St} {H : Hp} {Q Q' : VK} (m : ∀ v H', Q v H' → Q' v H') (h : tVar i σ H Q) : tVar i σ H Q' := by
  obtain ⟨v, e, q⟩ := h
  exact ⟨v, e, m _ _ q⟩
theorem mono_two {k : V} {te : TE} (mt : ∀ (σ : L2.St) (H : Hp) (Q Q' : VK), (∀ v H', Q v H' → Q' v H') → te σ H Q → te σ H Q') (σ : L2.St) (H : Hp) (Q Q' : List V → Hp → Prop) (m : ∀ vs H', Q vs H' → Q' vs H') (h : tCons (tC k) (tCons te tNil) σ H Q) : tCons (tC k) (tCons te tNil) σ H Q' := mt _ _ _ _ (fun v H' q => m _ _ q) h
/-- what a token tells -/
inductive Tk where
  | mark (w : List Nat)
  | num (n : Nat)
  | str (t : List Nat)
  | ending
def kindOf : Tk → Str
  | .mark _ => "mark"
  | .num _ => "numeral"
  | .str _ => "string"
  | .ending => "end"
def ToldAt (H : Hp) (v : V) : Tk → Prop
  | .mark w => v = .str ⟨w.toArray⟩
  | .num n => v = .int (Int.ofNat n)
  | .str t => TxtAt H v t
  | .ending => v = .str ""
structure Tkn where
  tk : Tk
  place : Nat
  behind : Nat
def TokAt (c : Cs) (H : Hp) (v : V) (t : Tkn) : Prop := ∃ (q dx : Addr) (told : V), v = .ref q ∧ H q = some (.ins c.Token dx [("kind", .str (kindOf t.tk)), ("told", told), ("place", .int (Int.ofNat t.place)), ("behind", .int (Int.ofNat t.behind))]) ∧ ToldAt H told t.tk
theorem ToldAt.same {H H' : Hp} {v : V} : ∀ {t : Tk}, ToldAt H v t → Same H H' → ToldAt H' v t
  | .mark _, h, _ => h
  | .num _, h, _ => h
  | .str _, h, s => TxtAt.same h s
  | .ending, h, _ => h
theorem TokAt.same {H H' : Hp} {v : V} {t : Tkn} (h : TokAt c H v t) (s : Same H H') : TokAt c H' v t := by
  obtain ⟨q, dx, told, e, h1, h2⟩ := h
  exact ⟨q, dx, told, e, s _ _ h1, h2.same s⟩
/-- .. its text at a place that was free in H0 -/
def ToldNew (H0 H : Hp) (v : V) : Tk → Prop
  | .mark w => v = .str ⟨w.toArray⟩
  | .num n => v = .int (Int.ofNat n)
  | .str t => TxtNew H0 H v t
  | .ending => v = .str ""
def TokNew (c : Cs) (H0 H : Hp) (v : V) (t : Tkn) : Prop := ∃ (q dx : Addr) (told : V), v = .ref q ∧ H q = some (.ins c.Token dx [("kind", .str (kindOf t.tk)), ("told", told), ("place", .int (Int.ofNat t.place)), ("behind", .int (Int.ofNat t.behind))]) ∧ ToldNew H0 H told t.tk
/-- a fault raised -/
def Raises (c : Cs) (H : Hp) (k p : Nat) (E : XK) : Prop := ∀ d H', H d = none → Same H H' → H' d = some (.xd [("place", .int (Int.ofNat p)), ("kind", .int (Int.ofNat k))]) → E (.ref c.Fault) (some d) H'
/-- a token, or fault 1 -/
def GivesTok (c : Cs) (H : Hp) (p : Nat) (o : Option (Tk × Nat)) (Q : VK) (E : XK) : Prop := match o with
  | none => Raises c H 1 p E
  | some (t, b) => ∀ v H', Same H H' → TokNew c H H' v ⟨t, p, b⟩ → Q v H'
def numTok (s : List Nat) (p : Nat) : Option (Tk × Nat) :=
  let d := (s.drop p).takeWhile VafmsBase.isDigit
  if 4 < d.length ∨ (1 < d.length ∧ d[0]? = some 48) then none else some (.num (VafmsBase.numberOf d), p + d.length)
def spTokOf (c : Cs) (f : List Nat → Nat → Option (Tk × Nat)) : Sp := fun vs H Q E => ∃ (a : Addr) (s : List Nat) (p : Nat), vs = [.ref a, .int (Int.ofNat p)] ∧ H a = some (.lst (nvs s)) ∧ s.length ≤ 10000 ∧ p ≤ s.length ∧ GivesTok c H p (f s p) Q E
theorem run_cut (f : Nat → Bool) (s : List Nat) (p : Nat) : cutV (nvs s) (some (Int.ofNat p)) (some (Int.ofNat (runFrom f s p))) = nvs ((s.drop p).takeWhile f) := by
  have h := cut_mid (nvs s) p (runFrom f s p)
  refine h.trans ?_
  unfold runFrom
  rw [Nat.add_sub_cancel_left, nvs_drop, nvs_take]
  congr 1
  have h := List.prefix_iff_eq_take.mp (List.takeWhile_prefix (l := s.drop p) f)
  exact h.symm
theorem sc_numeral_at : FnScope ["source", "place", "behind", "digits"] ["source", "place"] (defScope (topS 100)) := ⟨rfl, rfl, rfl, by decide +kernel, rfl, by decide +kernel, by decide +kernel⟩
theorem d_numeral_at (T : Top K mg c) : DefOk P w K mg base (L2.CX P w) 3 "numeral_at" (spTokOf c numTok) := T.a_numeral_at.ok fun f fd F => by
  refine F.okX sc_numeral_at (fun vs H Q E h => ?_) (fun cdv A outer s H vs Q E hr h => ⟨_, (pss_cons (ps_set (i := 2) sc_numeral_at.nd rfl (.inl rfl) (pcall (d_run_end T) (hr.mono (by omega)) pass0 (pa_cons (pv 0) (pa_cons (pv 1) (pa_cons (pe_num T.n_ZERO) (pa_cons (pe_num T.n_NINE) pa_nil))))))
 (pss_cons (ps_set (i := 3) sc_numeral_at.nd rfl (.inl rfl) (pe_slice sl_list (pv 0) (po_some (pv 1)) (po_some (pv 2))))
 (pss_cons (ps_if (PW.pt (pw_or (pt_cmpR op_gt (pe_callB call_len_seq (by rfl) T.b_len (by decide +kernel) (pa_cons (pv 3) pa_nil)) (pe_num T.n_MOST_DIGITS) (nomark _)) (pw_or1 (PW.pt (pw_and (pt_cmpR op_gt (pe_callB call_len_seq (by rfl) T.b_len (by decide +kernel) (pa_cons (pv 3) pa_nil)) pe_int (nomark _)) (pw_and1 (pt_cmpR op_eq (pe_ix ix_list (pv 3) pe_int (fun _ _ => rfl)) (pe_num T.n_ZERO) (nomark _))))))))
 (pss_one (ps_raise rfl (takes_of rfl rfl rfl rfl) (by exact pmk_fault T (hr.mono (by omega)) (pa_cons (pe_num T.n_NO_TOKEN) (pa_cons (pv 1) pa_nil)) (mono_two fun _ _ _ _ m h => mono_var m h))))
 pss_nil)
 (pss_one (ps_ret (pmake (m_Token T) (hr.mono (by omega)) pass0 (pa_cons (pe_txt T.n_NUMERAL) (pa_cons (pcall (d_number_of T) (hr.mono (by omega)) pass0 (pa_cons (pv 3) pa_nil)) (pa_cons (pv 1) (pa_cons (pv 2) pa_nil)))))))))), ?_⟩)
  · obtain ⟨p, _, _, rfl, _⟩ := h
    rfl
  · obtain ⟨a, s, p, rfl, ha, hl, hp, q⟩ := h
    walk_at "r0"
    walk_at "sq"
    refine ⟨_, rfl, _, rfl, a, s, p, 48, 57, rfl, ha, hl, hp, ?_⟩
    have er : runLoHi 48 57 = VafmsBase.isDigit := rfl
    rw [er]
    have hrl := runFrom_le (f := VafmsBase.isDigit) hp
    have hcut := run_cut VafmsBase.isDigit s p
    have hrun : runFrom VafmsBase.isDigit s p = p + ((s.drop p).takeWhile VafmsBase.isDigit).length := rfl
    unfold numTok at q
    have hall : ((s.drop p).takeWhile VafmsBase.isDigit).all VafmsBase.isDigit = true := by simp
    generalize runFrom VafmsBase.isDigit s p = b at *
    generalize (s.drop p).takeWhile VafmsBase.isDigit = d at *
    dsimp only at q
    rw [← hrun] at q
    walk_at "sq"
    refine ⟨_, rfl, _, rfl, _, rfl, _, rfl, _, rfl, a, _, rfl, SqL.of ha, fun e he => ?_⟩
    rw [hcut]
    have s1 := Same.add (o := .lst (nvs d)) he
    generalize hH : upd H e (.lst (nvs d)) = H1 at s1 ⊢
    have he1 : H1 e = some (.lst (nvs d)) := by rw [← hH]; exact upd_same
    have raise : GivesTok c H p none Q E → ∀ dd H', H1 dd = none → Same H1 H' → H' dd = some (.xd [("place", .int (Int.ofNat p)), ("kind", .int (Int.ofNat 1))]) → E (.ref c.Fault) (some dd) H' := fun r dd H' h1 h2 h3 => r dd H' (s1.free h1) (Same.trans s1 h2) h3
    walk_at "sq"
    refine ⟨_, rfl, e, _, rfl, .inl (SqL.of he1), _, _, rfl, rfl, _, rfl, ?_⟩
    rw [nvs_length]
    by_cases c1 : 4 < d.length
    · rw [if_pos (decide_eq_true (by omega))]
      rw [if_pos (.inl c1)] at q
      rw [if_pos rfl]
      exact ⟨_, rfl, 1, p, rfl, raise q⟩
    · rw [if_neg (by rw [decide_eq_false (by omega)]; exact Bool.false_ne_true)]
      refine ⟨_, rfl, e, _, rfl, .inl (SqL.of he1), _, _, rfl, rfl, _, rfl, ?_⟩
      rw [nvs_length]
      by_cases c2 : 1 < d.length
      · rw [if_pos (decide_eq_true (by omega))]
        obtain ⟨x, hx⟩ : ∃ x, d[0]? = some x := ⟨_, List.getElem?_eq_getElem (by omega)⟩
        refine ⟨_, rfl, e, _, 0, _, rfl, rfl, SqL.of he1, atI_nat (j := 0) (nvs_at hx), rfl, _, rfl, ?_⟩
        by_cases c3 : x = 48
        · subst c3
          rw [if_pos (by decide)]
          rw [if_pos (.inr ⟨c2, hx⟩)] at q
          exact ⟨_, rfl, 1, p, rfl, raise q⟩
        rw [if_neg (by
          rw [decide_eq_false (fun e => c3 (by injection e with e; have := Int.ofNat.inj (e.trans (show (48 : Int) = Int.ofNat 48 from rfl)); exact this))]
          exact Bool.false_ne_true)]
        rw [if_neg (fun z => by rcases z with z | z; exact c1 z; rw [hx] at z; exact c3 (Option.some.inj z.2))] at q
        refine ⟨_, rfl, e, d, rfl, he1, hall, by omega, _, rfl, _, rfl, fun y d1 hy hd1 hne => ⟨y, d1, _, rfl, rfl, upd_same, rfl, ?_⟩⟩
        have mk := made (C := c.Token) (fs := [("kind", .str "numeral"), ("told", .int (Int.ofNat (VafmsBase.numberOf d))), ("place", .int (Int.ofNat p)), ("behind", .int (Int.ofNat b))]) hy hd1
        exact q _ _ (Same.trans s1 mk.1) ⟨y, d1, _, rfl, mk.2, rfl⟩
      · rw [if_neg (by rw [decide_eq_false (by omega)]; exact Bool.false_ne_true)]
        rw [if_neg Bool.false_ne_true]
        rw [if_neg (fun z => by rcases z with z | z; exact c1 z; exact c2 z.1)] at q
        refine ⟨_, rfl, e, d, rfl, he1, hall, by omega, _, rfl, _, rfl, fun y d1 hy hd1 hne => ⟨y, d1, _, rfl, rfl, upd_same, rfl, ?_⟩⟩
        have mk := made (C := c.Token) (fs := [("kind", .str "numeral"), ("told", .int (Int.ofNat (VafmsBase.numberOf d))), ("place", .int (Int.ofNat p)), ("behind", .int (Int.ofNat b))]) hy hd1
        exact q _ _ (Same.trans s1 mk.1) ⟨y, d1, _, rfl, mk.2, rfl⟩
end
end FX
end
section
set_option Elab.async false
set_option linter.all false
set_option maxRecDepth 100000
set_option maxHeartbeats 4000000
namespace FX
open PySem PySem.Spec PyProof.Rows L2 FT
open VafmsBase (Fmt)
local macro_rules | `(tactic| walk_at "rd") => `(tactic| try dsimp only [tM1, tMethA, ipI, tAug, tOp, tC, tCB, tCons, tNil, gName, tVar, tAsg, tRet, tIfS, tTest, tB, tNext, tDrop, tFld, tCKw, tCall, tMeth, rI0, rI, CMul, rEq, rNe, rEqD, rNeD, tBM, rAppend, rExtend, rCat, rIn, rIxT, rIxL, tSl, rSlL, tPart, tNoPart, tChain, tUn, rU, tIf, tNot, tOr, tAnd, tMake, sFld, tLst, tTup, tFault, pad, List.set, List.getElem?_cons_zero, List.getElem?_cons_succ, cxOf, List.map_cons, List.map_nil, List.append_nil, List.cons_append, List.nil_append])
local macro_rules | `(tactic| walk_at "sq") => `(tactic| (refine seq_go ?_; walk_at "rd"))
local macro_rules | `(tactic| walk_at "r0") => `(tactic| (rw [start_pad (by rfl)]; walk_at "rd"))
section
variable {P : Program} {w : World} {K : PySem.W.Frag} {mg : Str → Option Value} {base : Heap} {c : Cs}
theorem raises_later {H H1 : Hp} {k p : Nat} {E : XK} (s1 : Same H H1) (r : Raises c H k p E) : ∀ dd H', H1 dd = none → Same H1 H' → H' dd = some (.xd [("place", .int (Int.ofNat p)), ("kind", .int (Int.ofNat k))]) → E (.ref c.Fault) (some dd) H' := fun dd H' h1 h2 h3 => r dd H' (s1.free h1) (Same.trans s1 h2) h3
theorem letter_at {b : Nat} (h : VafmsBase.isLetter b = true) : atI ("abcdefghijklmnopqrstuvwxyz" : Str).cps.toList (Int.ofNat b - 97) = some b := by
  have h2 := isLetter_iff.mp h
  obtain ⟨k, rfl⟩ : ∃ k, b = 97 + k := ⟨b - 97, by omega⟩
  have e : (Int.ofNat (97 + k) - 97 : Int) = (k : Nat) := by
    show ((97 + k : Nat) : Int) - 97 = (k : Int)
    omega
  rw [e]
  refine atI_nat ?_
  have hk : k < 26 := by omega
  have el : ("abcdefghijklmnopqrstuvwxyz" : Str).cps.toList = (List.range 26).map (fun k => 97 + k) := by decide +kernel
  rw [el, List.getElem?_map, List.getElem?_range hk]
  rfl
theorem glue_fold : ∀ (l : List Nat) (acc : Array Nat), (l.map fun b => (⟨#[b]⟩ : Str)).foldl (fun acc p => acc ++ (⟨#[]⟩ : Str).cps ++ p.cps) acc = acc ++ l.toArray
  | [], acc => by simp
  | b :: l, acc => by
    rw [List.map_cons, List.foldl_cons, glue_fold l]
    apply Array.toList_inj.mp
    simp
theorem glue_all (d : List Nat) : Txt.join ("" : Str) (d.map fun b => (⟨#[b]⟩ : Str)) = ⟨d.toArray⟩ := by
  show (⟨List.foldl (fun acc p => acc ++ (⟨#[]⟩ : Str).cps ++ p.cps) ((d.map fun b => (⟨#[b]⟩ : Str)).headD Str.empty).cps (List.drop 1 (d.map fun b => (⟨#[b]⟩ : Str)))⟩ : Str) = _
  cases d with
  | nil => rfl
  | cons b d =>
    show (⟨List.foldl (fun acc p => acc ++ (⟨#[]⟩ : Str).cps ++ p.cps) #[b] (d.map fun b => (⟨#[b]⟩ : Str))⟩ : Str) = _
    rw [glue_fold]
    congr 1
    apply Array.toList_inj.mp
    simp
theorem one_sum (d : List Nat) : ((d.map fun b => (⟨#[b]⟩ : Str)).map (fun x => x.length)).sum = d.length := by
  induction d with
  | nil => rfl
  | cons b d ih =>
    rw [List.map_cons, List.map_cons, List.sum_cons, ih]
    show 1 + d.length = _
    rw [List.length_cons]
    omega
def wordTok (s : List Nat) (p : Nat) : Option (Tk × Nat) :=
  let w := (s.drop p).takeWhile VafmsBase.isLetter
  if 6 < w.length then none else some (.mark w, p + w.length)
theorem sc_sign_word_at : FnScope ["source", "place", "behind", "told", "byte"] ["source", "place"] (defScope (topS 99)) := ⟨rfl, rfl, rfl, by decide +kernel, rfl, by decide +kernel, by decide +kernel⟩
theorem d_sign_word_at (T : Top K mg c) : DefOk P w K mg base (L2.CX P w) 3 "sign_word_at" (spTokOf c wordTok) := T.a_sign_word_at.ok fun f fd F => by
  refine F.okX sc_sign_word_at (fun vs H Q E h => ?_) (fun cdv A outer s H vs Q E hr h => ⟨_, (pss_cons (ps_set (i := 2) sc_sign_word_at.nd rfl (.inl rfl) (pcall (d_run_end T) (hr.mono (by omega)) pass0 (pa_cons (pv 0) (pa_cons (pv 1) (pa_cons (pe_num T.n_SMALL_A) (pa_cons (pe_num T.n_SMALL_Z) pa_nil))))))
 (pss_cons (ps_if (pt_cmpR op_gt (pe_op op_sub (pv 2) (pv 1)) (pe_num T.n_MOST_LETTERS) (nomark _))
 (pss_one (ps_raise rfl (takes_of rfl rfl rfl rfl) (by exact pmk_fault T (hr.mono (by omega)) (pa_cons (pe_num T.n_NO_TOKEN) (pa_cons (pv 1) pa_nil)) (mono_two fun _ _ _ _ m h => mono_var m h))))
 pss_nil)
 (pss_cons (ps_set (i := 3) sc_sign_word_at.nd rfl (.inl rfl) (pe_join pe_str (pe_lc (own := [("byte", 4)]) (g := gName 4) (tt := tYes) (by rfl) sc_sign_word_at.nd (pi_list (pe_slice sl_list (pv 0) (po_some (pv 1)) (po_some (pv 2)))) (blkOk_by (own := [("byte", 4)]) (N := ["source", "place", "behind", "told", "byte"]) (sc := defScope (topS 99)) (by decide +kernel)) (fun _ _ _ _ _ => pg_name (i := 4) sc_sign_word_at.nd rfl (Or.inl rfl)) (fun _ _ _ _ _ => pts_nil) (fun _ _ _ _ _ => (pe_ix ix_str (pe_txt T.n_LETTERS) (pe_op op_sub (pv 4) (pe_num T.n_SMALL_A)) (fun _ _ => rfl))))))
 (pss_one (ps_ret (pmake (m_Token T) (hr.mono (by omega)) pass0 (pa_cons (pe_txt T.n_MARK) (pa_cons (pv 3) (pa_cons (pv 1) (pa_cons (pv 2) pa_nil)))))))))), ?_⟩)
  · obtain ⟨p, _, _, rfl, _⟩ := h
    rfl
  · obtain ⟨a, s, p, rfl, ha, hl, hp, q⟩ := h
    walk_at "r0"
    walk_at "sq"
    refine ⟨_, rfl, _, rfl, a, s, p, 97, 122, rfl, ha, hl, hp, ?_⟩
    have er : runLoHi 97 122 = VafmsBase.isLetter := rfl
    rw [er]
    have hrl := runFrom_le (f := VafmsBase.isLetter) hp
    have hcut := run_cut VafmsBase.isLetter s p
    have hrun : runFrom VafmsBase.isLetter s p = p + ((s.drop p).takeWhile VafmsBase.isLetter).length := rfl
    unfold wordTok at q
    have hall : ((s.drop p).takeWhile VafmsBase.isLetter).all VafmsBase.isLetter = true := by simp
    generalize runFrom VafmsBase.isLetter s p = b at *
    generalize (s.drop p).takeWhile VafmsBase.isLetter = d at *
    dsimp only at q
    rw [← hrun] at q
    walk_at "sq"
    refine ⟨_, rfl, _, rfl, _, _, rfl, rfl, _, _, rfl, rfl, _, rfl, ?_⟩
    have eb : (Int.ofNat b - Int.ofNat p : Int) = (d.length : Int) := by
      show (b : Int) - (p : Int) = _
      omega
    rw [eb]
    by_cases c1 : 6 < d.length
    · rw [if_pos (decide_eq_true (by omega))]
      rw [if_pos c1] at q
      exact ⟨_, rfl, 1, p, rfl, q⟩
    rw [if_neg (by rw [decide_eq_false (by omega)]; exact Bool.false_ne_true)]
    rw [if_neg c1] at q
    walk_at "sq"
    refine ⟨⟨_, rfl⟩, ?_⟩
    refine t_lcE (fun e xs H1 => Same H H1 ∧ H1 e = some (.lst xs) ∧ xs = nvs d) (fun R hR => ?_) fun e xs H1 ⟨s1, he1, exs⟩ => ?_
    · walk_at "rd"
      refine ⟨_, rfl, _, rfl, _, rfl, _, rfl, _, rfl, a, _, rfl, SqL.of ha, fun e he => ?_⟩
      rw [hcut]
      exact hR e _ _ ⟨Same.add he, upd_same, rfl⟩
    · subst exs
      refine t_lc_vals (d.map fun b => V.str ⟨#[b]⟩) gv_c (SqL.of he1) (by simp [nvs]) (by rw [nvs_length]; omega) (fun x => rfl) (fun m y z H2 hm hz s2 Q' q' => ?_) fun D H2 hD s2 hDl => ?_
      · unfold nvs at hm
        rw [List.getElem?_map] at hm hz
        cases hdm : d[m]? with
        | none => rw [hdm] at hm; cases hm
        | some x =>
          rw [hdm] at hm hz
          obtain rfl : V.int (Int.ofNat x) = y := Option.some.inj hm
          obtain rfl : V.str ⟨#[x]⟩ = z := Option.some.inj hz
          have hx := List.all_eq_true.mp hall x (List.mem_of_getElem? hdm)
          exact ⟨_, rfl, _, _, rfl, rfl, _, _, _, rfl, rfl, by decide +kernel, letter_at hx, q' _ (Same.refl _)⟩
      · refine ⟨_, D, d.map fun b => ⟨#[b]⟩, rfl, rfl, .inl (SqL.of (by rw [hDl, List.map_map]; rfl)), by rw [one_sum, List.length_map]; show d.length + d.length * 0 ≤ _; omega, ?_⟩
        have ej : Txt.join ("" : Str) (d.map fun b => (⟨#[b]⟩ : Str)) = ⟨d.toArray⟩ := glue_all d
        rw [ej]
        walk_at "rd"
        refine ⟨_, rfl, _, rfl, _, rfl, fun y d1 hy hd1 hne => ⟨y, d1, _, rfl, rfl, upd_same, rfl, ?_⟩⟩
        have mk := made (C := c.Token) (fs := [("kind", .str "mark"), ("told", .str ⟨d.toArray⟩), ("place", .int (Int.ofNat p)), ("behind", .int (Int.ofNat b))]) hy hd1
        exact q _ _ (Same.trans (Same.trans s1 s2) mk.1) ⟨y, d1, _, rfl, mk.2, rfl⟩
end
end FX
end
section
set_option Elab.async false
set_option linter.all false
set_option maxRecDepth 100000
set_option maxHeartbeats 4000000
namespace FX
open PySem PySem.Spec PyProof.Rows L2 FT
open VafmsBase (Fmt)
local macro_rules | `(tactic| walk_at "rd") => `(tactic| try dsimp only [tM1, tMethA, ipI, tAug, tOp, tC, tCB, tCons, tNil, gName, tVar, tAsg, tRet, tIfS, tTest, tB, tNext, tDrop, tFld, tCKw, tCall, tMeth, rI0, rI, CMul, rEq, rNe, rEqD, rNeD, tBM, rAppend, rExtend, rCat, rIn, rIxT, rIxL, tSl, rSlL, tPart, tNoPart, tChain, tUn, rU, tIf, tNot, tOr, tAnd, tMake, sFld, tLst, tTup, tFault, pad, List.set, List.getElem?_cons_zero, List.getElem?_cons_succ, cxOf, List.map_cons, List.map_nil, List.append_nil, List.cons_append, List.nil_append])
local macro_rules | `(tactic| walk_at "sq") => `(tactic| (refine seq_go ?_; walk_at "rd"))
local macro_rules | `(tactic| walk_at "r0") => `(tactic| (rw [start_pad (by rfl)]; walk_at "rd"))
section
variable {P : Program} {w : World} {K : PySem.W.Frag} {mg : Str → Option Value} {base : Heap} {c : Cs}
def strTok (s : List Nat) (p : Nat) : Option (Tk × Nat) := match Vafmsa.stringFrom (s.drop (p + 1)) with
  | none => none
  | some (t, n) => some (.str t, p + 1 + n)
theorem str_at {s : List Nat} {i b : Nat} (h : s[i]? = some b) : s.drop i = b :: s.drop (i + 1) := by
  obtain ⟨h1, h2⟩ := List.getElem?_eq_some_iff.mp h
  rw [List.drop_eq_getElem_cons h1, h2]
/-- where the sign stands, and how many bytes on -/
def strNext (s : List Nat) (i : Nat) : Option (Nat × Nat) := match s[i]? with
  | none => none
  | some b => if b = 92 then (if canStand s (i + 1) true = true then some ((s[i + 1]?).getD 0, i + 1) else none) else if canStand s i false = true then some (b, i) else none
theorem str_step {s : List Nat} {i b : Nat} (h : s[i]? = some b) (hq : b ≠ 34) : Vafmsa.stringFrom (s.drop i) = match strNext s i with
    | none => none
    | some (x, j) => (Vafmsa.stringFrom (s.drop (j + 1))).map fun y => (x :: y.1, y.2 + (j + 1 - i)) := by
  rw [str_at h]
  unfold strNext
  rw [h]
  dsimp only
  by_cases hb : b = 92
  · subst hb
    rw [if_pos rfl]
    unfold canStand
    cases h1 : s[i + 1]? with
    | none =>
      have e : s.drop (i + 1) = [] := List.drop_eq_nil_of_le (List.getElem?_eq_none_iff.mp h1)
      rw [e]
      rfl
    | some x =>
      rw [str_at h1]
      show (if x = 34 ∨ x = 92 then (Vafmsa.stringFrom (s.drop (i + 1 + 1))).map (fun y => (x :: y.1, y.2 + 2)) else none) = _
      by_cases hx : x = 34 ∨ x = 92
      · rw [if_pos hx]
        have e : (if (if true = true then x == 34 || x == 92 else VafmsBase.okByte x) = true then some ((some x).getD 0, i + 1) else none) = some (x, i + 1) := by
          rw [if_pos rfl, if_pos (by simpa using hx)]
          rfl
        show _ = match (if (if true = true then x == 34 || x == 92 else VafmsBase.okByte x) = true then some ((some x).getD 0, i + 1) else none) with | none => none | some (x, j) => (Vafmsa.stringFrom (s.drop (j + 1))).map fun (y : List Nat × Nat) => (x :: y.1, y.2 + (j + 1 - i))
        rw [e]
        dsimp only
        congr 1
        funext y
        congr 1
        omega
      · rw [if_neg hx]
        have e : (if (if true = true then x == 34 || x == 92 else VafmsBase.okByte x) = true then some ((some x).getD 0, i + 1) else none) = none := by
          rw [if_pos rfl, if_neg (by simpa using hx)]
        show _ = match (if (if true = true then x == 34 || x == 92 else VafmsBase.okByte x) = true then some ((some x).getD 0, i + 1) else none) with | none => none | some (x, j) => (Vafmsa.stringFrom (s.drop (j + 1))).map fun (y : List Nat × Nat) => (x :: y.1, y.2 + (j + 1 - i))
        rw [e]
  · rw [if_neg hb]
    have e0 : Vafmsa.stringFrom (b :: s.drop (i + 1)) = if VafmsBase.okByte b = true then (Vafmsa.stringFrom (s.drop (i + 1))).map (fun x => (b :: x.1, x.2 + 1)) else none := by
      rw [Vafmsa.stringFrom.eq_def]
      dsimp only
      rw [if_neg (show ¬ b = Vafmsa.QUOTE from hq), if_neg (show ¬ b = Vafmsa.SLASH from hb)]
    rw [e0]
    have ec : canStand s i false = VafmsBase.okByte b := by
      unfold canStand
      rw [h]
      rfl
    rw [ec]
    cases VafmsBase.okByte b with
    | true =>
      rw [if_pos rfl, if_pos rfl]
      dsimp only
      congr 1
      funext y
      congr 1
      omega
    | false => rw [if_neg Bool.false_ne_true, if_neg Bool.false_ne_true]
theorem sc_string_at : FnScope ["source", "place", "text", "at", "behind_backslash"] ["source", "place"] (defScope (topS 101)) := ⟨rfl, rfl, rfl, by decide +kernel, rfl, by decide +kernel, by decide +kernel⟩
theorem d_string_at (T : Top K mg c) : DefOk P w K mg base (L2.CX P w) 3 "string_at" fun vs H Q E => spTokOf c strTok vs H Q E ∧ ∃ (s : List Nat) (p : Nat) (a : Addr), vs = [.ref a, .int (Int.ofNat p)] ∧ H a = some (.lst (nvs s)) ∧ p < s.length := T.a_string_at.ok fun f fd F => by
  refine F.okX sc_string_at (fun vs H Q E h => ?_) (fun cdv A outer s H vs Q E hr h => ⟨_, (pss_cons (ps_set (i := 2) sc_string_at.nd rfl (.inl rfl) (pe_lst pa_nil))
 (pss_cons (ps_set (i := 3) sc_string_at.nd rfl (.inl rfl) (pe_op op_add (pv 1) pe_int))
 (pss_cons (ps_while (by first | exact PassesOwn.leaving | exact PassesOwn.never) (PW.pt (pw_and (pt_cmpR op_lt (pv 3) (pe_callB call_len_seq (by rfl) T.b_len (by decide +kernel) (pa_cons (pv 0) pa_nil)) (nomark _)) (pw_and1 (pt_cmpR op_ne (pe_ix ix_list (pv 0) (pv 3) (fun _ _ => rfl)) (pe_num T.n_QUOTE) (nomark _)))))
 (pss_cons (ps_set (i := 4) sc_string_at.nd rfl (.inl rfl) (pe_cmpR op_eq (pe_ix ix_list (pv 0) (pv 3) (fun _ _ => rfl)) (pe_num T.n_BACKSLASH) (nomark _)))
 (pss_cons (ps_if (pt_val (pv 4))
 (pss_one (ps_aug (i := 3) sc_string_at.nd rfl (.inl rfl) pe_int ip_add))
 pss_nil)
 (pss_cons (ps_if (pt_not (pt_val (pcall (d_can_stand_in_string T) (hr.mono (by omega)) pass0 (pa_cons (pv 0) (pa_cons (pv 3) (pa_cons (pv 4) pa_nil))))))
 (pss_one (ps_raise rfl (takes_of rfl rfl rfl rfl) (by exact pmk_fault T (hr.mono (by omega)) (pa_cons (pe_num T.n_NO_TOKEN) (pa_cons (pv 1) pa_nil)) (mono_two fun _ _ _ _ m h => mono_var m h))))
 pss_nil)
 (pss_cons (ps_expr (pe_bm PySem.F.plainAttrs_list PySem.F.slot_list_append PySem.F.type_list_append mt_append (pv 2) (pa_cons (pe_ix ix_list (pv 0) (pv 3) (fun _ _ => rfl)) pa_nil)))
 (pss_one (ps_aug (i := 3) sc_string_at.nd rfl (.inl rfl) pe_int ip_add)))))))
 (pss_cons (ps_if (pt_cmpR op_eq (pv 3) (pe_callB call_len_seq (by rfl) T.b_len (by decide +kernel) (pa_cons (pv 0) pa_nil)) (nomark _))
 (pss_one (ps_raise rfl (takes_of rfl rfl rfl rfl) (by exact pmk_fault T (hr.mono (by omega)) (pa_cons (pe_num T.n_NO_TOKEN) (pa_cons (pv 1) pa_nil)) (mono_two fun _ _ _ _ m h => mono_var m h))))
 pss_nil)
 (pss_one (ps_ret (pmake (m_Token T) (hr.mono (by omega)) pass0 (pa_cons (pe_txt T.n_STRING) (pa_cons (pv 2) (pa_cons (pv 1) (pa_cons (pe_op op_add (pv 3) pe_int) pa_nil))))))))))), ?_⟩)
  · obtain ⟨⟨p, _, _, rfl, _⟩, _⟩ := h
    rfl
  · obtain ⟨⟨a, s, p, rfl, ha, hl, hp, q⟩, s', p', a', e1, e2, hp2⟩ := h
    obtain ⟨rfl, rfl⟩ : a' = a ∧ p' = p := by
      injection e1 with e1 e3
      injection e3 with e3
      injection e1 with e1
      injection e3 with e3
      exact ⟨e1.symm, (Int.ofNat.inj e3).symm⟩
    obtain rfl : s = s' := by
      have := HO.lst.inj (Option.some.inj (ha.symm.trans e2))
      have h2 := congrArg (List.map fun v => match v with | V.int i => i.toNat | _ => 0) this
      unfold nvs at h2
      rw [List.map_map, List.map_map] at h2
      have ef : ((fun v => match v with | V.int i => i.toNat | _ => 0) ∘ fun n : Nat => V.int (Int.ofNat n)) = id := rfl
      rw [ef, List.map_id, List.map_id] at h2
      exact h2
    clear e1 e2
    unfold strTok at q
    walk_at "r0"
    walk_at "sq"
    refine ⟨Nat.zero_le _, fun D hD => ?_⟩
    have s0 := Same.add (o := .lst []) hD
    walk_at "sq"
    refine ⟨_, rfl, _, _, rfl, rfl, ?_⟩
    refine seq_go ?_
    refine ⟨fun m σ H' => ∃ (i : Nat) (t : List Nat) (v4 : Option V), m = s.length - i ∧ p' + 1 ≤ i ∧ i ≤ s.length ∧ t.length ≤ i ∧ σ = [some (.ref a'), some (.int (Int.ofNat p')), some (.ref D), some (.int (Int.ofNat i)), v4] ∧ Same H H' ∧ H' D = some (.lst (nvs t)) ∧ Vafmsa.stringFrom (s.drop (p' + 1)) = (Vafmsa.stringFrom (s.drop i)).map fun x => (t ++ x.1, x.2 + (i - (p' + 1))), ⟨_, p' + 1, [], none, rfl, Nat.le_refl _, hp2, Nat.zero_le _, rfl, s0, upd_same, ?_⟩, ?_⟩
    · simp
    rintro m σ H1 ⟨i, t, v4, rfl, hi0, hi, htl, rfl, s1, hD1, heq⟩
    have ha1 := s1 _ _ ha
    walk_at "rd"
    refine ⟨_, rfl, _, rfl, a', _, rfl, .inl (SqL.of ha1), _, _, rfl, rfl, _, rfl, ?_⟩
    rw [nvs_length]
    by_cases hlt : i < s.length
    · rw [if_pos (decide_eq_true (by show (i : Int) < _; omega))]
      obtain ⟨b, hb⟩ : ∃ b, s[i]? = some b := ⟨_, List.getElem?_eq_getElem hlt⟩
      refine ⟨_, rfl, _, rfl, a', _, _, _, rfl, rfl, SqL.of ha1, atI_nat (j := i) (nvs_at hb), rfl, _, rfl, ?_⟩
      by_cases hq : b = 34
      · rw [if_neg (by
          rw [decide_eq_true (show V.int (Int.ofNat b) = V.int 34 by rw [hq]; rfl)]
          decide)]
        have es : Vafmsa.stringFrom (s.drop i) = some ([], 1) := by
          rw [str_at hb, hq, Vafmsa.stringFrom.eq_def]
          rfl
        rw [es] at heq
        rw [heq] at q
        have q2 : GivesTok c H p' (some (.str (t ++ []), p' + 1 + (1 + (i - (p' + 1))))) Q E := q
        rw [List.append_nil, show p' + 1 + (1 + (i - (p' + 1))) = i + 1 by omega] at q2
        walk_at "sq"
        refine ⟨_, rfl, _, rfl, a', _, rfl, .inl (SqL.of ha1), rfl, _, rfl, ?_⟩
        rw [nvs_length]
        rw [if_neg (by
          rw [decide_eq_false (fun e => by injection e with e; have := Int.ofNat.inj e; omega)]
          exact Bool.false_ne_true)]
        walk_at "rd"
        refine ⟨_, rfl, _, rfl, _, rfl, _, _, rfl, rfl, fun y d1 hy hd1 hne => ⟨y, d1, _, rfl, rfl, upd_same, rfl, ?_⟩⟩
        have mk := made (C := c.Token) (fs := [("kind", .str "string"), ("told", .ref D), ("place", .int (Int.ofNat p')), ("behind", .int (Int.ofNat i + 1))]) hy hd1
        exact q2 _ _ (Same.trans s1 mk.1) ⟨y, d1, _, rfl, mk.2, D, rfl, hD, mk.1 _ _ hD1⟩
      rw [if_pos (by
        rw [decide_eq_false (fun e => hq (by injection e with e; exact Int.ofNat.inj e))]
        rfl)]
      have hstep := str_step hb hq
      refine ⟨fun σ' H' => ∃ m', m' < s.length - i ∧ ∃ (i : Nat) (t : List Nat) (v4 : Option V), m' = s.length - i ∧ p' + 1 ≤ i ∧ i ≤ s.length ∧ t.length ≤ i ∧ σ' = [some (.ref a'), some (.int (Int.ofNat p')), some (.ref D), some (.int (Int.ofNat i)), v4] ∧ Same H H' ∧ H' D = some (.lst (nvs t)) ∧ Vafmsa.stringFrom (s.drop (p' + 1)) = (Vafmsa.stringFrom (s.drop i)).map fun x => (t ++ x.1, x.2 + (i - (p' + 1))), fun _ _ z => z, ?_⟩
      walk_at "sq"
      refine ⟨_, rfl, _, rfl, a', _, _, _, rfl, rfl, SqL.of ha1, atI_nat (j := i) (nvs_at hb), rfl, ?_⟩
      obtain ⟨bb, hbb⟩ : ∃ bb, bb = decide (b = 92) := ⟨_, rfl⟩
      have ebb : decide (V.int (Int.ofNat b) = V.int 92) = bb := by
        rw [hbb, Bool.eq_iff_iff, decide_eq_true_iff, decide_eq_true_iff]
        constructor
        · intro e
          injection e with e
          exact Int.ofNat.inj e
        · intro e
          rw [e]
          rfl
      rw [ebb]
      refine seq_by (fun σ' H' => σ' = [some (.ref a'), some (.int (Int.ofNat p')), some (.ref D), some (.int (Int.ofNat (if bb = true then i + 1 else i))), some (.bl bb)] ∧ H' = H1) ?_ ?_
      rotate_left
      · intro N hN
        walk_at "rd"
        refine ⟨_, rfl, _, rfl, ?_⟩
        cases bb with
        | true =>
          rw [if_pos rfl]
          exact ⟨_, rfl, _, _, rfl, rfl, hN _ _ ⟨rfl, rfl⟩⟩
        | false =>
          rw [if_neg Bool.false_ne_true]
          exact hN _ _ ⟨rfl, rfl⟩
      rintro _ _ ⟨rfl, rfl⟩
      have hjl : (if bb = true then i + 1 else i) ≤ s.length := by split <;> omega
      have hnx : strNext s i = if canStand s (if bb = true then i + 1 else i) bb = true then some ((s[if bb = true then i + 1 else i]?).getD 0, if bb = true then i + 1 else i) else none := by
        unfold strNext
        rw [hb]
        dsimp only
        rw [hbb]
        by_cases h92 : b = 92
        · rw [if_pos h92, decide_eq_true h92, if_pos rfl]
        · rw [if_neg h92, decide_eq_false h92, if_neg Bool.false_ne_true, hb]
          rfl
      have hji : i ≤ (if bb = true then i + 1 else i) ∧ (if bb = true then i + 1 else i) ≤ i + 1 := by split <;> omega
      generalize (if bb = true then i + 1 else i) = j at *
      walk_at "sq"
      refine ⟨_, rfl, _, rfl, _, rfl, a', s, j, bb, rfl, ha1, hl, hjl, fun H2 s2 => ?_⟩
      have s12 := Same.trans s1 s2
      refine ⟨_, rfl, ?_⟩
      cases hcs : canStand s j bb with
      | false =>
        rw [hcs, if_neg Bool.false_ne_true] at hnx
        rw [hnx] at hstep
        rw [hstep] at heq
        rw [heq] at q
        rw [if_pos (by decide)]
        exact ⟨_, rfl, 1, p', rfl, raises_later s12 q⟩
      | true =>
        rw [hcs, if_pos rfl] at hnx
        rw [hnx] at hstep
        rw [if_neg (by decide)]
        obtain ⟨x, hx⟩ : ∃ x, s[j]? = some x := by
          unfold canStand at hcs
          cases h : s[j]? with
          | none => rw [h] at hcs; cases hcs
          | some x => exact ⟨x, rfl⟩
        have hjlt := (List.getElem?_eq_some_iff.mp hx).1
        rw [hx] at hstep
        have hD2 := s2 _ _ hD1
        have ha2 := s2 _ _ ha1
        walk_at "sq"
        refine ⟨_, rfl, .inl ⟨rfl, _, SqL.of hD2⟩, _, rfl, _, rfl, a', _, _, _, rfl, rfl, SqL.of ha2, atI_nat (j := j) (nvs_at hx), D, _, _, rfl, rfl, hD2, szl (by rw [nvs_length]; omega), ?_⟩
        refine ⟨_, rfl, _, _, rfl, rfl, s.length - (j + 1), by omega, j + 1, t ++ [x], some (.bl bb), rfl, by omega, hjlt, by rw [List.length_append]; show t.length + 1 ≤ _; omega, rfl, Same.chg s12 hD, ?_, ?_⟩
        · rw [upd_same, nvs_append]
          rfl
        · rw [heq, hstep]
          show Option.map _ (Option.map _ _) = _
          rw [Option.map_map]
          congr 1
          funext y
          show (t ++ (x :: y.1), y.2 + (j + 1 - i) + (i - (p' + 1))) = (t ++ [x] ++ y.1, y.2 + (j + 1 - (p' + 1)))
          rw [List.append_assoc]
          congr 1
          omega
    · obtain rfl : i = s.length := by omega
      rw [if_neg (by rw [decide_eq_false (by show ¬ (s.length : Int) < _; omega)]; exact Bool.false_ne_true)]
      have es : Vafmsa.stringFrom (s.drop s.length) = none := by
        rw [List.drop_length]
        rfl
      rw [es] at heq
      rw [heq] at q
      rw [if_neg Bool.false_ne_true]
      walk_at "sq"
      refine ⟨_, rfl, _, rfl, a', _, rfl, .inl (SqL.of ha1), rfl, _, rfl, ?_⟩
      rw [nvs_length]
      rw [if_pos (decide_eq_true (show V.int (Int.ofNat s.length) = V.int (s.length : Int) from rfl))]
      exact ⟨_, rfl, 1, p', rfl, raises_later s1 q⟩
end
end FX
end
section
set_option Elab.async false
set_option linter.all false
set_option maxRecDepth 100000
set_option maxHeartbeats 4000000
namespace FX
open PySem PySem.Spec PyProof.Rows L2 FT
open VafmsBase (Fmt)
local macro_rules | `(tactic| walk_at "rd") => `(tactic| try dsimp only [tM1, tMethA, ipI, tAug, tOp, tC, tCB, tCons, tNil, gName, tVar, tAsg, tRet, tIfS, tTest, tB, tNext, tDrop, tFld, tCKw, tCall, tMeth, rI0, rI, CMul, rEq, rNe, rEqD, rNeD, tBM, rAppend, rExtend, rCat, rIn, rIxT, rIxL, tSl, rSlL, tPart, tNoPart, tChain, tUn, rU, tIf, tNot, tOr, tAnd, tMake, sFld, tLst, tTup, tFault, pad, List.set, List.getElem?_cons_zero, List.getElem?_cons_succ, cxOf, List.map_cons, List.map_nil, List.append_nil, List.cons_append, List.nil_append])
local macro_rules | `(tactic| walk_at "sq") => `(tactic| (refine seq_go ?_; walk_at "rd"))
local macro_rules | `(tactic| walk_at "r0") => `(tactic| (rw [start_pad (by rfl)]; walk_at "rd"))
section
variable {P : Program} {w : World} {K : PySem.W.Frag} {mg : Str → Option Value} {base : Heap} {c : Cs}
/-- x in d, d a written dict -/
theorem op_in_dic {X : Cx} {n : Str} {a : Addr} {kvs : List (Key × V)} (D : DicIs X.K X.mg n a kvs) : OpR X (compareOp .In) (fun x y H Q => ∃ k : Key, x = kV k ∧ y = .ref a ∧ Q (.bl (valV kvs k).isSome) H) := by
  intro pins s σ H x y v u Q I rx ry h
  obtain ⟨k, rfl, rfl, q⟩ := h
  obtain ⟨vs, rel, dd⟩ := D.at_
  cases ry
  refine wpAny_in_of (kV_is rx) D.nd (dd X.prog X.w s.heap I.kIn).mapOf ?_
  rw [← (rel.val k).isSome_eq]
  exact ⟨.bl (valV kvs k).isSome, H, I.tok _, rfl, q⟩
def tDicGet (a : Addr) (kvs : List (Key × V)) (td ty : TE) : TE := fun σ H Q => td σ H fun x H1 => ty σ H1 fun y H2 => ∃ (k : Key) (v : V), x = .ref a ∧ y = kV k ∧ valV kvs k = some v ∧ Q v H2
theorem pe_dic_item {X : Cx} {n : Str} {a : Addr} {kvs : List (Key × V)} {o i : Expr} {td ty : TE} {pos : Pos} (D : DicIs X.K X.mg n a kvs) (ho : PE X o td) (hi : PE X i ty) (hs : NoSl i) : PE X (.Subscript o i pos) (tDicGet a kvs td ty) := by
  refine ⟨fun pins s σ H Q I h => ?_⟩
  refine subD_of PySem.F.slot_dict_getitem.lookup hs (thn (ho.run pins s σ H _ I h) fun u s1 ⟨x, H1, I1, rx, q1⟩ => thn (hi.run pins s1 σ H1 _ I1 q1) fun iv s2 ⟨y, H2, I2, ry, k, v, ex, ey, hv, q2⟩ => ?_)
  subst ex
  subst ey
  obtain rfl : u = Value.ref a := rx
  obtain ⟨vs, rel, dd⟩ := D.at_
  have d := dd X.prog X.w s2.heap I2.kIn
  obtain ⟨w', hw, rw'⟩ := RelO.some_of (v := v) (o := PySem.valueAt vs k) (by rw [← hv]; exact rel.val k)
  exact ⟨d.typeIs, wpAny_getItem_of (kV_is ry) d.mapOf hw ⟨v, H2, I2.tok _, rw', q2⟩⟩

/-! ### a token at a place -/
def isSign (b : Nat) : Bool := Vafmsa.SIGNS.contains b
def tokOf (s : List Nat) (p : Nat) : Option (Tk × Nat) := match s[p]? with
  | none => none
  | some b => if VafmsBase.isLetter b = true then wordTok s p else if VafmsBase.isDigit b = true then numTok s p else if b = 34 then strTok s p else if isSign b = true then some (.mark [b], p + 1) else none
abbrev signKV : List (Key × V) := [(.inl 40, .str "("), (.inl 41, .str ")"), (.inl 59, .str ";"), (.inl 123, .str "{"), (.inl 125, .str "}")]
theorem valV_past {k g : Key} {v : V} {r : List (Key × V)} (h : ¬ g = k) : valV ((g, v) :: r) k = valV r k := by
  unfold valV
  rw [List.find?_cons_of_neg (by simpa using h)]
theorem sign_val (b : Nat) : valV signKV (.inl (b : Int)) = if isSign b = true then some (.str ⟨#[b]⟩) else none := by
  by_cases h1 : b = 40
  · subst h1; decide +kernel
  by_cases h2 : b = 41
  · subst h2; decide +kernel
  by_cases h3 : b = 59
  · subst h3; decide +kernel
  by_cases h4 : b = 123
  · subst h4; decide +kernel
  by_cases h5 : b = 125
  · subst h5; decide +kernel
  have e2 : isSign b = false := by
    show List.contains [123, 125, 40, 41, 59] b = false
    simp [h1, h2, h3, h4, h5]
  rw [e2, if_neg Bool.false_ne_true]
  have ne : ∀ n : Nat, b ≠ n → ¬ ((Sum.inl (n : Int) : Key) = Sum.inl (b : Int)) := fun n hn e => hn (by injection e with e; omega)
  exact (valV_past (ne 40 h1)).trans ((valV_past (ne 41 h2)).trans ((valV_past (ne 59 h3)).trans ((valV_past (ne 123 h4)).trans ((valV_past (ne 125 h5)).trans rfl))))
def spTokAt (c : Cs) : Sp := fun vs H Q E => ∃ (a : Addr) (s : List Nat) (p : Nat), vs = [.ref a, .int (Int.ofNat p)] ∧ H a = some (.lst (nvs s)) ∧ s.length ≤ 10000 ∧ p < s.length ∧ GivesTok c H p (tokOf s p) Q E
theorem sc_token_at : FnScope ["source", "place", "byte"] ["source", "place"] (defScope (topS 97)) := ⟨rfl, rfl, rfl, by decide +kernel, rfl, by decide +kernel, by decide +kernel⟩
theorem d_token_at (T : Top K mg c) : DefOk P w K mg base (L2.CX P w) 4 "token_at" (spTokAt c) := T.a_token_at.ok fun f fd F => by
  refine F.okX sc_token_at (fun vs H Q E h => ?_) (fun cdv A outer s H vs Q E hr h => ⟨_, (pss_cons (ps_set (i := 2) sc_token_at.nd rfl (.inl rfl) (pe_ix ix_list (pv 0) (pv 1) (fun _ _ => rfl)))
 (pss_cons (ps_if (pt_val (pcall (d_is_letter T) (hr.mono (by omega)) pass0 (pa_cons (pv 2) pa_nil)))
 (pss_one (ps_ret (pcall (E := E) (d_sign_word_at T) (hr.mono (by omega)) (passes_call (takes_of rfl rfl rfl rfl) fun _ _ _ _ h => h) (pa_cons (pv 0) (pa_cons (pv 1) pa_nil)))))
 pss_nil)
 (pss_cons (ps_if (pt_val (pcall (d_is_digit T) (hr.mono (by omega)) pass0 (pa_cons (pv 2) pa_nil)))
 (pss_one (ps_ret (pcall (E := E) (d_numeral_at T) (hr.mono (by omega)) (passes_call (takes_of rfl rfl rfl rfl) fun _ _ _ _ h => h) (pa_cons (pv 0) (pa_cons (pv 1) pa_nil)))))
 pss_nil)
 (pss_cons (ps_if (pt_cmpR op_eq (pv 2) (pe_num T.n_QUOTE) (nomark _))
 (pss_one (ps_ret (pcall (E := E) (d_string_at T) (hr.mono (by omega)) (passes_call (takes_of rfl rfl rfl rfl) fun _ _ _ _ h => h) (pa_cons (pv 0) (pa_cons (pv 1) pa_nil)))))
 pss_nil)
 (pss_cons (ps_if (pt_cmpR (op_in_dic T.n_SIGNS) (pv 2) (pe_dic T.n_SIGNS) (by rfl))
 (pss_one (ps_ret (pmake (m_Token T) (hr.mono (by omega)) pass0 (pa_cons (pe_txt T.n_MARK) (pa_cons (pe_dic_item T.n_SIGNS (pe_dic T.n_SIGNS) (pv 2) (fun _ _ => rfl)) (pa_cons (pv 1) (pa_cons (pe_op op_add (pv 1) pe_int) pa_nil)))))))
 pss_nil)
 (pss_one (ps_raise rfl (takes_of rfl rfl rfl rfl) (by exact pmk_fault T (hr.mono (by omega)) (pa_cons (pe_num T.n_NO_TOKEN) (pa_cons (pv 1) pa_nil)) (mono_two fun _ _ _ _ m h => mono_var m h))))))))), ?_⟩)
  · obtain ⟨p, _, _, rfl, _⟩ := h
    rfl
  · obtain ⟨a, s, p, rfl, ha, hl, hp, q⟩ := h
    walk_at "r0"
    obtain ⟨b, hb⟩ : ∃ b, s[p]? = some b := ⟨_, List.getElem?_eq_getElem hp⟩
    unfold tokOf at q
    rw [hb] at q
    dsimp only at q
    walk_at "sq"
    refine ⟨_, rfl, _, rfl, a, _, _, _, rfl, rfl, SqL.of ha, atI_nat (j := p) (nvs_at hb), ?_⟩
    walk_at "sq"
    refine ⟨_, rfl, b, rfl, _, rfl, ?_⟩
    cases h1 : VafmsBase.isLetter b with
    | true =>
      rw [h1, if_pos rfl] at q
      rw [if_pos rfl]
      exact ⟨_, rfl, _, rfl, a, s, p, rfl, ha, hl, Nat.le_of_lt hp, q⟩
    | false =>
    rw [h1, if_neg Bool.false_ne_true] at q
    rw [if_neg Bool.false_ne_true]
    walk_at "sq"
    refine ⟨_, rfl, b, rfl, _, rfl, ?_⟩
    cases h2 : VafmsBase.isDigit b with
    | true =>
      rw [h2, if_pos rfl] at q
      rw [if_pos rfl]
      exact ⟨_, rfl, _, rfl, a, s, p, rfl, ha, hl, Nat.le_of_lt hp, q⟩
    | false =>
    rw [h2, if_neg Bool.false_ne_true] at q
    rw [if_neg Bool.false_ne_true]
    walk_at "sq"
    refine ⟨_, rfl, rfl, _, rfl, ?_⟩
    by_cases h3 : b = 34
    · subst h3
      rw [if_pos rfl] at q
      rw [if_pos (by decide)]
      exact ⟨_, rfl, _, rfl, ⟨a, s, p, rfl, ha, hl, Nat.le_of_lt hp, q⟩, s, p, a, rfl, ha, hp⟩
    rw [if_neg h3] at q
    rw [if_neg (by
      rw [decide_eq_false (fun e => h3 (by injection e with e; exact Int.ofNat.inj (e.trans (show (34 : Int) = Int.ofNat 34 from rfl))))]
      exact Bool.false_ne_true)]
    walk_at "sq"
    have sv := sign_val b
    refine ⟨_, rfl, .inl (b : Int), rfl, rfl, _, rfl, ?_⟩
    cases h4 : isSign b with
    | true =>
      rw [h4, if_pos rfl] at q sv
      rw [sv, if_pos (by rfl)]
      walk_at "rd"
      refine ⟨_, rfl, .inl (b : Int), _, rfl, rfl, sv, _, rfl, _, rfl, _, _, rfl, rfl, fun y d1 hy hd1 hne => ⟨y, d1, _, rfl, rfl, upd_same, rfl, ?_⟩⟩
      have mk := made (C := c.Token) (fs := [("kind", .str "mark"), ("told", .str ⟨#[b]⟩), ("place", .int (Int.ofNat p)), ("behind", .int (Int.ofNat p + 1))]) hy hd1
      exact q _ _ mk.1 ⟨y, d1, _, rfl, mk.2, rfl⟩
    | false =>
      rw [h4, if_neg Bool.false_ne_true] at q sv
      rw [sv, if_neg (by decide)]
      exact ⟨_, rfl, 1, p, rfl, q⟩
end
end FX
end
section
set_option Elab.async false
set_option linter.all false
set_option maxRecDepth 100000
set_option maxHeartbeats 4000000
namespace FX
open PySem PySem.Spec PyProof.Rows L2 FT
open VafmsBase (Fmt)
/-! ### the specification's tokens, token by token -/
def cTok : Tk → Vafmsa.Tok
  | .mark [b] => if isSign b = true then .sign b else .word [b]
  | .mark w => .word w
  | .num n => .num n
  | .str t => .str t
  | .ending => .ending
theorem isSign_iff {b : Nat} : isSign b = true ↔ b = 123 ∨ b = 125 ∨ b = 40 ∨ b = 41 ∨ b = 59 := by
  show List.contains [123, 125, 40, 41, 59] b = true ↔ _
  rw [List.contains_iff_mem]
  simp
theorem letter_no_sign {b : Nat} (h : VafmsBase.isLetter b = true) : isSign b = false := by
  have h2 := isLetter_iff.mp h
  cases e : isSign b with
  | false => rfl
  | true =>
    have := isSign_iff.mp e
    omega
theorem cTok_word {w : List Nat} (h : w.all VafmsBase.isLetter = true) : cTok (.mark w) = .word w := by
  match w, h with
  | [], _ => rfl
  | [b], h =>
    have hb : VafmsBase.isLetter b = true := by simpa using h
    show (if isSign b = true then Vafmsa.Tok.sign b else .word [b]) = _
    rw [letter_no_sign hb, if_neg Bool.false_ne_true]
  | _ :: _ :: _, _ => rfl
theorem cTok_sign {b : Nat} (h : isSign b = true) : cTok (.mark [b]) = .sign b := if_pos h
theorem cTok_mark_sign {t : Tk} {b : Nat} (hb : isSign b = true) : cTok t = .sign b ↔ t = .mark [b] := by
  constructor
  · intro h
    match t, h with
    | .mark [], h => cases h
    | .mark [x], h =>
      have h' : (if isSign x = true then Vafmsa.Tok.sign x else .word [x]) = .sign b := h
      split at h'
      · injection h' with h'
        rw [h']
      · cases h'
    | .mark (_ :: _ :: _), h => cases h
    | .num _, h => cases h
    | .str _, h => cases h
    | .ending, h => cases h
  · intro h
    rw [h]
    exact cTok_sign hb
theorem cTok_mark_word {t : Tk} {w : List Nat} (hw : w.all VafmsBase.isLetter = true) : cTok t = .word w ↔ t = .mark w := by
  constructor
  · intro h
    match t, h with
    | .mark [], h => injection h with h; rw [h]
    | .mark [x], h =>
      have h' : (if isSign x = true then Vafmsa.Tok.sign x else .word [x]) = .word w := h
      split at h'
      · cases h'
      · injection h' with h'
        rw [h']
    | .mark (_ :: _ :: _), h => injection h with h; rw [h]
    | .num _, h => cases h
    | .str _, h => cases h
    | .ending, h => cases h
  · intro h
    rw [h]
    exact cTok_word hw
theorem str_len : ∀ (n : Nat) (t : List Nat), t.length ≤ n → ∀ x m, Vafmsa.stringFrom t = some (x, m) → 1 ≤ m ∧ m ≤ t.length ∧ x.length < m
  | 0, [], _, x, m, h => by cases h
  | n + 1, [], _, x, m, h => by cases h
  | n + 1, b :: r, hn, x, m, h => by
    rw [Vafmsa.stringFrom.eq_def] at h
    dsimp only at h
    split at h
    · obtain ⟨rfl, rfl⟩ := Prod.mk.inj (Option.some.inj h)
      exact ⟨Nat.le_refl _, by simp, by simp⟩
    split at h
    · cases r with
      | nil => cases h
      | cons y q =>
        dsimp only at h
        split at h
        · cases e : Vafmsa.stringFrom q with
          | none => rw [e] at h; cases h
          | some z =>
            rw [e] at h
            obtain ⟨rfl, rfl⟩ := Prod.mk.inj (Option.some.inj h)
            have := str_len n q (by simp only [List.length_cons] at hn; omega) z.1 z.2 (by rw [e])
            simp only [List.length_cons]
            omega
        · cases h
    split at h
    · cases e : Vafmsa.stringFrom r with
      | none => rw [e] at h; cases h
      | some z =>
        rw [e] at h
        obtain ⟨rfl, rfl⟩ := Prod.mk.inj (Option.some.inj h)
        have := str_len n r (by simp only [List.length_cons] at hn; omega) z.1 z.2 (by rw [e])
        simp only [List.length_cons]
        omega
    · cases h
theorem str_ok : ∀ (n : Nat) (t : List Nat), t.length ≤ n → ∀ x m, Vafmsa.stringFrom t = some (x, m) → x.all VafmsBase.okByte = true
  | 0, [], _, x, m, h => by cases h
  | n + 1, [], _, x, m, h => by cases h
  | n + 1, b :: r, hn, x, m, h => by
    rw [Vafmsa.stringFrom.eq_def] at h
    dsimp only at h
    split at h
    · obtain ⟨rfl, rfl⟩ := Prod.mk.inj (Option.some.inj h)
      rfl
    split at h
    · cases r with
      | nil => cases h
      | cons y q =>
        dsimp only at h
        split at h
        · rename_i hy
          cases e : Vafmsa.stringFrom q with
          | none => rw [e] at h; cases h
          | some z =>
            rw [e] at h
            obtain ⟨rfl, rfl⟩ := Prod.mk.inj (Option.some.inj h)
            have := str_ok n q (by simp only [List.length_cons] at hn; omega) z.1 z.2 (by rw [e])
            rw [List.all_cons, this, Bool.and_true]
            rcases hy with rfl | rfl <;> decide
        · cases h
    split at h
    · rename_i hb
      cases e : Vafmsa.stringFrom r with
      | none => rw [e] at h; cases h
      | some z =>
        rw [e] at h
        obtain ⟨rfl, rfl⟩ := Prod.mk.inj (Option.some.inj h)
        have := str_ok n r (by simp only [List.length_cons] at hn; omega) z.1 z.2 (by rw [e])
        rw [List.all_cons, this, hb]
        rfl
    · cases h
def TokOk (t : Vafmsa.Tok) : Prop := t ≠ .word [] ∧ (∀ n, t = .num n → n ≤ 9999) ∧ (∀ b, isSign b = true → t ≠ .word [b]) ∧ ∀ x, t = .str x → x.all VafmsBase.okByte = true
theorem numOf_lt : ∀ (d : List Nat) (a : Nat), d.all VafmsBase.isDigit = true → d.foldl (fun n b => 10 * n + (b - 48)) a < (a + 1) * 10 ^ d.length
  | [], a, _ => by simp
  | b :: d, a, h => by
    rw [List.all_cons, Bool.and_eq_true] at h
    have hb : b ≤ 57 := by
      have := h.1
      unfold VafmsBase.isDigit at this
      rw [Bool.and_eq_true, decide_eq_true_iff, decide_eq_true_iff] at this
      exact this.2
    have ih := numOf_lt d (10 * a + (b - 48)) h.2
    rw [List.foldl_cons]
    refine Nat.lt_of_lt_of_le ih ?_
    rw [List.length_cons, Nat.pow_succ]
    have e : (a + 1) * (10 ^ d.length * 10) = ((a + 1) * 10) * 10 ^ d.length := by
      rw [Nat.mul_comm (10 ^ d.length) 10, ← Nat.mul_assoc]
    rw [e]
    refine Nat.mul_le_mul_right _ ?_
    omega
theorem numOf_small {d : List Nat} (h : d.all VafmsBase.isDigit = true) (hl : d.length ≤ 4) : VafmsBase.numberOf d ≤ 9999 := by
  have h1 := numOf_lt d 0 h
  have h2 : 10 ^ d.length ≤ 10 ^ 4 := Nat.pow_le_pow_right (by decide) hl
  unfold VafmsBase.numberOf
  omega
theorem run_pos {f : Nat → Bool} {s : List Nat} {p b : Nat} (h : s[p]? = some b) (hf : f b = true) : 1 ≤ ((s.drop p).takeWhile f).length ∧ ((s.drop p).takeWhile f)[0]? = some b ∧ p + ((s.drop p).takeWhile f).length ≤ s.length := by
  have hp := (List.getElem?_eq_some_iff.mp h).1
  have h3 := runFrom_le (f := f) (s := s) (p := p) (Nat.le_of_lt hp)
  unfold runFrom at h3
  refine ⟨?_, ?_, h3.2⟩
  · rw [str_at h, List.takeWhile_cons, if_pos hf]
    simp
  · rw [str_at h, List.takeWhile_cons, if_pos hf]
    rfl
theorem tok_step {s : List Nat} {p b : Nat} (f : Nat) (h : s[p]? = some b) (hb : Vafmsa.isBlank b = false) :
    (∀ t q, tokOf s p = some (t, q) → p < q ∧ q ≤ s.length ∧ TokOk (cTok t)) ∧ Vafmsa.tokensFrom (f + 1) p (s.drop p) = match tokOf s p with
      | none => .error ⟨1, p⟩
      | some (t, q) => (Vafmsa.tokensFrom f q (s.drop q)).map fun l => ⟨p, cTok t⟩ :: l := by
  have hp := (List.getElem?_eq_some_iff.mp h).1
  have hd := str_at h
  unfold tokOf
  rw [h]
  dsimp only
  have e0 : Vafmsa.tokensFrom (f + 1) p (s.drop p) = (if VafmsBase.isLetter b = true then (if Vafmsa.LONG < ((s.drop p).takeWhile VafmsBase.isLetter).length then .error ⟨1, p⟩ else (Vafmsa.tokensFrom f (p + ((s.drop p).takeWhile VafmsBase.isLetter).length) ((s.drop p).drop ((s.drop p).takeWhile VafmsBase.isLetter).length)).map fun l => ⟨p, .word ((s.drop p).takeWhile VafmsBase.isLetter)⟩ :: l)
      else if VafmsBase.isDigit b = true then (if VafmsBase.DIGITS < ((s.drop p).takeWhile VafmsBase.isDigit).length ∨ (b = 48 ∧ 1 < ((s.drop p).takeWhile VafmsBase.isDigit).length) then .error ⟨1, p⟩ else (Vafmsa.tokensFrom f (p + ((s.drop p).takeWhile VafmsBase.isDigit).length) ((s.drop p).drop ((s.drop p).takeWhile VafmsBase.isDigit).length)).map fun l => ⟨p, .num (VafmsBase.numberOf ((s.drop p).takeWhile VafmsBase.isDigit))⟩ :: l)
      else if b = Vafmsa.QUOTE then (match Vafmsa.stringFrom (s.drop (p + 1)) with
        | none => .error ⟨1, p⟩
        | some x => (Vafmsa.tokensFrom f (p + 1 + x.2) ((s.drop (p + 1)).drop x.2)).map fun l => ⟨p, .str x.1⟩ :: l)
      else if Vafmsa.SIGNS.contains b = true then (Vafmsa.tokensFrom f (p + 1) (s.drop (p + 1))).map fun l => ⟨p, .sign b⟩ :: l
      else .error ⟨1, p⟩) := by
    rw [hd, Vafmsa.tokensFrom.eq_def]
    dsimp only
    rw [hb, if_neg Bool.false_ne_true]
    cases Vafmsa.stringFrom (List.drop (p + 1) s) <;> rfl
  rw [e0]
  cases h1 : VafmsBase.isLetter b with
  | true =>
    rw [if_pos rfl, if_pos rfl]
    have hr := run_pos h h1
    unfold wordTok
    dsimp only
    have hall : ((s.drop p).takeWhile VafmsBase.isLetter).all VafmsBase.isLetter = true := by simp
    generalize (s.drop p).takeWhile VafmsBase.isLetter = d at *
    by_cases c1 : 6 < d.length
    · rw [if_pos c1, if_pos (show Vafmsa.LONG < d.length from c1)]
      exact ⟨fun t q z => by (cases z), rfl⟩
    · rw [if_neg c1, if_neg (show ¬ Vafmsa.LONG < d.length from c1)]
      refine ⟨fun t q z => ?_, ?_⟩
      · obtain ⟨rfl, rfl⟩ := Prod.mk.inj (Option.some.inj z)
        refine ⟨by omega, hr.2.2, ?_⟩
        rw [cTok_word hall]
        refine ⟨fun z => ?_, fun n z => by (cases z), fun x hx z => ?_, fun x z => by (cases z)⟩
        · injection z with z
          rw [z] at hr
          simp at hr
        · injection z with z
          rw [z] at hall
          have := letter_no_sign (b := x) (by simpa using hall)
          rw [hx] at this
          cases this
      · dsimp only
        rw [cTok_word hall, List.drop_drop]
  | false =>
  rw [if_neg Bool.false_ne_true, if_neg Bool.false_ne_true]
  cases h2 : VafmsBase.isDigit b with
  | true =>
    rw [if_pos rfl, if_pos rfl]
    have hr := run_pos h h2
    unfold numTok
    dsimp only
    have hall : ((s.drop p).takeWhile VafmsBase.isDigit).all VafmsBase.isDigit = true := by simp
    generalize (s.drop p).takeWhile VafmsBase.isDigit = d at *
    by_cases c1 : 4 < d.length ∨ (1 < d.length ∧ d[0]? = some 48)
    · rw [if_pos c1, if_pos (show VafmsBase.DIGITS < d.length ∨ (b = 48 ∧ 1 < d.length) from by
        rcases c1 with z | ⟨z1, z2⟩
        · exact .inl z
        · rw [hr.2.1] at z2
          exact .inr ⟨Option.some.inj z2, z1⟩)]
      exact ⟨fun t q z => by (cases z), rfl⟩
    · rw [if_neg c1, if_neg (show ¬ (VafmsBase.DIGITS < d.length ∨ (b = 48 ∧ 1 < d.length)) from fun z => c1 (by
        rcases z with z | ⟨z1, z2⟩
        · exact .inl z
        · exact .inr ⟨z2, by rw [hr.2.1, z1]⟩))]
      refine ⟨fun t q z => ?_, ?_⟩
      · obtain ⟨rfl, rfl⟩ := Prod.mk.inj (Option.some.inj z)
        refine ⟨by omega, hr.2.2, fun z => by (cases z), fun n z => ?_, fun x _ z => by (cases z), fun x z => by (cases z)⟩
        injection z with z
        rw [← z]
        exact numOf_small hall (by omega)
      · dsimp only
        rw [List.drop_drop]
        rfl
  | false =>
  rw [if_neg Bool.false_ne_true, if_neg Bool.false_ne_true]
  by_cases h3 : b = 34
  · rw [if_pos h3, if_pos (show b = Vafmsa.QUOTE from h3)]
    unfold strTok
    cases e : Vafmsa.stringFrom (s.drop (p + 1)) with
    | none => exact ⟨fun t q z => by (cases z), rfl⟩
    | some x =>
      obtain ⟨x, n⟩ := x
      have hl := str_len _ _ (Nat.le_refl _) x n e
      have ho := str_ok _ _ (Nat.le_refl _) x n e
      rw [List.length_drop] at hl
      refine ⟨fun t q z => ?_, ?_⟩
      · obtain ⟨rfl, rfl⟩ := Prod.mk.inj (Option.some.inj z)
        exact ⟨by omega, by omega, fun z => by (cases z), fun n z => by (cases z), fun x _ z => by (cases z), fun y z => by injection z with z; rw [← z]; exact ho⟩
      · dsimp only
        rw [List.drop_drop]
        rfl
  rw [if_neg h3, if_neg (show ¬ b = Vafmsa.QUOTE from h3)]
  by_cases h4 : isSign b = true
  · rw [if_pos h4, if_pos (show Vafmsa.SIGNS.contains b = true from h4)]
    refine ⟨fun t q z => ?_, ?_⟩
    · obtain ⟨rfl, rfl⟩ := Prod.mk.inj (Option.some.inj z)
      rw [cTok_sign h4]
      exact ⟨by omega, by omega, fun z => by (cases z), fun n z => by (cases z), fun x _ z => by (cases z), fun y z => by (cases z)⟩
    · dsimp only
      rw [cTok_sign h4]
  · rw [if_neg h4, if_neg (show ¬ Vafmsa.SIGNS.contains b = true from h4)]
    exact ⟨fun t q z => by (cases z), rfl⟩
theorem tok_blanks {s : List Nat} : ∀ (n p f : Nat), s.length - p = n → p ≤ s.length → s.length - p < f → ∃ f', s.length - runFrom Vafmsa.isBlank s p < f' ∧ Vafmsa.tokensFrom f p (s.drop p) = Vafmsa.tokensFrom f' (runFrom Vafmsa.isBlank s p) (s.drop (runFrom Vafmsa.isBlank s p))
  | 0, p, f, hn, hp, hf => ⟨f, by rw [runFrom_end (by omega)]; exact hf, by rw [runFrom_end (by omega)]⟩
  | n + 1, p, 0, hn, hp, hf => by omega
  | n + 1, p, f + 1, hn, hp, hf => by
    obtain ⟨b, hb⟩ : ∃ b, s[p]? = some b := ⟨_, List.getElem?_eq_getElem (by omega)⟩
    rw [runFrom_step hb]
    cases h : Vafmsa.isBlank b with
    | true =>
      rw [if_pos rfl]
      obtain ⟨f', h1, h2⟩ := tok_blanks (s := s) n (p + 1) f (by omega) (by omega) (by omega)
      refine ⟨f', h1, ?_⟩
      rw [← h2, str_at hb, Vafmsa.tokensFrom.eq_def]
      dsimp only
      rw [h, if_pos rfl]
    | false =>
      rw [if_neg Bool.false_ne_true]
      exact ⟨f + 1, hf, rfl⟩
theorem past_no_blank {s : List Nat} : ∀ (n p : Nat), s.length - p = n → ∀ b, s[runFrom Vafmsa.isBlank s p]? = some b → Vafmsa.isBlank b = false
  | 0, p, hn, b, h => by
    rw [runFrom_end (by omega), List.getElem?_eq_none (by omega)] at h
    cases h
  | n + 1, p, hn, b, h => by
    obtain ⟨x, hx⟩ : ∃ x, s[p]? = some x := ⟨_, List.getElem?_eq_getElem (by omega)⟩
    rw [runFrom_step hx] at h
    cases e : Vafmsa.isBlank x with
    | true =>
      rw [e, if_pos rfl] at h
      exact past_no_blank n (p + 1) (by omega) b h
    | false =>
      rw [e, if_neg Bool.false_ne_true, hx] at h
      obtain rfl := Option.some.inj h
      exact e
end FX
end
section
set_option Elab.async false
set_option linter.all false
set_option maxRecDepth 100000
set_option maxHeartbeats 4000000
namespace FX
open PySem PySem.Spec PyProof.Rows L2 FT
open VafmsBase (Fmt)
local macro_rules | `(tactic| walk_at "rd") => `(tactic| try dsimp only [tM1, tMethA, ipI, tAug, tOp, tC, tCB, tCons, tNil, gName, tVar, tAsg, tRet, tIfS, tTest, tB, tNext, tDrop, tFld, tCKw, tCall, tMeth, rI0, rI, CMul, rEq, rNe, rEqD, rNeD, tBM, rAppend, rExtend, rCat, rIn, rIxT, rIxL, tSl, rSlL, tPart, tNoPart, tChain, tUn, rU, tIf, tNot, tOr, tAnd, tMake, sFld, tLst, tTup, tFault, pad, List.set, List.getElem?_cons_zero, List.getElem?_cons_succ, cxOf, List.map_cons, List.map_nil, List.append_nil, List.cons_append, List.nil_append])
local macro_rules | `(tactic| walk_at "sq") => `(tactic| (refine seq_go ?_; walk_at "rd"))
local macro_rules | `(tactic| walk_at "r0") => `(tactic| (rw [start_pad (by rfl)]; walk_at "rd"))
section
variable {P : Program} {w : World} {K : PySem.W.Frag} {mg : Str → Option Value} {base : Heap} {c : Cs}
/-- a token of the specification -/
def TkAt (c : Cs) (H : Hp) (v : V) (t : Vafmsa.Token) : Prop := TokOk t.tok ∧ ∃ (k : Tk) (b : Nat), TokAt c H v ⟨k, t.place, b⟩ ∧ cTok k = t.tok
theorem TkAt.same {H H' : Hp} {v : V} {t : Vafmsa.Token} (h : TkAt c H v t) (s : Same H H') : TkAt c H' v t := by
  obtain ⟨h0, k, b, h1, h2⟩ := h
  exact ⟨h0, k, b, h1.same s, h2⟩
/-- lists that stand apart from what is made -/
def Lsts (H : Hp) (Z : List Addr) : Prop := ∀ z ∈ Z, ∃ l, H z = some (.lst l)
theorem Lsts.same {H H' : Hp} {Z : List Addr} (h : Lsts H Z) (s : Same H H') : Lsts H' Z := fun z m => by
  obtain ⟨l, e⟩ := h z m
  exact ⟨l, s _ _ e⟩
theorem Lsts.new {H : Hp} {Z : List Addr} (h : Lsts H Z) {b : Addr} (hb : H b = none) : b ∉ Z := fun m => by
  obtain ⟨l, e⟩ := h b m
  rw [hb] at e
  cases e
theorem Lsts.ins {H : Hp} {Z : List Addr} (h : Lsts H Z) {b C d : Addr} {fs : List (Str × V)} (hb : H b = some (.ins C d fs)) : b ∉ Z := fun m => by
  obtain ⟨l, e⟩ := h b m
  rw [hb] at e
  cases e
theorem not_cons {b D : Addr} {Z : List Addr} (h1 : b ≠ D) (h2 : b ∉ Z) : b ∉ D :: Z := fun m => by
  rcases List.mem_cons.mp m with m | m
  · exact h1 m
  · exact h2 m
def GivesToks (c : Cs) (Z : List Addr) (H : Hp) (r : Vafmsa.Got Vafmsa.Toks) (Q : VK) (E : XK) : Prop := match r with
  | .error f => Raises c H f.kind f.place E
  | .ok l => ∀ D us H', H D = none → Same H H' → H' D = some (.lst us) → Paired (TkAt c (hideZ (D :: Z) H')) us l → Q (.ref D) H'
def spReadToks (c : Cs) : Sp := fun vs H Q E => ∃ (a : Addr) (s : List Nat) (Z : List Addr), vs = [.ref a] ∧ H a = some (.lst (nvs s)) ∧ s.length ≤ 10000 ∧ Lsts H Z ∧ GivesToks c Z H (Vafmsa.tokens s) Q E
theorem tkF_behind {k told pl b : V} : List.lookup ("behind" : Str) [("kind", k), ("told", told), ("place", pl), ("behind", b)] = some b := (lk_past (by decide +kernel)).trans ((lk_past (by decide +kernel)).trans ((lk_past (by decide +kernel)).trans lk_here))
theorem got_map {A B C : Type} (x : Vafmsa.Got A) (f : A → B) (g : B → C) : (x.map f).map g = x.map fun y => g (f y) := by cases x <;> rfl
theorem sc_read_tokens : FnScope ["source", "tokens", "place", "token"] ["source"] (defScope (topS 95)) := ⟨rfl, rfl, rfl, by decide +kernel, rfl, by decide +kernel, by decide +kernel⟩
theorem d_read_tokens (T : Top K mg c) : DefOk P w K mg base (L2.CX P w) 5 "read_tokens" (spReadToks c) := T.a_read_tokens.ok fun f fd F => by
  refine F.okX sc_read_tokens (fun vs H Q E h => ?_) (fun cdv A outer s H vs Q E hr h => ⟨_, (pss_cons (ps_set (i := 1) sc_read_tokens.nd rfl (.inl rfl) (pe_lst pa_nil))
 (pss_cons (ps_set (i := 2) sc_read_tokens.nd rfl (.inl rfl) (pcall (d_past_blanks T) (hr.mono (by omega)) pass0 (pa_cons (pv 0) (pa_cons pe_int pa_nil))))
 (pss_cons (ps_while (by first | exact PassesOwn.leaving | exact PassesOwn.never) (pt_cmpR op_lt (pv 2) (pe_callB call_len_seq (by rfl) T.b_len (by decide +kernel) (pa_cons (pv 0) pa_nil)) (nomark _))
 (pss_cons (ps_set (i := 3) sc_read_tokens.nd rfl (.inl rfl) (pcall (E := E) (d_token_at T) (hr.mono (by omega)) (passes_call (takes_of rfl rfl rfl rfl) fun _ _ _ _ h => h) (pa_cons (pv 0) (pa_cons (pv 2) pa_nil))))
 (pss_cons (ps_expr (pe_bm PySem.F.plainAttrs_list PySem.F.slot_list_append PySem.F.type_list_append mt_append (pv 1) (pa_cons (pv 3) pa_nil)))
 (pss_one (ps_set (i := 2) sc_read_tokens.nd rfl (.inl rfl) (pcall (d_past_blanks T) (hr.mono (by omega)) pass0 (pa_cons (pv 0) (pa_cons (pe_fld (pv 3) rfl) pa_nil))))))))
 (pss_cons (ps_expr (pe_bm PySem.F.plainAttrs_list PySem.F.slot_list_append PySem.F.type_list_append mt_append (pv 1) (pa_cons (pmake (m_Token T) (hr.mono (by omega)) pass0 (pa_cons (pe_txt T.n_END_tokens) (pa_cons pe_str (pa_cons (pv 2) (pa_cons (pv 2) pa_nil))))) pa_nil)))
 (pss_one (ps_ret (pv 1))))))), ?_⟩)
  · obtain ⟨p, _, _, rfl, _⟩ := h
    rfl
  · obtain ⟨a, s, Z, rfl, ha, hl, hZ, q⟩ := h
    walk_at "r0"
    walk_at "sq"
    refine ⟨Nat.zero_le _, fun D hD => ?_⟩
    have s0 := Same.add (o := .lst []) hD
    walk_at "sq"
    refine ⟨_, rfl, a, s, 0, rfl, s0 _ _ ha, hl, Nat.zero_le _, fun H0 sa => ?_⟩
    have sB := Same.trans s0 sa
    have hD0 : H0 D = some (.lst []) := sa _ _ upd_same
    obtain ⟨f0, hf0, ef0⟩ := tok_blanks (s := s) s.length 0 (s.length + 1) (by omega) (by omega) (by omega)
    have nb0 := past_no_blank (s := s) s.length 0 (by omega)
    have le0 := (runFrom_le (f := Vafmsa.isBlank) (s := s) (p := 0) (by omega)).2
    generalize runFrom Vafmsa.isBlank s 0 = p0 at *
    refine seq_go ?_
    refine ⟨fun m σ H' => ∃ (p f : Nat) (done : List Vafmsa.Token) (us : List V) (v3 : Option V), m = s.length - p ∧ p ≤ s.length ∧ σ = [some (.ref a), some (.ref D), some (.int (Int.ofNat p)), v3] ∧ Same H H' ∧ H' D = some (.lst us) ∧ Paired (TkAt c (hideZ (D :: Z) H')) us done ∧ s.length - p < f ∧ done.length ≤ p ∧ (∀ b, s[p]? = some b → Vafmsa.isBlank b = false) ∧ Vafmsa.tokens s = (Vafmsa.tokensFrom f p (s.drop p)).map fun l => done ++ l, ⟨_, p0, f0, [], [], none, rfl, le0, rfl, sB, hD0, .nil, hf0, Nat.zero_le _, nb0, ?_⟩, ?_⟩
    · have e1 : Vafmsa.tokens s = Vafmsa.tokensFrom (s.length + 1) 0 (s.drop 0) := rfl
      rw [e1, ef0]
      cases Vafmsa.tokensFrom f0 p0 (s.drop p0) <;> rfl
    rintro m σ H1 ⟨p, f, done, us, v3, rfl, hp, rfl, s1, hD1, hus, hf, hdl, hnb, heq⟩
    have ha1 := s1 _ _ ha
    have hlen : us.length = done.length := hus.length
    walk_at "rd"
    refine ⟨_, rfl, _, rfl, a, _, rfl, .inl (SqL.of ha1), _, _, rfl, rfl, _, rfl, ?_⟩
    rw [nvs_length]
    obtain ⟨f, rfl⟩ : ∃ g, f = g + 1 := ⟨f - 1, by omega⟩
    by_cases hlt : p < s.length
    · rw [if_pos (decide_eq_true (by show (p : Int) < _; omega))]
      obtain ⟨b, hb⟩ : ∃ b, s[p]? = some b := ⟨_, List.getElem?_eq_getElem hlt⟩
      obtain ⟨hgood, hstep⟩ := tok_step f hb (hnb b hb)
      rw [hstep] at heq
      refine ⟨_, fun _ _ z => z, ?_⟩
      walk_at "sq"
      refine ⟨_, rfl, _, rfl, a, s, p, rfl, ha1, hl, hlt, ?_⟩
      cases ht : tokOf s p with
      | none =>
        rw [ht] at heq
        rw [heq] at q
        exact raises_later s1 q
      | some tb =>
        obtain ⟨t, b'⟩ := tb
        obtain ⟨g1, g2, g3⟩ := hgood t b' ht
        rw [ht] at heq
        dsimp only at heq
        rw [got_map] at heq
        intro v H2 s2 htok
        have s12 := Same.trans s1 s2
        have hD2 := s2 _ _ hD1
        walk_at "sq"
        refine ⟨_, rfl, .inl ⟨rfl, _, SqL.of hD2⟩, _, rfl, D, _, _, rfl, rfl, hD2, szl (by omega), ?_⟩
        obtain ⟨qt, dx, told, rfl, hqt, htold⟩ := htok
        have nqD : qt ≠ D := fun z => by rw [z, hD2] at hqt; cases hqt
        obtain ⟨f', hf', ef'⟩ := tok_blanks (s := s) (s.length - b') b' f rfl g2 (by omega)
        have nb' := past_no_blank (s := s) (s.length - b') b' rfl
        have le' := runFrom_le (f := Vafmsa.isBlank) (s := s) (p := b') g2
        rw [ef'] at heq
        have s3 : Same H (upd H2 D (.lst (us ++ [.ref qt]))) := Same.chg s12 hD
        refine ⟨_, rfl, _, rfl, qt, c.Token, dx, _, _, rfl, (by rw [upd_ne nqD]; exact hqt), T.c_Token.cl, T.c_Token.na _ (by simp), tkF_behind, a, s, b', rfl, s3 _ _ ha, hl, g2, fun H4 s4 => ?_⟩
        generalize runFrom Vafmsa.isBlank s b' = p4 at *
        refine ⟨s.length - p4, by omega, p4, f', done ++ [⟨p, cTok t⟩], us ++ [.ref qt], some (.ref qt), rfl, le'.2, rfl, Same.trans s3 s4, s4 _ _ upd_same, ?_, hf', by rw [List.length_append]; show done.length + 1 ≤ p4; omega, nb', ?_⟩
        · have hs : Same (hideZ (D :: Z) H1) (hideZ (D :: Z) H4) := fun b o e => (hideZ_of s4) b o (hideZ_upd (List.mem_cons_self ..) b o (hideZ_of s2 b o e))
          refine paired_app (Paired.mapR hus fun v' t' x => x.same hs) (.cons ⟨g3, t, b', ?_, rfl⟩ .nil)
          refine TokAt.same (H := hideZ (D :: Z) (upd H2 D (.lst (us ++ [.ref qt])))) ⟨qt, dx, told, rfl, ?_, ?_⟩ (hideZ_of s4)
          · rw [hideZ_ne (not_cons nqD ((hZ.same s12).ins hqt)), upd_ne nqD]
            exact hqt
          · cases t with
            | mark w => exact htold
            | num n => exact htold
            | ending => exact htold
            | str tt =>
              obtain ⟨ta, et, hn, hta⟩ := htold
              have nt : ta ≠ D := fun z => by rw [z, hD1] at hn; cases hn
              exact ⟨ta, et, by rw [hideZ_ne (not_cons nt ((hZ.same s1).new hn)), upd_ne nt]; exact hta⟩
        · rw [heq]
          congr 1
          funext l
          rw [List.append_assoc]
          rfl
    · obtain rfl : p = s.length := by omega
      rw [if_neg (by rw [decide_eq_false (by show ¬ (s.length : Int) < _; omega)]; exact Bool.false_ne_true)]
      have es : Vafmsa.tokensFrom (f + 1) s.length (s.drop s.length) = .ok [⟨s.length, .ending⟩] := by
        rw [List.drop_length]
        rfl
      rw [es] at heq
      rw [heq] at q
      walk_at "sq"
      refine ⟨_, rfl, .inl ⟨rfl, _, SqL.of hD1⟩, _, rfl, _, rfl, fun y d1 hy hd1 hne => ⟨y, d1, _, rfl, rfl, upd_same, rfl, ?_⟩⟩
      have mk := made (C := c.Token) (fs := [("kind", .str "end"), ("told", .str ""), ("place", .int (Int.ofNat s.length)), ("behind", .int (Int.ofNat s.length))]) hy hd1
      have nyD : y ≠ D := fun z => by rw [z, hD1] at hy; cases hy
      have hDm := mk.1 _ _ hD1
      have hs : ∀ H2, Same H1 H2 → Same (hideZ (D :: Z) H1) (hideZ (D :: Z) (upd H2 D (.lst (us ++ [.ref y])))) := fun H2 s2 b o e => hideZ_upd (List.mem_cons_self ..) b o (hideZ_of s2 b o e)
      refine ⟨D, us, _, rfl, rfl, hDm, szl (by omega), ?_⟩
      walk_at "rd"
      refine ⟨_, rfl, q D _ _ hD (Same.chg (Same.trans s1 mk.1) hD) upd_same ?_⟩
      refine paired_app (Paired.mapR hus fun v' t' x => x.same (hs _ mk.1)) (.cons ⟨⟨fun z => by (cases z), fun n z => by (cases z), fun x _ z => by (cases z), fun x z => by (cases z)⟩, .ending, s.length, ⟨y, d1, _, rfl, ?_, rfl⟩, rfl⟩ .nil)
      rw [hideZ_ne (not_cons nyD ((hZ.same s1).new hy)), upd_ne nyD]
      exact mk.2
end
end FX
end
section
set_option Elab.async false
set_option linter.all false
set_option maxRecDepth 100000
set_option maxHeartbeats 4000000
namespace FX
open PySem PySem.Spec PyProof.Rows L2 FT
open VafmsBase (Fmt)
local macro_rules | `(tactic| walk_at "rd") => `(tactic| try dsimp only [tM1, tMethA, ipI, tAug, tOp, tC, tCB, tCons, tNil, gName, tVar, tAsg, tRet, tIfS, tTest, tB, tNext, tDrop, tFld, tCKw, tCall, tMeth, rI0, rI, CMul, rEq, rNe, rEqD, rNeD, tBM, rAppend, rExtend, rCat, rIn, rIxT, rIxL, tSl, rSlL, tPart, tNoPart, tChain, tUn, rU, tIf, tNot, tOr, tAnd, tOrV, tAndV, tMake, sFld, tLst, tTup, tFault, pad, List.set, List.getElem?_cons_zero, List.getElem?_cons_succ, cxOf, List.map_cons, List.map_nil, List.append_nil, List.cons_append, List.nil_append])
local macro_rules | `(tactic| walk_at "sq") => `(tactic| (refine seq_go ?_; walk_at "rd"))
local macro_rules | `(tactic| walk_at "r0") => `(tactic| (rw [start_pad (by rfl)]; walk_at "rd"))
section
variable {P : Program} {w : World} {K : PySem.W.Frag} {mg : Str → Option Value} {base : Heap} {c : Cs}
/-- all but p as it was -/
abbrev Beside (p : Addr) (H H' : Hp) : Prop := Same (hideA p H) (hideA p H')
theorem Beside.refl (p : Addr) (H : Hp) : Beside p H H := Same.refl _
theorem Beside.of {p : Addr} {H H' : Hp} (s : Same H H') : Beside p H H' := hide_same s
theorem Beside.trans {p : Addr} {H H1 H2 : Hp} (a : Beside p H H1) (b : Beside p H1 H2) : Beside p H H2 := fun x o e => b x o (a x o e)
theorem Beside.new {p D : Addr} {H H1 : Hp} {o : HO} (a : Beside p H H1) (hD : H D = none) : Beside p H (upd H1 D o) := fun x u e => by
  have h1 := a x u e
  unfold hideA at e h1 ⊢
  split at e
  · cases e
  · rename_i hx
    rw [if_neg hx] at h1 ⊢
    rw [upd_ne fun z : x = D => by rw [z, hD] at e; cases e]
    exact h1
theorem Beside.upd {p : Addr} {H : Hp} {o : HO} : Beside p H (upd H p o) := hideA_upd (Same.refl H)
theorem Beside.free {p b : Addr} {H H' : Hp} (a : Beside p H H') (hb : H' b = none) (hp : H' p ≠ none) : H b = none := by
  cases e : H b with
  | none => rfl
  | some o =>
    have hne : b ≠ p := fun z => hp (z ▸ hb)
    rw [beside a e hne] at hb
    cases hb
theorem Beside.occ {p : Addr} {Z : List Addr} {H H' : Hp} (a : Beside p H H') (hp : H' p ≠ none) (hz : ∀ z ∈ Z, H z ≠ none) : ∀ z ∈ Z, H' z ≠ none := fun z m n => hz z m (a.free n hp)
theorem Beside.hide {p : Addr} {Z : List Addr} {H H' : Hp} (hp : p ∈ Z) (a : Beside p H H') : Same (hideZ Z H) (hideZ Z H') := hideZ_A hp a
/-! ### the small ones -/
def lowest (k : Nat) : Nat := if k = 5 then 0 else 1
theorem kind5 (k : Nat) : decide (V.int (k : Int) = V.int 5) = (k == 5) := by
  rw [Bool.eq_iff_iff, decide_eq_true_iff, beq_iff_eq]
  constructor
  · intro e
    injection e with e
    omega
  · intro e
    rw [e]
    rfl
def spLowest : Sp := fun vs H Q _ => ∃ k : Nat, vs = [.int (k : Int)] ∧ Q (.int (Int.ofNat (lowest k))) H
theorem sc_fewest_text_bytes : FnScope ["kind"] ["kind"] (defScope (topS 24)) := ⟨rfl, rfl, rfl, by decide +kernel, rfl, by decide +kernel, by decide +kernel⟩
theorem sc_lowest_bound : FnScope ["kind"] ["kind"] (defScope (topS 25)) := ⟨rfl, rfl, rfl, by decide +kernel, rfl, by decide +kernel, by decide +kernel⟩
theorem d_fewest_text_bytes (T : Top K mg c) : DefOk P w K mg base CX0 1 "fewest_text_bytes" spLowest := T.a_fewest_text_bytes.ok fun f fd F => by
  refine F.ok sc_fewest_text_bytes (fun vs H Q E h => ?_) (fun cdv A outer s H vs Q E hr h => ⟨_, (pss_one (ps_ret (pe_ifExp (pt_cmpR op_eq (pv 0) (pe_num T.n_REPEAT) (nomark _)) pe_int pe_int))), ?_⟩)
  · obtain ⟨k, rfl, _⟩ := h
    rfl
  · obtain ⟨k, rfl, q⟩ := h
    walk_at "r0"
    refine ⟨_, rfl, rfl, _, rfl, ?_⟩
    rw [kind5]
    unfold lowest at q
    by_cases h5 : k = 5
    · rw [if_pos h5] at q
      rw [if_pos (by simpa using h5)]
      exact q
    · rw [if_neg h5] at q
      rw [if_neg (by simpa using h5)]
      exact q
theorem d_lowest_bound (T : Top K mg c) : DefOk P w K mg base CX0 1 "lowest_bound" spLowest := T.a_lowest_bound.ok fun f fd F => by
  refine F.ok sc_lowest_bound (fun vs H Q E h => ?_) (fun cdv A outer s H vs Q E hr h => ⟨_, (pss_one (ps_ret (pe_ifExp (pt_cmpR op_eq (pv 0) (pe_num T.n_REPEAT) (nomark _)) pe_int pe_int))), ?_⟩)
  · obtain ⟨k, rfl, _⟩ := h
    rfl
  · obtain ⟨k, rfl, q⟩ := h
    walk_at "r0"
    refine ⟨_, rfl, rfl, _, rfl, ?_⟩
    rw [kind5]
    unfold lowest at q
    by_cases h5 : k = 5
    · rw [if_pos h5] at q
      rw [if_pos (by simpa using h5)]
      exact q
    · rw [if_neg h5] at q
      rw [if_neg (by simpa using h5)]
      exact q
/-! ### what reads: from a source, from numbers -/
structure Rdr (c : Cs) where
  C : Addr
  S : Type
  I : Type
  Er : Type
  At : List Addr → Hp → Addr → S → Prop
  Rz : Addr → Hp → Er → XK → Prop
  bound : Nat → S → Except Er (Nat × S)
  row : I → Bool → S → Except Er (Fmt × S)
  pre : I → S → Prop
  mono : ∀ {Z Z' : List Addr} {H H' : Hp} {p : Addr} {s : S}, At Z H p s → H' p = H p → Same (hideZ Z H) (hideZ Z' H') → At Z' H' p s
  ins : ∀ {Z : List Addr} {H : Hp} {p : Addr} {s : S}, At Z H p s → ∃ dx fs, H p = some (.ins C dx fs) ∧ fs.lookup ("read_bound" : Str) = none ∧ fs.lookup ("read_row" : Str) = none
  later : ∀ {p : Addr} {H H' : Hp} {e : Er} {E : XK}, Rz p H e E → Beside p H H' → H' p ≠ none → Rz p H' e E
  pre_bound : ∀ {i : I} {lo : Nat} {s s' : S} {v : Nat}, pre i s → bound lo s = .ok (v, s') → pre i s'
  pre_row : ∀ {i : I} {b : Bool} {s s' : S} {f : Fmt}, pre i s → row i b s = .ok (f, s') → pre i s'
namespace Rdr
variable (R : Rdr c)
theorem there {Z : List Addr} {H : Hp} {p : Addr} {s : R.S} (h : R.At Z H p s) : H p ≠ none := by
  obtain ⟨dx, fs, e, _⟩ := R.ins h
  rw [e]
  exact fun z => by cases z
def GivesB (Z : List Addr) (H : Hp) (p : Addr) (r : Except R.Er (Nat × R.S)) (Q : VK) (E : XK) : Prop := match r with
  | .error e => R.Rz p H e E
  | .ok (v, s') => ∀ H', Beside p H H' → R.At Z H' p s' → Q (.int (Int.ofNat v)) H'
def GivesR (Z : List Addr) (H : Hp) (p : Addr) (r : Except R.Er (Fmt × R.S)) (Q : VK) (E : XK) : Prop := match r with
  | .error e => R.Rz p H e E
  | .ok (f, s') => ∀ a H', Beside p H H' → R.At Z H' p s' → RowAt c (hideZ Z H') a f → Q (.ref a) H'
def GivesP (Z : List Addr) (H : Hp) (p : Addr) (r : Except R.Er (Pce × R.S)) (Q : VK) (E : XK) : Prop := match r with
  | .error e => R.Rz p H e E
  | .ok (pc, s') => ∀ v H', Beside p H H' → R.At Z H' p s' → PceAt c (hideZ Z H') v pc → Q v H'
def spBound : Sp := fun vs H Q E => ∃ (Z : List Addr) (p : Addr) (lo : Nat) (i : R.I) (s : R.S), vs = [.ref p, .int (Int.ofNat lo)] ∧ p ∈ Z ∧ (∀ z ∈ Z, H z ≠ none) ∧ R.At Z H p s ∧ R.pre i s ∧ R.GivesB Z H p (R.bound lo s) Q E
def spRow : Sp := fun vs H Q E => ∃ (Z : List Addr) (p : Addr) (i : R.I) (b : Bool) (s : R.S), vs = [.ref p, .bl b] ∧ p ∈ Z ∧ (∀ z ∈ Z, H z ≠ none) ∧ R.At Z H p s ∧ R.pre i s ∧ R.GivesR Z H p (R.row i b s) Q E
theorem spRow_mono {vs : List V} {H : Hp} {Q Q' : VK} {E : XK} (h : R.spRow vs H Q E) (m : ∀ v H', Q v H' → Q' v H') : R.spRow vs H Q' E := by
  obtain ⟨Z, p, i, b, s, e, h1, h2, h3, h4, q⟩ := h
  refine ⟨Z, p, i, b, s, e, h1, h2, h3, h4, ?_⟩
  cases hr : R.row i b s with
  | error e => rw [hr] at q; exact q
  | ok x =>
    rw [hr] at q
    exact fun a H' x1 x2 x3 => m _ _ (q a H' x1 x2 x3)
def rowsN : Nat → R.I → Bool → R.S → Except R.Er (List Fmt × R.S)
  | 0, _, _, s => .ok ([], s)
  | n + 1, i, b, s => (R.row i b s).bind fun x => (rowsN n i b x.2).map fun y => (x.1 :: y.1, y.2)
def bounds (k : Nat) (s : R.S) : Except R.Er ((Nat × Nat) × R.S) := if hasBounds k = true then (R.bound (lowest k) s).bind fun x => (R.bound x.1 x.2).map fun y => ((x.1, y.1), y.2) else .ok ((0, 0), s)
def rowCount (k : Nat) : Nat := [0, 0, 0, 2, 1, 1].getD k 0
def behind (i : R.I) (k : Nat) (t : List Nat) (b : Bool) (s : R.S) : Except R.Er (Pce × R.S) := (R.bounds k s).bind fun u => (R.rowsN (rowCount k) i (b || k == 5) u.2).map fun r => (⟨k, t, u.1.1, u.1.2, r.1⟩, r.2)
def spBehind : Sp := fun vs H Q E => ∃ (Z : List Addr) (p : Addr) (k : Nat) (ta : Addr) (t : List Nat) (b : Bool) (i : R.I) (s : R.S), vs = [.ref p, .int (k : Int), .ref ta, .bl b] ∧ k ≤ 5 ∧ p ∈ Z ∧ (∀ z ∈ Z, H z ≠ none) ∧ R.At Z H p s ∧ R.pre i s ∧ hideZ Z H ta = some (.lst (nvs t)) ∧ R.GivesP Z H p (R.behind i k t b s) Q E
end Rdr
theorem got_mapE {A B C Er : Type} (x : Except Er A) (f : A → B) (g : B → C) : (x.map f).map g = x.map fun y => g (f y) := by cases x <;> rfl
theorem sc_read_behind_text : FnScope ["reading", "kind", "text", "within_repeat", "lo", "hi", "rows"] ["reading", "kind", "text", "within_repeat"] (defScope (topS 26)) := ⟨rfl, rfl, rfl, by decide +kernel, rfl, by decide +kernel, by decide +kernel⟩
theorem d_read_behind_text (T : Top K mg c) (R : Rdr c) {k0 kb kr : Nat} (h2 : 2 ≤ k0) (hb : kb ≤ k0) (hrw : kr ≤ k0) (B : MethOk P w K mg base (L2.CX P w) kb R.C "read_bound" R.spBound) (W : MethOk P w K mg base (L2.CX P w) kr R.C "read_row" R.spRow) : DefOk P w K mg base (L2.CX P w) (k0 + 1) "read_behind_text" R.spBehind := T.a_read_behind_text.ok fun f fd F => by
  refine F.okX sc_read_behind_text (fun vs H Q E h => ?_) (fun cdv A outer s H vs Q E hr h => ⟨_, (pss_cons (ps_set (i := 4) sc_read_behind_text.nd rfl (.inl rfl) (pe_ifExp (pt_val (pcall (d_has_bounds T) (hr.mono (by omega)) pass0 (pa_cons (pv 1) pa_nil))) (pmeth (E := E) B (hr.mono (by omega)) (passes_call (takes_of rfl rfl rfl rfl) fun _ _ _ _ h => h) (pv 0) (pa_cons (pcall (d_lowest_bound T) (hr.mono (by omega)) pass0 (pa_cons (pv 1) pa_nil)) pa_nil)) pe_int))
 (pss_cons (ps_set (i := 5) sc_read_behind_text.nd rfl (.inl rfl) (pe_ifExp (pt_val (pcall (d_has_bounds T) (hr.mono (by omega)) pass0 (pa_cons (pv 1) pa_nil))) (pmeth (E := E) B (hr.mono (by omega)) (passes_call (takes_of rfl rfl rfl rfl) fun _ _ _ _ h => h) (pv 0) (pa_cons (pv 4) pa_nil)) pe_int))
 (pss_cons (ps_set (i := 6) sc_read_behind_text.nd rfl (.inl rfl) (pe_lst pa_nil))
 (pss_cons (ps_while (by first | exact PassesOwn.leaving | exact PassesOwn.never) (pt_cmpR op_lt (pe_callB call_len_seq (by rfl) T.b_len (by decide +kernel) (pa_cons (pv 6) pa_nil)) (pe_ix ix_tup (pe_tab T.n_ROW_COUNTS) (pv 1) (fun _ _ => rfl)) (nomark _))
 (pss_one (ps_expr (pe_bm PySem.F.plainAttrs_list PySem.F.slot_list_append PySem.F.type_list_append mt_append (pv 6) (pa_cons (pmeth (E := E) W (hr.mono (by omega)) (passes_call (takes_of rfl rfl rfl rfl) fun _ _ _ _ h => h) (pv 0) (pa_cons (pe_or (pv 3) (pe_one (pe_cmpR op_eq (pv 1) (pe_num T.n_REPEAT) (nomark _)))) pa_nil)) pa_nil)))))
 (pss_one (ps_ret (pmake (m_Piece T) (hr.mono (by omega)) pass0 (pa_cons (pv 1) (pa_cons (pv 2) (pa_cons (pv 4) (pa_cons (pv 5) (pa_cons (pv 6) pa_nil)))))))))))), ?_⟩)
  · obtain ⟨Z, p, k, ta, t, b, i, s, rfl, _⟩ := h
    rfl
  · obtain ⟨Z, p, k, ta, t, b, i, s0, rfl, hk, hpZ, hz, hAt, hpre, hta, q⟩ := h
    walk_at "r0"
    unfold Rdr.behind at q
    refine seq_by (fun σ' H' => ∃ (lo : Nat) (s1 : R.S), σ' = [some (.ref p), some (.int (k : Int)), some (.ref ta), some (.bl b), some (.int (Int.ofNat lo)), none, none] ∧ Beside p H H' ∧ R.At Z H' p s1 ∧ R.pre i s1 ∧ R.GivesP Z H p ((if hasBounds k = true then (R.bound lo s1).map fun y => ((lo, y.1), y.2) else .ok ((lo, 0), s1)).bind fun u => (R.rowsN (Rdr.rowCount k) i (b || k == 5) u.2).map fun r => (⟨k, t, u.1.1, u.1.2, r.1⟩, r.2)) Q E) ?_ ?_
    rotate_left
    · intro N hN
      walk_at "rd"
      refine ⟨_, rfl, k, rfl, fun H1 s1 => ⟨_, rfl, ?_⟩⟩
      have hAt1 := R.mono hAt (show H1 p = H p by
        cases e : H p with
        | none => exact absurd e (R.there hAt)
        | some o => exact s1 _ _ e) (hideZ_of s1)
      unfold Rdr.bounds at q
      cases hbk : hasBounds k with
      | true =>
        rw [hbk, if_pos rfl] at q
        rw [if_pos rfl]
        obtain ⟨dx, fs, hP, hl1, hl2⟩ := R.ins hAt1
        refine ⟨_, rfl, p, dx, fs, rfl, hP, hl1, _, rfl, k, rfl, Z, p, lowest k, i, s0, rfl, hpZ, occ hz s1, hAt1, hpre, ?_⟩
        cases hbd : R.bound (lowest k) s0 with
        | error e =>
          rw [hbd] at q
          exact R.later q (Beside.of s1) (R.there hAt1)
        | ok x =>
          obtain ⟨lo, s2⟩ := x
          rw [hbd] at q
          intro H2 b2 hAt2
          refine hN _ _ ⟨lo, s2, rfl, (Beside.of s1).trans b2, hAt2, R.pre_bound hpre hbd, ?_⟩
          rw [if_pos hbk]
          exact q
      | false =>
        rw [hbk, if_neg Bool.false_ne_true] at q
        rw [if_neg Bool.false_ne_true]
        refine hN _ _ ⟨0, s0, rfl, Beside.of s1, hAt1, hpre, ?_⟩
        rw [if_neg (by rw [hbk]; exact Bool.false_ne_true)]
        exact q
    rintro _ H1 ⟨lo, s1, rfl, b1, hAt1, hpre1, q1⟩
    clear q
    refine seq_by (fun σ' H' => ∃ (hi : Nat) (s2 : R.S), σ' = [some (.ref p), some (.int (k : Int)), some (.ref ta), some (.bl b), some (.int (Int.ofNat lo)), some (.int (Int.ofNat hi)), none] ∧ Beside p H H' ∧ R.At Z H' p s2 ∧ R.pre i s2 ∧ R.GivesP Z H p ((R.rowsN (Rdr.rowCount k) i (b || k == 5) s2).map fun r => (⟨k, t, lo, hi, r.1⟩, r.2)) Q E) ?_ ?_
    rotate_left
    · intro N hN
      walk_at "rd"
      refine ⟨_, rfl, k, rfl, fun H2 sm => ⟨_, rfl, ?_⟩⟩
      have hAt2 := R.mono hAt1 (show H2 p = H1 p by
        cases e : H1 p with
        | none => exact absurd e (R.there hAt1)
        | some o => exact sm _ _ e) (hideZ_of sm)
      have b2 := b1.trans (Beside.of sm)
      cases hbk : hasBounds k with
      | true =>
        rw [hbk, if_pos rfl] at q1
        rw [if_pos rfl]
        obtain ⟨dx, fs, hP, hl1, hl2⟩ := R.ins hAt2
        refine ⟨_, rfl, p, dx, fs, rfl, hP, hl1, _, rfl, Z, p, lo, i, s1, rfl, hpZ, b2.occ (R.there hAt2) hz, hAt2, hpre1, ?_⟩
        cases hbd : R.bound lo s1 with
        | error e =>
          rw [hbd] at q1
          exact R.later q1 b2 (R.there hAt2)
        | ok x =>
          obtain ⟨hi, s2⟩ := x
          rw [hbd] at q1
          intro H3 b3 hAt3
          exact hN _ _ ⟨hi, s2, rfl, b2.trans b3, hAt3, R.pre_bound hpre1 hbd, q1⟩
      | false =>
        rw [hbk, if_neg Bool.false_ne_true] at q1
        rw [if_neg Bool.false_ne_true]
        exact hN _ _ ⟨0, s1, rfl, b2, hAt2, hpre1, q1⟩
    rintro _ H2 ⟨hi, s2, rfl, b2, hAt2, hpre2, q2⟩
    clear q1
    walk_at "sq"
    refine ⟨Nat.zero_le _, fun D hD => ?_⟩
    have hpD : p ≠ D := fun z => R.there hAt2 (z ▸ hD)
    have hDZ : D ∉ Z := fun m => b2.occ (R.there hAt2) hz D m hD
    refine seq_go ?_
    have hcnt : ∃ n, ([.int 0, .int 0, .int 0, .int 2, .int 1, .int 1] : List V)[k]? = some (.int (n : Nat)) ∧ n = Rdr.rowCount k ∧ n ≤ 2 := by
      have hk' : k = 0 ∨ k = 1 ∨ k = 2 ∨ k = 3 ∨ k = 4 ∨ k = 5 := by omega
      rcases hk' with rfl | rfl | rfl | rfl | rfl | rfl
      · exact ⟨0, rfl, rfl, by decide⟩
      · exact ⟨0, rfl, rfl, by decide⟩
      · exact ⟨0, rfl, rfl, by decide⟩
      · exact ⟨2, rfl, rfl, by decide⟩
      · exact ⟨1, rfl, rfl, by decide⟩
      · exact ⟨1, rfl, rfl, by decide⟩
    obtain ⟨n, hn1, hn2, hn3⟩ := hcnt
    rw [← hn2] at q2
    refine ⟨fun m σ H' => ∃ (j : Nat) (rs : List Addr) (gs : List Fmt) (s3 : R.S), m = n - j ∧ j ≤ n ∧ rs.length = j ∧ σ = [some (.ref p), some (.int (k : Int)), some (.ref ta), some (.bl b), some (.int (Int.ofNat lo)), some (.int (Int.ofNat hi)), some (.ref D)] ∧ Beside p H H' ∧ (∀ z ∈ D :: Z, H' z ≠ none) ∧ R.At (D :: Z) H' p s3 ∧ R.pre i s3 ∧ H' D = some (.lst (rs.map V.ref)) ∧ Paired (RowAt c (hideZ (D :: Z) H')) rs gs ∧ R.rowsN n i (b || k == 5) s2 = (R.rowsN (n - j) i (b || k == 5) s3).map fun y => (gs ++ y.1, y.2), ⟨_, 0, [], [], s2, rfl, Nat.zero_le _, rfl, rfl, b2.new (b2.free hD (R.there hAt2)), ?_, ?_, hpre2, upd_same, .nil, ?_⟩, ?_⟩
    · intro z m
      rcases List.mem_cons.mp m with m | m
      · rw [m, upd_same]
        exact fun z => by cases z
      · rw [upd_ne fun e : z = D => hDZ (e ▸ m)]
        exact b2.occ (R.there hAt2) hz z m
    · refine R.mono hAt2 (upd_ne hpD) ?_
      exact hideZ_new hD (hideZ_add hD)
    · show _ = Except.map _ (R.rowsN n i (b || k == 5) s2)
      cases R.rowsN n i (b || k == 5) s2 <;> rfl
    rintro m σ H3 ⟨j, rs, gs, s3, rfl, hj, hrl, rfl, b3, hz3, hAt3, hpre3, hD3, hrows, heq⟩
    walk_at "rd"
    refine ⟨_, rfl, D, _, rfl, .inl (SqL.of hD3), _, rfl, c.ROW_COUNTS, _, _, _, rfl, rfl, T.n_ROW_COUNTS.sq _, atI_nat (j := k) hn1, _, _, rfl, rfl, _, rfl, ?_⟩
    rw [List.length_map, hrl]
    by_cases hlt : j < n
    · rw [if_pos (decide_eq_true (by omega))]
      refine ⟨_, fun _ _ z => z, ?_⟩
      obtain ⟨dx, fs, hP, hl1, hl2⟩ := R.ins hAt3
      have hnj : n - j = (n - j - 1) + 1 := by omega
      rw [hnj] at heq
      have heq2 : R.rowsN n i (b || k == 5) s2 = ((R.row i (b || k == 5) s3).bind fun x => (R.rowsN (n - j - 1) i (b || k == 5) x.2).map fun y => (x.1 :: y.1, y.2)).map fun y => (gs ++ y.1, y.2) := heq
      have call : R.spRow [.ref p, .bl (b || k == 5)] H3 (fun y H4 => ∃ acc, H4 D = some (.lst acc) ∧ acc.length < sizeLine ∧ (∃ m', m' < n - j ∧ ∃ (j : Nat) (rs : List Addr) (gs : List Fmt) (s3 : R.S), m' = n - j ∧ j ≤ n ∧ rs.length = j ∧ True ∧ Beside p H (upd H4 D (.lst (acc ++ [y]))) ∧ (∀ z ∈ D :: Z, (upd H4 D (.lst (acc ++ [y]))) z ≠ none) ∧ R.At (D :: Z) (upd H4 D (.lst (acc ++ [y]))) p s3 ∧ R.pre i s3 ∧ (upd H4 D (.lst (acc ++ [y]))) D = some (.lst (rs.map V.ref)) ∧ Paired (RowAt c (hideZ (D :: Z) (upd H4 D (.lst (acc ++ [y]))))) rs gs ∧ R.rowsN n i (b || k == 5) s2 = (R.rowsN (n - j) i (b || k == 5) s3).map fun y => (gs ++ y.1, y.2))) E := by
        refine ⟨D :: Z, p, i, _, s3, rfl, List.mem_cons_of_mem _ hpZ, hz3, hAt3, hpre3, ?_⟩
        cases hrow : R.row i (b || k == 5) s3 with
        | error e =>
          rw [hrow] at heq2
          rw [heq2] at q2
          exact R.later q2 b3 (R.there hAt3)
        | ok x =>
          obtain ⟨g, s4⟩ := x
          rw [hrow] at heq2
          intro a H4 b4 hAt4 hra
          have hD4 : H4 D = some (.lst (rs.map V.ref)) := beside b4 hD3 (Ne.symm hpD)
          have hs : Same (hideZ (D :: Z) H3) (hideZ (D :: Z) (upd H4 D (.lst (rs.map V.ref ++ [.ref a])))) := fun x o e => (hideZ_upd (List.mem_cons_self ..)) x o ((b4.hide (List.mem_cons_of_mem _ hpZ)) x o e)
          have hs4 : Same (hideZ (D :: Z) H4) (hideZ (D :: Z) (upd H4 D (.lst (rs.map V.ref ++ [.ref a])))) := hideZ_upd (List.mem_cons_self ..)
          have hp4 : upd H4 D (.lst (rs.map V.ref ++ [.ref a])) p ≠ none := by rw [upd_ne hpD]; exact R.there hAt4
          have b5 : Beside p H (upd H4 D (.lst (rs.map V.ref ++ [.ref a]))) := (b3.trans b4).new (b2.free hD (R.there hAt2))
          refine ⟨rs.map V.ref, hD4, szl (by rw [List.length_map]; omega), n - (j + 1), by omega, j + 1, rs ++ [a], gs ++ [g], s4, rfl, hlt, by rw [List.length_append, hrl]; rfl, trivial, b5, ?_, R.mono hAt4 (upd_ne hpD) hs4, R.pre_row hpre3 hrow, ?_, paired_app (Paired.mapR hrows fun _ _ x => x.same hs) (.cons (hra.same hs4) .nil), ?_⟩
          · intro z m
            by_cases e : z = D
            · rw [e, upd_same]
              exact fun z => by cases z
            · rw [upd_ne e]
              exact b4.occ (R.there hAt4) hz3 z m
          · rw [upd_same, List.map_append]
            rfl
          · rw [heq2]
            show Except.map _ (Except.map _ (R.rowsN (n - j - 1) i (b || k == 5) s4)) = Except.map _ (R.rowsN (n - (j + 1)) i (b || k == 5) s4)
            rw [show n - (j + 1) = n - j - 1 by omega, got_mapE]
            congr 1
            funext y
            show (gs ++ (g :: y.1), y.2) = (gs ++ [g] ++ y.1, y.2)
            rw [List.append_assoc]
            rfl
      refine ⟨_, rfl, .inl ⟨rfl, _, SqL.of hD3⟩, _, rfl, p, dx, fs, rfl, hP, hl2, _, rfl, b, rfl, ?_⟩
      cases b with
      | true =>
        rw [if_pos rfl]
        refine R.spRow_mono call fun y H4 ⟨acc, z1, z2, m', z3, j', rs', gs', s5, z4, z5, z6, _, z⟩ => ?_
        exact ⟨D, acc, y, rfl, rfl, z1, z2, m', z3, j', rs', gs', s5, z4, z5, z6, rfl, z⟩
      | false =>
        rw [if_neg Bool.false_ne_true]
        refine ⟨_, rfl, rfl, ?_⟩
        rw [kind5]
        refine R.spRow_mono call fun y H4 ⟨acc, z1, z2, m', z3, j', rs', gs', s5, z4, z5, z6, _, z⟩ => ?_
        exact ⟨D, acc, y, rfl, rfl, z1, z2, m', z3, j', rs', gs', s5, z4, z5, z6, rfl, z⟩
    · rw [if_neg (by rw [decide_eq_false (by omega)]; exact Bool.false_ne_true)]
      obtain rfl : j = n := by omega
      rw [Nat.sub_self] at heq
      have heq2 : R.rowsN j i (b || k == 5) s2 = .ok (gs ++ [], s3) := heq
      rw [heq2, List.append_nil] at q2
      walk_at "rd"
      refine ⟨_, rfl, _, rfl, _, rfl, _, rfl, _, rfl, fun y d1 hy hd1 hne => ⟨y, d1, _, rfl, rfl, upd_same, rfl, ?_⟩⟩
      have mk := made (C := c.Piece) (fs := pcF k ta lo hi D) hy hd1
      have b6 := b3.trans (Beside.of mk.1)
      have hs6 := hideZ_of (Z := Z) mk.1
      have hz' : ∀ z ∈ Z, H3 z ≠ none := fun z m => hz3 z (List.mem_cons_of_mem _ m)
      refine q2 _ _ b6 (R.mono (R.mono hAt3 rfl hideZ_more) ?_ hs6) ?_
      · have := R.there hAt3
        cases e : H3 p with
        | none => exact absurd e this
        | some o => exact mk.1 _ _ e
      · refine ⟨rs, ⟨y, d1, ta, D, rfl, z_new hz' hy mk.2, (b6.hide hpZ) _ _ hta, hs6 _ _ ?_⟩, Paired.mapR hrows fun _ _ x => (x.same hideZ_more).same hs6⟩
        rw [hideZ_ne hDZ]
        exact hD3
end
end FX
end
section
set_option Elab.async false
set_option linter.all false
set_option maxRecDepth 100000
set_option maxHeartbeats 4000000
namespace FX
open PySem PySem.Spec PyProof.Rows L2 FT
open VafmsBase (Fmt)
local macro_rules | `(tactic| walk_at "rd") => `(tactic| try dsimp only [tM1, tMethA, ipI, tAug, tOp, tC, tCB, tCons, tNil, gName, tVar, tAsg, tRet, tIfS, tTest, tB, tNext, tDrop, tFld, tCKw, tCall, tMeth, rI0, rI, CMul, rEq, rNe, rEqD, rNeD, tBM, rAppend, rExtend, rCat, rIn, rIxT, rIxL, tSl, rSlL, tPart, tNoPart, tChain, tUn, rU, tIf, tNot, tOr, tAnd, tOrV, tAndV, tMake, sFld, sFldAug, tLst, tTup, tFault, pad, List.set, List.getElem?_cons_zero, List.getElem?_cons_succ, cxOf, List.map_cons, List.map_nil, List.append_nil, List.cons_append, List.nil_append])
local macro_rules | `(tactic| walk_at "sq") => `(tactic| (refine seq_go ?_; walk_at "rd"))
local macro_rules | `(tactic| walk_at "r0") => `(tactic| (rw [start_pad (by rfl)]; walk_at "rd"))
/-! ### tokens of the specification as the program sees them -/
def kindV : Vafmsa.Tok → Str
  | .word _ => "mark"
  | .sign _ => "mark"
  | .num _ => "numeral"
  | .str _ => "string"
  | .ending => "end"
def markOf : Vafmsa.Tok → Option (List Nat)
  | .word w => some w
  | .sign b => some [b]
  | _ => none
theorem cTok_mark (w : List Nat) : cTok (.mark w) = .word w ∨ ∃ b, w = [b] ∧ cTok (.mark w) = .sign b := by
  match w with
  | [] => exact .inl rfl
  | [b] =>
    show (if isSign b = true then Vafmsa.Tok.sign b else .word [b]) = _ ∨ ∃ x, [b] = [x] ∧ (if isSign b = true then Vafmsa.Tok.sign b else .word [b]) = .sign x
    by_cases h : isSign b = true
    · rw [if_pos h]
      exact .inr ⟨b, rfl, rfl⟩
    · rw [if_neg h]
      exact .inl rfl
  | _ :: _ :: _ => exact .inl rfl
theorem kindV_c (k : Tk) : kindV (cTok k) = kindOf k := by
  match k with
  | .mark w =>
    rcases cTok_mark w with e | ⟨b, _, e⟩
    · rw [e]; rfl
    · rw [e]; rfl
  | .num _ => rfl
  | .str _ => rfl
  | .ending => rfl
theorem markOf_c (w : List Nat) : markOf (cTok (.mark w)) = some w := by
  rcases cTok_mark w with e | ⟨b, e1, e⟩
  · rw [e]; rfl
  · rw [e, e1]; rfl
theorem str_of {a b : List Nat} : ((⟨a.toArray⟩ : Str) = ⟨b.toArray⟩) ↔ a = b := by
  constructor
  · intro h
    have := congrArg (fun s : Str => s.cps.toList) h
    simpa using this
  · intro h
    rw [h]
/-- what reads from a source: pieces read so far, the tokens still to come -/
abbrev SrcS := Nat × Vafmsa.Toks
def rdF (tl : Addr) (i n : Nat) : List (Str × V) := [("tokens", .ref tl), ("at", .int (Int.ofNat i)), ("pieces_read", .int (Int.ofNat n))]
section
variable {tl : Addr} {i n : Nat}
theorem rdF_tokens : (rdF tl i n).lookup ("tokens" : Str) = some (.ref tl) := lk_here
theorem rdF_at : (rdF tl i n).lookup ("at" : Str) = some (.int (Int.ofNat i)) := (lk_past (by decide +kernel)).trans lk_here
theorem rdF_read : (rdF tl i n).lookup ("pieces_read" : Str) = some (.int (Int.ofNat n)) := (lk_past (by decide +kernel)).trans ((lk_past (by decide +kernel)).trans lk_here)
theorem rdF_none {m : Str} (h1 : (m == ("tokens" : Str)) = false) (h2 : (m == ("at" : Str)) = false) (h3 : (m == ("pieces_read" : Str)) = false) : (rdF tl i n).lookup m = none := (lk_past h1).trans ((lk_past h2).trans ((lk_past h3).trans rfl))
theorem rdF_put_at {x : Int} (h : x = Int.ofNat (i + 1)) : putF "at" (.int x) (rdF tl i n) = rdF tl (i + 1) n := by
  rw [h]
  exact (if_neg (by decide +kernel)).trans (congrArg _ (if_pos rfl))
theorem rdF_put_read {x : Int} (h : x = Int.ofNat (n + 1)) : putF "pieces_read" (.int x) (rdF tl i n) = rdF tl i (n + 1) := by
  rw [h]
  exact (if_neg (by decide +kernel)).trans (congrArg _ ((if_neg (by decide +kernel)).trans (congrArg _ (if_pos rfl))))
end
def SrcAt (c : Cs) (Z : List Addr) (H : Hp) (p : Addr) (s : SrcS) : Prop := ∃ (dx tl : Addr) (us : List V) (L : Vafmsa.Toks) (i : Nat), H p = some (.ins c.Reading dx (rdF tl i s.1)) ∧ hideZ Z H tl = some (.lst us) ∧ Paired (TkAt c (hideZ Z H)) us L ∧ s.2 = L.drop i
def FaultAt (c : Cs) (p : Addr) (H : Hp) (e : Vafmsa.Fault) (E : XK) : Prop := ∀ d H', H d = none → Beside p H H' → H' d = some (.xd [("place", .int (Int.ofNat e.place)), ("kind", .int (Int.ofNat e.kind))]) → E (.ref c.Fault) (some d) H'
theorem SrcAt.mono {c : Cs} {Z Z' : List Addr} {H H' : Hp} {p : Addr} {s : SrcS} (h : SrcAt c Z H p s) (e : H' p = H p) (sm : Same (hideZ Z H) (hideZ Z' H')) : SrcAt c Z' H' p s := by
  obtain ⟨dx, tl, us, L, i, h1, h2, h3, h4⟩ := h
  exact ⟨dx, tl, us, L, i, e.trans h1, sm _ _ h2, Paired.mapR h3 fun _ _ x => x.same sm, h4⟩
theorem FaultAt.later {c : Cs} {p : Addr} {H H' : Hp} {e : Vafmsa.Fault} {E : XK} (h : FaultAt c p H e E) (b : Beside p H H') (hp : H' p ≠ none) : FaultAt c p H' e E := fun d H2 hd b2 hx => h d H2 (b.free hd hp) (b.trans b2) hx
theorem SrcAt.there {c : Cs} {Z : List Addr} {H : Hp} {p : Addr} {s : SrcS} (h : SrcAt c Z H p s) : H p ≠ none := by
  obtain ⟨dx, tl, us, L, i, h1, _⟩ := h
  rw [h1]
  exact fun z => by cases z
section
variable {P : Program} {w : World} {K : PySem.W.Frag} {mg : Str → Option Value} {base : Heap} {c : Cs}
theorem tkF_kind {k told pl b : V} : List.lookup ("kind" : Str) [("kind", k), ("told", told), ("place", pl), ("behind", b)] = some k := lk_here
theorem tkF_told {k told pl b : V} : List.lookup ("told" : Str) [("kind", k), ("told", told), ("place", pl), ("behind", b)] = some told := (lk_past (by decide +kernel)).trans lk_here
theorem tkF_place {k told pl b : V} : List.lookup ("place" : Str) [("kind", k), ("told", told), ("place", pl), ("behind", b)] = some pl := (lk_past (by decide +kernel)).trans ((lk_past (by decide +kernel)).trans lk_here)
/-- a token as an object -/
theorem TkAt.open {H : Hp} {v : V} {t : Vafmsa.Token} (h : TkAt c H v t) : ∃ (q dx : Addr) (told bh : V), v = .ref q ∧ H q = some (.ins c.Token dx [("kind", .str (kindV t.tok)), ("told", told), ("place", .int (Int.ofNat t.place)), ("behind", bh)]) ∧
    (∀ w, markOf t.tok = some w → told = .str ⟨w.toArray⟩) ∧ (∀ n, t.tok = .num n → told = .int (Int.ofNat n)) ∧ (∀ x, t.tok = .str x → TxtAt H told x) := by
  obtain ⟨_, k, b, ⟨q, dx, told, e, h1, h2⟩, h3⟩ := h
  refine ⟨q, dx, told, .int (Int.ofNat b), e, ?_, ?_, ?_, ?_⟩
  · rw [← h3, kindV_c]
    exact h1
  · intro w hw
    rw [← h3] at hw
    match k, h2, hw with
    | .mark w', h2, hw =>
      rw [markOf_c] at hw
      obtain rfl := Option.some.inj hw
      exact h2
    | .num _, _, hw => cases hw
    | .str _, _, hw => cases hw
    | .ending, _, hw => cases hw
  · intro n hn
    rw [← h3] at hn
    match k, h2, hn with
    | .mark w', h2, hn => rcases cTok_mark w' with e | ⟨b, _, e⟩ <;> (rw [e] at hn; cases hn)
    | .num _, h2, hn =>
      injection hn with hn
      rw [← hn]
      exact h2
    | .str _, _, hn => cases hn
    | .ending, _, hn => cases hn
  · intro n hn
    rw [← h3] at hn
    match k, h2, hn with
    | .mark w', h2, hn => rcases cTok_mark w' with e | ⟨b, _, e⟩ <;> (rw [e] at hn; cases hn)
    | .num _, h2, hn => cases hn
    | .str _, h2, hn =>
      injection hn with hn
      rw [← hn]
      exact h2
    | .ending, _, hn => cases hn
theorem kindV_mark (t : Vafmsa.Tok) : decide (V.str (kindV t) = V.str "mark") = (markOf t).isSome := by
  cases t with
  | word w => exact (by decide +kernel : decide (V.str "mark" = V.str "mark") = true)
  | sign b => exact (by decide +kernel : decide (V.str "mark" = V.str "mark") = true)
  | num n => exact (by decide +kernel : decide (V.str "numeral" = V.str "mark") = false)
  | str x => exact (by decide +kernel : decide (V.str "string" = V.str "mark") = false)
  | ending => exact (by decide +kernel : decide (V.str "end" = V.str "mark") = false)
/-! ### is_mark -/
def spIsMark (c : Cs) : Sp := fun vs H Q _ => ∃ (v : V) (t : Vafmsa.Token) (w : List Nat), vs = [v, .str ⟨w.toArray⟩] ∧ TkAt c H v t ∧ Q (.bl (decide (markOf t.tok = some w))) H
theorem sc_is_mark : FnScope ["token", "told"] ["token", "told"] (defScope (topS 109)) := ⟨rfl, rfl, rfl, by decide +kernel, rfl, by decide +kernel, by decide +kernel⟩
theorem d_is_mark (T : Top K mg c) : DefOk P w K mg base CX0 1 "is_mark" (spIsMark c) := T.a_is_mark.ok fun f fd F => by
  refine F.ok sc_is_mark (fun vs H Q E h => ?_) (fun cdv A outer s H vs Q E hr h => ⟨_, (pss_one (ps_ret (pe_and (pe_cmpR op_eq (pe_fld (pv 0) rfl) (pe_txt T.n_MARK) (nomark _)) (pe_one (pe_cmpR op_eq (pe_fld (pv 0) rfl) (pv 1) (nomark _)))))), ?_⟩)
  · obtain ⟨v, t, w, rfl, _⟩ := h
    rfl
  · obtain ⟨v, t, w, rfl, ht, q⟩ := h
    obtain ⟨qt, dx, told, bh, rfl, hq, m1, _⟩ := ht.open
    walk_at "r0"
    refine ⟨_, rfl, qt, c.Token, dx, _, _, rfl, hq, T.c_Token.cl, T.c_Token.na _ (by simp), tkF_kind, rfl, _, rfl, ?_⟩
    rw [kindV_mark]
    cases hm : markOf t.tok with
    | none =>
      rw [hm] at q
      rw [if_neg (by decide)]
      rw [decide_eq_false (fun z => by cases z)] at q
      exact q
    | some w' =>
      rw [hm] at q
      rw [if_pos (by rfl)]
      refine ⟨_, rfl, qt, c.Token, dx, _, _, rfl, hq, T.c_Token.cl, T.c_Token.na _ (by simp), tkF_told, _, rfl, ?_⟩
      rw [m1 w' hm]
      refine ⟨rfl, ?_⟩
      have e : decide (V.str ⟨w'.toArray⟩ = V.str ⟨w.toArray⟩) = decide (some w' = some w) := by
        rw [Bool.eq_iff_iff, decide_eq_true_iff, decide_eq_true_iff]
        constructor
        · intro z
          injection z with z
          rw [str_of.mp z]
        · intro z
          rw [Option.some.inj z]
      rw [e]
      exact q
end
end FX
end
section
set_option Elab.async false
set_option linter.all false
set_option maxRecDepth 100000
set_option maxHeartbeats 4000000
namespace FX
open PySem PySem.Spec PyProof.Rows L2 FT
open VafmsBase (Fmt)
local macro_rules | `(tactic| walk_at "rd") => `(tactic| try dsimp only [tM1, tMethA, ipI, tAug, tOp, tC, tCB, tCons, tNil, gName, tVar, tAsg, tRet, tIfS, tTest, tB, tNext, tDrop, tFld, tCKw, tCall, tMeth, rI0, rI, CMul, rEq, rNe, rEqD, rNeD, tBM, rAppend, rExtend, rCat, rIn, rIxT, rIxL, tSl, rSlL, tPart, tNoPart, tChain, tUn, rU, tIf, tNot, tOr, tAnd, tOrV, tAndV, tMake, sFld, sFldAug, tLst, tTup, tFault, pad, List.set, List.getElem?_cons_zero, List.getElem?_cons_succ, cxOf, List.map_cons, List.map_nil, List.append_nil, List.cons_append, List.nil_append])
local macro_rules | `(tactic| walk_at "sq") => `(tactic| (refine seq_go ?_; walk_at "rd"))
local macro_rules | `(tactic| walk_at "r0") => `(tactic| (rw [start_pad (by rfl)]; walk_at "rd"))
/-! ### which piece a token begins -/
def kwIdx (w : List Nat) : Option Nat := if w = Vafmsa.word "num" then some 1 else if w = Vafmsa.word "word" then some 2 else if w = Vafmsa.word "alt" then some 3 else if w = Vafmsa.word "opt" then some 4 else if w = Vafmsa.word "rep" then some 5 else none
def kindBegun : Vafmsa.Tok → Option Nat
  | .str _ => some 0
  | t => (markOf t).bind kwIdx
def optV : Option Nat → V
  | none => .non
  | some k => .int (k : Int)
abbrev kwStrs : List Str := ["", "num", "word", "alt", "opt", "rep"]
theorem word_str (z : String) : (⟨(Vafmsa.word z).toArray⟩ : Str) = Str.ofString z → True := fun _ => trivial
theorem e_num : Str.ofString "num" = ⟨(Vafmsa.word "num").toArray⟩ := by decide +kernel
theorem e_word : Str.ofString "word" = ⟨(Vafmsa.word "word").toArray⟩ := by decide +kernel
theorem e_alt : Str.ofString "alt" = ⟨(Vafmsa.word "alt").toArray⟩ := by decide +kernel
theorem e_opt : Str.ofString "opt" = ⟨(Vafmsa.word "opt").toArray⟩ := by decide +kernel
theorem e_rep : Str.ofString "rep" = ⟨(Vafmsa.word "rep").toArray⟩ := by decide +kernel
theorem e_nil : Str.ofString "" = ⟨([] : List Nat).toArray⟩ := by decide +kernel
/-- where the word stands in the tuple -/
theorem kw_at {w : List Nat} (hw : w ≠ []) : match kwIdx w with
    | none => ∀ z ∈ kwStrs, z ≠ ⟨w.toArray⟩
    | some k => k ≤ 5 ∧ kwStrs[k]? = some ⟨w.toArray⟩ ∧ ∀ m, m < k → kwStrs[m]? ≠ some ⟨w.toArray⟩ := by
  have n0 : Str.ofString "" ≠ ⟨w.toArray⟩ := fun z => hw (by rw [e_nil] at z; exact (str_of.mp z).symm)
  unfold kwIdx
  by_cases h1 : w = Vafmsa.word "num"
  · rw [if_pos h1]
    subst h1
    exact ⟨by decide, by decide +kernel, fun m hm => by
      have : m = 0 := by omega
      subst this; decide +kernel⟩
  rw [if_neg h1]
  by_cases h2 : w = Vafmsa.word "word"
  · rw [if_pos h2]
    subst h2
    exact ⟨by decide, by decide +kernel, fun m hm => by
      have : m = 0 ∨ m = 1 := by omega
      rcases this with rfl | rfl <;> decide +kernel⟩
  rw [if_neg h2]
  by_cases h3 : w = Vafmsa.word "alt"
  · rw [if_pos h3]
    subst h3
    exact ⟨by decide, by decide +kernel, fun m hm => by
      have : m = 0 ∨ m = 1 ∨ m = 2 := by omega
      rcases this with rfl | rfl | rfl <;> decide +kernel⟩
  rw [if_neg h3]
  by_cases h4 : w = Vafmsa.word "opt"
  · rw [if_pos h4]
    subst h4
    exact ⟨by decide, by decide +kernel, fun m hm => by
      have : m = 0 ∨ m = 1 ∨ m = 2 ∨ m = 3 := by omega
      rcases this with rfl | rfl | rfl | rfl <;> decide +kernel⟩
  rw [if_neg h4]
  by_cases h5 : w = Vafmsa.word "rep"
  · rw [if_pos h5]
    subst h5
    exact ⟨by decide, by decide +kernel, fun m hm => by
      have : m = 0 ∨ m = 1 ∨ m = 2 ∨ m = 3 ∨ m = 4 := by omega
      rcases this with rfl | rfl | rfl | rfl | rfl <;> decide +kernel⟩
  rw [if_neg h5]
  intro z hz e
  subst e
  simp only [List.mem_cons, List.not_mem_nil, or_false] at hz
  rcases hz with e | e | e | e | e | e
  · exact n0 e.symm
  · rw [e_num] at e; exact h1 (str_of.mp e)
  · rw [e_word] at e; exact h2 (str_of.mp e)
  · rw [e_alt] at e; exact h3 (str_of.mp e)
  · rw [e_opt] at e; exact h4 (str_of.mp e)
  · rw [e_rep] at e; exact h5 (str_of.mp e)
theorem inV_strs (z : Str) (l : List Str) : inV (.str z) (l.map V.str) = l.any (fun y => y == z) := by
  unfold inV
  rw [List.any_map]
  rfl
section
variable {P : Program} {w : World} {K : PySem.W.Frag} {mg : Str → Option Value} {base : Heap} {c : Cs}
def spKindBegun (c : Cs) : Sp := fun vs H Q _ => ∃ (v : V) (t : Vafmsa.Token), vs = [v] ∧ TkAt c H v t ∧ Q (optV (kindBegun t.tok)) H
def isStr : Vafmsa.Tok → Bool
  | .str _ => true
  | _ => false
theorem kindV_str (t : Vafmsa.Tok) : decide (V.str (kindV t) = V.str "string") = isStr t := by
  cases t with
  | word w => exact (by decide +kernel : decide (V.str "mark" = V.str "string") = false)
  | sign b => exact (by decide +kernel : decide (V.str "mark" = V.str "string") = false)
  | num n => exact (by decide +kernel : decide (V.str "numeral" = V.str "string") = false)
  | str x => exact (by decide +kernel : decide (V.str "string" = V.str "string") = true)
  | ending => exact (by decide +kernel : decide (V.str "end" = V.str "string") = false)
theorem sc_kind_begun : FnScope ["token"] ["token"] (defScope (topS 110)) := ⟨rfl, rfl, rfl, by decide +kernel, rfl, by decide +kernel, by decide +kernel⟩
theorem d_kind_begun (T : Top K mg c) : DefOk P w K mg base CX0 1 "kind_begun" (spKindBegun c) := T.a_kind_begun.ok fun f fd F => by
  refine F.ok sc_kind_begun (fun vs H Q E h => ?_) (fun cdv A outer s H vs Q E hr h => ⟨_, (pss_cons (ps_if (pt_cmpR op_eq (pe_fld (pv 0) rfl) (pe_txt T.n_STRING) (nomark _))
 (pss_one (ps_ret (pe_num T.n_LITERAL)))
 pss_nil)
 (pss_cons (ps_if (PW.pt (pw_and (pt_cmpR op_eq (pe_fld (pv 0) rfl) (pe_txt T.n_MARK) (nomark _)) (pw_and1 (pt_cmpR op_in_seq (pe_fld (pv 0) rfl) (pe_tab T.n_KIND_WORDS) (by rfl)))))
 (pss_one (ps_ret (pe_bm PySem.F.plainAttrs_tuple PySem.F.slot_tuple_index PySem.F.type_tuple_index mt_tup_index (pe_tab T.n_KIND_WORDS) (pa_cons (pe_fld (pv 0) rfl) pa_nil))))
 pss_nil)
 (pss_one (ps_ret pe_non)))), ?_⟩)
  · obtain ⟨v, t, rfl, _⟩ := h
    rfl
  · obtain ⟨v, t, rfl, ht, q⟩ := h
    obtain ⟨qt, dx, told, bh, rfl, hq, m1, _, m3⟩ := ht.open
    have hok := ht.1
    walk_at "r0"
    walk_at "sq"
    refine ⟨_, rfl, qt, c.Token, dx, _, _, rfl, hq, T.c_Token.cl, T.c_Token.na _ (by simp), tkF_kind, rfl, _, rfl, ?_⟩
    rw [kindV_str]
    obtain ⟨tp, tt⟩ := t
    dsimp only at *
    have step : ∀ w, markOf tt = some w → w ≠ [] := fun w hw z => by
      subst z
      cases tt with
      | word w' => injection hw with hw; exact hok.1 (by rw [hw])
      | sign b => injection hw with hw; cases hw
      | num _ => cases hw
      | str _ => cases hw
      | ending => cases hw
    have rest : (∀ x, tt ≠ .str x) → kindBegun tt = (markOf tt).bind kwIdx := fun hn => by
      cases tt with
      | str x => exact absurd rfl (hn x)
      | _ => rfl
    by_cases hs : ∃ x, tt = .str x
    · obtain ⟨x, rfl⟩ := hs
      rw [if_pos (by rfl)]
      exact q
    · have hs' : ∀ x, tt ≠ .str x := fun x e => hs ⟨x, e⟩
      have ef : isStr tt = false := by
        cases tt with
        | str x => exact absurd rfl (hs' x)
        | _ => rfl
      rw [ef, if_neg Bool.false_ne_true]
      rw [rest hs'] at q
      walk_at "sq"
      refine ⟨_, rfl, qt, c.Token, dx, _, _, rfl, hq, T.c_Token.cl, T.c_Token.na _ (by simp), tkF_kind, rfl, _, rfl, ?_⟩
      rw [kindV_mark]
      cases hm : markOf tt with
      | none =>
        rw [hm] at q
        rw [if_neg (by decide), if_neg Bool.false_ne_true]
        exact q
      | some w' =>
        rw [hm] at q
        rw [if_pos (by rfl)]
        have hk := kw_at (step w' hm)
        refine ⟨_, rfl, qt, c.Token, dx, _, _, rfl, hq, T.c_Token.cl, T.c_Token.na _ (by simp), tkF_told, c.KIND_WORDS, _, rfl, .inr (T.n_KIND_WORDS.sq _), by rw [m1 w' hm]; rfl, rfl, _, rfl, ?_⟩
        rw [m1 w' hm]
        have ein : inV (.str ⟨w'.toArray⟩) (kwStrs.map V.str) = (kwIdx w').isSome := by
          rw [inV_strs]
          cases e : kwIdx w' with
          | none =>
            rw [e] at hk
            exact List.any_eq_false.mpr fun z hz => by simpa using hk z hz
          | some k =>
            rw [e] at hk
            exact List.any_eq_true.mpr ⟨_, List.mem_of_getElem? hk.2.1, beq_self_eq_true _⟩
        have ein2 : inV (.str ⟨w'.toArray⟩) [.str "", .str "num", .str "word", .str "alt", .str "opt", .str "rep"] = (kwIdx w').isSome := ein
        rw [ein2]
        have q2 : Q (optV (kwIdx w')) H := q
        cases e : kwIdx w' with
        | none =>
          rw [e] at q2
          rw [if_neg (by decide)]
          exact q2
        | some k =>
          rw [e] at hk q2
          rw [if_pos (by rfl)]
          exact ⟨.inr (.inl ⟨rfl, T.n_KIND_WORDS.ob⟩), _, rfl, qt, c.Token, dx, _, _, rfl, hq, T.c_Token.cl, T.c_Token.na _ (by simp), tkF_told, c.KIND_WORDS, kwStrs, ⟨w'.toArray⟩, k, rfl, by rw [m1 w' hm], T.n_KIND_WORDS.sq _, hk.2.1, hk.2.2, q2⟩
/-! ### taking tokens -/
theorem SrcAt.head {Z : List Addr} {H : Hp} {p : Addr} {n : Nat} {t : Vafmsa.Token} {r : Vafmsa.Toks} (h : SrcAt c Z H p (n, t :: r)) : ∃ (dx tl : Addr) (us : List V) (L : Vafmsa.Toks) (i : Nat) (v : V), H p = some (.ins c.Reading dx (rdF tl i n)) ∧ hideZ Z H tl = some (.lst us) ∧ Paired (TkAt c (hideZ Z H)) us L ∧ r = L.drop (i + 1) ∧ us[i]? = some v ∧ TkAt c (hideZ Z H) v t := by
  obtain ⟨dx, tl, us, L, i, h1, h2, h3, h4⟩ := h
  have hL : L[i]? = some t := by
    have := congrArg List.head? h4
    rw [List.head?_drop] at this
    exact this.symm
  have hil := (List.getElem?_eq_some_iff.mp hL).1
  have hlen : us.length = L.length := h3.length
  have hv : us[i]? = some (us[i]'(by omega)) := List.getElem?_eq_getElem (by omega)
  obtain ⟨t', ht', hT⟩ := Paired.at h3 hv
  rw [hL] at ht'
  obtain rfl := Option.some.inj ht'
  refine ⟨dx, tl, us, L, i, _, h1, h2, h3, ?_, hv, hT⟩
  have h5 : t :: r = L.drop i := h4
  rw [List.drop_eq_getElem_cons hil] at h5
  injection h5
def spNextIs (c : Cs) : Sp := fun vs H Q _ => ∃ (Z : List Addr) (p : Addr) (n : Nat) (t : Vafmsa.Token) (r : Vafmsa.Toks) (z : Str), vs = [.ref p, .str z] ∧ SrcAt c Z H p (n, t :: r) ∧ Q (.bl (decide (kindV t.tok = z))) H
theorem sc_Reading_next_is : FnScope ["self", "kind"] ["self", "kind"] (defScope (inClass (topS 108) 1)) := ⟨rfl, rfl, rfl, by decide +kernel, rfl, by decide +kernel, by decide +kernel⟩
theorem d_Reading_next_is (T : Top K mg c) : MethOk P w K mg base CX0 1 c.Reading "next_is" (spNextIs c) := T.m_Reading_next_is.ok T.c_Reading.cl fun f fd F => by
  refine F.ok sc_Reading_next_is (fun vs H Q E h => ?_) (fun cdv A outer s H vs Q E hr h => ⟨_, (pss_one (ps_ret (pe_cmpR op_eq (pe_fld (pe_ix ix_list (pe_fld (pv 0) rfl) (pe_fld (pv 0) rfl) (fun _ _ => rfl)) rfl) (pv 1) (nomark _)))), ?_⟩)
  · obtain ⟨Z, p, n, t, r, z, rfl, _⟩ := h
    rfl
  · obtain ⟨Z, p, n, t, r, z, rfl, hA, q⟩ := h
    obtain ⟨dx, tl, us, L, i, v, hP, hTl, hus, hr2, hv, hT⟩ := hA.head
    obtain ⟨qt, dq, told, bh, rfl, hq, m1, _⟩ := (hT.same hideZ_same).open
    walk_at "r0"
    refine ⟨_, rfl, p, c.Reading, dx, _, _, rfl, hP, T.c_Reading.cl, T.c_Reading.na _ (by simp), rdF_tokens, _, rfl, p, c.Reading, dx, _, _, rfl, hP, T.c_Reading.cl, T.c_Reading.na _ (by simp), rdF_at, tl, _, _, _, rfl, rfl, SqL.of (hideZ_same _ _ hTl), atI_nat (j := i) hv, qt, c.Token, dq, _, _, rfl, hq, T.c_Token.cl, T.c_Token.na _ (by simp), tkF_kind, _, rfl, rfl, ?_⟩
    have e : decide (V.str (kindV t.tok) = V.str z) = decide (kindV t.tok = z) := by
      rw [Bool.eq_iff_iff, decide_eq_true_iff, decide_eq_true_iff]
      exact ⟨fun e => by injection e, fun e => by rw [e]⟩
    rw [e]
    exact q
def GivesTk (c : Cs) (Z : List Addr) (H : Hp) (p : Addr) (s : SrcS) (t : Vafmsa.Token) (Q : VK) : Prop := ∀ v H', Beside p H H' → SrcAt c Z H' p s → TkAt c (hideZ Z H') v t → Q v H'
def spTake (c : Cs) : Sp := fun vs H Q _ => ∃ (Z : List Addr) (p : Addr) (n : Nat) (t : Vafmsa.Token) (r : Vafmsa.Toks), vs = [.ref p] ∧ p ∈ Z ∧ SrcAt c Z H p (n, t :: r) ∧ GivesTk c Z H p (n, r) t Q
theorem sc_Reading_take : FnScope ["self", "token"] ["self"] (defScope (inClass (topS 108) 2)) := ⟨rfl, rfl, rfl, by decide +kernel, rfl, by decide +kernel, by decide +kernel⟩
theorem d_Reading_take (T : Top K mg c) : MethOk P w K mg base CX0 1 c.Reading "take" (spTake c) := T.m_Reading_take.ok T.c_Reading.cl fun f fd F => by
  refine F.ok sc_Reading_take (fun vs H Q E h => ?_) (fun cdv A outer s H vs Q E hr h => ⟨_, (pss_cons (ps_set (i := 1) sc_Reading_take.nd rfl (.inl rfl) (pe_ix ix_list (pe_fld (pv 0) rfl) (pe_fld (pv 0) rfl) (fun _ _ => rfl)))
 (pss_cons (ps_fldaug (pv 0) pe_int in_add)
 (pss_one (ps_ret (pv 1))))), ?_⟩)
  · obtain ⟨Z, p, n, t, r, rfl, _⟩ := h
    rfl
  · obtain ⟨Z, p, n, t, r, rfl, hpZ, hA, q⟩ := h
    obtain ⟨dx, tl, us, L, i, v, hP, hTl, hus, hr2, hv, hT⟩ := hA.head
    walk_at "r0"
    walk_at "sq"
    refine ⟨_, rfl, p, c.Reading, dx, _, _, rfl, hP, T.c_Reading.cl, T.c_Reading.na _ (by simp), rdF_tokens, _, rfl, p, c.Reading, dx, _, _, rfl, hP, T.c_Reading.cl, T.c_Reading.na _ (by simp), rdF_at, tl, _, _, _, rfl, rfl, SqL.of (hideZ_same _ _ hTl), atI_nat (j := i) hv, ?_⟩
    walk_at "sq"
    refine ⟨_, rfl, p, c.Reading, dx, _, _, rfl, hP, T.c_Reading.cl, T.c_Reading.na _ (by simp), rdF_at, ?_⟩
    refine ⟨_, _, rfl, rfl, dx, _, hP, (by show 3 < 1000; decide), ?_⟩
    walk_at "rd"
    rw [rdF_put_at (i := i) (n := n) (x := Int.ofNat i + 1) rfl]
    have hb : Beside p H (upd H p (.ins c.Reading dx (rdF tl (i + 1) n))) := Beside.upd
    refine ⟨_, rfl, q _ _ hb ⟨dx, tl, us, L, i + 1, upd_same, (hb.hide hpZ) _ _ hTl, Paired.mapR hus fun _ _ x => x.same (hb.hide hpZ), hr2⟩ (hT.same (hb.hide hpZ))⟩
end
end FX
end
section
set_option Elab.async false
set_option linter.all false
set_option maxRecDepth 100000
set_option maxHeartbeats 4000000
namespace FX
open PySem PySem.Spec PyProof.Rows L2 FT
open VafmsBase (Fmt)
local macro_rules | `(tactic| walk_at "rd") => `(tactic| try dsimp only [tM1, tMethA, ipI, tAug, tOp, tC, tCB, tCons, tNil, gName, tVar, tAsg, tRet, tIfS, tTest, tB, tNext, tDrop, tFld, tCKw, tCall, tMeth, rI0, rI, CMul, rEq, rNe, rEqD, rNeD, tBM, rAppend, rExtend, rCat, rIn, rIxT, rIxL, tSl, rSlL, tPart, tNoPart, tChain, tUn, rU, tIf, tNot, tOr, tAnd, tOrV, tAndV, tMake, sFld, sFldAug, tLst, tTup, tFault, pad, List.set, List.getElem?_cons_zero, List.getElem?_cons_succ, cxOf, List.map_cons, List.map_nil, List.append_nil, List.cons_append, List.nil_append])
local macro_rules | `(tactic| walk_at "sq") => `(tactic| (refine seq_go ?_; walk_at "rd"))
local macro_rules | `(tactic| walk_at "r0") => `(tactic| (rw [start_pad (by rfl)]; walk_at "rd"))
section
variable {P : Program} {w : World} {K : PySem.W.Frag} {mg : Str → Option Value} {base : Heap} {c : Cs}
theorem mono_fldv {K : PySem.W.Frag} {f : Str} {i : Nat} {σ : L2.St} {H : Hp} {Q Q' : VK} (m : ∀ v H', Q v H' → Q' v H') (h : tFld K (tVar i) f σ H Q) : tFld K (tVar i) f σ H Q' := by
  obtain ⟨v, e, a, C, dx, fs, u, h1, h2, h3, h4, h5, q⟩ := h
  exact ⟨v, e, a, C, dx, fs, u, h1, h2, h3, h4, h5, m _ _ q⟩
theorem FaultAt.raise {p : Addr} {H : Hp} {e : Vafmsa.Fault} {E : XK} (h : FaultAt c p H e E) : ∀ d H', H d = none → Same H H' → H' d = some (.xd [("place", .int (Int.ofNat e.place)), ("kind", .int (Int.ofNat e.kind))]) → E (.ref c.Fault) (some d) H' := fun d H' h1 h2 h3 => h d H' h1 (Beside.of h2) h3
/-- a token of a kind -/
def spTakeKind (c : Cs) : Sp := fun vs H Q E => ∃ (Z : List Addr) (p : Addr) (n : Nat) (t : Vafmsa.Token) (r : Vafmsa.Toks) (z : Str), vs = [.ref p, .str z] ∧ p ∈ Z ∧ SrcAt c Z H p (n, t :: r) ∧ (kindV t.tok = z → GivesTk c Z H p (n, r) t Q) ∧ (kindV t.tok ≠ z → FaultAt c p H ⟨2, t.place⟩ E)
theorem sc_Reading_take_kind : FnScope ["self", "kind", "token"] ["self", "kind"] (defScope (inClass (topS 108) 3)) := ⟨rfl, rfl, rfl, by decide +kernel, rfl, by decide +kernel, by decide +kernel⟩
theorem d_Reading_take_kind (T : Top K mg c) : MethOk P w K mg base (L2.CX P w) 3 c.Reading "take_kind" (spTakeKind c) := T.m_Reading_take_kind.ok T.c_Reading.cl fun f fd F => by
  refine F.okX sc_Reading_take_kind (fun vs H Q E h => ?_) (fun cdv A outer s H vs Q E hr h => ⟨_, (pss_cons (ps_set (i := 2) sc_Reading_take_kind.nd rfl (.inl rfl) (pmeth0 (d_Reading_take T) (hr.mono (by omega)) pass0 (pv 0)))
 (pss_cons (ps_if (pt_cmpR op_ne (pe_fld (pv 2) rfl) (pv 1) (nomark _))
 (pss_one (ps_raise rfl (takes_of rfl rfl rfl rfl) (by exact pmk_fault T (hr.mono (by omega)) (pa_cons (pe_num T.n_OUT_OF_PLACE) (pa_cons (pe_fld (pv 2) rfl) pa_nil)) (mono_two fun _ _ _ _ m h => mono_fldv m h))))
 pss_nil)
 (pss_one (ps_ret (pv 2))))), ?_⟩)
  · obtain ⟨Z, p, n, t, r, z, rfl, _⟩ := h
    rfl
  · obtain ⟨Z, p, n, t, r, z, rfl, hpZ, hA, q1, q2⟩ := h
    obtain ⟨dx, tl, us, L, i, v, hP, _⟩ := hA.head
    walk_at "r0"
    walk_at "sq"
    refine ⟨_, rfl, p, dx, _, rfl, hP, rdF_none (by decide +kernel) (by decide +kernel) (by decide +kernel), Z, p, n, t, r, rfl, hpZ, hA, fun v H1 b1 hA1 hT => ?_⟩
    obtain ⟨qt, dq, told, bh, rfl, hq, m1, _⟩ := (hT.same hideZ_same).open
    walk_at "sq"
    refine ⟨_, rfl, qt, c.Token, dq, _, _, rfl, hq, T.c_Token.cl, T.c_Token.na _ (by simp), tkF_kind, _, rfl, rfl, _, rfl, ?_⟩
    by_cases hk : kindV t.tok = z
    · rw [decide_eq_true (by rw [hk])]
      rw [if_neg (by decide)]
      exact ⟨_, rfl, q1 hk _ _ b1 hA1 hT⟩
    · rw [decide_eq_false (fun e => hk (by injection e))]
      rw [if_pos (by rfl)]
      exact ⟨_, rfl, qt, c.Token, dq, _, _, rfl, hq, T.c_Token.cl, T.c_Token.na _ (by simp), tkF_place, 2, t.place, rfl, ((q2 hk).later b1 hA1.there).raise⟩
/-- a mark -/
def spTakeMark (c : Cs) : Sp := fun vs H Q E => ∃ (Z : List Addr) (p : Addr) (n : Nat) (t : Vafmsa.Token) (r : Vafmsa.Toks) (x : List Nat), vs = [.ref p, .str ⟨x.toArray⟩] ∧ p ∈ Z ∧ SrcAt c Z H p (n, t :: r) ∧ (markOf t.tok = some x → ∀ H', Beside p H H' → SrcAt c Z H' p (n, r) → Q (.int (Int.ofNat t.place)) H') ∧ (markOf t.tok ≠ some x → FaultAt c p H ⟨2, t.place⟩ E)
theorem sc_Reading_take_mark : FnScope ["self", "told", "token"] ["self", "told"] (defScope (inClass (topS 108) 4)) := ⟨rfl, rfl, rfl, by decide +kernel, rfl, by decide +kernel, by decide +kernel⟩
theorem d_Reading_take_mark (T : Top K mg c) : MethOk P w K mg base (L2.CX P w) 3 c.Reading "take_mark" (spTakeMark c) := T.m_Reading_take_mark.ok T.c_Reading.cl fun f fd F => by
  refine F.okX sc_Reading_take_mark (fun vs H Q E h => ?_) (fun cdv A outer s H vs Q E hr h => ⟨_, (pss_cons (ps_set (i := 2) sc_Reading_take_mark.nd rfl (.inl rfl) (pmeth0 (d_Reading_take T) (hr.mono (by omega)) pass0 (pv 0)))
 (pss_cons (ps_if (pt_not (pt_val (pcall (d_is_mark T) (hr.mono (by omega)) pass0 (pa_cons (pv 2) (pa_cons (pv 1) pa_nil)))))
 (pss_one (ps_raise rfl (takes_of rfl rfl rfl rfl) (by exact pmk_fault T (hr.mono (by omega)) (pa_cons (pe_num T.n_OUT_OF_PLACE) (pa_cons (pe_fld (pv 2) rfl) pa_nil)) (mono_two fun _ _ _ _ m h => mono_fldv m h))))
 pss_nil)
 (pss_one (ps_ret (pe_fld (pv 2) rfl))))), ?_⟩)
  · obtain ⟨Z, p, n, t, r, z, rfl, _⟩ := h
    rfl
  · obtain ⟨Z, p, n, t, r, z, rfl, hpZ, hA, q1, q2⟩ := h
    obtain ⟨dx, tl, us, L, i, v, hP, _⟩ := hA.head
    walk_at "r0"
    walk_at "sq"
    refine ⟨_, rfl, p, dx, _, rfl, hP, rdF_none (by decide +kernel) (by decide +kernel) (by decide +kernel), Z, p, n, t, r, rfl, hpZ, hA, fun v H1 b1 hA1 hT => ?_⟩
    have hT' := hT.same hideZ_same
    obtain ⟨qt, dq, told, bh, rfl, hq, m1, _⟩ := hT'.open
    walk_at "sq"
    refine ⟨_, rfl, _, rfl, _, t, z, rfl, hT', _, rfl, ?_⟩
    by_cases hk : markOf t.tok = some z
    · rw [decide_eq_true hk, if_neg (by decide)]
      exact ⟨_, rfl, qt, c.Token, dq, _, _, rfl, hq, T.c_Token.cl, T.c_Token.na _ (by simp), tkF_place, q1 hk _ b1 hA1⟩
    · rw [decide_eq_false hk, if_pos (by rfl)]
      exact ⟨_, rfl, qt, c.Token, dq, _, _, rfl, hq, T.c_Token.cl, T.c_Token.na _ (by simp), tkF_place, 2, t.place, rfl, ((q2 hk).later b1 hA1.there).raise⟩
/-- a bound -/
def GivesNum (c : Cs) (Z : List Addr) (H : Hp) (p : Addr) (n : Nat) (r : Vafmsa.Got (Nat × Vafmsa.Toks)) (Q : VK) (E : XK) : Prop := match r with
  | .error e => FaultAt c p H e E
  | .ok (v, l) => ∀ H', Beside p H H' → SrcAt c Z H' p (n, l) → Q (.int (Int.ofNat v)) H'
def spReadBound (c : Cs) : Sp := fun vs H Q E => ∃ (Z : List Addr) (p : Addr) (lo n : Nat) (t : Vafmsa.Token) (r : Vafmsa.Toks), vs = [.ref p, .int (Int.ofNat lo)] ∧ p ∈ Z ∧ SrcAt c Z H p (n, t :: r) ∧ GivesNum c Z H p n (Vafmsa.takeNum lo 4 (t :: r)) Q E
theorem takeNum_no {t : Vafmsa.Token} {r : Vafmsa.Toks} {lo hi : Nat} (h : ∀ n, t.tok ≠ .num n) : Vafmsa.takeNum lo hi (t :: r) = .error ⟨2, t.place⟩ := by
  obtain ⟨pl, tk⟩ := t
  cases tk with
  | num n => exact absurd rfl (h n)
  | _ => rfl
theorem takeNum_yes {t : Vafmsa.Token} {r : Vafmsa.Toks} {lo hi n : Nat} (h : t.tok = .num n) : Vafmsa.takeNum lo hi (t :: r) = if lo ≤ n ∧ n ≤ hi then .ok (n, r) else .error ⟨3, t.place⟩ := by
  obtain ⟨pl, tk⟩ := t
  dsimp only at h
  subst h
  rfl
theorem kindV_num {t : Vafmsa.Tok} : kindV t = "numeral" ↔ ∃ n, t = .num n := by
  cases t with
  | word w => exact ⟨fun e => absurd e (by show (Str.ofString "mark") ≠ _; decide +kernel), fun ⟨n, e⟩ => by cases e⟩
  | sign w => exact ⟨fun e => absurd e (by show (Str.ofString "mark") ≠ _; decide +kernel), fun ⟨n, e⟩ => by cases e⟩
  | num n => exact ⟨fun _ => ⟨n, rfl⟩, fun _ => rfl⟩
  | str x => exact ⟨fun e => absurd e (by show (Str.ofString "string") ≠ _; decide +kernel), fun ⟨n, e⟩ => by cases e⟩
  | ending => exact ⟨fun e => absurd e (by show (Str.ofString "end") ≠ _; decide +kernel), fun ⟨n, e⟩ => by cases e⟩
theorem kindV_string {t : Vafmsa.Tok} : kindV t = "string" ↔ ∃ n, t = .str n := by
  cases t with
  | word w => exact ⟨fun e => absurd e (by show (Str.ofString "mark") ≠ _; decide +kernel), fun ⟨n, e⟩ => by cases e⟩
  | sign w => exact ⟨fun e => absurd e (by show (Str.ofString "mark") ≠ _; decide +kernel), fun ⟨n, e⟩ => by cases e⟩
  | num n => exact ⟨fun e => absurd e (by show (Str.ofString "numeral") ≠ _; decide +kernel), fun ⟨n, e⟩ => by cases e⟩
  | str x => exact ⟨fun _ => ⟨x, rfl⟩, fun _ => rfl⟩
  | ending => exact ⟨fun e => absurd e (by show (Str.ofString "end") ≠ _; decide +kernel), fun ⟨n, e⟩ => by cases e⟩
theorem kindV_end {t : Vafmsa.Tok} : kindV t = "end" ↔ t = .ending := by
  cases t with
  | word w => exact ⟨fun e => absurd e (by show (Str.ofString "mark") ≠ _; decide +kernel), fun e => by cases e⟩
  | sign w => exact ⟨fun e => absurd e (by show (Str.ofString "mark") ≠ _; decide +kernel), fun e => by cases e⟩
  | num n => exact ⟨fun e => absurd e (by show (Str.ofString "numeral") ≠ _; decide +kernel), fun e => by cases e⟩
  | str x => exact ⟨fun e => absurd e (by show (Str.ofString "string") ≠ _; decide +kernel), fun e => by cases e⟩
  | ending => exact ⟨fun _ => rfl, fun _ => rfl⟩
theorem sc_Reading_read_bound : FnScope ["self", "lowest", "token"] ["self", "lowest"] (defScope (inClass (topS 108) 9)) := ⟨rfl, rfl, rfl, by decide +kernel, rfl, by decide +kernel, by decide +kernel⟩
theorem d_Reading_read_bound (T : Top K mg c) : MethOk P w K mg base (L2.CX P w) 4 c.Reading "read_bound" (spReadBound c) := T.m_Reading_read_bound.ok T.c_Reading.cl fun f fd F => by
  refine F.okX sc_Reading_read_bound (fun vs H Q E h => ?_) (fun cdv A outer s H vs Q E hr h => ⟨_, (pss_cons (ps_set (i := 2) sc_Reading_read_bound.nd rfl (.inl rfl) (pmeth (E := E) (d_Reading_take_kind T) (hr.mono (by omega)) (passes_call (takes_of rfl rfl rfl rfl) fun _ _ _ _ h => h) (pv 0) (pa_cons (pe_txt T.n_NUMERAL) pa_nil)))
 (pss_cons (ps_if (pt_not (pt_chain op_le op_le (pv 1) (pe_fld (pv 2) rfl) (pe_num T.n_HIGHEST_BOUND)))
 (pss_one (ps_raise rfl (takes_of rfl rfl rfl rfl) (by exact pmk_fault T (hr.mono (by omega)) (pa_cons (pe_num T.n_OUT_OF_BOUNDS) (pa_cons (pe_fld (pv 2) rfl) pa_nil)) (mono_two fun _ _ _ _ m h => mono_fldv m h))))
 pss_nil)
 (pss_one (ps_ret (pe_fld (pv 2) rfl))))), ?_⟩)
  · obtain ⟨Z, p, lo, n, t, r, rfl, _⟩ := h
    rfl
  · obtain ⟨Z, p, lo, n, t, r, rfl, hpZ, hA, q⟩ := h
    obtain ⟨dx, tl, us, L, i, v, hP, _⟩ := hA.head
    walk_at "r0"
    walk_at "sq"
    refine ⟨_, rfl, p, dx, _, rfl, hP, rdF_none (by decide +kernel) (by decide +kernel) (by decide +kernel), Z, p, n, t, r, _, rfl, hpZ, hA, fun hk v H1 b1 hA1 hT => ?_, fun hk => ?_⟩
    · obtain ⟨x, hx⟩ := kindV_num.mp hk
      have hT' := hT.same hideZ_same
      obtain ⟨qt, dq, told, bh, rfl, hq, m1, m2, _⟩ := hT'.open
      rw [m2 x hx] at hq
      rw [takeNum_yes hx] at q
      walk_at "sq"
      refine ⟨_, rfl, _, rfl, qt, c.Token, dq, _, _, rfl, hq, T.c_Token.cl, T.c_Token.na _ (by simp), tkF_told, _, _, rfl, rfl, _, rfl, ?_⟩
      have bad : ¬ (lo ≤ x ∧ x ≤ 4) → ∃ v, some (some (V.ref qt)) = some (some v) ∧ ∃ a C dx fs v1, v = V.ref a ∧ H1 a = some (.ins C dx fs) ∧ Cls K C ∧ NoAttr K C "place" ∧ fs.lookup ("place" : Str) = some v1 ∧ ∃ k pl : Nat, [V.int 3, v1] = [V.int (Int.ofNat k), V.int (Int.ofNat pl)] ∧ ∀ (d : Addr) (H' : Hp), H1 d = none → Same H1 H' → H' d = some (.xd [("place", .int (Int.ofNat pl)), ("kind", .int (Int.ofNat k))]) → E (.ref c.Fault) (some d) H' := fun hn => by
        rw [if_neg hn] at q
        have q' : FaultAt c p H ⟨3, t.place⟩ E := q
        exact ⟨_, rfl, qt, c.Token, dq, _, _, rfl, hq, T.c_Token.cl, T.c_Token.na _ (by simp), tkF_place, 3, t.place, rfl, (q'.later b1 hA1.there).raise⟩
      by_cases h1 : lo ≤ x
      · rw [if_pos (decide_eq_true (by show (lo : Int) ≤ (x : Int); omega))]
        refine ⟨_, _, rfl, rfl, _, rfl, ?_⟩
        by_cases h2 : x ≤ 4
        · rw [decide_eq_true (by show (x : Int) ≤ 4; omega), if_neg (by decide)]
          rw [if_pos ⟨h1, h2⟩] at q
          exact ⟨_, rfl, qt, c.Token, dq, _, _, rfl, hq, T.c_Token.cl, T.c_Token.na _ (by simp), tkF_told, q _ b1 hA1⟩
        · rw [decide_eq_false (by show ¬ (x : Int) ≤ 4; omega), if_pos (by rfl)]
          exact bad fun z => h2 z.2
      · rw [if_neg (by rw [decide_eq_false (by show ¬ (lo : Int) ≤ (x : Int); omega)]; exact Bool.false_ne_true)]
        refine ⟨_, rfl, ?_⟩
        rw [if_pos (by rfl)]
        exact bad fun z => h1 z.1
    · rw [takeNum_no fun n e => hk (kindV_num.mpr ⟨n, e⟩)] at q
      exact q
end
end FX
end
section
set_option Elab.async false
set_option linter.all false
set_option maxRecDepth 100000
set_option maxHeartbeats 4000000
namespace FX
open PySem PySem.Spec PyProof.Rows L2 FT
open VafmsBase (Fmt)
local macro_rules | `(tactic| walk_at "rd") => `(tactic| try dsimp only [tM1, tMethA, ipI, tAug, tOp, tC, tCB, tCons, tNil, gName, tVar, tAsg, tRet, tIfS, tTest, tB, tNext, tDrop, tFld, tCKw, tCall, tMeth, rI0, rI, CMul, rEq, rNe, rEqD, rNeD, tBM, rAppend, rExtend, rCat, rIn, rIxT, rIxL, tSl, rSlL, tPart, tNoPart, tChain, tUn, rU, tIf, tNot, tOr, tAnd, tOrV, tAndV, tMake, sFld, sFldAug, tLst, tTup, tFault, pad, List.set, List.getElem?_cons_zero, List.getElem?_cons_succ, cxOf, List.map_cons, List.map_nil, List.append_nil, List.cons_append, List.nil_append])
local macro_rules | `(tactic| walk_at "sq") => `(tactic| (refine seq_go ?_; walk_at "rd"))
local macro_rules | `(tactic| walk_at "r0") => `(tactic| (rw [start_pad (by rfl)]; walk_at "rd"))
section
variable {P : Program} {w : World} {K : PySem.W.Frag} {mg : Str → Option Value} {base : Heap} {c : Cs}
def checkP (n : Nat) (ko : Option Nat) (b : Bool) (pl : Nat) : Option Vafmsa.Fault := match ko with
  | none => some ⟨2, pl⟩
  | some k => if 14 ≤ n then some ⟨4, pl⟩ else if k = 5 ∧ b = true then some ⟨5, pl⟩ else none
def spCheck (c : Cs) : Sp := fun vs H Q E => ∃ (Z : List Addr) (p : Addr) (n : Nat) (l : Vafmsa.Toks) (v : V) (t : Vafmsa.Token) (ko : Option Nat) (b : Bool), vs = [.ref p, v, optV ko, .bl b] ∧ p ∈ Z ∧ SrcAt c Z H p (n, l) ∧ TkAt c (hideZ Z H) v t ∧
  (∀ e, checkP n ko b t.place = some e → FaultAt c p H e E) ∧ (checkP n ko b t.place = none → ∀ H', Beside p H H' → SrcAt c Z H' p (n + 1, l) → Q .non H')
theorem sc_Reading_check_piece : FnScope ["self", "token", "kind", "within_repeat"] ["self", "token", "kind", "within_repeat"] (defScope (inClass (topS 108) 7)) := ⟨rfl, rfl, rfl, by decide +kernel, rfl, by decide +kernel, by decide +kernel⟩
theorem d_Reading_check_piece (T : Top K mg c) : MethOk P w K mg base (L2.CX P w) 3 c.Reading "check_piece" (spCheck c) := T.m_Reading_check_piece.ok T.c_Reading.cl fun f fd F => by
  refine F.okX sc_Reading_check_piece (fun vs H Q E h => ?_) (fun cdv A outer s H vs Q E hr h => ⟨_, (pss_cons (ps_if (pt_cmpR op_isN (pv 2) pe_non (nomark _))
 (pss_one (ps_raise rfl (takes_of rfl rfl rfl rfl) (by exact pmk_fault T (hr.mono (by omega)) (pa_cons (pe_num T.n_OUT_OF_PLACE) (pa_cons (pe_fld (pv 1) rfl) pa_nil)) (mono_two fun _ _ _ _ m h => mono_fldv m h))))
 pss_nil)
 (pss_cons (ps_fldaug (pv 0) pe_int in_add)
 (pss_cons (ps_if (pt_cmpR op_gt (pe_fld (pv 0) rfl) (pe_num T.n_MOST_PIECES) (nomark _))
 (pss_one (ps_raise rfl (takes_of rfl rfl rfl rfl) (by exact pmk_fault T (hr.mono (by omega)) (pa_cons (pe_num T.n_TOO_MANY) (pa_cons (pe_fld (pv 1) rfl) pa_nil)) (mono_two fun _ _ _ _ m h => mono_fldv m h))))
 pss_nil)
 (pss_one (ps_if (PW.pt (pw_and (pt_cmpR op_eq (pv 2) (pe_num T.n_REPEAT) (nomark _)) (pw_and1 (pt_val (pv 3)))))
 (pss_one (ps_raise rfl (takes_of rfl rfl rfl rfl) (by exact pmk_fault T (hr.mono (by omega)) (pa_cons (pe_num T.n_REPEAT_WITHIN_REPEAT) (pa_cons (pe_fld (pv 1) rfl) pa_nil)) (mono_two fun _ _ _ _ m h => mono_fldv m h))))
 pss_nil))))), ?_⟩)
  · obtain ⟨Z, p, n, l, v, t, ko, b, rfl, _⟩ := h
    rfl
  · obtain ⟨Z, p, n, l, v, t, ko, b, rfl, hpZ, hA, hT, q1, q2⟩ := h
    obtain ⟨qt, dq, told, bh, rfl, hq, _⟩ := (hT.same hideZ_same).open
    obtain ⟨dx, tl, us, L, i, hP, hTl, hus, hr2⟩ := hA
    dsimp only at hP hr2
    walk_at "r0"
    walk_at "sq"
    refine ⟨_, rfl, rfl, _, rfl, ?_⟩
    cases ko with
    | none =>
      rw [if_pos (by rfl)]
      exact ⟨_, rfl, qt, c.Token, dq, _, _, rfl, hq, T.c_Token.cl, T.c_Token.na _ (by simp), tkF_place, 2, t.place, rfl, (q1 _ rfl).raise⟩
    | some k =>
      rw [if_neg (by rw [decide_eq_false (show ¬ optV (some k) = .non from fun z => by cases z)]; exact Bool.false_ne_true)]
      walk_at "sq"
      refine ⟨_, rfl, p, c.Reading, dx, _, _, rfl, hP, T.c_Reading.cl, T.c_Reading.na _ (by simp), rdF_read, _, _, rfl, rfl, dx, _, hP, (by show 3 < 1000; decide), ?_⟩
      rw [rdF_put_read (i := i) (n := n) (x := Int.ofNat n + 1) rfl]
      have hb : Beside p H (upd H p (.ins c.Reading dx (rdF tl i (n + 1)))) := Beside.upd
      have hA1 : SrcAt c Z (upd H p (.ins c.Reading dx (rdF tl i (n + 1)))) p (n + 1, l) := ⟨dx, tl, us, L, i, upd_same, (hb.hide hpZ) _ _ hTl, Paired.mapR hus fun _ _ x => x.same (hb.hide hpZ), hr2⟩
      have hq1 : (upd H p (.ins c.Reading dx (rdF tl i (n + 1)))) qt = some (.ins c.Token dq [("kind", .str (kindV t.tok)), ("told", told), ("place", .int (Int.ofNat t.place)), ("behind", bh)]) := by
        refine beside hb hq fun z => ?_
        rw [z, hP] at hq
        have := congrArg (fun o : Option HO => match o with | some (.ins _ _ fs) => fs.length | _ => 0) hq
        exact absurd this (by show ¬ (3 = 4); decide)
      have hP1 : (upd H p (.ins c.Reading dx (rdF tl i (n + 1)))) p = some (.ins c.Reading dx (rdF tl i (n + 1))) := upd_same
      generalize upd H p (.ins c.Reading dx (rdF tl i (n + 1))) = H1 at *
      walk_at "sq"
      refine ⟨_, rfl, p, c.Reading, dx, _, _, rfl, hP1, T.c_Reading.cl, T.c_Reading.na _ (by simp), rdF_read, _, _, rfl, rfl, _, rfl, ?_⟩
      by_cases h14 : 14 ≤ n
      · rw [if_pos (decide_eq_true (by show (14 : Int) < ((n + 1 : Nat) : Int); omega))]
        exact ⟨_, rfl, qt, c.Token, dq, _, _, rfl, hq1, T.c_Token.cl, T.c_Token.na _ (by simp), tkF_place, 4, t.place, rfl, ((q1 _ (if_pos h14)).later hb hA1.there).raise⟩
      · rw [if_neg (by rw [decide_eq_false (by show ¬ (14 : Int) < ((n + 1 : Nat) : Int); omega)]; exact Bool.false_ne_true)]
        walk_at "rd"
        refine ⟨_, rfl, rfl, _, rfl, ?_⟩
        have ek : decide (optV (some k) = V.int 5) = (k == 5) := kind5 k
        rw [ek]
        have eo : checkP n (some k) b t.place = if k = 5 ∧ b = true then some ⟨5, t.place⟩ else none := if_neg h14
        by_cases h5 : k = 5
        · rw [if_pos (by simpa using h5)]
          refine ⟨_, rfl, _, rfl, ?_⟩
          cases b with
          | true =>
            rw [if_pos rfl]
            exact ⟨_, rfl, qt, c.Token, dq, _, _, rfl, hq1, T.c_Token.cl, T.c_Token.na _ (by simp), tkF_place, 5, t.place, rfl, ((q1 _ (eo.trans (if_pos ⟨h5, rfl⟩))).later hb hA1.there).raise⟩
          | false =>
            rw [if_neg Bool.false_ne_true]
            exact q2 (eo.trans (if_neg fun z => Bool.false_ne_true z.2)) _ hb hA1
        · rw [if_neg (by simpa using h5), if_neg Bool.false_ne_true]
          exact q2 (eo.trans (if_neg fun z => h5 z.1)) _ hb hA1
def GivesTxt (c : Cs) (Z : List Addr) (H : Hp) (p : Addr) (n : Nat) (r : Vafmsa.Got (List Nat × Vafmsa.Toks)) (Q : VK) (E : XK) : Prop := match r with
  | .error e => FaultAt c p H e E
  | .ok (x, l) => ∀ ta H', Beside p H H' → SrcAt c Z H' p (n, l) → hideZ Z H' ta = some (.lst (nvs x)) → Q (.ref ta) H'
theorem takeStr_yes {t : Vafmsa.Token} {r : Vafmsa.Toks} {lo : Nat} {x : List Nat} (h : t.tok = .str x) : Vafmsa.takeStr lo (t :: r) = if lo ≤ x.length ∧ x.length ≤ 8 then .ok (x, r) else .error ⟨3, t.place⟩ := by
  obtain ⟨pl, tk⟩ := t
  dsimp only at h
  subst h
  rfl
theorem takeStr_no {t : Vafmsa.Token} {r : Vafmsa.Toks} {lo : Nat} (h : ∀ n, t.tok ≠ .str n) : Vafmsa.takeStr lo (t :: r) = .error ⟨2, t.place⟩ := by
  obtain ⟨pl, tk⟩ := t
  cases tk with
  | str n => exact absurd rfl (h n)
  | _ => rfl
def spReadText (c : Cs) : Sp := fun vs H Q E => ∃ (Z : List Addr) (p : Addr) (n k : Nat) (l : Vafmsa.Toks) (v : V) (t : Vafmsa.Token), vs = [.ref p, v, .int (k : Int)] ∧ p ∈ Z ∧ (∀ z ∈ Z, H z ≠ none) ∧ SrcAt c Z H p (n, l) ∧ TkAt c (hideZ Z H) v t ∧
  ((k = 0 ∧ (∃ x, t.tok = .str x) ∧ GivesTxt c Z H p n (Vafmsa.takeStr 1 (t :: l)) Q E) ∨ (k = 5 ∧ l ≠ [] ∧ GivesTxt c Z H p n (Vafmsa.takeStr 0 l) Q E))
theorem sc_Reading_read_text : FnScope ["self", "begun", "kind", "token"] ["self", "begun", "kind"] (defScope (inClass (topS 108) 8)) := ⟨rfl, rfl, rfl, by decide +kernel, rfl, by decide +kernel, by decide +kernel⟩
theorem d_Reading_read_text (T : Top K mg c) : MethOk P w K mg base (L2.CX P w) 4 c.Reading "read_text" (spReadText c) := T.m_Reading_read_text.ok T.c_Reading.cl fun f fd F => by
  refine F.okX sc_Reading_read_text (fun vs H Q E h => ?_) (fun cdv A outer s H vs Q E hr h => ⟨_, (pss_cons (ps_set (i := 3) sc_Reading_read_text.nd rfl (.inl rfl) (pe_ifExp (pt_cmpR op_eq (pv 2) (pe_num T.n_LITERAL) (nomark _)) (pv 1) (pmeth (E := E) (d_Reading_take_kind T) (hr.mono (by omega)) (passes_call (takes_of rfl rfl rfl rfl) fun _ _ _ _ h => h) (pv 0) (pa_cons (pe_txt T.n_STRING) pa_nil))))
 (pss_cons (ps_if (pt_not (pt_chain op_le op_le (pcall (d_fewest_text_bytes T) (hr.mono (by omega)) pass0 (pa_cons (pv 2) pa_nil)) (pe_callB call_len_seq (by rfl) T.b_len (by decide +kernel) (pa_cons (pe_fld (pv 3) rfl) pa_nil)) (pe_num T.n_MOST_TEXT_BYTES_pieces)))
 (pss_one (ps_raise rfl (takes_of rfl rfl rfl rfl) (by exact pmk_fault T (hr.mono (by omega)) (pa_cons (pe_num T.n_OUT_OF_BOUNDS) (pa_cons (pe_fld (pv 3) rfl) pa_nil)) (mono_two fun _ _ _ _ m h => mono_fldv m h))))
 pss_nil)
 (pss_one (ps_ret (pe_fld (pv 3) rfl))))), ?_⟩)
  · obtain ⟨Z, p, n, k, l, v, t, rfl, _⟩ := h
    rfl
  · obtain ⟨Z, p, n, k, l, v, t, rfl, hpZ, hz, hA, hT, q⟩ := h
    walk_at "r0"
    refine seq_by (fun σ' H' => ∃ (v' : V) (t' : Vafmsa.Token) (x : List Nat) (l' : Vafmsa.Toks), σ' = [some (.ref p), some v, some (.int (k : Int)), some v'] ∧ Beside p H H' ∧ SrcAt c Z H' p (n, l') ∧ TkAt c (hideZ Z H') v' t' ∧ t'.tok = .str x ∧ GivesTxt c Z H p n (if lowest k ≤ x.length ∧ x.length ≤ 8 then .ok (x, l') else .error ⟨3, t'.place⟩) Q E) ?_ ?_
    rotate_left
    · intro N hN
      walk_at "rd"
      refine ⟨_, rfl, rfl, _, rfl, ?_⟩
      rcases q with ⟨rfl, ⟨x, hx⟩, q⟩ | ⟨rfl, hl, q⟩
      · rw [if_pos (by rfl)]
        rw [takeStr_yes hx] at q
        exact ⟨_, rfl, hN _ _ ⟨v, t, x, l, rfl, Beside.refl _ _, hA, hT, hx, q⟩⟩
      · rw [if_neg (by decide)]
        cases l with
        | nil => exact absurd rfl hl
        | cons t2 l2 =>
          obtain ⟨dx, tl, us, L, i, v2, hP, _⟩ := hA.head
          refine ⟨_, rfl, p, dx, _, rfl, hP, rdF_none (by decide +kernel) (by decide +kernel) (by decide +kernel), Z, p, n, t2, l2, _, rfl, hpZ, hA, fun hk v' H1 b1 hA1 hT1 => ?_, fun hk => ?_⟩
          · obtain ⟨x, hx⟩ := kindV_string.mp hk
            rw [takeStr_yes hx] at q
            exact hN _ _ ⟨v', t2, x, l2, rfl, b1, hA1, hT1, hx, q⟩
          · rw [takeStr_no fun n e => hk (kindV_string.mpr ⟨n, e⟩)] at q
            exact q
    rintro _ H1 ⟨v', t', x, l', rfl, b1, hA1, hT1, hx, q'⟩
    clear q
    obtain ⟨qt, dq, told, bh, rfl, hq, _, _, m3⟩ := hT1.open
    obtain ⟨ta, rfl, hta⟩ := m3 x hx
    have hta2 := hideZ_same _ _ hta
    replace hq := hideZ_same _ _ hq
    walk_at "sq"
    refine ⟨_, rfl, k, rfl, _, rfl, qt, c.Token, dq, _, _, rfl, hq, T.c_Token.cl, T.c_Token.na _ (by simp), tkF_told, ta, _, rfl, .inl (SqL.of hta2), _, _, rfl, rfl, _, rfl, ?_⟩
    rw [nvs_length]
    have bad : ¬ (lowest k ≤ x.length ∧ x.length ≤ 8) → ∃ v, some (some (V.ref qt)) = some (some v) ∧ ∃ a C dx fs v1, v = V.ref a ∧ H1 a = some (.ins C dx fs) ∧ Cls K C ∧ NoAttr K C "place" ∧ fs.lookup ("place" : Str) = some v1 ∧ ∃ k pl : Nat, [V.int 3, v1] = [V.int (Int.ofNat k), V.int (Int.ofNat pl)] ∧ ∀ (d : Addr) (H' : Hp), H1 d = none → Same H1 H' → H' d = some (.xd [("place", .int (Int.ofNat pl)), ("kind", .int (Int.ofNat k))]) → E (.ref c.Fault) (some d) H' := fun hn => by
      rw [if_neg hn] at q'
      have q3 : FaultAt c p H ⟨3, t'.place⟩ E := q'
      exact ⟨_, rfl, qt, c.Token, dq, _, _, rfl, hq, T.c_Token.cl, T.c_Token.na _ (by simp), tkF_place, 3, t'.place, rfl, (q3.later b1 hA1.there).raise⟩
    by_cases h1 : lowest k ≤ x.length
    · rw [if_pos (decide_eq_true (by show (lowest k : Int) ≤ (x.length : Int); omega))]
      refine ⟨_, _, rfl, rfl, _, rfl, ?_⟩
      by_cases h2 : x.length ≤ 8
      · rw [decide_eq_true (by show (x.length : Int) ≤ 8; omega), if_neg (by decide)]
        rw [if_pos ⟨h1, h2⟩] at q'
        exact ⟨_, rfl, qt, c.Token, dq, _, _, rfl, hq, T.c_Token.cl, T.c_Token.na _ (by simp), tkF_told, q' _ _ b1 hA1 hta⟩
      · rw [decide_eq_false (by show ¬ (x.length : Int) ≤ 8; omega), if_pos (by rfl)]
        exact bad fun z => h2 z.2
    · rw [if_neg (by rw [decide_eq_false (by show ¬ (lowest k : Int) ≤ (x.length : Int); omega)]; exact Bool.false_ne_true)]
      refine ⟨_, rfl, ?_⟩
      rw [if_pos (by rfl)]
      exact bad fun z => h1 z.1
end
end FX
end
section
set_option Elab.async false
set_option linter.all false
set_option maxRecDepth 100000
set_option maxHeartbeats 4000000
namespace FX
open PySem PySem.Spec PyProof.Rows L2 FT
open VafmsBase (Fmt okPieces)
/-! ### pieces put together -/
def consP (p : Pce) (r : Fmt) : Fmt := if p.kind = 0 then .lit p.text r else if p.kind = 1 then .num p.lo p.hi r else if p.kind = 2 then .word p.lo p.hi r else if p.kind = 3 then .alt (row0 p) (row1 p) r else if p.kind = 4 then .opt (row0 p) r else .rep p.text p.lo p.hi (row0 p) r
theorem pces_cons {p : Pce} (h : PForm p) (r : Fmt) : pces (consP p r) = p :: pces r := by cases h <;> rfl
/-- the row of these pieces -/
def rowOf (ps : List Pce) (r : Fmt) : Fmt := ps.foldr consP r
theorem Pcs.of_view {c : Cs} {H : Hp} : ∀ {ps : List Pce} {vs : List V}, Paired (PceAt c H) vs ps → (∀ p ∈ ps, PForm p) → Pcs c H (rowOf ps .done) vs
  | [], _, .nil, _ => rfl
  | p :: ps, v :: vs, .cons h t, hf => by
    have ih := Pcs.of_view t fun q hq => hf q (List.mem_cons_of_mem _ hq)
    obtain ⟨rs, h1, h2⟩ := h
    show Pcs c H (consP p (rowOf ps .done)) (v :: vs)
    cases hf p (List.mem_cons_self ..) with
    | lit w =>
      cases h2
      exact ⟨v, vs, rfl, h1, ih⟩
    | num lo hi =>
      cases h2
      exact ⟨v, vs, rfl, h1, ih⟩
    | word lo hi =>
      cases h2
      exact ⟨v, vs, rfl, h1, ih⟩
    | alt a b =>
      match rs, h2 with
      | [ra, rb], .cons ha (.cons hb .nil) =>
        obtain ⟨xa, e1, e2⟩ := ha
        obtain ⟨xb, e3, e4⟩ := hb
        exact ⟨v, vs, ra, rb, xa, xb, rfl, h1, e1, e2, e3, e4, ih⟩
    | opt a =>
      match rs, h2 with
      | [ra], .cons ha .nil =>
        obtain ⟨xa, e1, e2⟩ := ha
        exact ⟨v, vs, ra, xa, rfl, h1, e1, e2, ih⟩
    | rep s lo hi a =>
      match rs, h2 with
      | [ra], .cons ha .nil =>
        obtain ⟨xa, e1, e2⟩ := ha
        exact ⟨v, vs, ra, xa, rfl, h1, e1, e2, ih⟩
/-! ### the specification, token by token -/
theorem wordIs_at (z : String) (t : Vafmsa.Token) (r : Vafmsa.Toks) : Vafmsa.wordIs z (t :: r) = decide (t.tok = .word (Vafmsa.word z)) := by
  show (some t.tok == some _) = _
  rw [Bool.eq_iff_iff]
  simp
theorem signIs_at (b : Nat) (t : Vafmsa.Token) (r : Vafmsa.Toks) : Vafmsa.signIs b (t :: r) = decide (t.tok = .sign b) := by
  show (some t.tok == some _) = _
  rw [Bool.eq_iff_iff]
  simp
theorem strNext_at (t : Vafmsa.Token) (r : Vafmsa.Toks) : Vafmsa.strNext (t :: r) = isStr t.tok := by
  obtain ⟨p, tk⟩ := t
  cases tk <;> rfl
abbrev SRow := Nat → Bool → SrcS → Vafmsa.Got (Fmt × SrcS)
def srcRow : SRow := fun f b s => (Vafmsa.takeSign 123 s.2).bind fun q => Vafmsa.takePieces f b s.1 q
def srcBound (lo : Nat) (s : SrcS) : Vafmsa.Got (Nat × SrcS) := (Vafmsa.takeNum lo 4 s.2).map fun x => (x.1, (s.1, x.2))
def EndsIn (l : Vafmsa.Toks) : Prop := ∃ p, l.getLast? = some ⟨p, .ending⟩
/-- from l on to l' -/
def Adv (l l' : Vafmsa.Toks) : Prop := (EndsIn l → EndsIn l') ∧ (∀ t, t ∈ l' → t ∈ l) ∧ l'.length ≤ l.length
theorem Adv.refl (l : Vafmsa.Toks) : Adv l l := ⟨id, fun _ h => h, Nat.le_refl _⟩
theorem Adv.trans {a b d : Vafmsa.Toks} (h : Adv a b) (g : Adv b d) : Adv a d := ⟨fun z => g.1 (h.1 z), fun t z => h.2.1 t (g.2.1 t z), Nat.le_trans g.2.2 h.2.2⟩
theorem adv_tail {t : Vafmsa.Token} {r : Vafmsa.Toks} (ht : t.tok ≠ .ending) : Adv (t :: r) r := by
  refine ⟨fun ⟨p, h⟩ => ?_, fun x h => List.mem_cons_of_mem _ h, by simp⟩
  cases r with
  | nil =>
    have : t = ⟨p, .ending⟩ := Option.some.inj h
    rw [this] at ht
    exact absurd rfl ht
  | cons x r =>
    rw [List.getLast?_cons_cons] at h
    exact ⟨p, h⟩
theorem ends_ne {l : Vafmsa.Toks} (h : EndsIn l) : ∃ t r, l = t :: r := by
  obtain ⟨p, h⟩ := h
  cases l with
  | nil => cases h
  | cons t r => exact ⟨t, r, rfl⟩
theorem takeNum_adv {lo hi n : Nat} {l l' : Vafmsa.Toks} (h : Vafmsa.takeNum lo hi l = .ok (n, l')) : Adv l l' ∧ lo ≤ n ∧ n ≤ hi := by
  match l with
  | [] => cases h
  | ⟨p, tk⟩ :: r =>
    cases tk with
    | num x =>
      have h' : (if lo ≤ x ∧ x ≤ hi then Except.ok (x, r) else Except.error (⟨3, p⟩ : Vafmsa.Fault)) = .ok (n, l') := h
      split at h'
      · rename_i hx
        injection h' with h'
        obtain ⟨rfl, rfl⟩ := Prod.mk.inj h'
        exact ⟨adv_tail (fun z => by cases z), hx⟩
      · cases h'
    | word _ => cases h
    | str _ => cases h
    | sign _ => cases h
    | ending => cases h
theorem takeStr_adv {lo : Nat} {x : List Nat} {l l' : Vafmsa.Toks} (h : Vafmsa.takeStr lo l = .ok (x, l')) : Adv l l' ∧ lo ≤ x.length ∧ x.length ≤ 8 ∧ ∃ t ∈ l, t.tok = .str x := by
  match l with
  | [] => cases h
  | ⟨p, tk⟩ :: r =>
    cases tk with
    | str y =>
      have h' : (if lo ≤ y.length ∧ y.length ≤ VafmsBase.LITERAL then Except.ok (y, r) else Except.error (⟨3, p⟩ : Vafmsa.Fault)) = .ok (x, l') := h
      split at h'
      · rename_i hx
        injection h' with h'
        obtain ⟨rfl, rfl⟩ := Prod.mk.inj h'
        exact ⟨adv_tail (fun z => by cases z), hx.1, hx.2, _, List.mem_cons_self .., rfl⟩
      · cases h'
    | word _ => cases h
    | num _ => cases h
    | sign _ => cases h
    | ending => cases h
theorem takeSign_at {b : Nat} (t : Vafmsa.Token) (r : Vafmsa.Toks) : Vafmsa.takeSign b (t :: r) = if t.tok = .sign b then .ok r else .error ⟨2, t.place⟩ := by
  unfold Vafmsa.takeSign
  rw [signIs_at]
  by_cases h : t.tok = .sign b
  · rw [if_pos h, if_pos (by simpa using h)]
    rfl
  · rw [if_neg h, if_neg (by simpa using h)]
    rfl
theorem takeSign_adv {b : Nat} {l l' : Vafmsa.Toks} (h : Vafmsa.takeSign b l = .ok l') : Adv l l' := by
  cases l with
  | nil => cases h
  | cons t r =>
    rw [takeSign_at] at h
    split at h
    · rename_i ht
      injection h with h
      rw [← h]
      exact adv_tail (fun z => by rw [ht] at z; cases z)
    · cases h
def preS (m f : Nat) (s : SrcS) : Prop := s.2.length ≤ f ∧ 14 < s.1 + m ∧ s.1 ≤ 14 ∧ EndsIn s.2 ∧ ∀ t ∈ s.2, TokOk t.tok
end FX
end
section
set_option Elab.async false
set_option linter.all false
set_option maxRecDepth 100000
set_option maxHeartbeats 4000000
namespace FX
open PySem PySem.Spec PyProof.Rows L2 FT
open VafmsBase (Fmt okPieces)
theorem w_num : Vafmsa.word "num" = [110, 117, 109] := by decide +kernel
theorem w_word : Vafmsa.word "word" = [119, 111, 114, 100] := by decide +kernel
theorem w_alt : Vafmsa.word "alt" = [97, 108, 116] := by decide +kernel
theorem w_opt : Vafmsa.word "opt" = [111, 112, 116] := by decide +kernel
theorem w_rep : Vafmsa.word "rep" = [114, 101, 112] := by decide +kernel
theorem kw_one (b : Nat) : kwIdx [b] = none := by
  unfold kwIdx
  rw [w_num, w_word, w_alt, w_opt, w_rep]
  simp
/-- what the keyword says of the token -/
theorem kind_iff (t : Vafmsa.Tok) (k : Nat) : kindBegun t = some k ↔ (k = 0 ∧ isStr t = true) ∨ (k = 1 ∧ t = .word (Vafmsa.word "num")) ∨ (k = 2 ∧ t = .word (Vafmsa.word "word")) ∨ (k = 3 ∧ t = .word (Vafmsa.word "alt")) ∨ (k = 4 ∧ t = .word (Vafmsa.word "opt")) ∨ (k = 5 ∧ t = .word (Vafmsa.word "rep")) := by
  cases t with
  | str x =>
    show some 0 = some k ↔ _
    constructor
    · intro h
      exact .inl ⟨(Option.some.inj h).symm, rfl⟩
    · rintro (⟨rfl, _⟩ | ⟨_, h⟩ | ⟨_, h⟩ | ⟨_, h⟩ | ⟨_, h⟩ | ⟨_, h⟩)
      · rfl
      all_goals cases h
  | num x =>
    show none = some k ↔ _
    constructor
    · intro h
      cases h
    · rintro (⟨_, h⟩ | ⟨_, h⟩ | ⟨_, h⟩ | ⟨_, h⟩ | ⟨_, h⟩ | ⟨_, h⟩)
      all_goals cases h
  | ending =>
    show none = some k ↔ _
    constructor
    · intro h
      cases h
    · rintro (⟨_, h⟩ | ⟨_, h⟩ | ⟨_, h⟩ | ⟨_, h⟩ | ⟨_, h⟩ | ⟨_, h⟩)
      all_goals cases h
  | sign b =>
    show kwIdx [b] = some k ↔ _
    rw [kw_one]
    constructor
    · intro h
      cases h
    · rintro (⟨_, h⟩ | ⟨_, h⟩ | ⟨_, h⟩ | ⟨_, h⟩ | ⟨_, h⟩ | ⟨_, h⟩)
      all_goals cases h
  | word w =>
    show kwIdx w = some k ↔ _
    unfold kwIdx
    have inj : ∀ v : List Nat, (Vafmsa.Tok.word w = .word v) ↔ w = v := fun v => ⟨fun e => by injection e, fun e => by rw [e]⟩
    simp only [inj, show isStr (.word w) = false from rfl, Bool.false_eq_true, and_false, false_or]
    rw [w_num, w_word, w_alt, w_opt, w_rep]
    by_cases h1 : w = [110, 117, 109]
    · subst h1; simp; exact eq_comm
    by_cases h2 : w = [119, 111, 114, 100]
    · subst h2; simp; exact eq_comm
    by_cases h3 : w = [97, 108, 116]
    · subst h3; simp; exact eq_comm
    by_cases h4 : w = [111, 112, 116]
    · subst h4; simp; exact eq_comm
    by_cases h5 : w = [114, 101, 112]
    · subst h5; simp; exact eq_comm
    simp [h1, h2, h3, h4, h5]
theorem begins_at (t : Vafmsa.Token) (r : Vafmsa.Toks) : Vafmsa.beginsPiece (t :: r) = (kindBegun t.tok).isSome := by
  unfold Vafmsa.beginsPiece
  rw [strNext_at]
  simp only [List.any_cons, List.any_nil, wordIs_at]
  rw [Bool.eq_iff_iff, Option.isSome_iff_exists]
  simp only [Bool.or_eq_true, decide_eq_true_iff, Bool.or_false]
  constructor
  · rintro (h | h | h | h | h | h)
    · exact ⟨0, (kind_iff _ _).mpr (.inl ⟨rfl, h⟩)⟩
    · exact ⟨1, (kind_iff _ _).mpr (.inr (.inl ⟨rfl, h⟩))⟩
    · exact ⟨2, (kind_iff _ _).mpr (.inr (.inr (.inl ⟨rfl, h⟩)))⟩
    · exact ⟨3, (kind_iff _ _).mpr (.inr (.inr (.inr (.inl ⟨rfl, h⟩))))⟩
    · exact ⟨4, (kind_iff _ _).mpr (.inr (.inr (.inr (.inr (.inl ⟨rfl, h⟩)))))⟩
    · exact ⟨5, (kind_iff _ _).mpr (.inr (.inr (.inr (.inr (.inr ⟨rfl, h⟩)))))⟩
  · rintro ⟨k, h⟩
    rcases (kind_iff _ _).mp h with ⟨_, h⟩ | ⟨_, h⟩ | ⟨_, h⟩ | ⟨_, h⟩ | ⟨_, h⟩ | ⟨_, h⟩
    · exact .inl h
    · exact .inr (.inl h)
    · exact .inr (.inr (.inl h))
    · exact .inr (.inr (.inr (.inl h)))
    · exact .inr (.inr (.inr (.inr (.inl h))))
    · exact .inr (.inr (.inr (.inr (.inr h))))
def tpKind (f : Nat) (b : Bool) (n : Nat) (t : Vafmsa.Token) (r : Vafmsa.Toks) (k : Nat) : Vafmsa.Got (Fmt × SrcS) :=
  if k = 0 then (Vafmsa.takeStr 1 (t :: r)).bind fun w => (Vafmsa.takePieces f b (n + 1) w.2).map fun y => (.lit w.1 y.1, y.2)
  else if k = 1 then (Vafmsa.takeTwo 1 4 r).bind fun u => (Vafmsa.takePieces f b (n + 1) u.2).map fun y => (.num u.1.1 u.1.2 y.1, y.2)
  else if k = 2 then (Vafmsa.takeTwo 1 4 r).bind fun u => (Vafmsa.takePieces f b (n + 1) u.2).map fun y => (.word u.1.1 u.1.2 y.1, y.2)
  else if k = 3 then (srcRow f b (n + 1, r)).bind fun a => (srcRow f b a.2).bind fun e => (Vafmsa.takePieces f b e.2.1 e.2.2).map fun y => (.alt a.1 e.1 y.1, y.2)
  else if k = 4 then (srcRow f b (n + 1, r)).bind fun a => (Vafmsa.takePieces f b a.2.1 a.2.2).map fun y => (.opt a.1 y.1, y.2)
  else if b = true then .error ⟨5, t.place⟩ else (Vafmsa.takeStr 0 r).bind fun s => (Vafmsa.takeTwo 0 4 s.2).bind fun u => (srcRow f true (n + 1, u.2)).bind fun a => (Vafmsa.takePieces f b a.2.1 a.2.2).map fun y => (.rep s.1 u.1.1 u.1.2 a.1 y.1, y.2)
theorem tp_step (f : Nat) (b : Bool) (n : Nat) (t : Vafmsa.Token) (r : Vafmsa.Toks) : Vafmsa.takePieces (f + 1) b n (t :: r) = if t.tok = .sign 125 then .ok (.done, n, r) else match kindBegun t.tok with
    | none => .error ⟨2, t.place⟩
    | some k => if 14 ≤ n then .error ⟨4, t.place⟩ else tpKind f b n t r k := by
  rw [Vafmsa.takePieces.eq_def]
  dsimp only
  rw [signIs_at]
  by_cases h0 : t.tok = .sign 125
  · rw [if_pos h0, if_pos (by simpa using h0)]
    rfl
  rw [if_neg h0, if_neg (by simpa using h0), begins_at]
  cases hk : kindBegun t.tok with
  | none => rfl
  | some k =>
    rw [if_neg (fun z => by cases z)]
    dsimp only
    by_cases h14 : 14 ≤ n
    · rw [if_pos h14, if_pos (show VafmsBase.PIECES ≤ n from h14)]
      rfl
    rw [if_neg h14, if_neg (show ¬ VafmsBase.PIECES ≤ n from h14), strNext_at]
    simp only [wordIs_at]
    unfold tpKind
    rcases (kind_iff _ _).mp hk with ⟨rfl, h⟩ | ⟨rfl, h⟩ | ⟨rfl, h⟩ | ⟨rfl, h⟩ | ⟨rfl, h⟩ | ⟨rfl, h⟩
    · rw [if_pos rfl, if_pos h]
    · rw [h, if_neg (by decide), if_pos (by decide +kernel), if_neg (by decide), if_pos rfl]
      rfl
    · rw [h, if_neg (by decide), if_neg (by decide +kernel), if_pos (by decide +kernel), if_neg (by decide), if_neg (by decide), if_pos rfl]
      rfl
    · rw [h, if_neg (by decide), if_neg (by decide +kernel), if_neg (by decide +kernel), if_pos (by decide +kernel), if_neg (by decide), if_neg (by decide), if_neg (by decide), if_pos rfl]
      rfl
    · rw [h, if_neg (by decide), if_neg (by decide +kernel), if_neg (by decide +kernel), if_neg (by decide +kernel), if_pos (by decide +kernel), if_neg (by decide), if_neg (by decide), if_neg (by decide), if_neg (by decide), if_pos rfl]
      rfl
    · rw [h, if_neg (by decide), if_neg (by decide +kernel), if_neg (by decide +kernel), if_neg (by decide +kernel), if_neg (by decide +kernel)]
      cases b <;> rfl
end FX
end
section
set_option Elab.async false
set_option linter.all false
set_option maxRecDepth 100000
set_option maxHeartbeats 4000000
namespace FX
open PySem PySem.Spec PyProof.Rows L2 FT
open VafmsBase (Fmt okPieces)
theorem bind_ok {A B Er : Type} {x : Except Er A} {f : A → Except Er B} {y : B} (h : x.bind f = .ok y) : ∃ a, x = .ok a ∧ f a = .ok y := by
  cases x with
  | error e => cases h
  | ok a => exact ⟨a, rfl, h⟩
theorem map_ok {A B Er : Type} {x : Except Er A} {f : A → B} {y : B} (h : x.map f = .ok y) : ∃ a, x = .ok a ∧ y = f a := by
  cases x with
  | error e => cases h
  | ok a => injection h with h; exact ⟨a, rfl, h.symm⟩
theorem takeTwo_adv {lo hi a b : Nat} {l l' : Vafmsa.Toks} (h : Vafmsa.takeTwo lo hi l = .ok ((a, b), l')) : Adv l l' ∧ lo ≤ a ∧ a ≤ b ∧ b ≤ hi := by
  obtain ⟨x, h1, h2⟩ := bind_ok h
  obtain ⟨y, h3, h4⟩ := map_ok h2
  obtain ⟨e1, e2⟩ := Prod.mk.inj h4
  obtain ⟨e3, e4⟩ := Prod.mk.inj e1
  obtain ⟨x1, x2⟩ := x
  obtain ⟨y1, y2⟩ := y
  dsimp only at *
  subst e2 e3 e4
  have a1 := takeNum_adv h1
  have a2 := takeNum_adv h3
  exact ⟨a1.1.trans a2.1, a1.2.1, a2.2.1, a2.2.2⟩
def Good (b : Bool) (n : Nat) (l : Vafmsa.Toks) (g : Fmt) (n' : Nat) (l' : Vafmsa.Toks) : Prop := Adv l l' ∧ n' = n + g.size ∧ n' ≤ 14 ∧ okPieces g = true ∧ (b = true → g.hasRep = false)
theorem tp_good : ∀ (f : Nat) (b : Bool) (n : Nat) (l : Vafmsa.Toks) (g : Fmt) (n' : Nat) (l' : Vafmsa.Toks), Vafmsa.takePieces f b n l = .ok (g, n', l') → n ≤ 14 → (∀ t ∈ l, TokOk t.tok) → Good b n l g n' l'
  | 0, b, n, l, g, n', l', h, _, _ => by cases h
  | f + 1, b, n, [], g, n', l', h, _, _ => by cases h
  | f + 1, b, n, t :: r, g, n', l', h, hn, hT => by
    have ih := tp_good f
    have row : ∀ (b : Bool) (n : Nat) (l : Vafmsa.Toks) (g : Fmt) (n' : Nat) (l' : Vafmsa.Toks), srcRow f b (n, l) = .ok (g, n', l') → n ≤ 14 → (∀ t ∈ l, TokOk t.tok) → Good b n l g n' l' := fun b n l g n' l' h hn hT => by
      obtain ⟨q, h1, h2⟩ := bind_ok h
      have a1 := takeSign_adv h1
      obtain ⟨i1, i2⟩ := ih b n q g n' l' h2 hn fun t ht => hT t (a1.2.1 t ht)
      exact ⟨a1.trans i1, i2⟩
    have hTr : ∀ x ∈ r, TokOk x.tok := fun x hx => hT x (List.mem_cons_of_mem _ hx)
    rw [tp_step] at h
    split at h
    · rename_i h0
      injection h with h
      obtain ⟨e1, e2⟩ := Prod.mk.inj h
      obtain ⟨e3, e4⟩ := Prod.mk.inj e2
      try dsimp only at e1 e3 e4
      subst e1 e3 e4
      exact ⟨adv_tail (fun z => by rw [h0] at z; cases z), rfl, hn, rfl, fun _ => rfl⟩
    rename_i h0
    cases hk : kindBegun t.tok with
    | none => rw [hk] at h; cases h
    | some k =>
      rw [hk] at h
      dsimp only at h
      split at h
      · cases h
      rename_i h14
      have hte : t.tok ≠ .ending := fun z => by rw [z] at hk; cases hk
      have at1 := adv_tail (r := r) hte
      unfold tpKind at h
      split at h
      · obtain ⟨⟨x, l1⟩, h1, h2⟩ := bind_ok h
        obtain ⟨⟨y, n2, l2⟩, h3, h4⟩ := map_ok h2
        obtain ⟨e1, e2⟩ := Prod.mk.inj h4
        obtain ⟨e3, e4⟩ := Prod.mk.inj e2
        dsimp only at e1 e3 e4
        subst e1 e3 e4
        obtain ⟨a1, x1, x2, tx, htx, etx⟩ := takeStr_adv h1
        obtain ⟨i1, i2, i3, i4, i5⟩ := ih b (n + 1) l1 y n' l' h3 (by omega) fun t ht => hT t (a1.2.1 t ht)
        refine ⟨a1.trans i1, by rw [i2]; show _ = n + (y.size + 1); omega, i3, ?_, i5⟩
        have hx := (hT tx htx).2.2.2 x etx
        show (!x.isEmpty && (VafmsBase.okText VafmsBase.LITERAL x && okPieces y)) = true
        rw [i4]
        unfold VafmsBase.okText
        rw [hx, decide_eq_true (show x.length ≤ VafmsBase.LITERAL from x2)]
        cases x with
        | nil => exact absurd x1 (by show ¬ 1 ≤ 0; decide)
        | cons a x => rfl
      split at h
      · obtain ⟨⟨⟨lo, hi⟩, l1⟩, h1, h2⟩ := bind_ok h
        obtain ⟨⟨y, n2, l2⟩, h3, h4⟩ := map_ok h2
        obtain ⟨e1, e2⟩ := Prod.mk.inj h4
        obtain ⟨e3, e4⟩ := Prod.mk.inj e2
        dsimp only at e1 e3 e4
        subst e1 e3 e4
        obtain ⟨a1, b1, b2, b3⟩ := takeTwo_adv h1
        obtain ⟨i1, i2, i3, i4, i5⟩ := ih b (n + 1) l1 y n' l' h3 (by omega) fun t ht => hTr t (a1.2.1 t ht)
        refine ⟨at1.trans (a1.trans i1), by rw [i2]; show _ = n + (y.size + 1); omega, i3, ?_, i5⟩
        show (decide (1 ≤ lo) && (decide (lo ≤ hi) && (decide (hi ≤ VafmsBase.DIGITS) && okPieces y))) = true
        rw [i4, decide_eq_true b1, decide_eq_true b2, decide_eq_true (show hi ≤ VafmsBase.DIGITS from b3)]
        rfl
      split at h
      · obtain ⟨⟨⟨lo, hi⟩, l1⟩, h1, h2⟩ := bind_ok h
        obtain ⟨⟨y, n2, l2⟩, h3, h4⟩ := map_ok h2
        obtain ⟨e1, e2⟩ := Prod.mk.inj h4
        obtain ⟨e3, e4⟩ := Prod.mk.inj e2
        dsimp only at e1 e3 e4
        subst e1 e3 e4
        obtain ⟨a1, b1, b2, b3⟩ := takeTwo_adv h1
        obtain ⟨i1, i2, i3, i4, i5⟩ := ih b (n + 1) l1 y n' l' h3 (by omega) fun t ht => hTr t (a1.2.1 t ht)
        refine ⟨at1.trans (a1.trans i1), by rw [i2]; show _ = n + (y.size + 1); omega, i3, ?_, i5⟩
        show (decide (1 ≤ lo) && (decide (lo ≤ hi) && (decide (hi ≤ VafmsBase.LETTERS) && okPieces y))) = true
        rw [i4, decide_eq_true b1, decide_eq_true b2, decide_eq_true (show hi ≤ VafmsBase.LETTERS from b3)]
        rfl
      split at h
      · obtain ⟨⟨ga, na, la⟩, h1, h2⟩ := bind_ok h
        obtain ⟨⟨gb, nb, lb⟩, h3, h4⟩ := bind_ok h2
        obtain ⟨⟨y, n2, l2⟩, h5, h6⟩ := map_ok h4
        obtain ⟨e1, e2⟩ := Prod.mk.inj h6
        obtain ⟨e3, e4⟩ := Prod.mk.inj e2
        dsimp only at e1 e3 e4
        subst e1 e3 e4
        obtain ⟨a1, a2, a3, a4, a5⟩ := row b (n + 1) r ga na la h1 (by omega) hTr
        obtain ⟨c1, c2, c3, c4, c5⟩ := row b na la gb nb lb h3 a3 fun t ht => hTr t (a1.2.1 t ht)
        obtain ⟨i1, i2, i3, i4, i5⟩ := ih b nb lb y n' l' h5 c3 fun t ht => hTr t (a1.2.1 t (c1.2.1 t ht))
        refine ⟨at1.trans (a1.trans (c1.trans i1)), by rw [i2, c2, a2]; show _ = n + (ga.size + gb.size + y.size + 1); omega, i3, ?_, fun hb => ?_⟩
        · show (okPieces ga && (okPieces gb && okPieces y)) = true
          rw [a4, c4, i4]
          rfl
        · show (ga.hasRep || (gb.hasRep || y.hasRep)) = false
          rw [a5 hb, c5 hb, i5 hb]
          rfl
      split at h
      · obtain ⟨⟨ga, na, la⟩, h1, h2⟩ := bind_ok h
        obtain ⟨⟨y, n2, l2⟩, h5, h6⟩ := map_ok h2
        obtain ⟨e1, e2⟩ := Prod.mk.inj h6
        obtain ⟨e3, e4⟩ := Prod.mk.inj e2
        dsimp only at e1 e3 e4
        subst e1 e3 e4
        obtain ⟨a1, a2, a3, a4, a5⟩ := row b (n + 1) r ga na la h1 (by omega) hTr
        obtain ⟨i1, i2, i3, i4, i5⟩ := ih b na la y n' l' h5 a3 fun t ht => hTr t (a1.2.1 t ht)
        refine ⟨at1.trans (a1.trans i1), by rw [i2, a2]; show _ = n + (ga.size + y.size + 1); omega, i3, ?_, fun hb => ?_⟩
        · show (okPieces ga && okPieces y) = true
          rw [a4, i4]
          rfl
        · show (ga.hasRep || y.hasRep) = false
          rw [a5 hb, i5 hb]
          rfl
      split at h
      · cases h
      rename_i hb
      obtain ⟨⟨x, l1⟩, h1, h2⟩ := bind_ok h
      obtain ⟨⟨⟨lo, hi⟩, l2⟩, h3, h4⟩ := bind_ok h2
      obtain ⟨⟨ga, na, la⟩, h5, h6⟩ := bind_ok h4
      obtain ⟨⟨y, n2, l3⟩, h7, h8⟩ := map_ok h6
      obtain ⟨e1, e2⟩ := Prod.mk.inj h8
      obtain ⟨e3, e4⟩ := Prod.mk.inj e2
      dsimp only at e1 e3 e4
      subst e1 e3 e4
      obtain ⟨s1, x1, x2, tx, htx, etx⟩ := takeStr_adv h1
      obtain ⟨t1, b1, b2, b3⟩ := takeTwo_adv h3
      obtain ⟨a1, a2, a3, a4, a5⟩ := row true (n + 1) l2 ga na la h5 (by omega) fun t ht => hTr t (s1.2.1 t (t1.2.1 t ht))
      obtain ⟨i1, i2, i3, i4, i5⟩ := ih b na la y n' l' h7 a3 fun t ht => hTr t (s1.2.1 t (t1.2.1 t (a1.2.1 t ht)))
      refine ⟨at1.trans (s1.trans (t1.trans (a1.trans i1))), by rw [i2, a2]; show _ = n + (ga.size + y.size + 1); omega, i3, ?_, fun hb' => absurd hb' hb⟩
      have hx := (hTr tx htx).2.2.2 x etx
      show (VafmsBase.okText VafmsBase.LITERAL x && (decide (lo ≤ hi) && (decide (hi ≤ VafmsBase.TIMES) && (!ga.hasRep && (okPieces ga && okPieces y))))) = true
      rw [a5 rfl, a4, i4, decide_eq_true b2, decide_eq_true (show hi ≤ VafmsBase.TIMES from b3)]
      unfold VafmsBase.okText
      rw [hx, decide_eq_true (show x.length ≤ VafmsBase.LITERAL from x2)]
      rfl
theorem row_good {f : Nat} {b : Bool} {n : Nat} {l : Vafmsa.Toks} {g : Fmt} {n' : Nat} {l' : Vafmsa.Toks} (h : srcRow f b (n, l) = .ok (g, n', l')) (hn : n ≤ 14) (hT : ∀ t ∈ l, TokOk t.tok) : Good b n l g n' l' := by
  obtain ⟨q, h1, h2⟩ := bind_ok h
  have a1 := takeSign_adv h1
  obtain ⟨i1, i2⟩ := tp_good f b n q g n' l' h2 hn fun t ht => hT t (a1.2.1 t ht)
  exact ⟨a1.trans i1, i2⟩
/-- reading a source, as what reads -/
def srcR (c : Cs) (m : Nat) : Rdr c where
  C := c.Reading
  S := SrcS
  I := Nat
  Er := Vafmsa.Fault
  At := SrcAt c
  Rz := FaultAt c
  bound := srcBound
  row := srcRow
  pre := preS m
  mono := SrcAt.mono
  ins := fun {Z H p s} ⟨dx, tl, us, L, i, h1, _⟩ => ⟨dx, _, h1, rdF_none (by decide +kernel) (by decide +kernel) (by decide +kernel), rdF_none (by decide +kernel) (by decide +kernel) (by decide +kernel)⟩
  later := FaultAt.later
  pre_bound := fun {i lo s s' v} ⟨p1, p2, p3, p4, p5⟩ h => by
    obtain ⟨⟨x, l⟩, h1, h2⟩ := map_ok h
    obtain ⟨rfl, rfl⟩ := Prod.mk.inj h2
    have a := (takeNum_adv h1).1
    exact ⟨Nat.le_trans a.2.2 p1, p2, p3, a.1 p4, fun t ht => p5 t (a.2.1 t ht)⟩
  pre_row := fun {i b s s' g} ⟨p1, p2, p3, p4, p5⟩ h => by
    obtain ⟨n, l⟩ := s
    obtain ⟨n', l'⟩ := s'
    obtain ⟨a, e1, e2, _⟩ := row_good h p3 p5
    exact ⟨Nat.le_trans a.2.2 p1, by show 14 < n' + m; have : 14 < n + m := p2; omega, e2, a.1 p4, fun t ht => p5 t (a.2.1 t ht)⟩
/-- one piece -/
def takePiece (c : Cs) (m f : Nat) (b : Bool) (n : Nat) (t : Vafmsa.Token) (r : Vafmsa.Toks) : Vafmsa.Got (Pce × SrcS) := match checkP n (kindBegun t.tok) b t.place with
  | some e => .error e
  | none => (if hasText ((kindBegun t.tok).getD 0) = true then (if (kindBegun t.tok).getD 0 = 0 then Vafmsa.takeStr 1 (t :: r) else Vafmsa.takeStr 0 r) else .ok ([], r)).bind fun x => (srcR c m).behind f ((kindBegun t.tok).getD 0) x.1 b (n + 1, x.2)
theorem bounds_two (c : Cs) (m k n : Nat) (l : Vafmsa.Toks) (h : hasBounds k = true) : (srcR c m).bounds k (n, l) = (Vafmsa.takeTwo (lowest k) 4 l).map fun u => (u.1, (n, u.2)) := by
  unfold Rdr.bounds
  rw [if_pos h]
  show (srcBound (lowest k) (n, l)).bind (fun x => (srcBound x.1 x.2).map fun y => ((x.1, y.1), y.2)) = _
  unfold srcBound Vafmsa.takeTwo
  dsimp only
  cases Vafmsa.takeNum (lowest k) 4 l with
  | error e => rfl
  | ok x =>
    obtain ⟨a, l1⟩ := x
    show ((Vafmsa.takeNum a 4 l1).map _).map _ = ((Vafmsa.takeNum a 4 l1).map _).map _
    cases Vafmsa.takeNum a 4 l1 <;> rfl
theorem bounds_no (c : Cs) (m k : Nat) (s : SrcS) (h : hasBounds k = false) : (srcR c m).bounds k s = .ok ((0, 0), s) := if_neg (by rw [h]; exact Bool.false_ne_true)
theorem tp_piece (c : Cs) (m f : Nat) (b : Bool) (n : Nat) (t : Vafmsa.Token) (r : Vafmsa.Toks) (h0 : t.tok ≠ .sign 125) : Vafmsa.takePieces (f + 1) b n (t :: r) = (takePiece c m f b n t r).bind fun x => (Vafmsa.takePieces f b x.2.1 x.2.2).map fun y => (consP x.1 y.1, y.2) := by
  rw [tp_step, if_neg h0]
  unfold takePiece
  cases hk : kindBegun t.tok with
  | none => rfl
  | some k =>
    dsimp only [checkP]
    by_cases h14 : 14 ≤ n
    · rw [if_pos h14, if_pos h14]
      rfl
    rw [if_neg h14, if_neg h14]
    show tpKind f b n t r k = _
    unfold tpKind
    have hk6 : k = 0 ∨ k = 1 ∨ k = 2 ∨ k = 3 ∨ k = 4 ∨ k = 5 := by
      rcases (kind_iff _ _).mp hk with ⟨h, _⟩ | ⟨h, _⟩ | ⟨h, _⟩ | ⟨h, _⟩ | ⟨h, _⟩ | ⟨h, _⟩ <;> omega
    rcases hk6 with rfl | rfl | rfl | rfl | rfl | rfl
    · show (Vafmsa.takeStr 1 (t :: r)).bind _ = Except.bind (Except.bind (Vafmsa.takeStr 1 (t :: r)) _) _
      cases Vafmsa.takeStr 1 (t :: r) <;> rfl
    · show _ = Except.bind (Except.bind ((srcR c m).bounds 1 (n + 1, r)) _) _
      rw [bounds_two c m 1 _ _ rfl]
      show (Vafmsa.takeTwo 1 4 r).bind _ = Except.bind (Except.bind ((Vafmsa.takeTwo 1 4 r).map _) _) _
      cases Vafmsa.takeTwo 1 4 r <;> rfl
    · show _ = Except.bind (Except.bind ((srcR c m).bounds 2 (n + 1, r)) _) _
      rw [bounds_two c m 2 _ _ rfl]
      show (Vafmsa.takeTwo 1 4 r).bind _ = Except.bind (Except.bind ((Vafmsa.takeTwo 1 4 r).map _) _) _
      cases Vafmsa.takeTwo 1 4 r <;> rfl
    · show (srcRow f b (n + 1, r)).bind _ = Except.bind (Except.map _ (Except.bind (srcRow f (b || false) (n + 1, r)) _)) _
      rw [Bool.or_false]
      cases srcRow f b (n + 1, r) with
      | error e => rfl
      | ok x =>
        show (srcRow f b x.2).bind _ = Except.bind (Except.map _ (Except.map _ (Except.bind (srcRow f (b || false) x.2) _))) _
        rw [Bool.or_false]
        cases srcRow f b x.2 <;> rfl
    · show (srcRow f b (n + 1, r)).bind _ = Except.bind (Except.map _ (Except.bind (srcRow f (b || false) (n + 1, r)) _)) _
      rw [Bool.or_false]
      cases srcRow f b (n + 1, r) <;> rfl
    · cases b with
      | true => rfl
      | false =>
        show (Vafmsa.takeStr 0 r).bind _ = Except.bind (Except.bind (Vafmsa.takeStr 0 r) fun x => Except.bind ((srcR c m).bounds 5 (n + 1, x.2)) _) _
        cases Vafmsa.takeStr 0 r with
        | error e => rfl
        | ok x =>
          show _ = Except.bind (Except.bind ((srcR c m).bounds 5 (n + 1, x.2)) _) _
          rw [bounds_two c m 5 _ _ rfl]
          show (Vafmsa.takeTwo 0 4 x.2).bind _ = Except.bind (Except.bind ((Vafmsa.takeTwo 0 4 x.2).map _) _) _
          cases Vafmsa.takeTwo 0 4 x.2 with
          | error e => rfl
          | ok u =>
            show (srcRow f true (n + 1, u.2)).bind _ = Except.bind (Except.map _ (Except.bind (srcRow f true (n + 1, u.2)) _)) _
            cases srcRow f true (n + 1, u.2) <;> rfl
end FX
end
section
set_option Elab.async false
set_option linter.all false
set_option maxRecDepth 100000
set_option maxHeartbeats 4000000
namespace FX
open PySem PySem.Spec PyProof.Rows L2 FT
open VafmsBase (Fmt)
local macro_rules | `(tactic| walk_at "rd") => `(tactic| try dsimp only [tM1, tMethA, ipI, tAug, tOp, tC, tCB, tCons, tNil, gName, tVar, tAsg, tRet, tIfS, tTest, tB, tNext, tDrop, tFld, tCKw, tCall, tMeth, rI0, rI, CMul, rEq, rNe, rEqD, rNeD, tBM, rAppend, rExtend, rCat, rIn, rIxT, rIxL, tSl, rSlL, tPart, tNoPart, tChain, tUn, rU, tIf, tNot, tOr, tAnd, tOrV, tAndV, tMake, sFld, sFldAug, tLst, tTup, tFault, pad, List.set, List.getElem?_cons_zero, List.getElem?_cons_succ, cxOf, List.map_cons, List.map_nil, List.append_nil, List.cons_append, List.nil_append])
local macro_rules | `(tactic| walk_at "sq") => `(tactic| (refine seq_go ?_; walk_at "rd"))
local macro_rules | `(tactic| walk_at "r0") => `(tactic| (rw [start_pad (by rfl)]; walk_at "rd"))
section
variable {P : Program} {w : World} {K : PySem.W.Frag} {mg : Str → Option Value} {base : Heap} {c : Cs}
theorem rowsN_good {c : Cs} (R : Rdr c) {i : R.I} {b : Bool} : ∀ {n : Nat} {s s' : R.S} {gs : List Fmt}, R.rowsN n i b s = .ok (gs, s') → R.pre i s → gs.length = n ∧ R.pre i s'
  | 0, s, s', gs, h, hp => by
    injection h with h
    obtain ⟨rfl, rfl⟩ := Prod.mk.inj h
    exact ⟨rfl, hp⟩
  | n + 1, s, s', gs, h, hp => by
    obtain ⟨⟨g, s1⟩, h1, h2⟩ := bind_ok h
    obtain ⟨⟨hs, s2⟩, h3, h4⟩ := map_ok h2
    obtain ⟨rfl, rfl⟩ := Prod.mk.inj h4
    obtain ⟨e1, e2⟩ := rowsN_good R h3 (R.pre_row hp h1)
    exact ⟨by rw [List.length_cons, e1], e2⟩
theorem behind_good {c : Cs} (R : Rdr c) {i : R.I} {b : Bool} {k : Nat} {t : List Nat} {s s' : R.S} {x : Pce} (h : R.behind i k t b s = .ok (x, s')) (hp : R.pre i s) (hk : k ≤ 5) (ht : hasText k = false → t = []) : PForm x ∧ R.pre i s' := by
  obtain ⟨⟨⟨lo, hi⟩, s1⟩, h1, h2⟩ := bind_ok h
  obtain ⟨⟨gs, s2⟩, h3, h4⟩ := map_ok h2
  obtain ⟨rfl, rfl⟩ := Prod.mk.inj h4
  have p1 : R.pre i s1 ∧ (hasBounds k = false → lo = 0 ∧ hi = 0) := by
    unfold Rdr.bounds at h1
    split at h1
    · rename_i hb
      obtain ⟨⟨a, s3⟩, h5, h6⟩ := bind_ok h1
      obtain ⟨⟨a2, s4⟩, h7, h8⟩ := map_ok h6
      obtain ⟨e1, rfl⟩ := Prod.mk.inj h8
      exact ⟨R.pre_bound (R.pre_bound hp h5) h7, fun z => by rw [z] at hb; cases hb⟩
    · injection h1 with h1
      obtain ⟨e1, rfl⟩ := Prod.mk.inj h1
      obtain ⟨rfl, rfl⟩ := Prod.mk.inj e1
      exact ⟨hp, fun _ => ⟨rfl, rfl⟩⟩
  obtain ⟨l1, p2⟩ := rowsN_good R h3 p1.1
  refine ⟨?_, p2⟩
  dsimp only at h3 l1 ⊢
  have hk6 : k = 0 ∨ k = 1 ∨ k = 2 ∨ k = 3 ∨ k = 4 ∨ k = 5 := by omega
  rcases hk6 with rfl | rfl | rfl | rfl | rfl | rfl
  · obtain ⟨rfl, rfl⟩ := p1.2 rfl
    match gs, l1 with
    | [], _ => exact .lit t
  · obtain rfl := ht rfl
    match gs, l1 with
    | [], _ => exact .num lo hi
  · obtain rfl := ht rfl
    match gs, l1 with
    | [], _ => exact .word lo hi
  · obtain ⟨rfl, rfl⟩ := p1.2 rfl
    obtain rfl := ht rfl
    match gs, l1 with
    | [a, b], _ => exact .alt a b
  · obtain ⟨rfl, rfl⟩ := p1.2 rfl
    obtain rfl := ht rfl
    match gs, l1 with
    | [a], _ => exact .opt a
  · match gs, l1 with
    | [a], _ => exact .rep t lo hi a
theorem kind_le {t : Vafmsa.Tok} {k : Nat} (h : kindBegun t = some k) : k ≤ 5 := by
  rcases (kind_iff _ _).mp h with ⟨h, _⟩ | ⟨h, _⟩ | ⟨h, _⟩ | ⟨h, _⟩ | ⟨h, _⟩ | ⟨h, _⟩ <;> omega
/-- behind the token that begins the piece -/
theorem pre_text {m f n k : Nat} {b : Bool} {t : Vafmsa.Token} {r : Vafmsa.Toks} {x : List Nat} {l : Vafmsa.Toks} (hp : preS (m + 1) (f + 1) (n, t :: r)) (hk : kindBegun t.tok = some k) (hn : ¬ 14 ≤ n) (h : (if hasText k = true then (if k = 0 then Vafmsa.takeStr 1 (t :: r) else Vafmsa.takeStr 0 r) else .ok ([], r)) = .ok (x, l)) : preS m f (n + 1, l) ∧ l.length ≤ r.length ∧ (hasText k = false → x = []) := by
  obtain ⟨p1, p2, p3, p4, p5⟩ := hp
  have hte : t.tok ≠ .ending := fun z => by rw [z] at hk; cases hk
  have at1 := adv_tail (r := r) hte
  have key : Adv (t :: r) l ∧ l.length ≤ r.length ∧ (hasText k = false → x = []) := by
    split at h
    · rename_i ht
      split at h
      · have a := takeStr_adv h
        refine ⟨a.1, ?_, fun z => by rw [z] at ht; cases ht⟩
        obtain ⟨pl, tk⟩ := t
        cases tk with
        | str y =>
          have h' : (if 1 ≤ y.length ∧ y.length ≤ VafmsBase.LITERAL then Except.ok (y, r) else Except.error (⟨3, pl⟩ : Vafmsa.Fault)) = .ok (x, l) := h
          split at h'
          · injection h' with h'
            obtain ⟨_, rfl⟩ := Prod.mk.inj h'
            exact Nat.le_refl _
          · cases h'
        | word _ => cases h
        | num _ => cases h
        | sign _ => cases h
        | ending => cases h
      · have a := takeStr_adv h
        exact ⟨at1.trans a.1, a.1.2.2, fun z => by rw [z] at ht; cases ht⟩
    · injection h with h
      obtain ⟨rfl, rfl⟩ := Prod.mk.inj h
      exact ⟨at1, Nat.le_refl _, fun _ => rfl⟩
  obtain ⟨a, a2, a3⟩ := key
  have p1' : r.length + 1 ≤ f + 1 := p1
  have p2' : 14 < n + (m + 1) := p2
  exact ⟨⟨by show l.length ≤ f; omega, by show 14 < n + 1 + m; omega, by show n + 1 ≤ 14; omega, a.1 p4, fun t ht => p5 t (a.2.1 t ht)⟩, a2, a3⟩
theorem check_none {n : Nat} {ko : Option Nat} {b : Bool} {pl : Nat} (h : checkP n ko b pl = none) : ∃ k, ko = some k ∧ ¬ 14 ≤ n := by
  cases ko with
  | none => cases h
  | some k =>
    refine ⟨k, rfl, fun z => ?_⟩
    have : checkP n (some k) b pl = some ⟨4, pl⟩ := if_pos z
    rw [this] at h
    cases h
theorem piece_good {m f n n2 : Nat} {b : Bool} {t : Vafmsa.Token} {r l2 : Vafmsa.Toks} {x : Pce} (h : takePiece c m f b n t r = .ok (x, n2, l2)) (hp : preS (m + 1) (f + 1) (n, t :: r)) : PForm x ∧ preS (m + 1) f (n2, l2) := by
  unfold takePiece at h
  cases hc : checkP n (kindBegun t.tok) b t.place with
  | some e => rw [hc] at h; cases h
  | none =>
    rw [hc] at h
    obtain ⟨k, hk, hn⟩ := check_none hc
    rw [hk] at h
    obtain ⟨⟨y, l⟩, h1, h2⟩ := bind_ok h
    obtain ⟨p1, p2, p3⟩ := pre_text (b := b) hp hk hn h1
    obtain ⟨g1, g2⟩ := behind_good (srcR c m) h2 p1 (kind_le hk) p3
    obtain ⟨q1, q2, q3, q4, q5⟩ := (show preS m f (n2, l2) from g2)
    exact ⟨g1, q1, by show 14 < n2 + (m + 1); have : 14 < n2 + m := q2; omega, q3, q4, q5⟩
/-- one piece read -/
def spPiece (c : Cs) (m : Nat) : Sp := fun vs H Q E => ∃ (Z : List Addr) (p : Addr) (f : Nat) (b : Bool) (n : Nat) (t : Vafmsa.Token) (r : Vafmsa.Toks), vs = [.ref p, .bl b] ∧ p ∈ Z ∧ (∀ z ∈ Z, H z ≠ none) ∧ SrcAt c Z H p (n, t :: r) ∧ preS (m + 1) (f + 1) (n, t :: r) ∧ (srcR c m).GivesP Z H p (takePiece c m f b n t r) Q E
theorem read_bound_srcR (T : Top K mg c) (m : Nat) : MethOk P w K mg base (L2.CX P w) 4 c.Reading "read_bound" (srcR c m).spBound := (d_Reading_read_bound T).imp fun vs H Q E h => by
  obtain ⟨Z, p, lo, i, s, rfl, hpZ, hz, hA, hpre, q⟩ := h
  obtain ⟨n, l⟩ := s
  obtain ⟨_, _, _, p4, _⟩ := (show preS m i (n, l) from hpre)
  obtain ⟨t, r, rfl⟩ := ends_ne p4
  refine ⟨Z, p, lo, n, t, r, rfl, hpZ, hA, ?_⟩
  have q' : (srcR c m).GivesB Z H p ((Vafmsa.takeNum lo 4 (t :: r)).map fun x => (x.1, (n, x.2))) Q E := q
  cases hb : Vafmsa.takeNum lo 4 (t :: r) with
  | error e =>
    rw [hb] at q'
    exact q'
  | ok x =>
    rw [hb] at q'
    exact q'
theorem sc_Reading_read_piece : FnScope ["self", "within_repeat", "token", "kind", "text"] ["self", "within_repeat"] (defScope (inClass (topS 108) 6)) := ⟨rfl, rfl, rfl, by decide +kernel, rfl, by decide +kernel, by decide +kernel⟩
theorem d_Reading_read_piece (T : Top K mg c) {m kr : Nat} (hkr : 4 ≤ kr) (W : MethOk P w K mg base (L2.CX P w) kr c.Reading "read_row" (srcR c m).spRow) : MethOk P w K mg base (L2.CX P w) (kr + 2) c.Reading "read_piece" (spPiece c m) := T.m_Reading_read_piece.ok T.c_Reading.cl fun f fd F => by
  have BT := d_read_behind_text (P := P) (w := w) (base := base) T (srcR c m) (k0 := kr) (by omega) hkr (Nat.le_refl _) (read_bound_srcR T m) W
  refine F.okX sc_Reading_read_piece (fun vs H Q E h => ?_) (fun cdv A outer s H vs Q E hr h => ⟨_, (pss_cons (ps_set (i := 2) sc_Reading_read_piece.nd rfl (.inl rfl) (pmeth0 (d_Reading_take T) (hr.mono (by omega)) pass0 (pv 0)))
 (pss_cons (ps_set (i := 3) sc_Reading_read_piece.nd rfl (.inl rfl) (pcall (d_kind_begun T) (hr.mono (by omega)) pass0 (pa_cons (pv 2) pa_nil)))
 (pss_cons (ps_expr (pmeth (E := E) (d_Reading_check_piece T) (hr.mono (by omega)) (passes_call (takes_of rfl rfl rfl rfl) fun _ _ _ _ h => h) (pv 0) (pa_cons (pv 2) (pa_cons (pv 3) (pa_cons (pv 1) pa_nil)))))
 (pss_cons (ps_set (i := 4) sc_Reading_read_piece.nd rfl (.inl rfl) (pe_ifExp (pt_val (pcall (d_has_text T) (hr.mono (by omega)) pass0 (pa_cons (pv 3) pa_nil))) (pmeth (E := E) (d_Reading_read_text T) (hr.mono (by omega)) (passes_call (takes_of rfl rfl rfl rfl) fun _ _ _ _ h => h) (pv 0) (pa_cons (pv 2) (pa_cons (pv 3) pa_nil))) (pe_lst pa_nil)))
 (pss_one (ps_ret (pcall (E := E) BT (hr.mono (by omega)) (passes_call (takes_of rfl rfl rfl rfl) fun _ _ _ _ h => h) (pa_cons (pv 0) (pa_cons (pv 3) (pa_cons (pv 4) (pa_cons (pv 1) pa_nil))))))))))), ?_⟩)
  · obtain ⟨Z, p, i, b, n, t, r, rfl, _⟩ := h
    rfl
  · obtain ⟨Z, p, i, b, n, t, r, rfl, hpZ, hz, hA, hpre, q⟩ := h
    obtain ⟨dx, tl, us, L, j, v0, hP, _⟩ := hA.head
    walk_at "r0"
    walk_at "sq"
    refine ⟨_, rfl, p, dx, _, rfl, hP, rdF_none (by decide +kernel) (by decide +kernel) (by decide +kernel), Z, p, n, t, r, rfl, hpZ, hA, fun v H1 b1 hA1 hT1 => ?_⟩
    walk_at "sq"
    refine ⟨_, rfl, v, t, rfl, hT1.same hideZ_same, ?_⟩
    obtain ⟨dx1, tl1, us1, L1, i1, hP1, _⟩ := id hA1
    walk_at "sq"
    unfold takePiece at q
    refine ⟨_, rfl, p, dx1, _, rfl, hP1, rdF_none (by decide +kernel) (by decide +kernel) (by decide +kernel), _, rfl, _, rfl, _, rfl, Z, p, n, r, v, t, kindBegun t.tok, b, rfl, hpZ, hA1, hT1, fun e he => ?_, fun he H2 b2 hA2 => ?_⟩
    · rw [he] at q
      have q' : FaultAt c p H e E := q
      exact q'.later b1 hA1.there
    rw [he] at q
    dsimp only at q
    obtain ⟨k, hk, hn⟩ := check_none he
    rw [hk] at q ⊢
    have b12 := b1.trans b2
    have hT2 : TkAt c (hideZ Z H2) v t := hT1.same (b2.hide hpZ)
    have q1 : (srcR c m).GivesP Z H p ((if hasText k = true then (if k = 0 then Vafmsa.takeStr 1 (t :: r) else Vafmsa.takeStr 0 r) else .ok ([], r)).bind fun x => (srcR c m).behind i k x.1 b (n + 1, x.2)) Q E := q
    clear q
    refine seq_by (fun σ' H' => ∃ (ta : Addr) (x : List Nat) (l : Vafmsa.Toks), σ' = [some (.ref p), some (.bl b), some v, some (.int (k : Int)), some (.ref ta)] ∧ Beside p H H' ∧ SrcAt c Z H' p (n + 1, l) ∧ hideZ Z H' ta = some (.lst (nvs x)) ∧ (if hasText k = true then (if k = 0 then Vafmsa.takeStr 1 (t :: r) else Vafmsa.takeStr 0 r) else .ok ([], r)) = .ok (x, l)) ?_ ?_
    rotate_left
    · intro N hN
      walk_at "rd"
      refine ⟨_, rfl, k, rfl, fun H3 s3 => ⟨_, rfl, ?_⟩⟩
      have b13 := b12.trans (Beside.of s3)
      have hA3 : SrcAt c Z H3 p (n + 1, r) := hA2.mono (by
        cases e : H2 p with
        | none => exact absurd e hA2.there
        | some o => exact s3 _ _ e) (hideZ_of s3)
      cases ht : hasText k with
      | true =>
        rw [ht, if_pos rfl] at q1
        rw [if_pos rfl]
        obtain ⟨dx3, tl3, us3, L3, i3, hP3, _⟩ := id hA3
        refine ⟨_, rfl, p, dx3, _, rfl, hP3, rdF_none (by decide +kernel) (by decide +kernel) (by decide +kernel), _, rfl, _, rfl, Z, p, n + 1, k, r, v, t, rfl, hpZ, b13.occ hA3.there hz, hA3, hT2.same (hideZ_of s3), ?_⟩
        by_cases h0 : k = 0
        · refine .inl ⟨h0, ?_, ?_⟩
          · rcases (kind_iff _ _).mp hk with ⟨_, h⟩ | ⟨h, _⟩ | ⟨h, _⟩ | ⟨h, _⟩ | ⟨h, _⟩ | ⟨h, _⟩
            · obtain ⟨pl, tk⟩ := t
              cases tk with
              | str y => exact ⟨y, rfl⟩
              | _ => cases h
            all_goals omega
          · rw [if_pos h0] at q1
            cases hs : Vafmsa.takeStr 1 (t :: r) with
            | error e =>
              rw [hs] at q1
              have q' : FaultAt c p H e E := q1
              exact q'.later b13 hA3.there
            | ok y =>
              obtain ⟨x, l⟩ := y
              intro ta H4 b4 hA4 hta
              exact hN _ _ ⟨ta, x, l, rfl, b13.trans b4, hA4, hta, by rw [if_pos ht, if_pos h0]; exact hs⟩
        · have h5 : k = 5 := by
            rcases (kind_iff _ _).mp hk with ⟨h, _⟩ | ⟨rfl, _⟩ | ⟨rfl, _⟩ | ⟨rfl, _⟩ | ⟨rfl, _⟩ | ⟨h, _⟩
            · exact absurd h h0
            · cases ht
            · cases ht
            · cases ht
            · cases ht
            · exact h
          have hrne : r ≠ [] := by
            have hte : t.tok ≠ .ending := fun z => by rw [z] at hk; cases hk
            obtain ⟨_, _, _, p4, _⟩ := hpre
            obtain ⟨y, l, e⟩ := ends_ne ((adv_tail (r := r) hte).1 p4)
            rw [e]
            exact fun z => by cases z
          refine .inr ⟨h5, hrne, ?_⟩
          rw [if_neg h0] at q1
          cases hs : Vafmsa.takeStr 0 r with
          | error e =>
            rw [hs] at q1
            have q' : FaultAt c p H e E := q1
            exact q'.later b13 hA3.there
          | ok y =>
            obtain ⟨x, l⟩ := y
            intro ta H4 b4 hA4 hta
            exact hN _ _ ⟨ta, x, l, rfl, b13.trans b4, hA4, hta, by rw [if_pos ht, if_neg h0]; exact hs⟩
      | false =>
        rw [if_neg Bool.false_ne_true]
        refine ⟨Nat.zero_le _, fun D hD => ?_⟩
        have hpD : p ≠ D := fun z => hA3.there (z ▸ hD)
        have hDZ : D ∉ Z := fun mm => b13.occ hA3.there hz D mm hD
        refine hN _ _ ⟨D, [], r, rfl, b13.new (b13.free hD hA3.there), hA3.mono (upd_ne hpD) (hideZ_add hD), ?_, by rw [if_neg (by rw [ht]; exact Bool.false_ne_true)]⟩
        rw [hideZ_ne hDZ]
        exact upd_same
    rintro _ H3 ⟨ta, x, l, rfl, b3, hA3, hta, hx⟩
    rw [hx] at q1
    have q2 : (srcR c m).GivesP Z H p ((srcR c m).behind i k x b (n + 1, l)) Q E := q1
    obtain ⟨pp, _, _⟩ := pre_text (b := b) hpre hk hn hx
    walk_at "rd"
    refine ⟨_, rfl, _, rfl, _, rfl, _, rfl, Z, p, k, ta, x, b, i, (n + 1, l), rfl, kind_le hk, hpZ, b3.occ hA3.there hz, hA3, pp, hta, ?_⟩
    cases hb : (srcR c m).behind i k x b (n + 1, l) with
    | error e =>
      rw [hb] at q2
      exact (srcR c m).later q2 b3 hA3.there
    | ok y =>
      obtain ⟨pc, s'⟩ := y
      rw [hb] at q2
      exact fun v' H4 b4 hA4 hp4 => q2 v' H4 (b3.trans b4) hA4 hp4
end
end FX
end
section
set_option Elab.async false
set_option linter.all false
set_option maxRecDepth 100000
set_option maxHeartbeats 4000000
namespace FX
open PySem PySem.Spec PyProof.Rows L2 FT
open VafmsBase (Fmt)
local macro_rules | `(tactic| walk_at "rd") => `(tactic| try dsimp only [tM1, tMethA, ipI, tAug, tOp, tC, tCB, tCons, tNil, gName, tVar, tAsg, tRet, tIfS, tTest, tB, tNext, tDrop, tFld, tCKw, tCall, tMeth, rI0, rI, CMul, rEq, rNe, rEqD, rNeD, tBM, rAppend, rExtend, rCat, rIn, rIxT, rIxL, tSl, rSlL, tPart, tNoPart, tChain, tUn, rU, tIf, tNot, tOr, tAnd, tOrV, tAndV, tMake, sFld, sFldAug, tLst, tTup, tFault, pad, List.set, List.getElem?_cons_zero, List.getElem?_cons_succ, cxOf, List.map_cons, List.map_nil, List.append_nil, List.cons_append, List.nil_append])
local macro_rules | `(tactic| walk_at "sq") => `(tactic| (refine seq_go ?_; walk_at "rd"))
local macro_rules | `(tactic| walk_at "r0") => `(tactic| (rw [start_pad (by rfl)]; walk_at "rd"))
section
variable {P : Program} {w : World} {K : PySem.W.Frag} {mg : Str → Option Value} {base : Heap} {c : Cs}
theorem e_lb : Str.ofString "{" = ⟨([123] : List Nat).toArray⟩ := by decide +kernel
theorem e_rb : Str.ofString "}" = ⟨([125] : List Nat).toArray⟩ := by decide +kernel
theorem e_lp : Str.ofString "(" = ⟨([40] : List Nat).toArray⟩ := by decide +kernel
theorem e_rp : Str.ofString ")" = ⟨([41] : List Nat).toArray⟩ := by decide +kernel
theorem e_sc : Str.ofString ";" = ⟨([59] : List Nat).toArray⟩ := by decide +kernel
theorem e_format : Str.ofString "format" = ⟨(Vafmsa.word "format").toArray⟩ := by decide +kernel
theorem e_value : Str.ofString "value" = ⟨(Vafmsa.word "value").toArray⟩ := by decide +kernel
theorem mark_sign {t : Vafmsa.Tok} {b : Nat} (ok : TokOk t) (hb : isSign b = true) : markOf t = some [b] ↔ t = .sign b := by
  cases t with
  | word w => exact ⟨fun h => absurd (by injection h with h; rw [h]) (ok.2.2.1 b hb), fun h => by (cases h)⟩
  | sign x => exact ⟨fun h => by injection h with h; injection h with h; rw [h], fun h => by injection h with h; rw [h]; rfl⟩
  | num _ => exact ⟨fun h => by (cases h), fun h => by (cases h)⟩
  | str _ => exact ⟨fun h => by (cases h), fun h => by (cases h)⟩
  | ending => exact ⟨fun h => by (cases h), fun h => by (cases h)⟩
theorem mark_word {t : Vafmsa.Tok} {x : List Nat} (hx : 2 ≤ x.length) : markOf t = some x ↔ t = .word x := by
  cases t with
  | word w => exact ⟨fun h => by injection h with h; rw [h], fun h => by injection h with h; rw [h]; rfl⟩
  | sign b => exact ⟨fun h => by injection h with h; rw [← h] at hx; exact absurd hx (by show ¬ 2 ≤ 1; decide), fun h => by (cases h)⟩
  | num _ => exact ⟨fun h => by (cases h), fun h => by (cases h)⟩
  | str _ => exact ⟨fun h => by (cases h), fun h => by (cases h)⟩
  | ending => exact ⟨fun h => by (cases h), fun h => by (cases h)⟩
theorem MethAt.never {C : Addr} {m qual : Str} {st : Stmt} {ps : List Str} {CX : CXT} {k : Nat} (D : MethAt K C m qual st ps) (hc : Cls K C) : MethOk P w K mg base CX k C m (fun _ _ _ _ => False) := D.ok hc fun f fd F => ⟨fun _ _ _ _ h => h.elim, fun _ _ _ _ _ _ _ _ _ _ _ _ _ h => h.elim⟩
theorem rowOf_append (ps : List Pce) (x : Pce) (r : Fmt) : rowOf (ps ++ [x]) r = rowOf ps (consP x r) := by
  unfold rowOf
  rw [List.foldr_append]
  rfl
theorem rowsN_le {m i : Nat} {b : Bool} : ∀ {k : Nat} {s s' : SrcS} {gs : List Fmt}, (srcR c m).rowsN k i b s = .ok (gs, s') → preS m i s → s.1 ≤ s'.1 ∧ s'.2.length ≤ s.2.length
  | 0, s, s', gs, h, hp => by
    injection h with h
    obtain ⟨rfl, rfl⟩ := Prod.mk.inj h
    exact ⟨Nat.le_refl _, Nat.le_refl _⟩
  | k + 1, s, s', gs, h, hp => by
    obtain ⟨⟨g, s1⟩, h1, h2⟩ := bind_ok h
    obtain ⟨⟨hs, s2⟩, h3, h4⟩ := map_ok h2
    obtain ⟨rfl, rfl⟩ := Prod.mk.inj h4
    have ih := rowsN_le h3 ((srcR c m).pre_row hp h1)
    obtain ⟨n, l⟩ := s
    obtain ⟨n1, l1⟩ := s1
    obtain ⟨a, e1, _⟩ := row_good h1 hp.2.2.1 hp.2.2.2.2
    have := a.2.2
    dsimp only at *
    omega
theorem behind_le {m i k : Nat} {b : Bool} {t : List Nat} {s s' : SrcS} {x : Pce} (h : (srcR c m).behind i k t b s = .ok (x, s')) (hp : preS m i s) : s.1 ≤ s'.1 ∧ s'.2.length ≤ s.2.length := by
  obtain ⟨⟨⟨lo, hi⟩, s1⟩, h1, h2⟩ := bind_ok h
  obtain ⟨⟨gs, s2⟩, h3, h4⟩ := map_ok h2
  obtain ⟨rfl, rfl⟩ := Prod.mk.inj h4
  have p1 : preS m i s1 ∧ s.1 ≤ s1.1 ∧ s1.2.length ≤ s.2.length := by
    unfold Rdr.bounds at h1
    split at h1
    · obtain ⟨⟨a, s3⟩, h5, h6⟩ := bind_ok h1
      obtain ⟨⟨a2, s4⟩, h7, h8⟩ := map_ok h6
      obtain ⟨e1, rfl⟩ := Prod.mk.inj h8
      have q1 := (srcR c m).pre_bound hp h5
      have q2 := (srcR c m).pre_bound q1 h7
      obtain ⟨⟨y, l⟩, g1, g2⟩ := map_ok h5
      obtain ⟨rfl, rfl⟩ := Prod.mk.inj g2
      obtain ⟨⟨y2, l2⟩, g3, g4⟩ := map_ok h7
      obtain ⟨rfl, rfl⟩ := Prod.mk.inj g4
      have a1 := (takeNum_adv g1).1.2.2
      have a2 := (takeNum_adv g3).1.2.2
      dsimp only at *
      exact ⟨q2, Nat.le_refl _, Nat.le_trans a2 a1⟩
    · injection h1 with h1
      obtain ⟨_, rfl⟩ := Prod.mk.inj h1
      exact ⟨hp, Nat.le_refl _, Nat.le_refl _⟩
  have r1 := rowsN_le h3 p1.1
  dsimp only at *
  omega
theorem piece_le {m f n n2 : Nat} {b : Bool} {t : Vafmsa.Token} {r l2 : Vafmsa.Toks} {x : Pce} (h : takePiece c m f b n t r = .ok (x, n2, l2)) (hp : preS (m + 1) (f + 1) (n, t :: r)) : n + 1 ≤ n2 ∧ l2.length ≤ r.length := by
  unfold takePiece at h
  cases hc : checkP n (kindBegun t.tok) b t.place with
  | some e => rw [hc] at h; cases h
  | none =>
    rw [hc] at h
    obtain ⟨k, hk, hn⟩ := check_none hc
    rw [hk] at h
    obtain ⟨⟨y, l⟩, h1, h2⟩ := bind_ok h
    obtain ⟨p1, p2, p3⟩ := pre_text (b := b) hp hk hn h1
    have g := behind_le h2 p1
    dsimp only at *
    omega
theorem sc_Reading_read_row : FnScope ["self", "within_repeat", "row"] ["self", "within_repeat"] (defScope (inClass (topS 108) 5)) := ⟨rfl, rfl, rfl, by decide +kernel, rfl, by decide +kernel, by decide +kernel⟩
theorem d_Reading_read_row (T : Top K mg c) : ∀ m, MethOk P w K mg base (L2.CX P w) (3 * m + 5) c.Reading "read_row" (srcR c m).spRow
  | 0 => (MethAt.never T.m_Reading_read_row T.c_Reading.cl).imp fun vs H Q E h => by
    obtain ⟨Z, p, i, b, s, _, _, _, _, hp, _⟩ := h
    obtain ⟨_, p2, p3, _⟩ := (show preS 0 i s from hp)
    omega
  | m + 1 => T.m_Reading_read_row.ok T.c_Reading.cl fun f fd F => by
    have RP := d_Reading_read_piece (P := P) (w := w) (base := base) T (m := m) (kr := 3 * m + 5) (by omega) (d_Reading_read_row T m)
    refine F.okX sc_Reading_read_row (fun vs H Q E h => ?_) (fun cdv A outer s H vs Q E hr h => ⟨_, (pss_cons (ps_expr (pmeth (E := E) (d_Reading_take_mark T) (hr.mono (by omega)) (passes_call (takes_of rfl rfl rfl rfl) fun _ _ _ _ h => h) (pv 0) (pa_cons pe_str pa_nil)))
 (pss_cons (ps_set (i := 2) sc_Reading_read_row.nd rfl (.inl rfl) (pe_lst pa_nil))
 (pss_cons (ps_while (by first | exact PassesOwn.leaving | exact PassesOwn.never) (pt_not (pt_val (pcall (d_is_mark T) (hr.mono (by omega)) pass0 (pa_cons (pe_ix ix_list (pe_fld (pv 0) rfl) (pe_fld (pv 0) rfl) (fun _ _ => rfl)) (pa_cons pe_str pa_nil)))))
 (pss_one (ps_expr (pe_bm PySem.F.plainAttrs_list PySem.F.slot_list_append PySem.F.type_list_append mt_append (pv 2) (pa_cons (pmeth (E := E) RP (hr.mono (by omega)) (passes_call (takes_of rfl rfl rfl rfl) fun _ _ _ _ h => h) (pv 0) (pa_cons (pv 1) pa_nil)) pa_nil)))))
 (pss_cons (ps_expr (pmeth (E := E) (d_Reading_take_mark T) (hr.mono (by omega)) (passes_call (takes_of rfl rfl rfl rfl) fun _ _ _ _ h => h) (pv 0) (pa_cons pe_str pa_nil)))
 (pss_one (ps_ret (pv 2))))))), ?_⟩)
    · obtain ⟨Z, p, i, b, s, rfl, _⟩ := h
      rfl
    · obtain ⟨Z, p, i, b, s, rfl, hpZ, hz, hA, hpre, q⟩ := h
      obtain ⟨n, l⟩ := s
      replace hpre : preS (m + 1) i (n, l) := hpre
      replace hA : SrcAt c Z H p (n, l) := hA
      replace q : (srcR c (m + 1)).GivesR Z H p (srcRow i b (n, l)) Q E := q
      obtain ⟨t, r, rfl⟩ := ends_ne hpre.2.2.2.1
      obtain ⟨dx, tl, us, L, j, v0, hP, _⟩ := hA.head
      have hTt : TokOk t.tok := hpre.2.2.2.2 t (List.mem_cons_self ..)
      unfold srcRow at q
      dsimp only at q
      rw [takeSign_at] at q
      walk_at "r0"
      walk_at "sq"
      refine ⟨_, rfl, p, dx, _, rfl, hP, rdF_none (by decide +kernel) (by decide +kernel) (by decide +kernel), Z, p, n, t, r, [123], by rw [e_lb], hpZ, hA, fun hm H1 b1 hA1 => ?_, fun hm => ?_⟩
      rotate_left
      · rw [if_neg fun z => hm ((mark_sign hTt (by decide)).mpr z)] at q
        exact q
      have hs : t.tok = .sign 123 := (mark_sign hTt (by decide)).mp hm
      rw [if_pos hs] at q
      have q1 : (srcR c (m + 1)).GivesR Z H p (Vafmsa.takePieces i b n r) Q E := q
      clear q
      have at1 := adv_tail (t := t) (r := r) (fun z => by rw [hs] at z; cases z)
      have hpre1 : preS (m + 1) i (n, r) := ⟨Nat.le_trans at1.2.2 hpre.1, hpre.2.1, hpre.2.2.1, at1.1 hpre.2.2.2.1, fun x hx => hpre.2.2.2.2 x (at1.2.1 x hx)⟩
      walk_at "sq"
      refine ⟨Nat.zero_le _, fun D hD => ?_⟩
      have hpD : p ≠ D := fun z => hA1.there (z ▸ hD)
      have hDZ : D ∉ Z := fun mm => b1.occ hA1.there hz D mm hD
      refine seq_go ?_
      refine ⟨fun mm σ H' => ∃ (n' f' : Nat) (l' : Vafmsa.Toks) (ps : List Pce) (vs' : List V), mm = l'.length ∧ σ = [some (.ref p), some (.bl b), some (.ref D)] ∧ Beside p H H' ∧ (∀ z ∈ D :: Z, H' z ≠ none) ∧ SrcAt c (D :: Z) H' p (n', l') ∧ preS (m + 1) f' (n', l') ∧ H' D = some (.lst vs') ∧ Paired (PceAt c (hideZ (D :: Z) H')) vs' ps ∧ (∀ x ∈ ps, PForm x) ∧ ps.length ≤ n' ∧ Vafmsa.takePieces i b n r = (Vafmsa.takePieces f' b n' l').map fun y => (rowOf ps y.1, y.2), ⟨_, n, i, r, [], [], rfl, rfl, b1.new (b1.free hD hA1.there), ?_, hA1.mono (upd_ne hpD) (hideZ_new hD (hideZ_add hD)), hpre1, upd_same, .nil, fun x hx => (by cases hx), ?_, ?_⟩, ?_⟩
      · intro z mz
        by_cases e : z = D
        · rw [e, upd_same]
          exact fun z => by cases z
        · rw [upd_ne e]
          rcases List.mem_cons.mp mz with mz | mz
          · exact absurd mz e
          · exact b1.occ hA1.there hz z mz
      · exact Nat.zero_le _
      · cases Vafmsa.takePieces i b n r <;> rfl
      rintro mm σ H2 ⟨n', f', l', ps, vs', rfl, rfl, b2, hz2, hA2, hpre2, hD2, hps, hform, hsz, heq⟩
      obtain ⟨t2, r2, rfl⟩ := ends_ne hpre2.2.2.2.1
      obtain ⟨f', rfl⟩ : ∃ g, f' = g + 1 := ⟨f' - 1, by have := hpre2.1; simp only [List.length_cons] at this; omega⟩
      have hT2 : TokOk t2.tok := hpre2.2.2.2.2 t2 (List.mem_cons_self ..)
      obtain ⟨dx2, tl2, us2, L2', j2, v2, hP2, hTl2, hus2, hr2, hv2, hTk2⟩ := hA2.head
      walk_at "rd"
      refine ⟨_, rfl, p, c.Reading, dx2, _, _, rfl, hP2, T.c_Reading.cl, T.c_Reading.na _ (by simp), rdF_tokens, _, rfl, p, c.Reading, dx2, _, _, rfl, hP2, T.c_Reading.cl, T.c_Reading.na _ (by simp), rdF_at, tl2, _, _, _, rfl, rfl, SqL.of (hideZ_same _ _ hTl2), atI_nat (j := j2) hv2, _, t2, [125], by rw [e_rb], hTk2.same hideZ_same, _, rfl, ?_⟩
      by_cases he : t2.tok = .sign 125
      · rw [decide_eq_true ((mark_sign hT2 (by decide)).mpr he), if_neg (by decide)]
        rw [tp_step, if_pos he] at heq
        rw [heq] at q1
        walk_at "sq"
        refine ⟨_, rfl, p, dx2, _, rfl, hP2, rdF_none (by decide +kernel) (by decide +kernel) (by decide +kernel), Z, p, n', t2, r2, [125], by rw [e_rb], hpZ, hA2.mono rfl hideZ_more, fun hm H3 b3 hA3 => ?_, fun hm => absurd ((mark_sign hT2 (by decide)).mpr he) hm⟩
        walk_at "rd"
        have hD3 : H3 D = some (.lst vs') := beside b3 hD2 (Ne.symm hpD)
        have hh : Same (hideZ (D :: Z) H2) (hideZ Z H3) := fun x o e => (b3.hide hpZ) x o (hideZ_more x o e)
        exact ⟨_, rfl, q1 D H3 (b2.trans b3) hA3 ⟨vs', by rw [hideZ_ne hDZ]; exact hD3, Pcs.of_view (Paired.mapR hps fun _ _ x => x.same hh) hform⟩⟩
      · rw [decide_eq_false fun z => he ((mark_sign hT2 (by decide)).mp z), if_pos (by rfl)]
        refine ⟨_, fun _ _ z => z, ?_⟩
        rw [tp_piece c m f' b n' t2 r2 he] at heq
        walk_at "rd"
        refine ⟨_, rfl, .inl ⟨rfl, _, SqL.of hD2⟩, _, rfl, p, dx2, _, rfl, hP2, rdF_none (by decide +kernel) (by decide +kernel) (by decide +kernel), _, rfl, D :: Z, p, f', b, n', t2, r2, rfl, List.mem_cons_of_mem _ hpZ, hz2, hA2, hpre2, ?_⟩
        cases hpc : takePiece c m f' b n' t2 r2 with
        | error e =>
          rw [hpc] at heq
          rw [heq] at q1
          have q' : FaultAt c p H e E := q1
          exact q'.later b2 hA2.there
        | ok y =>
          obtain ⟨x, n3, l3⟩ := y
          rw [hpc] at heq
          obtain ⟨hx, hpre3⟩ := piece_good hpc hpre2
          intro v3 H3 b3 hA3 hv3
          replace hA3 : SrcAt c (D :: Z) H3 p (n3, l3) := hA3
          have hD3 : H3 D = some (.lst vs') := beside b3 hD2 (Ne.symm hpD)
          have hle := piece_le hpc hpre2
          have h14 := hpre2.2.2.1
          have hs3 : Same (hideZ (D :: Z) H3) (hideZ (D :: Z) (upd H3 D (.lst (vs' ++ [v3])))) := hideZ_upd (List.mem_cons_self ..)
          have hs2 : Same (hideZ (D :: Z) H2) (hideZ (D :: Z) (upd H3 D (.lst (vs' ++ [v3])))) := fun x o e => hs3 x o ((b3.hide (List.mem_cons_of_mem _ hpZ)) x o e)
          have hlen := hps.length
          refine ⟨D, vs', v3, rfl, rfl, hD3, szl (by dsimp only at h14; omega), l3.length, by rw [List.length_cons]; omega, n3, f', l3, ps ++ [x], vs' ++ [v3], rfl, rfl, (b2.trans b3).new (b1.free hD hA1.there), ?_, hA3.mono (upd_ne hpD) hs3, hpre3, upd_same, paired_app (Paired.mapR hps fun _ _ z => z.same hs2) (.cons (hv3.same hs3) .nil), ?_, ?_, ?_⟩
          · intro z mz
            by_cases e : z = D
            · rw [e, upd_same]
              exact fun z => by cases z
            · rw [upd_ne e]
              exact b3.occ hA3.there hz2 z mz
          · intro z hz'
            rcases List.mem_append.mp hz' with hz' | hz'
            · exact hform z hz'
            · rcases List.mem_cons.mp hz' with rfl | hz'
              · exact hx
              · cases hz'
          · rw [List.length_append]
            show ps.length + 1 ≤ n3
            omega
          · rw [heq]
            show Except.map _ (Except.map _ (Vafmsa.takePieces f' b n3 l3)) = _
            rw [got_mapE]
            congr 1
            funext y
            rw [rowOf_append]
end
end FX
end
section
set_option Elab.async false
set_option linter.all false
set_option maxRecDepth 100000
set_option maxHeartbeats 4000000
namespace L2
open PySem PySem.Spec PyProof.Rows
section
variable {X : Cx}
/-- the end of C(), no dict made -/
theorem mk_endN {pins : List (Addr × Obj)} {σ : St} {H1 H2 : Hp} {Q : XK} {hp hp2 h2 : Heap} {g1 g2 : Array GenState} {d1 d2 : Drawn} {t1 t2 : Nat} {os1 os2 : OsState} {a C : Addr} (T : Raises X (.ref C)) (I1 : Inv X pins σ H1 ⟨hp, g1, d1, t1, os1⟩)
    (ha : hp.objs.size ≤ a) (k : ∀ b o, hp.get? b = some o → hp2.get? b = some o) (un : Un (frs X.stack) [] (upd H1 a (exo a C none)) H2 hp2 h2) (hok : HOk X.prog X.w H2 h2) (ho : os2 = os1) (hb : AllBare g2)
    (ea : H2 a = some (exo a C none)) (q : Q (.ref C) none (del H2 a)) : MkP X pins σ Q (.ref a) ⟨h2, g2, d2, t2, os2⟩ := by
  obtain ⟨t0, hoe⟩ := exo_at hok ea
  have hn : H1 a = none := I1.hok.fresh ha
  obtain ⟨G, g1', g2'⟩ := restrict h2 fun b => decide (b ≠ a)
  have gk : ∀ b, b ≠ a → G.get? b = h2.get? b := fun b hb => g1' b (decide_eq_true hb)
  have ge : G.get? a = none := g2' a (by simp)
  have nha : ∀ {b : Addr} {o : Obj}, hp.get? b = some o → b ≠ a := fun {b o} z => Nat.ne_of_lt (Nat.lt_of_lt_of_le (Heap.lt_size z) ha)
  have up : ∀ {b : Addr}, b ≠ a → H1 b = none → upd H1 a (exo a C none) b = none := fun {b} hb n => by rw [upd_ne hb]; exact n
  have U : Un (frs X.stack) [] H1 (del H2 a) hp G := {
    keep := fun b o z n hf hx => by
      rw [gk b (nha z)]
      exact un.keep b o (k b o z) (up (nha z) n) hf hx
    slot := fun b o z n hf hx => by
      rw [gk b (nha z)]
      exact un.slot b o (k b o z) (up (nha z) n) hf hx
    free := fun b o z n hx => by
      rw [del_ne (nha z)]
      exact un.free b o (k b o z) (up (nha z) n) hx
    there := fun b o z hx => by
      rw [gk b (nha z)]
      exact un.there b o (k b o z) hx
    tups := fun b xs z => by
      rw [del_ne (ne_of_none z hn)]
      exact un.tups b xs (by rw [upd_ne (ne_of_none z hn)]; exact z)
    frzs := fun b o v z => by
      rw [del_ne (ne_of_none z hn)]
      exact un.frzs b o v (by rw [upd_ne (ne_of_none z hn)]; exact z)
    tbls := fun b ps z => by
      rw [del_ne (ne_of_none z hn)]
      exact un.tbls b ps (by rw [upd_ne (ne_of_none z hn)]; exact z) }
  have hok3 : HOk X.prog X.w (del H2 a) G := fun b o z => by
    have hba : b ≠ a := fun e => by
      rw [e, del_same] at z
      cases z
    rw [del_ne hba] at z
    have noa : ∀ {c : Addr}, H2 c = some (.own b) → c ≠ a := fun {c} hc => at_ne ea hc exo_own
    exact (hok b o z).stay (fun c v hc y => by
        have hca : c ≠ a := by
          rcases hc with hc | hc
          · rw [hc]
            exact hba
          · exact noa hc
        rw [gk c hca]
        exact y)
      (fun c hc => by rw [del_ne (noa hc)]; exact hc) (fun c xs hc => by rw [del_ne (at_ne ea hc exo_tup)]; exact hc)
  have J : Inv X pins σ (del H2 a) ⟨G, g2, d2, t2, os2⟩ := I1.call' (ch := []) ho U hok3 hb (fun b z => absurd z (by simp))
  refine ⟨a, _, _, ⟨G, g2, d2, t2, os2⟩, _, .ref C, none, rfl, J, fun b o z => ?_, ge, hoe, ⟨rfl, rfl⟩, rfl, rfl, del_same, rfl, hb, T, q⟩
  by_cases hba : b = a
  · rw [hba, ge] at z
    cases z
  · exact (gk b hba).symm.trans z
/-- an error of the class at C made by C(), its __init__ keeping sp -/
theorem pmk_err0 {CX : CXT} {x : Str} {C fI : Addr} {k : Nat} {fd : FuncData} {ps : List Str} {sp : Sp} {p pos : Pos} (T : ErrC X.K C) (iC : PySem.W.findIn X.K (.ref C) "__init__" = some (some (.ref fI))) (tI : PySem.W.typeIn X.K (.ref fI) = some (.type "function"))
    (F1 : FnOk X.prog X.w X.K X.mg X.base CX k fI fd ps sp) (hr : Room (k + 1) X.A) (hb : Binds X.K fd ps []) (hx : Passes CX X (fun _ _ _ => False)) (hm : X.mg x = some (.ref C)) (hg : Gl X x := by rfl)
    (hdb : (x == ("__debug__" : Str)) = false := by decide) :
    PMk X (.Call (.Name x p) [] [] pos) (fun _ H Q => ∀ a, H a = none → sp [.ref a] (upd H a (exo a C none)) (fun v H2 => v = .non ∧ H2 a = some (exo a C none) ∧ Q (.ref C) none (del H2 a)) (fun _ _ _ => False)) := by
  intro pins s σ H Q I h
  obtain ⟨nm, q, N, bs, bm, sn, sub, ab, col, dd, k0, k1, k2, k3, k5, hC, hbm⟩ := T.cls
  refine wpAny_Call_Name_kw (ld_glob I hg hm ?_ hdb)
  refine PySem.W.callWith_K0 I.kIn T.kC ?_
  show wpAny _ _ (call (.ref C) []) _ _ _
  have I1 := I.tok (s.toks + 1)
  obtain ⟨hp, g, dr, tk, os⟩ := s
  have up : hp.objs.size ≤ hp.objs.size + 1 := Nat.le_succ _
  have hq := h (hp.objs.size + 1) (I.hok.fresh up)
  have kk : ∀ b o, hp.get? b = some o → ((hp.push (PySem.W.kdv_tup [])).push (PySem.HandSPX.excO C hp.objs.size)).get? b = some o := fun b o e => Heap.get?_push_of_some _ (Heap.get?_push_of_some _ e)
  have there : ((hp.push (PySem.W.kdv_tup [])).push (PySem.HandSPX.excO C hp.objs.size)).get? (hp.objs.size + 1) = some (PySem.HandSPX.excO C hp.objs.size) := by heap_get
  have I2 : ∀ t', Inv X pins σ (upd H (hp.objs.size + 1) (exo (hp.objs.size + 1) C none)) ⟨(hp.push (PySem.W.kdv_tup [])).push (PySem.HandSPX.excO C hp.objs.size), g, dr, t', os⟩ := fun t' => I.laid (t' := t') kk up (exo_ok there)
  have r2 : Vals [V.ref (hp.objs.size + 1)] [Value.ref (hp.objs.size + 1)] := .cons rfl .nil
  have hl : ([Value.ref (hp.objs.size + 1)] ++ []).length = ps.length := by
    have e := F1.len _ _ _ _ hq
    rw [List.append_nil]
    exact e
  refine wpAny_call (PySem.HandSPX.call_own F.excBase_Exception (fun Y => PySem.W.excTail_contains Y bm hbm) (I.kIn _ _ hC) (PySem.W.looks_findIn I.kIn iC) (fun self => PySem.W.bind_fn I.kIn self tI) (Nat.zero_le _)
    (codeAny_mono (F1.run _ X.stack _ _ ⟨[Value.ref (hp.objs.size + 1)], []⟩ [Value.ref (hp.objs.size + 1)] _ _ (fun _ _ _ => False) (hr.make C [] []) ((I2 _).env0.make C [] []) (hb _ [Value.ref (hp.objs.size + 1)] (I2 _).kIn hl) r2 hq) fun r s' hq' => ?_))
  cases r with
  | error er => exact hx pins σ _ _ er s' (I2 _) hq'
  | ok fl =>
    cases fl with
    | ret u =>
      obtain ⟨v, H2, os2, bare2, un2, hok2, rv, ev, ea, q2⟩ := hq'
      subst ev
      obtain ⟨h2, g2, d2, t2, os'⟩ := s'
      exact ⟨rv, mk_endN (raises_own T.exC T.tyC) I up kk un2 hok2 os2 bare2 ea q2⟩
    | next => exact False.elim hq'
    | brk => exact False.elim hq'
    | cont => exact False.elim hq'
end
end L2
namespace FX
open PySem PySem.Spec PyProof.Rows L2 FT
open VafmsBase (Fmt)
local macro_rules | `(tactic| walk_at "rd") => `(tactic| try dsimp only [tAug, tOp, tC, tCB, tCons, tNil, gName, tVar, tAsg, tRet, tIfS, tTest, tB, tNext, tDrop, tFld, tCKw, tCall, rI0, rI, tExI, tEst, pad, List.set, List.getElem?_cons_zero, List.getElem?_cons_succ, cxOf, List.map_cons, List.map_nil, List.append_nil, List.cons_append, List.nil_append])
local macro_rules | `(tactic| walk_at "r0") => `(tactic| (rw [start_pad (by rfl)]; walk_at "rd"))
section
variable {P : Program} {w : World} {K : PySem.W.Frag} {mg : Str → Option Value} {base : Heap} {c : Cs}
def spNafInit (c : Cs) : Sp := fun vs H Q _ => ∃ a : Addr, vs = [.ref a] ∧ H a = some (exo a c.NotAFormat none) ∧ Q .non H
theorem sc_NotAFormat_init : FnScope ["self"] ["self"] (defScope (inClass (topS 54) 0)) := ⟨rfl, rfl, rfl, by decide +kernel, rfl, by decide +kernel, by decide +kernel⟩
theorem d_NotAFormat_init (T : Top K mg c) {f : Addr} {fd : FuncData} (F : Fun K "__init__" "NotAFormat.__init__" (inClass (topS 54) 0) f fd) : FnOk P w K mg base CX0 1 f fd ["self"] (spNafInit c) := by
  refine F.ok sc_NotAFormat_init (fun vs H Q E h => ?_) (fun cdv A outer s H vs Q E hr h => ⟨_, (pss_one (ps_expr (pe_exinit (by rfl) T.b_Exception T.f_Exception (pa_cons (pv 0) pa_nil)))), ?_⟩)
  · obtain ⟨a, rfl, _⟩ := h
    rfl
  · obtain ⟨a, rfl, ha, q⟩ := h
    walk_at "r0"
    exact ⟨_, rfl, a, c.NotAFormat, [], rfl, Nat.zero_le _, T.c_NotAFormat.er, ha, q⟩
/-- NotAFormat() made and raised -/
theorem pmk_naf {X : Cx} {p pos : Pos} (T : Top X.K X.mg c) (hr : Room 2 X.A) (hg : Gl X "NotAFormat" := by rfl) :
    PMk X (.Call (.Name "NotAFormat" p) [] [] pos) (fun _ H Q => Q (.ref c.NotAFormat) none H) := by
  obtain ⟨f, fd, hi, hf, F, hb⟩ := T.i_NotAFormat.ex
  have ht : PySem.W.typeIn X.K (.ref f) = some (.type "function") := by simpa [PySem.W.isFn] using hf
  intro pins s σ H Q I h
  refine pmk_err0 (k := 1) (CX := CX0) T.c_NotAFormat.er hi ht (d_NotAFormat_init T F) hr hb pass0 T.c_NotAFormat.gl hg (by decide) pins s σ H Q I fun a ha => ⟨a, rfl, upd_same, rfl, upd_same, ?_⟩
  have e : del (upd H a (exo a c.NotAFormat none)) a = H := by
    funext b
    by_cases hb : b = a
    · rw [hb, del_same, ha]
    · rw [del_ne hb, upd_ne hb]
  rw [e]
  exact h
end
end FX
end
section
set_option Elab.async false
set_option linter.all false
set_option maxRecDepth 100000
set_option maxHeartbeats 4000000
namespace FX
open PySem PySem.Spec PyProof.Rows L2 FT
open VafmsBase (Fmt readNat)
local macro_rules | `(tactic| walk_at "rd") => `(tactic| try dsimp only [tM1, tMethA, ipI, tAug, tOp, tC, tCB, tCons, tNil, gName, tVar, tAsg, tRet, tIfS, tTest, tB, tNext, tDrop, tFld, tCKw, tCall, tMeth, rI0, rI, CMul, rEq, rNe, rEqD, rNeD, tBM, rAppend, rExtend, rCat, rIn, rIxT, rIxL, tSl, rSlL, tPart, tNoPart, tChain, tUn, rU, tIf, tNot, tOr, tAnd, tOrV, tAndV, tMake, sFld, sFldAug, tLst, tTup, tFault, pad, List.set, List.getElem?_cons_zero, List.getElem?_cons_succ, cxOf, List.map_cons, List.map_nil, List.append_nil, List.cons_append, List.nil_append])
local macro_rules | `(tactic| walk_at "sq") => `(tactic| (refine seq_go ?_; walk_at "rd"))
local macro_rules | `(tactic| walk_at "r0") => `(tactic| (rw [start_pad (by rfl)]; walk_at "rd"))
/-! ### what reads from numbers -/
abbrev NumS := Nat × List Int
def nmF (nl : Addr) (i n : Nat) : List (Str × V) := [("numbers", .ref nl), ("at", .int (Int.ofNat i)), ("pieces_read", .int (Int.ofNat n))]
section
variable {nl : Addr} {i n : Nat}
theorem nmF_numbers : (nmF nl i n).lookup ("numbers" : Str) = some (.ref nl) := lk_here
theorem nmF_at : (nmF nl i n).lookup ("at" : Str) = some (.int (Int.ofNat i)) := (lk_past (by decide +kernel)).trans lk_here
theorem nmF_read : (nmF nl i n).lookup ("pieces_read" : Str) = some (.int (Int.ofNat n)) := (lk_past (by decide +kernel)).trans ((lk_past (by decide +kernel)).trans lk_here)
theorem nmF_none {m : Str} (h1 : (m == ("numbers" : Str)) = false) (h2 : (m == ("at" : Str)) = false) (h3 : (m == ("pieces_read" : Str)) = false) : (nmF nl i n).lookup m = none := (lk_past h1).trans ((lk_past h2).trans ((lk_past h3).trans rfl))
theorem nmF_put_at {x : Int} (h : x = Int.ofNat (i + 1)) : putF "at" (.int x) (nmF nl i n) = nmF nl (i + 1) n := by
  rw [h]
  exact (if_neg (by decide +kernel)).trans (congrArg _ (if_pos rfl))
theorem nmF_put_read {x : Int} (h : x = Int.ofNat (n + 1)) : putF "pieces_read" (.int x) (nmF nl i n) = nmF nl i (n + 1) := by
  rw [h]
  exact (if_neg (by decide +kernel)).trans (congrArg _ ((if_neg (by decide +kernel)).trans (congrArg _ (if_pos rfl))))
end
def NumAt (c : Cs) (tot : Nat) (Z : List Addr) (H : Hp) (p : Addr) (s : NumS) : Prop := ∃ (dx nl : Addr) (L : List Int) (i : Nat), H p = some (.ins c.NumberReading dx (nmF nl i s.1)) ∧ hideZ Z H nl = some (.lst (ivs L)) ∧ (i ≤ L.length ∧ L.length = tot) ∧ s.2 = L.drop i
def NafAt (c : Cs) (p : Addr) (H : Hp) (E : XK) : Prop := ∀ H', Beside p H H' → E (.ref c.NotAFormat) none H'
theorem NumAt.mono {c : Cs} {tot : Nat} {Z Z' : List Addr} {H H' : Hp} {p : Addr} {s : NumS} (h : NumAt c tot Z H p s) (e : H' p = H p) (sm : Same (hideZ Z H) (hideZ Z' H')) : NumAt c tot Z' H' p s := by
  obtain ⟨dx, nl, L, i, h1, h2, h3, h4⟩ := h
  exact ⟨dx, nl, L, i, e.trans h1, sm _ _ h2, h3, h4⟩
theorem NafAt.later {c : Cs} {p : Addr} {H H' : Hp} {E : XK} (h : NafAt c p H E) (b : Beside p H H') : NafAt c p H' E := fun H2 b2 => h H2 (b.trans b2)
theorem NumAt.there {c : Cs} {tot : Nat} {Z : List Addr} {H : Hp} {p : Addr} {s : NumS} (h : NumAt c tot Z H p s) : H p ≠ none := by
  obtain ⟨dx, nl, L, i, h1, _⟩ := h
  rw [h1]
  exact fun z => by cases z
section
variable {P : Program} {w : World} {K : PySem.W.Frag} {mg : Str → Option Value} {base : Heap} {c : Cs}
def GivesN (c : Cs) (tot : Nat) (Z : List Addr) (H : Hp) (p : Addr) (n : Nat) (r : Option (Nat × List Int)) (Q : VK) (E : XK) : Prop := match r with
  | none => NafAt c p H E
  | some (v, l) => ∀ H', Beside p H H' → NumAt c tot Z H' p (n, l) → Q (.int (Int.ofNat v)) H'
def spNTake (c : Cs) (tot : Nat) : Sp := fun vs H Q E => ∃ (Z : List Addr) (p : Addr) (lo hi n : Nat) (l : List Int), vs = [.ref p, .int (Int.ofNat lo), .int (Int.ofNat hi)] ∧ p ∈ Z ∧ NumAt c tot Z H p (n, l) ∧ GivesN c tot Z H p n (readNat lo hi l) Q E
theorem ivs_at {L : List Int} {i : Nat} {z : Int} (h : L[i]? = some z) : (ivs L)[i]? = some (.int z) := by
  unfold ivs
  rw [List.getElem?_map, h]
  rfl
theorem sc_NumberReading_take : FnScope ["self", "lowest", "highest"] ["self", "lowest", "highest"] (defScope (inClass (topS 56) 1)) := ⟨rfl, rfl, rfl, by decide +kernel, rfl, by decide +kernel, by decide +kernel⟩
theorem d_NumberReading_take (T : Top K mg c) (tot : Nat) : MethOk P w K mg base (L2.CX P w) 3 c.NumberReading "take" (spNTake c tot) := T.m_NumberReading_take.ok T.c_NumberReading.cl fun f fd F => by
  refine F.okX sc_NumberReading_take (fun vs H Q E h => ?_) (fun cdv A outer s H vs Q E hr h => ⟨_, (pss_cons (ps_if (PW.pt (pw_or (pt_cmpR op_eq (pe_fld (pv 0) rfl) (pe_callB call_len_seq (by rfl) T.b_len (by decide +kernel) (pa_cons (pe_fld (pv 0) rfl) pa_nil)) (nomark _)) (pw_or1 (pt_not (pt_chain op_le op_le (pv 1) (pe_ix ix_list (pe_fld (pv 0) rfl) (pe_fld (pv 0) rfl) (fun _ _ => rfl)) (pv 2))))))
 (pss_one (ps_raise rfl (takes_of rfl rfl rfl rfl) (by exact pmk_naf T (hr.mono (by omega)))))
 pss_nil)
 (pss_cons (ps_fldaug (pv 0) pe_int in_add)
 (pss_one (ps_ret (pe_ix ix_list (pe_fld (pv 0) rfl) (pe_op op_sub (pe_fld (pv 0) rfl) pe_int) (fun _ _ => rfl)))))), ?_⟩)
  · obtain ⟨Z, p, lo, hi, n, l, rfl, _⟩ := h
    rfl
  · obtain ⟨Z, p, lo, hi, n, l, rfl, hpZ, hA, q⟩ := h
    obtain ⟨dx, nl, L, i, hP, hNl, hi2, hl⟩ := hA
    dsimp only at hP hl
    walk_at "r0"
    walk_at "sq"
    refine ⟨_, rfl, p, c.NumberReading, dx, _, _, rfl, hP, T.c_NumberReading.cl, T.c_NumberReading.na _ (by simp), nmF_at, _, rfl, p, c.NumberReading, dx, _, _, rfl, hP, T.c_NumberReading.cl, T.c_NumberReading.na _ (by simp), nmF_numbers, nl, _, rfl, .inl (SqL.of (hideZ_same _ _ hNl)), rfl, _, rfl, ?_⟩
    rw [ivs_length]
    by_cases hlt : i < L.length
    · rw [if_neg (by
        rw [decide_eq_false (fun e => by injection e with e; have := Int.ofNat.inj e; omega)]
        exact Bool.false_ne_true)]
      obtain ⟨z, hz⟩ : ∃ z, L[i]? = some z := ⟨_, List.getElem?_eq_getElem hlt⟩
      have hl2 : l = z :: L.drop (i + 1) := by
        rw [hl, List.drop_eq_getElem_cons hlt, (List.getElem?_eq_some_iff.mp hz).2]
      rw [hl2, readNat_cons] at q
      unfold VafmsBase.int at q
      refine ⟨_, rfl, _, rfl, p, c.NumberReading, dx, _, _, rfl, hP, T.c_NumberReading.cl, T.c_NumberReading.na _ (by simp), nmF_numbers, _, rfl, p, c.NumberReading, dx, _, _, rfl, hP, T.c_NumberReading.cl, T.c_NumberReading.na _ (by simp), nmF_at, nl, _, _, _, rfl, rfl, SqL.of (hideZ_same _ _ hNl), atI_nat (j := i) (ivs_at hz), _, _, rfl, rfl, _, rfl, ?_⟩
      have bad : ¬ ((lo : Int) ≤ z ∧ z ≤ (hi : Int)) → E (.ref c.NotAFormat) none H := fun hn => by
        rw [if_neg hn] at q
        exact q H (Beside.refl _ _)
      by_cases h1 : (lo : Int) ≤ z
      · rw [if_pos (decide_eq_true (show Int.ofNat lo ≤ z from h1))]
        refine ⟨_, rfl, _, _, rfl, rfl, _, rfl, ?_⟩
        by_cases h2 : z ≤ (hi : Int)
        · rw [decide_eq_true (show z ≤ Int.ofNat hi from h2), if_neg (by decide)]
          rw [if_pos ⟨h1, h2⟩] at q
          have q' : ∀ H', Beside p H H' → NumAt c tot Z H' p (n, L.drop (i + 1)) → Q (.int (Int.ofNat z.toNat)) H' := q
          walk_at "sq"
          refine ⟨_, rfl, p, c.NumberReading, dx, _, _, rfl, hP, T.c_NumberReading.cl, T.c_NumberReading.na _ (by simp), nmF_at, _, _, rfl, rfl, dx, _, hP, (by show 3 < 1000; decide), ?_⟩
          rw [nmF_put_at (i := i) (n := n) (x := Int.ofNat i + 1) rfl]
          have hb : Beside p H (upd H p (.ins c.NumberReading dx (nmF nl (i + 1) n))) := Beside.upd
          have hP1 : (upd H p (.ins c.NumberReading dx (nmF nl (i + 1) n))) p = some (.ins c.NumberReading dx (nmF nl (i + 1) n)) := upd_same
          have hN1 := (hb.hide hpZ) _ _ hNl
          generalize upd H p (.ins c.NumberReading dx (nmF nl (i + 1) n)) = H1 at *
          walk_at "rd"
          have ei : (Int.ofNat (i + 1) - 1 : Int) = Int.ofNat i := by
            show ((i + 1 : Nat) : Int) - 1 = (i : Int)
            omega
          refine ⟨_, rfl, p, c.NumberReading, dx, _, _, rfl, hP1, T.c_NumberReading.cl, T.c_NumberReading.na _ (by simp), nmF_numbers, _, rfl, p, c.NumberReading, dx, _, _, rfl, hP1, T.c_NumberReading.cl, T.c_NumberReading.na _ (by simp), nmF_at, _, _, rfl, rfl, nl, _, _, _, rfl, rfl, SqL.of (hideZ_same _ _ hN1), (by rw [ei]; exact atI_nat (j := i) (ivs_at hz)), ?_⟩
          have ez : (Int.ofNat z.toNat : Int) = z := by
            show ((z.toNat : Nat) : Int) = z
            omega
          rw [ez] at q'
          exact q' H1 hb ⟨dx, nl, L, i + 1, hP1, hN1, ⟨hlt, hi2.2⟩, rfl⟩
        · rw [decide_eq_false (show ¬ z ≤ Int.ofNat hi from h2), if_pos (by rfl)]
          exact bad fun z => h2 z.2
      · rw [if_neg (by rw [decide_eq_false (show ¬ Int.ofNat lo ≤ z from h1)]; exact Bool.false_ne_true)]
        refine ⟨_, rfl, ?_⟩
        rw [if_pos (by rfl)]
        exact bad fun z => h1 z.1
    · have hi3 := hi2.1
      obtain rfl : i = L.length := by omega
      rw [if_pos (decide_eq_true (show V.int (Int.ofNat L.length) = V.int (L.length : Int) from rfl))]
      rw [hl, List.drop_length] at q
      exact q H (Beside.refl _ _)
/-! ### texts, bounds -/
def GivesTxtN (c : Cs) (tot : Nat) (Z : List Addr) (H : Hp) (p : Addr) (n : Nat) (r : Option (List Nat × List Int)) (Q : VK) (E : XK) : Prop := match r with
  | none => NafAt c p H E
  | some (x, l) => ∀ ta H', Beside p H H' → NumAt c tot Z H' p (n, l) → hideZ Z H' ta = some (.lst (nvs x)) → Q (.ref ta) H'
def spNText (c : Cs) (tot : Nat) : Sp := fun vs H Q E => ∃ (Z : List Addr) (p : Addr) (lo n : Nat) (l : List Int), vs = [.ref p, .int (Int.ofNat lo)] ∧ p ∈ Z ∧ (∀ z ∈ Z, H z ≠ none) ∧ NumAt c tot Z H p (n, l) ∧ GivesTxtN c tot Z H p n (readTxt lo l) Q E
theorem sc_NumberReading_read_text : FnScope ["self", "fewest", "count", "text"] ["self", "fewest"] (defScope (inClass (topS 56) 4)) := ⟨rfl, rfl, rfl, by decide +kernel, rfl, by decide +kernel, by decide +kernel⟩
theorem d_NumberReading_read_text (T : Top K mg c) (tot : Nat) : MethOk P w K mg base (L2.CX P w) 4 c.NumberReading "read_text" (spNText c tot) := T.m_NumberReading_read_text.ok T.c_NumberReading.cl fun f fd F => by
  refine F.okX sc_NumberReading_read_text (fun vs H Q E h => ?_) (fun cdv A outer s H vs Q E hr h => ⟨_, (pss_cons (ps_set (i := 2) sc_NumberReading_read_text.nd rfl (.inl rfl) (pmeth (E := E) (d_NumberReading_take T tot) (hr.mono (by omega)) (passes_call (takes_of rfl rfl rfl rfl) fun _ _ _ _ h => h) (pv 0) (pa_cons (pv 1) (pa_cons (pe_num T.n_MOST_TEXT_BYTES_pieces) pa_nil))))
 (pss_cons (ps_set (i := 3) sc_NumberReading_read_text.nd rfl (.inl rfl) (pe_lst pa_nil))
 (pss_cons (ps_while (by first | exact PassesOwn.leaving | exact PassesOwn.never) (pt_cmpR op_lt (pe_callB call_len_seq (by rfl) T.b_len (by decide +kernel) (pa_cons (pv 3) pa_nil)) (pv 2) (nomark _))
 (pss_one (ps_expr (pe_bm PySem.F.plainAttrs_list PySem.F.slot_list_append PySem.F.type_list_append mt_append (pv 3) (pa_cons (pmeth (E := E) (d_NumberReading_take T tot) (hr.mono (by omega)) (passes_call (takes_of rfl rfl rfl rfl) fun _ _ _ _ h => h) (pv 0) (pa_cons (pe_num T.n_BLANK) (pa_cons (pe_num T.n_LAST_BYTE) pa_nil))) pa_nil)))))
 (pss_one (ps_ret (pv 3)))))), ?_⟩)
  · obtain ⟨Z, p, lo, n, l, rfl, _⟩ := h
    rfl
  · obtain ⟨Z, p, lo, n, l, rfl, hpZ, hz, hA, q⟩ := h
    obtain ⟨dx, nl, L, i, hP, _⟩ := id hA
    walk_at "r0"
    walk_at "sq"
    refine ⟨_, rfl, p, dx, _, rfl, hP, nmF_none (by decide +kernel) (by decide +kernel) (by decide +kernel), _, rfl, Z, p, lo, 8, n, l, rfl, hpZ, hA, ?_⟩
    have e0 : readTxt lo l = (readNat lo 8 l).bind fun x => VafmsBase.readTimes (readNat 32 126) x.1 x.2 := rfl
    rw [e0] at q
    cases hn : readNat lo 8 l with
    | none =>
      rw [hn] at q
      exact q
    | some u =>
    obtain ⟨m, l1⟩ := u
    rw [hn] at q
    have q1 : GivesTxtN c tot Z H p n (VafmsBase.readTimes (readNat 32 126) m l1) Q E := q
    clear q
    have hm8 := (readNat_some hn).2.2
    intro H1 b1 hA1
    walk_at "sq"
    refine ⟨Nat.zero_le _, fun D hD => ?_⟩
    have hpD : p ≠ D := fun z => hA1.there (z ▸ hD)
    have hDZ : D ∉ Z := fun mm => b1.occ hA1.there hz D mm hD
    refine seq_go ?_
    refine ⟨fun mm σ H' => ∃ (j : Nat) (t : List Nat) (l' : List Int), mm = m - j ∧ j ≤ m ∧ t.length = j ∧ σ = [some (.ref p), some (.int (Int.ofNat lo)), some (.int (Int.ofNat m)), some (.ref D)] ∧ Beside p H H' ∧ NumAt c tot (D :: Z) H' p (n, l') ∧ H' D = some (.lst (nvs t)) ∧ VafmsBase.readTimes (readNat 32 126) m l1 = (VafmsBase.readTimes (readNat 32 126) (m - j) l').map fun y => (t ++ y.1, y.2), ⟨_, 0, [], l1, rfl, Nat.zero_le _, rfl, rfl, b1.new (b1.free hD hA1.there), hA1.mono (upd_ne hpD) (hideZ_new hD (hideZ_add hD)), upd_same, ?_⟩, ?_⟩
    · show _ = Option.map _ (VafmsBase.readTimes (readNat 32 126) m l1)
      cases VafmsBase.readTimes (readNat 32 126) m l1 <;> rfl
    rintro mm σ H2 ⟨j, t, l', rfl, hj, htl, rfl, b2, hA2, hD2, heq⟩
    obtain ⟨dx2, nl2, L2', i2, hP2, _⟩ := id hA2
    walk_at "rd"
    refine ⟨_, rfl, D, _, rfl, .inl (SqL.of hD2), _, rfl, _, _, rfl, rfl, _, rfl, ?_⟩
    rw [nvs_length, htl]
    by_cases hlt : j < m
    · rw [if_pos (decide_eq_true (by show (j : Int) < (m : Int); omega))]
      refine ⟨_, fun _ _ z => z, ?_⟩
      rw [show m - j = (m - j - 1) + 1 by omega] at heq
      have heq2 : VafmsBase.readTimes (readNat 32 126) m l1 = ((readNat 32 126 l').bind fun u => (VafmsBase.readTimes (readNat 32 126) (m - j - 1) u.2).map fun v => (u.1 :: v.1, v.2)).map fun y => (t ++ y.1, y.2) := heq
      refine ⟨_, rfl, .inl ⟨rfl, _, SqL.of hD2⟩, _, rfl, p, dx2, _, rfl, hP2, nmF_none (by decide +kernel) (by decide +kernel) (by decide +kernel), D :: Z, p, 32, 126, n, l', rfl, List.mem_cons_of_mem _ hpZ, hA2, ?_⟩
      cases hb : readNat 32 126 l' with
      | none =>
        rw [hb] at heq2
        rw [heq2] at q1
        have q' : NafAt c p H E := q1
        exact q'.later b2
      | some u =>
        obtain ⟨x, l2⟩ := u
        rw [hb] at heq2
        intro H3 b3 hA3
        have hD3 : H3 D = some (.lst (nvs t)) := beside b3 hD2 (Ne.symm hpD)
        have hs3 : Same (hideZ (D :: Z) H3) (hideZ (D :: Z) (upd H3 D (.lst (nvs t ++ [.int (Int.ofNat x)])))) := hideZ_upd (List.mem_cons_self ..)
        refine ⟨D, _, _, rfl, rfl, hD3, szl (by rw [nvs_length]; omega), m - (j + 1), by omega, j + 1, t ++ [x], l2, rfl, hlt, by rw [List.length_append, htl]; rfl, rfl, (b2.trans b3).new (b1.free hD hA1.there), hA3.mono (upd_ne hpD) hs3, ?_, ?_⟩
        · rw [upd_same, nvs_append]
          rfl
        · rw [heq2]
          show Option.map _ (Option.map _ (VafmsBase.readTimes (readNat 32 126) (m - j - 1) l2)) = Option.map _ (VafmsBase.readTimes (readNat 32 126) (m - (j + 1)) l2)
          rw [show m - (j + 1) = m - j - 1 by omega, Option.map_map]
          congr 1
          funext y
          show (t ++ (x :: y.1), y.2) = (t ++ [x] ++ y.1, y.2)
          rw [List.append_assoc]
          rfl
    · rw [if_neg (by rw [decide_eq_false (by show ¬ (j : Int) < (m : Int); omega)]; exact Bool.false_ne_true)]
      obtain rfl : j = m := by omega
      rw [Nat.sub_self] at heq
      have heq2 : VafmsBase.readTimes (readNat 32 126) j l1 = some (t ++ [], l') := heq
      rw [heq2, List.append_nil] at q1
      have q2 : ∀ ta H', Beside p H H' → NumAt c tot Z H' p (n, l') → hideZ Z H' ta = some (.lst (nvs t)) → Q (.ref ta) H' := q1
      walk_at "rd"
      exact ⟨_, rfl, q2 D H2 b2 (hA2.mono rfl hideZ_more) (by rw [hideZ_ne hDZ]; exact hD2)⟩
end
end FX
end
section
set_option Elab.async false
set_option linter.all false
set_option maxRecDepth 100000
set_option maxHeartbeats 4000000
namespace FX
open PySem PySem.Spec PyProof.Rows L2 FT
open VafmsBase (Fmt readNat)
local macro_rules | `(tactic| walk_at "rd") => `(tactic| try dsimp only [tM1, tMethA, ipI, tAug, tOp, tC, tCB, tCons, tNil, gName, tVar, tAsg, tRet, tIfS, tTest, tB, tNext, tDrop, tFld, tCKw, tCall, tMeth, rI0, rI, CMul, rEq, rNe, rEqD, rNeD, tBM, rAppend, rExtend, rCat, rIn, rIxT, rIxL, tSl, rSlL, tPart, tNoPart, tChain, tUn, rU, tIf, tNot, tOr, tAnd, tOrV, tAndV, tMake, sFld, sFldAug, tLst, tTup, tFault, pad, List.set, List.getElem?_cons_zero, List.getElem?_cons_succ, cxOf, List.map_cons, List.map_nil, List.append_nil, List.cons_append, List.nil_append])
local macro_rules | `(tactic| walk_at "sq") => `(tactic| (refine seq_go ?_; walk_at "rd"))
local macro_rules | `(tactic| walk_at "r0") => `(tactic| (rw [start_pad (by rfl)]; walk_at "rd"))
def o2e {A : Type} : Option A → Except Unit A
  | none => .error ()
  | some a => .ok a
theorem o2e_bind {A B : Type} (o : Option A) (g : A → Option B) : o2e (o.bind g) = (o2e o).bind fun a => o2e (g a) := by cases o <;> rfl
theorem o2e_map {A B : Type} (o : Option A) (g : A → B) : o2e (o.map g) = (o2e o).map g := by cases o <;> rfl
theorem o2e_ok {A : Type} {o : Option A} {a : A} (h : o2e o = .ok a) : o = some a := by
  cases o with
  | none => cases h
  | some b => injection h with h; rw [h]
theorem np_good {f k n n' : Nat} {b : Bool} {x r : List Int} {g : Fmt} (h : npPieces f b k n x = some (g, n', r)) (hx : x.length < f) (hn : n ≤ 14) : n ≤ n' ∧ n' ≤ 14 ∧ r.length ≤ x.length := by
  rw [np_iff f b k n x hx hn] at h
  obtain ⟨⟨g2, r2⟩, h1, h2⟩ := ob h
  by_cases hc : ck b n g2 = true
  · rw [chk_yes hc] at h2
    obtain ⟨rfl, h3⟩ := Prod.mk.inj (Option.some.inj h2)
    obtain ⟨rfl, rfl⟩ := Prod.mk.inj h3
    have := (ck_iff.mp hc).2.1
    have := (rp_len f k x _ _ h1).1
    dsimp only at *
    omega
  · rw [chk_no hc] at h2
    cases h2
theorem npRow_good {f n n' : Nat} {b : Bool} {x r : List Int} {g : Fmt} (h : npRow f b n x = some (g, n', r)) (hx : x.length ≤ f) (hn : n ≤ 14) : n ≤ n' ∧ n' ≤ 14 ∧ r.length ≤ x.length := by
  obtain ⟨⟨k, y⟩, h1, h2⟩ := ob h
  obtain ⟨rfl, _, _⟩ := readNat_some h1
  rw [List.length_cons] at hx ⊢
  have := np_good h2 (by dsimp only; omega) hn
  dsimp only at this
  omega
def preN (m f : Nat) (s : NumS) : Prop := s.2.length ≤ f ∧ 14 < s.1 + m ∧ s.1 ≤ 14
def numBound (lo : Nat) (s : NumS) : Except Unit (Nat × NumS) := o2e ((readNat lo 4 s.2).map fun x => (x.1, (s.1, x.2)))
def numRow (f : Nat) (b : Bool) (s : NumS) : Except Unit (Fmt × NumS) := o2e (npRow f b s.1 s.2)
/-- reading numbers, as what reads -/
def numR (c : Cs) (tot : Nat) (m : Nat) : Rdr c where
  C := c.NumberReading
  S := NumS
  I := Nat
  Er := Unit
  At := NumAt c tot
  Rz := fun p H _ E => NafAt c p H E
  bound := numBound
  row := numRow
  pre := preN m
  mono := NumAt.mono
  ins := fun {Z H p s} ⟨dx, nl, L, i, h1, _⟩ => ⟨dx, _, h1, nmF_none (by decide +kernel) (by decide +kernel) (by decide +kernel), nmF_none (by decide +kernel) (by decide +kernel) (by decide +kernel)⟩
  later := fun h b _ => NafAt.later h b
  pre_bound := fun {i lo s s' v} ⟨p1, p2, p3⟩ h => by
    obtain ⟨⟨x, l⟩, h1, h2⟩ := om (o2e_ok h)
    obtain ⟨rfl, rfl⟩ := Prod.mk.inj h2
    obtain ⟨e, _, _⟩ := readNat_some h1
    rw [e, List.length_cons] at p1
    exact ⟨by show l.length ≤ i; omega, p2, p3⟩
  pre_row := fun {i b s s' g} ⟨p1, p2, p3⟩ h => by
    obtain ⟨n, l⟩ := s
    obtain ⟨n', l'⟩ := s'
    have := npRow_good (o2e_ok h) p1 p3
    dsimp only at *
    exact ⟨by show l'.length ≤ i; omega, by show 14 < n' + m; omega, by show n' ≤ 14; omega⟩
/-- one piece -/
def takePieceN (c : Cs) (tot : Nat) (m f : Nat) (b : Bool) (n : Nat) (x : List Int) : Except Unit (Pce × NumS) := (o2e (readNat 0 5 x)).bind fun kd => if 14 ≤ n ∨ (kd.1 = 5 ∧ b = true) then .error () else
  (o2e (if hasText kd.1 = true then readTxt (lowest kd.1) kd.2 else some ([], kd.2))).bind fun t => (numR c tot m).behind f kd.1 t.1 b (n + 1, t.2)
theorem boundsN_two (c : Cs) (tot m k n : Nat) (l : List Int) (h : hasBounds k = true) : (numR c tot m).bounds k (n, l) = (o2e (readTwo (lowest k) l)).map fun u => (u.1, (n, u.2)) := by
  unfold Rdr.bounds
  rw [if_pos h]
  show (numBound (lowest k) (n, l)).bind (fun x => (numBound x.1 x.2).map fun y => ((x.1, y.1), y.2)) = _
  unfold numBound readTwo
  dsimp only
  cases readNat (lowest k) 4 l with
  | none => rfl
  | some x =>
    obtain ⟨a, l1⟩ := x
    show (o2e ((readNat a 4 l1).map _)).map _ = (o2e ((readNat a 4 l1).map _)).map _
    cases readNat a 4 l1 <;> rfl
theorem boundsN_no (c : Cs) (tot m k : Nat) (s : NumS) (h : hasBounds k = false) : (numR c tot m).bounds k s = .ok ((0, 0), s) := if_neg (by rw [h]; exact Bool.false_ne_true)
theorem np_piece (c : Cs) (tot m f : Nat) (b : Bool) (k n : Nat) (x : List Int) : o2e (npPieces (f + 1) b (k + 1) n x) = (takePieceN c tot m f b n x).bind fun y => o2e ((npPieces f b k y.2.1 y.2.2).map fun r => (consP y.1 r.1, r.2)) := by
  rw [npPieces.eq_def]
  dsimp only
  rw [if_neg (Nat.succ_ne_zero k)]
  unfold takePieceN
  cases e : readNat 0 5 x with
  | none => rfl
  | some kd =>
    obtain ⟨kd, y⟩ := kd
    have hk5 := (readNat_some e).2.2
    show o2e (if 14 ≤ n then none else _) = Except.bind (if 14 ≤ n ∨ (kd = 5 ∧ b = true) then Except.error () else (o2e (if hasText kd = true then readTxt (lowest kd) y else some ([], y))).bind fun t => (numR c tot m).behind f kd t.1 b (n + 1, t.2)) _
    by_cases h14 : 14 ≤ n
    · rw [if_pos h14, if_pos (.inl h14)]
      rfl
    rw [if_neg h14]
    show o2e (if kd = 0 then (readTxt 1 y).bind _ else if kd = 1 then (readTwo 1 y).bind _ else if kd = 2 then (readTwo 1 y).bind _ else if kd = 3 then (npRow f b (n + 1) y).bind _ else if kd = 4 then (npRow f b (n + 1) y).bind _ else if b = true then none else (readTxt 0 y).bind _) = _
    have hk6 : kd = 0 ∨ kd = 1 ∨ kd = 2 ∨ kd = 3 ∨ kd = 4 ∨ kd = 5 := by omega
    rcases hk6 with rfl | rfl | rfl | rfl | rfl | rfl
    · rw [if_neg (show ¬ (14 ≤ n ∨ (0 = 5 ∧ b = true)) by omega)]
      show o2e ((readTxt 1 y).bind _) = Except.bind (Except.bind (o2e (readTxt 1 y)) _) _
      cases readTxt 1 y with
      | none => rfl
      | some t => rfl
    · rw [if_neg (show ¬ (14 ≤ n ∨ (1 = 5 ∧ b = true)) by omega)]
      show o2e ((readTwo 1 y).bind _) = Except.bind (Except.bind ((numR c tot m).bounds 1 (n + 1, y)) _) _
      rw [boundsN_two c tot m 1 _ _ rfl]
      show o2e ((readTwo 1 y).bind _) = Except.bind (Except.bind ((o2e (readTwo 1 y)).map _) _) _
      cases readTwo 1 y with
      | none => rfl
      | some t => rfl
    · rw [if_neg (show ¬ (14 ≤ n ∨ (2 = 5 ∧ b = true)) by omega)]
      show o2e ((readTwo 1 y).bind _) = Except.bind (Except.bind ((numR c tot m).bounds 2 (n + 1, y)) _) _
      rw [boundsN_two c tot m 2 _ _ rfl]
      show o2e ((readTwo 1 y).bind _) = Except.bind (Except.bind ((o2e (readTwo 1 y)).map _) _) _
      cases readTwo 1 y with
      | none => rfl
      | some t => rfl
    · rw [if_neg (show ¬ (14 ≤ n ∨ (3 = 5 ∧ b = true)) by omega)]
      show o2e ((npRow f b (n + 1) y).bind _) = Except.bind (Except.map _ (Except.bind (numRow f (b || false) (n + 1, y)) _)) _
      rw [Bool.or_false]
      show o2e ((npRow f b (n + 1) y).bind _) = Except.bind (Except.map _ (Except.bind (o2e (npRow f b (n + 1) y)) _)) _
      cases npRow f b (n + 1) y with
      | none => rfl
      | some a =>
        show o2e ((npRow f b a.2.1 a.2.2).bind _) = Except.bind (Except.map _ (Except.map _ (Except.bind (numRow f (b || false) a.2) _))) _
        rw [Bool.or_false]
        show o2e ((npRow f b a.2.1 a.2.2).bind _) = Except.bind (Except.map _ (Except.map _ (Except.bind (o2e (npRow f b a.2.1 a.2.2)) _))) _
        cases npRow f b a.2.1 a.2.2 with
        | none => rfl
        | some e => rfl
    · rw [if_neg (show ¬ (14 ≤ n ∨ (4 = 5 ∧ b = true)) by omega)]
      show o2e ((npRow f b (n + 1) y).bind _) = Except.bind (Except.map _ (Except.bind (numRow f (b || false) (n + 1, y)) _)) _
      rw [Bool.or_false]
      show o2e ((npRow f b (n + 1) y).bind _) = Except.bind (Except.map _ (Except.bind (o2e (npRow f b (n + 1) y)) _)) _
      cases npRow f b (n + 1) y with
      | none => rfl
      | some a => rfl
    · cases b with
      | true =>
        rw [if_pos (show 14 ≤ n ∨ (5 = 5 ∧ true = true) from .inr ⟨rfl, rfl⟩)]
        rfl
      | false =>
        rw [if_neg (show ¬ (14 ≤ n ∨ (5 = 5 ∧ false = true)) from fun z => by rcases z with z | z; exact h14 z; cases z.2)]
        show o2e ((readTxt 0 y).bind _) = Except.bind (Except.bind (o2e (readTxt 0 y)) fun t => Except.bind ((numR c tot m).bounds 5 (n + 1, t.2)) _) _
        cases readTxt 0 y with
        | none => rfl
        | some t =>
          show o2e ((readTwo 0 t.2).bind _) = Except.bind (Except.bind ((numR c tot m).bounds 5 (n + 1, t.2)) _) _
          rw [boundsN_two c tot m 5 _ _ rfl]
          show o2e ((readTwo 0 t.2).bind _) = Except.bind (Except.bind ((o2e (readTwo 0 t.2)).map _) _) _
          cases readTwo 0 t.2 with
          | none => rfl
          | some u =>
            show o2e ((npRow f true (n + 1) u.2).bind _) = Except.bind (Except.map _ (Except.bind (o2e (npRow f true (n + 1) u.2)) _)) _
            cases npRow f true (n + 1) u.2 with
            | none => rfl
            | some a => rfl
theorem rowsNN_le {c : Cs} {tot m i : Nat} {b : Bool} : ∀ {k : Nat} {s s' : NumS} {gs : List Fmt}, (numR c tot m).rowsN k i b s = .ok (gs, s') → preN m i s → s.1 ≤ s'.1 ∧ s'.2.length ≤ s.2.length
  | 0, s, s', gs, h, hp => by
    injection h with h
    obtain ⟨rfl, rfl⟩ := Prod.mk.inj h
    exact ⟨Nat.le_refl _, Nat.le_refl _⟩
  | k + 1, s, s', gs, h, hp => by
    obtain ⟨⟨g, s1⟩, h1, h2⟩ := bind_ok h
    obtain ⟨⟨hs, s2⟩, h3, h4⟩ := map_ok h2
    obtain ⟨rfl, rfl⟩ := Prod.mk.inj h4
    have ih := rowsNN_le h3 ((numR c tot m).pre_row hp h1)
    obtain ⟨n, l⟩ := s
    obtain ⟨n1, l1⟩ := s1
    have a := npRow_good (o2e_ok h1) hp.1 hp.2.2
    dsimp only at *
    omega
theorem behindN_le {c : Cs} {tot m i k : Nat} {b : Bool} {t : List Nat} {s s' : NumS} {x : Pce} (h : (numR c tot m).behind i k t b s = .ok (x, s')) (hp : preN m i s) : s.1 ≤ s'.1 ∧ s'.2.length ≤ s.2.length := by
  obtain ⟨⟨⟨lo, hi⟩, s1⟩, h1, h2⟩ := bind_ok h
  obtain ⟨⟨gs, s2⟩, h3, h4⟩ := map_ok h2
  obtain ⟨rfl, rfl⟩ := Prod.mk.inj h4
  have p1 : preN m i s1 ∧ s.1 ≤ s1.1 ∧ s1.2.length ≤ s.2.length := by
    unfold Rdr.bounds at h1
    split at h1
    · obtain ⟨⟨a, s3⟩, h5, h6⟩ := bind_ok h1
      obtain ⟨⟨a2, s4⟩, h7, h8⟩ := map_ok h6
      obtain ⟨e1, rfl⟩ := Prod.mk.inj h8
      have q1 := (numR c tot m).pre_bound hp h5
      have q2 := (numR c tot m).pre_bound q1 h7
      obtain ⟨⟨y, l⟩, g1, g2⟩ := om (o2e_ok h5)
      obtain ⟨rfl, rfl⟩ := Prod.mk.inj g2
      obtain ⟨⟨y2, l2⟩, g3, g4⟩ := om (o2e_ok h7)
      obtain ⟨rfl, rfl⟩ := Prod.mk.inj g4
      have a1 := (readNat_some g1).1
      have a2 := (readNat_some g3).1
      refine ⟨q2, Nat.le_refl _, ?_⟩
      dsimp only at *
      rw [a1, a2]
      simp only [List.length_cons]
      omega
    · injection h1 with h1
      obtain ⟨_, rfl⟩ := Prod.mk.inj h1
      exact ⟨hp, Nat.le_refl _, Nat.le_refl _⟩
  have r1 := rowsNN_le h3 p1.1
  dsimp only at *
  omega
/-- behind the kind -/
theorem pre_textN {m f n k : Nat} {l l1 l2 : List Int} {x : List Nat} (hp : preN (m + 1) f (n, l)) (hk : readNat 0 5 l = some (k, l1)) (hn : ¬ 14 ≤ n) (h : (if hasText k = true then readTxt (lowest k) l1 else some ([], l1)) = some (x, l2)) : preN m f (n + 1, l2) ∧ l2.length < l.length ∧ (hasText k = false → x = []) := by
  obtain ⟨p1, p2, p3⟩ := hp
  obtain ⟨rfl, _, _⟩ := readNat_some hk
  have key : l2.length ≤ l1.length ∧ (hasText k = false → x = []) := by
    split at h
    · rename_i ht
      exact ⟨(readTxt_some h).2.2.1, fun z => by rw [z] at ht; cases ht⟩
    · obtain ⟨rfl, rfl⟩ := Prod.mk.inj (Option.some.inj h)
      exact ⟨Nat.le_refl _, fun _ => rfl⟩
  have p1' : l1.length + 1 ≤ f := p1
  have p2' : 14 < n + (m + 1) := p2
  exact ⟨⟨by show l2.length ≤ f; omega, by show 14 < n + 1 + m; omega, by show n + 1 ≤ 14; omega⟩, by rw [List.length_cons]; omega, key.2⟩
theorem pieceN_good {c : Cs} {tot m f n n2 : Nat} {b : Bool} {l l2 : List Int} {x : Pce} (h : takePieceN c tot m f b n l = .ok (x, n2, l2)) (hp : preN (m + 1) f (n, l)) : PForm x ∧ n + 1 ≤ n2 ∧ n2 ≤ 14 ∧ l2.length < l.length := by
  obtain ⟨⟨k, l1⟩, h1, h2⟩ := bind_ok h
  have hk := o2e_ok h1
  dsimp only at h2
  split at h2
  · cases h2
  rename_i hc
  have hn : ¬ 14 ≤ n := fun z => hc (.inl z)
  obtain ⟨⟨y, l3⟩, h3, h4⟩ := bind_ok h2
  obtain ⟨p1, p2, p3⟩ := pre_textN hp hk hn (o2e_ok h3)
  obtain ⟨g1, g2⟩ := behind_good (numR c tot m) h4 p1 (readNat_some hk).2.2 p3
  have g3 := behindN_le h4 p1
  have g4 := (show preN m f (n2, l2) from g2).2.2
  dsimp only at *
  exact ⟨g1, by omega, g4, by omega⟩
end FX
end
section
set_option Elab.async false
set_option linter.all false
set_option maxRecDepth 100000
set_option maxHeartbeats 4000000
namespace FX
open PySem PySem.Spec PyProof.Rows L2 FT
open VafmsBase (Fmt readNat)
local macro_rules | `(tactic| walk_at "rd") => `(tactic| try dsimp only [tM1, tMethA, ipI, tAug, tOp, tC, tCB, tCons, tNil, gName, tVar, tAsg, tRet, tIfS, tTest, tB, tNext, tDrop, tFld, tCKw, tCall, tMeth, rI0, rI, CMul, rEq, rNe, rEqD, rNeD, tBM, rAppend, rExtend, rCat, rIn, rIxT, rIxL, tSl, rSlL, tPart, tNoPart, tChain, tUn, rU, tIf, tNot, tOr, tAnd, tOrV, tAndV, tMake, sFld, sFldAug, tLst, tTup, tFault, pad, List.set, List.getElem?_cons_zero, List.getElem?_cons_succ, cxOf, List.map_cons, List.map_nil, List.append_nil, List.cons_append, List.nil_append])
local macro_rules | `(tactic| walk_at "sq") => `(tactic| (refine seq_go ?_; walk_at "rd"))
local macro_rules | `(tactic| walk_at "r0") => `(tactic| (rw [start_pad (by rfl)]; walk_at "rd"))
section
variable {P : Program} {w : World} {K : PySem.W.Frag} {mg : Str → Option Value} {base : Heap} {c : Cs}
theorem sc_NumberReading_read_bound : FnScope ["self", "lowest"] ["self", "lowest"] (defScope (inClass (topS 56) 5)) := ⟨rfl, rfl, rfl, by decide +kernel, rfl, by decide +kernel, by decide +kernel⟩
theorem d_NumberReading_read_bound (T : Top K mg c) (tot : Nat) (m : Nat) : MethOk P w K mg base (L2.CX P w) 4 c.NumberReading "read_bound" (numR c tot m).spBound := T.m_NumberReading_read_bound.ok T.c_NumberReading.cl fun f fd F => by
  refine F.okX sc_NumberReading_read_bound (fun vs H Q E h => ?_) (fun cdv A outer s H vs Q E hr h => ⟨_, (pss_one (ps_ret (pmeth (E := E) (d_NumberReading_take T tot) (hr.mono (by omega)) (passes_call (takes_of rfl rfl rfl rfl) fun _ _ _ _ h => h) (pv 0) (pa_cons (pv 1) (pa_cons (pe_num T.n_HIGHEST_BOUND) pa_nil))))), ?_⟩)
  · obtain ⟨Z, p, lo, i, s, rfl, _⟩ := h
    rfl
  · obtain ⟨Z, p, lo, i, s, rfl, hpZ, hz, hA, hpre, q⟩ := h
    obtain ⟨n, l⟩ := s
    replace hA : NumAt c tot Z H p (n, l) := hA
    have q' : (numR c tot m).GivesB Z H p (o2e ((readNat lo 4 l).map fun x => (x.1, (n, x.2)))) Q E := q
    obtain ⟨dx, nl, L, j, hP, _⟩ := id hA
    walk_at "r0"
    refine ⟨_, rfl, p, dx, _, rfl, hP, nmF_none (by decide +kernel) (by decide +kernel) (by decide +kernel), _, rfl, Z, p, lo, 4, n, l, rfl, hpZ, hA, ?_⟩
    cases hn : readNat lo 4 l with
    | none => rw [hn] at q'; exact q'
    | some x => rw [hn] at q'; exact q'
def GivesPN (c : Cs) (tot : Nat) (Z : List Addr) (H : Hp) (p : Addr) (r : Except Unit (Pce × NumS)) (Q : VK) (E : XK) : Prop := match r with
  | .error _ => NafAt c p H E
  | .ok (pc, s') => ∀ v H', Beside p H H' → NumAt c tot Z H' p s' → PceAt c (hideZ Z H') v pc → Q v H'
def spNPiece (c : Cs) (tot : Nat) (m : Nat) : Sp := fun vs H Q E => ∃ (Z : List Addr) (p : Addr) (f : Nat) (b : Bool) (n : Nat) (l : List Int), vs = [.ref p, .bl b] ∧ p ∈ Z ∧ (∀ z ∈ Z, H z ≠ none) ∧ NumAt c tot Z H p (n, l) ∧ preN (m + 1) f (n, l) ∧ GivesPN c tot Z H p (takePieceN c tot m f b n l) Q E
theorem sc_NumberReading_read_piece : FnScope ["self", "within_repeat", "kind", "text"] ["self", "within_repeat"] (defScope (inClass (topS 56) 3)) := ⟨rfl, rfl, rfl, by decide +kernel, rfl, by decide +kernel, by decide +kernel⟩
theorem d_NumberReading_read_piece (T : Top K mg c) (tot : Nat) {m kr : Nat} (hkr : 4 ≤ kr) (W : MethOk P w K mg base (L2.CX P w) kr c.NumberReading "read_row" (numR c tot m).spRow) : MethOk P w K mg base (L2.CX P w) (kr + 2) c.NumberReading "read_piece" (spNPiece c tot m) := T.m_NumberReading_read_piece.ok T.c_NumberReading.cl fun f fd F => by
  have BT := d_read_behind_text (P := P) (w := w) (base := base) T (numR c tot m) (k0 := kr) (by omega) hkr (Nat.le_refl _) (d_NumberReading_read_bound T tot m) W
  refine F.okX sc_NumberReading_read_piece (fun vs H Q E h => ?_) (fun cdv A outer s H vs Q E hr h => ⟨_, (pss_cons (ps_set (i := 2) sc_NumberReading_read_piece.nd rfl (.inl rfl) (pmeth (E := E) (d_NumberReading_take T tot) (hr.mono (by omega)) (passes_call (takes_of rfl rfl rfl rfl) fun _ _ _ _ h => h) (pv 0) (pa_cons (pe_num T.n_LITERAL) (pa_cons (pe_num T.n_REPEAT) pa_nil))))
 (pss_cons (ps_fldaug (pv 0) pe_int in_add)
 (pss_cons (ps_if (PW.pt (pw_or (pt_cmpR op_gt (pe_fld (pv 0) rfl) (pe_num T.n_MOST_PIECES) (nomark _)) (pw_or1 (PW.pt (pw_and (pt_cmpR op_eq (pv 2) (pe_num T.n_REPEAT) (nomark _)) (pw_and1 (pt_val (pv 1))))))))
 (pss_one (ps_raise rfl (takes_of rfl rfl rfl rfl) (by exact pmk_naf T (hr.mono (by omega)))))
 pss_nil)
 (pss_cons (ps_set (i := 3) sc_NumberReading_read_piece.nd rfl (.inl rfl) (pe_ifExp (pt_val (pcall (d_has_text T) (hr.mono (by omega)) pass0 (pa_cons (pv 2) pa_nil))) (pmeth (E := E) (d_NumberReading_read_text T tot) (hr.mono (by omega)) (passes_call (takes_of rfl rfl rfl rfl) fun _ _ _ _ h => h) (pv 0) (pa_cons (pcall (d_fewest_text_bytes T) (hr.mono (by omega)) pass0 (pa_cons (pv 2) pa_nil)) pa_nil)) (pe_lst pa_nil)))
 (pss_one (ps_ret (pcall (E := E) BT (hr.mono (by omega)) (passes_call (takes_of rfl rfl rfl rfl) fun _ _ _ _ h => h) (pa_cons (pv 0) (pa_cons (pv 2) (pa_cons (pv 3) (pa_cons (pv 1) pa_nil))))))))))), ?_⟩)
  · obtain ⟨Z, p, i, b, n, l, rfl, _⟩ := h
    rfl
  · obtain ⟨Z, p, i, b, n, l, rfl, hpZ, hz, hA, hpre, q⟩ := h
    obtain ⟨dx, nl, L, j, hP, _⟩ := id hA
    unfold takePieceN at q
    walk_at "r0"
    walk_at "sq"
    refine ⟨_, rfl, p, dx, _, rfl, hP, nmF_none (by decide +kernel) (by decide +kernel) (by decide +kernel), Z, p, 0, 5, n, l, rfl, hpZ, hA, ?_⟩
    cases hk : readNat 0 5 l with
    | none => rw [hk] at q; exact q
    | some x =>
    obtain ⟨k, l1⟩ := x
    rw [hk] at q
    have hk5 := (readNat_some hk).2.2
    have q1 : GivesPN c tot Z H p (if 14 ≤ n ∨ (k = 5 ∧ b = true) then .error () else (o2e (if hasText k = true then readTxt (lowest k) l1 else some ([], l1))).bind fun t => (numR c tot m).behind i k t.1 b (n + 1, t.2)) Q E := q
    clear q
    intro H1 b1 hA1
    obtain ⟨dx1, nl1, L1, i1, hP1, hNl1, hi1, hl1⟩ := hA1
    dsimp only at hP1 hl1
    walk_at "sq"
    refine ⟨_, rfl, p, c.NumberReading, dx1, _, _, rfl, hP1, T.c_NumberReading.cl, T.c_NumberReading.na _ (by simp), nmF_read, _, _, rfl, rfl, dx1, _, hP1, (by show 3 < 1000; decide), ?_⟩
    rw [nmF_put_read (i := i1) (n := n) (x := Int.ofNat n + 1) rfl]
    have hb : Beside p H1 (upd H1 p (.ins c.NumberReading dx1 (nmF nl1 i1 (n + 1)))) := Beside.upd
    have hP2 : (upd H1 p (.ins c.NumberReading dx1 (nmF nl1 i1 (n + 1)))) p = some (.ins c.NumberReading dx1 (nmF nl1 i1 (n + 1))) := upd_same
    have hA2 : NumAt c tot Z (upd H1 p (.ins c.NumberReading dx1 (nmF nl1 i1 (n + 1)))) p (n + 1, l1) := ⟨dx1, nl1, L1, i1, upd_same, (hb.hide hpZ) _ _ hNl1, hi1, hl1⟩
    generalize upd H1 p (.ins c.NumberReading dx1 (nmF nl1 i1 (n + 1))) = H2 at *
    have b12 := b1.trans hb
    have bad : (14 ≤ n ∨ (k = 5 ∧ b = true)) → E (.ref c.NotAFormat) none H2 := fun hc => by
      rw [if_pos hc] at q1
      have q' : NafAt c p H E := q1
      exact q' H2 b12
    walk_at "sq"
    refine ⟨_, rfl, p, c.NumberReading, dx1, _, _, rfl, hP2, T.c_NumberReading.cl, T.c_NumberReading.na _ (by simp), nmF_read, _, _, rfl, rfl, _, rfl, ?_⟩
    by_cases h14 : 14 ≤ n
    · rw [if_pos (decide_eq_true (by show (14 : Int) < ((n + 1 : Nat) : Int); omega)), if_pos rfl]
      exact bad (.inl h14)
    rw [if_neg (by rw [decide_eq_false (by show ¬ (14 : Int) < ((n + 1 : Nat) : Int); omega)]; exact Bool.false_ne_true)]
    refine ⟨_, rfl, rfl, _, rfl, ?_⟩
    have ek : decide (V.int (Int.ofNat k) = V.int 5) = (k == 5) := kind5 k
    rw [ek]
    have next : ¬ (14 ≤ n ∨ (k = 5 ∧ b = true)) → tSeq (tAsg (tIf (tTest (tCall spHasText [] E0 (tCons (tVar 2) tNil))) (tMeth c.NumberReading "read_text" (spNText c tot) [] E (tVar 0) (tCons (tCall spLowest [] E0 (tCons (tVar 2) tNil)) tNil)) (tLst tNil)) (gName 3)) (tRet (tCall (numR c tot m).spBehind [] E (tCons (tVar 0) (tCons (tVar 2) (tCons (tVar 3) (tCons (tVar 1) tNil)))))) { nx := fun _ H' => Q .non H', rt := Q } [some (.ref p), some (.bl b), some (.int (Int.ofNat k)), none] H2 := fun hc => by
      rw [if_neg hc] at q1
      refine seq_by (fun σ' H' => ∃ (ta : Addr) (x : List Nat) (l2 : List Int), σ' = [some (.ref p), some (.bl b), some (.int (Int.ofNat k)), some (.ref ta)] ∧ Beside p H H' ∧ NumAt c tot Z H' p (n + 1, l2) ∧ hideZ Z H' ta = some (.lst (nvs x)) ∧ (if hasText k = true then readTxt (lowest k) l1 else some ([], l1)) = some (x, l2)) ?_ ?_
      rotate_left
      · intro N hN
        walk_at "rd"
        refine ⟨_, rfl, k, rfl, fun H3 s3 => ⟨_, rfl, ?_⟩⟩
        have b13 := b12.trans (Beside.of s3)
        have hA3 : NumAt c tot Z H3 p (n + 1, l1) := hA2.mono (by
          cases e : H2 p with
          | none => exact absurd e hA2.there
          | some o => exact s3 _ _ e) (hideZ_of s3)
        cases ht : hasText k with
        | true =>
          rw [ht, if_pos rfl] at q1
          rw [if_pos rfl]
          obtain ⟨dx3, nl3, L3, i3, hP3, _⟩ := id hA3
          refine ⟨_, rfl, p, dx3, _, rfl, hP3, nmF_none (by decide +kernel) (by decide +kernel) (by decide +kernel), _, rfl, k, rfl, Z, p, lowest k, n + 1, l1, rfl, hpZ, b13.occ hA3.there hz, hA3, ?_⟩
          cases hs : readTxt (lowest k) l1 with
          | none =>
            rw [hs] at q1
            have q' : NafAt c p H E := q1
            exact q'.later b13
          | some y =>
            obtain ⟨x, l2⟩ := y
            intro ta H4 b4 hA4 hta
            exact hN _ _ ⟨ta, x, l2, rfl, b13.trans b4, hA4, hta, by rw [if_pos ht]; exact hs⟩
        | false =>
          rw [if_neg Bool.false_ne_true]
          refine ⟨Nat.zero_le _, fun D hD => ?_⟩
          have hpD : p ≠ D := fun z => hA3.there (z ▸ hD)
          have hDZ : D ∉ Z := fun mm => b13.occ hA3.there hz D mm hD
          refine hN _ _ ⟨D, [], l1, rfl, b13.new (b13.free hD hA3.there), hA3.mono (upd_ne hpD) (hideZ_add hD), ?_, by rw [if_neg (by rw [ht]; exact Bool.false_ne_true)]⟩
          rw [hideZ_ne hDZ]
          exact upd_same
      rintro _ H3 ⟨ta, x, l2, rfl, b3, hA3, hta, hx⟩
      rw [hx] at q1
      have q2 : GivesPN c tot Z H p ((numR c tot m).behind i k x b (n + 1, l2)) Q E := q1
      obtain ⟨pp, _, _⟩ := pre_textN hpre hk h14 hx
      walk_at "rd"
      refine ⟨_, rfl, _, rfl, _, rfl, _, rfl, Z, p, k, ta, x, b, i, (n + 1, l2), rfl, hk5, hpZ, b3.occ hA3.there hz, hA3, pp, hta, ?_⟩
      cases hb : (numR c tot m).behind i k x b (n + 1, l2) with
      | error e =>
        rw [hb] at q2
        exact NafAt.later q2 b3
      | ok y =>
        obtain ⟨pc, s'⟩ := y
        rw [hb] at q2
        exact fun v' H4 b4 hA4 hp4 => q2 v' H4 (b3.trans b4) hA4 hp4
    by_cases h5 : k = 5
    · rw [if_pos (by simpa using h5)]
      refine ⟨_, rfl, _, rfl, ?_⟩
      cases b with
      | true =>
        rw [if_pos rfl]
        exact bad (.inr ⟨h5, rfl⟩)
      | false =>
        rw [if_neg Bool.false_ne_true]
        exact next fun z => by rcases z with z | z; exact h14 z; cases z.2
    · rw [if_neg (by simpa using h5), if_neg Bool.false_ne_true]
      exact next fun z => by rcases z with z | z; exact h14 z; exact h5 z.1
theorem sc_NumberReading_read_row : FnScope ["self", "within_repeat", "count", "row"] ["self", "within_repeat"] (defScope (inClass (topS 56) 2)) := ⟨rfl, rfl, rfl, by decide +kernel, rfl, by decide +kernel, by decide +kernel⟩
end
end FX
end
section
set_option Elab.async false
set_option linter.all false
set_option maxRecDepth 100000
set_option maxHeartbeats 4000000
namespace FX
open PySem PySem.Spec PyProof.Rows L2 FT
open VafmsBase (Fmt)
local macro_rules | `(tactic| walk_at "rd") => `(tactic| try dsimp only [tM1, tMethA, ipI, tAug, tOp, tC, tCB, tCons, tNil, gName, tVar, tAsg, tRet, tIfS, tTest, tB, tNext, tDrop, tFld, tCKw, tCall, tMeth, rI0, rI, CMul, rEq, rNe, rEqD, rNeD, tBM, rAppend, rExtend, rCat, rIn, rIxT, rIxL, tSl, rSlL, tPart, tNoPart, tChain, tUn, rU, tIf, tNot, tOr, tAnd, tOrV, tAndV, tMake, sFld, sFldAug, tLst, tTup, tFault, pad, List.set, List.getElem?_cons_zero, List.getElem?_cons_succ, cxOf, List.map_cons, List.map_nil, List.append_nil, List.cons_append, List.nil_append])
local macro_rules | `(tactic| walk_at "sq") => `(tactic| (refine seq_go ?_; walk_at "rd"))
local macro_rules | `(tactic| walk_at "r0") => `(tactic| (rw [start_pad (by rfl)]; walk_at "rd"))
section
variable {P : Program} {w : World} {K : PySem.W.Frag} {mg : Str → Option Value} {base : Heap} {c : Cs}
/-! ### a value's numerals -/
def srcValue (F : Nat) (l : Vafmsa.Toks) : Vafmsa.Got (List Nat × Vafmsa.Toks) := (Vafmsa.takeSign 40 l).bind fun q => (Vafmsa.takeNumbers F [] q).bind fun v => (Vafmsa.takeSign 59 v.2).map fun r => (v.1, r)
theorem numbers_step (F : Nat) (done : List Nat) (t : Vafmsa.Token) (r : Vafmsa.Toks) (ok : TokOk t.tok) : Vafmsa.takeNumbers (F + 1) done (t :: r) = if t.tok = .sign 41 then .ok (done, r) else match t.tok with
    | .num x => if 60 ≤ done.length then .error ⟨4, t.place⟩ else Vafmsa.takeNumbers F (done ++ [x]) r
    | _ => .error ⟨2, t.place⟩ := by
  rw [Vafmsa.takeNumbers.eq_def]
  dsimp only
  rw [signIs_at]
  by_cases h : t.tok = .sign 41
  · rw [if_pos h, if_pos (by simpa using h)]
    rfl
  · rw [if_neg h, if_neg (by simpa using h)]
    obtain ⟨p, tk⟩ := t
    cases tk with
    | num x =>
      rw [takeNum_yes (n := x) rfl, if_pos ⟨Nat.zero_le _, ok.2.1 x rfl⟩]
      rfl
    | _ => rfl
theorem numbers_good : ∀ (F : Nat) (done : List Nat) (l : Vafmsa.Toks) (v : List Nat) (l' : Vafmsa.Toks), Vafmsa.takeNumbers F done l = .ok (v, l') → (∀ t ∈ l, TokOk t.tok) → ValOk done → ValOk v ∧ Adv l l'
  | 0, done, l, v, l', h, _, _ => by cases h
  | F + 1, done, [], v, l', h, _, _ => by cases h
  | F + 1, done, t :: r, v, l', h, hT, hd => by
    rw [numbers_step _ _ _ _ (hT t (List.mem_cons_self ..))] at h
    split at h
    · rename_i ht
      injection h with h
      obtain ⟨rfl, rfl⟩ := Prod.mk.inj h
      exact ⟨hd, adv_tail (fun z => by rw [ht] at z; cases z)⟩
    · obtain ⟨p, tk⟩ := t
      cases tk with
      | num x =>
        dsimp only at h
        split at h
        · cases h
        · rename_i h60
          have hx := (hT ⟨p, .num x⟩ (List.mem_cons_self ..)).2.1 x rfl
          obtain ⟨i1, i2⟩ := numbers_good F (done ++ [x]) r v l' h (fun t ht => hT t (List.mem_cons_of_mem _ ht)) ⟨by rw [List.length_append]; show done.length + 1 ≤ 60; omega, fun n hn => by
            rcases List.mem_append.mp hn with hn | hn
            · exact hd.2 n hn
            · rcases List.mem_cons.mp hn with rfl | hn
              · exact hx
              · cases hn⟩
          exact ⟨i1, (adv_tail (fun z => by cases z)).trans i2⟩
      | word _ => cases h
      | str _ => cases h
      | sign _ => cases h
      | ending => cases h
theorem value_good {F : Nat} {l l' : Vafmsa.Toks} {v : List Nat} (h : srcValue F l = .ok (v, l')) (hT : ∀ t ∈ l, TokOk t.tok) : ValOk v ∧ Adv l l' := by
  obtain ⟨q, h1, h2⟩ := bind_ok h
  obtain ⟨⟨x, l2⟩, h3, h4⟩ := bind_ok h2
  obtain ⟨l3, h5, h6⟩ := map_ok h4
  obtain ⟨rfl, rfl⟩ := Prod.mk.inj h6
  have a1 := takeSign_adv h1
  obtain ⟨g1, g2⟩ := numbers_good F [] q _ l2 h3 (fun t ht => hT t (a1.2.1 t ht)) ⟨Nat.zero_le _, fun n hn => by (cases hn)⟩
  exact ⟨g1, a1.trans (g2.trans (takeSign_adv h5))⟩
def GivesVal (c : Cs) (Z : List Addr) (H : Hp) (p : Addr) (n : Nat) (r : Vafmsa.Got (List Nat × Vafmsa.Toks)) (Q : VK) (E : XK) : Prop := match r with
  | .error e => FaultAt c p H e E
  | .ok (v, l) => ∀ a H', Beside p H H' → SrcAt c Z H' p (n, l) → hideZ Z H' a = some (.lst (nvs v)) → Q (.ref a) H'
def spReadValue (c : Cs) : Sp := fun vs H Q E => ∃ (Z : List Addr) (p : Addr) (F n : Nat) (l : Vafmsa.Toks), vs = [.ref p] ∧ p ∈ Z ∧ (∀ z ∈ Z, H z ≠ none) ∧ SrcAt c Z H p (n, l) ∧ l.length ≤ F ∧ EndsIn l ∧ (∀ t ∈ l, TokOk t.tok) ∧ GivesVal c Z H p n (srcValue F l) Q E
theorem kindV_num_dec (t : Vafmsa.Tok) (h : ∀ x, t ≠ .num x) : decide (kindV t = "numeral") = false := decide_eq_false fun z => by
  obtain ⟨x, e⟩ := kindV_num.mp z
  exact h x e
theorem sc_Reading_read_value : FnScope ["self", "numbers", "token"] ["self"] (defScope (inClass (topS 108) 10)) := ⟨rfl, rfl, rfl, by decide +kernel, rfl, by decide +kernel, by decide +kernel⟩
theorem d_Reading_read_value (T : Top K mg c) : MethOk P w K mg base (L2.CX P w) 4 c.Reading "read_value" (spReadValue c) := T.m_Reading_read_value.ok T.c_Reading.cl fun f fd F => by
  refine F.okX sc_Reading_read_value (fun vs H Q E h => ?_) (fun cdv A outer s H vs Q E hr h => ⟨_, (pss_cons (ps_expr (pmeth (E := E) (d_Reading_take_mark T) (hr.mono (by omega)) (passes_call (takes_of rfl rfl rfl rfl) fun _ _ _ _ h => h) (pv 0) (pa_cons pe_str pa_nil)))
 (pss_cons (ps_set (i := 1) sc_Reading_read_value.nd rfl (.inl rfl) (pe_lst pa_nil))
 (pss_cons (ps_while (by first | exact PassesOwn.leaving | exact PassesOwn.never) (pt_val (pmeth (d_Reading_next_is T) (hr.mono (by omega)) pass0 (pv 0) (pa_cons (pe_txt T.n_NUMERAL) pa_nil)))
 (pss_cons (ps_set (i := 2) sc_Reading_read_value.nd rfl (.inl rfl) (pmeth0 (d_Reading_take T) (hr.mono (by omega)) pass0 (pv 0)))
 (pss_cons (ps_if (pt_cmpR op_eq (pe_callB call_len_seq (by rfl) T.b_len (by decide +kernel) (pa_cons (pv 1) pa_nil)) (pe_num T.n_MOST_NUMERALS) (nomark _))
 (pss_one (ps_raise rfl (takes_of rfl rfl rfl rfl) (by exact pmk_fault T (hr.mono (by omega)) (pa_cons (pe_num T.n_TOO_MANY) (pa_cons (pe_fld (pv 2) rfl) pa_nil)) (mono_two fun _ _ _ _ m h => mono_fldv m h))))
 pss_nil)
 (pss_one (ps_expr (pe_bm PySem.F.plainAttrs_list PySem.F.slot_list_append PySem.F.type_list_append mt_append (pv 1) (pa_cons (pe_fld (pv 2) rfl) pa_nil)))))))
 (pss_cons (ps_expr (pmeth (E := E) (d_Reading_take_mark T) (hr.mono (by omega)) (passes_call (takes_of rfl rfl rfl rfl) fun _ _ _ _ h => h) (pv 0) (pa_cons pe_str pa_nil)))
 (pss_cons (ps_expr (pmeth (E := E) (d_Reading_take_mark T) (hr.mono (by omega)) (passes_call (takes_of rfl rfl rfl rfl) fun _ _ _ _ h => h) (pv 0) (pa_cons pe_str pa_nil)))
 (pss_one (ps_ret (pv 1)))))))), ?_⟩)
  · obtain ⟨Z, p, F, n, l, rfl, _⟩ := h
    rfl
  · obtain ⟨Z, p, F, n, l, rfl, hpZ, hz, hA, hF, hE, hT, q⟩ := h
    obtain ⟨t, r, rfl⟩ := ends_ne hE
    obtain ⟨dx, tl, us, L, j, v0, hP, _⟩ := hA.head
    have hTt : TokOk t.tok := hT t (List.mem_cons_self ..)
    unfold srcValue at q
    rw [takeSign_at] at q
    walk_at "r0"
    walk_at "sq"
    refine ⟨_, rfl, p, dx, _, rfl, hP, rdF_none (by decide +kernel) (by decide +kernel) (by decide +kernel), Z, p, n, t, r, [40], by rw [e_lp], hpZ, hA, fun hm H1 b1 hA1 => ?_, fun hm => ?_⟩
    rotate_left
    · rw [if_neg fun z => hm ((mark_sign hTt (by decide)).mpr z)] at q
      exact q
    have hs : t.tok = .sign 40 := (mark_sign hTt (by decide)).mp hm
    rw [if_pos hs] at q
    have q1 : GivesVal c Z H p n ((Vafmsa.takeNumbers F [] r).bind fun v => (Vafmsa.takeSign 59 v.2).map fun r => (v.1, r)) Q E := q
    clear q
    have at1 := adv_tail (t := t) (r := r) (fun z => by rw [hs] at z; cases z)
    walk_at "sq"
    refine ⟨Nat.zero_le _, fun D hD => ?_⟩
    have hpD : p ≠ D := fun z => hA1.there (z ▸ hD)
    have hDZ : D ∉ Z := fun mm => b1.occ hA1.there hz D mm hD
    refine seq_go ?_
    refine ⟨fun mm σ H' => ∃ (F' : Nat) (done : List Nat) (l' : Vafmsa.Toks) (v2 : Option V), mm = l'.length ∧ σ = [some (.ref p), some (.ref D), v2] ∧ Beside p H H' ∧ SrcAt c (D :: Z) H' p (n, l') ∧ l'.length < F' ∧ EndsIn l' ∧ (∀ t ∈ l', TokOk t.tok) ∧ H' D = some (.lst (nvs done)) ∧ done.length ≤ 60 ∧ Vafmsa.takeNumbers F [] r = Vafmsa.takeNumbers F' done l', ⟨_, F, [], r, none, rfl, rfl, b1.new (b1.free hD hA1.there), hA1.mono (upd_ne hpD) (hideZ_new hD (hideZ_add hD)), by rw [List.length_cons] at hF; omega, at1.1 hE, fun x hx => hT x (at1.2.1 x hx), upd_same, Nat.zero_le _, rfl⟩, ?_⟩
    rintro mm σ H2 ⟨F', done, l', v2, rfl, rfl, b2, hA2, hF', hE', hT', hD2, hdl, heq⟩
    obtain ⟨t2, r2, rfl⟩ := ends_ne hE'
    obtain ⟨F', rfl⟩ : ∃ g, F' = g + 1 := ⟨F' - 1, by omega⟩
    have hT2 : TokOk t2.tok := hT' t2 (List.mem_cons_self ..)
    obtain ⟨dx2, tl2, us2, L2', j2, v2', hP2, _⟩ := hA2.head
    rw [numbers_step _ _ _ _ hT2] at heq
    walk_at "rd"
    refine ⟨_, rfl, p, dx2, _, rfl, hP2, rdF_none (by decide +kernel) (by decide +kernel) (by decide +kernel), D :: Z, p, n, t2, r2, _, rfl, hA2, _, rfl, ?_⟩
    by_cases hx : ∃ x, t2.tok = .num x
    · obtain ⟨x, hx⟩ := hx
      rw [if_neg (fun z => by rw [hx] at z; cases z), hx] at heq
      dsimp only at heq
      rw [decide_eq_true (kindV_num.mpr ⟨x, hx⟩), if_pos rfl]
      refine ⟨_, fun _ _ z => z, ?_⟩
      walk_at "sq"
      refine ⟨_, rfl, p, dx2, _, rfl, hP2, rdF_none (by decide +kernel) (by decide +kernel) (by decide +kernel), D :: Z, p, n, t2, r2, rfl, List.mem_cons_of_mem _ hpZ, hA2, fun v3 H3 b3 hA3 hv3 => ?_⟩
      obtain ⟨qt, dq, told, bh, rfl, hq, _, m2, _⟩ := (hv3.same hideZ_same).open
      rw [m2 x hx] at hq
      have hD3 : H3 D = some (.lst (nvs done)) := beside b3 hD2 (Ne.symm hpD)
      walk_at "sq"
      refine ⟨_, rfl, D, _, rfl, .inl (SqL.of hD3), rfl, _, rfl, ?_⟩
      rw [nvs_length]
      by_cases h60 : 60 ≤ done.length
      · rw [if_pos h60] at heq
        rw [heq] at q1
        have q' : FaultAt c p H ⟨4, t2.place⟩ E := q1
        have e60 : done.length = 60 := by omega
        rw [if_pos (by rw [e60]; rfl)]
        exact ⟨_, rfl, qt, c.Token, dq, _, _, rfl, hq, T.c_Token.cl, T.c_Token.na _ (by simp), tkF_place, 4, t2.place, rfl, (q'.later (b2.trans b3) hA3.there).raise⟩
      · rw [if_neg h60] at heq
        rw [if_neg (by
          rw [decide_eq_false (fun e => h60 (by injection e with e; omega))]
          exact Bool.false_ne_true)]
        have at2 := adv_tail (t := t2) (r := r2) (fun z => by rw [hx] at z; cases z)
        walk_at "rd"
        have hs3 : Same (hideZ (D :: Z) H3) (hideZ (D :: Z) (upd H3 D (.lst (nvs done ++ [.int (Int.ofNat x)])))) := hideZ_upd (List.mem_cons_self ..)
        refine ⟨_, rfl, .inl ⟨rfl, _, SqL.of hD3⟩, _, rfl, qt, c.Token, dq, _, _, rfl, hq, T.c_Token.cl, T.c_Token.na _ (by simp), tkF_told, D, _, _, rfl, rfl, hD3, szl (by rw [nvs_length]; omega), r2.length, by rw [List.length_cons]; omega, F', done ++ [x], r2, some (.ref qt), rfl, rfl, (b2.trans b3).new (b1.free hD hA1.there), hA3.mono (upd_ne hpD) hs3, by rw [List.length_cons] at hF'; omega, at2.1 hE', fun y hy => hT' y (at2.2.1 y hy), ?_, by rw [List.length_append]; show done.length + 1 ≤ 60; omega, heq⟩
        rw [upd_same, nvs_append]
        rfl
    · rw [kindV_num_dec t2.tok fun x e => hx ⟨x, e⟩, if_neg Bool.false_ne_true]
      walk_at "sq"
      refine ⟨_, rfl, p, dx2, _, rfl, hP2, rdF_none (by decide +kernel) (by decide +kernel) (by decide +kernel), Z, p, n, t2, r2, [41], by rw [e_rp], hpZ, hA2.mono rfl hideZ_more, fun hm H3 b3 hA3 => ?_, fun hm => ?_⟩
      rotate_left
      · have h41 : ¬ t2.tok = .sign 41 := fun z => hm ((mark_sign hT2 (by decide)).mpr z)
        rw [if_neg h41] at heq
        have e2 : Vafmsa.takeNumbers F [] r = .error ⟨2, t2.place⟩ := by
          rw [heq]
          obtain ⟨pl, tk⟩ := t2
          cases tk with
          | num x => exact absurd ⟨x, rfl⟩ hx
          | _ => rfl
        rw [e2] at q1
        have q' : FaultAt c p H ⟨2, t2.place⟩ E := q1
        exact q'.later b2 hA2.there
      have h41 : t2.tok = .sign 41 := (mark_sign hT2 (by decide)).mp hm
      rw [if_pos h41] at heq
      rw [heq] at q1
      have q2 : GivesVal c Z H p n ((Vafmsa.takeSign 59 r2).map fun r => (done, r)) Q E := q1
      have at2 := adv_tail (t := t2) (r := r2) (fun z => by rw [h41] at z; cases z)
      obtain ⟨t3, r3, rfl⟩ := ends_ne (at2.1 hE')
      have hT3 : TokOk t3.tok := hT' t3 (at2.2.1 t3 (List.mem_cons_self ..))
      obtain ⟨dx3, tl3, us3, L3', j3, v3', hP3, _⟩ := hA3.head
      rw [takeSign_at] at q2
      have b23 := b2.trans b3
      walk_at "sq"
      refine ⟨_, rfl, p, dx3, _, rfl, hP3, rdF_none (by decide +kernel) (by decide +kernel) (by decide +kernel), Z, p, n, t3, r3, [59], by rw [e_sc], hpZ, hA3, fun hm3 H4 b4 hA4 => ?_, fun hm3 => ?_⟩
      rotate_left
      · rw [if_neg fun z => hm3 ((mark_sign hT3 (by decide)).mpr z)] at q2
        have q' : FaultAt c p H ⟨2, t3.place⟩ E := q2
        exact q'.later b23 hA3.there
      rw [if_pos ((mark_sign hT3 (by decide)).mp hm3)] at q2
      have q3 : ∀ a H', Beside p H H' → SrcAt c Z H' p (n, r3) → hideZ Z H' a = some (.lst (nvs done)) → Q (.ref a) H' := q2
      walk_at "rd"
      have hD4 : H4 D = some (.lst (nvs done)) := beside (b3.trans b4) hD2 (Ne.symm hpD)
      exact ⟨_, rfl, q3 D H4 (b23.trans b4) hA4 (by rw [hideZ_ne hDZ]; exact hD4)⟩
end
end FX
end
section
set_option Elab.async false
set_option linter.all false
set_option maxRecDepth 100000
set_option maxHeartbeats 4000000
namespace FX
open PySem PySem.Spec PyProof.Rows L2 FT
open VafmsBase (Fmt)
local macro_rules | `(tactic| walk_at "rd") => `(tactic| try dsimp only [tM1, tMethA, ipI, tAug, tOp, tC, tCB, tCons, tNil, gName, tVar, tAsg, tRet, tIfS, tTest, tB, tNext, tDrop, tFld, tCKw, tCall, tMeth, rI0, rI, CMul, rEq, rNe, rEqD, rNeD, tBM, rAppend, rExtend, rCat, rIn, rIxT, rIxL, tSl, rSlL, tPart, tNoPart, tChain, tUn, rU, tIf, tNot, tOr, tAnd, tOrV, tAndV, tMake, sFld, sFldAug, tLst, tTup, tFault, pad, List.set, List.getElem?_cons_zero, List.getElem?_cons_succ, cxOf, List.map_cons, List.map_nil, List.append_nil, List.cons_append, List.nil_append])
local macro_rules | `(tactic| walk_at "sq") => `(tactic| (refine seq_go ?_; walk_at "rd"))
local macro_rules | `(tactic| walk_at "r0") => `(tactic| (rw [start_pad (by rfl)]; walk_at "rd"))
section
variable {P : Program} {w : World} {K : PySem.W.Frag} {mg : Str → Option Value} {base : Heap} {c : Cs}
/-! ### the mathematics of a whole source -/
theorem ends_cons {x : Vafmsa.Token} {l : Vafmsa.Toks} (h : EndsIn l) : EndsIn (x :: l) := by
  obtain ⟨t, r, rfl⟩ := ends_ne h
  obtain ⟨p, h⟩ := h
  exact ⟨p, by rw [List.getLast?_cons_cons]; exact h⟩
theorem tokens_ends : ∀ (f p : Nat) (t : List Nat) (l : Vafmsa.Toks), Vafmsa.tokensFrom f p t = .ok l → EndsIn l
  | 0, p, t, l, h => by cases h
  | f + 1, p, [], l, h => by
    injection h with h
    rw [← h]
    exact ⟨p, rfl⟩
  | f + 1, p, b :: r, l, h => by
    rw [Vafmsa.tokensFrom.eq_def] at h
    dsimp only at h
    split at h
    · exact tokens_ends f _ _ l h
    split at h
    · split at h
      · cases h
      · obtain ⟨l', h1, rfl⟩ := map_ok h
        exact ends_cons (tokens_ends f _ _ l' h1)
    split at h
    · split at h
      · cases h
      · obtain ⟨l', h1, rfl⟩ := map_ok h
        exact ends_cons (tokens_ends f _ _ l' h1)
    split at h
    · split at h
      · cases h
      · obtain ⟨l', h1, rfl⟩ := map_ok h
        exact ends_cons (tokens_ends f _ _ l' h1)
    split at h
    · obtain ⟨l', h1, rfl⟩ := map_ok h
      exact ends_cons (tokens_ends f _ _ l' h1)
    · cases h
theorem values_step (n : Nat) (done : List (List Nat)) (t : Vafmsa.Token) (r : Vafmsa.Toks) : Vafmsa.takeValues (n + 1) done (t :: r) = if t.tok = .ending then .ok done else if ¬ t.tok = .word (Vafmsa.word "value") then .error ⟨2, t.place⟩ else if 6 ≤ done.length then .error ⟨4, t.place⟩ else (srcValue (r.length + 1) r).bind fun v => Vafmsa.takeValues n (done ++ [v.1]) v.2 := by
  have gen : t.tok ≠ .ending → Vafmsa.takeValues (n + 1) done (t :: r) = if (!Vafmsa.wordIs "value" (t :: r)) = true then Vafmsa.wrong (t :: r) else if Vafmsa.VALUES ≤ done.length then .error ⟨4, t.place⟩ else (Vafmsa.takeSign 40 r).bind fun q => (Vafmsa.takeNumbers (r.length + 1) [] q).bind fun v => (Vafmsa.takeSign 59 v.2).bind fun r => Vafmsa.takeValues n (done ++ [v.1]) r := fun h => by
    obtain ⟨p, tk⟩ := t
    cases tk with
    | ending => exact absurd rfl h
    | _ => rfl
  by_cases he : t.tok = .ending
  · rw [if_pos he]
    obtain ⟨p, tk⟩ := t
    dsimp only at he
    subst he
    rfl
  rw [if_neg he, gen he, wordIs_at]
  by_cases hv : t.tok = .word (Vafmsa.word "value")
  · rw [decide_eq_true hv, if_neg (show ¬ (!true) = true by decide), if_neg (show ¬ ¬ t.tok = .word (Vafmsa.word "value") from fun z => z hv)]
    by_cases h6 : 6 ≤ done.length
    · rw [if_pos h6, if_pos (show Vafmsa.VALUES ≤ done.length from h6)]
    · rw [if_neg h6, if_neg (show ¬ Vafmsa.VALUES ≤ done.length from h6)]
      unfold srcValue
      cases Vafmsa.takeSign 40 r with
      | error e => rfl
      | ok q =>
        show (Vafmsa.takeNumbers (r.length + 1) [] q).bind _ = Except.bind (Except.bind (Vafmsa.takeNumbers (r.length + 1) [] q) _) _
        cases Vafmsa.takeNumbers (r.length + 1) [] q with
        | error e => rfl
        | ok v =>
          show (Vafmsa.takeSign 59 v.2).bind _ = Except.bind (Except.map _ (Vafmsa.takeSign 59 v.2)) _
          cases Vafmsa.takeSign 59 v.2 <;> rfl
  · rw [decide_eq_false hv, if_pos (show (!false) = true by decide), if_pos hv]
    rfl
theorem values_good : ∀ (n : Nat) (done : List (List Nat)) (l : Vafmsa.Toks) (vs : List (List Nat)), Vafmsa.takeValues n done l = .ok vs → (∀ t ∈ l, TokOk t.tok) → done.length ≤ 6 → (∀ v ∈ done, ValOk v) → vs.length ≤ 6 ∧ ∀ v ∈ vs, ValOk v
  | 0, done, l, vs, h, _, _, _ => by cases h
  | n + 1, done, [], vs, h, _, _, _ => by cases h
  | n + 1, done, t :: r, vs, h, hT, hd, hv => by
    rw [values_step] at h
    split at h
    · injection h with h
      rw [← h]
      exact ⟨hd, hv⟩
    split at h
    · cases h
    split at h
    · cases h
    rename_i h6
    obtain ⟨⟨v, l'⟩, h1, h2⟩ := bind_ok h
    obtain ⟨g1, g2⟩ := value_good h1 fun t ht => hT t (List.mem_cons_of_mem _ ht)
    exact values_good n (done ++ [v]) l' vs h2 (fun t ht => hT t (List.mem_cons_of_mem _ (g2.2.1 t ht))) (by rw [List.length_append]; show done.length + 1 ≤ 6; omega) fun x hx => by
      rcases List.mem_append.mp hx with hx | hx
      · exact hv x hx
      · rcases List.mem_cons.mp hx with rfl | hx
        · exact g1
        · cases hx
/-! ### Reading(tokens) -/
def spReadingInit (c : Cs) : Sp := fun vs H Q _ => ∃ p dx tl : Addr, vs = [.ref p, .ref tl] ∧ H p = some (.ins c.Reading dx []) ∧ Q .non (upd H p (.ins c.Reading dx (rdF tl 0 0)))
theorem sc_Reading_init : FnScope ["self", "tokens"] ["self", "tokens"] (defScope (inClass (topS 108) 0)) := ⟨rfl, rfl, rfl, by decide +kernel, rfl, by decide +kernel, by decide +kernel⟩
theorem m_Reading (T : Top K mg c) : MakeOk P w K mg base CX0 1 "Reading" c.Reading (spReadingInit c) := T.i_Reading.ok T.c_Reading fun f fd F => by
  refine F.ok sc_Reading_init (fun vs H Q E h => ?_) (fun cdv A outer s H vs Q E hr h => ⟨_, (pss_cons (ps_fld (pv 0) (pv 1) rfl)
 (pss_cons (ps_fld (pv 0) pe_int rfl)
 (pss_one (ps_fld (pv 0) pe_int rfl)))), ?_⟩)
  · obtain ⟨p, dx, tl, rfl, _⟩ := h
    rfl
  · obtain ⟨p, dx, tl, rfl, hp, q⟩ := h
    walk_at "r0"
    walk_at "sq"
    refine ⟨_, rfl, _, rfl, p, _, dx, _, rfl, hp, T.c_Reading.cl, T.c_Reading.na _ (by simp), (by show 0 < 1000; decide), ?_⟩
    walk_at "sq"
    refine ⟨_, rfl, p, _, dx, _, rfl, upd_same, T.c_Reading.cl, T.c_Reading.na _ (by simp), (by show 1 < 1000; decide), ?_⟩
    rw [upd_upd]
    refine ⟨_, rfl, p, _, dx, _, rfl, upd_same, T.c_Reading.cl, T.c_Reading.na _ (by simp), (by show 2 < 1000; decide), ?_⟩
    rw [upd_upd]
    exact q
theorem made1 {H : Hp} {x dx C : Addr} {o : HO} (hx : H x = none) (hd : H dx = none) : Same H (upd (upd (upd H dx (.own x)) x (.ins C dx [])) x o) := Same.chg (Same.chg (Same.add hd) hx) hx
/-- what a read source is -/
def SourceAt (c : Cs) (H : Hp) (v : V) (x : Vafmsa.Source) : Prop := ∃ (q dx ra la : Addr) (us : List V), v = .ref q ∧ H q = some (.ins c.Source dx [("row", .ref ra), ("listed", .ref la)]) ∧ RowAt c H ra x.format ∧ H la = some (.lst us) ∧ TxtsAt H us x.values
def GivesSrc (c : Cs) (Z : List Addr) (H : Hp) (r : Vafmsa.Got Vafmsa.Source) (Q : VK) (E : XK) : Prop := match r with
  | .error e => Raises c H e.kind e.place E
  | .ok x => ∀ v H', Same H H' → SourceAt c (hideZ Z H') v x → (∃ q : Addr, v = .ref q ∧ H q = none) → Q v H'
def spReadSource (c : Cs) : Sp := fun vs H Q E => ∃ (a : Addr) (s : List Nat) (Z : List Addr), vs = [.ref a] ∧ H a = some (.lst (nvs s)) ∧ s.length ≤ 10000 ∧ Lsts H Z ∧ GivesSrc c Z H (Vafmsa.read s) Q E
theorem fault_of_raises {p : Addr} {H H1 : Hp} {e : Vafmsa.Fault} {E : XK} (r : Raises c H e.kind e.place E) (hp : H p = none) (s : Same H H1) : FaultAt c p H1 e E := fun d H' hd hb hx => r d H' (s.free hd) (hide_from hp s hb) hx
theorem same_hide_new {p : Addr} {Z : List Addr} {H1 H2 : Hp} (hp : H1 p = none) (s : Same H1 H2) : Same (hideZ Z H1) (hideZ (p :: Z) H2) := hideZ_new hp (hideZ_of s)
end
end FX
end
section
set_option Elab.async false
set_option linter.all false
set_option maxRecDepth 100000
set_option maxHeartbeats 4000000
namespace FX
open PySem PySem.Spec PyProof.Rows L2 FT
open VafmsBase (Fmt readNat)
local macro_rules | `(tactic| walk_at "rd") => `(tactic| try dsimp only [tM1, tMethA, ipI, tAug, tOp, tC, tCB, tCons, tNil, gName, tVar, tAsg, tRet, tIfS, tTest, tB, tNext, tDrop, tFld, tCKw, tCall, tMeth, rI0, rI, CMul, rEq, rNe, rEqD, rNeD, tBM, rAppend, rExtend, rCat, rIn, rIxT, rIxL, tSl, rSlL, tPart, tNoPart, tChain, tUn, rU, tIf, tNot, tOr, tAnd, tOrV, tAndV, tMake, sFld, sFldAug, tLst, tTup, tFault, pad, List.set, List.getElem?_cons_zero, List.getElem?_cons_succ, cxOf, List.map_cons, List.map_nil, List.append_nil, List.cons_append, List.nil_append])
local macro_rules | `(tactic| walk_at "sq") => `(tactic| (refine seq_go ?_; walk_at "rd"))
local macro_rules | `(tactic| walk_at "r0") => `(tactic| (rw [start_pad (by rfl)]; walk_at "rd"))
section
variable {P : Program} {w : World} {K : PySem.W.Frag} {mg : Str → Option Value} {base : Heap} {c : Cs}
def GivesRN (c : Cs) (tot : Nat) (Z : List Addr) (H : Hp) (p : Addr) (r : Except Unit (Fmt × NumS)) (Q : VK) (E : XK) : Prop := match r with
  | .error _ => NafAt c p H E
  | .ok (f, s') => ∀ a H', Beside p H H' → NumAt c tot Z H' p s' → RowAt c (hideZ Z H') a f → Q (.ref a) H'
theorem d_NumberReading_read_row (T : Top K mg c) (tot : Nat) : ∀ m, MethOk P w K mg base (L2.CX P w) (3 * m + 5) c.NumberReading "read_row" (numR c tot m).spRow
  | 0 => (MethAt.never T.m_NumberReading_read_row T.c_NumberReading.cl).imp fun vs H Q E h => by
    obtain ⟨Z, p, i, b, s, _, _, _, _, hp, _⟩ := h
    obtain ⟨_, p2, p3⟩ := (show preN 0 i s from hp)
    omega
  | m + 1 => T.m_NumberReading_read_row.ok T.c_NumberReading.cl fun f fd F => by
    have RP := d_NumberReading_read_piece (P := P) (w := w) (base := base) T tot (m := m) (kr := 3 * m + 5) (by omega) (d_NumberReading_read_row T tot m)
    refine F.okX sc_NumberReading_read_row (fun vs H Q E h => ?_) (fun cdv A outer s H vs Q E hr h => ⟨_, (pss_cons (ps_set (i := 2) sc_NumberReading_read_row.nd rfl (.inl rfl) (pmeth (E := E) (d_NumberReading_take T tot) (hr.mono (by omega)) (passes_call (takes_of rfl rfl rfl rfl) fun _ _ _ _ h => h) (pv 0) (pa_cons pe_int (pa_cons (pe_num T.n_MOST_PIECES) pa_nil))))
 (pss_cons (ps_set (i := 3) sc_NumberReading_read_row.nd rfl (.inl rfl) (pe_lst pa_nil))
 (pss_cons (ps_while (by first | exact PassesOwn.leaving | exact PassesOwn.never) (pt_cmpR op_lt (pe_callB call_len_seq (by rfl) T.b_len (by decide +kernel) (pa_cons (pv 3) pa_nil)) (pv 2) (nomark _))
 (pss_one (ps_expr (pe_bm PySem.F.plainAttrs_list PySem.F.slot_list_append PySem.F.type_list_append mt_append (pv 3) (pa_cons (pmeth (E := E) RP (hr.mono (by omega)) (passes_call (takes_of rfl rfl rfl rfl) fun _ _ _ _ h => h) (pv 0) (pa_cons (pv 1) pa_nil)) pa_nil)))))
 (pss_one (ps_ret (pv 3)))))), ?_⟩)
    · obtain ⟨Z, p, i, b, s, rfl, _⟩ := h
      rfl
    · obtain ⟨Z, p, i, b, s, rfl, hpZ, hz, hA, hpre, q⟩ := h
      obtain ⟨n, l⟩ := s
      replace hpre : preN (m + 1) i (n, l) := hpre
      replace hA : NumAt c tot Z H p (n, l) := hA
      replace q : GivesRN c tot Z H p (o2e (npRow i b n l)) Q E := by
        have q' : (numR c tot (m + 1)).GivesR Z H p (o2e (npRow i b n l)) Q E := q
        cases hh : npRow i b n l with
        | none => rw [hh] at q'; exact q'
        | some x => rw [hh] at q'; exact q'
      obtain ⟨dx, nl, L, j0, hP, _⟩ := id hA
      unfold npRow at q
      walk_at "r0"
      walk_at "sq"
      refine ⟨_, rfl, p, dx, _, rfl, hP, nmF_none (by decide +kernel) (by decide +kernel) (by decide +kernel), Z, p, 0, 14, n, l, rfl, hpZ, hA, ?_⟩
      cases hk : readNat 0 14 l with
      | none => rw [hk] at q; exact q
      | some x =>
      obtain ⟨k, l1⟩ := x
      rw [hk] at q
      have q1 : GivesRN c tot Z H p (o2e (npPieces i b k n l1)) Q E := q
      clear q
      obtain ⟨el, _, hk14⟩ := readNat_some hk
      have hl1 : l1.length < i := by
        have := hpre.1
        rw [el] at this
        simp only [List.length_cons] at this
        omega
      have hp2 : 14 < n + (m + 1) := hpre.2.1
      have hp3 : n ≤ 14 := hpre.2.2
      intro H1 b1 hA1
      walk_at "sq"
      refine ⟨Nat.zero_le _, fun D hD => ?_⟩
      have hpD : p ≠ D := fun z => hA1.there (z ▸ hD)
      have hDZ : D ∉ Z := fun mm => b1.occ hA1.there hz D mm hD
      refine seq_go ?_
      refine ⟨fun mm σ H' => ∃ (j F' n' : Nat) (l' : List Int) (ps : List Pce) (vs' : List V), mm = k - j ∧ j ≤ k ∧ ps.length = j ∧ σ = [some (.ref p), some (.bl b), some (.int (Int.ofNat k)), some (.ref D)] ∧ Beside p H H' ∧ (∀ z ∈ D :: Z, H' z ≠ none) ∧ NumAt c tot (D :: Z) H' p (n', l') ∧ l'.length < F' ∧ 14 < n' + (m + 1) ∧ n' ≤ 14 ∧ H' D = some (.lst vs') ∧ Paired (PceAt c (hideZ (D :: Z) H')) vs' ps ∧ (∀ x ∈ ps, PForm x) ∧ o2e (npPieces i b k n l1) = (o2e (npPieces F' b (k - j) n' l')).map fun y => (rowOf ps y.1, y.2), ⟨_, 0, i, n, l1, [], [], rfl, Nat.zero_le _, rfl, rfl, b1.new (b1.free hD hA1.there), ?_, hA1.mono (upd_ne hpD) (hideZ_new hD (hideZ_add hD)), hl1, hp2, hp3, upd_same, .nil, fun x hx => (by cases hx), ?_⟩, ?_⟩
      · intro z mz
        by_cases e : z = D
        · rw [e, upd_same]
          exact fun z => by cases z
        · rw [upd_ne e]
          rcases List.mem_cons.mp mz with mz | mz
          · exact absurd mz e
          · exact b1.occ hA1.there hz z mz
      · show _ = Except.map _ (o2e (npPieces i b k n l1))
        cases npPieces i b k n l1 <;> rfl
      rintro mm σ H2 ⟨j, F', n', l', ps, vs', rfl, hj, hpl, rfl, b2, hz2, hA2, hl2, hn2, hn3, hD2, hps, hform, heq⟩
      obtain ⟨F', rfl⟩ : ∃ g, F' = g + 1 := ⟨F' - 1, by omega⟩
      obtain ⟨dx2, nl2, L2', j2, hP2, _⟩ := id hA2
      have hlen := hps.length
      walk_at "rd"
      refine ⟨_, rfl, D, _, rfl, .inl (SqL.of hD2), _, rfl, _, _, rfl, rfl, _, rfl, ?_⟩
      rw [hlen, hpl]
      by_cases hlt : j < k
      · rw [if_pos (decide_eq_true (by show (j : Int) < (k : Int); omega))]
        refine ⟨_, fun _ _ z => z, ?_⟩
        rw [show k - j = (k - j - 1) + 1 by omega, np_piece c tot m] at heq
        walk_at "rd"
        refine ⟨_, rfl, .inl ⟨rfl, _, SqL.of hD2⟩, _, rfl, p, dx2, _, rfl, hP2, nmF_none (by decide +kernel) (by decide +kernel) (by decide +kernel), _, rfl, D :: Z, p, F', b, n', l', rfl, List.mem_cons_of_mem _ hpZ, hz2, hA2, ⟨by show l'.length ≤ F'; omega, hn2, hn3⟩, ?_⟩
        cases hpc : takePieceN c tot m F' b n' l' with
        | error e =>
          rw [hpc] at heq
          rw [heq] at q1
          have q' : NafAt c p H E := q1
          exact q'.later b2
        | ok y =>
          obtain ⟨x, n3, l3⟩ := y
          rw [hpc] at heq
          obtain ⟨hx, h31, h32, h33⟩ := pieceN_good hpc ⟨by show l'.length ≤ F'; omega, hn2, hn3⟩
          intro v3 H3 b3 hA3 hv3
          have hD3 : H3 D = some (.lst vs') := beside b3 hD2 (Ne.symm hpD)
          have hs3 : Same (hideZ (D :: Z) H3) (hideZ (D :: Z) (upd H3 D (.lst (vs' ++ [v3])))) := hideZ_upd (List.mem_cons_self ..)
          have hs2 : Same (hideZ (D :: Z) H2) (hideZ (D :: Z) (upd H3 D (.lst (vs' ++ [v3])))) := fun x o e => hs3 x o ((b3.hide (List.mem_cons_of_mem _ hpZ)) x o e)
          refine ⟨D, vs', v3, rfl, rfl, hD3, szl (by omega), k - (j + 1), by omega, j + 1, F', n3, l3, ps ++ [x], vs' ++ [v3], rfl, hlt, by rw [List.length_append, hpl]; rfl, rfl, (b2.trans b3).new (b1.free hD hA1.there), ?_, hA3.mono (upd_ne hpD) hs3, by omega, by omega, h32, upd_same, paired_app (Paired.mapR hps fun _ _ z => z.same hs2) (.cons (hv3.same hs3) .nil), ?_, ?_⟩
          · intro z mz
            by_cases e : z = D
            · rw [e, upd_same]
              exact fun z => by cases z
            · rw [upd_ne e]
              exact b3.occ hA3.there hz2 z mz
          · intro z hz'
            rcases List.mem_append.mp hz' with hz' | hz'
            · exact hform z hz'
            · rcases List.mem_cons.mp hz' with rfl | hz'
              · exact hx
              · cases hz'
          · rw [heq]
            show Except.map _ (o2e ((npPieces F' b (k - j - 1) n3 l3).map _)) = Except.map _ (o2e (npPieces F' b (k - (j + 1)) n3 l3))
            rw [show k - (j + 1) = k - j - 1 by omega, o2e_map, got_mapE]
            congr 1
            funext y
            rw [rowOf_append]
      · obtain rfl : j = k := by omega
        rw [if_neg (by rw [decide_eq_false (by show ¬ (j : Int) < (j : Int); omega)]; exact Bool.false_ne_true)]
        rw [Nat.sub_self] at heq
        have heq2 : o2e (npPieces i b j n l1) = .ok (rowOf ps .done, n', l') := heq
        rw [heq2] at q1
        have q2 : ∀ a H', Beside p H H' → NumAt c tot Z H' p (n', l') → RowAt c (hideZ Z H') a (rowOf ps .done) → Q (.ref a) H' := q1
        walk_at "rd"
        refine ⟨_, rfl, q2 D H2 b2 (hA2.mono rfl hideZ_more) ⟨vs', by rw [hideZ_ne hDZ]; exact hD2, Pcs.of_view (Paired.mapR hps fun _ _ x => x.same hideZ_more) hform⟩⟩
/-! ### read_format -/
def spNumInit (c : Cs) : Sp := fun vs H Q _ => ∃ p dx nl : Addr, vs = [.ref p, .ref nl] ∧ H p = some (.ins c.NumberReading dx []) ∧ Q .non (upd H p (.ins c.NumberReading dx (nmF nl 0 0)))
theorem sc_NumberReading_init : FnScope ["self", "numbers"] ["self", "numbers"] (defScope (inClass (topS 56) 0)) := ⟨rfl, rfl, rfl, by decide +kernel, rfl, by decide +kernel, by decide +kernel⟩
theorem m_NumberReading (T : Top K mg c) : MakeOk P w K mg base CX0 1 "NumberReading" c.NumberReading (spNumInit c) := T.i_NumberReading.ok T.c_NumberReading fun f fd F => by
  refine F.ok sc_NumberReading_init (fun vs H Q E h => ?_) (fun cdv A outer s H vs Q E hr h => ⟨_, (pss_cons (ps_fld (pv 0) (pv 1) rfl)
 (pss_cons (ps_fld (pv 0) pe_int rfl)
 (pss_one (ps_fld (pv 0) pe_int rfl)))), ?_⟩)
  · obtain ⟨p, dx, tl, rfl, _⟩ := h
    rfl
  · obtain ⟨p, dx, tl, rfl, hp, q⟩ := h
    walk_at "r0"
    walk_at "sq"
    refine ⟨_, rfl, _, rfl, p, _, dx, _, rfl, hp, T.c_NumberReading.cl, T.c_NumberReading.na _ (by simp), (by show 0 < 1000; decide), ?_⟩
    walk_at "sq"
    refine ⟨_, rfl, p, _, dx, _, rfl, upd_same, T.c_NumberReading.cl, T.c_NumberReading.na _ (by simp), (by show 1 < 1000; decide), ?_⟩
    rw [upd_upd]
    refine ⟨_, rfl, p, _, dx, _, rfl, upd_same, T.c_NumberReading.cl, T.c_NumberReading.na _ (by simp), (by show 2 < 1000; decide), ?_⟩
    rw [upd_upd]
    exact q
def GivesFmt (c : Cs) (Z : List Addr) (H : Hp) (r : Option Fmt) (Q : VK) (E : XK) : Prop := match r with
  | none => ∀ H', Same H H' → E (.ref c.NotAFormat) none H'
  | some g => ∀ a H', Same H H' → RowAt c (hideZ Z H') a g → Q (.ref a) H'
def spReadFormat (c : Cs) : Sp := fun vs H Q E => ∃ (a : Addr) (x : List Int) (Z : List Addr), vs = [.ref a] ∧ H a = some (.lst (ivs x)) ∧ x.length ≤ 10000 ∧ Lsts H Z ∧ a ∉ Z ∧ GivesFmt c Z H (VafmsBase.whole VafmsBase.readFmt x) Q E
/-- the specification's format is the program's -/
theorem fmt_eq (x : List Int) : VafmsBase.whole VafmsBase.readFmt x = match npRow (x.length + 1) false 0 x with
    | some (g, _, []) => if g.holes ≤ 8 then some g else none
    | _ => none := by
  have e : VafmsBase.readFmt x = (readNat 0 14 x).bind fun k => (VafmsBase.readPieces (x.length + 1) k.1 k.2).bind fun u => if VafmsBase.okFmt u.1 then some u else none := rfl
  unfold VafmsBase.whole npRow
  rw [e]
  cases hk : readNat 0 14 x with
  | none => rfl
  | some kd =>
    obtain ⟨k, l⟩ := kd
    obtain ⟨ex, _, _⟩ := readNat_some hk
    have hl : l.length < x.length + 1 := by rw [ex, List.length_cons]; omega
    simp only [Option.bind_some]
    rw [np_iff _ false k 0 l hl (by decide)]
    cases VafmsBase.readPieces (x.length + 1) k l with
    | none => rfl
    | some u =>
      obtain ⟨g, r⟩ := u
      simp only [Option.bind_some]
      by_cases hc : ck false 0 g = true
      · rw [chk_yes hc]
        obtain ⟨c1, c2, _⟩ := ck_iff.mp hc
        by_cases h8 : g.holes ≤ 8
        · have eo : VafmsBase.okFmt g = true := by
            unfold VafmsBase.okFmt
            rw [c1, decide_eq_true (show g.size ≤ VafmsBase.PIECES by show g.size ≤ 14; omega), decide_eq_true (show g.holes ≤ VafmsBase.HOLES from h8)]
            rfl
          rw [eo, if_pos rfl]
          cases r with
          | nil => exact (if_pos h8).symm
          | cons a r => rfl
        · have eo : VafmsBase.okFmt g = false := by
            unfold VafmsBase.okFmt
            rw [decide_eq_false (show ¬ g.holes ≤ VafmsBase.HOLES from h8)]
            simp
          rw [eo, if_neg Bool.false_ne_true]
          cases r with
          | nil => exact (if_neg h8).symm
          | cons a r => rfl
      · rw [chk_no hc]
        have eo : VafmsBase.okFmt g = false := by
          cases e : VafmsBase.okFmt g with
          | false => rfl
          | true =>
            unfold VafmsBase.okFmt at e
            rw [Bool.and_eq_true, Bool.and_eq_true, decide_eq_true_iff, decide_eq_true_iff] at e
            exact absurd (ck_iff.mpr ⟨e.1, by have := e.2.1; unfold VafmsBase.PIECES at this; omega, fun z => absurd z (by decide)⟩) hc
        rw [eo, if_neg Bool.false_ne_true]
end
end FX
end
section
set_option Elab.async false
set_option linter.all false
set_option maxRecDepth 100000
set_option maxHeartbeats 4000000
namespace FX
open PySem PySem.Spec PyProof.Rows L2 FT
open VafmsBase (Fmt)
local macro_rules | `(tactic| walk_at "rd") => `(tactic| try dsimp only [tM1, tMethA, ipI, tAug, tOp, tC, tCB, tCons, tNil, gName, tVar, tAsg, tRet, tIfS, tTest, tB, tNext, tDrop, tFld, tCKw, tCall, tMeth, rI0, rI, CMul, rEq, rNe, rEqD, rNeD, tBM, rAppend, rExtend, rCat, rIn, rIxT, rIxL, tSl, rSlL, tPart, tNoPart, tChain, tUn, rU, tIf, tNot, tOr, tAnd, tOrV, tAndV, tMake, sFld, sFldAug, tLst, tTup, tFault, pad, List.set, List.getElem?_cons_zero, List.getElem?_cons_succ, cxOf, List.map_cons, List.map_nil, List.append_nil, List.cons_append, List.nil_append])
local macro_rules | `(tactic| walk_at "sq") => `(tactic| (refine seq_go ?_; walk_at "rd"))
local macro_rules | `(tactic| walk_at "r0") => `(tactic| (rw [start_pad (by rfl)]; walk_at "rd"))
section
variable {P : Program} {w : World} {K : PySem.W.Frag} {mg : Str → Option Value} {base : Heap} {c : Cs}
theorem depth_ok {f : Fmt} (h : f.size ≤ 14) : depth f < 15 := Nat.lt_of_le_of_lt (depth_le_size f) (by omega)
theorem sc_read_source : FnScope ["source", "reading", "place", "row", "listed"] ["source"] (defScope (topS 107)) := ⟨rfl, rfl, rfl, by decide +kernel, rfl, by decide +kernel, by decide +kernel⟩
theorem d_read_source (T : Top K mg c) : DefOk P w K mg base (L2.CX P w) 51 "read_source" (spReadSource c) := T.a_read_source.ok fun f fd F => by
  have RR := d_Reading_read_row (P := P) (w := w) (base := base) T 15
  refine F.okX sc_read_source (fun vs H Q E h => ?_) (fun cdv A outer s H vs Q E hr h => ⟨_, (pss_cons (ps_set (i := 1) sc_read_source.nd rfl (.inl rfl) (pmake (m_Reading T) (hr.mono (by omega)) pass0 (pa_cons (pcall (E := E) (d_read_tokens T) (hr.mono (by omega)) (passes_call (takes_of rfl rfl rfl rfl) fun _ _ _ _ h => h) (pa_cons (pv 0) pa_nil)) pa_nil)))
 (pss_cons (ps_set (i := 2) sc_read_source.nd rfl (.inl rfl) (pmeth (E := E) (d_Reading_take_mark T) (hr.mono (by omega)) (passes_call (takes_of rfl rfl rfl rfl) fun _ _ _ _ h => h) (pv 1) (pa_cons pe_str pa_nil)))
 (pss_cons (ps_set (i := 3) sc_read_source.nd rfl (.inl rfl) (pmeth (E := E) RR (hr.mono (by omega)) (passes_call (takes_of rfl rfl rfl rfl) fun _ _ _ _ h => h) (pv 1) (pa_cons pe_bl pa_nil)))
 (pss_cons (ps_if (pt_cmpR op_gt (pcall (d_gone_through T 15) (hr.mono (by omega)) pass0 (pa_cons (pv 3) pa_nil)) (pe_num T.n_MOST_GONE_THROUGH) (nomark _))
 (pss_one (ps_raise rfl (takes_of rfl rfl rfl rfl) (by exact pmk_fault T (hr.mono (by omega)) (pa_cons (pe_num T.n_TOO_MUCH_GONE_THROUGH) (pa_cons (pv 2) pa_nil)) (mono_two fun _ _ _ _ m h => mono_var m h))))
 pss_nil)
 (pss_cons (ps_set (i := 4) sc_read_source.nd rfl (.inl rfl) (pe_lst pa_nil))
 (pss_cons (ps_while (by first | exact PassesOwn.leaving | exact PassesOwn.never) (pt_not (pt_val (pmeth (d_Reading_next_is T) (hr.mono (by omega)) pass0 (pv 1) (pa_cons (pe_txt T.n_END_tokens) pa_nil))))
 (pss_cons (ps_set (i := 2) sc_read_source.nd rfl (.inl rfl) (pmeth (E := E) (d_Reading_take_mark T) (hr.mono (by omega)) (passes_call (takes_of rfl rfl rfl rfl) fun _ _ _ _ h => h) (pv 1) (pa_cons pe_str pa_nil)))
 (pss_cons (ps_if (pt_cmpR op_eq (pe_callB call_len_seq (by rfl) T.b_len (by decide +kernel) (pa_cons (pv 4) pa_nil)) (pe_num T.n_MOST_VALUES) (nomark _))
 (pss_one (ps_raise rfl (takes_of rfl rfl rfl rfl) (by exact pmk_fault T (hr.mono (by omega)) (pa_cons (pe_num T.n_TOO_MANY) (pa_cons (pv 2) pa_nil)) (mono_two fun _ _ _ _ m h => mono_var m h))))
 pss_nil)
 (pss_one (ps_expr (pe_bm PySem.F.plainAttrs_list PySem.F.slot_list_append PySem.F.type_list_append mt_append (pv 4) (pa_cons (pmeth0 (E := E) (d_Reading_read_value T) (hr.mono (by omega)) (passes_call (takes_of rfl rfl rfl rfl) fun _ _ _ _ h => h) (pv 1)) pa_nil)))))))
 (pss_one (ps_ret (pmake (m_Source T) (hr.mono (by omega)) pass0 (pa_cons (pv 3) (pa_cons (pv 4) pa_nil))))))))))), ?_⟩)
  · obtain ⟨a, s, _, rfl, _⟩ := h
    rfl
  · obtain ⟨a, s, Z, rfl, ha, hl, hZ, q⟩ := h
    unfold Vafmsa.read at q
    walk_at "r0"
    walk_at "sq"
    refine ⟨_, rfl, a, s, Z, rfl, ha, hl, hZ, ?_⟩
    cases htk : Vafmsa.tokens s with
    | error e =>
      rw [htk] at q
      exact q
    | ok l =>
    rw [htk] at q
    have q1 : GivesSrc c Z H ((Vafmsa.takeWord "format" l).bind fun q => (Vafmsa.takeSign 123 q).bind fun q => (Vafmsa.takePieces (l.length + 1) false 0 q).bind fun p => if VafmsBase.HOLES < p.1.holes then .error ⟨6, Vafmsa.here l⟩ else (Vafmsa.takeValues (l.length + 1) [] p.2.2).map fun v => (⟨p.1, v⟩ : Vafmsa.Source)) Q E := q
    clear q
    intro tl us H1 htl s1 htl1 hus p dx hp1 hdx1 hne
    have hpn : H p = none := s1.free hp1
    have hEl : EndsIn l := tokens_ends _ _ _ l htk
    have hTl : ∀ t ∈ l, TokOk t.tok := by
      intro t ht
      have key : ∀ {us : List V} {l : Vafmsa.Toks}, Paired (TkAt c (hideZ (tl :: Z) H1)) us l → ∀ t ∈ l, TokOk t.tok := fun {us l} h => by
        induction h with
        | nil => intro t ht; cases ht
        | cons x _ ih =>
          intro t ht
          rcases List.mem_cons.mp ht with rfl | ht
          · exact x.1
          · exact ih t ht
      exact key hus t ht
    have mk := made1 (C := c.Reading) (o := .ins c.Reading dx (rdF tl 0 0)) hp1 hdx1
    refine ⟨p, dx, tl, rfl, upd_same, rfl, ?_⟩
    have hP2 : upd (upd (upd H1 dx (.own p)) p (.ins c.Reading dx [])) p (.ins c.Reading dx (rdF tl 0 0)) p = some (.ins c.Reading dx (rdF tl 0 0)) := upd_same
    generalize upd (upd (upd H1 dx (.own p)) p (.ins c.Reading dx [])) p (.ins c.Reading dx (rdF tl 0 0)) = H2 at *
    have s2 := Same.trans s1 mk
    have hsn := same_hide_new (Z := Z) hp1 mk
    have hZ2 := hZ.same s2
    have hA2 : SrcAt c (p :: Z) H2 p (0, l) := ⟨dx, tl, us, l, 0, hP2, hsn _ _ (by rw [hideZ_ne (hZ.new htl)]; exact htl1), Paired.mapR hus fun _ _ x => (x.same hideZ_more).same hsn, rfl⟩
    obtain ⟨t, r, rfl⟩ := ends_ne hEl
    have hTt : TokOk t.tok := hTl t (List.mem_cons_self ..)
    have ew : Vafmsa.takeWord "format" (t :: r) = if t.tok = .word (Vafmsa.word "format") then .ok r else .error ⟨2, t.place⟩ := by
      unfold Vafmsa.takeWord
      rw [wordIs_at]
      by_cases h : t.tok = .word (Vafmsa.word "format")
      · rw [if_pos h, decide_eq_true h, if_pos rfl]
        rfl
      · rw [if_neg h, decide_eq_false h, if_neg Bool.false_ne_true]
        rfl
    rw [ew] at q1
    have w2 : 2 ≤ (Vafmsa.word "format").length := by decide +kernel
    walk_at "sq"
    refine ⟨_, rfl, p, dx, _, rfl, hP2, rdF_none (by decide +kernel) (by decide +kernel) (by decide +kernel), p :: Z, p, 0, t, r, Vafmsa.word "format", by rw [e_format], List.mem_cons_self .., hA2, fun hm H3 b3 hA3 => ?_, fun hm => ?_⟩
    rotate_left
    · rw [if_neg fun z => hm ((mark_word w2).mpr z)] at q1
      exact fault_of_raises q1 hpn s2
    have hf := (mark_word w2).mp hm
    rw [if_pos hf] at q1
    have q2 : GivesSrc c Z H ((srcRow ((t :: r).length + 1) false (0, r)).bind fun p => if 8 < p.1.holes then .error ⟨6, t.place⟩ else (Vafmsa.takeValues ((t :: r).length + 1) [] p.2.2).map fun v => (⟨p.1, v⟩ : Vafmsa.Source)) Q E := by
      unfold srcRow
      dsimp only [Except.bind] at q1 ⊢
      cases htk2 : Vafmsa.takeSign 123 r with
      | error e => rw [htk2] at q1; exact q1
      | ok q => rw [htk2] at q1; exact q1
    clear q1
    have at1 := adv_tail (t := t) (r := r) (fun z => by rw [hf] at z; cases z)
    have s3 : Same H H3 := hide_from hpn s2 b3
    obtain ⟨dx3, tl3, us3, L3, j3, hP3, _⟩ := id hA3
    have hpre3 : preS 15 ((t :: r).length + 1) (0, r) := ⟨by simp only [List.length_cons]; omega, by show 14 < 0 + 15; decide, Nat.zero_le _, at1.1 hEl, fun x hx => hTl x (at1.2.1 x hx)⟩
    have occ1 : ∀ {H' : Hp}, Same H H' → H' p ≠ none → ∀ z ∈ p :: Z, H' z ≠ none := fun {H'} s h z m => by
      rcases List.mem_cons.mp m with m | m
      · rw [m]; exact h
      · obtain ⟨l, e⟩ := (hZ.same s) z m
        rw [e]
        exact fun z => by cases z
    walk_at "sq"
    refine ⟨_, rfl, p, dx3, _, rfl, hP3, rdF_none (by decide +kernel) (by decide +kernel) (by decide +kernel), p :: Z, p, (t :: r).length + 1, false, (0, r), rfl, List.mem_cons_self .., occ1 s3 hA3.there, hA3, hpre3, ?_⟩
    cases hrow : srcRow ((t :: r).length + 1) false (0, r) with
    | error e =>
      rw [hrow] at q2
      have e2 : (srcR c 15).row ((t :: r).length + 1) false (0, r) = .error e := hrow
      rw [e2]
      exact fault_of_raises q2 hpn s3
    | ok x =>
    obtain ⟨g, n4, l4⟩ := x
    rw [hrow] at q2
    have e2 : (srcR c 15).row ((t :: r).length + 1) false (0, r) = .ok (g, n4, l4) := hrow
    rw [e2]
    intro ra H4 b4 hA4 hra4
    replace hA4 : SrcAt c (p :: Z) H4 p (n4, l4) := hA4
    have q3 : GivesSrc c Z H (if 8 < g.holes then .error ⟨6, t.place⟩ else (Vafmsa.takeValues ((t :: r).length + 1) [] l4).map fun v => (⟨g, v⟩ : Vafmsa.Source)) Q E := q2
    clear q2
    obtain ⟨ga, gn, gn14, gok, _⟩ := row_good hrow (Nat.zero_le _) hpre3.2.2.2.2
    have gsz : g.size ≤ 14 := by omega
    have s4 : Same H H4 := hide_from hpn s3 b4
    walk_at "sq"
    refine ⟨_, rfl, ra, g, rfl, hra4.same hideZ_same, depth_ok gsz, by omega, gok, fun H5 s5 => ?_⟩
    have hA5 : SrcAt c (p :: Z) H5 p (n4, l4) := hA4.mono (by
      cases e : H4 p with
      | none => exact absurd e hA4.there
      | some o => exact s5 _ _ e) (hideZ_of s5)
    have hra5 : RowAt c (hideZ (p :: Z) H5) ra g := hra4.same (hideZ_of s5)
    have s05 := Same.trans s4 s5
    refine ⟨_, _, rfl, rfl, _, rfl, ?_⟩
    by_cases h8 : 8 < g.holes
    · rw [if_pos h8] at q3
      rw [if_pos (decide_eq_true (by omega))]
      exact ⟨_, rfl, 6, t.place, rfl, raises_later s05 q3⟩
    rw [if_neg h8] at q3
    rw [if_neg (by rw [decide_eq_false (by omega)]; exact Bool.false_ne_true)]
    walk_at "sq"
    refine ⟨Nat.zero_le _, fun D hD => ?_⟩
    have hpD : p ≠ D := fun z => hA5.there (z ▸ hD)
    have hDn : H D = none := s05.free hD
    have s06 := Same.trans s05 (Same.add (o := .lst []) hD)
    have hh6 : Same (hideZ (p :: Z) H5) (hideZ (D :: p :: Z) (upd H5 D (.lst []))) := hideZ_new hD (hideZ_add hD)
    refine seq_go ?_
    refine ⟨fun mm σ H' => ∃ (f' n' : Nat) (l' : Vafmsa.Toks) (done : List (List Nat)) (us : List V) (v2 : Option V), mm = l'.length ∧ σ = [some (.ref a), some (.ref p), v2, some (.ref ra), some (.ref D)] ∧ Same H H' ∧ SrcAt c (D :: p :: Z) H' p (n', l') ∧ RowAt c (hideZ (D :: p :: Z) H') ra g ∧ H' D = some (.lst us) ∧ Paired (TxtAt (hideZ (D :: p :: Z) H')) us done ∧ l'.length < f' ∧ EndsIn l' ∧ (∀ t ∈ l', TokOk t.tok) ∧ done.length ≤ 6 ∧ Vafmsa.takeValues ((t :: r).length + 1) [] l4 = Vafmsa.takeValues f' done l', ⟨_, (t :: r).length + 1, n4, l4, [], [], some (.int (Int.ofNat t.place)), rfl, rfl, s06, hA5.mono (upd_ne hpD) hh6, hra5.same hh6, upd_same, .nil, by have := ga.2.2; simp only [List.length_cons]; omega, ga.1 (at1.1 hEl), fun x hx => hTl x (at1.2.1 x (ga.2.1 x hx)), Nat.zero_le _, rfl⟩, ?_⟩
    rintro mm σ H6 ⟨f', n', l', done, us', v2, rfl, rfl, s6, hA6, hra6, hD6, hus6, hf', hE6, hT6, hdl, heq⟩
    obtain ⟨t2, r2, rfl⟩ := ends_ne hE6
    obtain ⟨f', rfl⟩ : ∃ g, f' = g + 1 := ⟨f' - 1, by omega⟩
    have hT2 : TokOk t2.tok := hT6 t2 (List.mem_cons_self ..)
    obtain ⟨dx6, tl6, us66, L6, j6, v6, hP6, _⟩ := hA6.head
    rw [values_step] at heq
    have hlen6 := hus6.length
    walk_at "rd"
    refine ⟨_, rfl, p, dx6, _, rfl, hP6, rdF_none (by decide +kernel) (by decide +kernel) (by decide +kernel), D :: p :: Z, p, n', t2, r2, _, rfl, hA6, _, rfl, ?_⟩
    by_cases hend : t2.tok = .ending
    · rw [decide_eq_true (kindV_end.mpr hend), if_neg (by decide)]
      rw [if_pos hend] at heq
      rw [heq] at q3
      have q4 : ∀ v H', Same H H' → SourceAt c (hideZ Z H') v ⟨g, done⟩ → (∃ q : Addr, v = .ref q ∧ H q = none) → Q v H' := q3
      walk_at "rd"
      refine ⟨_, rfl, _, rfl, fun y d1 hy hd1 hne1 => ⟨y, d1, _, rfl, rfl, upd_same, rfl, ?_⟩⟩
      have mk2 := made (C := c.Source) (fs := [("row", .ref ra), ("listed", .ref D)]) hy hd1
      have hsm : Same (hideZ (D :: p :: Z) H6) (hideZ Z (upd (upd (upd H6 d1 (.own y)) y (.ins c.Source d1 [])) y (.ins c.Source d1 [("row", .ref ra), ("listed", .ref D)]))) := fun x o e => hideZ_of mk2.1 x o (hideZ_more x o (hideZ_more x o e))
      exact q4 _ _ (Same.trans s6 mk2.1) ⟨y, d1, ra, D, us', rfl, by rw [hideZ_ne ((hZ.same s6).new hy)]; exact mk2.2, hra6.same hsm, by rw [hideZ_ne (hZ.new hDn)]; exact mk2.1 _ _ hD6, Paired.mapR hus6 fun _ _ x => x.same hsm⟩ ⟨y, rfl, s6.free hy⟩
    rw [decide_eq_false fun z => hend (kindV_end.mp z), if_pos (by rfl)]
    rw [if_neg hend] at heq
    refine ⟨_, fun _ _ z => z, ?_⟩
    have w5 : 2 ≤ (Vafmsa.word "value").length := by decide +kernel
    have at2 := adv_tail (t := t2) (r := r2) hend
    walk_at "sq"
    refine ⟨_, rfl, p, dx6, _, rfl, hP6, rdF_none (by decide +kernel) (by decide +kernel) (by decide +kernel), D :: p :: Z, p, n', t2, r2, Vafmsa.word "value", by rw [e_value], List.mem_cons_of_mem _ (List.mem_cons_self ..), hA6, fun hm H7 b7 hA7 => ?_, fun hm => ?_⟩
    rotate_left
    · rw [if_pos fun z => hm ((mark_word w5).mpr z)] at heq
      rw [heq] at q3
      exact fault_of_raises q3 hpn s6
    rw [if_neg (show ¬ ¬ t2.tok = .word (Vafmsa.word "value") from fun z => z ((mark_word w5).mp hm))] at heq
    have hpZ : p ∈ D :: p :: Z := List.mem_cons_of_mem _ (List.mem_cons_self ..)
    have hD7 : H7 D = some (.lst us') := beside b7 hD6 (Ne.symm hpD)
    have s7 : Same H H7 := hide_from hpn s6 b7
    walk_at "sq"
    refine ⟨_, rfl, D, _, rfl, .inl (SqL.of hD7), rfl, _, rfl, ?_⟩
    by_cases h6 : 6 ≤ done.length
    · rw [if_pos h6] at heq
      rw [heq] at q3
      have e6 : us'.length = 6 := by omega
      rw [if_pos (by rw [e6]; rfl)]
      exact ⟨_, rfl, 4, t2.place, rfl, raises_later s7 q3⟩
    rw [if_neg h6] at heq
    rw [if_neg (by
      rw [decide_eq_false (fun e => h6 (by injection e with e; omega))]
      exact Bool.false_ne_true)]
    have occ7 : ∀ z ∈ D :: p :: Z, H7 z ≠ none := fun z m => by
      rcases List.mem_cons.mp m with m | m
      · rw [m, hD7]; exact fun z => by cases z
      · exact occ1 s7 hA7.there z m
    obtain ⟨dx7, tl7, us7, L7, j7, hP7, _⟩ := id hA7
    walk_at "rd"
    refine ⟨_, rfl, .inl ⟨rfl, _, SqL.of hD7⟩, _, rfl, p, dx7, _, rfl, hP7, rdF_none (by decide +kernel) (by decide +kernel) (by decide +kernel), D :: p :: Z, p, r2.length + 1, n', r2, rfl, hpZ, occ7, hA7, Nat.le_succ _, at2.1 hE6, fun x hx => hT6 x (at2.2.1 x hx), ?_⟩
    cases hval : srcValue (r2.length + 1) r2 with
    | error e =>
      rw [hval] at heq
      rw [heq] at q3
      exact fault_of_raises q3 hpn s7
    | ok y =>
      obtain ⟨v, l8⟩ := y
      rw [hval] at heq
      obtain ⟨gv, ga8⟩ := value_good hval fun x hx => hT6 x (at2.2.1 x hx)
      intro va H8 b8 hA8 hva
      have hD8 : H8 D = some (.lst us') := beside b8 hD7 (Ne.symm hpD)
      have hs8 : Same (hideZ (D :: p :: Z) H8) (hideZ (D :: p :: Z) (upd H8 D (.lst (us' ++ [.ref va])))) := hideZ_upd (List.mem_cons_self ..)
      have hs6 : Same (hideZ (D :: p :: Z) H6) (hideZ (D :: p :: Z) (upd H8 D (.lst (us' ++ [.ref va])))) := fun x o e => hs8 x o ((b8.hide hpZ) x o ((b7.hide hpZ) x o e))
      have ga82 := ga8.2.2
      refine ⟨D, us', _, rfl, rfl, hD8, szl (by omega), l8.length, by rw [List.length_cons]; omega, f', n', l8, done ++ [v], us' ++ [.ref va], some (.int (Int.ofNat t2.place)), rfl, rfl, Same.chg (hide_from hpn s7 b8) hDn, hA8.mono (upd_ne hpD) hs8, hra6.same hs6, upd_same, paired_app (Paired.mapR hus6 fun _ _ x => x.same hs6) (.cons ⟨va, rfl, hs8 _ _ hva⟩ .nil), by rw [List.length_cons] at hf'; omega, ga8.1 (at2.1 hE6), fun x hx => hT6 x (at2.2.1 x (ga8.2.1 x hx)), by rw [List.length_append]; show done.length + 1 ≤ 6; omega, heq⟩
end
end FX
end
section
set_option Elab.async false
set_option linter.all false
set_option maxRecDepth 100000
set_option maxHeartbeats 4000000
namespace FX
open PySem PySem.Spec PyProof.Rows L2 FT
open VafmsBase (Fmt readNat)
local macro_rules | `(tactic| walk_at "rd") => `(tactic| try dsimp only [tM1, tMethA, ipI, tAug, tOp, tC, tCB, tCons, tNil, gName, tVar, tAsg, tRet, tIfS, tTest, tB, tNext, tDrop, tFld, tCKw, tCall, tMeth, rI0, rI, CMul, rEq, rNe, rEqD, rNeD, tBM, rAppend, rExtend, rCat, rIn, rIxT, rIxL, tSl, rSlL, tPart, tNoPart, tChain, tUn, rU, tIf, tNot, tOr, tAnd, tOrV, tAndV, tMake, sFld, sFldAug, tLst, tTup, tFault, pad, List.set, List.getElem?_cons_zero, List.getElem?_cons_succ, cxOf, List.map_cons, List.map_nil, List.append_nil, List.cons_append, List.nil_append])
local macro_rules | `(tactic| walk_at "sq") => `(tactic| (refine seq_go ?_; walk_at "rd"))
local macro_rules | `(tactic| walk_at "r0") => `(tactic| (rw [start_pad (by rfl)]; walk_at "rd"))
section
variable {P : Program} {w : World} {K : PySem.W.Frag} {mg : Str → Option Value} {base : Heap} {c : Cs}
theorem sc_read_format : FnScope ["numbers", "reading", "row"] ["numbers"] (defScope (topS 55)) := ⟨rfl, rfl, rfl, by decide +kernel, rfl, by decide +kernel, by decide +kernel⟩
theorem d_read_format (T : Top K mg c) : DefOk P w K mg base (L2.CX P w) 51 "read_format" (spReadFormat c) := T.a_read_format.ok fun f fd F => by
  refine F.okX sc_read_format (fun vs H Q E h => ?_) (fun cdv A outer s H vs Q E hr h => ?_)
  · obtain ⟨a, x, _, rfl, _⟩ := h
    rfl
  · obtain ⟨a, x, Z, rfl, ha, hl, hZ, haZ, q⟩ := h
    have RR := d_NumberReading_read_row (P := P) (w := w) (base := base) T x.length 15
    refine ⟨_, (pss_cons (ps_set (i := 1) sc_read_format.nd rfl (.inl rfl) (pmake (m_NumberReading T) (hr.mono (by omega)) pass0 (pa_cons (pv 0) pa_nil)))
 (pss_cons (ps_set (i := 2) sc_read_format.nd rfl (.inl rfl) (pmeth (E := E) RR (hr.mono (by omega)) (passes_call (takes_of rfl rfl rfl rfl) fun _ _ _ _ h => h) (pv 1) (pa_cons pe_bl pa_nil)))
 (pss_cons (ps_if (PW.pt (pw_or (pt_cmpR op_lt (pe_fld (pv 1) rfl) (pe_callB call_len_seq (by rfl) T.b_len (by decide +kernel) (pa_cons (pv 0) pa_nil)) (nomark _)) (pw_or1 (pt_cmpR op_gt (pcall (d_gone_through T 15) (hr.mono (by omega)) pass0 (pa_cons (pv 2) pa_nil)) (pe_num T.n_MOST_GONE_THROUGH) (nomark _)))))
 (pss_one (ps_raise rfl (takes_of rfl rfl rfl rfl) (by exact pmk_naf T (hr.mono (by omega)))))
 pss_nil)
 (pss_one (ps_ret (pv 2)))))), ?_⟩
    rw [fmt_eq] at q
    walk_at "r0"
    walk_at "sq"
    refine ⟨_, rfl, fun p dx hp hdx hne => ?_⟩
    have mk := made1 (C := c.NumberReading) (o := .ins c.NumberReading dx (nmF a 0 0)) hp hdx
    refine ⟨p, dx, a, rfl, upd_same, rfl, ?_⟩
    have hP2 : upd (upd (upd H dx (.own p)) p (.ins c.NumberReading dx [])) p (.ins c.NumberReading dx (nmF a 0 0)) p = some (.ins c.NumberReading dx (nmF a 0 0)) := upd_same
    generalize upd (upd (upd H dx (.own p)) p (.ins c.NumberReading dx [])) p (.ins c.NumberReading dx (nmF a 0 0)) = H2 at *
    have hsn := same_hide_new (Z := Z) hp mk
    have hA2 : NumAt c x.length (p :: Z) H2 p (0, x) := ⟨dx, a, x, 0, hP2, hsn _ _ (by rw [hideZ_ne haZ]; exact ha), ⟨Nat.zero_le _, rfl⟩, rfl⟩
    have occ1 : ∀ {H' : Hp}, Same H H' → H' p ≠ none → ∀ z ∈ p :: Z, H' z ≠ none := fun {H'} s h z m => by
      rcases List.mem_cons.mp m with m | m
      · rw [m]; exact h
      · obtain ⟨l, e⟩ := (hZ.same s) z m
        rw [e]
        exact fun z => by cases z
    have hpre : preN 15 (x.length + 1) (0, x) := ⟨Nat.le_succ _, by show 14 < 0 + 15; decide, Nat.zero_le _⟩
    walk_at "sq"
    refine ⟨_, rfl, p, dx, _, rfl, hP2, nmF_none (by decide +kernel) (by decide +kernel) (by decide +kernel), p :: Z, p, x.length + 1, false, (0, x), rfl, List.mem_cons_self .., occ1 mk hA2.there, hA2, hpre, ?_⟩
    have er : (numR c x.length 15).row (x.length + 1) false (0, x) = o2e (npRow (x.length + 1) false 0 x) := rfl
    rw [er]
    cases hrow : npRow (x.length + 1) false 0 x with
    | none =>
      rw [hrow] at q
      have q' : ∀ H', Same H H' → E (.ref c.NotAFormat) none H' := q
      exact fun H' b => q' H' (hide_from hp mk b)
    | some y =>
    obtain ⟨g, n3, l3⟩ := y
    rw [hrow] at q
    intro ra H3 b3 hA3 hra
    replace hA3 : NumAt c x.length (p :: Z) H3 p (n3, l3) := hA3
    have s3 : Same H H3 := hide_from hp mk b3
    obtain ⟨dx3, nl3, L3, i3, hP3, hNl3, ⟨hi3, hL3⟩, hl3⟩ := hA3
    dsimp only at hP3 hl3
    -- what is known of the row
    have hck : ck false 0 g = true := by
      obtain ⟨⟨k, y⟩, h1, h2⟩ := ob hrow
      obtain ⟨ex, _, _⟩ := readNat_some h1
      rw [np_iff _ false k 0 y (by rw [ex, List.length_cons]; omega) (by decide)] at h2
      obtain ⟨u, h3, h4⟩ := ob h2
      by_cases hc : ck false 0 u.1 = true
      · rw [chk_yes hc] at h4
        obtain ⟨rfl, _⟩ := Prod.mk.inj (Option.some.inj h4)
        exact hc
      · rw [chk_no hc] at h4
        cases h4
    obtain ⟨gok, gsz, _⟩ := ck_iff.mp hck
    have gsz2 : g.size ≤ 14 := by omega
    have ha3 := s3 _ _ ha
    walk_at "sq"
    refine ⟨_, rfl, p, c.NumberReading, dx3, _, _, rfl, hP3, T.c_NumberReading.cl, T.c_NumberReading.na _ (by simp), nmF_at, _, rfl, a, _, rfl, .inl (SqL.of ha3), _, _, rfl, rfl, _, rfl, ?_⟩
    rw [ivs_length]
    by_cases hlt : i3 < x.length
    · rw [if_pos (decide_eq_true (by show (i3 : Int) < (x.length : Int); omega)), if_pos rfl]
      have el : l3 ≠ [] := fun z => by
        rw [hl3] at z
        have := congrArg List.length z
        rw [List.length_drop, List.length_nil] at this
        omega
      cases l3 with
      | nil => exact absurd rfl el
      | cons z l =>
        have q' : ∀ H', Same H H' → E (.ref c.NotAFormat) none H' := q
        exact q' H3 s3
    rw [if_neg (by rw [decide_eq_false (by show ¬ (i3 : Int) < (x.length : Int); omega)]; exact Bool.false_ne_true)]
    have el : l3 = [] := by rw [hl3]; exact List.drop_eq_nil_of_le (by omega)
    subst el
    refine ⟨_, rfl, ra, g, rfl, hra.same hideZ_same, depth_ok gsz2, by omega, gok, fun H4 s4 => ⟨_, _, rfl, rfl, _, rfl, ?_⟩⟩
    have s04 := Same.trans s3 s4
    dsimp only at q
    by_cases h8 : g.holes ≤ 8
    · rw [if_pos h8] at q
      rw [if_neg (by rw [decide_eq_false (by omega)]; exact Bool.false_ne_true)]
      exact ⟨_, rfl, q ra H4 s04 ((hra.same hideZ_more).same (hideZ_of s4))⟩
    · rw [if_neg h8] at q
      rw [if_pos (decide_eq_true (by omega))]
      exact q H4 s04
end
end FX
end
section
set_option Elab.async false
set_option linter.all false
set_option maxRecDepth 100000
set_option maxHeartbeats 4000000
namespace FX
open PySem PySem.Spec PyProof.Rows L2 FT
open VafmsBase (Fmt)
local macro_rules | `(tactic| walk_at "rd") => `(tactic| try dsimp only [tMethA, ipI, tAug, tOp, tC, tCB, tCons, tNil, gName, tVar, tAsg, tRet, tIfS, tTest, tB, tNext, tDrop, tFld, tCKw, tCall, tMeth, rI0, rI, CMul, rEq, rNe, rEqD, rNeD, tBM, rAppend, rExtend, rCat, rIn, rIxT, rIxL, tSl, rSlL, tPart, tNoPart, tChain, tUn, rU, tIf, tNot, tOr, tAnd, tMake, sFld, tLst, tTup, pad, List.set, List.getElem?_cons_zero, List.getElem?_cons_succ, cxOf, List.map_cons, List.map_nil, List.append_nil, List.cons_append, List.nil_append])
local macro_rules | `(tactic| walk_at "r0") => `(tactic| (rw [start_pad (by rfl)]; walk_at "rd"))
section
variable {P : Program} {w : World} {K : PySem.W.Frag} {mg : Str → Option Value} {base : Heap} {c : Cs}
def spScanCount (c : Cs) : Sp := fun vs H Q _ => ∃ (r a : Addr) (f : Fmt) (t : List Nat), vs = [.ref r, .ref a] ∧ RowAt c H r f ∧ depth f ≤ 20 ∧ f.size ≤ 1000 ∧ VafmsBase.okPieces f = true ∧ H a = some (.lst (nvs t)) ∧ t.length ≤ 1000 ∧ ∀ H', Same H H' → Q (.int (Int.ofNat (VafmsBase.scannings f t).length)) H'
theorem sc_scanning_count : FnScope ["row", "text"] ["row", "text"] (defScope (topS 82)) := ⟨rfl, rfl, rfl, by decide +kernel, rfl, by decide +kernel, by decide +kernel⟩
theorem d_scanning_count (T : Top K mg c) : DefOk P w K mg base CX0 88 "scanning_count" (spScanCount c) := T.a_scanning_count.ok fun f fd F => by
  refine F.ok sc_scanning_count (fun vs H Q E h => ?_) (fun cdv A outer s H vs Q E hr h => ⟨_, (pss_one (ps_ret (pe_ix ix_list (pe_ix ix_list (pcall (d_way_counts T) (hr.mono (by omega)) pass0 (pa_cons (pcall (d_steps_of T) (hr.mono (by omega)) pass0 (pa_cons (pv 0) pa_nil)) (pa_cons (pv 1) pa_nil))) (pe_un un_neg pe_int) (fun _ _ => rfl)) pe_int (fun _ _ => rfl)))), ?_⟩)
  · obtain ⟨p, _, _, _, rfl, _⟩ := h
    rfl
  · obtain ⟨r, a, fm, t, rfl, hrow, hdep, hsz, hok, ha, htl, q⟩ := h
    have hgood := plan_good hok
    have hpl := plan_len hok hsz
    rw [← plan_scan hok] at q
    obtain ⟨S, hS⟩ : ∃ S, S = plan fm := ⟨_, rfl⟩
    rw [← hS] at q hgood hpl
    walk_at "r0"
    refine ⟨_, rfl, r, fm, rfl, hrow, hdep, hsz, hok, fun B H1 hB s1 hp1 => ?_⟩
    rw [← hS] at hp1
    refine ⟨_, rfl, B, a, S, t, rfl, hp1, hgood, hpl, s1 _ _ ha, htl, fun C H2 hC s2 hCt => ?_⟩
    have hwt : (wayTab S t (S.length + 1)).length = S.length + 1 := by
      unfold wayTab
      rw [List.length_map, List.length_range]
    obtain ⟨cs, ca, k1, k2, k3, k4⟩ := hCt.cell (i := S.length) (p := 0) (by omega) (by rw [wayTab_at (by omega), wayRow_len]; omega)
    rw [wayTab_cell (by omega) (by omega), List.drop_zero] at k4
    have hcl : cs.length = S.length + 1 := by
      obtain ⟨cs', e1, e2⟩ := hCt
      rw [k1] at e1
      obtain rfl : cs = cs' := HO.lst.inj (Option.some.inj e1)
      rw [e2.length, hwt]
    refine ⟨_, rfl, C, cs, _, _, rfl, rfl, SqL.of k1, ?_, ca, _, 0, _, rfl, rfl, SqL.of k3, atI_nat (j := 0) k4, q H2 (Same.trans s1 s2)⟩
    have e1 : cs = cs.take S.length ++ [.ref ca] := by
      rw [← take_more k2, List.take_of_length_le (by omega)]
    rw [e1]
    exact atI_last _ _
end
end FX
end
section
set_option Elab.async false
set_option linter.all false
set_option maxRecDepth 100000
set_option maxHeartbeats 4000000
namespace FX
open PySem PySem.Spec PyProof.Rows L2 FT
open VafmsBase (Fmt)
open Vafmsa (leastLength mostLength timesLength)
local macro_rules | `(tactic| walk_at "rd") => `(tactic| try dsimp only [tM1, ipI, tAug, tOp, tC, tCB, tCons, tNil, gName, tVar, tAsg, tRet, tIfS, tTest, tB, tNext, tDrop, tFld, tCKw, tCall, tMeth, rI0, rI, CMul, rEq, rNe, rEqD, rNeD, tBM, rAppend, rExtend, rCat, rIn, rIxT, rIxL, tSl, rSlL, tPart, tNoPart, tChain, tUn, rU, tIf, tNot, tOr, tAnd, tOrV, tAndV, tMake, sFld, sFldAug, tLst, tTup, pad, List.set, List.getElem?_cons_zero, List.getElem?_cons_succ, cxOf, List.map_cons, List.map_nil, List.append_nil, List.cons_append, List.nil_append])
local macro_rules | `(tactic| walk_at "sq") => `(tactic| (refine seq_go ?_; walk_at "rd"))
local macro_rules | `(tactic| walk_at "r0") => `(tactic| (rw [start_pad (by rfl)]; walk_at "rd"))
/-! ### the mathematics -/
def leastPce (p : Pce) : Nat := if p.kind = 0 then p.text.length else if p.kind = 3 then Nat.min (leastLength (row0 p)) (leastLength (row1 p)) else if p.kind = 4 then 0 else if p.kind = 5 then timesLength p.lo (leastLength (row0 p)) p.text.length else p.lo
def mostPce (p : Pce) : Nat := if p.kind = 0 then p.text.length else if p.kind = 5 then timesLength p.hi (mostLength (row0 p)) p.text.length else if p.kind = 3 then Nat.max (mostLength (row0 p)) (mostLength (row1 p)) else if p.kind = 4 then mostLength (row0 p) else p.hi
theorem least_pces : ∀ f : Fmt, leastLength f = ((pces f).map leastPce).sum
  | .done => rfl
  | .lit w r => by rw [pces, List.map_cons, List.sum_cons, ← least_pces r]; rfl
  | .num lo hi r => by rw [pces, List.map_cons, List.sum_cons, ← least_pces r]; rfl
  | .word lo hi r => by rw [pces, List.map_cons, List.sum_cons, ← least_pces r]; rfl
  | .alt a b r => by rw [pces, List.map_cons, List.sum_cons, ← least_pces r]; rfl
  | .opt a r => by rw [pces, List.map_cons, List.sum_cons, ← least_pces r]; show leastLength r = 0 + leastLength r; omega
  | .rep s lo hi a r => by rw [pces, List.map_cons, List.sum_cons, ← least_pces r]; rfl
theorem most_pces : ∀ f : Fmt, mostLength f = ((pces f).map mostPce).sum
  | .done => rfl
  | .lit w r => by rw [pces, List.map_cons, List.sum_cons, ← most_pces r]; rfl
  | .num lo hi r => by rw [pces, List.map_cons, List.sum_cons, ← most_pces r]; rfl
  | .word lo hi r => by rw [pces, List.map_cons, List.sum_cons, ← most_pces r]; rfl
  | .alt a b r => by rw [pces, List.map_cons, List.sum_cons, ← most_pces r]; rfl
  | .opt a r => by rw [pces, List.map_cons, List.sum_cons, ← most_pces r]; rfl
  | .rep s lo hi a r => by rw [pces, List.map_cons, List.sum_cons, ← most_pces r]; rfl
theorem min_two {a b : Nat} {m : Int} (h : m ∈ [a, b].map Int.ofNat) (h2 : ∀ y, y ∈ [a, b].map Int.ofNat → m ≤ y) : m = Int.ofNat (Nat.min a b) := by
  have ha := h2 (Int.ofNat a) (by simp)
  have hb := h2 (Int.ofNat b) (by simp)
  simp only [List.map_cons, List.map_nil, List.mem_cons, List.not_mem_nil, or_false] at h
  show m = ((min a b : Nat) : Int)
  have e1 : Int.ofNat a = (a : Int) := rfl
  have e2 : Int.ofNat b = (b : Int) := rfl
  omega
theorem max_two {a b : Nat} {m : Int} (h : m ∈ [a, b].map Int.ofNat) (h2 : ∀ y, y ∈ [a, b].map Int.ofNat → y ≤ m) : m = Int.ofNat (Nat.max a b) := by
  have ha := h2 (Int.ofNat a) (by simp)
  have hb := h2 (Int.ofNat b) (by simp)
  simp only [List.map_cons, List.map_nil, List.mem_cons, List.not_mem_nil, or_false] at h
  show m = ((max a b : Nat) : Int)
  have e1 : Int.ofNat a = (a : Int) := rfl
  have e2 : Int.ofNat b = (b : Int) := rfl
  omega
section
variable {P : Program} {w : World} {K : PySem.W.Frag} {mg : Str → Option Value} {base : Heap} {c : Cs}
def spRepLen (c : Cs) : Sp := fun vs H Q _ => ∃ (v : V) (p : Pce) (t e : Nat), vs = [v, .int (Int.ofNat t), .int (Int.ofNat e)] ∧ PceAt c H v p ∧ t ≤ 4 ∧ Q (.int (Int.ofNat (timesLength t e p.text.length))) H
theorem sc_repeated_length : FnScope ["piece", "times", "each"] ["piece", "times", "each"] (defScope (topS 62)) := ⟨rfl, rfl, rfl, by decide +kernel, rfl, by decide +kernel, by decide +kernel⟩
theorem d_repeated_length (T : Top K mg c) : DefOk P w K mg base CX0 1 "repeated_length" (spRepLen c) := T.a_repeated_length.ok fun f fd F => by
  refine F.ok sc_repeated_length (fun vs H Q E h => ?_) (fun cdv A outer s H vs Q E hr h => ⟨_, (pss_one (ps_ret (pe_op op_add (pe_op op_mul (pv 1) (pv 2)) (pe_op op_mul (pe_callB (call_max2 rfl) (by rfl) T.b_max (by decide +kernel) (pa_cons (pe_op op_sub (pv 1) pe_int) (pa_cons pe_int pa_nil))) (pe_callB call_len_seq (by rfl) T.b_len (by decide +kernel) (pa_cons (pe_fld (pv 0) rfl) pa_nil)))))), ?_⟩)
  · obtain ⟨v, p, t, e, rfl, _⟩ := h
    rfl
  · obtain ⟨v, p, t, e, rfl, ⟨rs, ⟨pa, dx, ta, ra, rfl, hP, hT, hR⟩, hrows⟩, ht, q⟩ := h
    walk_at "r0"
    refine ⟨_, rfl, _, rfl, _, _, rfl, rfl, .inl ⟨by show (-18446744073709551616 : Int) < (t : Int); omega, by show (t : Int) < 18446744073709551616; omega⟩, _, rfl, _, _, rfl, rfl, _, _, rfl, ?_⟩
    refine ⟨_, rfl, pa, c.Piece, dx, _, _, rfl, hP, T.c_Piece.cl, T.c_Piece.na _ (by simp), pcF_text, ta, _, rfl, .inl (SqL.of hT), _, _, rfl, rfl, .inl ⟨by split <;> (show (-18446744073709551616 : Int) < _; omega), ?_⟩, _, _, rfl, rfl, ?_⟩
    · split
      · show (0 : Int) < 18446744073709551616
        decide
      · show (t : Int) - 1 < 18446744073709551616
        omega
    · rw [nvs_length]
      have e1 : (Int.ofNat t * Int.ofNat e + (if (0 : Int) > Int.ofNat t - 1 then 0 else Int.ofNat t - 1) * ((p.text.length : Nat) : Int) : Int) = Int.ofNat (timesLength t e p.text.length) := by
        unfold timesLength
        show (t : Int) * (e : Int) + (if (0 : Int) > (t : Int) - 1 then 0 else (t : Int) - 1) * (p.text.length : Int) = ((t * e + (t - 1) * p.text.length : Nat) : Int)
        rw [Int.natCast_add, Int.natCast_mul, Int.natCast_mul]
        congr 2
        split <;> omega
      rw [e1]
      exact q
end
end FX
end
section
set_option Elab.async false
set_option linter.all false
set_option maxRecDepth 100000
set_option maxHeartbeats 4000000
namespace FX
open PySem PySem.Spec PyProof.Rows L2 FT
open VafmsBase (Fmt)
open Vafmsa (leastLength mostLength timesLength)
local macro_rules | `(tactic| walk_at "rd") => `(tactic| try dsimp only [tM1, ipI, tAug, tOp, tC, tCB, tCons, tNil, gName, tVar, tAsg, tRet, tIfS, tTest, tB, tNext, tDrop, tFld, tCKw, tCall, tMeth, rI0, rI, CMul, rEq, rNe, rEqD, rNeD, tBM, rAppend, rExtend, rCat, rIn, rIxT, rIxL, tSl, rSlL, tPart, tNoPart, tChain, tUn, rU, tIf, tNot, tOr, tAnd, tOrV, tAndV, tMake, sFld, sFldAug, tLst, tTup, pad, List.set, List.getElem?_cons_zero, List.getElem?_cons_succ, cxOf, List.map_cons, List.map_nil, List.append_nil, List.cons_append, List.nil_append])
local macro_rules | `(tactic| walk_at "sq") => `(tactic| (refine seq_go ?_; walk_at "rd"))
local macro_rules | `(tactic| walk_at "r0") => `(tactic| (rw [start_pad (by rfl)]; walk_at "rd"))
section
variable {P : Program} {w : World} {K : PySem.W.Frag} {mg : Str → Option Value} {base : Heap} {c : Cs}
def spLenRow (c : Cs) (L : Fmt → Nat) (d : Nat) : Sp := fun vs H Q _ => ∃ (a : Addr) (f : Fmt), vs = [.ref a] ∧ RowAt c H a f ∧ depth f < d ∧ f.size ≤ 1000 ∧ VafmsBase.okPieces f = true ∧ ∀ H', Same H H' → Q (.int (L f : Int)) H'
def spLenPce (c : Cs) (L : Pce → Nat) (d : Nat) : Sp := fun vs H Q _ => ∃ (v : V) (p : Pce), vs = [v] ∧ PceAt c H v p ∧ PForm p ∧ (∀ g ∈ p.rows, depth g < d ∧ g.size ≤ 1000 ∧ VafmsBase.okPieces g = true) ∧ p.lo ≤ 4 ∧ p.hi ≤ 4 ∧ ∀ H', Same H H' → Q (.int (L p : Int)) H'
theorem kind_is (k j : Nat) : decide (V.int (k : Int) = V.int (j : Int)) = decide (k = j) := by
  rw [Bool.eq_iff_iff, decide_eq_true_iff, decide_eq_true_iff]
  constructor
  · intro e
    injection e with e
    omega
  · intro e
    rw [e]
theorem rows_alt {p : Pce} (h : PForm p) (hk : p.kind = 3) : p.rows = [row0 p, row1 p] := by
  cases h <;> simp_all [row0, row1]
theorem rows_opt {p : Pce} (h : PForm p) (hk : p.kind = 4) : p.rows = [row0 p] := by
  cases h <;> simp_all [row0]
theorem rows_rep {p : Pce} (h : PForm p) (hk : p.kind = 5) : p.rows = [row0 p] := by
  cases h <;> simp_all [row0]
theorem sc_shortest_length : FnScope ["row", "piece"] ["row"] (defScope (topS 58)) := ⟨rfl, rfl, rfl, by decide +kernel, rfl, by decide +kernel, by decide +kernel⟩
theorem sc_shortest_piece_length : FnScope ["piece", "inner"] ["piece"] (defScope (topS 59)) := ⟨rfl, rfl, rfl, by decide +kernel, rfl, by decide +kernel, by decide +kernel⟩
theorem sc_longest_length : FnScope ["row", "piece"] ["row"] (defScope (topS 60)) := ⟨rfl, rfl, rfl, by decide +kernel, rfl, by decide +kernel, by decide +kernel⟩
theorem sc_longest_piece_length : FnScope ["piece", "inner"] ["piece"] (defScope (topS 61)) := ⟨rfl, rfl, rfl, by decide +kernel, rfl, by decide +kernel, by decide +kernel⟩
mutual
theorem d_shortest_length (T : Top K mg c) : ∀ d, DefOk P w K mg base CX0 (d + d + 1) "shortest_length" (spLenRow c leastLength d)
  | 0 => T.a_shortest_length.never.imp fun vs H Q E h => by
    obtain ⟨a, f, _, _, hd, _⟩ := h
    omega
  | d + 1 => DefOk.mono (k := d + d + 1 + 1 + 1) (j := d + 1 + (d + 1) + 1) (h := by omega) <| T.a_shortest_length.ok fun f fd F => by
    have D := d_shortest_piece_length T d
    refine F.ok sc_shortest_length (fun vs H Q E h => ?_) (fun cdv A outer s H vs Q E hr h => ⟨_, (pss_one (ps_ret (pe_callB (cr_sum rfl) (by rfl) T.b_sum (by decide +kernel) (pa_cons (pe_lc (own := [("piece", 1)]) (g := gName 1) (tt := tYes) (by rfl) sc_shortest_length.nd (pi_list (pv 0)) (blkOk_by (own := [("piece", 1)]) (N := ["row", "piece"]) (sc := defScope (topS 58)) (by decide +kernel)) (fun _ _ _ _ _ => pg_name (i := 1) sc_shortest_length.nd rfl (Or.inl rfl)) (fun _ _ _ _ _ => pts_nil) (fun _ _ _ _ _ => (pcall D (hr.mono (by omega)) pass0 (pa_cons (pv 1) pa_nil)))) pa_nil)))), ?_⟩)
    · obtain ⟨p, _, rfl, _⟩ := h
      rfl
    · obtain ⟨a, f, rfl, ⟨vs, ha, hp⟩, hd, hz, hok, q⟩ := h
      have W := hp.view
      have hlen := paired_map W
      walk_at "r0"
      refine t_lc_vals (nvs ((pces f).map leastPce)) (gv_var rfl) (SqL.of ha) (by simp [nvs, hlen]) (by have := row_len_le_size f; omega) (fun x => rfl) (fun n y z H2 hn hz' s2 Q' q' => ?_) fun D H2 hD s2 hDl => ?_
      · obtain ⟨p, hpn, hpa⟩ := Paired.at W hn
        have hpm := mem_of_at hpn
        have ez : z = .int (leastPce p : Int) := by
          unfold nvs at hz'
          rw [List.map_map, List.getElem?_map, hpn] at hz'
          exact (Option.some.inj hz').symm
        subst ez
        have hk := ok_pces hok p hpm
        exact ⟨_, rfl, y, p, rfl, hpa.same s2, pform hpm, fun g hg => ⟨depth_rows hd p hpm g hg, Nat.le_trans (row_size_le hpm hg) hz, hk.2.2.2.2.2 g hg⟩, hk.2.1, hk.2.2.1, fun H3 s3 => q' H3 s3⟩
      · refine ⟨D, ((pces f).map leastPce).map Int.ofNat, rfl, SqL.of (by rw [hDl, nvs_map]), ?_⟩
        rw [sum_ints, ← least_pces]
        exact q H2 s2
theorem d_shortest_piece_length (T : Top K mg c) : ∀ d, DefOk P w K mg base CX0 (d + d + 1 + 1) "shortest_piece_length" (spLenPce c leastPce d) := fun d => T.a_shortest_piece_length.ok fun f fd F => by
  have D := d_shortest_length T d
  refine F.ok sc_shortest_piece_length (fun vs H Q E h => ?_) (fun cdv A outer s H vs Q E hr h => ⟨_, (pss_cons (ps_if (pt_cmpR op_eq (pe_fld (pv 0) rfl) (pe_num T.n_LITERAL) (nomark _))
 (pss_one (ps_ret (pe_callB call_len_seq (by rfl) T.b_len (by decide +kernel) (pa_cons (pe_fld (pv 0) rfl) pa_nil))))
 pss_nil)
 (pss_cons (ps_if (pt_cmpR op_eq (pe_fld (pv 0) rfl) (pe_num T.n_ALTERNATIVES) (nomark _))
 (pss_one (ps_ret (pe_callB (cr_min rfl) (by rfl) T.b_min (by decide +kernel) (pa_cons (pe_lc (own := [("inner", 1)]) (g := gName 1) (tt := tYes) (by rfl) sc_shortest_piece_length.nd (pi_list (pe_fld (pv 0) rfl)) (blkOk_by (own := [("inner", 1)]) (N := ["piece", "inner"]) (sc := defScope (topS 59)) (by decide +kernel)) (fun _ _ _ _ _ => pg_name (i := 1) sc_shortest_piece_length.nd rfl (Or.inl rfl)) (fun _ _ _ _ _ => pts_nil) (fun _ _ _ _ _ => (pcall D (hr.mono (by omega)) pass0 (pa_cons (pv 1) pa_nil)))) pa_nil))))
 pss_nil)
 (pss_cons (ps_if (pt_cmpR op_eq (pe_fld (pv 0) rfl) (pe_num T.n_OPTIONAL) (nomark _))
 (pss_one (ps_ret pe_int))
 pss_nil)
 (pss_cons (ps_if (pt_cmpR op_eq (pe_fld (pv 0) rfl) (pe_num T.n_REPEAT) (nomark _))
 (pss_one (ps_ret (pcall (d_repeated_length T) (hr.mono (by omega)) pass0 (pa_cons (pv 0) (pa_cons (pe_fld (pv 0) rfl) (pa_cons (pcall D (hr.mono (by omega)) pass0 (pa_cons (pe_ix ix_list (pe_fld (pv 0) rfl) pe_int (fun _ _ => rfl)) pa_nil)) pa_nil))))))
 pss_nil)
 (pss_one (ps_ret (pe_fld (pv 0) rfl))))))), ?_⟩)
  · obtain ⟨p, _, rfl, _⟩ := h
    rfl
  · obtain ⟨v, p, rfl, ⟨rs, ⟨pa, dx, ta, ra, rfl, hP, hT, hR⟩, hrows⟩, hform, hg, hlo, hhi, q⟩ := h
    have hrl := paired_map hrows
    walk_at "r0"
    walk_at "sq"
    refine ⟨_, rfl, pa, c.Piece, dx, _, _, rfl, hP, T.c_Piece.cl, T.c_Piece.na _ (by simp), pcF_kind, rfl, _, rfl, ?_⟩
    rw [show decide (V.int (p.kind : Int) = V.int 0) = decide (p.kind = 0) from kind_is p.kind 0]
    unfold leastPce at q
    by_cases h0 : p.kind = 0
    · rw [if_pos h0] at q
      rw [if_pos (decide_eq_true h0)]
      refine ⟨_, rfl, pa, c.Piece, dx, _, _, rfl, hP, T.c_Piece.cl, T.c_Piece.na _ (by simp), pcF_text, ta, _, rfl, .inl (SqL.of hT), ?_⟩
      rw [nvs_length]
      exact q H (Same.refl H)
    rw [if_neg h0] at q
    rw [if_neg (by rw [decide_eq_false h0]; exact Bool.false_ne_true)]
    walk_at "sq"
    refine ⟨_, rfl, pa, c.Piece, dx, _, _, rfl, hP, T.c_Piece.cl, T.c_Piece.na _ (by simp), pcF_kind, rfl, _, rfl, ?_⟩
    rw [show decide (V.int (p.kind : Int) = V.int 3) = decide (p.kind = 3) from kind_is p.kind 3]
    by_cases h3 : p.kind = 3
    · rw [if_pos h3] at q
      rw [if_pos (decide_eq_true h3)]
      have hr2 : p.rows = [row0 p, row1 p] := rows_alt hform h3
      refine t_lc_vals (nvs (p.rows.map leastLength)) (gv_fld (gv_var rfl) hP T.c_Piece.cl (T.c_Piece.na _ (by simp)) pcF_rows) (SqL.of hR) (by simp [nvs, hrl]) (by rw [List.length_map, hrl, hr2]; show 2 ≤ 100000; decide) (fun x => rfl) (fun n y z H2 hn hz' s2 Q' q' => ?_) fun D H2 hD s2 hDl => ?_
      · rw [List.getElem?_map] at hn
        cases hrn : rs[n]? with
        | none => rw [hrn] at hn; cases hn
        | some r =>
          rw [hrn] at hn
          obtain rfl : V.ref r = y := Option.some.inj hn
          obtain ⟨g, hgn, hgr⟩ := Paired.at hrows hrn
          have hgm := mem_of_at hgn
          have ez : z = .int (leastLength g : Int) := by
            unfold nvs at hz'
            rw [List.map_map, List.getElem?_map, hgn] at hz'
            exact (Option.some.inj hz').symm
          subst ez
          obtain ⟨g1, g2, g3⟩ := hg g hgm
          exact ⟨_, rfl, r, g, rfl, hgr.same s2, g1, g2, g3, fun H3 s3 => q' H3 s3⟩
      · refine ⟨D, (p.rows.map leastLength).map Int.ofNat, rfl, SqL.of (by rw [hDl, nvs_map]), by rw [hr2]; (show 0 < 2; decide), fun mm m1 m2 => ?_⟩
        rw [hr2] at m1 m2
        rw [min_two m1 m2]
        exact q H2 s2
    rw [if_neg h3] at q
    rw [if_neg (by rw [decide_eq_false h3]; exact Bool.false_ne_true)]
    walk_at "sq"
    refine ⟨_, rfl, pa, c.Piece, dx, _, _, rfl, hP, T.c_Piece.cl, T.c_Piece.na _ (by simp), pcF_kind, rfl, _, rfl, ?_⟩
    rw [show decide (V.int (p.kind : Int) = V.int 4) = decide (p.kind = 4) from kind_is p.kind 4]
    by_cases h4 : p.kind = 4
    · rw [if_pos h4] at q
      rw [if_pos (decide_eq_true h4)]
      exact q H (Same.refl H)
    rw [if_neg h4] at q
    rw [if_neg (by rw [decide_eq_false h4]; exact Bool.false_ne_true)]
    walk_at "sq"
    refine ⟨_, rfl, pa, c.Piece, dx, _, _, rfl, hP, T.c_Piece.cl, T.c_Piece.na _ (by simp), pcF_kind, rfl, _, rfl, ?_⟩
    rw [show decide (V.int (p.kind : Int) = V.int 5) = decide (p.kind = 5) from kind_is p.kind 5]
    by_cases h5 : p.kind = 5
    · rw [if_pos h5] at q
      rw [if_pos (decide_eq_true h5)]
      have hr1 : p.rows = [row0 p] := rows_rep hform h5
      have hr0 : ∃ r, rs = [r] ∧ RowAt c H r (row0 p) := by
        rw [hr1] at hrows
        match rs, hrows with
        | [r], .cons h .nil => exact ⟨r, rfl, h⟩
      obtain ⟨r, rfl, hr0⟩ := hr0
      obtain ⟨g1, g2, g3⟩ := hg (row0 p) (by rw [hr1]; exact List.mem_cons_self ..)
      exact ⟨_, rfl, _, rfl, pa, c.Piece, dx, _, _, rfl, hP, T.c_Piece.cl, T.c_Piece.na _ (by simp), pcF_lo, _, rfl, pa, c.Piece, dx, _, _, rfl, hP, T.c_Piece.cl, T.c_Piece.na _ (by simp), pcF_rows, ra, _, 0, _, rfl, rfl, SqL.of hR, atI_nat (j := 0) rfl, r, row0 p, rfl, hr0, g1, g2, g3, fun H2 s2 => ⟨_, p, p.lo, _, rfl, PceAt.same ⟨[r], ⟨pa, dx, ta, ra, rfl, hP, hT, hR⟩, hrows⟩ s2, hlo, q H2 s2⟩⟩
    rw [if_neg h5] at q
    rw [if_neg (by rw [decide_eq_false h5]; exact Bool.false_ne_true)]
    walk_at "rd"
    exact ⟨_, rfl, pa, c.Piece, dx, _, _, rfl, hP, T.c_Piece.cl, T.c_Piece.na _ (by simp), pcF_lo, q H (Same.refl H)⟩
end
mutual
theorem d_longest_length (T : Top K mg c) : ∀ d, DefOk P w K mg base CX0 (d + d + 1) "longest_length" (spLenRow c mostLength d)
  | 0 => T.a_longest_length.never.imp fun vs H Q E h => by
    obtain ⟨a, f, _, _, hd, _⟩ := h
    omega
  | d + 1 => DefOk.mono (k := d + d + 1 + 1 + 1) (j := d + 1 + (d + 1) + 1) (h := by omega) <| T.a_longest_length.ok fun f fd F => by
    have D := d_longest_piece_length T d
    refine F.ok sc_longest_length (fun vs H Q E h => ?_) (fun cdv A outer s H vs Q E hr h => ⟨_, (pss_one (ps_ret (pe_callB (cr_sum rfl) (by rfl) T.b_sum (by decide +kernel) (pa_cons (pe_lc (own := [("piece", 1)]) (g := gName 1) (tt := tYes) (by rfl) sc_longest_length.nd (pi_list (pv 0)) (blkOk_by (own := [("piece", 1)]) (N := ["row", "piece"]) (sc := defScope (topS 60)) (by decide +kernel)) (fun _ _ _ _ _ => pg_name (i := 1) sc_longest_length.nd rfl (Or.inl rfl)) (fun _ _ _ _ _ => pts_nil) (fun _ _ _ _ _ => (pcall D (hr.mono (by omega)) pass0 (pa_cons (pv 1) pa_nil)))) pa_nil)))), ?_⟩)
    · obtain ⟨p, _, rfl, _⟩ := h
      rfl
    · obtain ⟨a, f, rfl, ⟨vs, ha, hp⟩, hd, hz, hok, q⟩ := h
      have W := hp.view
      have hlen := paired_map W
      walk_at "r0"
      refine t_lc_vals (nvs ((pces f).map mostPce)) (gv_var rfl) (SqL.of ha) (by simp [nvs, hlen]) (by have := row_len_le_size f; omega) (fun x => rfl) (fun n y z H2 hn hz' s2 Q' q' => ?_) fun D H2 hD s2 hDl => ?_
      · obtain ⟨p, hpn, hpa⟩ := Paired.at W hn
        have hpm := mem_of_at hpn
        have ez : z = .int (mostPce p : Int) := by
          unfold nvs at hz'
          rw [List.map_map, List.getElem?_map, hpn] at hz'
          exact (Option.some.inj hz').symm
        subst ez
        have hk := ok_pces hok p hpm
        exact ⟨_, rfl, y, p, rfl, hpa.same s2, pform hpm, fun g hg => ⟨depth_rows hd p hpm g hg, Nat.le_trans (row_size_le hpm hg) hz, hk.2.2.2.2.2 g hg⟩, hk.2.1, hk.2.2.1, fun H3 s3 => q' H3 s3⟩
      · refine ⟨D, ((pces f).map mostPce).map Int.ofNat, rfl, SqL.of (by rw [hDl, nvs_map]), ?_⟩
        rw [sum_ints, ← most_pces]
        exact q H2 s2
theorem d_longest_piece_length (T : Top K mg c) : ∀ d, DefOk P w K mg base CX0 (d + d + 1 + 1) "longest_piece_length" (spLenPce c mostPce d) := fun d => T.a_longest_piece_length.ok fun f fd F => by
  have D := d_longest_length T d
  refine F.ok sc_longest_piece_length (fun vs H Q E h => ?_) (fun cdv A outer s H vs Q E hr h => ⟨_, (pss_cons (ps_if (pt_cmpR op_eq (pe_fld (pv 0) rfl) (pe_num T.n_LITERAL) (nomark _))
 (pss_one (ps_ret (pe_callB call_len_seq (by rfl) T.b_len (by decide +kernel) (pa_cons (pe_fld (pv 0) rfl) pa_nil))))
 pss_nil)
 (pss_cons (ps_if (pt_cmpR op_eq (pe_fld (pv 0) rfl) (pe_num T.n_REPEAT) (nomark _))
 (pss_one (ps_ret (pcall (d_repeated_length T) (hr.mono (by omega)) pass0 (pa_cons (pv 0) (pa_cons (pe_fld (pv 0) rfl) (pa_cons (pcall D (hr.mono (by omega)) pass0 (pa_cons (pe_ix ix_list (pe_fld (pv 0) rfl) pe_int (fun _ _ => rfl)) pa_nil)) pa_nil))))))
 pss_nil)
 (pss_cons (ps_if (pt_cmpR op_in_seq (pe_fld (pv 0) rfl) (pe_tup (pa_cons (pe_num T.n_ALTERNATIVES) (pa_cons (pe_num T.n_OPTIONAL) pa_nil))) (by rfl))
 (pss_one (ps_ret (pe_callB (cr_max rfl) (by rfl) T.b_max (by decide +kernel) (pa_cons (pe_lc (own := [("inner", 1)]) (g := gName 1) (tt := tYes) (by rfl) sc_longest_piece_length.nd (pi_list (pe_fld (pv 0) rfl)) (blkOk_by (own := [("inner", 1)]) (N := ["piece", "inner"]) (sc := defScope (topS 61)) (by decide +kernel)) (fun _ _ _ _ _ => pg_name (i := 1) sc_longest_piece_length.nd rfl (Or.inl rfl)) (fun _ _ _ _ _ => pts_nil) (fun _ _ _ _ _ => (pcall D (hr.mono (by omega)) pass0 (pa_cons (pv 1) pa_nil)))) pa_nil))))
 pss_nil)
 (pss_one (ps_ret (pe_fld (pv 0) rfl)))))), ?_⟩)
  · obtain ⟨p, _, rfl, _⟩ := h
    rfl
  · obtain ⟨v, p, rfl, ⟨rs, ⟨pa, dx, ta, ra, rfl, hP, hT, hR⟩, hrows⟩, hform, hg, hlo, hhi, q⟩ := h
    have hrl := paired_map hrows
    walk_at "r0"
    walk_at "sq"
    refine ⟨_, rfl, pa, c.Piece, dx, _, _, rfl, hP, T.c_Piece.cl, T.c_Piece.na _ (by simp), pcF_kind, rfl, _, rfl, ?_⟩
    rw [show decide (V.int (p.kind : Int) = V.int 0) = decide (p.kind = 0) from kind_is p.kind 0]
    unfold mostPce at q
    by_cases h0 : p.kind = 0
    · rw [if_pos h0] at q
      rw [if_pos (decide_eq_true h0)]
      refine ⟨_, rfl, pa, c.Piece, dx, _, _, rfl, hP, T.c_Piece.cl, T.c_Piece.na _ (by simp), pcF_text, ta, _, rfl, .inl (SqL.of hT), ?_⟩
      rw [nvs_length]
      exact q H (Same.refl H)
    rw [if_neg h0] at q
    rw [if_neg (by rw [decide_eq_false h0]; exact Bool.false_ne_true)]
    walk_at "sq"
    refine ⟨_, rfl, pa, c.Piece, dx, _, _, rfl, hP, T.c_Piece.cl, T.c_Piece.na _ (by simp), pcF_kind, rfl, _, rfl, ?_⟩
    rw [show decide (V.int (p.kind : Int) = V.int 5) = decide (p.kind = 5) from kind_is p.kind 5]
    by_cases h5 : p.kind = 5
    · rw [if_pos h5] at q
      rw [if_pos (decide_eq_true h5)]
      have hr1 : p.rows = [row0 p] := rows_rep hform h5
      have hr0 : ∃ r, rs = [r] ∧ RowAt c H r (row0 p) := by
        rw [hr1] at hrows
        match rs, hrows with
        | [r], .cons h .nil => exact ⟨r, rfl, h⟩
      obtain ⟨r, rfl, hr0⟩ := hr0
      obtain ⟨g1, g2, g3⟩ := hg (row0 p) (by rw [hr1]; exact List.mem_cons_self ..)
      exact ⟨_, rfl, _, rfl, pa, c.Piece, dx, _, _, rfl, hP, T.c_Piece.cl, T.c_Piece.na _ (by simp), pcF_hi, _, rfl, pa, c.Piece, dx, _, _, rfl, hP, T.c_Piece.cl, T.c_Piece.na _ (by simp), pcF_rows, ra, _, 0, _, rfl, rfl, SqL.of hR, atI_nat (j := 0) rfl, r, row0 p, rfl, hr0, g1, g2, g3, fun H2 s2 => ⟨_, p, p.hi, _, rfl, PceAt.same ⟨[r], ⟨pa, dx, ta, ra, rfl, hP, hT, hR⟩, hrows⟩ s2, hhi, q H2 s2⟩⟩
    rw [if_neg h5] at q
    rw [if_neg (by rw [decide_eq_false h5]; exact Bool.false_ne_true)]
    walk_at "sq"
    refine ⟨_, rfl, pa, c.Piece, dx, _, _, rfl, hP, T.c_Piece.cl, T.c_Piece.na _ (by simp), pcF_kind, (by show 2 ≤ sizeLine; decide), fun e he => ⟨e, [.int 3, .int 4], rfl, .inr (SqT.of upd_same), rfl, rfl, _, rfl, ?_⟩⟩
    have s1 := Same.add (o := .tup [.int 3, .int 4]) he
    generalize upd H e (.tup [.int 3, .int 4]) = H1 at s1 ⊢
    replace hP := s1 _ _ hP
    replace hR := s1 _ _ hR
    have hrows1 : Paired (RowAt c H1) rs p.rows := Paired.mapR hrows fun _ _ x => x.same s1
    have eb : inV (.int (p.kind : Int)) [.int 3, .int 4] = decide (p.kind = 3 ∨ p.kind = 4) := by
      rw [show ([.int 3, .int 4] : List V) = [3, 4].map V.int from rfl, inV_ints, Bool.eq_iff_iff]
      simp
      omega
    rw [eb, if_neg Bool.false_ne_true]
    by_cases h34 : p.kind = 3 ∨ p.kind = 4
    · rw [if_pos (decide_eq_true h34)]
      have hl2 : p.rows.length ≤ 2 ∧ 0 < p.rows.length := by
        rcases h34 with h | h
        · rw [rows_alt hform h]; exact ⟨Nat.le_refl 2, Nat.succ_pos 1⟩
        · rw [rows_opt hform h]; exact ⟨Nat.le_succ 1, Nat.succ_pos 0⟩
      refine t_lc_vals (nvs (p.rows.map mostLength)) (gv_fld (gv_var rfl) hP T.c_Piece.cl (T.c_Piece.na _ (by simp)) pcF_rows) (SqL.of hR) (by simp [nvs, hrl]) (by rw [List.length_map, hrl]; omega) (fun x => rfl) (fun n y z H2 hn hz' s2 Q' q' => ?_) fun D H2 hD s2 hDl => ?_
      · rw [List.getElem?_map] at hn
        cases hrn : rs[n]? with
        | none => rw [hrn] at hn; cases hn
        | some r =>
          rw [hrn] at hn
          obtain rfl : V.ref r = y := Option.some.inj hn
          obtain ⟨g, hgn, hgr⟩ := Paired.at hrows1 hrn
          have hgm := mem_of_at hgn
          have ez : z = .int (mostLength g : Int) := by
            unfold nvs at hz'
            rw [List.map_map, List.getElem?_map, hgn] at hz'
            exact (Option.some.inj hz').symm
          subst ez
          obtain ⟨g1, g2, g3⟩ := hg g hgm
          exact ⟨_, rfl, r, g, rfl, hgr.same s2, g1, g2, g3, fun H3 s3 => q' H3 s3⟩
      · refine ⟨D, (p.rows.map mostLength).map Int.ofNat, rfl, SqL.of (by rw [hDl, nvs_map]), by rw [List.length_map, List.length_map]; exact hl2.2, fun mm m1 m2 => ?_⟩
        by_cases h3 : p.kind = 3
        · rw [if_pos h3] at q
          have hr2 : p.rows = [row0 p, row1 p] := rows_alt hform h3
          rw [hr2] at m1 m2
          rw [max_two m1 m2]
          exact q H2 (Same.trans s1 s2)
        · rw [if_neg h3] at q
          have h4 : p.kind = 4 := by omega
          rw [if_pos h4] at q
          have hr2 : p.rows = [row0 p] := rows_opt hform h4
          rw [hr2] at m1
          have em : mm = Int.ofNat (mostLength (row0 p)) := by simpa using m1
          rw [em]
          exact q H2 (Same.trans s1 s2)
    · rw [if_neg (by rw [decide_eq_false h34]; exact Bool.false_ne_true)]
      rw [if_neg (fun z => h34 (.inl z)), if_neg (fun z => h34 (.inr z))] at q
      walk_at "rd"
      exact ⟨_, rfl, pa, c.Piece, dx, _, _, rfl, hP, T.c_Piece.cl, T.c_Piece.na _ (by simp), pcF_hi, q H1 s1⟩
end
end
end FX
end
section
set_option Elab.async false
set_option linter.all false
set_option maxRecDepth 100000
set_option maxHeartbeats 4000000
namespace FX
open PySem PySem.Spec PyProof.Rows L2 FT
open VafmsBase (Fmt readNat)
local macro_rules | `(tactic| walk_at "rd") => `(tactic| try dsimp only [tM1, tMethA, ipI, tAug, tOp, tC, tCB, tCons, tNil, gName, tVar, tAsg, tRet, tIfS, tTest, tB, tNext, tDrop, tFld, tCKw, tCall, tMeth, rI0, rI, CMul, rEq, rNe, rEqD, rNeD, tBM, rAppend, rExtend, rCat, rIn, rIxT, rIxL, tSl, rSlL, tPart, tNoPart, tChain, tUn, rU, tIf, tNot, tOr, tAnd, tOrV, tAndV, tMake, sFld, sFldAug, tLst, tTup, tFault, pad, List.set, List.getElem?_cons_zero, List.getElem?_cons_succ, cxOf, List.map_cons, List.map_nil, List.append_nil, List.cons_append, List.nil_append])
local macro_rules | `(tactic| walk_at "sq") => `(tactic| (refine seq_go ?_; walk_at "rd"))
local macro_rules | `(tactic| walk_at "r0") => `(tactic| (rw [start_pad (by rfl)]; walk_at "rd"))
section
variable {P : Program} {w : World} {K : PySem.W.Frag} {mg : Str → Option Value} {base : Heap} {c : Cs}
/-! ### the small defs -/
def spCounted : Sp := fun vs H Q _ => ∃ (a : Addr) (l : List Int), vs = [.ref a] ∧ H a = some (.lst (ivs l)) ∧ l.length ≤ 12000000 ∧ NewL H (ivs ((l.length : Int) :: l)) Q
theorem sc_counted : FnScope ["numbers"] ["numbers"] (defScope (topS 128)) := ⟨rfl, rfl, rfl, by decide +kernel, rfl, by decide +kernel, by decide +kernel⟩
theorem szm {n : Nat} (h : n ≤ 16000000) : n ≤ sizeLine := by rw [sizeLine_eq]; omega
theorem d_counted (T : Top K mg c) : DefOk P w K mg base CX0 1 "counted" spCounted := T.a_counted.ok fun f fd F => by
  refine F.ok sc_counted (fun vs H Q E h => ?_) (fun cdv A outer s H vs Q E hr h => ⟨_, (pss_one (ps_ret (pe_op op_cat (pe_lst (pa_cons (pe_callB call_len_seq (by rfl) T.b_len (by decide +kernel) (pa_cons (pv 0) pa_nil)) pa_nil)) (pv 0)))), ?_⟩)
  · obtain ⟨a, l, rfl, _⟩ := h
    rfl
  · obtain ⟨a, l, rfl, ha, hl, q⟩ := h
    walk_at "r0"
    refine ⟨_, rfl, a, _, rfl, .inl (SqL.of ha), (by show 1 ≤ sizeLine; decide), fun e he => ?_⟩
    have s1 := Same.add (o := .lst [V.int ((ivs l).length : Int)]) he
    refine ⟨_, rfl, e, a, _, _, rfl, rfl, upd_same, s1 _ _ ha, szm (by rw [ivs_length]; show 1 + l.length ≤ _; omega), fun e2 he2 => ?_⟩
    refine q e2 _ (s1.free he2) (Same.trans s1 (Same.add he2)) ?_
    rw [upd_same, ivs_length]
    rfl
def spFound : Sp := fun vs H Q _ => ∃ (v : V) (o : Option (List Nat)), vs = [v] ∧ (match o with | none => v = .non | some l => ∃ a : Addr, v = .ref a ∧ H a = some (.lst (nvs l)) ∧ l.length ≤ 11000000) ∧ NewL H (ivs (Vafmsa.maybe o)) Q
theorem sc_found : FnScope ["numbers"] ["numbers"] (defScope (topS 129)) := ⟨rfl, rfl, rfl, by decide +kernel, rfl, by decide +kernel, by decide +kernel⟩
theorem d_found (T : Top K mg c) : DefOk P w K mg base CX0 2 "found" spFound := T.a_found.ok fun f fd F => by
  refine F.ok sc_found (fun vs H Q E h => ?_) (fun cdv A outer s H vs Q E hr h => ⟨_, (pss_cons (ps_if (pt_cmpR op_isN (pv 0) pe_non (nomark _))
 (pss_one (ps_ret (pe_lst (pa_cons pe_int pa_nil))))
 pss_nil)
 (pss_one (ps_ret (pe_op op_cat (pe_lst (pa_cons pe_int pa_nil)) (pcall (d_counted T) (hr.mono (by omega)) pass0 (pa_cons (pv 0) pa_nil)))))), ?_⟩)
  · obtain ⟨v, o, rfl, _⟩ := h
    rfl
  · obtain ⟨v, o, rfl, hv, q⟩ := h
    walk_at "r0"
    walk_at "sq"
    refine ⟨_, rfl, rfl, _, rfl, ?_⟩
    cases o with
    | none =>
      obtain rfl : v = .non := hv
      rw [if_pos (by rfl)]
      exact ⟨(by show 1 ≤ sizeLine; decide), fun e he => q e _ he (Same.add he) upd_same⟩
    | some l =>
      obtain ⟨a, rfl, ha, hl⟩ := hv
      rw [if_neg (by rw [decide_eq_false (fun z => by cases z)]; exact Bool.false_ne_true)]
      walk_at "rd"
      refine ⟨(by show 1 ≤ sizeLine; decide), fun e he => ?_⟩
      have s1 := Same.add (o := .lst [V.int 1]) he
      refine ⟨_, rfl, a, VafmsBase.ints l, rfl, by rw [← nvs_ivs]; exact s1 _ _ ha, by simp [VafmsBase.ints]; omega, fun b H2 hb s2 hb2 => ?_⟩
      refine ⟨e, b, _, _, rfl, rfl, s2 _ _ upd_same, hb2, szm ?_, fun e2 he2 => ?_⟩
      · rw [ivs_length]
        simp [VafmsBase.ints]
        omega
      · refine q e2 _ ((Same.trans s1 s2).free he2) (Same.trans (Same.trans s1 s2) (Same.add he2)) ?_
        rw [upd_same]
        show some (HO.lst (V.int 1 :: ivs (((VafmsBase.ints l).length : Int) :: VafmsBase.ints l))) = some (HO.lst (ivs (1 :: VafmsBase.listed l)))
        have e3 : ((VafmsBase.ints l).length : Int) = VafmsBase.int l.length := by
          unfold VafmsBase.ints VafmsBase.int
          rw [List.length_map]
        rw [e3]
        rfl
/-! ### whole values -/
theorem times_ints : ∀ (u : List Nat) (r : List Int), (∀ n ∈ u, n ≤ 9999) → VafmsBase.readTimes (readNat 0 9999) u.length (VafmsBase.ints u ++ r) = some (u, r)
  | [], r, _ => rfl
  | n :: u, r, h => by
    show (readNat 0 9999 (VafmsBase.int n :: (VafmsBase.ints u ++ r))).bind (fun x => (VafmsBase.readTimes (readNat 0 9999) u.length x.2).map fun v => (x.1 :: v.1, v.2)) = _
    have hn := h n (List.mem_cons_self ..)
    rw [readNat_cons, if_pos ⟨by unfold VafmsBase.int; omega, by unfold VafmsBase.int; omega⟩]
    show (VafmsBase.readTimes (readNat 0 9999) u.length (VafmsBase.ints u ++ r)).map _ = _
    rw [times_ints u r fun m hm => h m (List.mem_cons_of_mem _ hm)]
    unfold VafmsBase.int
    rfl
theorem ints_times : ∀ (k : Nat) (x r : List Int) (u : List Nat), VafmsBase.readTimes (readNat 0 9999) k x = some (u, r) → x = VafmsBase.ints u ++ r ∧ u.length = k ∧ ∀ n ∈ u, n ≤ 9999
  | 0, x, r, u, h => by
    obtain ⟨rfl, rfl⟩ := Prod.mk.inj (Option.some.inj h)
    exact ⟨rfl, rfl, fun n hn => by cases hn⟩
  | k + 1, x, r, u, h => by
    obtain ⟨⟨n, y⟩, h1, h2⟩ := ob (show (readNat 0 9999 x).bind (fun x => (VafmsBase.readTimes (readNat 0 9999) k x.2).map fun v => (x.1 :: v.1, v.2)) = some (u, r) from h)
    obtain ⟨⟨u2, r2⟩, h3, h4⟩ := om h2
    obtain ⟨rfl, rfl⟩ := Prod.mk.inj h4
    obtain ⟨rfl, _, hn⟩ := readNat_some h1
    obtain ⟨i1, i2, i3⟩ := ints_times k _ _ _ h3
    dsimp only at i1 i2
    refine ⟨by rw [i1]; rfl, by rw [List.length_cons, i2], fun m hm => ?_⟩
    rcases List.mem_cons.mp hm with rfl | hm
    · exact hn
    · exact i3 m hm
abbrev wholeV (x : List Int) : Option (List Nat) := VafmsBase.whole (VafmsBase.readListed 0 60 (readNat 0 9999)) x
theorem wholeV_some {x : List Int} {u : List Nat} : wholeV x = some u ↔ x = VafmsBase.int u.length :: VafmsBase.ints u ∧ ValOk u := by
  have e : VafmsBase.readListed 0 60 (readNat 0 9999) x = (readNat 0 60 x).bind fun n => VafmsBase.readTimes (readNat 0 9999) n.1 n.2 := rfl
  constructor
  · intro h
    unfold wholeV VafmsBase.whole at h
    rw [e] at h
    cases h1 : readNat 0 60 x with
    | none => rw [h1] at h; cases h
    | some n =>
      obtain ⟨n, y⟩ := n
      rw [h1] at h
      simp only [Option.bind_some] at h
      cases h2 : VafmsBase.readTimes (readNat 0 9999) n y with
      | none => rw [h2] at h; cases h
      | some v =>
        obtain ⟨v, r⟩ := v
        rw [h2] at h
        cases r with
        | cons a r => cases h
        | nil =>
          obtain rfl : v = u := Option.some.inj h
          obtain ⟨rfl, _, hn⟩ := readNat_some h1
          obtain ⟨rfl, h4, h5⟩ := ints_times _ _ _ _ h2
          exact ⟨by rw [List.append_nil, h4], by omega, h5⟩
  · rintro ⟨rfl, h1, h2⟩
    unfold wholeV VafmsBase.whole
    rw [e, readNat_cons, if_pos ⟨by unfold VafmsBase.int; omega, by unfold VafmsBase.int; omega⟩]
    simp only [Option.bind_some]
    have := times_ints u [] h2
    rw [List.append_nil] at this
    unfold VafmsBase.int
    rw [Int.toNat_natCast, this]
/-- what the program asks -/
theorem wholeV_is {x : List Int} : (wholeV x).isSome = (match x with | [] => false | z :: y => decide (z = (y.length : Int)) && (decide (z ≤ 60) && y.all fun n => decide (0 ≤ n) && decide (n ≤ 9999))) := by
  rw [Bool.eq_iff_iff]
  constructor
  · intro h
    obtain ⟨u, hu⟩ := Option.isSome_iff_exists.mp h
    obtain ⟨rfl, h1, h2⟩ := wholeV_some.mp hu
    dsimp only
    unfold VafmsBase.int VafmsBase.ints
    rw [List.length_map, decide_eq_true rfl, decide_eq_true (by omega)]
    show List.all _ _ = true
    rw [List.all_map]
    exact List.all_eq_true.mpr fun n hn => by
      have := h2 n hn
      show (decide (0 ≤ VafmsBase.int n) && decide (VafmsBase.int n ≤ 9999)) = true
      unfold VafmsBase.int
      rw [decide_eq_true (by omega), decide_eq_true (by omega)]
      rfl
  · intro h
    cases x with
    | nil => cases h
    | cons z y =>
      simp only [Bool.and_eq_true, decide_eq_true_eq, List.all_eq_true] at h
      obtain ⟨h1, h2, h3⟩ := h
      have e : y = VafmsBase.ints (y.map Int.toNat) := by
        unfold VafmsBase.ints
        rw [List.map_map]
        refine (List.map_id y).symm.trans (List.map_congr_left fun n hn => ?_)
        have := (h3 n hn).1
        show n = ((n.toNat : Nat) : Int)
        omega
      refine Option.isSome_iff_exists.mpr ⟨y.map Int.toNat, wholeV_some.mpr ⟨?_, ?_, fun n hn => ?_⟩⟩
      · rw [← e]
        unfold VafmsBase.int
        rw [List.length_map, h1]
      · rw [List.length_map]
        omega
      · obtain ⟨m, hm, rfl⟩ := List.mem_map.mp hn
        have := h3 m hm
        omega
end
end FX
end
section
set_option Elab.async false
set_option linter.all false
set_option maxRecDepth 100000
set_option maxHeartbeats 4000000
namespace FX
open PySem PySem.Spec PyProof.Rows L2 FT
open VafmsBase (Fmt readNat)
local macro_rules | `(tactic| walk_at "rd") => `(tactic| try dsimp only [tM1, tMethA, ipI, tAug, tOp, tC, tCB, tCons, tNil, gName, tVar, tAsg, tRet, tIfS, tTest, tB, tNext, tDrop, tFld, tCKw, tCall, tMeth, rI0, rI, CMul, rEq, rNe, rEqD, rNeD, tBM, rAppend, rExtend, rCat, rIn, rIxT, rIxL, tSl, rSlL, tPart, tNoPart, tChain, tUn, rU, tIf, tNot, tOr, tAnd, tOrV, tAndV, tMake, sFld, sFldAug, tLst, tTup, tFault, pad, List.set, List.getElem?_cons_zero, List.getElem?_cons_succ, cxOf, List.map_cons, List.map_nil, List.append_nil, List.cons_append, List.nil_append])
local macro_rules | `(tactic| walk_at "sq") => `(tactic| (refine seq_go ?_; walk_at "rd"))
local macro_rules | `(tactic| walk_at "r0") => `(tactic| (rw [start_pad (by rfl)]; walk_at "rd"))
section
variable {P : Program} {w : World} {K : PySem.W.Frag} {mg : Str → Option Value} {base : Heap} {c : Cs}
theorem ivs_drop (l : List Int) (n : Nat) : (ivs l).drop n = ivs (l.drop n) := by
  unfold ivs
  rw [List.map_drop]
theorem cut_one (xs : List V) : cutV xs (some 1) none = xs.drop 1 := cut_from xs 1
def spWhole : Sp := fun vs H Q _ => ∃ (a : Addr) (x : List Int), vs = [.ref a] ∧ H a = some (.lst (ivs x)) ∧ x.length ≤ 1000 ∧ ∀ H', Same H H' → Q (.bl (wholeV x).isSome) H'
theorem sc_is_whole_value : FnScope ["value", "number"] ["value"] (defScope (topS 127)) := ⟨rfl, rfl, rfl, by decide +kernel, rfl, by decide +kernel, by decide +kernel⟩
theorem d_is_whole_value (T : Top K mg c) : DefOk P w K mg base CX0 1 "is_whole_value" spWhole := T.a_is_whole_value.ok fun f fd F => by
  refine F.ok sc_is_whole_value (fun vs H Q E h => ?_) (fun cdv A outer s H vs Q E hr h => ⟨_, (pss_cons (ps_if (PW.pt (pw_or (pt_not (pt_truth (pv 0) (by intro _; rfl))) (pw_or (pt_cmpR op_ne (pe_ix ix_list (pv 0) pe_int (fun _ _ => rfl)) (pe_op op_sub (pe_callB call_len_seq (by rfl) T.b_len (by decide +kernel) (pa_cons (pv 0) pa_nil)) pe_int) (nomark _)) (pw_or1 (pt_cmpR op_gt (pe_ix ix_list (pv 0) pe_int (fun _ _ => rfl)) (pe_num T.n_MOST_NUMBERS) (nomark _))))))
 (pss_one (ps_ret pe_bl))
 pss_nil)
 (pss_one (ps_ret (pe_callB (cr_all rfl) (by rfl) T.b_all (by decide +kernel) (pa_cons (pe_lc (own := [("number", 1)]) (g := gName 1) (tt := tYes) (by rfl) sc_is_whole_value.nd (pi_list (pe_slice sl_list (pv 0) (po_some pe_int) po_none)) (blkOk_by (own := [("number", 1)]) (N := ["value", "number"]) (sc := defScope (topS 127)) (by decide +kernel)) (fun _ _ _ _ _ => pg_name (i := 1) sc_is_whole_value.nd rfl (Or.inl rfl)) (fun _ _ _ _ _ => pts_nil) (fun _ _ _ _ _ => (pe_chain op_le op_le pe_int (pv 1) (pe_num T.n_HIGHEST_NUMBER)))) pa_nil))))), ?_⟩)
  · obtain ⟨a, x, rfl, _⟩ := h
    rfl
  · obtain ⟨a, x, rfl, ha, hl, q⟩ := h
    rw [wholeV_is] at q
    walk_at "r0"
    walk_at "sq"
    cases x with
    | nil =>
      refine ⟨_, rfl, false, .inl ⟨_, SqL.of ha, rfl⟩, ?_⟩
      exact q H (Same.refl H)
    | cons z y =>
      have h0 : (ivs (z :: y))[0]? = some (.int z) := rfl
      refine ⟨_, rfl, true, .inl ⟨_, SqL.of ha, rfl⟩, ?_⟩
      rw [if_neg (by decide)]
      refine ⟨_, rfl, a, _, 0, _, rfl, rfl, SqL.of ha, atI_nat (j := 0) h0, _, rfl, a, _, rfl, .inl (SqL.of ha), _, _, rfl, rfl, rfl, _, rfl, ?_⟩
      dsimp only at q
      have el : (((ivs (z :: y)).length : Int) - 1) = (y.length : Int) := by
        rw [ivs_length, List.length_cons]
        omega
      rw [el]
      have ez : decide (V.int z = V.int (y.length : Int)) = decide (z = (y.length : Int)) := by
        rw [Bool.eq_iff_iff, decide_eq_true_iff, decide_eq_true_iff]
        exact ⟨fun e => by injection e, fun e => by rw [e]⟩
      rw [ez]
      by_cases h1 : z = (y.length : Int)
      rotate_left
      · rw [decide_eq_false h1] at q ⊢
        rw [if_pos (by rfl), if_pos rfl]
        exact q H (Same.refl H)
      rw [decide_eq_true h1] at q ⊢
      rw [if_neg (by decide)]
      refine ⟨_, rfl, a, _, 0, _, rfl, rfl, SqL.of ha, atI_nat (j := 0) h0, _, _, rfl, rfl, _, rfl, ?_⟩
      by_cases h2 : z ≤ 60
      rotate_left
      · rw [decide_eq_false h2] at q
        rw [if_pos (decide_eq_true (by omega))]
        exact q H (Same.refl H)
      rw [decide_eq_true h2] at q
      rw [if_neg (by rw [decide_eq_false (by omega)]; exact Bool.false_ne_true)]
      have q2 : ∀ H', Same H H' → Q (.bl (y.all fun n => decide (0 ≤ n) && decide (n ≤ 9999))) H' := q
      walk_at "rd"
      refine t_lcE (fun e xs H1 => Same H H1 ∧ H1 e = some (.lst xs) ∧ xs = ivs y) (fun R hR => ?_) fun e xs H1 ⟨s1, he1, exs⟩ => ?_
      · walk_at "rd"
        refine ⟨_, rfl, _, rfl, a, _, rfl, SqL.of ha, fun e he => ?_⟩
        rw [cut_one]
        exact hR e _ _ ⟨Same.add he, upd_same, rfl⟩
      · subst exs
        refine t_lc_vals ((y.map fun n => decide (0 ≤ n) && decide (n ≤ 9999)).map V.bl) gv_c (SqL.of he1) (by simp [ivs]) (by rw [ivs_length]; simp only [List.length_cons] at hl; omega) (fun x => rfl) (fun m v zz H2 hm hz s2 Q' q' => ?_) fun D H2 hD s2 hDl => ?_
        · unfold ivs at hm
          rw [List.getElem?_map] at hm
          rw [List.getElem?_map, List.getElem?_map] at hz
          cases hym : y[m]? with
          | none => rw [hym] at hm; cases hm
          | some n =>
            rw [hym] at hm hz
            obtain rfl : V.int n = v := Option.some.inj hm
            obtain rfl : V.bl (decide (0 ≤ n) && decide (n ≤ 9999)) = zz := Option.some.inj hz
            refine ⟨_, rfl, _, _, rfl, rfl, _, rfl, ?_⟩
            by_cases hn : (0 : Int) ≤ n
            · rw [if_pos (decide_eq_true hn), decide_eq_true hn] at *
              exact ⟨_, _, rfl, rfl, q' _ (Same.refl _)⟩
            · rw [if_neg (by rw [decide_eq_false hn]; exact Bool.false_ne_true)]
              rw [decide_eq_false hn] at q'
              exact q' _ (Same.refl _)
        · refine ⟨D, y.map fun n => decide (0 ≤ n) && decide (n ≤ 9999), rfl, SqL.of hDl, ?_⟩
          have ea : (y.map fun n => decide (0 ≤ n) && decide (n ≤ 9999)).all id = y.all fun n => decide (0 ≤ n) && decide (n ≤ 9999) := by
            rw [List.all_map]
            rfl
          rw [ea]
          exact q2 H2 (Same.trans s1 s2)
def hasList (k : Int) : Bool := k == 0 || (k == 3 || (k == 4 || (k == 5 || (k == 8 || k == 9))))
def spHasList : Sp := fun vs H Q _ => ∃ k : Int, vs = [.int k] ∧ ∀ H', Same H H' → Q (.bl (hasList k)) H'
theorem sc_has_list : FnScope ["call"] ["call"] (defScope (topS 130)) := ⟨rfl, rfl, rfl, by decide +kernel, rfl, by decide +kernel, by decide +kernel⟩
theorem d_has_list (T : Top K mg c) : DefOk P w K mg base CX0 1 "has_list" spHasList := T.a_has_list.ok fun f fd F => by
  refine F.ok sc_has_list (fun vs H Q E h => ?_) (fun cdv A outer s H vs Q E hr h => ⟨_, (pss_one (ps_ret (pe_cmpR op_in_seq (pv 0) (pe_tup (pa_cons (pe_num T.n_LOAD) (pa_cons (pe_num T.n_PRINT) (pa_cons (pe_num T.n_SCAN) (pa_cons (pe_num T.n_WAYS) (pa_cons (pe_num T.n_ROUND) (pa_cons (pe_num T.n_PUT) pa_nil))))))) (by rfl)))), ?_⟩)
  · obtain ⟨k, rfl, _⟩ := h
    rfl
  · obtain ⟨k, rfl, q⟩ := h
    refine ⟨_, rfl, (by show 6 ≤ sizeLine; decide), fun p hp => ⟨p, [.int 0, .int 3, .int 4, .int 5, .int 8, .int 9], rfl, .inr (SqT.of upd_same), rfl, rfl, ?_⟩⟩
    have e : inV (.int k) [.int 0, .int 3, .int 4, .int 5, .int 8, .int 9] = hasList k := by
      rw [show ([.int 0, .int 3, .int 4, .int 5, .int 8, .int 9] : List V) = [0, 3, 4, 5, 8, 9].map V.int from rfl, inV_ints]
      unfold hasList
      rw [Bool.eq_iff_iff]
      simp
      omega
    show Q (.bl (inV (.int k) [.int 0, .int 3, .int 4, .int 5, .int 8, .int 9])) _
    rw [e]
    exact q _ (Same.add hp)
end
end FX
end
section
set_option Elab.async false
set_option linter.all false
set_option maxRecDepth 100000
set_option maxHeartbeats 4000000
namespace FX
open PySem PySem.Spec PyProof.Rows L2 FT
open VafmsBase (Fmt readNat)
local macro_rules | `(tactic| walk_at "rd") => `(tactic| try dsimp only [tM1, tMethA, ipI, tAug, tOp, tC, tCB, tCons, tNil, gName, tVar, tAsg, tRet, tIfS, tTest, tB, tNext, tDrop, tFld, tCKw, tCall, tMeth, rI0, rI, CMul, rEq, rNe, rEqD, rNeD, tBM, rAppend, rExtend, rCat, rIn, rIxT, rIxL, tSl, rSlL, tPart, tNoPart, tChain, tUn, rU, tIf, tNot, tOr, tAnd, tOrV, tAndV, tMake, sFld, sFldAug, tLst, tTup, tFault, pad, List.set, List.getElem?_cons_zero, List.getElem?_cons_succ, cxOf, List.map_cons, List.map_nil, List.append_nil, List.cons_append, List.nil_append])
local macro_rules | `(tactic| walk_at "sq") => `(tactic| (refine seq_go ?_; walk_at "rd"))
local macro_rules | `(tactic| walk_at "r0") => `(tactic| (rw [start_pad (by rfl)]; walk_at "rd"))
section
variable {P : Program} {w : World} {K : PySem.W.Frag} {mg : Str → Option Value} {base : Heap} {c : Cs}
/-! ### the object -/
def SrcOk (x : Vafmsa.Source) : Prop := VafmsBase.okPieces x.format = true ∧ x.format.size ≤ 14 ∧ x.values.length ≤ 6 ∧ ∀ v ∈ x.values, ValOk v
def kpF (rv : V) (la : Addr) : List (Str × V) := [("row", rv), ("listed", .ref la)]
theorem kpF_row {rv : V} {la : Addr} : (kpF rv la).lookup ("row" : Str) = some rv := lk_here
theorem kpF_listed {rv : V} {la : Addr} : (kpF rv la).lookup ("listed" : Str) = some (.ref la) := (lk_past (by decide +kernel)).trans lk_here
def KpAt (c : Cs) (H : Hp) (p : Addr) (s : Vafmsa.State) : Prop := ∃ (dx la : Addr) (us : List V) (rv : V), H p = some (.ins c.Keeper dx (kpF rv la)) ∧ hideA p H la = some (.lst us) ∧ (match s.source with
  | none => rv = .non
  | some x => SrcOk x ∧ ∃ ra : Addr, rv = .ref ra ∧ RowAt c (hideA p H) ra x.format ∧ TxtsAt (hideA p H) us x.values)
theorem KpAt.same {H H' : Hp} {p : Addr} {s : Vafmsa.State} (h : KpAt c H p s) (sm : Same H H') : KpAt c H' p s := by
  obtain ⟨dx, la, us, rv, h1, h2, h3⟩ := h
  have sh := hide_same (D := p) sm
  refine ⟨dx, la, us, rv, sm _ _ h1, sh _ _ h2, ?_⟩
  obtain ⟨src⟩ := s
  cases src with
  | none => exact h3
  | some x =>
    obtain ⟨g, ra, e, h4, h5⟩ := h3
    exact ⟨g, ra, e, h4.same sh, h5.same sh⟩
/-- with a source -/
theorem KpAt.src {H : Hp} {p : Addr} {x : Vafmsa.Source} (h : KpAt c H p ⟨some x⟩) : ∃ (dx la : Addr) (us : List V) (ra : Addr), H p = some (.ins c.Keeper dx (kpF (.ref ra) la)) ∧ H la = some (.lst us) ∧ SrcOk x ∧ RowAt c H ra x.format ∧ TxtsAt H us x.values := by
  obtain ⟨dx, la, us, rv, h1, h2, g, ra, e, h4, h5⟩ := h
  subst e
  exact ⟨dx, la, us, ra, h1, hideA_same _ _ h2, g, h4.same hideA_same, h5.same hideA_same⟩
theorem listed_ivs (l : List Nat) : ivs (VafmsBase.listed l) = ivs (((VafmsBase.ints l).length : Int) :: VafmsBase.ints l) := by
  have e : ((VafmsBase.ints l).length : Int) = VafmsBase.int l.length := by
    unfold VafmsBase.ints VafmsBase.int
    rw [List.length_map]
  rw [e]
  rfl
theorem ints_len (l : List Nat) : (VafmsBase.ints l).length = l.length := by
  unfold VafmsBase.ints
  rw [List.length_map]
/-- counted, of whole numbers from 0 on -/
theorem counted_nat {a : Addr} {l : List Nat} {H : Hp} {Q : VK} {E : XK} (ha : H a = some (.lst (nvs l))) (hl : l.length ≤ 12000000) (q : NewL H (ivs (VafmsBase.listed l)) Q) : spCounted [.ref a] H Q E := by
  refine ⟨a, VafmsBase.ints l, rfl, by rw [← nvs_ivs]; exact ha, by rw [ints_len]; exact hl, ?_⟩
  rw [← listed_ivs]
  exact q
theorem NewL.later {H H1 : Hp} {l : List V} {Q : VK} (q : NewL H l Q) (s : Same H H1) : NewL H1 l Q := fun p H' hp s' h => q p H' (s.free hp) (Same.trans s s') h
def spShown (c : Cs) : Sp := fun vs H Q _ => ∃ (p : Addr) (x : Vafmsa.Source), vs = [.ref p] ∧ KpAt c H p ⟨some x⟩ ∧ (VafmsBase.listed (Vafmsa.sourceText x)).length ≤ 10000000 ∧ NewL H (ivs (VafmsBase.listed (Vafmsa.sourceText x))) Q
theorem sc_Keeper_shown : FnScope ["self"] ["self"] (defScope (inClass (topS 126) 2)) := ⟨rfl, rfl, rfl, by decide +kernel, rfl, by decide +kernel, by decide +kernel⟩
theorem d_Keeper_shown (T : Top K mg c) : MethOk P w K mg base CX0 34 c.Keeper "shown" (spShown c) := T.m_Keeper_shown.ok T.c_Keeper.cl fun f fd F => by
  refine F.ok sc_Keeper_shown (fun vs H Q E h => ?_) (fun cdv A outer s H vs Q E hr h => ⟨_, (pss_one (ps_ret (pcall (d_counted T) (hr.mono (by omega)) pass0 (pa_cons (pcall (d_one_form T 15) (hr.mono (by omega)) pass0 (pa_cons (pe_fld (pv 0) rfl) (pa_cons (pe_fld (pv 0) rfl) pa_nil))) pa_nil)))), ?_⟩)
  · obtain ⟨p, x, rfl, _⟩ := h
    rfl
  · obtain ⟨p, x, rfl, hK, hl, q⟩ := h
    obtain ⟨dx, la, us, ra, hP, hla, ⟨g1, g2, g3, g4⟩, hrow, hv⟩ := hK.src
    walk_at "r0"
    refine ⟨_, rfl, p, c.Keeper, dx, _, _, rfl, hP, T.c_Keeper.cl, T.c_Keeper.na _ (by simp), kpF_row, _, rfl, p, c.Keeper, dx, _, _, rfl, hP, T.c_Keeper.cl, T.c_Keeper.na _ (by simp), kpF_listed, ra, la, x.format, us, x.values, rfl, hrow, depth_ok g2, by omega, g1, hla, hv, by omega, g4, fun b H1 hb s1 hb1 => ?_⟩
    refine counted_nat hb1 ?_ (NewL.later q s1)
    unfold VafmsBase.listed at hl
    rw [List.length_cons, ints_len] at hl
    exact Nat.le_trans (Nat.le_of_succ_le hl) (by decide)
def spAsNums (c : Cs) : Sp := fun vs H Q _ => ∃ (p : Addr) (x : Vafmsa.Source), vs = [.ref p] ∧ KpAt c H p ⟨some x⟩ ∧ NewL H (ivs (VafmsBase.flatFmt x.format)) Q
theorem sc_Keeper_as_numbers : FnScope ["self"] ["self"] (defScope (inClass (topS 126) 3)) := ⟨rfl, rfl, rfl, by decide +kernel, rfl, by decide +kernel, by decide +kernel⟩
theorem d_Keeper_as_numbers (T : Top K mg c) : MethOk P w K mg base CX0 34 c.Keeper "as_numbers" (spAsNums c) := T.m_Keeper_as_numbers.ok T.c_Keeper.cl fun f fd F => by
  refine F.ok sc_Keeper_as_numbers (fun vs H Q E h => ?_) (fun cdv A outer s H vs Q E hr h => ⟨_, (pss_one (ps_ret (pcall (d_row_numbers T 15) (hr.mono (by omega)) pass0 (pa_cons (pe_fld (pv 0) rfl) pa_nil)))), ?_⟩)
  · obtain ⟨p, x, rfl, _⟩ := h
    rfl
  · obtain ⟨p, x, rfl, hK, q⟩ := h
    obtain ⟨dx, la, us, ra, hP, hla, ⟨g1, g2, g3, g4⟩, hrow, hv⟩ := hK.src
    walk_at "r0"
    exact ⟨_, rfl, p, c.Keeper, dx, _, _, rfl, hP, T.c_Keeper.cl, T.c_Keeper.na _ (by simp), kpF_row, ra, x.format, rfl, hrow, depth_ok g2, by omega, g1, q⟩
def spLengths (c : Cs) : Sp := fun vs H Q _ => ∃ (p : Addr) (x : Vafmsa.Source), vs = [.ref p] ∧ KpAt c H p ⟨some x⟩ ∧ NewL H (ivs [VafmsBase.int (Vafmsa.leastLength x.format), VafmsBase.int (Vafmsa.mostLength x.format)]) Q
theorem sc_Keeper_lengths : FnScope ["self"] ["self"] (defScope (inClass (topS 126) 8)) := ⟨rfl, rfl, rfl, by decide +kernel, rfl, by decide +kernel, by decide +kernel⟩
theorem d_Keeper_lengths (T : Top K mg c) : MethOk P w K mg base CX0 34 c.Keeper "lengths" (spLengths c) := T.m_Keeper_lengths.ok T.c_Keeper.cl fun f fd F => by
  refine F.ok sc_Keeper_lengths (fun vs H Q E h => ?_) (fun cdv A outer s H vs Q E hr h => ⟨_, (pss_one (ps_ret (pe_lst (pa_cons (pcall (d_shortest_length T 15) (hr.mono (by omega)) pass0 (pa_cons (pe_fld (pv 0) rfl) pa_nil)) (pa_cons (pcall (d_longest_length T 15) (hr.mono (by omega)) pass0 (pa_cons (pe_fld (pv 0) rfl) pa_nil)) pa_nil))))), ?_⟩)
  · obtain ⟨p, x, rfl, _⟩ := h
    rfl
  · obtain ⟨p, x, rfl, hK, q⟩ := h
    obtain ⟨dx, la, us, ra, hP, hla, ⟨g1, g2, g3, g4⟩, hrow, hv⟩ := hK.src
    walk_at "r0"
    refine ⟨_, rfl, p, c.Keeper, dx, _, _, rfl, hP, T.c_Keeper.cl, T.c_Keeper.na _ (by simp), kpF_row, ra, x.format, rfl, hrow, depth_ok g2, by omega, g1, fun H1 s1 => ?_⟩
    refine ⟨_, rfl, p, c.Keeper, dx, _, _, rfl, s1 _ _ hP, T.c_Keeper.cl, T.c_Keeper.na _ (by simp), kpF_row, ra, x.format, rfl, hrow.same s1, depth_ok g2, by omega, g1, fun H2 s2 => ?_⟩
    have s12 := Same.trans s1 s2
    exact ⟨(by show 2 ≤ sizeLine; decide), fun e he => q e _ (s12.free he) (Same.trans s12 (Same.add he)) upd_same⟩
end
end FX
end
section
set_option Elab.async false
set_option linter.all false
set_option maxRecDepth 100000
set_option maxHeartbeats 4000000
namespace FX
open PySem PySem.Spec PyProof.Rows L2 FT
open VafmsBase (Fmt readNat)
local macro_rules | `(tactic| walk_at "rd") => `(tactic| try dsimp only [tM1, tMethA, ipI, tAug, tOp, tC, tCB, tCons, tNil, gName, tVar, tAsg, tRet, tIfS, tTest, tB, tNext, tDrop, tFld, tCKw, tCall, tMeth, rI0, rI, CMul, rEq, rNe, rEqD, rNeD, tBM, rAppend, rExtend, rCat, rIn, rIxT, rIxL, tSl, rSlL, tPart, tNoPart, tChain, tUn, rU, tIf, tNot, tOr, tAnd, tOrV, tAndV, tMake, sFld, sFldAug, tLst, tTup, tFault, pad, List.set, List.getElem?_cons_zero, List.getElem?_cons_succ, cxOf, List.map_cons, List.map_nil, List.append_nil, List.cons_append, List.nil_append])
local macro_rules | `(tactic| walk_at "sq") => `(tactic| (refine seq_go ?_; walk_at "rd"))
local macro_rules | `(tactic| walk_at "r0") => `(tactic| (rw [start_pad (by rfl)]; walk_at "rd"))
section
variable {P : Program} {w : World} {K : PySem.W.Frag} {mg : Str → Option Value} {base : Heap} {c : Cs}
theorem maybe_len {l : List Nat} (h : (Vafmsa.maybe (some l)).length ≤ 10000000) : l.length ≤ 11000000 := by
  have e : (Vafmsa.maybe (some l)).length = l.length + 2 := by
    show (1 :: VafmsBase.int l.length :: VafmsBase.ints l).length = _
    rw [List.length_cons, List.length_cons, ints_len]
  omega
/-- found, of a print or a scanning -/
theorem found_gives {o : Option (List Nat)} {H : Hp} {Q : VK} {E : XK} (hl : (Vafmsa.maybe o).length ≤ 10000000) (q : NewL H (ivs (Vafmsa.maybe o)) Q) : GivesT H o fun v H' => spFound [v] H' Q E := by
  cases o with
  | none => exact fun H' s => ⟨.non, none, rfl, rfl, NewL.later q s⟩
  | some l => exact fun D H' hD s h => ⟨.ref D, some l, rfl, ⟨D, rfl, h, maybe_len hl⟩, NewL.later q s⟩
theorem tail_nat {u : List Nat} {x : List Int} (h : x = VafmsBase.int u.length :: VafmsBase.ints u) : (ivs x).drop 1 = nvs u := by
  rw [h, nvs_ivs]
  rfl
def spPrinted (c : Cs) : Sp := fun vs H Q _ => ∃ (p : Addr) (x : Vafmsa.Source) (a : Addr) (v : List Int), vs = [.ref p, .ref a] ∧ KpAt c H p ⟨some x⟩ ∧ H a = some (.lst (ivs v)) ∧ v.length ≤ 70 ∧ (Vafmsa.onValue v fun u => Vafmsa.maybe (VafmsBase.print x.format u)).length ≤ 10000000 ∧ NewL H (ivs (Vafmsa.onValue v fun u => Vafmsa.maybe (VafmsBase.print x.format u))) Q
theorem onValue_eq (v : List Int) (f : List Nat → Vafmsa.Answer) : Vafmsa.onValue v f = match wholeV v with | none => [-5] | some u => f u := rfl
theorem sc_Keeper_printed : FnScope ["self", "value"] ["self", "value"] (defScope (inClass (topS 126) 4)) := ⟨rfl, rfl, rfl, by decide +kernel, rfl, by decide +kernel, by decide +kernel⟩
theorem d_Keeper_printed (T : Top K mg c) : MethOk P w K mg base CX0 89 c.Keeper "printed" (spPrinted c) := T.m_Keeper_printed.ok T.c_Keeper.cl fun f fd F => by
  refine F.ok sc_Keeper_printed (fun vs H Q E h => ?_) (fun cdv A outer s H vs Q E hr h => ⟨_, (pss_cons (ps_if (pt_not (pt_val (pcall (d_is_whole_value T) (hr.mono (by omega)) pass0 (pa_cons (pv 1) pa_nil))))
 (pss_one (ps_ret (pe_lst (pa_cons (pe_un un_neg pe_int) pa_nil))))
 pss_nil)
 (pss_one (ps_ret (pcall (d_found T) (hr.mono (by omega)) pass0 (pa_cons (pcall (d_print_of T) (hr.mono (by omega)) pass0 (pa_cons (pe_fld (pv 0) rfl) (pa_cons (pe_slice sl_list (pv 1) (po_some pe_int) po_none) pa_nil))) pa_nil))))), ?_⟩)
  · obtain ⟨p, x, a, v, rfl, _⟩ := h
    rfl
  · obtain ⟨p, x, a, v, rfl, hK, ha, hv70, hl, q⟩ := h
    obtain ⟨dx, la, us, ra, hP, hla, ⟨g1, g2, g3, g4⟩, hrow, hv⟩ := hK.src
    rw [onValue_eq] at hl q
    walk_at "r0"
    walk_at "sq"
    refine ⟨_, rfl, a, v, rfl, ha, by omega, fun H1 s1 => ⟨_, rfl, ?_⟩⟩
    cases hw : wholeV v with
    | none =>
      rw [hw] at q
      rw [if_pos (by rfl)]
      exact ⟨_, rfl, (by show 1 ≤ sizeLine; decide), fun e he => q e _ (s1.free he) (Same.trans s1 (Same.add he)) upd_same⟩
    | some u =>
      rw [hw] at q hl
      dsimp only at q hl
      obtain ⟨ev, u1, u2⟩ := wholeV_some.mp hw
      rw [if_neg (fun z => by cases z)]
      walk_at "rd"
      refine ⟨_, rfl, p, c.Keeper, dx, _, _, rfl, s1 _ _ hP, T.c_Keeper.cl, T.c_Keeper.na _ (by simp), kpF_row, _, rfl, _, rfl, a, _, rfl, SqL.of (s1 _ _ ha), fun e he => ?_⟩
      rw [cut_one, tail_nat ev]
      have s2 := Same.trans s1 (Same.add (o := .lst (nvs u)) he)
      exact ⟨ra, e, x.format, u, rfl, hrow.same s2, Nat.le_trans (depth_le_size _) (by omega), by omega, g1, upd_same, u2, by omega, found_gives hl (NewL.later q s2)⟩
def spScanned (c : Cs) : Sp := fun vs H Q _ => ∃ (p : Addr) (x : Vafmsa.Source) (a : Addr) (t : List Nat), vs = [.ref p, .ref a] ∧ KpAt c H p ⟨some x⟩ ∧ H a = some (.lst (nvs t)) ∧ t.length ≤ 100 ∧ (Vafmsa.onText t fun u => Vafmsa.maybe (VafmsBase.scan x.format u)).length ≤ 10000000 ∧ NewL H (ivs (Vafmsa.onText t fun u => Vafmsa.maybe (VafmsBase.scan x.format u))) Q
theorem sc_Keeper_scanned : FnScope ["self", "text"] ["self", "text"] (defScope (inClass (topS 126) 5)) := ⟨rfl, rfl, rfl, by decide +kernel, rfl, by decide +kernel, by decide +kernel⟩
theorem d_Keeper_scanned (T : Top K mg c) : MethOk P w K mg base CX0 89 c.Keeper "scanned" (spScanned c) := T.m_Keeper_scanned.ok T.c_Keeper.cl fun f fd F => by
  refine F.ok sc_Keeper_scanned (fun vs H Q E h => ?_) (fun cdv A outer s H vs Q E hr h => ⟨_, (pss_cons (ps_if (pt_cmpR op_gt (pe_callB call_len_seq (by rfl) T.b_len (by decide +kernel) (pa_cons (pv 1) pa_nil)) (pe_num T.n_MOST_TEXT_BYTES_scanning) (nomark _))
 (pss_one (ps_ret (pe_lst (pa_cons (pe_un un_neg pe_int) pa_nil))))
 pss_nil)
 (pss_one (ps_ret (pcall (d_found T) (hr.mono (by omega)) pass0 (pa_cons (pcall (d_first_scanning T) (hr.mono (by omega)) pass0 (pa_cons (pe_fld (pv 0) rfl) (pa_cons (pv 1) pa_nil))) pa_nil))))), ?_⟩)
  · obtain ⟨p, x, a, v, rfl, _⟩ := h
    rfl
  · obtain ⟨p, x, a, t, rfl, hK, ha, ht, hl, q⟩ := h
    obtain ⟨dx, la, us, ra, hP, hla, ⟨g1, g2, g3, g4⟩, hrow, hv⟩ := hK.src
    unfold Vafmsa.onText at hl q
    walk_at "r0"
    walk_at "sq"
    refine ⟨_, rfl, a, _, rfl, .inl (SqL.of ha), _, _, rfl, rfl, _, rfl, ?_⟩
    rw [nvs_length]
    by_cases h24 : 24 < t.length
    · rw [if_pos (show VafmsBase.TEXT < t.length from h24)] at q
      rw [if_pos (decide_eq_true (by omega))]
      exact ⟨_, rfl, (by show 1 ≤ sizeLine; decide), fun e he => q e _ he (Same.add he) upd_same⟩
    · rw [if_neg (show ¬ VafmsBase.TEXT < t.length from h24)] at q hl
      rw [if_neg (by rw [decide_eq_false (by omega)]; exact Bool.false_ne_true)]
      walk_at "rd"
      exact ⟨_, rfl, p, c.Keeper, dx, _, _, rfl, hP, T.c_Keeper.cl, T.c_Keeper.na _ (by simp), kpF_row, _, rfl, ra, a, x.format, t, rfl, hrow, Nat.le_trans (depth_le_size _) (by omega), by omega, g1, ha, by omega, found_gives hl q⟩
def spWays (c : Cs) : Sp := fun vs H Q _ => ∃ (p : Addr) (x : Vafmsa.Source) (a : Addr) (t : List Nat), vs = [.ref p, .ref a] ∧ KpAt c H p ⟨some x⟩ ∧ H a = some (.lst (nvs t)) ∧ t.length ≤ 100 ∧ NewL H (ivs (Vafmsa.onText t fun u => [VafmsBase.int (VafmsBase.scannings x.format u).length])) Q
theorem sc_Keeper_ways : FnScope ["self", "text"] ["self", "text"] (defScope (inClass (topS 126) 6)) := ⟨rfl, rfl, rfl, by decide +kernel, rfl, by decide +kernel, by decide +kernel⟩
theorem d_Keeper_ways (T : Top K mg c) : MethOk P w K mg base CX0 89 c.Keeper "ways" (spWays c) := T.m_Keeper_ways.ok T.c_Keeper.cl fun f fd F => by
  refine F.ok sc_Keeper_ways (fun vs H Q E h => ?_) (fun cdv A outer s H vs Q E hr h => ⟨_, (pss_cons (ps_if (pt_cmpR op_gt (pe_callB call_len_seq (by rfl) T.b_len (by decide +kernel) (pa_cons (pv 1) pa_nil)) (pe_num T.n_MOST_TEXT_BYTES_scanning) (nomark _))
 (pss_one (ps_ret (pe_lst (pa_cons (pe_un un_neg pe_int) pa_nil))))
 pss_nil)
 (pss_one (ps_ret (pe_lst (pa_cons (pcall (d_scanning_count T) (hr.mono (by omega)) pass0 (pa_cons (pe_fld (pv 0) rfl) (pa_cons (pv 1) pa_nil))) pa_nil))))), ?_⟩)
  · obtain ⟨p, x, a, v, rfl, _⟩ := h
    rfl
  · obtain ⟨p, x, a, t, rfl, hK, ha, ht, q⟩ := h
    obtain ⟨dx, la, us, ra, hP, hla, ⟨g1, g2, g3, g4⟩, hrow, hv⟩ := hK.src
    unfold Vafmsa.onText at q
    walk_at "r0"
    walk_at "sq"
    refine ⟨_, rfl, a, _, rfl, .inl (SqL.of ha), _, _, rfl, rfl, _, rfl, ?_⟩
    rw [nvs_length]
    by_cases h24 : 24 < t.length
    · rw [if_pos (show VafmsBase.TEXT < t.length from h24)] at q
      rw [if_pos (decide_eq_true (by omega))]
      exact ⟨_, rfl, (by show 1 ≤ sizeLine; decide), fun e he => q e _ he (Same.add he) upd_same⟩
    · rw [if_neg (show ¬ VafmsBase.TEXT < t.length from h24)] at q
      rw [if_neg (by rw [decide_eq_false (by omega)]; exact Bool.false_ne_true)]
      walk_at "rd"
      exact ⟨_, rfl, p, c.Keeper, dx, _, _, rfl, hP, T.c_Keeper.cl, T.c_Keeper.na _ (by simp), kpF_row, _, rfl, ra, a, x.format, t, rfl, hrow, Nat.le_trans (depth_le_size _) (by omega), by omega, g1, ha, by omega, fun H1 s1 => ⟨(by show 1 ≤ sizeLine; decide), fun e he => q e _ (s1.free he) (Same.trans s1 (Same.add he)) upd_same⟩⟩
/-- told -/
def toldAns (x : Vafmsa.Source) (i : Int) : List Int := match (if i < 0 then none else x.values[i.toNat]?) with
  | none => [-3]
  | some v => VafmsBase.listed v ++ Vafmsa.maybe (VafmsBase.print x.format v)
def spTold (c : Cs) : Sp := fun vs H Q _ => ∃ (p : Addr) (x : Vafmsa.Source) (i : Int), vs = [.ref p, .int i] ∧ KpAt c H p ⟨some x⟩ ∧ (toldAns x i).length ≤ 10000000 ∧ NewL H (ivs (toldAns x i)) Q
theorem sc_Keeper_listed_value : FnScope ["self", "number", "value"] ["self", "number"] (defScope (inClass (topS 126) 7)) := ⟨rfl, rfl, rfl, by decide +kernel, rfl, by decide +kernel, by decide +kernel⟩
theorem d_Keeper_listed_value (T : Top K mg c) : MethOk P w K mg base CX0 89 c.Keeper "listed_value" (spTold c) := T.m_Keeper_listed_value.ok T.c_Keeper.cl fun f fd F => by
  refine F.ok sc_Keeper_listed_value (fun vs H Q E h => ?_) (fun cdv A outer s H vs Q E hr h => ⟨_, (pss_cons (ps_if (pt_not (pt_chain op_le op_lt pe_int (pv 1) (pe_callB call_len_seq (by rfl) T.b_len (by decide +kernel) (pa_cons (pe_fld (pv 0) rfl) pa_nil))))
 (pss_one (ps_ret (pe_lst (pa_cons (pe_un un_neg pe_int) pa_nil))))
 pss_nil)
 (pss_cons (ps_set (i := 2) sc_Keeper_listed_value.nd rfl (.inl rfl) (pe_ix ix_list (pe_fld (pv 0) rfl) (pv 1) (fun _ _ => rfl)))
 (pss_one (ps_ret (pe_op op_cat (pcall (d_counted T) (hr.mono (by omega)) pass0 (pa_cons (pv 2) pa_nil)) (pcall (d_found T) (hr.mono (by omega)) pass0 (pa_cons (pcall (d_print_of T) (hr.mono (by omega)) pass0 (pa_cons (pe_fld (pv 0) rfl) (pa_cons (pv 2) pa_nil))) pa_nil))))))), ?_⟩)
  · obtain ⟨p, x, i, rfl, _⟩ := h
    rfl
  · obtain ⟨p, x, i, rfl, hK, hl, q⟩ := h
    obtain ⟨dx, la, us, ra, hP, hla, ⟨g1, g2, g3, g4⟩, hrow, hv⟩ := hK.src
    have hul := hv.length
    unfold toldAns at hl q
    walk_at "r0"
    walk_at "sq"
    refine ⟨_, rfl, _, _, rfl, rfl, _, rfl, ?_⟩
    have no : ¬ (0 ≤ i ∧ i < (us.length : Int)) → ∃ i_1, V.int 3 = V.int i_1 ∧ [V.int (-i_1)].length ≤ sizeLine ∧ ∀ l, H l = none → Q (.ref l) (upd H l (.lst [.int (-i_1)])) := fun hn => by
      have e : (if i < 0 then none else x.values[i.toNat]?) = none := by
        by_cases h0 : i < 0
        · rw [if_pos h0]
        · rw [if_neg h0, List.getElem?_eq_none (by omega)]
      rw [e] at q
      exact ⟨3, rfl, (by show 1 ≤ sizeLine; decide), fun e he => q e _ he (Same.add he) upd_same⟩
    by_cases h0 : (0 : Int) ≤ i
    · rw [if_pos (decide_eq_true h0)]
      refine ⟨_, rfl, p, c.Keeper, dx, _, _, rfl, hP, T.c_Keeper.cl, T.c_Keeper.na _ (by simp), kpF_listed, la, _, rfl, .inl (SqL.of hla), _, _, rfl, rfl, _, rfl, ?_⟩
      by_cases h1 : i < (us.length : Int)
      · rw [decide_eq_true h1, if_neg (by decide)]
        obtain ⟨k, rfl⟩ : ∃ k : Nat, i = (k : Int) := ⟨i.toNat, by omega⟩
        have hk : k < us.length := by omega
        have huk : us[k]? = some (us[k]'hk) := List.getElem?_eq_getElem hk
        obtain ⟨val, hval, va, eva, hva⟩ := Paired.at hv huk
        rw [if_neg (by omega), Int.toNat_natCast, hval] at hl q
        dsimp only at hl q
        rw [List.length_append] at hl
        rw [ivs_append] at q
        have hvok := g4 val (List.mem_of_getElem? hval)
        walk_at "sq"
        refine ⟨_, rfl, p, c.Keeper, dx, _, _, rfl, hP, T.c_Keeper.cl, T.c_Keeper.na _ (by simp), kpF_listed, _, rfl, la, us, _, _, rfl, rfl, SqL.of hla, atI_nat (j := k) huk, ?_⟩
        rw [eva]
        walk_at "rd"
        refine ⟨_, rfl, counted_nat hva (by have := hvok.1; omega) fun b H1 hb s1 hb1 => ?_⟩
        refine ⟨_, rfl, p, c.Keeper, dx, _, _, rfl, s1 _ _ hP, T.c_Keeper.cl, T.c_Keeper.na _ (by simp), kpF_row, _, rfl, ra, va, x.format, val, rfl, hrow.same s1, Nat.le_trans (depth_le_size _) (by omega), by omega, g1, s1 _ _ hva, hvok.2, by have := hvok.1; omega, found_gives (by omega) fun d H2 hd s2 hd2 => ?_⟩
        have s12 := Same.trans s1 s2
        refine ⟨b, d, _, _, rfl, rfl, s2 _ _ hb1, hd2, szm (by rw [ivs_length, ivs_length]; omega), fun e he => q e _ (s12.free he) (Same.trans s12 (Same.add he)) upd_same⟩
      · rw [decide_eq_false h1, if_pos (by rfl)]
        exact no fun z => h1 z.2
    · rw [if_neg (by rw [decide_eq_false h0]; exact Bool.false_ne_true)]
      refine ⟨_, rfl, ?_⟩
      rw [if_pos (by rfl)]
      exact no fun z => h0 z.1
end
end FX
end
section
set_option linter.all false
set_option maxHeartbeats 1000000
/-! What is printed can be scanned. -/
namespace FX
open FT VafmsBase
theorem dig_all : ∀ (k n : Nat), n ≤ k → (digitsOf n).all isDigit = true ∧ numberOf (digitsOf n) = n
  | 0, n, h => by
    obtain rfl : n = 0 := by omega
    exact ⟨by decide, by decide⟩
  | k + 1, n, h => by
    rw [digits_step]
    by_cases h10 : n < 10
    · rw [if_pos h10]
      refine ⟨?_, ?_⟩
      · rw [List.all_cons, List.all_nil, Bool.and_true]
        exact isDigit_iff.mpr (by omega)
      · show 10 * 0 + (48 + n - 48) = n
        omega
    · rw [if_neg h10]
      obtain ⟨i1, i2⟩ := dig_all k (n / 10) (by omega)
      refine ⟨?_, ?_⟩
      · rw [List.all_append, i1, List.all_cons, List.all_nil, Bool.and_true, Bool.true_and]
        exact isDigit_iff.mpr (by omega)
      · rw [numberOf_snoc, i2]
        omega
theorem zf_all (d : Text) (hd : d.all isDigit = true) : ∀ k, (List.replicate k 48 ++ d).all isDigit = true ∧ numberOf (List.replicate k 48 ++ d) = numberOf d
  | 0 => ⟨hd, rfl⟩
  | k + 1 => by
    obtain ⟨i1, i2⟩ := zf_all d hd k
    rw [List.replicate_succ, List.cons_append]
    exact ⟨by rw [List.all_cons, i1]; rfl, by rw [numberOf_zero, i2]⟩
theorem front_mem {d r : Text} {lo hi : Nat} (h1 : lo ≤ d.length) (h2 : d.length ≤ hi) : d ∈ fronts (d ++ r) lo hi := by
  unfold fronts
  exact List.mem_map.mpr ⟨d.length, mem_downFrom.mpr ⟨h1, by rw [List.length_append]; omega⟩, by simp⟩
theorem val_txt {s : Stp} {v : Value} {l : Ld} (h : s.byVal v = some l) (r : Text) : ∃ l' ∈ s.byTxt (l.txt ++ r), l'.txt = l.txt ∧ l'.tgt = l.tgt := by
  cases s with
  | txt w t =>
    obtain rfl := Option.some.inj h
    have e : Stp.byTxt (.txt w t) (w ++ r) = [⟨[], w, t⟩] := if_pos (by simp)
    exact ⟨_, by rw [e]; exact List.mem_cons_self .., rfl, rfl⟩
  | num lo hi t =>
    cases v with
    | nil => cases h
    | cons n v =>
      obtain ⟨d, h1, rfl⟩ := om (show (numPrint lo hi n).map (fun d => (⟨[n], d, t⟩ : Ld)) = some l from h)
      have h2 : (if lo ≤ (zfill (digitsOf n) (widthOf lo hi)).length ∧ (zfill (digitsOf n) (widthOf lo hi)).length ≤ hi then some (zfill (digitsOf n) (widthOf lo hi)) else none) = some d := h1
      split at h2
      · rename_i hc
        have ed := Option.some.inj h2
        obtain ⟨a1, a2⟩ := dig_all n n (Nat.le_refl _)
        obtain ⟨z1, z2⟩ := zf_all _ a1 (widthOf lo hi - (digitsOf n).length)
        have e1 : d.all isDigit = true := by rw [← ed]; exact z1
        have e2 : numberOf d = n := by rw [← ed]; exact z2.trans a2
        refine ⟨⟨[numberOf d], d, t⟩, ?_, rfl, rfl⟩
        show _ ∈ (fronts (d ++ r) lo hi).filterMap fun d => if d.all isDigit = true ∧ numPrint lo hi (numberOf d) = some d then some (⟨[numberOf d], d, t⟩ : Ld) else none
        refine List.mem_filterMap.mpr ⟨d, front_mem (by rw [← ed]; exact hc.1) (by rw [← ed]; exact hc.2), ?_⟩
        rw [if_pos ⟨e1, by rw [e2]; exact h1⟩]
      · cases h2
  | word lo hi t =>
    cases v with
    | nil => cases h
    | cons k u =>
      have h2 : (if lo ≤ k ∧ k ≤ hi then (if (u.take k).length < k ∨ (u.take k).all (fun x => decide (x < 26)) = false then none else some (⟨k :: u.take k, (u.take k).map (fun x => 97 + x), t⟩ : Ld)) else none) = some l := h
      split at h2
      · rename_i hc
        split at h2
        · cases h2
        · rename_i hn
          obtain rfl := Option.some.inj h2
          have hlen : (u.take k).length = k := by
            have := List.length_take_le k u
            have : ¬ (u.take k).length < k := fun z => hn (.inl z)
            omega
          have hall : (u.take k).all (fun x => decide (x < 26)) = true := by
            cases e : (u.take k).all (fun x => decide (x < 26)) with
            | true => rfl
            | false => exact absurd (.inr e) hn
          generalize u.take k = w at *
          refine ⟨⟨(w.map fun x => 97 + x).length :: (w.map fun x => 97 + x).map (fun b => b - 97), w.map fun x => 97 + x, t⟩, ?_, rfl, rfl⟩
          show _ ∈ (fronts (w.map (fun x => 97 + x) ++ r) lo hi).filterMap fun d => if d.all isLetter = true then some (⟨d.length :: d.map (fun b => b - 97), d, t⟩ : Ld) else none
          refine List.mem_filterMap.mpr ⟨w.map fun x => 97 + x, front_mem (by rw [List.length_map]; omega) (by rw [List.length_map]; omega), ?_⟩
          rw [if_pos]
          rw [List.all_map]
          refine List.all_eq_true.mpr fun x hx => isLetter_iff.mpr ?_
          have := List.all_eq_true.mp hall x hx
          simp only [decide_eq_true_eq] at this
          dsimp only
          omega
      · cases h2
  | cho ls =>
    obtain ⟨x, h1, rfl⟩ := om (show (ls.find? fun l => decide (v.take 1 = [l.1])).map (fun l => (⟨[l.1], [], l.2⟩ : Ld)) = some l from h)
    exact ⟨⟨[x.1], [], x.2⟩, List.mem_map.mpr ⟨x, List.mem_of_find?_eq_some h1, rfl⟩, rfl, rfl⟩
theorem prt_scn {S : List Stp} (g : FT.Good S) : ∀ (n : Nat), n ≤ S.length → ∀ (v : Value) (t : Text), prt S n v = some t → scn S n t ≠ [] := fun n => by
  induction n using Nat.strongRecOn with
  | ind n ih =>
    intro hn v t h
    cases n with
    | zero =>
      rw [prt_end] at h
      rw [scn_end]
      unfold endPrt at h
      split at h
      · obtain rfl := Option.some.inj h
        exact fun z => by cases z
      · cases h
    | succ i =>
      obtain ⟨s, hs⟩ : ∃ s, S[i]? = some s := ⟨_, List.getElem?_eq_getElem (by omega)⟩
      obtain ⟨ok, ht⟩ := g i s hs
      rw [prt_at hs ok ht] at h
      obtain ⟨l, h1, h2⟩ := ob h
      obtain ⟨x, h3, rfl⟩ := om h2
      have htg := ht _ (byVal_ok ok h1).2.2
      have hx := ih l.tgt (by omega) (by omega) _ x h3
      obtain ⟨l', hm, e1, e2⟩ := val_txt h1 x
      rw [scn_at hs ok ht]
      intro z
      have := List.flatMap_eq_nil_iff.mp z l' hm
      rw [e1, e2, List.drop_left, List.map_eq_nil_iff] at this
      exact hx this
/-- what is printed has a scanning -/
theorem print_scan {f : Fmt} {v : Value} {t : Text} (ho : okPieces f = true) (h : VafmsBase.print f v = some t) : ∃ u, VafmsBase.scan f t = some u := by
  rw [← plan_print ho] at h
  have h1 := prt_scn (plan_good ho) _ (Nat.le_refl _) v t h
  rw [plan_scan ho] at h1
  unfold VafmsBase.scan
  cases e : scannings f t with
  | nil => exact absurd e h1
  | cons a l => exact ⟨a, rfl⟩
end FX
end
section
set_option Elab.async false
set_option linter.all false
set_option maxRecDepth 100000
set_option maxHeartbeats 4000000
namespace FX
open PySem PySem.Spec PyProof.Rows L2 FT
open VafmsBase (Fmt readNat)
local macro_rules | `(tactic| walk_at "rd") => `(tactic| try dsimp only [tM1, tMethA, ipI, tAug, tOp, tC, tCB, tCons, tNil, gName, tVar, tAsg, tRet, tIfS, tTest, tB, tNext, tDrop, tFld, tCKw, tCall, tMeth, rI0, rI, CMul, rEq, rNe, rEqD, rNeD, tBM, rAppend, rExtend, rCat, rIn, rIxT, rIxL, tSl, rSlL, tPart, tNoPart, tChain, tUn, rU, tIf, tNot, tOr, tAnd, tOrV, tAndV, tMake, sFld, sFldAug, tLst, tTup, tFault, tCallS, pad, List.set, List.getElem?_cons_zero, List.getElem?_cons_succ, cxOf, List.map_cons, List.map_nil, List.append_nil, List.cons_append, List.nil_append])
local macro_rules | `(tactic| walk_at "sq") => `(tactic| (refine seq_go ?_; walk_at "rd"))
local macro_rules | `(tactic| walk_at "r0") => `(tactic| (rw [start_pad (by rfl)]; walk_at "rd"))
section
variable {P : Program} {w : World} {K : PySem.W.Frag} {mg : Str → Option Value} {base : Heap} {c : Cs}
def roundAns (x : Vafmsa.Source) (v : List Int) : List Int := Vafmsa.onValue v fun u => (match VafmsBase.print x.format u with
  | none => [-4]
  | some t => if VafmsBase.TEXT < t.length then [-7] else (match VafmsBase.scan x.format t with
    | none => [-4]
    | some z => if z = u then [1] else 0 :: VafmsBase.listed z))
def spRound (c : Cs) : Sp := fun vs H Q _ => ∃ (p : Addr) (x : Vafmsa.Source) (a : Addr) (v : List Int), vs = [.ref p, .ref a] ∧ KpAt c H p ⟨some x⟩ ∧ H a = some (.lst (ivs v)) ∧ v.length ≤ 70 ∧ (roundAns x v).length ≤ 10000000 ∧ NewL H (ivs (roundAns x v)) Q
theorem sc_Keeper_come_back : FnScope ["self", "value", "text", "numbers"] ["self", "value"] (defScope (inClass (topS 126) 9)) := ⟨rfl, rfl, rfl, by decide +kernel, rfl, by decide +kernel, by decide +kernel⟩
theorem d_Keeper_come_back (T : Top K mg c) : MethOk P w K mg base CX0 89 c.Keeper "come_back" (spRound c) := T.m_Keeper_come_back.ok T.c_Keeper.cl fun f fd F => by
  refine F.ok sc_Keeper_come_back (fun vs H Q E h => ?_) (fun cdv A outer s H vs Q E hr h => ⟨_, (pss_cons (ps_if (pt_not (pt_val (pcall (d_is_whole_value T) (hr.mono (by omega)) pass0 (pa_cons (pv 1) pa_nil))))
 (pss_one (ps_ret (pe_lst (pa_cons (pe_un un_neg pe_int) pa_nil))))
 pss_nil)
 (pss_cons (ps_set (i := 2) sc_Keeper_come_back.nd rfl (.inl rfl) (pcall (d_print_of T) (hr.mono (by omega)) pass0 (pa_cons (pe_fld (pv 0) rfl) (pa_cons (pe_slice sl_list (pv 1) (po_some pe_int) po_none) pa_nil))))
 (pss_cons (ps_if (pt_cmpR op_isN (pv 2) pe_non (nomark _))
 (pss_one (ps_ret (pe_lst (pa_cons (pe_un un_neg pe_int) pa_nil))))
 pss_nil)
 (pss_cons (ps_if (pt_cmpR op_gt (pe_callB call_len_seq (by rfl) T.b_len (by decide +kernel) (pa_cons (pv 2) pa_nil)) (pe_num T.n_MOST_TEXT_BYTES_scanning) (nomark _))
 (pss_one (ps_ret (pe_lst (pa_cons (pe_un un_neg pe_int) pa_nil))))
 pss_nil)
 (pss_cons (ps_set (i := 3) sc_Keeper_come_back.nd rfl (.inl rfl) (pcall (d_first_scanning T) (hr.mono (by omega)) pass0 (pa_cons (pe_fld (pv 0) rfl) (pa_cons (pv 2) pa_nil))))
 (pss_one (ps_ret (pe_ifExp (pt_cmpR (op_eqD hr.units) (pv 3) (pe_slice sl_list (pv 1) (po_some pe_int) po_none) (nomark _)) (pe_lst (pa_cons pe_int pa_nil)) (pe_op op_cat (pe_lst (pa_cons pe_int pa_nil)) (pcall (d_counted T) (hr.mono (by omega)) pass0 (pa_cons (pv 3) pa_nil))))))))))), ?_⟩)
  · obtain ⟨p, x, a, v, rfl, _⟩ := h
    rfl
  · obtain ⟨p, x, a, v, rfl, hK, ha, hv70, hl, q⟩ := h
    obtain ⟨dx, la, us, ra, hP, hla, ⟨g1, g2, g3, g4⟩, hrow, hv⟩ := hK.src
    unfold roundAns at hl q
    rw [onValue_eq] at hl q
    walk_at "r0"
    walk_at "sq"
    refine ⟨_, rfl, a, v, rfl, ha, by omega, fun H1 s1 => ⟨_, rfl, ?_⟩⟩
    cases hw : wholeV v with
    | none =>
      rw [hw] at q
      rw [if_pos (by rfl)]
      exact ⟨_, rfl, (by show 1 ≤ sizeLine; decide), fun e he => q e _ (s1.free he) (Same.trans s1 (Same.add he)) upd_same⟩
    | some u =>
      rw [hw] at q hl
      dsimp only at q hl
      obtain ⟨ev, u1, u2⟩ := wholeV_some.mp hw
      rw [if_neg (fun z => by cases z)]
      walk_at "sq"
      refine ⟨_, rfl, p, c.Keeper, dx, _, _, rfl, s1 _ _ hP, T.c_Keeper.cl, T.c_Keeper.na _ (by simp), kpF_row, _, rfl, _, rfl, a, _, rfl, SqL.of (s1 _ _ ha), fun e he => ?_⟩
      rw [cut_one, tail_nat ev]
      have s2 := Same.trans s1 (Same.add (o := .lst (nvs u)) he)
      refine ⟨ra, e, x.format, u, rfl, hrow.same s2, Nat.le_trans (depth_le_size _) (by omega), by omega, g1, upd_same, u2, by omega, ?_⟩
      cases hp : VafmsBase.print x.format u with
      | none =>
        rw [hp] at q
        intro H2 s3
        have s23 := Same.trans s2 s3
        walk_at "sq"
        refine ⟨_, rfl, rfl, _, rfl, ?_⟩
        rw [if_pos (by rfl)]
        exact ⟨_, rfl, (by show 1 ≤ sizeLine; decide), fun e he => q e _ (s23.free he) (Same.trans s23 (Same.add he)) upd_same⟩
      | some t =>
        rw [hp] at q hl
        dsimp only at q hl
        intro D H2 hD s3 hD2
        have s23 := Same.trans s2 s3
        walk_at "sq"
        refine ⟨_, rfl, rfl, _, rfl, ?_⟩
        rw [if_neg (by rw [decide_eq_false (fun z => by cases z)]; exact Bool.false_ne_true)]
        walk_at "sq"
        refine ⟨_, rfl, D, _, rfl, .inl (SqL.of hD2), _, _, rfl, rfl, _, rfl, ?_⟩
        rw [nvs_length]
        by_cases h24 : 24 < t.length
        · rw [if_pos (show VafmsBase.TEXT < t.length from h24)] at q
          rw [if_pos (decide_eq_true (by omega))]
          exact ⟨_, rfl, (by show 1 ≤ sizeLine; decide), fun e he => q e _ (s23.free he) (Same.trans s23 (Same.add he)) upd_same⟩
        · rw [if_neg (show ¬ VafmsBase.TEXT < t.length from h24)] at q hl
          rw [if_neg (by rw [decide_eq_false (by omega)]; exact Bool.false_ne_true)]
          obtain ⟨z, hz⟩ := print_scan g1 hp
          rw [hz] at q hl
          dsimp only at q hl
          walk_at "sq"
          refine ⟨_, rfl, p, c.Keeper, dx, _, _, rfl, s23 _ _ hP, T.c_Keeper.cl, T.c_Keeper.na _ (by simp), kpF_row, _, rfl, ra, D, x.format, t, rfl, hrow.same s23, Nat.le_trans (depth_le_size _) (by omega), by omega, g1, hD2, by omega, ?_⟩
          rw [hz]
          intro D2 H3 hD3 s4 hD23
          have s34 := Same.trans s23 s4
          walk_at "rd"
          refine ⟨_, rfl, _, rfl, _, rfl, a, _, rfl, SqL.of (s34 _ _ ha), fun e5 he5 => ?_⟩
          rw [cut_one, tail_nat ev]
          have s5 := Same.add (H := H3) (o := .lst (nvs u)) he5
          have s35 := Same.trans s34 s5
          refine ⟨_, _, dp_nats (s5 _ _ hD23), dp_nats upd_same, shaped_ints _, shaped_ints _, _, rfl, ?_⟩
          rw [eq_ints]
          by_cases hc : z = u
          · rw [if_pos hc] at q
            rw [if_pos (decide_eq_true (by rw [hc]))]
            exact ⟨(by show 1 ≤ sizeLine; decide), fun e he => q e _ (s35.free he) (Same.trans s35 (Same.add he)) upd_same⟩
          · rw [if_neg hc] at q hl
            rw [if_neg (by rw [decide_eq_false (fun e => hc (nvs_inj.mp e))]; exact Bool.false_ne_true)]
            refine ⟨(by show 1 ≤ sizeLine; decide), fun e6 he6 => ?_⟩
            have s6 := Same.add (o := .lst [V.int 0]) he6
            have hzl : z.length ≤ 10000000 := by
              unfold VafmsBase.listed at hl
              rw [List.length_cons, List.length_cons, ints_len] at hl
              omega
            refine ⟨_, rfl, counted_nat (s6 _ _ (s5 _ _ hD23)) (by omega) fun b H7 hb s7 hb1 => ?_⟩
            have s37 := Same.trans (Same.trans s35 s6) s7
            refine ⟨e6, b, _, _, rfl, rfl, s7 _ _ upd_same, hb1, szm (by
              rw [ivs_length]
              unfold VafmsBase.listed
              rw [List.length_cons, List.length_cons, ints_len]
              show 0 + 1 + (z.length + 1) ≤ _
              omega), fun e8 he8 => q e8 _ (s37.free he8) (Same.trans s37 (Same.add he8)) upd_same⟩
end
end FX
end
section
set_option Elab.async false
set_option linter.all false
set_option maxRecDepth 100000
set_option maxHeartbeats 4000000
namespace FX
open PySem PySem.Spec PyProof.Rows L2 FT
open VafmsBase (Fmt readNat)
local macro_rules | `(tactic| walk_at "rd") => `(tactic| try dsimp only [tM1, tMethA, ipI, tAug, tOp, tC, tCB, tCons, tNil, gName, tVar, tAsg, tRet, tIfS, tTest, tB, tNext, tDrop, tFld, tCKw, tCall, tMeth, rI0, rI, CMul, rEq, rNe, rEqD, rNeD, tBM, rAppend, rExtend, rCat, rIn, rIxT, rIxL, tSl, rSlL, tPart, tNoPart, tChain, tUn, rU, tIf, tNot, tOr, tAnd, tOrV, tAndV, tMake, sFld, sFldAug, tLst, tTup, tFault, tCallS, tXf, WE, pad, List.set, List.getElem?_cons_zero, List.getElem?_cons_succ, cxOf, List.map_cons, List.map_nil, List.append_nil, List.cons_append, List.nil_append])
local macro_rules | `(tactic| walk_at "sq") => `(tactic| (refine seq_go ?_; walk_at "rd"))
local macro_rules | `(tactic| walk_at "r0") => `(tactic| (rw [start_pad (by rfl)]; walk_at "rd"))
section
variable {P : Program} {w : World} {K : PySem.W.Frag} {mg : Str → Option Value} {base : Heap} {c : Cs}
/-- f(e, ..) within a try -/
theorem pcallS {X : Cx} {CX : CXT} {k : Nat} {x : Str} {sp : Sp} {E : L2.St → XK} {p pos : Pos} {e : Expr} {es : List Expr} {t : TA} (D : DefOk X.prog X.w X.K X.mg X.base CX k x sp) (hr : Room k X.A) (hx : ∀ σ, PassesAt CX X σ (E σ)) (ha : PA X (e :: es) t)
    (hg : Gl X x := by rfl) (hdb : (x == ("__debug__" : Str)) = false := by decide) (he : starEach (e :: es) X.env = (false, eval e X.env) :: starEach es X.env := by rfl) (hpl : (backTo pos (starEach es X.env)).any (·.1) = false := by rfl) :
    PE X (.Call (.Name x p) (e :: es) [] pos) (tCallS sp E t) := by
  obtain ⟨f, fd, ps, I, F⟩ := D.ex
  exact pe_callS F hr hg I.gl I.kp I.bd hx ha hdb he hpl
/-! ### the mathematics -/
theorem tokens_ok (f p : Nat) (s : List Nat) : ∀ (l : Vafmsa.Toks), p ≤ s.length → s.length - p < f → Vafmsa.tokensFrom f p (s.drop p) = .ok l → ∀ t ∈ l, TokOk t.tok := by
  induction f generalizing p with
  | zero => intro l hp hf; omega
  | succ f ih =>
    intro l hp hf h
    by_cases hlt : p < s.length
    · obtain ⟨b, hb⟩ : ∃ b, s[p]? = some b := ⟨_, List.getElem?_eq_getElem hlt⟩
      cases hbl : Vafmsa.isBlank b with
      | true =>
        rw [str_at hb, Vafmsa.tokensFrom.eq_def] at h
        dsimp only at h
        rw [hbl, if_pos rfl] at h
        exact ih (p + 1) l hlt (by omega) h
      | false =>
        obtain ⟨g, e⟩ := tok_step f hb hbl
        rw [e] at h
        cases ht : tokOf s p with
        | none => rw [ht] at h; cases h
        | some x =>
          obtain ⟨t, q⟩ := x
          rw [ht] at h
          obtain ⟨l', h1, rfl⟩ := map_ok h
          obtain ⟨g1, g2, g3⟩ := g t q ht
          intro y hy
          rcases List.mem_cons.mp hy with rfl | hy
          · exact g3
          · exact ih q l' g2 (by omega) h1 y hy
    · rw [List.drop_eq_nil_of_le (by omega)] at h
      injection h with h
      rw [← h]
      intro y hy
      rcases List.mem_cons.mp hy with rfl | hy
      · exact ⟨fun z => by (cases z), fun n z => by (cases z), fun x _ z => by (cases z), fun x z => by (cases z)⟩
      · cases hy
theorem read_good {t : List Nat} {x : Vafmsa.Source} (h : Vafmsa.read t = .ok x) : SrcOk x := by
  obtain ⟨l, h1, h2⟩ := bind_ok h
  obtain ⟨q, h3, h4⟩ := bind_ok h2
  obtain ⟨q2, h5, h6⟩ := bind_ok h4
  obtain ⟨⟨g, n, r⟩, h7, h8⟩ := bind_ok h6
  have hT := tokens_ok (t.length + 1) 0 t l (Nat.zero_le _) (by omega) h1
  have hq : ∀ y ∈ q, y ∈ l := by
    unfold Vafmsa.takeWord at h3
    split at h3
    · injection h3 with h3
      rw [← h3]
      exact fun y hy => List.mem_of_mem_drop hy
    · cases h3
  have a5 := takeSign_adv h5
  obtain ⟨a7, e1, e2, e3, _⟩ := tp_good _ _ _ _ _ _ _ h7 (Nat.zero_le _) fun y hy => hT y (hq y (a5.2.1 y hy))
  dsimp only at h8
  split at h8
  · cases h8
  · obtain ⟨vs, h9, rfl⟩ := map_ok h8
    obtain ⟨v1, v2⟩ := values_good _ _ _ _ h9 (fun y hy => hT y (hq y (a5.2.1 y (a7.2.1 y hy)))) (Nat.zero_le _) fun v hv => by cases hv
    exact ⟨e3, by show g.size ≤ 14; omega, v1, v2⟩
theorem fmt_ok {x : List Int} {g : Fmt} (h : VafmsBase.whole VafmsBase.readFmt x = some g) : VafmsBase.okPieces g = true ∧ g.size ≤ 14 := by
  have e : VafmsBase.readFmt x = (readNat 0 14 x).bind fun k => (VafmsBase.readPieces (x.length + 1) k.1 k.2).bind fun u => if VafmsBase.okFmt u.1 then some u else none := rfl
  unfold VafmsBase.whole at h
  rw [e] at h
  cases h1 : (readNat 0 14 x).bind fun k => (VafmsBase.readPieces (x.length + 1) k.1 k.2).bind fun u => if VafmsBase.okFmt u.1 then some u else none with
  | none => rw [h1] at h; cases h
  | some u =>
    obtain ⟨u, r⟩ := u
    rw [h1] at h
    have hu : u = g := by
      cases r with
      | nil => exact Option.some.inj h
      | cons a r => cases h
    subst hu
    obtain ⟨k, _, h2⟩ := ob h1
    obtain ⟨y, _, h3⟩ := ob h2
    split at h3
    · rename_i ho
      have ey := Option.some.inj h3
      rw [ey] at ho
      unfold VafmsBase.okFmt at ho
      rw [Bool.and_eq_true, Bool.and_eq_true, decide_eq_true_iff, decide_eq_true_iff] at ho
      exact ⟨ho.1, ho.2.1⟩
    · cases h3
/-! ### a row stands apart from the keeper -/
section
variable {H : Hp} {p C dx : Addr} {fs : List (Str × V)}
theorem apart_lst {a : Addr} {xs : List V} (hp : H p = some (.ins C dx fs)) (h : H a = some (.lst xs)) : hideA p H a = some (.lst xs) := by
  rw [hideA_ne]
  · exact h
  · intro e
    rw [e, hp] at h
    cases h
theorem apart_pc {v : V} {k : Nat} {t : List Nat} {lo hi : Nat} {rs : List Addr} (hp : H p = some (.ins C dx fs)) (hf : fs.length = 2) (h : PcAt c H v k t lo hi rs) : PcAt c (hideA p H) v k t lo hi rs := by
  obtain ⟨q, d, ta, ra, e, h1, h2, h3⟩ := h
  refine ⟨q, d, ta, ra, e, ?_, apart_lst hp h2, apart_lst hp h3⟩
  rw [hideA_ne]
  · exact h1
  · intro z
    rw [z, hp] at h1
    have := congrArg (fun o : Option HO => match o with | some (.ins _ _ fs) => fs.length | _ => 0) h1
    have h2 : fs.length = 5 := this
    omega
theorem apart_pcs (hp : H p = some (.ins C dx fs)) (hf : fs.length = 2) : ∀ {f : Fmt} {vs : List V}, Pcs c H f vs → Pcs c (hideA p H) f vs
  | .done, _, h => h
  | .lit _ _, _, ⟨v, us, e, h1, h2⟩ => ⟨v, us, e, apart_pc hp hf h1, apart_pcs hp hf h2⟩
  | .num _ _ _, _, ⟨v, us, e, h1, h2⟩ => ⟨v, us, e, apart_pc hp hf h1, apart_pcs hp hf h2⟩
  | .word _ _ _, _, ⟨v, us, e, h1, h2⟩ => ⟨v, us, e, apart_pc hp hf h1, apart_pcs hp hf h2⟩
  | .alt _ _ _, _, ⟨v, us, ra, rb, xa, xb, e, h1, ha, h2, hb, h3, h4⟩ => ⟨v, us, ra, rb, xa, xb, e, apart_pc hp hf h1, apart_lst hp ha, apart_pcs hp hf h2, apart_lst hp hb, apart_pcs hp hf h3, apart_pcs hp hf h4⟩
  | .opt _ _, _, ⟨v, us, ra, xa, e, h1, ha, h2, h4⟩ => ⟨v, us, ra, xa, e, apart_pc hp hf h1, apart_lst hp ha, apart_pcs hp hf h2, apart_pcs hp hf h4⟩
  | .rep _ _ _ _ _, _, ⟨v, us, ra, xa, e, h1, ha, h2, h4⟩ => ⟨v, us, ra, xa, e, apart_pc hp hf h1, apart_lst hp ha, apart_pcs hp hf h2, apart_pcs hp hf h4⟩
theorem apart_row (hp : H p = some (.ins C dx fs)) (hf : fs.length = 2) {a : Addr} {f : Fmt} (h : RowAt c H a f) : RowAt c (hideA p H) a f := by
  obtain ⟨vs, h1, h2⟩ := h
  exact ⟨vs, apart_lst hp h1, apart_pcs hp hf h2⟩
theorem apart_txts (hp : H p = some (.ins C dx fs)) {us : List V} {ts : List (List Nat)} (h : TxtsAt H us ts) : TxtsAt (hideA p H) us ts := Paired.mapR h fun v t x => by
  obtain ⟨a, e, h1⟩ := x
  exact ⟨a, e, apart_lst hp h1⟩
end
theorem kpF_put_row {rv x : V} {la : Addr} : putF "row" x (kpF rv la) = kpF x la := if_pos rfl
theorem kpF_put_listed {rv : V} {la lb : Addr} : putF "listed" (.ref lb) (kpF rv la) = kpF rv lb := (if_neg (by decide +kernel)).trans (congrArg _ (if_pos rfl))
theorem Beside.z {p : Addr} {Z : List Addr} {H H' : Hp} (b : Beside p H H') : Beside p (hideZ Z H) (hideZ Z H') := fun x o e => by
  by_cases hx : x = p
  · have : hideA p (hideZ Z H) x = none := if_pos hx
    rw [this] at e
    cases e
  · rw [hideA_ne hx] at e ⊢
    by_cases hz : x ∈ Z
    · have : hideZ Z H x = none := if_pos hz
      rw [this] at e
      cases e
    · rw [hideZ_ne hz] at e ⊢
      have := b x o (by rw [hideA_ne hx]; exact e)
      rwa [hideA_ne hx] at this
def GivesK (c : Cs) (Z : List Addr) (H : Hp) (p : Addr) (r : Vafmsa.State × List Int) (Q : VK) : Prop := ∀ D H', H D = none → Beside p H H' → KpAt c (hideZ Z H') p r.1 → H' D = some (.lst (ivs r.2)) → Q (.ref D) H'
theorem srcF_row {a b : V} : List.lookup ("row" : Str) [("row", a), ("listed", b)] = some a := lk_here
theorem srcF_listed {a b : V} : List.lookup ("listed" : Str) [("row", a), ("listed", b)] = some b := (lk_past (by decide +kernel)).trans lk_here
theorem xdF_place {a b : V} : List.lookup ("place" : Str) [("place", a), ("kind", b)] = some a := lk_here
theorem xdF_kind {a b : V} : List.lookup ("kind" : Str) [("place", a), ("kind", b)] = some b := (lk_past (by decide +kernel)).trans lk_here
end
end FX
end
section
set_option Elab.async false
set_option linter.all false
set_option maxRecDepth 100000
set_option maxHeartbeats 4000000
namespace FX
open PySem PySem.Spec PyProof.Rows L2 FT
open VafmsBase (Fmt readNat)
local macro_rules | `(tactic| walk_at "rd") => `(tactic| try dsimp only [tM1, tMethA, ipI, tAug, tOp, tC, tCB, tCons, tNil, gName, tVar, tAsg, tRet, tIfS, tTest, tB, tNext, tDrop, tFld, tCKw, tCall, tMeth, rI0, rI, CMul, rEq, rNe, rEqD, rNeD, tBM, rAppend, rExtend, rCat, rIn, rIxT, rIxL, tSl, rSlL, tPart, tNoPart, tChain, tUn, rU, tIf, tNot, tOr, tAnd, tOrV, tAndV, tMake, sFld, sFldAug, tLst, tTup, tFault, tCallS, tXf, WE, pad, List.set, List.getElem?_cons_zero, List.getElem?_cons_succ, cxOf, List.map_cons, List.map_nil, List.append_nil, List.cons_append, List.nil_append])
local macro_rules | `(tactic| walk_at "sq") => `(tactic| (refine seq_go ?_; walk_at "rd"))
local macro_rules | `(tactic| walk_at "r0") => `(tactic| (rw [start_pad (by rfl)]; walk_at "rd"))
section
variable {P : Program} {w : World} {K : PySem.W.Frag} {mg : Str → Option Value} {base : Heap} {c : Cs}
def spLoad (c : Cs) : Sp := fun vs H Q _ => ∃ (p : Addr) (s : Vafmsa.State) (a : Addr) (t : List Nat) (Z : List Addr), vs = [.ref p, .ref a] ∧ KpAt c (hideZ Z H) p s ∧ Lsts H Z ∧ H a = some (.lst (nvs t)) ∧ t.length ≤ 10000 ∧ GivesK c Z H p (Vafmsa.step s (.load t)) Q
theorem sc_Keeper_load : FnScope ["self", "source", "read", "fault"] ["self", "source"] (defScope (inClass (topS 126) 1)) := ⟨rfl, rfl, rfl, by decide +kernel, rfl, by decide +kernel, by decide +kernel⟩
theorem d_Keeper_load (T : Top K mg c) : MethOk P w K mg base CX0 52 c.Keeper "load" (spLoad c) := T.m_Keeper_load.ok T.c_Keeper.cl fun f fd F => by
  refine F.ok sc_Keeper_load (fun vs H Q E h => ?_) (fun cdv A outer s H vs Q E hr h => ⟨_, (pss_cons (ps_if (pt_cmpR op_gt (pe_callB call_len_seq (by rfl) T.b_len (by decide +kernel) (pa_cons (pv 1) pa_nil)) (pe_num T.n_MOST_SOURCE_BYTES) (nomark _))
 (pss_one (ps_ret (pe_lst (pa_cons (pe_un un_neg pe_int) pa_nil))))
 pss_nil)
 (pss_cons (ps_try_as (i := 3) (tb := fun W => tAsg (tCallS (spReadSource c) (WE W) (tCons (tVar 1) tNil)) (gName 2)) (ts := fun a cls d => tRet (tLst (tCons (tC (.int 1)) (tCons (tXf a cls d c.Fault "kind" (tVar 3)) (tCons (tXf a cls d c.Fault "place" (tVar 3)) tNil))))) (Wout := fun _ _ _ _ => False) rfl rfl sc_Keeper_load.nd rfl rfl ⟨rfl, by decide, .inl T.c_Fault.gl⟩ takes0
   (fun W pn xe tk _ => pss_one (ps_set (i := 2) sc_Keeper_load.nd rfl (.inl rfl) (by exact pcallS (d_read_source T) (hr.mono (by omega)) (fun σ => passAt tk σ) (pa_cons (pv 1) pa_nil))))
   (fun a oe cls d pn hz hf => pss_one (ps_ret (pe_lst (pa_cons pe_int (pa_cons (by exact pe_xf T.c_Fault.xf (T.c_Fault.na _ (by simp)) hz hf (pv 3)) (pa_cons (by exact pe_xf T.c_Fault.xf (T.c_Fault.na _ (by simp)) hz hf (pv 3)) pa_nil)))))))
 (pss_cons (ps_fld (pv 0) (pe_fld (pv 2) rfl) rfl)
 (pss_cons (ps_fld (pv 0) (pe_fld (pv 2) rfl) rfl)
 (pss_one (ps_ret (pe_lst (pa_cons pe_int (pa_cons (pcall (d_piece_count T 15) (hr.mono (by omega)) pass0 (pa_cons (pe_fld (pv 0) rfl) pa_nil)) (pa_cons (pcall (d_gone_through T 15) (hr.mono (by omega)) pass0 (pa_cons (pe_fld (pv 0) rfl) pa_nil)) (pa_cons (pe_callB call_len_seq (by rfl) T.b_len (by decide +kernel) (pa_cons (pe_fld (pv 0) rfl) pa_nil)) pa_nil))))))))))), ?_⟩)
  · obtain ⟨p, x, a, v, _, rfl, _⟩ := h
    rfl
  · obtain ⟨p, st, a, t, Z, rfl, hK, hZ, ha, ht, q⟩ := h
    have es : Vafmsa.step st (.load t) = if Vafmsa.SOURCE < t.length then (st, [-1]) else (match Vafmsa.read t with
      | .error f => (st, [1, VafmsBase.int f.kind, VafmsBase.int f.place])
      | .ok x => (⟨some x⟩, [0, VafmsBase.int x.format.size, VafmsBase.int x.format.holes, VafmsBase.int x.values.length])) := rfl
    rw [es] at q
    clear es
    walk_at "r0"
    walk_at "sq"
    refine ⟨_, rfl, a, _, rfl, .inl (SqL.of ha), _, _, rfl, rfl, _, rfl, ?_⟩
    rw [nvs_length]
    by_cases hs : 1200 < t.length
    · rw [if_pos (show Vafmsa.SOURCE < t.length from hs)] at q
      rw [if_pos (decide_eq_true (by omega))]
      exact ⟨_, rfl, (by show 1 ≤ sizeLine; decide), fun e he => q e _ he (Beside.of (Same.add he)) (hK.same (hideZ_of (Same.add he))) upd_same⟩
    rw [if_neg (show ¬ Vafmsa.SOURCE < t.length from hs)] at q
    rw [if_neg (by rw [decide_eq_false (by omega)]; exact Bool.false_ne_true)]
    walk_at "sq"
    refine ⟨_, rfl, a, t, Z, rfl, ha, ht, hZ, ?_⟩
    cases hrd : Vafmsa.read t with
    | error e =>
      rw [hrd] at q
      dsimp only at q
      intro d H1 hd s1 hd1
      refine ⟨true, T.c_Fault.te, fun _ a0 ha0 => ?_, fun z => Bool.noConfusion z⟩
      walk_at "rd"
      refine ⟨_, rfl, rfl, rfl, d, _, _, rfl, hd1, xdF_kind, _, rfl, rfl, rfl, d, _, _, rfl, hd1, xdF_place, (by show 3 ≤ sizeLine; decide), fun b hb => ?_⟩
      have s2 := Same.trans s1 (Same.add (o := .lst [V.int 1, V.int (Int.ofNat e.kind), V.int (Int.ofNat e.place)]) hb)
      exact q b _ (s1.free hb) (Beside.of s2) (hK.same (hideZ_of s2)) upd_same
    | ok x =>
      rw [hrd] at q
      dsimp only at q
      have hok := read_good hrd
      obtain ⟨g1, g2, g3, g4⟩ := id hok
      intro v H1 s1 hv ⟨qn, eqn, hqn⟩
      obtain ⟨qs, dq, ra, la', us', rfl, hqs, hrow, hla', hus'⟩ := hv
      replace hqs := hideZ_same _ _ hqs
      obtain ⟨dx, la, us, rv, hP', _⟩ := hK.same (hideZ_of s1)
      have hP := hideZ_same _ _ hP'
      have hpZ : p ∉ Z := (hZ.same s1).ins hP
      have hrowA := apart_row hP' rfl hrow
      have hlaA := apart_lst hP' hla'
      have husA := apart_txts hP' hus'
      obtain rfl : qs = qn := by injection eqn
      have hPS : qs ≠ p := fun z => by
        obtain ⟨dx0, la0, us0, rv0, hP0, _⟩ := hK
        rw [z, hideZ_same _ _ hP0] at hqn
        cases hqn
      have b1 : Beside p H H1 := Beside.of s1
      walk_at "sq"
      refine ⟨_, rfl, qs, c.Source, dq, _, _, rfl, hqs, T.c_Source.cl, T.c_Source.na _ (by simp), srcF_row, _, rfl, p, c.Keeper, dx, _, rfl, hP, T.c_Keeper.cl, T.c_Keeper.na _ (by simp), (by show 2 < 1000; decide), ?_⟩
      rw [kpF_put_row]
      walk_at "sq"
      refine ⟨_, rfl, qs, c.Source, dq, _, _, rfl, (by rw [upd_ne hPS]; exact hqs), T.c_Source.cl, T.c_Source.na _ (by simp), srcF_listed, _, rfl, p, c.Keeper, dx, _, rfl, upd_same, T.c_Keeper.cl, T.c_Keeper.na _ (by simp), (by show 2 < 1000; decide), ?_⟩
      rw [kpF_put_listed, upd_upd]
      have b2 : Beside p H1 (upd H1 p (.ins c.Keeper dx (kpF (.ref ra) la'))) := Beside.upd
      have hP2 : upd H1 p (.ins c.Keeper dx (kpF (.ref ra) la')) p = some (.ins c.Keeper dx (kpF (.ref ra) la')) := upd_same
      generalize upd H1 p (.ins c.Keeper dx (kpF (.ref ra) la')) = H2 at *
      have hrow2 : RowAt c (hideA p (hideZ Z H2)) ra x.format := hrowA.same b2.z
      have hla2 := b2.z _ _ hlaA
      have hus2 : TxtsAt (hideA p (hideZ Z H2)) us' x.values := husA.same b2.z
      have hK2 : KpAt c (hideZ Z H2) p ⟨some x⟩ := ⟨dx, la', us', .ref ra, by rw [hideZ_ne hpZ]; exact hP2, hla2, hok, ra, rfl, hrow2, hus2⟩
      have hul := hus2.length
      walk_at "rd"
      refine ⟨_, rfl, p, c.Keeper, dx, _, _, rfl, hP2, T.c_Keeper.cl, T.c_Keeper.na _ (by simp), kpF_row, ra, x.format, rfl, (hrow2.same hideA_same).same hideZ_same, depth_ok g2, by omega, fun H3 s3 => ?_⟩
      refine ⟨_, rfl, p, c.Keeper, dx, _, _, rfl, s3 _ _ hP2, T.c_Keeper.cl, T.c_Keeper.na _ (by simp), kpF_row, ra, x.format, rfl, ((hrow2.same hideA_same).same hideZ_same).same s3, depth_ok g2, by omega, g1, fun H4 s4 => ?_⟩
      have s34 := Same.trans s3 s4
      refine ⟨_, rfl, p, c.Keeper, dx, _, _, rfl, s34 _ _ hP2, T.c_Keeper.cl, T.c_Keeper.na _ (by simp), kpF_listed, la', _, rfl, .inl (SqL.of (s34 _ _ (hideZ_same _ _ (hideA_same _ _ hla2)))), (by show 4 ≤ sizeLine; decide), fun b hb => ?_⟩
      have s5 := Same.trans s34 (Same.add (o := .lst [V.int 0, V.int (x.format.size : Int), V.int (x.format.holes : Int), V.int (us'.length : Int)]) hb)
      refine q b _ ?_ ((b1.trans b2).trans (Beside.of s5)) (hK2.same (hideZ_of s5)) ?_
      · exact (b1.trans b2).free (s34.free hb) (by rw [hP2]; exact fun z => by cases z)
      · rw [upd_same, hul]
        rfl
/-! ### put -/
def spPut (c : Cs) : Sp := fun vs H Q _ => ∃ (p : Addr) (x : Vafmsa.Source) (a : Addr) (v : List Int) (Z : List Addr), vs = [.ref p, .ref a] ∧ KpAt c (hideZ Z H) p ⟨some x⟩ ∧ Lsts H Z ∧ a ∉ Z ∧ H a = some (.lst (ivs v)) ∧ v.length ≤ 10000 ∧ GivesK c Z H p (Vafmsa.step ⟨some x⟩ (.put v)) Q
theorem sc_Keeper_put : FnScope ["self", "pieces", "row"] ["self", "pieces"] (defScope (inClass (topS 126) 10)) := ⟨rfl, rfl, rfl, by decide +kernel, rfl, by decide +kernel, by decide +kernel⟩
theorem d_Keeper_put (T : Top K mg c) : MethOk P w K mg base CX0 52 c.Keeper "put" (spPut c) := T.m_Keeper_put.ok T.c_Keeper.cl fun f fd F => by
  refine F.ok sc_Keeper_put (fun vs H Q E h => ?_) (fun cdv A outer s H vs Q E hr h => ⟨_, (pss_cons (ps_try_only (tb := fun W => tAsg (tCallS (spReadFormat c) (WE W) (tCons (tVar 1) tNil)) (gName 2)) (ts := fun a cls d => tRet (tLst (tCons (tUn (rU fun i => .int (-i)) (tC (.int 5))) tNil))) (Wout := fun _ _ _ _ => False) rfl rfl ⟨rfl, by decide, .inl T.c_NotAFormat.gl⟩ takes0
   (fun W pn xe tk _ => pss_one (ps_set (i := 2) sc_Keeper_put.nd rfl (.inl rfl) (by exact pcallS (d_read_format T) (hr.mono (by omega)) (fun σ => passAt tk σ) (pa_cons (pv 1) pa_nil))))
   (fun a oe cls d pn hz hf => pss_one (ps_ret (pe_lst (pa_cons (by exact pe_un un_neg pe_int) pa_nil)))))
 (pss_cons (ps_fld (pv 0) (pv 2) rfl)
 (pss_one (ps_ret (pe_lst (pa_cons (pcall (d_piece_count T 15) (hr.mono (by omega)) pass0 (pa_cons (pv 2) pa_nil)) (pa_cons (pcall (d_gone_through T 15) (hr.mono (by omega)) pass0 (pa_cons (pv 2) pa_nil)) pa_nil))))))), ?_⟩)
  · obtain ⟨p, x, a, v, _, rfl, _⟩ := h
    rfl
  · obtain ⟨p, x, a, v, Z, rfl, hK, hZ, haZ, ha, hv, q⟩ := h
    have es : Vafmsa.step ⟨some x⟩ (.put v) = (match VafmsBase.whole VafmsBase.readFmt v with
      | none => (⟨some x⟩, [-5])
      | some g => (⟨some { x with format := g }⟩, [VafmsBase.int g.size, VafmsBase.int g.holes])) := rfl
    rw [es] at q
    clear es
    walk_at "r0"
    walk_at "sq"
    refine ⟨_, rfl, a, v, Z, rfl, ha, hv, hZ, haZ, ?_⟩
    cases hrd : VafmsBase.whole VafmsBase.readFmt v with
    | none =>
      rw [hrd] at q
      dsimp only at q
      intro H1 s1
      refine ⟨true, T.c_NotAFormat.te, fun _ a0 ha0 => ?_, fun z => Bool.noConfusion z⟩
      walk_at "rd"
      refine ⟨_, rfl, (by show 1 ≤ sizeLine; decide), fun b hb => ?_⟩
      have s2 := Same.trans s1 (Same.add (o := .lst [V.int (-5)]) hb)
      exact q b _ (s1.free hb) (Beside.of s2) (hK.same (hideZ_of s2)) upd_same
    | some g =>
      rw [hrd] at q
      dsimp only at q
      obtain ⟨g1, g2⟩ := fmt_ok hrd
      intro ra H1 s1 hrow
      obtain ⟨dx, la, us, rv, hP', hla, ⟨_, _, k3, k4⟩, ra0, rfl, _, hus⟩ := hK.same (hideZ_of s1)
      have hP := hideZ_same _ _ hP'
      have hpZ : p ∉ Z := (hZ.same s1).ins hP
      have hrowA := apart_row hP' rfl hrow
      have b1 : Beside p H H1 := Beside.of s1
      walk_at "sq"
      refine ⟨_, rfl, _, rfl, p, c.Keeper, dx, _, rfl, hP, T.c_Keeper.cl, T.c_Keeper.na _ (by simp), (by show 2 < 1000; decide), ?_⟩
      rw [kpF_put_row]
      have b2 : Beside p H1 (upd H1 p (.ins c.Keeper dx (kpF (.ref ra) la))) := Beside.upd
      have hP2 : upd H1 p (.ins c.Keeper dx (kpF (.ref ra) la)) p = some (.ins c.Keeper dx (kpF (.ref ra) la)) := upd_same
      generalize upd H1 p (.ins c.Keeper dx (kpF (.ref ra) la)) = H2 at *
      have hrow2 : RowAt c (hideA p (hideZ Z H2)) ra g := hrowA.same b2.z
      have hK2 : KpAt c (hideZ Z H2) p ⟨some { x with format := g }⟩ := ⟨dx, la, us, .ref ra, by rw [hideZ_ne hpZ]; exact hP2, b2.z _ _ hla, ⟨g1, g2, k3, k4⟩, ra, rfl, hrow2, hus.same b2.z⟩
      walk_at "rd"
      refine ⟨_, rfl, ra, g, rfl, (hrow2.same hideA_same).same hideZ_same, depth_ok g2, by omega, fun H3 s3 => ?_⟩
      refine ⟨_, rfl, ra, g, rfl, ((hrow2.same hideA_same).same hideZ_same).same s3, depth_ok g2, by omega, g1, fun H4 s4 => ?_⟩
      have s34 := Same.trans s3 s4
      refine ⟨(by show 2 ≤ sizeLine; decide), fun b hb => ?_⟩
      have s5 := Same.trans s34 (Same.add (o := .lst [V.int (g.size : Int), V.int (g.holes : Int)]) hb)
      exact q b _ ((b1.trans b2).free (s34.free hb) (by rw [hP2]; exact fun z => by cases z)) ((b1.trans b2).trans (Beside.of s5)) (hK2.same (hideZ_of s5)) (by rw [upd_same]; rfl)
/-! ### Keeper() -/
def spKpInit (c : Cs) : Sp := fun vs H Q _ => ∃ (p dx : Addr), vs = [.ref p] ∧ H p = some (.ins c.Keeper dx []) ∧ ∀ H', Beside p H H' → KpAt c H' p ⟨none⟩ → Q .non H'
theorem sc_Keeper_init : FnScope ["self"] ["self"] (defScope (inClass (topS 126) 0)) := ⟨rfl, rfl, rfl, by decide +kernel, rfl, by decide +kernel, by decide +kernel⟩
theorem m_Keeper (T : Top K mg c) : MakeOk P w K mg base CX0 1 "Keeper" c.Keeper (spKpInit c) := T.i_Keeper.ok T.c_Keeper fun f fd F => by
  refine F.ok sc_Keeper_init (fun vs H Q E h => ?_) (fun cdv A outer s H vs Q E hr h => ⟨_, (pss_cons (ps_fld (pv 0) pe_non rfl)
 (pss_one (ps_fld (pv 0) (pe_lst pa_nil) rfl))), ?_⟩)
  · obtain ⟨p, dx, rfl, _⟩ := h
    rfl
  · obtain ⟨p, dx, rfl, hp, q⟩ := h
    walk_at "r0"
    walk_at "sq"
    refine ⟨_, rfl, p, _, dx, _, rfl, hp, T.c_Keeper.cl, T.c_Keeper.na _ (by simp), (by show 0 < 1000; decide), ?_⟩
    walk_at "rd"
    refine ⟨Nat.zero_le _, fun l hl => ?_⟩
    have hlp : l ≠ p := fun z => by rw [z, upd_same] at hl; cases hl
    refine ⟨_, rfl, p, _, dx, _, rfl, (by rw [upd_ne (Ne.symm hlp), upd_same]), T.c_Keeper.cl, T.c_Keeper.na _ (by simp), (by show 1 < 1000; decide), ?_⟩
    have hl0 : H l = none := by rw [upd_ne hlp] at hl; exact hl
    have b1 : Beside p H (upd H p (.ins c.Keeper dx (putF "row" .non []))) := Beside.upd
    have b2 := b1.new (o := .lst []) hl0
    have b3 := b2.trans (Beside.upd (o := .ins c.Keeper dx (putF "listed" (.ref l) (putF "row" .non []))))
    refine q _ b3 ⟨dx, l, [], .non, ?_, ?_, rfl⟩
    · rw [upd_same]
      have e : putF "listed" (.ref l) (putF "row" .non []) = kpF .non l := (if_neg (by decide +kernel)).trans rfl
      rw [e]
    · rw [hideA_ne hlp, upd_ne hlp]
      exact upd_same
end
end FX
end
section
set_option Elab.async false
set_option linter.all false
set_option maxRecDepth 100000
set_option maxHeartbeats 4000000
namespace FX
open PySem PySem.Spec PyProof.Rows L2 FT
open VafmsBase (Fmt readNat)
local macro_rules | `(tactic| walk_at "rd") => `(tactic| try dsimp only [tM1, tMethA, ipI, tAug, tOp, tC, tCB, tCons, tNil, gName, tVar, tAsg, tRet, tIfS, tTest, tB, tNext, tDrop, tFld, tCKw, tCall, tMeth, rI0, rI, CMul, rEq, rNe, rEqD, rNeD, tBM, rAppend, rExtend, rCat, rIn, rIxT, rIxL, tSl, rSlL, tPart, tNoPart, tChain, tUn, rU, tIf, tNot, tOr, tAnd, tOrV, tAndV, tMake, sFld, sFldAug, tLst, tTup, tFault, tCallS, tXf, WE, pad, List.set, List.getElem?_cons_zero, List.getElem?_cons_succ, cxOf, List.map_cons, List.map_nil, List.append_nil, List.cons_append, List.nil_append])
local macro_rules | `(tactic| walk_at "sq") => `(tactic| (refine seq_go ?_; walk_at "rd"))
local macro_rules | `(tactic| walk_at "r0") => `(tactic| (rw [start_pad (by rfl)]; walk_at "rd"))
local macro_rules | `(tactic| walk_at "nx") => `(tactic| (walk_at "sq"; refine ⟨_, rfl, rfl, _, rfl, ?_⟩; rw [if_neg (by decide)]))
local macro_rules | `(tactic| walk_at "hit") => `(tactic| (walk_at "sq"; refine ⟨_, rfl, rfl, _, rfl, ?_⟩; rw [if_pos (by decide)]))
section
variable {P : Program} {w : World} {K : PySem.W.Frag} {mg : Str → Option Value} {base : Heap} {c : Cs}
inductive CallRec : Int → List Int → Vafmsa.Call → Prop
  | load (t : List Nat) : t.length ≤ 1300 → CallRec 0 (VafmsBase.ints t) (.load t)
  | shown (x : List Int) : CallRec 1 x .shown
  | format (x : List Int) : CallRec 2 x .format
  | print (v : List Int) : v.length ≤ 70 → CallRec 3 v (.print v)
  | scan (t : List Nat) : t.length ≤ 30 → CallRec 4 (VafmsBase.ints t) (.scan t)
  | ways (t : List Nat) : t.length ≤ 30 → CallRec 5 (VafmsBase.ints t) (.ways t)
  | told (i : Int) : CallRec 6 [i] (.told i)
  | lengths (x : List Int) : CallRec 7 x .lengths
  | round (v : List Int) : v.length ≤ 70 → CallRec 8 v (.round v)
  | put (v : List Int) : v.length ≤ 200 → CallRec 9 v (.put v)
def spAnswer (c : Cs) : Sp := fun vs H Q _ => ∃ (p : Addr) (s : Vafmsa.State) (k : Int) (a : Addr) (x : List Int) (cl : Vafmsa.Call) (Z : List Addr), vs = [.ref p, .int k, .ref a] ∧ KpAt c (hideZ Z H) p s ∧ Lsts H Z ∧ a ∉ Z ∧ H a = some (.lst (ivs x)) ∧ CallRec k x cl ∧ (Vafmsa.step s cl).2.length ≤ 10000000 ∧ GivesK c Z H p (Vafmsa.step s cl) Q
theorem GivesK.look {Z : List Addr} {H : Hp} {p : Addr} {s : Vafmsa.State} {l : List Int} {Q : VK} (q : GivesK c Z H p (s, l) Q) (hK : KpAt c (hideZ Z H) p s) : NewL H (ivs l) Q := fun D H' hD sm h => q D H' hD (Beside.of sm) (hK.same (hideZ_of sm)) h
theorem sc_answer : FnScope ["keeper", "call", "numbers"] ["keeper", "call", "numbers"] (defScope (topS 131)) := ⟨rfl, rfl, rfl, by decide +kernel, rfl, by decide +kernel, by decide +kernel⟩
theorem kp_none {dx la : Addr} {rv : V} {m : Str} (h1 : (m == ("row" : Str)) = false) (h2 : (m == ("listed" : Str)) = false) : (kpF rv la).lookup m = none := (lk_past h1).trans ((lk_past h2).trans rfl)
theorem d_answer (T : Top K mg c) : DefOk P w K mg base CX0 90 "answer" (spAnswer c) := T.a_answer.ok fun f fd F => by
  refine F.ok sc_answer (fun vs H Q E h => ?_) (fun cdv A outer s H vs Q E hr h => ⟨_, (pss_cons (ps_if (pt_cmpR op_eq (pv 1) (pe_num T.n_LOAD) (nomark _))
 (pss_one (ps_ret (pmeth (d_Keeper_load T) (hr.mono (by omega)) pass0 (pv 0) (pa_cons (pv 2) pa_nil))))
 pss_nil)
 (pss_cons (ps_if (pt_cmpR op_isN (pe_fld (pv 0) rfl) pe_non (nomark _))
 (pss_one (ps_ret (pe_lst (pa_cons (pe_un un_neg pe_int) pa_nil))))
 pss_nil)
 (pss_cons (ps_if (pt_cmpR op_eq (pv 1) (pe_num T.n_SHOWN) (nomark _))
 (pss_one (ps_ret (pmeth0 (d_Keeper_shown T) (hr.mono (by omega)) pass0 (pv 0))))
 pss_nil)
 (pss_cons (ps_if (pt_cmpR op_eq (pv 1) (pe_num T.n_FORMAT) (nomark _))
 (pss_one (ps_ret (pmeth0 (d_Keeper_as_numbers T) (hr.mono (by omega)) pass0 (pv 0))))
 pss_nil)
 (pss_cons (ps_if (pt_cmpR op_eq (pv 1) (pe_num T.n_PRINT) (nomark _))
 (pss_one (ps_ret (pmeth (d_Keeper_printed T) (hr.mono (by omega)) pass0 (pv 0) (pa_cons (pv 2) pa_nil))))
 pss_nil)
 (pss_cons (ps_if (pt_cmpR op_eq (pv 1) (pe_num T.n_SCAN) (nomark _))
 (pss_one (ps_ret (pmeth (d_Keeper_scanned T) (hr.mono (by omega)) pass0 (pv 0) (pa_cons (pv 2) pa_nil))))
 pss_nil)
 (pss_cons (ps_if (pt_cmpR op_eq (pv 1) (pe_num T.n_WAYS) (nomark _))
 (pss_one (ps_ret (pmeth (d_Keeper_ways T) (hr.mono (by omega)) pass0 (pv 0) (pa_cons (pv 2) pa_nil))))
 pss_nil)
 (pss_cons (ps_if (pt_cmpR op_eq (pv 1) (pe_num T.n_TOLD) (nomark _))
 (pss_one (ps_ret (pmeth (d_Keeper_listed_value T) (hr.mono (by omega)) pass0 (pv 0) (pa_cons (pe_ix ix_list (pv 2) pe_int (fun _ _ => rfl)) pa_nil))))
 pss_nil)
 (pss_cons (ps_if (pt_cmpR op_eq (pv 1) (pe_num T.n_LENGTHS) (nomark _))
 (pss_one (ps_ret (pmeth0 (d_Keeper_lengths T) (hr.mono (by omega)) pass0 (pv 0))))
 pss_nil)
 (pss_cons (ps_if (pt_cmpR op_eq (pv 1) (pe_num T.n_ROUND) (nomark _))
 (pss_one (ps_ret (pmeth (d_Keeper_come_back T) (hr.mono (by omega)) pass0 (pv 0) (pa_cons (pv 2) pa_nil))))
 pss_nil)
 (pss_one (ps_ret (pmeth (d_Keeper_put T) (hr.mono (by omega)) pass0 (pv 0) (pa_cons (pv 2) pa_nil)))))))))))))), ?_⟩)
  · obtain ⟨p, s, k, a, x, cl, _, rfl, _⟩ := h
    rfl
  · obtain ⟨p, st, k, a, xs, cl, Z, rfl, hKZ, hZ, haZ, ha, hcl, hl, q⟩ := h
    have hK : KpAt c H p st := hKZ.same hideZ_same
    obtain ⟨dx, la, us, rv, hP, hla, hsrc⟩ := id hK
    walk_at "r0"
    obtain ⟨src⟩ := st
    cases hcl with
    | load t ht =>
      walk_at "hit"
      exact ⟨_, rfl, p, dx, _, rfl, hP, kp_none (dx := dx) (by decide +kernel) (by decide +kernel), _, rfl, p, ⟨src⟩, a, t, Z, rfl, hKZ, hZ, by rw [nvs_ivs]; exact ha, by omega, q⟩
    | shown y =>
      walk_at "nx"
      cases src with
      | none =>
        obtain rfl : rv = .non := hsrc
        walk_at "sq"
        refine ⟨_, rfl, p, c.Keeper, dx, _, _, rfl, hP, T.c_Keeper.cl, T.c_Keeper.na _ (by simp), kpF_row, rfl, _, rfl, ?_⟩
        rw [if_pos (by rfl)]
        exact ⟨_, rfl, (by show 1 ≤ sizeLine; decide), fun e he => (GivesK.look q hKZ) e _ he (Same.add he) upd_same⟩
      | some x =>
        obtain ⟨_, ra, rfl, _⟩ := hsrc
        walk_at "sq"
        refine ⟨_, rfl, p, c.Keeper, dx, _, _, rfl, hP, T.c_Keeper.cl, T.c_Keeper.na _ (by simp), kpF_row, rfl, _, rfl, ?_⟩
        rw [if_neg (by rw [decide_eq_false (fun z => by cases z)]; exact Bool.false_ne_true)]
        walk_at "hit"
        exact ⟨_, rfl, p, dx, _, rfl, hP, kp_none (dx := dx) (by decide +kernel) (by decide +kernel), p, x, rfl, hK, hl, GivesK.look q hKZ⟩
    | format y =>
      walk_at "nx"
      cases src with
      | none =>
        obtain rfl : rv = .non := hsrc
        walk_at "sq"
        refine ⟨_, rfl, p, c.Keeper, dx, _, _, rfl, hP, T.c_Keeper.cl, T.c_Keeper.na _ (by simp), kpF_row, rfl, _, rfl, ?_⟩
        rw [if_pos (by rfl)]
        exact ⟨_, rfl, (by show 1 ≤ sizeLine; decide), fun e he => (GivesK.look q hKZ) e _ he (Same.add he) upd_same⟩
      | some x =>
        obtain ⟨_, ra, rfl, _⟩ := hsrc
        walk_at "sq"
        refine ⟨_, rfl, p, c.Keeper, dx, _, _, rfl, hP, T.c_Keeper.cl, T.c_Keeper.na _ (by simp), kpF_row, rfl, _, rfl, ?_⟩
        rw [if_neg (by rw [decide_eq_false (fun z => by cases z)]; exact Bool.false_ne_true)]
        walk_at "nx"
        walk_at "hit"
        exact ⟨_, rfl, p, dx, _, rfl, hP, kp_none (dx := dx) (by decide +kernel) (by decide +kernel), p, x, rfl, hK, GivesK.look q hKZ⟩
    | print v hv =>
      walk_at "nx"
      cases src with
      | none =>
        obtain rfl : rv = .non := hsrc
        walk_at "sq"
        refine ⟨_, rfl, p, c.Keeper, dx, _, _, rfl, hP, T.c_Keeper.cl, T.c_Keeper.na _ (by simp), kpF_row, rfl, _, rfl, ?_⟩
        rw [if_pos (by rfl)]
        exact ⟨_, rfl, (by show 1 ≤ sizeLine; decide), fun e he => (GivesK.look q hKZ) e _ he (Same.add he) upd_same⟩
      | some x =>
        obtain ⟨_, ra, rfl, _⟩ := hsrc
        walk_at "sq"
        refine ⟨_, rfl, p, c.Keeper, dx, _, _, rfl, hP, T.c_Keeper.cl, T.c_Keeper.na _ (by simp), kpF_row, rfl, _, rfl, ?_⟩
        rw [if_neg (by rw [decide_eq_false (fun z => by cases z)]; exact Bool.false_ne_true)]
        walk_at "nx"
        walk_at "nx"
        walk_at "hit"
        exact ⟨_, rfl, p, dx, _, rfl, hP, kp_none (dx := dx) (by decide +kernel) (by decide +kernel), _, rfl, p, x, a, xs, rfl, hK, ha, hv, hl, GivesK.look q hKZ⟩
    | scan t ht =>
      walk_at "nx"
      cases src with
      | none =>
        obtain rfl : rv = .non := hsrc
        walk_at "sq"
        refine ⟨_, rfl, p, c.Keeper, dx, _, _, rfl, hP, T.c_Keeper.cl, T.c_Keeper.na _ (by simp), kpF_row, rfl, _, rfl, ?_⟩
        rw [if_pos (by rfl)]
        exact ⟨_, rfl, (by show 1 ≤ sizeLine; decide), fun e he => (GivesK.look q hKZ) e _ he (Same.add he) upd_same⟩
      | some x =>
        obtain ⟨_, ra, rfl, _⟩ := hsrc
        walk_at "sq"
        refine ⟨_, rfl, p, c.Keeper, dx, _, _, rfl, hP, T.c_Keeper.cl, T.c_Keeper.na _ (by simp), kpF_row, rfl, _, rfl, ?_⟩
        rw [if_neg (by rw [decide_eq_false (fun z => by cases z)]; exact Bool.false_ne_true)]
        walk_at "nx"
        walk_at "nx"
        walk_at "nx"
        walk_at "hit"
        exact ⟨_, rfl, p, dx, _, rfl, hP, kp_none (dx := dx) (by decide +kernel) (by decide +kernel), _, rfl, p, x, a, t, rfl, hK, by rw [nvs_ivs]; exact ha, by omega, hl, GivesK.look q hKZ⟩
    | ways t ht =>
      walk_at "nx"
      cases src with
      | none =>
        obtain rfl : rv = .non := hsrc
        walk_at "sq"
        refine ⟨_, rfl, p, c.Keeper, dx, _, _, rfl, hP, T.c_Keeper.cl, T.c_Keeper.na _ (by simp), kpF_row, rfl, _, rfl, ?_⟩
        rw [if_pos (by rfl)]
        exact ⟨_, rfl, (by show 1 ≤ sizeLine; decide), fun e he => (GivesK.look q hKZ) e _ he (Same.add he) upd_same⟩
      | some x =>
        obtain ⟨_, ra, rfl, _⟩ := hsrc
        walk_at "sq"
        refine ⟨_, rfl, p, c.Keeper, dx, _, _, rfl, hP, T.c_Keeper.cl, T.c_Keeper.na _ (by simp), kpF_row, rfl, _, rfl, ?_⟩
        rw [if_neg (by rw [decide_eq_false (fun z => by cases z)]; exact Bool.false_ne_true)]
        walk_at "nx"
        walk_at "nx"
        walk_at "nx"
        walk_at "nx"
        walk_at "hit"
        exact ⟨_, rfl, p, dx, _, rfl, hP, kp_none (dx := dx) (by decide +kernel) (by decide +kernel), _, rfl, p, x, a, t, rfl, hK, by rw [nvs_ivs]; exact ha, by omega, GivesK.look q hKZ⟩
    | told i =>
      walk_at "nx"
      cases src with
      | none =>
        obtain rfl : rv = .non := hsrc
        walk_at "sq"
        refine ⟨_, rfl, p, c.Keeper, dx, _, _, rfl, hP, T.c_Keeper.cl, T.c_Keeper.na _ (by simp), kpF_row, rfl, _, rfl, ?_⟩
        rw [if_pos (by rfl)]
        exact ⟨_, rfl, (by show 1 ≤ sizeLine; decide), fun e he => (GivesK.look q hKZ) e _ he (Same.add he) upd_same⟩
      | some x =>
        obtain ⟨_, ra, rfl, _⟩ := hsrc
        walk_at "sq"
        refine ⟨_, rfl, p, c.Keeper, dx, _, _, rfl, hP, T.c_Keeper.cl, T.c_Keeper.na _ (by simp), kpF_row, rfl, _, rfl, ?_⟩
        rw [if_neg (by rw [decide_eq_false (fun z => by cases z)]; exact Bool.false_ne_true)]
        walk_at "nx"
        walk_at "nx"
        walk_at "nx"
        walk_at "nx"
        walk_at "nx"
        walk_at "hit"
        exact ⟨_, rfl, p, dx, _, rfl, hP, kp_none (dx := dx) (by decide +kernel) (by decide +kernel), _, rfl, a, _, 0, _, rfl, rfl, SqL.of ha, atI_nat (j := 0) rfl, p, x, i, rfl, hK, hl, GivesK.look q hKZ⟩
    | lengths y =>
      walk_at "nx"
      cases src with
      | none =>
        obtain rfl : rv = .non := hsrc
        walk_at "sq"
        refine ⟨_, rfl, p, c.Keeper, dx, _, _, rfl, hP, T.c_Keeper.cl, T.c_Keeper.na _ (by simp), kpF_row, rfl, _, rfl, ?_⟩
        rw [if_pos (by rfl)]
        exact ⟨_, rfl, (by show 1 ≤ sizeLine; decide), fun e he => (GivesK.look q hKZ) e _ he (Same.add he) upd_same⟩
      | some x =>
        obtain ⟨_, ra, rfl, _⟩ := hsrc
        walk_at "sq"
        refine ⟨_, rfl, p, c.Keeper, dx, _, _, rfl, hP, T.c_Keeper.cl, T.c_Keeper.na _ (by simp), kpF_row, rfl, _, rfl, ?_⟩
        rw [if_neg (by rw [decide_eq_false (fun z => by cases z)]; exact Bool.false_ne_true)]
        walk_at "nx"
        walk_at "nx"
        walk_at "nx"
        walk_at "nx"
        walk_at "nx"
        walk_at "nx"
        walk_at "hit"
        exact ⟨_, rfl, p, dx, _, rfl, hP, kp_none (dx := dx) (by decide +kernel) (by decide +kernel), p, x, rfl, hK, GivesK.look q hKZ⟩
    | round v hv =>
      walk_at "nx"
      cases src with
      | none =>
        obtain rfl : rv = .non := hsrc
        walk_at "sq"
        refine ⟨_, rfl, p, c.Keeper, dx, _, _, rfl, hP, T.c_Keeper.cl, T.c_Keeper.na _ (by simp), kpF_row, rfl, _, rfl, ?_⟩
        rw [if_pos (by rfl)]
        exact ⟨_, rfl, (by show 1 ≤ sizeLine; decide), fun e he => (GivesK.look q hKZ) e _ he (Same.add he) upd_same⟩
      | some x =>
        obtain ⟨_, ra, rfl, _⟩ := hsrc
        walk_at "sq"
        refine ⟨_, rfl, p, c.Keeper, dx, _, _, rfl, hP, T.c_Keeper.cl, T.c_Keeper.na _ (by simp), kpF_row, rfl, _, rfl, ?_⟩
        rw [if_neg (by rw [decide_eq_false (fun z => by cases z)]; exact Bool.false_ne_true)]
        walk_at "nx"
        walk_at "nx"
        walk_at "nx"
        walk_at "nx"
        walk_at "nx"
        walk_at "nx"
        walk_at "nx"
        walk_at "hit"
        exact ⟨_, rfl, p, dx, _, rfl, hP, kp_none (dx := dx) (by decide +kernel) (by decide +kernel), _, rfl, p, x, a, xs, rfl, hK, ha, hv, hl, GivesK.look q hKZ⟩
    | put v hv =>
      walk_at "nx"
      cases src with
      | none =>
        obtain rfl : rv = .non := hsrc
        walk_at "sq"
        refine ⟨_, rfl, p, c.Keeper, dx, _, _, rfl, hP, T.c_Keeper.cl, T.c_Keeper.na _ (by simp), kpF_row, rfl, _, rfl, ?_⟩
        rw [if_pos (by rfl)]
        exact ⟨_, rfl, (by show 1 ≤ sizeLine; decide), fun e he => (GivesK.look q hKZ) e _ he (Same.add he) upd_same⟩
      | some x =>
        obtain ⟨_, ra, rfl, _⟩ := hsrc
        walk_at "sq"
        refine ⟨_, rfl, p, c.Keeper, dx, _, _, rfl, hP, T.c_Keeper.cl, T.c_Keeper.na _ (by simp), kpF_row, rfl, _, rfl, ?_⟩
        rw [if_neg (by rw [decide_eq_false (fun z => by cases z)]; exact Bool.false_ne_true)]
        walk_at "nx"
        walk_at "nx"
        walk_at "nx"
        walk_at "nx"
        walk_at "nx"
        walk_at "nx"
        walk_at "nx"
        walk_at "nx"
        walk_at "rd"
        exact ⟨_, rfl, p, dx, _, rfl, hP, kp_none (dx := dx) (by decide +kernel) (by decide +kernel), _, rfl, p, x, a, xs, Z, rfl, hKZ, hZ, haZ, ha, by omega, q⟩
end
end FX
end
section
set_option Elab.async false
set_option linter.all false
set_option maxRecDepth 100000
namespace FX
open PySem PySem.Spec PyProof.Rows L2 FT
/-- what one call is in the flat list: its place, what stands ahead of its numbers, its numbers -/
def aheadOf (k : Int) (x : List Int) : List Int := if hasList k then [(x.length : Int)] else []
structure CallAt (c : List (List Int)) (k : Int) (x : List Int) (cl : Vafmsa.Call) : Prop where
  rd : CallRec k x cl
  put : PyFlat.put1 c = k :: (aheadOf k x ++ x)
  of : VafmsaNeutral.callOf (PyVafmsa.whole c) = some cl
  one : k = 6 → x.length = 1
  none : k ≠ 6 → hasList k = false → x = []
theorem bytes_of {t : List Int} {n : Nat} (h : VafmsaNeutral.bytesOk t n = true) : NeutralIO.bytes t = true ∧ VafmsBase.ints (t.map Int.toNat) = t ∧ t.length ≤ n := by
  obtain ⟨h1, h2⟩ := Bool.and_eq_true_iff.mp h
  have h1 := List.all_eq_true.mp h1
  have hz : ∀ z ∈ t, 0 ≤ z ∧ z < 256 := fun z m => by
    obtain ⟨a, b⟩ := Bool.and_eq_true_iff.mp (h1 z m)
    exact ⟨of_decide_eq_true a, by have := of_decide_eq_true b; simpa using this⟩
  refine ⟨List.all_eq_true.mpr fun z m => ?_, ?_, of_decide_eq_true h2⟩
  · obtain ⟨a, b⟩ := hz z m
    exact Bool.and_eq_true_iff.mpr ⟨decide_eq_true a, decide_eq_true (by omega)⟩
  · unfold VafmsBase.ints
    rw [List.map_map]
    conv => rhs; rw [← List.map_id t]
    refine List.map_congr_left fun z m => ?_
    show ((z.toNat : Nat) : Int) = z
    have := (hz z m).1
    omega
theorem list_of {t : List Int} {n : Nat} (h : VafmsaNeutral.listOk t n = true) : t.length ≤ n := of_decide_eq_true (Bool.and_eq_true_iff.mp h).2
theorem put_row1 (k : Int) (x : List Int) (h : hasList k = true) : PyFlat.put1 [[k], x] = k :: (aheadOf k x ++ x) := by
  unfold aheadOf
  rw [if_pos h]
  show k :: ((x.length : Int) :: x ++ []) = k :: ([(x.length : Int)] ++ x)
  rw [List.append_nil]
  rfl
theorem call_at {c : List (List Int)} (hs : PyFlat.okCall PyVafmsa.shape c) (ha : VafmsaNeutral.asked1 (PyVafmsa.whole c) = true) : ∃ k x cl, CallAt c k x cl := by
  obtain ⟨p, a, xs, rfl, h⟩ := hs
  unfold PyVafmsa.shape at h
  have row : ∀ {m : Nat}, some (0, 1) = some (a.length, xs.length) → ∃ x, a = [] ∧ xs = [x] := fun e => by
    have e := Prod.mk.inj (Option.some.inj e)
    obtain ⟨x, hx⟩ := List.length_eq_one_iff.mp e.2.symm
    exact ⟨x, List.length_eq_zero_iff.mp e.1.symm, hx⟩
  have nil : some (0, 0) = some (a.length, xs.length) → a = [] ∧ xs = [] := fun e => by
    have e := Prod.mk.inj (Option.some.inj e)
    exact ⟨List.length_eq_zero_iff.mp e.1.symm, List.length_eq_zero_iff.mp e.2.symm⟩
  have by_t : ∀ {x : List Int} {n : Nat}, VafmsaNeutral.bytesOk x n = true → NeutralIO.bytes x = true := fun h => (bytes_of h).1
  by_cases h0 : p = 0
  · rw [if_pos h0] at h
    obtain ⟨x, rfl, rfl⟩ := row (m := 0) h
    subst h0
    obtain ⟨b1, b2, b3⟩ := bytes_of (t := x) (n := 1300) ha
    refine ⟨0, x, .load (x.map Int.toNat), ?_, put_row1 _ _ rfl, if_pos b1, fun z => absurd z (by decide), fun _ z => absurd z (by decide)⟩
    have := CallRec.load (x.map Int.toNat) (by rw [List.length_map]; omega)
    rwa [b2] at this
  rw [if_neg h0] at h
  by_cases h1 : p = 1
  · rw [if_pos h1] at h
    obtain ⟨rfl, rfl⟩ := nil h
    subst h1
    exact ⟨1, [], _, .shown [], rfl, rfl, by decide, fun _ _ => rfl⟩
  rw [if_neg h1] at h
  by_cases h2 : p = 2
  · rw [if_pos h2] at h
    obtain ⟨rfl, rfl⟩ := nil h
    subst h2
    exact ⟨2, [], _, .format [], rfl, rfl, by decide, fun _ _ => rfl⟩
  rw [if_neg h2] at h
  by_cases h3 : p = 3
  · rw [if_pos h3] at h
    obtain ⟨x, rfl, rfl⟩ := row (m := 0) h
    subst h3
    exact ⟨3, x, _, .print x (list_of (t := x) ha), put_row1 _ _ rfl, rfl, fun z => absurd z (by decide), fun _ z => absurd z (by decide)⟩
  rw [if_neg h3] at h
  by_cases h4 : p = 4
  · rw [if_pos h4] at h
    obtain ⟨x, rfl, rfl⟩ := row (m := 0) h
    subst h4
    obtain ⟨b1, b2, b3⟩ := bytes_of (t := x) (n := 30) ha
    refine ⟨4, x, .scan (x.map Int.toNat), ?_, put_row1 _ _ rfl, if_pos b1, fun z => absurd z (by decide), fun _ z => absurd z (by decide)⟩
    have := CallRec.scan (x.map Int.toNat) (by rw [List.length_map]; omega)
    rwa [b2] at this
  rw [if_neg h4] at h
  by_cases h5 : p = 5
  · rw [if_pos h5] at h
    obtain ⟨x, rfl, rfl⟩ := row (m := 0) h
    subst h5
    obtain ⟨b1, b2, b3⟩ := bytes_of (t := x) (n := 30) ha
    refine ⟨5, x, .ways (x.map Int.toNat), ?_, put_row1 _ _ rfl, if_pos b1, fun z => absurd z (by decide), fun _ z => absurd z (by decide)⟩
    have := CallRec.ways (x.map Int.toNat) (by rw [List.length_map]; omega)
    rwa [b2] at this
  rw [if_neg h5] at h
  by_cases h6 : p = 6
  · rw [if_pos h6] at h
    have e := Prod.mk.inj (Option.some.inj h)
    obtain ⟨i, rfl⟩ := List.length_eq_one_iff.mp e.1.symm
    obtain rfl := List.length_eq_zero_iff.mp e.2.symm
    subst h6
    exact ⟨6, [i], _, .told i, rfl, rfl, fun _ => rfl, fun z => absurd rfl z⟩
  rw [if_neg h6] at h
  by_cases h7 : p = 7
  · rw [if_pos h7] at h
    obtain ⟨rfl, rfl⟩ := nil h
    subst h7
    exact ⟨7, [], _, .lengths [], rfl, rfl, by decide, fun _ _ => rfl⟩
  rw [if_neg h7] at h
  by_cases h8 : p = 8
  · rw [if_pos h8] at h
    obtain ⟨x, rfl, rfl⟩ := row (m := 0) h
    subst h8
    exact ⟨8, x, _, .round x (list_of (t := x) ha), put_row1 _ _ rfl, rfl, fun z => absurd z (by decide), fun _ z => absurd z (by decide)⟩
  rw [if_neg h8] at h
  by_cases h9 : p = 9
  · rw [if_pos h9] at h
    obtain ⟨x, rfl, rfl⟩ := row (m := 0) h
    subst h9
    exact ⟨9, x, _, .put x (list_of (t := x) ha), put_row1 _ _ rfl, rfl, fun z => absurd z (by decide), fun _ z => absurd z (by decide)⟩
  rw [if_neg h9] at h
  cases h
/-- the calls left and what is answered to them -/
def toldFrom (s : Vafmsa.State) (cs : List (List (List Int))) : List Int := PyFlat.told (PyFlat.played VafmsaNeutral.step s (cs.map PyVafmsa.whole))
def CallsOk (cs : List (List (List Int))) : Prop := ∀ d ∈ cs, PyFlat.okCall PyVafmsa.shape d ∧ VafmsaNeutral.asked1 (PyVafmsa.whole d) = true
theorem told_from {s : Vafmsa.State} {c : List (List Int)} {cs : List (List (List Int))} {k : Int} {x : List Int} {cl : Vafmsa.Call} (h : CallAt c k x cl) : toldFrom s (c :: cs) = (((Vafmsa.step s cl).2.length : Int) :: (Vafmsa.step s cl).2) ++ toldFrom (Vafmsa.step s cl).1 cs := by
  have e : VafmsaNeutral.step s (PyVafmsa.whole c) = Vafmsa.step s cl := by
    unfold VafmsaNeutral.step
    rw [h.of]
    rfl
  show PyFlat.told ((VafmsaNeutral.step s (PyVafmsa.whole c)).2 :: PyFlat.played VafmsaNeutral.step (VafmsaNeutral.step s (PyVafmsa.whole c)).1 (cs.map PyVafmsa.whole)) = _
  rw [e]
  rfl
theorem asked_calls {l : List Int} (h : PyVafmsa.answers_asked l = true) : ∃ cs, l = PyFlat.put cs ∧ CallsOk cs ∧ PyVafmsa.answers l = toldFrom ⟨none⟩ cs ∧ (PyVafmsa.answers l).length ≤ 10000000 := by
  unfold PyVafmsa.answers_asked at h
  cases hc : PyFlat.calls PyVafmsa.shape l.length l with
  | none =>
    rw [hc] at h
    cases h
  | some raw =>
    rw [hc] at h
    obtain ⟨h, h5⟩ := Bool.and_eq_true_iff.mp h
    obtain ⟨h, h4⟩ := Bool.and_eq_true_iff.mp h
    obtain ⟨e, ho⟩ := PyFlat.put_calls _ _ _ hc
    have h4 := List.all_eq_true.mp (Bool.and_eq_true_iff.mp h4).1
    refine ⟨raw, e, fun d hd => ⟨ho d hd, h4 _ (List.mem_map_of_mem hd)⟩, ?_, of_decide_eq_true h5⟩
    unfold PyVafmsa.answers PyVafmsa.calls
    rw [hc]
    rfl
end FX
end
section
set_option Elab.async false
set_option linter.all false
set_option maxRecDepth 100000
set_option maxHeartbeats 4000000
namespace FX
open PySem PySem.Spec PyProof.Rows L2 FT
local macro_rules | `(tactic| walk_at "rd") => `(tactic| try dsimp only [tM1, tMethA, ipI, tAug, tOp, tC, tCB, tCons, tNil, gName, tVar, tAsg, tRet, tIfS, tTest, tB, tNext, tDrop, tFld, tCKw, tCall, tMeth, rI0, rI, CMul, rEq, rNe, rEqD, rNeD, tBM, rAppend, rExtend, rCat, rIn, rIxT, rIxL, tSl, rSlL, tPart, tNoPart, tChain, tUn, rU, tIf, tNot, tOr, tAnd, tOrV, tAndV, tMake, sFld, sFldAug, tLst, tTup, tFault, tCallS, tXf, WE, pad, List.set, List.getElem?_cons_zero, List.getElem?_cons_succ, cxOf, List.map_cons, List.map_nil, List.append_nil, List.cons_append, List.nil_append])
local macro_rules | `(tactic| walk_at "sq") => `(tactic| (refine seq_go ?_; walk_at "rd"))
local macro_rules | `(tactic| walk_at "r0") => `(tactic| (rw [start_pad (by rfl)]; walk_at "rd"))
section
variable {P : Program} {w : World} {K : PySem.W.Frag} {mg : Str → Option Value} {base : Heap} {c : Cs}
def spAnswers (K : PySem.W.Frag) : Sp := fun vs H Q _ => ∃ (a : Addr) (l : List Int), vs = [.ref a] ∧ SqL K H a (ivs l) ∧ PyVafmsa.answers_asked l = true ∧ NewL H (ivs (PyVafmsa.answers l)) Q
theorem sc_answers : FnScope ["calls", "keeper", "answered", "at", "call", "size"] ["calls"] (defScope (topS 132)) := ⟨rfl, rfl, rfl, by decide +kernel, rfl, by decide +kernel, by decide +kernel⟩
theorem free_upd {H H' : Hp} {D : Addr} {o : HO} (s : Same H H') (h : H D = none) : Same H (upd H' D o) := fun b u e => by
  rw [upd_ne (fun z => by rw [z, h] at e; cases e)]
  exact s _ _ e
theorem same_beside {H H1 H2 : Hp} {p : Addr} (s : Same H H1) (hp : H p = none) (b : Beside p H1 H2) : Same H H2 := fun x o e => by
  have hx : x ≠ p := fun z => by rw [z, hp] at e; cases e
  have := b x o (by rw [hideA_ne hx]; exact s _ _ e)
  rwa [hideA_ne hx] at this
theorem KpAt.free {H : Hp} {p D : Addr} {s : Vafmsa.State} {l : List V} (h : KpAt c H p s) (hD : H D = some (.lst l)) : D ≠ p := fun z => by
  obtain ⟨dx, la, us, rv, hP, _⟩ := h
  rw [z, hP] at hD
  cases hD
theorem ivs_take (l : List Int) (n : Nat) : (ivs l).take n = ivs (l.take n) := by
  unfold ivs
  rw [List.map_take]
theorem ivs_head {l : List Int} {i : Nat} {k : Int} {r : List Int} (h : l.drop i = k :: r) : (ivs l)[i]? = some (.int k) := by
  have : l[i]? = some k := by
    have := congrArg (fun z => z[0]?) h
    simpa using this
  exact ivs_at this
theorem drop_more {l : List Int} {i : Nat} {u r : List Int} (h : l.drop i = u ++ r) : l.drop (i + u.length) = r := by
  rw [← List.drop_drop, h, List.drop_left]
theorem fn_answers (T : Top K mg c) {f : Addr} {fd : FuncData} (F : Fun K "answers" "answers" (topS 132) f fd) : FnOk P w K mg base CX0 91 f fd ["calls"] (spAnswers K) := by
  refine F.ok sc_answers (fun vs H Q E h => ?_) (fun cdv A outer s H vs Q E hr h => ⟨_, (pss_cons (ps_set (i := 1) sc_answers.nd rfl (.inl rfl) (pmake0 (m_Keeper T) (hr.mono (by omega)) pass0))
 (pss_cons (ps_set (i := 2) sc_answers.nd rfl (.inl rfl) (pe_lst pa_nil))
 (pss_cons (ps_set (i := 3) sc_answers.nd rfl (.inl rfl) pe_int)
 (pss_cons (ps_while PassesOwn.never (pt_cmpR op_lt (pv 3) (pe_callB call_len_seq (by rfl) T.b_len (by decide +kernel) (pa_cons (pv 0) pa_nil)) (nomark _))
 (pss_cons (ps_set (i := 4) sc_answers.nd rfl (.inl rfl) (pe_ix ix_list (pv 0) (pv 3) (fun _ _ => rfl)))
 (pss_cons (ps_aug (i := 3) sc_answers.nd rfl (.inl rfl) pe_int ip_add)
 (pss_cons (ps_set (i := 5) sc_answers.nd rfl (.inl rfl) pe_int)
 (pss_cons (ps_if (pt_cmpR op_eq (pv 4) (pe_num T.n_TOLD) (nomark _))
 (pss_one (ps_set (i := 5) sc_answers.nd rfl (.inl rfl) pe_int))
 (pss_one (ps_if (pt_val (pcall (d_has_list T) (hr.mono (by omega)) pass0 (pa_cons (pv 4) pa_nil)))
 (pss_cons (ps_set (i := 5) sc_answers.nd rfl (.inl rfl) (pe_ix ix_list (pv 0) (pv 3) (fun _ _ => rfl)))
 (pss_one (ps_aug (i := 3) sc_answers.nd rfl (.inl rfl) pe_int ip_add)))
 pss_nil)))
 (pss_cons (ps_expr (pe_bm PySem.F.plainAttrs_list PySem.F.slot_list_extend PySem.F.type_list_extend mt_extend (pv 2) (pa_cons (pcall (d_counted T) (hr.mono (by omega)) pass0 (pa_cons (pcall (d_answer T) (hr.mono (by omega)) pass0 (pa_cons (pv 1) (pa_cons (pv 4) (pa_cons (pe_slice sl_list (pv 0) (po_some (pv 3)) (po_some (pe_op op_add (pv 3) (pv 5)))) pa_nil)))) pa_nil)) pa_nil)))
 (pss_one (ps_aug (i := 3) sc_answers.nd rfl (.inl rfl) (pv 5) ip_add))))))))
 (pss_one (ps_ret (pv 2))))))), ?_⟩)
  · obtain ⟨a, l, rfl, _⟩ := h
    rfl
  · obtain ⟨a, l, rfl, ha, hasked, q⟩ := h
    obtain ⟨cs0, hl0, hok0, hans, hlen⟩ := asked_calls hasked
    walk_at "r0"
    walk_at "sq"
    refine fun p dx hp hdx hne => ?_
    have mk : Same H (upd (upd H dx (.own p)) p (.ins c.Keeper dx [])) := Same.trans (Same.add hdx) (Same.add (by rw [upd_ne (Ne.symm hne)]; exact hp))
    refine ⟨p, dx, rfl, upd_same, fun H1 b1 hK1 => ⟨rfl, ?_⟩⟩
    have s1 : Same H H1 := same_beside mk hp b1
    walk_at "sq"
    refine ⟨Nat.zero_le _, fun D hD => ?_⟩
    have hDn : H D = none := s1.free hD
    walk_at "sq"
    refine seq_go ?_
    refine ⟨fun n σ H' => ∃ (m : Nat) (s : Vafmsa.State) (out : List Int) (cs : List (List (List Int))) (v4 v5 : Option V), n = cs.length ∧ l.drop m = PyFlat.put cs ∧ m ≤ l.length ∧ CallsOk cs ∧ σ = [some (.ref a), some (.ref p), some (.ref D), some (.int (Int.ofNat m)), v4, v5] ∧ Same H H' ∧ KpAt c (hideZ [D] H') p s ∧ H' D = some (.lst (ivs out)) ∧ PyVafmsa.answers l = out ++ toldFrom s cs, ⟨_, 0, ⟨none⟩, [], cs0, none, none, rfl, hl0, Nat.zero_le _, hok0, rfl, free_upd s1 hDn, hK1.same ?_, upd_same, hans⟩, ?_⟩
    · refine fun x o e => ?_
      have hx : x ≠ D := fun z => by rw [z, hD] at e; cases e
      rw [hideZ_ne (by simpa using hx), upd_ne hx]
      exact e
    rintro n σ H2 ⟨m, st, out, cs, v4, v5, rfl, hdr, hm, hok, rfl, s2, hK2, hD2, heq⟩
    have ha2 := s2.seq ha
    walk_at "rd"
    refine ⟨_, rfl, _, rfl, a, _, rfl, .inl ha2, _, _, rfl, rfl, _, rfl, ?_⟩
    rw [ivs_length]
    cases cs with
    | nil =>
      have e : m = l.length := by
        have := congrArg List.length hdr
        rw [List.length_drop] at this
        have : l.length - m = 0 := this
        omega
      rw [if_neg (by rw [decide_eq_false (by show ¬ (m : Int) < (l.length : Int); omega)]; exact Bool.false_ne_true)]
      walk_at "rd"
      refine ⟨_, rfl, q D H2 hDn s2 ?_⟩
      rw [heq, hD2]
      show some (HO.lst (ivs out)) = some (.lst (ivs (out ++ [])))
      rw [List.append_nil]
    | cons cl cs =>
    obtain ⟨k, x, cc, hc⟩ := call_at (hok cl (List.mem_cons_self ..)).1 (hok cl (List.mem_cons_self ..)).2
    have hok' : CallsOk cs := fun d hd => hok d (List.mem_cons_of_mem _ hd)
    have e1 : l.drop m = k :: ((aheadOf k x ++ x) ++ PyFlat.put cs) := by
      rw [hdr]
      show PyFlat.put1 cl ++ PyFlat.put cs = _
      rw [hc.put]
      rfl
    have e2 : l.drop (m + 1) = aheadOf k x ++ (x ++ PyFlat.put cs) := by
      rw [← List.append_assoc]
      exact drop_more (u := [k]) e1
    have e3 : l.drop (m + 1 + (aheadOf k x).length) = x ++ PyFlat.put cs := drop_more e2
    have e4 : l.drop (m + 1 + (aheadOf k x).length + x.length) = PyFlat.put cs := drop_more e3
    have hm4 : m + 1 + (aheadOf k x).length + x.length ≤ l.length := by
      have h1 := congrArg List.length e1
      rw [List.length_drop] at h1
      simp only [List.length_cons, List.length_append] at h1
      omega
    have hout : out.length + ((Vafmsa.step st cc).2.length + 1) ≤ 10000000 := by
      rw [heq, told_from hc] at hlen
      simp only [List.length_cons, List.length_append] at hlen
      omega
    rw [if_pos (decide_eq_true (by show (m : Int) < (l.length : Int); omega))]
    refine ⟨_, fun _ _ z => z, ?_⟩
    walk_at "sq"
    refine ⟨_, rfl, _, rfl, a, _, _, _, rfl, rfl, ha2, atI_nat (j := m) (ivs_head e1), ?_⟩
    walk_at "sq"
    refine ⟨_, rfl, _, _, rfl, rfl, ?_⟩
    walk_at "sq"
    refine seq_by (fun σ' H' => σ' = [some (.ref a), some (.ref p), some (.ref D), some (.int (Int.ofNat (m + 1 + (aheadOf k x).length))), some (.int k), some (.int (Int.ofNat x.length))] ∧ Same H2 H') ?_ ?_
    · rintro σ' H3 ⟨rfl, s3⟩
      have s03 := Same.trans s2 s3
      have hD3 := s3 _ _ hD2
      have ha3 := s03.seq ha
      walk_at "sq"
      have ec : cutV (ivs l) (some (Int.ofNat (m + 1 + (aheadOf k x).length))) (some (Int.ofNat (m + 1 + (aheadOf k x).length) + Int.ofNat x.length)) = ivs x := by
        refine (cut_mid (ivs l) (m + 1 + (aheadOf k x).length) (m + 1 + (aheadOf k x).length + x.length)).trans ?_
        rw [ivs_drop, e3, ivs_take, Nat.add_sub_cancel_left, List.take_left]
      refine ⟨_, rfl, .inl ⟨rfl, _, SqL.of hD3⟩, _, rfl, _, rfl, _, rfl, _, rfl, _, rfl, _, rfl, _, rfl, _, _, rfl, rfl, _, rfl, a, _, rfl, ha3, fun e he => ?_⟩
      rw [ec]
      have s4 := Same.add (o := .lst (ivs x)) he
      have he2 : upd H3 e (.lst (ivs x)) e = some (.lst (ivs x)) := upd_same
      generalize upd H3 e (.lst (ivs x)) = H4 at *
      have hD4 := s4 _ _ hD3
      have hK4 : KpAt c (hideZ [D] H4) p st := hK2.same (hideZ_of (Same.trans s3 s4))
      have hDp : D ≠ p := KpAt.free (hK4.same hideZ_same) hD4
      have heD : e ≠ D := fun z => by rw [z, hD3] at he; cases he
      have hLs : Lsts H4 [D] := fun z m => by
        obtain rfl : z = D := by simpa using m
        exact ⟨_, hD4⟩
      refine ⟨p, st, k, e, x, cc, [D], rfl, hK4, hLs, by simpa using heD, he2, hc.rd, by omega, fun B H5 hB b5 hK5 hB5 => ?_⟩
      refine ⟨B, _, rfl, hB5, by omega, fun R H6 hR s6 hR6 => ?_⟩
      have hD5 : H5 D = some (.lst (ivs out)) := by
        have := b5 D _ (by rw [hideA_ne hDp]; exact hD4)
        rwa [hideA_ne hDp] at this
      have hD6 := s6 _ _ hD5
      refine ⟨D, R, _, _, rfl, rfl, hD6, hR6, szm (by rw [ivs_length, ivs_length, List.length_cons]; omega), ?_⟩
      rw [← ivs_append]
      walk_at "rd"
      have s04 := Same.trans s03 s4
      have s06 : Same H H6 := Same.trans (same_beside s04 hp b5) s6
      refine ⟨_, rfl, _, rfl, _, _, rfl, rfl, cs.length, Nat.lt_succ_self _, m + 1 + (aheadOf k x).length + x.length, _, _, cs, _, _, rfl, e4, hm4, hok', rfl, free_upd s06 hDn, (hK5.same (hideZ_of s6)).same (hideZ_upd (List.mem_cons_self ..)), upd_same, ?_⟩
      rw [heq, told_from hc, List.append_assoc]
    · intro nx hN
      refine ⟨_, rfl, rfl, _, rfl, ?_⟩
      dsimp only
      by_cases h6 : k = 6
      · rw [if_pos (by rw [h6]; decide)]
        walk_at "rd"
        refine hN _ _ ⟨?_, Same.refl _⟩
        subst h6
        have e0 : aheadOf 6 x = [] := rfl
        rw [e0, hc.one rfl]
        rfl
      · rw [if_neg (by rw [decide_eq_false (fun z => h6 (by injection z))]; exact Bool.false_ne_true)]
        refine ⟨_, rfl, k, rfl, fun H3 s3 => ⟨_, rfl, ?_⟩⟩
        dsimp only
        by_cases hh : hasList k = true
        · rw [if_pos hh]
          have e0 : aheadOf k x = [(x.length : Int)] := if_pos hh
          rw [e0] at e2
          walk_at "sq"
          refine ⟨_, rfl, _, rfl, a, _, _, _, rfl, rfl, s3.seq ha2, atI_nat (j := m + 1) (ivs_head e2), ?_⟩
          walk_at "rd"
          refine ⟨_, rfl, _, _, rfl, rfl, hN _ _ ⟨?_, s3⟩⟩
          rw [e0]
          rfl
        · rw [if_neg hh]
          have e0 : aheadOf k x = [] := if_neg hh
          walk_at "rd"
          refine hN _ _ ⟨?_, s3⟩
          rw [e0, hc.none h6 (by simpa using hh)]
          rfl
/-- the last word: what the top has written answers the law -/
theorem fin_of {h : Heap} {fa : Addr} (T : ∃ c, Top K mg c) (g : mg "answers" = some (.ref fa)) : ∃ fd : FuncData, (∀ (s : Shared) (us : List Value), us.length = (["calls"] : List Str).length → BindsTo s fd ⟨us, []⟩ ((["calls"] : List Str).zip us)) ∧
    ∀ base : Heap, K.In base → base.Ns mainGlobals mg → FnOk P w K mg base CX0 91 fa fd ["calls"] (spAnswers K) := by
  obtain ⟨c, T⟩ := T
  obtain ⟨f, fd, F, g2, _⟩ := T.a_answers.ex
  have e := g.symm.trans g2
  cases e
  refine ⟨fd, fun s us hu => ?_, fun base _ _ => fn_answers T F⟩
  obtain ⟨oc, od, kV, doc, pm, an, cdv, ct, osl, rfl, _, _⟩ := F.ex
  exact match us, hu with | [_], _ => .of_eq rfl
end
end FX
end
section
set_option Elab.async false
set_option linter.all false
set_option maxRecDepth 100000
set_option maxHeartbeats 4000000
namespace FX
open PySem PySem.Spec PyProof.Rows L2
def BdOk (x qual : Str) (st : Stmt) (ps : List Str) : Prop := ∀ (kV doc pm : Value) (an : Option Addr) (cdv ct : Value) (us : List Value), us.length = ps.length → bindArgs (PySem.W.fnOf x qual (defArgs st) (defBody st) (defScope st) .none kV doc pm an cdv ct) ⟨us, []⟩ = pure (ps.zip us)
theorem bd_a_has_text : BdOk "has_text" "has_text" (topS 22) ["kind"] := fun _ _ _ _ _ _ us hl => match us, hl with | [_], _ => rfl
theorem bd_a_has_bounds : BdOk "has_bounds" "has_bounds" (topS 23) ["kind"] := fun _ _ _ _ _ _ us hl => match us, hl with | [_], _ => rfl
theorem bd_a_fewest_text_bytes : BdOk "fewest_text_bytes" "fewest_text_bytes" (topS 24) ["kind"] := fun _ _ _ _ _ _ us hl => match us, hl with | [_], _ => rfl
theorem bd_a_lowest_bound : BdOk "lowest_bound" "lowest_bound" (topS 25) ["kind"] := fun _ _ _ _ _ _ us hl => match us, hl with | [_], _ => rfl
theorem bd_a_read_behind_text : BdOk "read_behind_text" "read_behind_text" (topS 26) ["reading", "kind", "text", "within_repeat"] := fun _ _ _ _ _ _ us hl => match us, hl with | [_, _, _, _], _ => rfl
theorem bd_a_piece_count : BdOk "piece_count" "piece_count" (topS 27) ["row"] := fun _ _ _ _ _ _ us hl => match us, hl with | [_], _ => rfl
theorem bd_a_gone_through : BdOk "gone_through" "gone_through" (topS 28) ["row"] := fun _ _ _ _ _ _ us hl => match us, hl with | [_], _ => rfl
theorem bd_a_piece_gone_through : BdOk "piece_gone_through" "piece_gone_through" (topS 29) ["piece"] := fun _ _ _ _ _ _ us hl => match us, hl with | [_], _ => rfl
theorem bd_a_is_digit : BdOk "is_digit" "is_digit" (topS 40) ["byte"] := fun _ _ _ _ _ _ us hl => match us, hl with | [_], _ => rfl
theorem bd_a_is_letter : BdOk "is_letter" "is_letter" (topS 41) ["byte"] := fun _ _ _ _ _ _ us hl => match us, hl with | [_], _ => rfl
theorem bd_a_spelled : BdOk "spelled" "spelled" (topS 42) ["text"] := fun _ _ _ _ _ _ us hl => match us, hl with | [_], _ => rfl
theorem bd_a_number_of : BdOk "number_of" "number_of" (topS 43) ["digits"] := fun _ _ _ _ _ _ us hl => match us, hl with | [_], _ => rfl
theorem bd_a_row_numbers : BdOk "row_numbers" "row_numbers" (topS 45) ["row"] := fun _ _ _ _ _ _ us hl => match us, hl with | [_], _ => rfl
theorem bd_a_piece_numbers : BdOk "piece_numbers" "piece_numbers" (topS 46) ["piece"] := fun _ _ _ _ _ _ us hl => match us, hl with | [_], _ => rfl
theorem bd_a_one_form : BdOk "one_form" "one_form" (topS 47) ["row", "listed"] := fun _ _ _ _ _ _ us hl => match us, hl with | [_, _], _ => rfl
theorem bd_a_line_of : BdOk "line_of" "line_of" (topS 48) ["words"] := fun _ _ _ _ _ _ us hl => match us, hl with | [_], _ => rfl
theorem bd_a_value_line : BdOk "value_line" "value_line" (topS 49) ["numbers"] := fun _ _ _ _ _ _ us hl => match us, hl with | [_], _ => rfl
theorem bd_a_row_words : BdOk "row_words" "row_words" (topS 50) ["row"] := fun _ _ _ _ _ _ us hl => match us, hl with | [_], _ => rfl
theorem bd_a_piece_words : BdOk "piece_words" "piece_words" (topS 51) ["piece"] := fun _ _ _ _ _ _ us hl => match us, hl with | [_], _ => rfl
theorem bd_a_quoted : BdOk "quoted" "quoted" (topS 52) ["text"] := fun _ _ _ _ _ _ us hl => match us, hl with | [_], _ => rfl
theorem bd_a_read_format : BdOk "read_format" "read_format" (topS 55) ["numbers"] := fun _ _ _ _ _ _ us hl => match us, hl with | [_], _ => rfl
theorem bd_a_shortest_length : BdOk "shortest_length" "shortest_length" (topS 58) ["row"] := fun _ _ _ _ _ _ us hl => match us, hl with | [_], _ => rfl
theorem bd_a_shortest_piece_length : BdOk "shortest_piece_length" "shortest_piece_length" (topS 59) ["piece"] := fun _ _ _ _ _ _ us hl => match us, hl with | [_], _ => rfl
theorem bd_a_longest_length : BdOk "longest_length" "longest_length" (topS 60) ["row"] := fun _ _ _ _ _ _ us hl => match us, hl with | [_], _ => rfl
theorem bd_a_longest_piece_length : BdOk "longest_piece_length" "longest_piece_length" (topS 61) ["piece"] := fun _ _ _ _ _ _ us hl => match us, hl with | [_], _ => rfl
theorem bd_a_repeated_length : BdOk "repeated_length" "repeated_length" (topS 62) ["piece", "times", "each"] := fun _ _ _ _ _ _ us hl => match us, hl with | [_, _, _], _ => rfl
theorem bd_a_beginnings : BdOk "beginnings" "beginnings" (topS 70) ["text", "lo", "hi"] := fun _ _ _ _ _ _ us hl => match us, hl with | [_, _, _], _ => rfl
theorem bd_a_steps_of : BdOk "steps_of" "steps_of" (topS 73) ["row"] := fun _ _ _ _ _ _ us hl => match us, hl with | [_], _ => rfl
theorem bd_a_lay_row : BdOk "lay_row" "lay_row" (topS 74) ["steps", "row", "after"] := fun _ _ _ _ _ _ us hl => match us, hl with | [_, _, _], _ => rfl
theorem bd_a_lay_piece : BdOk "lay_piece" "lay_piece" (topS 75) ["steps", "piece", "after"] := fun _ _ _ _ _ _ us hl => match us, hl with | [_, _, _], _ => rfl
theorem bd_a_lay_step : BdOk "lay_step" "lay_step" (topS 76) ["steps", "step"] := fun _ _ _ _ _ _ us hl => match us, hl with | [_, _], _ => rfl
theorem bd_a_choices : BdOk "choices" "choices" (topS 77) ["steps", "piece", "after"] := fun _ _ _ _ _ _ us hl => match us, hl with | [_, _, _], _ => rfl
theorem bd_a_lay_times : BdOk "lay_times" "lay_times" (topS 78) ["steps", "piece", "after"] := fun _ _ _ _ _ _ us hl => match us, hl with | [_, _, _], _ => rfl
theorem bd_a_print_of : BdOk "print_of" "print_of" (topS 79) ["row", "numbers"] := fun _ _ _ _ _ _ us hl => match us, hl with | [_, _], _ => rfl
theorem bd_a_way_counts : BdOk "way_counts" "way_counts" (topS 80) ["steps", "text"] := fun _ _ _ _ _ _ us hl => match us, hl with | [_, _], _ => rfl
theorem bd_a_ways_from : BdOk "ways_from" "ways_from" (topS 81) ["step", "counts", "text", "place"] := fun _ _ _ _ _ _ us hl => match us, hl with | [_, _, _, _], _ => rfl
theorem bd_a_scanning_count : BdOk "scanning_count" "scanning_count" (topS 82) ["row", "text"] := fun _ _ _ _ _ _ us hl => match us, hl with | [_, _], _ => rfl
theorem bd_a_first_scanning : BdOk "first_scanning" "first_scanning" (topS 83) ["row", "text"] := fun _ _ _ _ _ _ us hl => match us, hl with | [_, _], _ => rfl
theorem bd_a_first_lead : BdOk "first_lead" "first_lead" (topS 84) ["step", "counts", "text", "place"] := fun _ _ _ _ _ _ us hl => match us, hl with | [_, _, _, _], _ => rfl
theorem bd_a_read_tokens : BdOk "read_tokens" "read_tokens" (topS 95) ["source"] := fun _ _ _ _ _ _ us hl => match us, hl with | [_], _ => rfl
theorem bd_a_past_blanks : BdOk "past_blanks" "past_blanks" (topS 96) ["source", "place"] := fun _ _ _ _ _ _ us hl => match us, hl with | [_, _], _ => rfl
theorem bd_a_token_at : BdOk "token_at" "token_at" (topS 97) ["source", "place"] := fun _ _ _ _ _ _ us hl => match us, hl with | [_, _], _ => rfl
theorem bd_a_run_end : BdOk "run_end" "run_end" (topS 98) ["source", "place", "first", "last"] := fun _ _ _ _ _ _ us hl => match us, hl with | [_, _, _, _], _ => rfl
theorem bd_a_sign_word_at : BdOk "sign_word_at" "sign_word_at" (topS 99) ["source", "place"] := fun _ _ _ _ _ _ us hl => match us, hl with | [_, _], _ => rfl
theorem bd_a_numeral_at : BdOk "numeral_at" "numeral_at" (topS 100) ["source", "place"] := fun _ _ _ _ _ _ us hl => match us, hl with | [_, _], _ => rfl
theorem bd_a_string_at : BdOk "string_at" "string_at" (topS 101) ["source", "place"] := fun _ _ _ _ _ _ us hl => match us, hl with | [_, _], _ => rfl
theorem bd_a_can_stand_in_string : BdOk "can_stand_in_string" "can_stand_in_string" (topS 102) ["source", "at", "behind_backslash"] := fun _ _ _ _ _ _ us hl => match us, hl with | [_, _, _], _ => rfl
theorem bd_a_read_source : BdOk "read_source" "read_source" (topS 107) ["source"] := fun _ _ _ _ _ _ us hl => match us, hl with | [_], _ => rfl
theorem bd_a_is_mark : BdOk "is_mark" "is_mark" (topS 109) ["token", "told"] := fun _ _ _ _ _ _ us hl => match us, hl with | [_, _], _ => rfl
theorem bd_a_kind_begun : BdOk "kind_begun" "kind_begun" (topS 110) ["token"] := fun _ _ _ _ _ _ us hl => match us, hl with | [_], _ => rfl
theorem bd_a_is_whole_value : BdOk "is_whole_value" "is_whole_value" (topS 127) ["value"] := fun _ _ _ _ _ _ us hl => match us, hl with | [_], _ => rfl
theorem bd_a_counted : BdOk "counted" "counted" (topS 128) ["numbers"] := fun _ _ _ _ _ _ us hl => match us, hl with | [_], _ => rfl
theorem bd_a_found : BdOk "found" "found" (topS 129) ["numbers"] := fun _ _ _ _ _ _ us hl => match us, hl with | [_], _ => rfl
theorem bd_a_has_list : BdOk "has_list" "has_list" (topS 130) ["call"] := fun _ _ _ _ _ _ us hl => match us, hl with | [_], _ => rfl
theorem bd_a_answer : BdOk "answer" "answer" (topS 131) ["keeper", "call", "numbers"] := fun _ _ _ _ _ _ us hl => match us, hl with | [_, _, _], _ => rfl
theorem bd_a_answers : BdOk "answers" "answers" (topS 132) ["calls"] := fun _ _ _ _ _ _ us hl => match us, hl with | [_], _ => rfl
theorem bd_i_Fault : BdOk "__init__" "Fault.__init__" (inClass (topS 7) 0) ["self", "kind", "place"] := fun _ _ _ _ _ _ us hl => match us, hl with | [_, _, _], _ => rfl
theorem bd_i_Piece : BdOk "__init__" "Piece.__init__" (inClass (topS 21) 0) ["self", "kind", "text", "lo", "hi", "rows"] := fun _ _ _ _ _ _ us hl => match us, hl with | [_, _, _, _, _, _], _ => rfl
theorem bd_i_NotAFormat : BdOk "__init__" "NotAFormat.__init__" (inClass (topS 54) 0) ["self"] := fun _ _ _ _ _ _ us hl => match us, hl with | [_], _ => rfl
theorem bd_i_NumberReading : BdOk "__init__" "NumberReading.__init__" (inClass (topS 56) 0) ["self", "numbers"] := fun _ _ _ _ _ _ us hl => match us, hl with | [_, _], _ => rfl
theorem bd_m_NumberReading_take : BdOk "take" "NumberReading.take" (inClass (topS 56) 1) ["self", "lowest", "highest"] := fun _ _ _ _ _ _ us hl => match us, hl with | [_, _, _], _ => rfl
theorem bd_m_NumberReading_read_row : BdOk "read_row" "NumberReading.read_row" (inClass (topS 56) 2) ["self", "within_repeat"] := fun _ _ _ _ _ _ us hl => match us, hl with | [_, _], _ => rfl
theorem bd_m_NumberReading_read_piece : BdOk "read_piece" "NumberReading.read_piece" (inClass (topS 56) 3) ["self", "within_repeat"] := fun _ _ _ _ _ _ us hl => match us, hl with | [_, _], _ => rfl
theorem bd_m_NumberReading_read_text : BdOk "read_text" "NumberReading.read_text" (inClass (topS 56) 4) ["self", "fewest"] := fun _ _ _ _ _ _ us hl => match us, hl with | [_, _], _ => rfl
theorem bd_m_NumberReading_read_bound : BdOk "read_bound" "NumberReading.read_bound" (inClass (topS 56) 5) ["self", "lowest"] := fun _ _ _ _ _ _ us hl => match us, hl with | [_, _], _ => rfl
theorem bd_i_Lead : BdOk "__init__" "Lead.__init__" (inClass (topS 65) 0) ["self", "numbers", "text", "target"] := fun _ _ _ _ _ _ us hl => match us, hl with | [_, _, _, _], _ => rfl
theorem bd_i_TextStep : BdOk "__init__" "TextStep.__init__" (inClass (topS 66) 0) ["self", "text", "target"] := fun _ _ _ _ _ _ us hl => match us, hl with | [_, _, _], _ => rfl
theorem bd_m_TextStep_by_value : BdOk "by_value" "TextStep.by_value" (inClass (topS 66) 1) ["self", "numbers"] := fun _ _ _ _ _ _ us hl => match us, hl with | [_, _], _ => rfl
theorem bd_m_TextStep_by_text : BdOk "by_text" "TextStep.by_text" (inClass (topS 66) 2) ["self", "text"] := fun _ _ _ _ _ _ us hl => match us, hl with | [_, _], _ => rfl
theorem bd_i_NumberStep : BdOk "__init__" "NumberStep.__init__" (inClass (topS 67) 0) ["self", "lo", "hi", "target"] := fun _ _ _ _ _ _ us hl => match us, hl with | [_, _, _, _], _ => rfl
theorem bd_m_NumberStep_by_value : BdOk "by_value" "NumberStep.by_value" (inClass (topS 67) 1) ["self", "numbers"] := fun _ _ _ _ _ _ us hl => match us, hl with | [_, _], _ => rfl
theorem bd_m_NumberStep_by_text : BdOk "by_text" "NumberStep.by_text" (inClass (topS 67) 2) ["self", "text"] := fun _ _ _ _ _ _ us hl => match us, hl with | [_, _], _ => rfl
theorem bd_i_WordStep : BdOk "__init__" "WordStep.__init__" (inClass (topS 68) 0) ["self", "lo", "hi", "target"] := fun _ _ _ _ _ _ us hl => match us, hl with | [_, _, _, _], _ => rfl
theorem bd_m_WordStep_by_value : BdOk "by_value" "WordStep.by_value" (inClass (topS 68) 1) ["self", "numbers"] := fun _ _ _ _ _ _ us hl => match us, hl with | [_, _], _ => rfl
theorem bd_m_WordStep_by_text : BdOk "by_text" "WordStep.by_text" (inClass (topS 68) 2) ["self", "text"] := fun _ _ _ _ _ _ us hl => match us, hl with | [_, _], _ => rfl
theorem bd_i_ChoiceStep : BdOk "__init__" "ChoiceStep.__init__" (inClass (topS 69) 0) ["self", "leads"] := fun _ _ _ _ _ _ us hl => match us, hl with | [_, _], _ => rfl
theorem bd_m_ChoiceStep_by_value : BdOk "by_value" "ChoiceStep.by_value" (inClass (topS 69) 1) ["self", "numbers"] := fun _ _ _ _ _ _ us hl => match us, hl with | [_, _], _ => rfl
theorem bd_m_ChoiceStep_by_text : BdOk "by_text" "ChoiceStep.by_text" (inClass (topS 69) 2) ["self", "text"] := fun _ _ _ _ _ _ us hl => match us, hl with | [_, _], _ => rfl
theorem bd_i_Token : BdOk "__init__" "Token.__init__" (inClass (topS 94) 0) ["self", "kind", "told", "place", "behind"] := fun _ _ _ _ _ _ us hl => match us, hl with | [_, _, _, _, _], _ => rfl
theorem bd_i_Source : BdOk "__init__" "Source.__init__" (inClass (topS 106) 0) ["self", "row", "listed"] := fun _ _ _ _ _ _ us hl => match us, hl with | [_, _, _], _ => rfl
theorem bd_i_Reading : BdOk "__init__" "Reading.__init__" (inClass (topS 108) 0) ["self", "tokens"] := fun _ _ _ _ _ _ us hl => match us, hl with | [_, _], _ => rfl
theorem bd_m_Reading_next_is : BdOk "next_is" "Reading.next_is" (inClass (topS 108) 1) ["self", "kind"] := fun _ _ _ _ _ _ us hl => match us, hl with | [_, _], _ => rfl
theorem bd_m_Reading_take : BdOk "take" "Reading.take" (inClass (topS 108) 2) ["self"] := fun _ _ _ _ _ _ us hl => match us, hl with | [_], _ => rfl
theorem bd_m_Reading_take_kind : BdOk "take_kind" "Reading.take_kind" (inClass (topS 108) 3) ["self", "kind"] := fun _ _ _ _ _ _ us hl => match us, hl with | [_, _], _ => rfl
theorem bd_m_Reading_take_mark : BdOk "take_mark" "Reading.take_mark" (inClass (topS 108) 4) ["self", "told"] := fun _ _ _ _ _ _ us hl => match us, hl with | [_, _], _ => rfl
theorem bd_m_Reading_read_row : BdOk "read_row" "Reading.read_row" (inClass (topS 108) 5) ["self", "within_repeat"] := fun _ _ _ _ _ _ us hl => match us, hl with | [_, _], _ => rfl
theorem bd_m_Reading_read_piece : BdOk "read_piece" "Reading.read_piece" (inClass (topS 108) 6) ["self", "within_repeat"] := fun _ _ _ _ _ _ us hl => match us, hl with | [_, _], _ => rfl
theorem bd_m_Reading_check_piece : BdOk "check_piece" "Reading.check_piece" (inClass (topS 108) 7) ["self", "token", "kind", "within_repeat"] := fun _ _ _ _ _ _ us hl => match us, hl with | [_, _, _, _], _ => rfl
theorem bd_m_Reading_read_text : BdOk "read_text" "Reading.read_text" (inClass (topS 108) 8) ["self", "begun", "kind"] := fun _ _ _ _ _ _ us hl => match us, hl with | [_, _, _], _ => rfl
theorem bd_m_Reading_read_bound : BdOk "read_bound" "Reading.read_bound" (inClass (topS 108) 9) ["self", "lowest"] := fun _ _ _ _ _ _ us hl => match us, hl with | [_, _], _ => rfl
theorem bd_m_Reading_read_value : BdOk "read_value" "Reading.read_value" (inClass (topS 108) 10) ["self"] := fun _ _ _ _ _ _ us hl => match us, hl with | [_], _ => rfl
theorem bd_i_Keeper : BdOk "__init__" "Keeper.__init__" (inClass (topS 126) 0) ["self"] := fun _ _ _ _ _ _ us hl => match us, hl with | [_], _ => rfl
theorem bd_m_Keeper_load : BdOk "load" "Keeper.load" (inClass (topS 126) 1) ["self", "source"] := fun _ _ _ _ _ _ us hl => match us, hl with | [_, _], _ => rfl
theorem bd_m_Keeper_shown : BdOk "shown" "Keeper.shown" (inClass (topS 126) 2) ["self"] := fun _ _ _ _ _ _ us hl => match us, hl with | [_], _ => rfl
theorem bd_m_Keeper_as_numbers : BdOk "as_numbers" "Keeper.as_numbers" (inClass (topS 126) 3) ["self"] := fun _ _ _ _ _ _ us hl => match us, hl with | [_], _ => rfl
theorem bd_m_Keeper_printed : BdOk "printed" "Keeper.printed" (inClass (topS 126) 4) ["self", "value"] := fun _ _ _ _ _ _ us hl => match us, hl with | [_, _], _ => rfl
theorem bd_m_Keeper_scanned : BdOk "scanned" "Keeper.scanned" (inClass (topS 126) 5) ["self", "text"] := fun _ _ _ _ _ _ us hl => match us, hl with | [_, _], _ => rfl
theorem bd_m_Keeper_ways : BdOk "ways" "Keeper.ways" (inClass (topS 126) 6) ["self", "text"] := fun _ _ _ _ _ _ us hl => match us, hl with | [_, _], _ => rfl
theorem bd_m_Keeper_listed_value : BdOk "listed_value" "Keeper.listed_value" (inClass (topS 126) 7) ["self", "number"] := fun _ _ _ _ _ _ us hl => match us, hl with | [_, _], _ => rfl
theorem bd_m_Keeper_lengths : BdOk "lengths" "Keeper.lengths" (inClass (topS 126) 8) ["self"] := fun _ _ _ _ _ _ us hl => match us, hl with | [_], _ => rfl
theorem bd_m_Keeper_come_back : BdOk "come_back" "Keeper.come_back" (inClass (topS 126) 9) ["self", "value"] := fun _ _ _ _ _ _ us hl => match us, hl with | [_, _], _ => rfl
theorem bd_m_Keeper_put : BdOk "put" "Keeper.put" (inClass (topS 126) 10) ["self", "pieces"] := fun _ _ _ _ _ _ us hl => match us, hl with | [_, _], _ => rfl
end FX
end
section
set_option Elab.async false
set_option linter.all false
set_option maxRecDepth 100000
set_option maxHeartbeats 4000000
namespace FX
open PySem PySem.Spec PyProof.Rows L2
section
variable {K : PySem.W.Frag} {h : Heap} {mg : Str → Option Value} {x m qual : Str} {C f a : Addr} {st : Stmt} {ps fields : List Str} {oc kV doc pm cdv ct : Value} {od an : Option Addr} {osl : Array (Option Value)} {t : Tok}
theorem num_of {n : Int} (X : K.In h) (G : h.Ns mainGlobals mg) (e : PySem.W.nsIn K mainGlobals x = some (some (.int n t))) : NumIs mg x n := ⟨t, PySem.W.mg_of X G e⟩
theorem txt_of {z : Str} (X : K.In h) (G : h.Ns mainGlobals mg) (e : PySem.W.nsIn K mainGlobals x = some (some (.str z t))) : TxtIs mg x z := ⟨t, PySem.W.mg_of X G e⟩
theorem tup_of {xs : List V} {its : Array Value} {n : Nat} (X : K.In h) (G : h.Ns mainGlobals mg) (e : PySem.W.nsIn K mainGlobals x = some (some (.ref a))) (l : K.lookup a = some ⟨.type "tuple", none, .seq its n, osl⟩)
    (z : its.size ≤ 100) (v : Vals xs its.toList) : TupIs K mg x a xs :=
  ⟨PySem.W.mg_of X G e, fun _ => .inr ⟨_, its, n, l, rfl, rfl, Nat.le_trans z (by decide), v⟩, ⟨_, l, rfl, rfl⟩⟩
theorem f_of (_X : K.In h) (e : PySem.W.findCls K (.type "Exception") (.type "type") "__init__" = some (.val (.builtin "Exception.__init__"))) : PySem.W.findCls K (.type "Exception") (.type "type") "__init__" = some (.val (.builtin "Exception.__init__")) := e
theorem def_of (X : K.In h) (G : h.Ns mainGlobals mg) (b : BdOk x qual st ps) (e : PySem.W.nsIn K mainGlobals x = some (some (.ref f)))
    (l : K.lookup f = some ⟨oc, od, .func (PySem.W.fnOf x qual (defArgs st) (defBody st) (defScope st) .none kV doc pm an cdv ct), osl⟩) (cd : PySem.W.codeIn K cdv qual = true) (kp : PySem.W.keepIn K (.ref f) = true) : DefAt K mg x qual st ps :=
  have F := fun_mk (st := st) l cd kp
  ⟨f, _, F, PySem.W.mg_of X G e, F.binds b⟩
theorem init_of (_X : K.In h) (b : BdOk "__init__" qual st ps) (_g : mg x = some (.ref C)) (e : PySem.W.findIn K (.ref C) "__init__" = some (some (.ref f))) (i : PySem.W.isFn K (.ref f) = true)
    (l : K.lookup f = some ⟨oc, od, .func (PySem.W.fnOf "__init__" qual (defArgs st) (defBody st) (defScope st) .none kV doc pm an cdv ct), osl⟩) (cd : PySem.W.codeIn K cdv qual = true) (kp : PySem.W.keepIn K (.ref f) = true) : InitAt K C qual st ps :=
  have F := fun_mk (st := st) l cd kp
  ⟨f, _, e, i, F, F.binds b⟩
theorem meth_of (_X : K.In h) (b : BdOk m qual st ps) (_g : mg x = some (.ref C)) (e : PySem.W.findIn K (.ref C) m = some (some (.ref f))) (i : PySem.W.isFn K (.ref f) = true)
    (l : K.lookup f = some ⟨oc, od, .func (PySem.W.fnOf m qual (defArgs st) (defBody st) (defScope st) .none kV doc pm an cdv ct), osl⟩) (cd : PySem.W.codeIn K cdv qual = true) (kp : PySem.W.keepIn K (.ref f) = true) : MethAt K C m qual st ps :=
  have F := fun_mk (st := st) l cd kp
  ⟨f, _, ⟨e, i, kp⟩, F, F.binds b⟩
theorem na_nil : ∀ f, f ∈ ([] : List Str) → NoAttr K C f := fun _ m => absurd m (by simp)
theorem na_cons {f : Str} (e : PySem.W.findIn K (.ref C) f = some none) (r : ∀ g, g ∈ fields → NoAttr K C g) : ∀ g, g ∈ f :: fields → NoAttr K C g := fun g m => by
  rcases List.mem_cons.mp m with m | m
  · rw [m]
    exact e
  · exact r g m
theorem class_of (X : K.In h) (G : h.Ns mainGlobals mg) (e : PySem.W.nsIn K mainGlobals x = some (some (.ref C))) (pg : PySem.W.plainGet K C Str.empty = true) (hd : PySem.W.hasDictIn K C = true) (po : PySem.W.plainOver K C = true)
    (sa : PySem.W.findIn K (.ref C) "__setattr__" = some (some (.builtin "object.__setattr__"))) (mk : PySem.W.makesIn K C = true) (kp : PySem.W.keepIn K (.ref C) = true) (na : ∀ f, f ∈ fields → NoAttr K C f) : ClassAt K mg x C fields :=
  ⟨PySem.W.mg_of X G e, ⟨pg, hd, po, sa⟩, mk, kp, na⟩
theorem named_self (h1 : PySem.W.subIn K (.ref C) (.type "BaseException") = some true) (h2 : PySem.W.isClsIn K C = true) (h3 : PySem.W.typeIn K (.ref C) = some (.type "type")) (h4 : PySem.W.subIn K (.ref C) (.ref C) = some true) : PySem.W.exmOne K (.ref C) (.ref C) = some true := by
  have h2' : (PySem.W.clsIn K C).isSome = true := h2
  unfold PySem.W.exmOne PySem.W.kitCls
  simp [h1, h2', h3, h4]
theorem err_of {nm q : Str} {N : Addr} {bs : List Value} {sn : List Str} {sub : List Value} {ab : Bool} {col : Option Bool} {dd : Option Addr} {k0 k1 k2 k3 k5 : Option Value} (X : K.In h) (G : h.Ns mainGlobals mg) (e : PySem.W.nsIn K mainGlobals x = some (some (.ref C)))
    (l : K.lookup C = some (excClassObj nm q C N bs [.type "Exception", .type "BaseException", .type "object"] true sn sub ab col dd k0 k1 k2 k3 k5 "Exception.__new__")) (sa : PySem.W.findIn K (.ref C) "__setattr__" = some (some (.builtin "object.__setattr__")))
    (eC : PySem.W.subIn K (.ref C) (.type "BaseException") = some true) (tC : PySem.W.typeIn K (.ref C) = some (.type "type")) (kC : PySem.W.keepIn K (.ref C) = true) (ga : PySem.W.findIn K (.ref C) "__getattribute__" = some (some (.builtin "BaseException.__getattribute__")))
    (gg : PySem.W.findIn K (.ref C) "__getattr__" = some none) (hC : PySem.W.hasDictIn K C = true) (iC : PySem.W.isClsIn K C = true) (sC : PySem.W.subIn K (.ref C) (.ref C) = some true) (na : ∀ f, f ∈ fields → NoAttr K C f) : ErrAt K mg x C fields :=
  ⟨PySem.W.mg_of X G e, ⟨⟨nm, q, N, bs, _, sn, sub, ab, col, dd, k0, k1, k2, k3, k5, l, by decide +kernel⟩, sa, eC, tC, kC⟩, ⟨ga, gg, eC, hC⟩, named_self eC iC tC sC, na⟩
end
/-- the entries of a written dict -/
inductive DEnt : List DictEntry → List (Key × V) → List (Key × Value) → Prop
  | nil : DEnt [] [] []
  | cons {i : Int} {t u : Tok} {z : Str} {es kvs vs} : DEnt es kvs vs → DEnt (⟨hashInt i, .int i t, .str z u⟩ :: es) ((.inl i, .str z) :: kvs) ((.inl i, .str z u) :: vs)
theorem DEnt.kv {es kvs vs} (d : DEnt es kvs vs) : KV kvs vs := by
  induction d with
  | nil => exact .nil
  | cons _ ih => exact .cons ⟨rfl, ⟨_, rfl⟩⟩ ih
theorem DEnt.pairs {P : Program} {w : World} {es kvs vs} (d : DEnt es kvs vs) : Pairs (mixKind P w) es vs := by
  induction d with
  | nil => exact .nil
  | @cons i t u z _ _ _ _ ih => exact .cons (keyIs_int i t) rfl ih
theorem DEnt.keys {P : Program} {w : World} {es kvs vs} (d : DEnt es kvs vs) : ∀ e ∈ es, ∃ k, (mixKind P w).is k e.key = true ∧ e.hash = (mixKind P w).hash k := by
  induction d with
  | nil => intro e m; cases m
  | @cons i t u z es kvs vs _ ih =>
    intro e m
    rcases List.mem_cons.mp m with m | m
    · rw [m]
      exact ⟨.inl i, keyIs_int i t, rfl⟩
    · exact ih e m
theorem DEnt.fst {es kvs vs} (d : DEnt es kvs vs) : vs.map (·.1) = kvs.map (·.1) := by
  induction d with
  | nil => rfl
  | cons _ ih => rw [List.map_cons, List.map_cons, ih]
theorem dic_of {K : PySem.W.Frag} {h : Heap} {mg : Str → Option Value} {x : Str} {a : Addr} {kvs : List (Key × V)} {vs : List (Key × Value)} {es : Array DictEntry} {n : Nat} (X : K.In h) (G : h.Ns mainGlobals mg) (e : PySem.W.nsIn K mainGlobals x = some (some (.ref a)))
    (nd : (a == sysModules) = false) (l : K.lookup a = some ⟨.type "dict", none, .dict es n, #[]⟩) (d : DEnt es.toList kvs vs) (u : (kvs.map (·.1)).Nodup) : DicIs K mg x a kvs :=
  ⟨PySem.W.mg_of X G e, nd, vs, d.kv, fun P w h' X' => ⟨_, es, n, X' _ _ l, ⟨rfl, rfl, rfl⟩, rfl, fun z m => d.keys z (by simpa using m), d.pairs, by rw [d.fst]; exact u⟩⟩
end FX
end
set_option Elab.async false
set_option linter.all false
open PySem PySem.W PyProof.Rows
def PySem.W.Fast.tw8412973721499574262 : Unit := ()
def PySem.W.Fast.tw14858974380365537463 : Unit := ()
def PySem.W.Fast.tw16630151771225045093 : Unit := ()
def PySem.W.Fast.tw5242153264312523119 : Unit := ()
def PySem.W.Fast.tw9627179384963254377 : Unit := ()
def PySem.W.Fast.tw12284468125300133739 : Unit := ()
def PySem.W.Fast.tw8858836038442399134 : Unit := ()
def PySem.W.Fast.tw3792042488967434945 : Unit := ()
def PySem.W.Fast.tw15559148204740354102 : Unit := ()
def PySem.W.Fast.tw13461679739720178376 : Unit := ()
def PySem.W.Fast.tw7662176210648368638 : Unit := ()
def PySem.W.Fast.tw13328545521033286014 : Unit := ()
def PySem.W.Fast.tw1903292573699482868 : Unit := ()
def PySem.W.Fast.tw4513342148025833337 : Unit := ()
def PySem.W.Fast.tw9858856805438633865 : Unit := ()
def PySem.W.Fast.tw11113145321325717999 : Unit := ()
def PySem.W.Fast.tw17746046034495448030 : Unit := ()
def PySem.W.Fast.tw3583010572295660481 : Unit := ()
def PySem.W.Fast.tw11786870862457986380 : Unit := ()
def PySem.W.Fast.tw17005054014769905825 : Unit := ()
def PySem.W.Fast.tw13521997038911544836 : Unit := ()
def PySem.W.Fast.tw15763028893225807992 : Unit := ()
set_option maxRecDepth 100000 in
set_option maxHeartbeats 16000000 in
theorem PySem.Challenge.cw_formattexts_s01_answers_holds : PySem.Challenge.rw_formattexts_s01_answers.Holds := by
  w_on; k_headS; (case hw => exact ⟨[.list [.int 1]], by decide +kernel, by decide +kernel⟩)
  k_fillS
  refine L2.walk_specK (r := PySem.Challenge.rw_formattexts_s01_answers) (k := 91) (CX := L2.CX0) (ps := ["calls"]) (sp := FX.spAnswers) (by decide +kernel) rfl rfl ⟨rfl, by decide, by decide⟩ (fun w h Y => PySem.W.kIn_of Y) ?F ?S (fun _ _ _ _ z => z)
  case F =>
    intro w mg fa h Y KX G hmg
    refine FX.fin_of (h := h) ?_ hmg
    have n_NO_TOKEN : FX.NumIs mg "NO_TOKEN" 1 := FX.num_of KX G (by k_is)
    have n_OUT_OF_PLACE : FX.NumIs mg "OUT_OF_PLACE" 2 := FX.num_of KX G (by k_is)
    have n_OUT_OF_BOUNDS : FX.NumIs mg "OUT_OF_BOUNDS" 3 := FX.num_of KX G (by k_is)
    have n_TOO_MANY : FX.NumIs mg "TOO_MANY" 4 := FX.num_of KX G (by k_is)
    have n_REPEAT_WITHIN_REPEAT : FX.NumIs mg "REPEAT_WITHIN_REPEAT" 5 := FX.num_of KX G (by k_is)
    have n_TOO_MUCH_GONE_THROUGH : FX.NumIs mg "TOO_MUCH_GONE_THROUGH" 6 := FX.num_of KX G (by k_is)
    have n_LITERAL : FX.NumIs mg "LITERAL" 0 := FX.num_of KX G (by k_is)
    have n_NUMBER : FX.NumIs mg "NUMBER" 1 := FX.num_of KX G (by k_is)
    have n_WORD : FX.NumIs mg "WORD" 2 := FX.num_of KX G (by k_is)
    have n_ALTERNATIVES : FX.NumIs mg "ALTERNATIVES" 3 := FX.num_of KX G (by k_is)
    have n_OPTIONAL : FX.NumIs mg "OPTIONAL" 4 := FX.num_of KX G (by k_is)
    have n_REPEAT : FX.NumIs mg "REPEAT" 5 := FX.num_of KX G (by k_is)
    have n_MOST_PIECES : FX.NumIs mg "MOST_PIECES" 14 := FX.num_of KX G (by k_is)
    have n_MOST_GONE_THROUGH : FX.NumIs mg "MOST_GONE_THROUGH" 8 := FX.num_of KX G (by k_is)
    have n_MOST_TEXT_BYTES_pieces : FX.NumIs mg "MOST_TEXT_BYTES_pieces" 8 := FX.num_of KX G (by k_is)
    have n_HIGHEST_BOUND : FX.NumIs mg "HIGHEST_BOUND" 4 := FX.num_of KX G (by k_is)
    have n_ROW_END : FX.NumIs mg "ROW_END" 10 := FX.num_of KX G (by k_is)
    have n_BLANK : FX.NumIs mg "BLANK" 32 := FX.num_of KX G (by k_is)
    have n_QUOTE : FX.NumIs mg "QUOTE" 34 := FX.num_of KX G (by k_is)
    have n_ZERO : FX.NumIs mg "ZERO" 48 := FX.num_of KX G (by k_is)
    have n_NINE : FX.NumIs mg "NINE" 57 := FX.num_of KX G (by k_is)
    have n_BACKSLASH : FX.NumIs mg "BACKSLASH" 92 := FX.num_of KX G (by k_is)
    have n_SMALL_A : FX.NumIs mg "SMALL_A" 97 := FX.num_of KX G (by k_is)
    have n_SMALL_Z : FX.NumIs mg "SMALL_Z" 122 := FX.num_of KX G (by k_is)
    have n_LAST_BYTE : FX.NumIs mg "LAST_BYTE" 126 := FX.num_of KX G (by k_is)
    have n_LETTER_COUNT : FX.NumIs mg "LETTER_COUNT" 26 := FX.num_of KX G (by k_is)
    have n_END_plans : FX.NumIs mg "END_plans" 0 := FX.num_of KX G (by k_is)
    have n_MOST_LETTERS : FX.NumIs mg "MOST_LETTERS" 6 := FX.num_of KX G (by k_is)
    have n_MOST_DIGITS : FX.NumIs mg "MOST_DIGITS" 4 := FX.num_of KX G (by k_is)
    have n_MOST_VALUES : FX.NumIs mg "MOST_VALUES" 6 := FX.num_of KX G (by k_is)
    have n_MOST_NUMERALS : FX.NumIs mg "MOST_NUMERALS" 60 := FX.num_of KX G (by k_is)
    have n_LOAD : FX.NumIs mg "LOAD" 0 := FX.num_of KX G (by k_is)
    have n_SHOWN : FX.NumIs mg "SHOWN" 1 := FX.num_of KX G (by k_is)
    have n_FORMAT : FX.NumIs mg "FORMAT" 2 := FX.num_of KX G (by k_is)
    have n_PRINT : FX.NumIs mg "PRINT" 3 := FX.num_of KX G (by k_is)
    have n_SCAN : FX.NumIs mg "SCAN" 4 := FX.num_of KX G (by k_is)
    have n_WAYS : FX.NumIs mg "WAYS" 5 := FX.num_of KX G (by k_is)
    have n_TOLD : FX.NumIs mg "TOLD" 6 := FX.num_of KX G (by k_is)
    have n_LENGTHS : FX.NumIs mg "LENGTHS" 7 := FX.num_of KX G (by k_is)
    have n_ROUND : FX.NumIs mg "ROUND" 8 := FX.num_of KX G (by k_is)
    have n_PUT : FX.NumIs mg "PUT" 9 := FX.num_of KX G (by k_is)
    have n_MOST_SOURCE_BYTES : FX.NumIs mg "MOST_SOURCE_BYTES" 1200 := FX.num_of KX G (by k_is)
    have n_MOST_TEXT_BYTES_scanning : FX.NumIs mg "MOST_TEXT_BYTES_scanning" 24 := FX.num_of KX G (by k_is)
    have n_MOST_NUMBERS : FX.NumIs mg "MOST_NUMBERS" 60 := FX.num_of KX G (by k_is)
    have n_HIGHEST_NUMBER : FX.NumIs mg "HIGHEST_NUMBER" 9999 := FX.num_of KX G (by k_is)
    have n_MARK : FX.TxtIs mg "MARK" "mark" := FX.txt_of KX G (by k_is)
    have n_NUMERAL : FX.TxtIs mg "NUMERAL" "numeral" := FX.txt_of KX G (by k_is)
    have n_STRING : FX.TxtIs mg "STRING" "string" := FX.txt_of KX G (by k_is)
    have n_END_tokens : FX.TxtIs mg "END_tokens" "end" := FX.txt_of KX G (by k_is)
    have n_LETTERS : FX.TxtIs mg "LETTERS" "abcdefghijklmnopqrstuvwxyz" := FX.txt_of KX G (by k_is)
    have n_KIND_WORDS := FX.tup_of (x := "KIND_WORDS") (xs := [.str "", .str "num", .str "word", .str "alt", .str "opt", .str "rep"]) KX G (by k_is) (by k_is) (by decide) (by exact (.cons ⟨_, rfl⟩ (.cons ⟨_, rfl⟩ (.cons ⟨_, rfl⟩ (.cons ⟨_, rfl⟩ (.cons ⟨_, rfl⟩ (.cons ⟨_, rfl⟩ .nil)))))))
    have n_ROW_COUNTS := FX.tup_of (x := "ROW_COUNTS") (xs := [.int 0, .int 0, .int 0, .int 2, .int 1, .int 1]) KX G (by k_is) (by k_is) (by decide) (by exact (.cons ⟨_, rfl⟩ (.cons ⟨_, rfl⟩ (.cons ⟨_, rfl⟩ (.cons ⟨_, rfl⟩ (.cons ⟨_, rfl⟩ (.cons ⟨_, rfl⟩ .nil)))))))
    have n_SIGNS := FX.dic_of (x := "SIGNS") (kvs := FX.signKV) KX G (by k_is) (by decide) (by k_is) (by exact .cons (i := 40) (.cons (i := 41) (.cons (i := 59) (.cons (i := 123) (.cons (i := 125) .nil))))) (by decide)
    have b_len : mg "len" = none := PySem.W.mg_none_of KX G (by k_is)
    have b_sum : mg "sum" = none := PySem.W.mg_none_of KX G (by k_is)
    have b_max : mg "max" = none := PySem.W.mg_none_of KX G (by k_is)
    have b_min : mg "min" = none := PySem.W.mg_none_of KX G (by k_is)
    have b_all : mg "all" = none := PySem.W.mg_none_of KX G (by k_is)
    have b_range : mg "range" = none := PySem.W.mg_none_of KX G (by k_is)
    have b_reversed : mg "reversed" = none := PySem.W.mg_none_of KX G (by k_is)
    have b_ord : mg "ord" = none := PySem.W.mg_none_of KX G (by k_is)
    have b_str : mg "str" = none := PySem.W.mg_none_of KX G (by k_is)
    have b_list : mg "list" = none := PySem.W.mg_none_of KX G (by k_is)
    have b_Exception : mg "Exception" = none := PySem.W.mg_none_of KX G (by k_is)
    have f_Exception : PySem.W.findCls _ (.type "Exception") (.type "type") "__init__" = some (.val (.builtin "Exception.__init__")) := FX.f_of KX (by k_is)
    have a_has_text := FX.def_of KX G FX.bd_a_has_text (by k_is) (by k_is) (by k_is) (by k_is)
    have a_has_bounds := FX.def_of KX G FX.bd_a_has_bounds (by k_is) (by k_is) (by k_is) (by k_is)
    have a_fewest_text_bytes := FX.def_of KX G FX.bd_a_fewest_text_bytes (by k_is) (by k_is) (by k_is) (by k_is)
    have a_lowest_bound := FX.def_of KX G FX.bd_a_lowest_bound (by k_is) (by k_is) (by k_is) (by k_is)
    have a_read_behind_text := FX.def_of KX G FX.bd_a_read_behind_text (by k_is) (by k_is) (by k_is) (by k_is)
    have a_piece_count := FX.def_of KX G FX.bd_a_piece_count (by k_is) (by k_is) (by k_is) (by k_is)
    have a_gone_through := FX.def_of KX G FX.bd_a_gone_through (by k_is) (by k_is) (by k_is) (by k_is)
    have a_piece_gone_through := FX.def_of KX G FX.bd_a_piece_gone_through (by k_is) (by k_is) (by k_is) (by k_is)
    have a_is_digit := FX.def_of KX G FX.bd_a_is_digit (by k_is) (by k_is) (by k_is) (by k_is)
    have a_is_letter := FX.def_of KX G FX.bd_a_is_letter (by k_is) (by k_is) (by k_is) (by k_is)
    have a_spelled := FX.def_of KX G FX.bd_a_spelled (by k_is) (by k_is) (by k_is) (by k_is)
    have a_number_of := FX.def_of KX G FX.bd_a_number_of (by k_is) (by k_is) (by k_is) (by k_is)
    have a_row_numbers := FX.def_of KX G FX.bd_a_row_numbers (by k_is) (by k_is) (by k_is) (by k_is)
    have a_piece_numbers := FX.def_of KX G FX.bd_a_piece_numbers (by k_is) (by k_is) (by k_is) (by k_is)
    have a_one_form := FX.def_of KX G FX.bd_a_one_form (by k_is) (by k_is) (by k_is) (by k_is)
    have a_line_of := FX.def_of KX G FX.bd_a_line_of (by k_is) (by k_is) (by k_is) (by k_is)
    have a_value_line := FX.def_of KX G FX.bd_a_value_line (by k_is) (by k_is) (by k_is) (by k_is)
    have a_row_words := FX.def_of KX G FX.bd_a_row_words (by k_is) (by k_is) (by k_is) (by k_is)
    have a_piece_words := FX.def_of KX G FX.bd_a_piece_words (by k_is) (by k_is) (by k_is) (by k_is)
    have a_quoted := FX.def_of KX G FX.bd_a_quoted (by k_is) (by k_is) (by k_is) (by k_is)
    have a_read_format := FX.def_of KX G FX.bd_a_read_format (by k_is) (by k_is) (by k_is) (by k_is)
    have a_shortest_length := FX.def_of KX G FX.bd_a_shortest_length (by k_is) (by k_is) (by k_is) (by k_is)
    have a_shortest_piece_length := FX.def_of KX G FX.bd_a_shortest_piece_length (by k_is) (by k_is) (by k_is) (by k_is)
    have a_longest_length := FX.def_of KX G FX.bd_a_longest_length (by k_is) (by k_is) (by k_is) (by k_is)
    have a_longest_piece_length := FX.def_of KX G FX.bd_a_longest_piece_length (by k_is) (by k_is) (by k_is) (by k_is)
    have a_repeated_length := FX.def_of KX G FX.bd_a_repeated_length (by k_is) (by k_is) (by k_is) (by k_is)
    have a_beginnings := FX.def_of KX G FX.bd_a_beginnings (by k_is) (by k_is) (by k_is) (by k_is)
    have a_steps_of := FX.def_of KX G FX.bd_a_steps_of (by k_is) (by k_is) (by k_is) (by k_is)
    have a_lay_row := FX.def_of KX G FX.bd_a_lay_row (by k_is) (by k_is) (by k_is) (by k_is)
    have a_lay_piece := FX.def_of KX G FX.bd_a_lay_piece (by k_is) (by k_is) (by k_is) (by k_is)
    have a_lay_step := FX.def_of KX G FX.bd_a_lay_step (by k_is) (by k_is) (by k_is) (by k_is)
    have a_choices := FX.def_of KX G FX.bd_a_choices (by k_is) (by k_is) (by k_is) (by k_is)
    have a_lay_times := FX.def_of KX G FX.bd_a_lay_times (by k_is) (by k_is) (by k_is) (by k_is)
    have a_print_of := FX.def_of KX G FX.bd_a_print_of (by k_is) (by k_is) (by k_is) (by k_is)
    have a_way_counts := FX.def_of KX G FX.bd_a_way_counts (by k_is) (by k_is) (by k_is) (by k_is)
    have a_ways_from := FX.def_of KX G FX.bd_a_ways_from (by k_is) (by k_is) (by k_is) (by k_is)
    have a_scanning_count := FX.def_of KX G FX.bd_a_scanning_count (by k_is) (by k_is) (by k_is) (by k_is)
    have a_first_scanning := FX.def_of KX G FX.bd_a_first_scanning (by k_is) (by k_is) (by k_is) (by k_is)
    have a_first_lead := FX.def_of KX G FX.bd_a_first_lead (by k_is) (by k_is) (by k_is) (by k_is)
    have a_read_tokens := FX.def_of KX G FX.bd_a_read_tokens (by k_is) (by k_is) (by k_is) (by k_is)
    have a_past_blanks := FX.def_of KX G FX.bd_a_past_blanks (by k_is) (by k_is) (by k_is) (by k_is)
    have a_token_at := FX.def_of KX G FX.bd_a_token_at (by k_is) (by k_is) (by k_is) (by k_is)
    have a_run_end := FX.def_of KX G FX.bd_a_run_end (by k_is) (by k_is) (by k_is) (by k_is)
    have a_sign_word_at := FX.def_of KX G FX.bd_a_sign_word_at (by k_is) (by k_is) (by k_is) (by k_is)
    have a_numeral_at := FX.def_of KX G FX.bd_a_numeral_at (by k_is) (by k_is) (by k_is) (by k_is)
    have a_string_at := FX.def_of KX G FX.bd_a_string_at (by k_is) (by k_is) (by k_is) (by k_is)
    have a_can_stand_in_string := FX.def_of KX G FX.bd_a_can_stand_in_string (by k_is) (by k_is) (by k_is) (by k_is)
    have a_read_source := FX.def_of KX G FX.bd_a_read_source (by k_is) (by k_is) (by k_is) (by k_is)
    have a_is_mark := FX.def_of KX G FX.bd_a_is_mark (by k_is) (by k_is) (by k_is) (by k_is)
    have a_kind_begun := FX.def_of KX G FX.bd_a_kind_begun (by k_is) (by k_is) (by k_is) (by k_is)
    have a_is_whole_value := FX.def_of KX G FX.bd_a_is_whole_value (by k_is) (by k_is) (by k_is) (by k_is)
    have a_counted := FX.def_of KX G FX.bd_a_counted (by k_is) (by k_is) (by k_is) (by k_is)
    have a_found := FX.def_of KX G FX.bd_a_found (by k_is) (by k_is) (by k_is) (by k_is)
    have a_has_list := FX.def_of KX G FX.bd_a_has_list (by k_is) (by k_is) (by k_is) (by k_is)
    have a_answer := FX.def_of KX G FX.bd_a_answer (by k_is) (by k_is) (by k_is) (by k_is)
    have a_answers := FX.def_of KX G FX.bd_a_answers (by k_is) (by k_is) (by k_is) (by k_is)
    have c_Fault := FX.err_of (x := "Fault") KX G (by k_is) (by k_is) (by k_is) (by k_is) (by k_is) (by k_is) (by k_is) (by k_is) (by k_is) (by k_is) (by first | rfl | k_is) (FX.na_cons (f := "kind") (by k_is) (FX.na_cons (f := "place") (by k_is) FX.na_nil))
    have i_Fault := FX.init_of KX FX.bd_i_Fault c_Fault.gl (by k_is) (by k_is) (by k_is) (by k_is) (by k_is)
    have c_Piece := FX.class_of (x := "Piece") KX G (by k_is) (by k_is) (by k_is) (by k_is) (by k_is) (by k_is) (by k_is) (FX.na_cons (f := "kind") (by k_is) (FX.na_cons (f := "text") (by k_is) (FX.na_cons (f := "lo") (by k_is) (FX.na_cons (f := "hi") (by k_is) (FX.na_cons (f := "rows") (by k_is) FX.na_nil)))))
    have i_Piece := FX.init_of KX FX.bd_i_Piece c_Piece.gl (by k_is) (by k_is) (by k_is) (by k_is) (by k_is)
    have c_NotAFormat := FX.err_of (x := "NotAFormat") KX G (by k_is) (by k_is) (by k_is) (by k_is) (by k_is) (by k_is) (by k_is) (by k_is) (by k_is) (by k_is) (by first | rfl | k_is) FX.na_nil
    have i_NotAFormat := FX.init_of KX FX.bd_i_NotAFormat c_NotAFormat.gl (by k_is) (by k_is) (by k_is) (by k_is) (by k_is)
    have c_NumberReading := FX.class_of (x := "NumberReading") KX G (by k_is) (by k_is) (by k_is) (by k_is) (by k_is) (by k_is) (by k_is) (FX.na_cons (f := "numbers") (by k_is) (FX.na_cons (f := "at") (by k_is) (FX.na_cons (f := "pieces_read") (by k_is) FX.na_nil)))
    have i_NumberReading := FX.init_of KX FX.bd_i_NumberReading c_NumberReading.gl (by k_is) (by k_is) (by k_is) (by k_is) (by k_is)
    have m_NumberReading_take := FX.meth_of KX FX.bd_m_NumberReading_take c_NumberReading.gl (by k_is) (by k_is) (by k_is) (by k_is) (by k_is)
    have m_NumberReading_read_row := FX.meth_of KX FX.bd_m_NumberReading_read_row c_NumberReading.gl (by k_is) (by k_is) (by k_is) (by k_is) (by k_is)
    have m_NumberReading_read_piece := FX.meth_of KX FX.bd_m_NumberReading_read_piece c_NumberReading.gl (by k_is) (by k_is) (by k_is) (by k_is) (by k_is)
    have m_NumberReading_read_text := FX.meth_of KX FX.bd_m_NumberReading_read_text c_NumberReading.gl (by k_is) (by k_is) (by k_is) (by k_is) (by k_is)
    have m_NumberReading_read_bound := FX.meth_of KX FX.bd_m_NumberReading_read_bound c_NumberReading.gl (by k_is) (by k_is) (by k_is) (by k_is) (by k_is)
    have c_Lead := FX.class_of (x := "Lead") KX G (by k_is) (by k_is) (by k_is) (by k_is) (by k_is) (by k_is) (by k_is) (FX.na_cons (f := "numbers") (by k_is) (FX.na_cons (f := "text") (by k_is) (FX.na_cons (f := "target") (by k_is) FX.na_nil)))
    have i_Lead := FX.init_of KX FX.bd_i_Lead c_Lead.gl (by k_is) (by k_is) (by k_is) (by k_is) (by k_is)
    have c_TextStep := FX.class_of (x := "TextStep") KX G (by k_is) (by k_is) (by k_is) (by k_is) (by k_is) (by k_is) (by k_is) (FX.na_cons (f := "text") (by k_is) (FX.na_cons (f := "target") (by k_is) FX.na_nil))
    have i_TextStep := FX.init_of KX FX.bd_i_TextStep c_TextStep.gl (by k_is) (by k_is) (by k_is) (by k_is) (by k_is)
    have m_TextStep_by_value := FX.meth_of KX FX.bd_m_TextStep_by_value c_TextStep.gl (by k_is) (by k_is) (by k_is) (by k_is) (by k_is)
    have m_TextStep_by_text := FX.meth_of KX FX.bd_m_TextStep_by_text c_TextStep.gl (by k_is) (by k_is) (by k_is) (by k_is) (by k_is)
    have c_NumberStep := FX.class_of (x := "NumberStep") KX G (by k_is) (by k_is) (by k_is) (by k_is) (by k_is) (by k_is) (by k_is) (FX.na_cons (f := "lo") (by k_is) (FX.na_cons (f := "hi") (by k_is) (FX.na_cons (f := "target") (by k_is) FX.na_nil)))
    have i_NumberStep := FX.init_of KX FX.bd_i_NumberStep c_NumberStep.gl (by k_is) (by k_is) (by k_is) (by k_is) (by k_is)
    have m_NumberStep_by_value := FX.meth_of KX FX.bd_m_NumberStep_by_value c_NumberStep.gl (by k_is) (by k_is) (by k_is) (by k_is) (by k_is)
    have m_NumberStep_by_text := FX.meth_of KX FX.bd_m_NumberStep_by_text c_NumberStep.gl (by k_is) (by k_is) (by k_is) (by k_is) (by k_is)
    have c_WordStep := FX.class_of (x := "WordStep") KX G (by k_is) (by k_is) (by k_is) (by k_is) (by k_is) (by k_is) (by k_is) (FX.na_cons (f := "lo") (by k_is) (FX.na_cons (f := "hi") (by k_is) (FX.na_cons (f := "target") (by k_is) FX.na_nil)))
    have i_WordStep := FX.init_of KX FX.bd_i_WordStep c_WordStep.gl (by k_is) (by k_is) (by k_is) (by k_is) (by k_is)
    have m_WordStep_by_value := FX.meth_of KX FX.bd_m_WordStep_by_value c_WordStep.gl (by k_is) (by k_is) (by k_is) (by k_is) (by k_is)
    have m_WordStep_by_text := FX.meth_of KX FX.bd_m_WordStep_by_text c_WordStep.gl (by k_is) (by k_is) (by k_is) (by k_is) (by k_is)
    have c_ChoiceStep := FX.class_of (x := "ChoiceStep") KX G (by k_is) (by k_is) (by k_is) (by k_is) (by k_is) (by k_is) (by k_is) (FX.na_cons (f := "leads") (by k_is) FX.na_nil)
    have i_ChoiceStep := FX.init_of KX FX.bd_i_ChoiceStep c_ChoiceStep.gl (by k_is) (by k_is) (by k_is) (by k_is) (by k_is)
    have m_ChoiceStep_by_value := FX.meth_of KX FX.bd_m_ChoiceStep_by_value c_ChoiceStep.gl (by k_is) (by k_is) (by k_is) (by k_is) (by k_is)
    have m_ChoiceStep_by_text := FX.meth_of KX FX.bd_m_ChoiceStep_by_text c_ChoiceStep.gl (by k_is) (by k_is) (by k_is) (by k_is) (by k_is)
    have c_Token := FX.class_of (x := "Token") KX G (by k_is) (by k_is) (by k_is) (by k_is) (by k_is) (by k_is) (by k_is) (FX.na_cons (f := "kind") (by k_is) (FX.na_cons (f := "told") (by k_is) (FX.na_cons (f := "place") (by k_is) (FX.na_cons (f := "behind") (by k_is) FX.na_nil))))
    have i_Token := FX.init_of KX FX.bd_i_Token c_Token.gl (by k_is) (by k_is) (by k_is) (by k_is) (by k_is)
    have c_Source := FX.class_of (x := "Source") KX G (by k_is) (by k_is) (by k_is) (by k_is) (by k_is) (by k_is) (by k_is) (FX.na_cons (f := "row") (by k_is) (FX.na_cons (f := "listed") (by k_is) FX.na_nil))
    have i_Source := FX.init_of KX FX.bd_i_Source c_Source.gl (by k_is) (by k_is) (by k_is) (by k_is) (by k_is)
    have c_Reading := FX.class_of (x := "Reading") KX G (by k_is) (by k_is) (by k_is) (by k_is) (by k_is) (by k_is) (by k_is) (FX.na_cons (f := "tokens") (by k_is) (FX.na_cons (f := "at") (by k_is) (FX.na_cons (f := "pieces_read") (by k_is) FX.na_nil)))
    have i_Reading := FX.init_of KX FX.bd_i_Reading c_Reading.gl (by k_is) (by k_is) (by k_is) (by k_is) (by k_is)
    have m_Reading_next_is := FX.meth_of KX FX.bd_m_Reading_next_is c_Reading.gl (by k_is) (by k_is) (by k_is) (by k_is) (by k_is)
    have m_Reading_take := FX.meth_of KX FX.bd_m_Reading_take c_Reading.gl (by k_is) (by k_is) (by k_is) (by k_is) (by k_is)
    have m_Reading_take_kind := FX.meth_of KX FX.bd_m_Reading_take_kind c_Reading.gl (by k_is) (by k_is) (by k_is) (by k_is) (by k_is)
    have m_Reading_take_mark := FX.meth_of KX FX.bd_m_Reading_take_mark c_Reading.gl (by k_is) (by k_is) (by k_is) (by k_is) (by k_is)
    have m_Reading_read_row := FX.meth_of KX FX.bd_m_Reading_read_row c_Reading.gl (by k_is) (by k_is) (by k_is) (by k_is) (by k_is)
    have m_Reading_read_piece := FX.meth_of KX FX.bd_m_Reading_read_piece c_Reading.gl (by k_is) (by k_is) (by k_is) (by k_is) (by k_is)
    have m_Reading_check_piece := FX.meth_of KX FX.bd_m_Reading_check_piece c_Reading.gl (by k_is) (by k_is) (by k_is) (by k_is) (by k_is)
    have m_Reading_read_text := FX.meth_of KX FX.bd_m_Reading_read_text c_Reading.gl (by k_is) (by k_is) (by k_is) (by k_is) (by k_is)
    have m_Reading_read_bound := FX.meth_of KX FX.bd_m_Reading_read_bound c_Reading.gl (by k_is) (by k_is) (by k_is) (by k_is) (by k_is)
    have m_Reading_read_value := FX.meth_of KX FX.bd_m_Reading_read_value c_Reading.gl (by k_is) (by k_is) (by k_is) (by k_is) (by k_is)
    have c_Keeper := FX.class_of (x := "Keeper") KX G (by k_is) (by k_is) (by k_is) (by k_is) (by k_is) (by k_is) (by k_is) (FX.na_cons (f := "row") (by k_is) (FX.na_cons (f := "listed") (by k_is) FX.na_nil))
    have i_Keeper := FX.init_of KX FX.bd_i_Keeper c_Keeper.gl (by k_is) (by k_is) (by k_is) (by k_is) (by k_is)
    have m_Keeper_load := FX.meth_of KX FX.bd_m_Keeper_load c_Keeper.gl (by k_is) (by k_is) (by k_is) (by k_is) (by k_is)
    have m_Keeper_shown := FX.meth_of KX FX.bd_m_Keeper_shown c_Keeper.gl (by k_is) (by k_is) (by k_is) (by k_is) (by k_is)
    have m_Keeper_as_numbers := FX.meth_of KX FX.bd_m_Keeper_as_numbers c_Keeper.gl (by k_is) (by k_is) (by k_is) (by k_is) (by k_is)
    have m_Keeper_printed := FX.meth_of KX FX.bd_m_Keeper_printed c_Keeper.gl (by k_is) (by k_is) (by k_is) (by k_is) (by k_is)
    have m_Keeper_scanned := FX.meth_of KX FX.bd_m_Keeper_scanned c_Keeper.gl (by k_is) (by k_is) (by k_is) (by k_is) (by k_is)
    have m_Keeper_ways := FX.meth_of KX FX.bd_m_Keeper_ways c_Keeper.gl (by k_is) (by k_is) (by k_is) (by k_is) (by k_is)
    have m_Keeper_listed_value := FX.meth_of KX FX.bd_m_Keeper_listed_value c_Keeper.gl (by k_is) (by k_is) (by k_is) (by k_is) (by k_is)
    have m_Keeper_lengths := FX.meth_of KX FX.bd_m_Keeper_lengths c_Keeper.gl (by k_is) (by k_is) (by k_is) (by k_is) (by k_is)
    have m_Keeper_come_back := FX.meth_of KX FX.bd_m_Keeper_come_back c_Keeper.gl (by k_is) (by k_is) (by k_is) (by k_is) (by k_is)
    have m_Keeper_put := FX.meth_of KX FX.bd_m_Keeper_put c_Keeper.gl (by k_is) (by k_is) (by k_is) (by k_is) (by k_is)
    exact ⟨⟨_, _, _, _, _, _, _, _, _, _, _, _, _, _, _, _⟩, ⟨n_NO_TOKEN, n_OUT_OF_PLACE, n_OUT_OF_BOUNDS, n_TOO_MANY, n_REPEAT_WITHIN_REPEAT, n_TOO_MUCH_GONE_THROUGH, n_LITERAL, n_NUMBER, n_WORD, n_ALTERNATIVES, n_OPTIONAL, n_REPEAT, n_MOST_PIECES, n_MOST_GONE_THROUGH, n_MOST_TEXT_BYTES_pieces, n_HIGHEST_BOUND, n_ROW_END, n_BLANK, n_QUOTE, n_ZERO, n_NINE, n_BACKSLASH, n_SMALL_A, n_SMALL_Z, n_LAST_BYTE, n_LETTER_COUNT, n_END_plans, n_MOST_LETTERS, n_MOST_DIGITS, n_MOST_VALUES, n_MOST_NUMERALS, n_LOAD, n_SHOWN, n_FORMAT, n_PRINT, n_SCAN, n_WAYS, n_TOLD, n_LENGTHS, n_ROUND, n_PUT, n_MOST_SOURCE_BYTES, n_MOST_TEXT_BYTES_scanning, n_MOST_NUMBERS, n_HIGHEST_NUMBER, n_MARK, n_NUMERAL, n_STRING, n_END_tokens, n_LETTERS, n_KIND_WORDS, n_ROW_COUNTS, n_SIGNS, b_len, b_sum, b_max, b_min, b_all, b_range, b_reversed, b_ord, b_str, b_list, b_Exception, f_Exception, a_has_text, a_has_bounds, a_fewest_text_bytes, a_lowest_bound, a_read_behind_text, a_piece_count, a_gone_through, a_piece_gone_through, a_is_digit, a_is_letter, a_spelled, a_number_of, a_row_numbers, a_piece_numbers, a_one_form, a_line_of, a_value_line, a_row_words, a_piece_words, a_quoted, a_read_format, a_shortest_length, a_shortest_piece_length, a_longest_length, a_longest_piece_length, a_repeated_length, a_beginnings, a_steps_of, a_lay_row, a_lay_piece, a_lay_step, a_choices, a_lay_times, a_print_of, a_way_counts, a_ways_from, a_scanning_count, a_first_scanning, a_first_lead, a_read_tokens, a_past_blanks, a_token_at, a_run_end, a_sign_word_at, a_numeral_at, a_string_at, a_can_stand_in_string, a_read_source, a_is_mark, a_kind_begun, a_is_whole_value, a_counted, a_found, a_has_list, a_answer, a_answers, c_Fault, i_Fault, c_Piece, i_Piece, c_NotAFormat, i_NotAFormat, c_NumberReading, i_NumberReading, m_NumberReading_take, m_NumberReading_read_row, m_NumberReading_read_piece, m_NumberReading_read_text, m_NumberReading_read_bound, c_Lead, i_Lead, c_TextStep, i_TextStep, m_TextStep_by_value, m_TextStep_by_text, c_NumberStep, i_NumberStep, m_NumberStep_by_value, m_NumberStep_by_text, c_WordStep, i_WordStep, m_WordStep_by_value, m_WordStep_by_text, c_ChoiceStep, i_ChoiceStep, m_ChoiceStep_by_value, m_ChoiceStep_by_text, c_Token, i_Token, c_Source, i_Source, c_Reading, i_Reading, m_Reading_next_is, m_Reading_take, m_Reading_take_kind, m_Reading_take_mark, m_Reading_read_row, m_Reading_read_piece, m_Reading_check_piece, m_Reading_read_text, m_Reading_read_bound, m_Reading_read_value, c_Keeper, i_Keeper, m_Keeper_load, m_Keeper_shown, m_Keeper_as_numbers, m_Keeper_printed, m_Keeper_scanned, m_Keeper_ways, m_Keeper_listed_value, m_Keeper_lengths, m_Keeper_come_back, m_Keeper_put⟩⟩
  case S =>
    intro K H xs a hO hwi hask hx
    cases hx with
    | cons h1 h2 =>
      cases h2
      cases h1 with
      | lst hs ha =>
        have e := L2.ints_dw a.1 _ ha
        subst e
        exact ⟨_, a.1, rfl, hs, hask, fun p H' _ _ hp => .lst (L2.SqL.of hp) (L2.dw_ints _)⟩
#print axioms PySem.Challenge.cw_formattexts_s01_answers_holds
