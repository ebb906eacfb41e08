import PyProof.Rows.All
import VamvsaNeutral
import PyVamvsa
import Wide.All
import OpenK.AllK
import Wide.FinOn
import PyProof.EqAt
import PyProof.EqKinds
import PyProof.TupleCall
import Open.SpecLaws
import KE.OsGo
import HandS.ForSpec
import HandS.Comp
import HandS.Dict
import HandS.WordsDict
import HandS.Iter
import HandS.Text
import HandS.More
import HandS.Conv
import HandS.Deep
import HandS.FStr
import HandS.CallLocal
import HandS.ExcInit
import HandS.ExcField
import HandS.Lambda
import HandS.Nested
import HandS.TupSets
import HandS.EndTab
import KE.DataMinKey
import PySem.Challenge.RW_keptgroupings_s01_answers
import KE.KExcInit
import PyProof.AutoSeq1
import HandS.Walk
import HandS.ExcOwn
import HandS.Spec
import KE.KNest
set_option Elab.async false
set_option linter.all false
set_option maxRecDepth 100000
set_option maxHeartbeats 8000000
/-! The mathematics of the tokens: lex without fuel, one step at a time. -/
namespace Kg
open VamvsBase Vamvsa

abbrev By := List UInt8

theorem tw_le {α : Type} (f : α → Bool) : ∀ l : List α, (l.takeWhile f).length ≤ l.length
  | [] => Nat.le_refl _
  | a :: l => by
    rw [List.takeWhile_cons]
    split
    · exact Nat.succ_le_succ (tw_le f l)
    · exact Nat.zero_le _
theorem dw_le {α : Type} (f : α → Bool) : ∀ l : List α, (l.dropWhile f).length ≤ l.length
  | [] => Nat.le_refl _
  | a :: l => by
    rw [List.dropWhile_cons]
    split
    · exact Nat.le_succ_of_le (dw_le f l)
    · exact Nat.le_refl _
theorem dw_drop {α : Type} (f : α → Bool) : ∀ l : List α, l.dropWhile f = l.drop (l.takeWhile f).length
  | [] => rfl
  | a :: l => by
    rw [List.dropWhile_cons, List.takeWhile_cons]
    by_cases h : f a = true
    · simp only [h, if_true, List.length_cons, List.drop_succ_cons]
      exact dw_drop f l
    · simp [h]
theorem tw_take {α : Type} (f : α → Bool) : ∀ l : List α, l.takeWhile f = l.take (l.takeWhile f).length
  | [] => rfl
  | a :: l => by
    rw [List.takeWhile_cons]
    by_cases h : f a = true
    · simp only [h, if_true, List.length_cons, List.take_succ_cons]
      rw [← tw_take f l]
    · simp [h]

theorem token_len {l : By} {t : Tok} {n : Nat} (h : token l = some (t, n)) : 1 ≤ n ∧ n ≤ l.length := by
  cases l with
  | nil => cases h
  | cons b r =>
    unfold token at h
    simp only at h
    split at h
    · rename_i hb
      split at h
      · cases h
      · injection h with h
        injection h with h1 h2
        subst h2
        refine ⟨?_, tw_le _ _⟩
        rw [List.takeWhile_cons]
        simp [hb]
    · split at h
      · rename_i hb hd
        cases e : numberOf ((b :: r).takeWhile isDigit) with
        | none => rw [e] at h; cases h
        | some v =>
          rw [e] at h
          simp only [Option.map_some] at h
          injection h with h
          injection h with h1 h2
          subst h2
          refine ⟨?_, tw_le _ _⟩
          rw [List.takeWhile_cons]
          simp [hd]
      · split at h
        · injection h with h
          injection h with h1 h2
          subst h2
          exact ⟨Nat.le_refl _, Nat.succ_le_succ (Nat.zero_le _)⟩
        · cases h

theorem lex_fuel : ∀ (n m p : Nat) (l : By), l.length < n → l.length < m → lex n p l = lex m p l
  | 0, _, _, _, h, _ => absurd h (Nat.not_lt_zero _)
  | _ + 1, 0, _, _, _, h => absurd h (Nat.not_lt_zero _)
  | n + 1, m + 1, p, [], _, _ => rfl
  | n + 1, m + 1, p, b :: r, h, h' => by
    have hr : r.length < n := Nat.lt_of_succ_lt_succ h
    have hr' : r.length < m := Nat.lt_of_succ_lt_succ h'
    show (if isBlank b = true then _ else _) = (if isBlank b = true then _ else _)
    split
    · exact lex_fuel n m _ r hr hr'
    · split
      · exact lex_fuel n m _ _ (Nat.lt_of_le_of_lt (dw_le _ _) hr) (Nat.lt_of_le_of_lt (dw_le _ _) hr')
      · cases e : token (b :: r) with
        | none => rfl
        | some x =>
          obtain ⟨t, k⟩ := x
          have hk := token_len e
          have hl : ((b :: r).drop k).length < n := by
            rw [List.length_drop, List.length_cons]
            have : (b :: r).length = r.length + 1 := rfl
            omega
          have hl' : ((b :: r).drop k).length < m := by
            rw [List.length_drop, List.length_cons]
            have : (b :: r).length = r.length + 1 := rfl
            omega
          simp only
          rw [lex_fuel n m _ _ hl hl']

/-- lex with fuel enough -/
def lexF (p : Nat) (l : By) : Except Fault Toks := lex (l.length + 1) p l
theorem lexF_of {n p : Nat} {l : By} (h : l.length < n) : lex n p l = lexF p l := lex_fuel _ _ _ _ h (Nat.lt_succ_self _)
theorem lexF_nil (p : Nat) : lexF p [] = .ok [⟨p, .last⟩] := rfl
theorem lexF_blank {p : Nat} {b : UInt8} {r : By} (h : isBlank b = true) : lexF p (b :: r) = lexF (p + 1) r := by
  show (if isBlank b = true then _ else _) = _
  rw [if_pos h]
  exact lexF_of (Nat.lt_succ_self _)
theorem lexF_rem {p : Nat} {b : UInt8} {r : By} (h0 : isBlank b = false) (h : b = 35) : lexF p (b :: r) = lexF (p + ((b :: r).takeWhile (· != 10)).length) ((b :: r).drop ((b :: r).takeWhile (· != 10)).length) := by
  show (if isBlank b = true then _ else _) = _
  rw [h0, if_neg Bool.false_ne_true]
  subst h
  rw [if_pos (show ((35 : UInt8) == 35) = true from rfl)]
  have e : ((35 : UInt8) :: r).takeWhile (· != 10) = 35 :: r.takeWhile (· != 10) := by rw [List.takeWhile_cons]; rfl
  have e2 : ((35 : UInt8) :: r).drop ((35 : UInt8) :: r.takeWhile (· != 10)).length = r.dropWhile (· != 10) := by rw [dw_drop]; rfl
  rw [e, e2, show ((35 : UInt8) :: r.takeWhile (· != 10)).length = (r.takeWhile (· != 10)).length + 1 from rfl]
  rw [show p + 1 + (r.takeWhile (· != 10)).length = p + ((r.takeWhile (· != 10)).length + 1) from by omega]
  exact lexF_of (Nat.lt_of_le_of_lt (dw_le _ _) (Nat.lt_succ_self _))
theorem lexF_none {p : Nat} {b : UInt8} {r : By} (h0 : isBlank b = false) (h1 : b ≠ 35) (h : token (b :: r) = none) : lexF p (b :: r) = .error ⟨2, p⟩ := by
  show (if isBlank b = true then _ else _) = _
  have h2 : (b == 35) = false := by simpa using h1
  rw [h0, if_neg Bool.false_ne_true, h2, if_neg Bool.false_ne_true, h]
theorem lexF_some {p n : Nat} {b : UInt8} {r : By} {t : Tok} (h0 : isBlank b = false) (h1 : b ≠ 35) (h : token (b :: r) = some (t, n)) :
    lexF p (b :: r) = (lexF (p + n) ((b :: r).drop n)).map fun l => ⟨p, t⟩ :: l := by
  show (if isBlank b = true then _ else _) = _
  have h2 : (b == 35) = false := by simpa using h1
  rw [h0, if_neg Bool.false_ne_true, h2, if_neg Bool.false_ne_true, h]
  have hk := token_len h
  have hl : ((b :: r).drop n).length < (b :: r).length := by
    rw [List.length_drop]
    have : (b :: r).length = r.length + 1 := rfl
    omega
  simp only
  rw [lexF_of hl]
theorem tokens_eq (b : By) : tokens b = if 4096 < b.length then .error ⟨1, 4096⟩ else lexF 0 b := rfl

/-! what stands at a place -/
theorem drop_at {α : Type} {l : List α} {p : Nat} {c : α} (h : l[p]? = some c) : l.drop p = c :: l.drop (p + 1) := by
  obtain ⟨hp, e⟩ := List.getElem?_eq_some_iff.mp h
  rw [List.drop_eq_getElem_cons hp, e]

/-- where the remark's line ends -/
def remEnd (b : By) (p : Nat) : Nat := p + ((b.drop p).takeWhile (· != 10)).length
theorem remEnd_more {b : By} {p : Nat} {c : UInt8} (h : b[p]? = some c) (hc : c ≠ 10) : remEnd b p = remEnd b (p + 1) := by
  unfold remEnd
  have h2 : (c != 10) = true := by simpa using hc
  rw [drop_at h, List.takeWhile_cons, h2, if_pos rfl, List.length_cons]
  omega
theorem remEnd_here {b : By} {p : Nat} (h : b[p]? = some 10) : remEnd b p = p := by
  unfold remEnd
  rw [drop_at h, List.takeWhile_cons]
  rfl
theorem remEnd_end {b : By} {p : Nat} (h : b.length ≤ p) : remEnd b p = p := by
  unfold remEnd
  rw [List.drop_eq_nil_of_le h]
  rfl
theorem remEnd_le {b : By} {p : Nat} (h : p ≤ b.length) : remEnd b p ≤ b.length := by
  have := tw_le (· != 10) (b.drop p)
  rw [List.length_drop] at this
  unfold remEnd
  omega
theorem remEnd_ge {b : By} {p : Nat} : p ≤ remEnd b p := Nat.le_add_right _ _
theorem remEnd_gt {b : By} {p : Nat} (h : b[p]? = some 35) : p < remEnd b p := by
  rw [remEnd_more h (by decide)]
  exact remEnd_ge
theorem lex_rem {b : By} {p : Nat} (h : b[p]? = some 35) : lexF p (b.drop p) = lexF (remEnd b p) (b.drop (remEnd b p)) := by
  have e := drop_at h
  have q := lexF_rem (p := p) (b := 35) (r := b.drop (p + 1)) rfl rfl
  rw [← e] at q
  rw [q, List.drop_drop]
  rfl
theorem lex_blank {b : By} {p : Nat} {c : UInt8} (h : b[p]? = some c) (hc : isBlank c = true) : lexF p (b.drop p) = lexF (p + 1) (b.drop (p + 1)) := by
  rw [drop_at h]
  exact lexF_blank hc
theorem lex_end {b : By} : lexF b.length (b.drop b.length) = .ok [⟨b.length, .last⟩] := by
  rw [List.drop_length]
  rfl
theorem lex_none {b : By} {p : Nat} {c : UInt8} (h : b[p]? = some c) (h0 : isBlank c = false) (h1 : c ≠ 35) (ht : token (b.drop p) = none) : lexF p (b.drop p) = .error ⟨2, p⟩ := by
  rw [drop_at h] at ht ⊢
  exact lexF_none h0 h1 ht
theorem lex_some {b : By} {p n : Nat} {t : Tok} {c : UInt8} (h : b[p]? = some c) (h0 : isBlank c = false) (h1 : c ≠ 35) (ht : token (b.drop p) = some (t, n)) :
    lexF p (b.drop p) = (lexF (p + n) (b.drop (p + n))).map fun l => ⟨p, t⟩ :: l := by
  have e := drop_at h
  rw [e] at ht
  rw [← List.drop_drop, e]
  exact lexF_some h0 h1 ht

/-! the token at a place -/
def wordB (c : UInt8) : Bool := isLetter c || isDigit c
/-- how far a walk of a test goes from a place -/
def runEnd (f : UInt8 → Bool) (b : By) (p : Nat) : Nat := p + ((b.drop p).takeWhile f).length
theorem runEnd_more {f : UInt8 → Bool} {b : By} {p : Nat} {c : UInt8} (h : b[p]? = some c) (hc : f c = true) : runEnd f b p = runEnd f b (p + 1) := by
  unfold runEnd
  rw [drop_at h, List.takeWhile_cons, hc, if_pos rfl, List.length_cons]
  omega
theorem runEnd_here {f : UInt8 → Bool} {b : By} {p : Nat} {c : UInt8} (h : b[p]? = some c) (hc : f c = false) : runEnd f b p = p := by
  unfold runEnd
  rw [drop_at h, List.takeWhile_cons, hc]
  rfl
theorem runEnd_end {f : UInt8 → Bool} {b : By} {p : Nat} (h : b.length ≤ p) : runEnd f b p = p := by
  unfold runEnd
  rw [List.drop_eq_nil_of_le h]
  rfl
theorem runEnd_le {f : UInt8 → Bool} {b : By} {p : Nat} (h : p ≤ b.length) : runEnd f b p ≤ b.length := by
  have := tw_le f (b.drop p)
  rw [List.length_drop] at this
  unfold runEnd
  omega
theorem runEnd_ge {f : UInt8 → Bool} {b : By} {p : Nat} : p ≤ runEnd f b p := Nat.le_add_right _ _
theorem runEnd_cut {f : UInt8 → Bool} {b : By} {p : Nat} : (b.drop p).take (runEnd f b p - p) = (b.drop p).takeWhile f := by
  rw [show runEnd f b p - p = ((b.drop p).takeWhile f).length from by unfold runEnd; omega]
  exact (tw_take f _).symm
theorem token_letter {b : By} {p : Nat} {c : UInt8} (h : b[p]? = some c) (hc : isLetter c = true) :
    token (b.drop p) = if 16 < ((b.drop p).takeWhile wordB).length then none else some (.name ((b.drop p).takeWhile wordB), ((b.drop p).takeWhile wordB).length) := by
  rw [drop_at h]
  unfold token
  simp only
  rw [if_pos hc]
  rfl
theorem token_digit {b : By} {p : Nat} {c : UInt8} (h : b[p]? = some c) (h0 : isLetter c = false) (hc : isDigit c = true) :
    token (b.drop p) = (numberOf ((b.drop p).takeWhile isDigit)).map fun n => (.num n, ((b.drop p).takeWhile isDigit).length) := by
  rw [drop_at h]
  unfold token
  simp only
  rw [h0, if_neg Bool.false_ne_true, if_pos hc]
theorem token_sign {b : By} {p : Nat} {c : UInt8} (h : b[p]? = some c) (h0 : isLetter c = false) (h1 : isDigit c = false) :
    token (b.drop p) = if SIGNS.contains c = true then some (.sign c.toNat, 1) else none := by
  rw [drop_at h]
  unfold token
  simp only
  rw [h0, if_neg Bool.false_ne_true, h1, if_neg Bool.false_ne_true]

/-! numbers -/
def decI (n : Int) (l : By) : Int := l.foldl (fun n b => n * 10 + (b.toNat : Int) - 48) n
theorem decI_eq : ∀ (l : By) (n : Nat), (∀ c ∈ l, isDigit c = true) → decI n l = ((l.foldl (fun n b => 10 * n + (b.toNat - 48)) n : Nat) : Int)
  | [], _, _ => rfl
  | c :: l, n, h => by
    have hc : 48 ≤ c.toNat ∧ c.toNat ≤ 57 := by simpa [isDigit] using h c List.mem_cons_self
    have e : (n : Int) * 10 + (c.toNat : Int) - 48 = ((10 * n + (c.toNat - 48) : Nat) : Int) := by omega
    show decI ((n : Int) * 10 + (c.toNat : Int) - 48) l = ((l.foldl (fun n b => 10 * n + (b.toNat - 48)) (10 * n + (c.toNat - 48)) : Nat) : Int)
    rw [e]
    exact decI_eq l _ fun d hd => h d (List.mem_cons_of_mem _ hd)
theorem decimal_eq {l : By} (h : ∀ c ∈ l, isDigit c = true) : decI 0 l = (decimal l : Int) := decI_eq l 0 h
theorem tw_all {α : Type} (f : α → Bool) : ∀ (l : List α), ∀ c ∈ l.takeWhile f, f c = true
  | [], c, h => by cases h
  | a :: l, c, h => by
    rw [List.takeWhile_cons] at h
    split at h
    · rename_i ha
      rcases List.mem_cons.mp h with e | e
      · rw [e]; exact ha
      · exact tw_all f l c e
    · cases h
/-- a run of digits is small -/
theorem decI_bound : ∀ (l : By) (n : Int) (k : Nat), (∀ c ∈ l, isDigit c = true) → 0 ≤ n → n < 10 ^ k → 0 ≤ decI n l ∧ decI n l < 10 ^ (k + l.length)
  | [], n, k, _, h0, h1 => ⟨h0, by simpa [decI] using h1⟩
  | c :: l, n, k, h, h0, h1 => by
    have hc : 48 ≤ c.toNat ∧ c.toNat ≤ 57 := by simpa [isDigit] using h c List.mem_cons_self
    have e : (10 : Int) ^ (k + 1) = 10 ^ k * 10 := Int.pow_succ ..
    have q := decI_bound l (n * 10 + (c.toNat : Int) - 48) (k + 1) (fun d hd => h d (List.mem_cons_of_mem _ hd)) (by omega) (by omega)
    rw [show k + (c :: l).length = k + 1 + l.length from by rw [List.length_cons]; omega]
    exact q
end Kg
/-! The mathematics of the reading: the program's steps over the rest of the tokens, and that they are the specification's. -/
namespace Kg
open VamvsBase Vamvsa

inductive Kd where
  | columns | row | ask | times | name | number | comma | colon | semi | dash | fin | other
  deriving DecidableEq

/-- the kind of a word -/
def kdW (w : By) : Kd :=
  if w = word "columns" then .columns else if w = word "row" then .row else if w = word "ask" then .ask else if w = word "times" then .times else .name
/-- a token's kind -/
def kd : Tok → Kd
  | .name w => kdW w
  | .num _ => .number
  | .sign c => if c = 44 then .comma else if c = 58 then .colon else if c = 59 then .semi else if c = 45 then .dash else .other
  | .last => .fin
def nameOf : Tok → By
  | .name w => w
  | _ => []
def numOf : Tok → Nat
  | .num n => n
  | _ => 0

/-- the tokens that are left: the end stands last, and there alone -/
def Ended : Toks → Prop
  | [] => False
  | t :: r => (kd t.tok = .fin ∧ r = []) ∨ (kd t.tok ≠ .fin ∧ Ended r)
theorem kd_fin {t : Tok} (h : kd t = .fin) : t = .last := by
  cases t with
  | name w => simp only [kd, kdW] at h; split at h <;> try cases h
              split at h <;> try cases h
              split at h <;> try cases h
              split at h <;> cases h
  | num n => cases h
  | sign c => simp only [kd] at h; split at h <;> try cases h
              split at h <;> try cases h
              split at h <;> try cases h
              split at h <;> cases h
  | last => rfl
theorem Ended.ne {l : Toks} (h : Ended l) : l ≠ [] := by
  intro e; subst e; exact h
theorem Ended.next {t : PTok} {r : Toks} (h : Ended (t :: r)) (k : kd t.tok ≠ .fin) : Ended r := by
  rcases h with ⟨a, _⟩ | ⟨_, b⟩
  · exact absurd a k
  · exact b

theorem lexF_ended : ∀ (n p : Nat) (l : By) (ts : Toks), lex n p l = .ok ts → Ended ts
  | 0, p, l, ts, h => by cases h; exact .inl ⟨rfl, rfl⟩
  | n + 1, p, [], ts, h => by cases h; exact .inl ⟨rfl, rfl⟩
  | n + 1, p, b :: r, ts, h => by
    have h : (if isBlank b = true then lex n (p + 1) r else if b == 35 then lex n (p + 1 + (r.takeWhile (· != 10)).length) (r.dropWhile (· != 10))
      else match token (b :: r) with
        | none => .error ⟨2, p⟩
        | some x => (lex n (p + x.2) ((b :: r).drop x.2)).map fun l => ⟨p, x.1⟩ :: l) = .ok ts := h
    split at h
    · exact lexF_ended n _ _ ts h
    · split at h
      · exact lexF_ended n _ _ ts h
      · split at h
        · cases h
        · rename_i x e
          cases q : lex n (p + x.2) ((b :: r).drop x.2) with
          | error f => rw [q] at h; cases h
          | ok ts' =>
            rw [q] at h
            have h : Except.ok (⟨p, x.1⟩ :: ts') = Except.ok ts := h
            cases h
            refine .inr ⟨fun z => ?_, lexF_ended n _ _ ts' q⟩
            have z1 : x.1 = .last := kd_fin z
            obtain ⟨t, k⟩ := x
            have z1 : t = .last := z1
            subst z1
            unfold token at e
            simp only at e
            split at e
            · split at e <;> cases e
            · split at e
              · cases q2 : numberOf ((b :: r).takeWhile isDigit) with
                | none => rw [q2] at e; cases e
                | some v => rw [q2] at e; cases e
              · split at e <;> cases e
theorem tokens_ended {b : By} {ts : Toks} (h : tokens b = .ok ts) : Ended ts := by
  rw [tokens_eq] at h
  split at h
  · cases h
  · exact lexF_ended _ _ _ _ h

/-! ### one token taken -/
/-- the next token, that has to be of a kind -/
def take (k : Kd) : Toks → Except Fault (PTok × Toks)
  | [] => .error ⟨3, 0⟩
  | t :: r => if kd t.tok = k then .ok (t, r) else .error ⟨3, t.place⟩
def sees (k : Kd) : Toks → Bool
  | [] => false
  | t :: _ => decide (kd t.tok = k)

theorem kdW_columns {w : By} : kdW w = .columns ↔ w = word "columns" := by
  unfold kdW
  constructor
  · intro h
    split at h
    · assumption
    · split at h <;> try cases h
      split at h <;> try cases h
      split at h <;> cases h
  · intro h; rw [if_pos h]
theorem kdW_row {w : By} : kdW w = .row ↔ w = word "row" := by
  constructor
  · intro h
    unfold kdW at h
    split at h
    · cases h
    · split at h
      · assumption
      · split at h <;> try cases h
        split at h <;> cases h
  · intro h; subst h; rfl
theorem kdW_ask {w : By} : kdW w = .ask ↔ w = word "ask" := by
  constructor
  · intro h
    unfold kdW at h
    split at h
    · cases h
    · split at h
      · cases h
      · split at h
        · assumption
        · split at h <;> cases h
  · intro h; subst h; rfl
theorem kdW_times {w : By} : kdW w = .times ↔ w = word "times" := by
  constructor
  · intro h
    unfold kdW at h
    split at h
    · cases h
    · split at h
      · cases h
      · split at h
        · cases h
        · split at h
          · assumption
          · cases h
  · intro h; subst h; rfl
theorem kdW_name {w : By} : kdW w = .name ↔ RESERVED.contains w = false := by
  have e : RESERVED.contains w = (decide (w = word "columns") || decide (w = word "row") || decide (w = word "ask") || decide (w = word "times")) := by
    show ([word "columns", word "row", word "ask", word "times"].contains w) = _
    rw [Bool.eq_iff_iff]
    simp [or_assoc]
  rw [e]
  constructor
  · intro h
    unfold kdW at h
    split at h
    · cases h
    · split at h
      · cases h
      · split at h
        · cases h
        · split at h
          · cases h
          · simp [*]
  · intro h
    simp only [Bool.or_eq_false_iff, decide_eq_false_iff_not] at h
    obtain ⟨⟨⟨h1, h2⟩, h3⟩, h4⟩ := h
    unfold kdW
    rw [if_neg h1, if_neg h2, if_neg h3, if_neg h4]
theorem kd_word {t : Tok} {s : String} {k : Kd} (h : ∀ w : By, kdW w = k ↔ w = word s) (hk : k = .columns ∨ k = .row ∨ k = .ask ∨ k = .times) : tokEq t (.name (word s)) = decide (kd t = k) := by
  cases t with
  | name w =>
    show (w == word s) = decide (kdW w = k)
    by_cases e : w = word s
    · rw [decide_eq_true ((h w).mpr e), e]; exact beq_self_eq_true _
    · rw [decide_eq_false fun z => e ((h w).mp z)]; exact beq_eq_false_iff_ne.mpr e
  | num n => rcases hk with rfl | rfl | rfl | rfl <;> rfl
  | sign c =>
    refine (decide_eq_false fun z => ?_).symm
    simp only [kd] at z
    rcases hk with rfl | rfl | rfl | rfl <;> (repeat (split at z <;> try cases z))
  | last => rcases hk with rfl | rfl | rfl | rfl <;> rfl
theorem kd_sign {t : Tok} {c : Nat} {k : Kd} (h : ∀ d : Nat, kd (.sign d) = k ↔ d = c) (hk : k = .comma ∨ k = .colon ∨ k = .semi ∨ k = .dash) : tokEq t (.sign c) = decide (kd t = k) := by
  cases t with
  | sign d =>
    show (d == c) = decide (kd (.sign d) = k)
    by_cases e : d = c
    · rw [decide_eq_true ((h d).mpr e), e]; exact beq_self_eq_true _
    · rw [decide_eq_false fun z => e ((h d).mp z)]; exact beq_eq_false_iff_ne.mpr e
  | num n => rcases hk with rfl | rfl | rfl | rfl <;> rfl
  | name w =>
    refine (decide_eq_false fun z => ?_).symm
    simp only [kd, kdW] at z
    rcases hk with rfl | rfl | rfl | rfl <;> (repeat (split at z <;> try cases z))
  | last => rcases hk with rfl | rfl | rfl | rfl <;> rfl
theorem kd_comma (d : Nat) : kd (.sign d) = .comma ↔ d = 44 := by
  simp only [kd]
  constructor
  · intro h; repeat (split at h <;> try first | assumption | cases h)
  · intro h; rw [if_pos h]
theorem kd_colon (d : Nat) : kd (.sign d) = .colon ↔ d = 58 := by
  constructor
  · intro h; simp only [kd] at h; repeat (split at h <;> try first | assumption | cases h)
  · intro h; subst h; rfl
theorem kd_semi (d : Nat) : kd (.sign d) = .semi ↔ d = 59 := by
  constructor
  · intro h; simp only [kd] at h; repeat (split at h <;> try first | assumption | cases h)
  · intro h; subst h; rfl
theorem kd_dash (d : Nat) : kd (.sign d) = .dash ↔ d = 45 := by
  constructor
  · intro h; simp only [kd] at h; repeat (split at h <;> try first | assumption | cases h)
  · intro h; subst h; rfl

theorem next_of {t : Tok} {k : Kd} (h : ∀ u : Tok, tokEq u t = decide (kd u = k)) (l : Toks) : next t l = sees k l := by
  cases l with
  | nil => rfl
  | cons x r => exact h x.tok
theorem next_comma (l : Toks) : next (.sign 44) l = sees .comma l := next_of (fun _ => kd_sign kd_comma (.inl rfl)) l
theorem next_colon (l : Toks) : next (.sign 58) l = sees .colon l := next_of (fun _ => kd_sign kd_colon (.inr (.inl rfl))) l
theorem next_semi (l : Toks) : next (.sign 59) l = sees .semi l := next_of (fun _ => kd_sign kd_semi (.inr (.inr (.inl rfl)))) l
theorem next_dash (l : Toks) : next (.sign 45) l = sees .dash l := next_of (fun _ => kd_sign kd_dash (.inr (.inr (.inr rfl)))) l
theorem next_row (l : Toks) : nextWord "row" l = sees .row l := next_of (fun _ => kd_word (fun _ => kdW_row) (.inr (.inl rfl))) l
theorem next_times (l : Toks) : nextWord "times" l = sees .times l := next_of (fun _ => kd_word (fun _ => kdW_times) (.inr (.inr (.inr rfl)))) l
theorem next_last (l : Toks) : next .last l = sees .fin l := next_of (fun u => by
  cases u with
  | last => rfl
  | name w => exact (decide_eq_false fun z => by cases kd_fin z).symm
  | num n => rfl
  | sign c => exact (decide_eq_false fun z => by cases kd_fin z).symm) l

theorem take_ok {k : Kd} {t : PTok} {r : Toks} (h : kd t.tok = k) : take k (t :: r) = .ok (t, r) := if_pos h
theorem take_bad {k : Kd} {t : PTok} {r : Toks} (h : kd t.tok ≠ k) : take k (t :: r) = .error ⟨3, t.place⟩ := if_neg h
theorem taken_of {t : Tok} {k : Kd} (h : ∀ u : Tok, tokEq u t = decide (kd u = k)) (l : Toks) : taken t l = (take k l).map (·.2) := by
  cases l with
  | nil => rfl
  | cons x r =>
    show (if next t (x :: r) = true then _ else _) = _
    rw [next_of h]
    by_cases e : kd x.tok = k
    · rw [take_ok e, if_pos (show sees k (x :: r) = true from decide_eq_true e)]; rfl
    · rw [take_bad e, if_neg (show ¬ sees k (x :: r) = true from by simpa [sees] using e)]; rfl
theorem taken_comma (l : Toks) : takeSign 44 l = (take .comma l).map (·.2) := taken_of (fun _ => kd_sign kd_comma (.inl rfl)) l
theorem taken_colon (l : Toks) : takeSign 58 l = (take .colon l).map (·.2) := taken_of (fun _ => kd_sign kd_colon (.inr (.inl rfl))) l
theorem taken_semi (l : Toks) : takeSign 59 l = (take .semi l).map (·.2) := taken_of (fun _ => kd_sign kd_semi (.inr (.inr (.inl rfl)))) l
theorem taken_columns (l : Toks) : takeWord "columns" l = (take .columns l).map (·.2) := taken_of (fun _ => kd_word (fun _ => kdW_columns) (.inl rfl)) l
theorem taken_ask (l : Toks) : takeWord "ask" l = (take .ask l).map (·.2) := taken_of (fun _ => kd_word (fun _ => kdW_ask) (.inr (.inr (.inl rfl)))) l
theorem takeName_eq (l : Toks) : takeName l = (take .name l).map fun x => (⟨x.1.place, nameOf x.1.tok⟩, x.2) := by
  cases l with
  | nil => rfl
  | cons x r =>
    obtain ⟨p, t⟩ := x
    cases t with
    | name w =>
      show (if RESERVED.contains w = true then _ else _) = _
      by_cases e : kdW w = .name
      · rw [take_ok (show kd (.name w) = .name from e), kdW_name.mp e]; rfl
      · have h2 : RESERVED.contains w = true := by
          cases q : RESERVED.contains w with
          | true => rfl
          | false => exact absurd (kdW_name.mpr q) e
        rw [take_bad (show kd (.name w) ≠ .name from e), h2]; rfl
    | num n => rfl
    | last => rfl
    | sign c =>
      have e : kd (.sign c) ≠ .name := by
        intro z; simp only [kd] at z; repeat (split at z <;> try cases z)
      rw [take_bad (t := ⟨p, .sign c⟩) e]
      rfl
/-- a number between two -/
def readNumber (lo hi : Nat) (l : Toks) : Except Fault (Nat × Toks) := (take .number l).bind fun x => if numOf x.1.tok < lo ∨ hi < numOf x.1.tok then .error ⟨7, x.1.place⟩ else .ok (numOf x.1.tok, x.2)
theorem kd_number {t : Tok} (h : kd t = .number) : ∃ n, t = .num n := by
  cases t with
  | num n => exact ⟨n, rfl⟩
  | name w => simp only [kd, kdW] at h; repeat (split at h <;> try cases h)
  | sign c => simp only [kd] at h; repeat (split at h <;> try cases h)
  | last => cases h
theorem kd_name {t : Tok} (h : kd t = .name) : ∃ w, t = .name w := by
  cases t with
  | num n => cases h
  | name w => exact ⟨w, rfl⟩
  | sign c => simp only [kd] at h; repeat (split at h <;> try cases h)
  | last => cases h
theorem takeNat_eq (most : Nat) (l : Toks) : takeNat most l = readNumber 0 most l := by
  cases l with
  | nil => rfl
  | cons x r =>
    obtain ⟨p, t⟩ := x
    by_cases e : kd t = .number
    · obtain ⟨n, rfl⟩ := kd_number e
      show (if most < n then _ else _) = (if n < 0 ∨ most < n then _ else _)
      by_cases h : most < n
      · rw [if_pos h, if_pos (.inr h)]
      · rw [if_neg h, if_neg (by omega)]
        rfl
    · unfold readNumber
      rw [take_bad (t := ⟨p, t⟩) e]
      cases t with
      | num n => exact absurd rfl e
      | name w => rfl
      | sign c => rfl
      | last => rfl
/-- how often -/
def readTimes (l : Toks) : Except Fault (Nat × Toks) := if sees .times l = true then readNumber 1 99 (l.drop 1) else .ok (1, l)
theorem takeTimes_eq (l : Toks) : takeTimes l = readTimes l := by
  unfold takeTimes readTimes
  rw [next_times]
  split
  · generalize l.drop 1 = m
    cases m with
    | nil => rfl
    | cons x r =>
      obtain ⟨q, t⟩ := x
      by_cases e : kd t = .number
      · obtain ⟨n, rfl⟩ := kd_number e
        rfl
      · unfold readNumber
        rw [take_bad (t := ⟨q, t⟩) e]
        cases t with
        | num n => exact absurd rfl e
        | name w => rfl
        | sign c => rfl
        | last => rfl
  · rfl
def readAmount (l : Toks) : Except Fault (Int × Toks) :=
  if sees .dash l = true then (readNumber 0 1000 (l.drop 1)).map fun x => (-(x.1 : Int), x.2) else (readNumber 0 1000 l).map fun x => ((x.1 : Int), x.2)
theorem takeInt_eq (l : Toks) : takeInt l = readAmount l := by
  unfold takeInt readAmount
  simp only [next_dash, takeNat_eq]
  split <;> rfl

/-! ### columns -/
def readColumn (names : List By) (l : Toks) : Except Fault (By × Toks) := (take .name l).bind fun x =>
  if names.length = 4 then .error ⟨4, x.1.place⟩ else if names.contains (nameOf x.1.tok) = true then .error ⟨5, x.1.place⟩ else .ok (nameOf x.1.tok, x.2)
/-- behind a name: a comma and more names, or the end -/
def moreColumns : Nat → List By → Toks → Except Fault (List By × Toks)
  | 0, _, l => wrong l
  | n + 1, names, l => if sees .comma l = true then (readColumn names (l.drop 1)).bind fun x => moreColumns n (names ++ [x.1]) x.2 else (take .semi l).map fun x => (names, x.2)
def readColumns (l : Toks) : Except Fault (List By × Toks) := (take .columns l).bind fun x => (readColumn [] x.2).bind fun y => moreColumns (y.2.length + 1) [y.1] y.2
theorem take_len {k : Kd} {l : Toks} {t : PTok} {r : Toks} (h : take k l = .ok (t, r)) : l = t :: r ∧ kd t.tok = k := by
  cases l with
  | nil => cases h
  | cons x m =>
    by_cases e : kd x.tok = k
    · rw [take_ok e] at h
      cases h
      exact ⟨rfl, e⟩
    · rw [take_bad e] at h
      cases h
theorem readColumn_len {names : List By} {l r : Toks} {w : By} (h : readColumn names l = .ok (w, r)) : ∃ t, l = t :: r ∧ kd t.tok = .name ∧ w = nameOf t.tok ∧ names.length ≠ 4 ∧ names.contains w = false := by
  unfold readColumn at h
  cases e : take .name l with
  | error f => rw [e] at h; cases h
  | ok x =>
    obtain ⟨t, m⟩ := x
    obtain ⟨e1, e2⟩ := take_len e
    rw [e] at h
    have h : (if names.length = 4 then _ else if names.contains (nameOf t.tok) = true then _ else _) = Except.ok (w, r) := h
    split at h
    · cases h
    · split at h
      · cases h
      · cases h
        rename_i h1 h2
        exact ⟨t, e1, e2, rfl, h1, by simpa using h2⟩
theorem readNumber_len {lo hi : Nat} {l r : Toks} {n : Nat} (h : readNumber lo hi l = .ok (n, r)) : ∃ t, l = t :: r ∧ kd t.tok = .number ∧ n = numOf t.tok ∧ lo ≤ n ∧ n ≤ hi := by
  unfold readNumber at h
  cases e : take .number l with
  | error f => rw [e] at h; cases h
  | ok x =>
    obtain ⟨t, m⟩ := x
    obtain ⟨e1, e2⟩ := take_len e
    rw [e] at h
    have h : (if numOf t.tok < lo ∨ hi < numOf t.tok then _ else _) = Except.ok (n, r) := h
    split at h
    · cases h
    · cases h
      rename_i h1
      exact ⟨t, e1, e2, rfl, Nat.le_of_not_lt fun z => h1 (.inl z), Nat.le_of_not_lt fun z => h1 (.inr z)⟩
theorem moreColumns_fuel : ∀ (n m : Nat) (names : List By) (l : Toks), l.length < n → l.length < m → moreColumns n names l = moreColumns m names l
  | 0, _, _, _, h, _ => absurd h (Nat.not_lt_zero _)
  | _ + 1, 0, _, _, _, h => absurd h (Nat.not_lt_zero _)
  | n + 1, m + 1, names, l, h, h' => by
    show (if sees .comma l = true then _ else _) = (if sees .comma l = true then _ else _)
    split
    · cases e : readColumn names (l.drop 1) with
      | error f => rfl
      | ok x =>
        obtain ⟨w, r⟩ := x
        obtain ⟨t, e1, _⟩ := readColumn_len e
        have hl : r.length < l.length := by
          have q := congrArg List.length e1
          rw [List.length_drop, List.length_cons] at q
          omega
        show moreColumns n (names ++ [w]) r = moreColumns m (names ++ [w]) r
        exact moreColumns_fuel n m _ _ (by omega) (by omega)
    · rfl
def moreCols (names : List By) (l : Toks) := moreColumns (l.length + 1) names l
theorem moreCols_eq (names : List By) (l : Toks) : moreCols names l = if sees .comma l = true then (readColumn names (l.drop 1)).bind fun x => moreCols (names ++ [x.1]) x.2 else (take .semi l).map fun x => (names, x.2) := by
  show (if sees .comma l = true then _ else _) = _
  split
  · cases e : readColumn names (l.drop 1) with
    | error f => rfl
    | ok x =>
      obtain ⟨w, r⟩ := x
      obtain ⟨t, e1, _⟩ := readColumn_len e
      show moreColumns l.length (names ++ [w]) r = moreColumns (r.length + 1) (names ++ [w]) r
      refine moreColumns_fuel _ _ _ _ ?_ (Nat.lt_succ_self _)
      have q := congrArg List.length e1
      rw [List.length_drop, List.length_cons] at q
      omega
  · rfl
theorem readColumns_eq (l : Toks) : readColumns l = (take .columns l).bind fun x => (readColumn [] x.2).bind fun y => moreCols [y.1] y.2 := rfl
theorem takeColumns_eq : ∀ (n : Nat) (names : List By) (l : Toks), names.length ≤ 4 → l.length < n → takeColumns n names l = (readColumn names l).bind fun y => moreCols (names ++ [y.1]) y.2
  | 0, _, _, _, h => absurd h (Nat.not_lt_zero _)
  | n + 1, names, l, hn, h => by
    show (takeName l).bind _ = _
    rw [takeName_eq]
    unfold readColumn
    cases e : take .name l with
    | error f => rfl
    | ok x =>
      obtain ⟨t, r⟩ := x
      obtain ⟨e1, e2⟩ := take_len e
      show (if COLUMNS ≤ names.length then _ else if names.contains (nameOf t.tok) = true then _ else if next (.sign 44) r = true then _ else _) =
        Except.bind (if names.length = 4 then _ else if names.contains (nameOf t.tok) = true then _ else _) _
      by_cases h4 : names.length = 4
      · rw [if_pos (show COLUMNS ≤ names.length from by show 4 ≤ names.length; omega), if_pos h4]
        rfl
      · have h5 : ¬ COLUMNS ≤ names.length := by show ¬ 4 ≤ names.length; omega
        rw [if_neg h5, if_neg h4]
        split
        · rfl
        · show _ = moreCols (names ++ [nameOf t.tok]) r
          rw [moreCols_eq, next_comma, taken_semi]
          split
          · refine takeColumns_eq n _ _ ?_ ?_
            · rw [List.length_append, List.length_singleton]
              omega
            · have q := congrArg List.length e1
              rw [List.length_cons] at q
              show (r.drop 1).length < n
              rw [List.length_drop]
              omega
          · cases take .semi r with
            | error f => rfl
            | ok y => rfl
end Kg
/-! Rows, questions, the whole table. -/
namespace Kg
open VamvsBase Vamvsa

/-! ### rows -/
def moreValues : Nat → List Nat → Toks → Except Fault (List Nat × Toks)
  | 0, vs, l => .ok (vs, l)
  | n + 1, vs, l => (take .comma l).bind fun x => (readNumber 0 9 x.2).bind fun y => moreValues n (vs ++ [y.1]) y.2
def readRow (cols rows : Nat) (l : Toks) : Except Fault (Row × Toks) := (take .row l).bind fun w => if rows = 16 then .error ⟨4, w.1.place⟩ else
  (readNumber 0 9 w.2).bind fun x => (moreValues (cols - 1) [x.1] x.2).bind fun v => (take .colon v.2).bind fun c => (readAmount c.2).bind fun a => (take .semi a.2).map fun m => (⟨v.1, a.1⟩, m.2)
theorem takeValues_more : ∀ (n : Nat) (vs : List Nat) (l : Toks), vs ≠ [] → takeValues n vs l = moreValues n vs l
  | 0, _, _, _ => rfl
  | n + 1, vs, l, h => by
    show Except.bind (if vs.isEmpty = true then _ else _) _ = (take .comma l).bind _
    rw [if_neg (by simpa using h), taken_comma]
    cases take .comma l with
    | error f => rfl
    | ok x =>
      show (takeNat VALUE x.2).bind _ = (readNumber 0 9 x.2).bind _
      rw [takeNat_eq]
      show (readNumber 0 9 x.2).bind _ = (readNumber 0 9 x.2).bind _
      cases readNumber 0 9 x.2 with
      | error f => rfl
      | ok y => exact takeValues_more n _ _ (by simp)
theorem bind_map {A B C : Type} (e : Except Fault A) (f : A → B) (g : B → Except Fault C) : (e.map f).bind g = e.bind fun x => g (f x) := by
  cases e <;> rfl
theorem sees_iff {k : Kd} {l : Toks} (h : sees k l = true) : ∃ t r, l = t :: r ∧ kd t.tok = k := by
  cases l with
  | nil => cases h
  | cons t r => exact ⟨t, r, rfl, of_decide_eq_true h⟩
theorem sees_take {k : Kd} {l : Toks} (h : sees k l = false) : take k l = .error ⟨3, here l⟩ := by
  cases l with
  | nil => rfl
  | cons t r => exact take_bad (of_decide_eq_false h)

/-! ### questions -/
def readAsked (cols : List By) (g : Nat) (l : Toks) : Except Fault (Nat × Toks) := (take .name l).bind fun x => match cols.findIdx? fun c => c == nameOf x.1.tok with
  | none => .error ⟨8, x.1.place⟩
  | some i => if g / 2 ^ i % 2 = 1 then .error ⟨6, x.1.place⟩ else .ok (g + 2 ^ i, x.2)
def moreAskedN (cols : List By) : Nat → Nat → Toks → Except Fault (Nat × Toks)
  | 0, _, l => wrong l
  | n + 1, g, l => if sees .comma l = true then (readAsked cols g (l.drop 1)).bind fun x => moreAskedN cols n x.1 x.2 else .ok (g, l)
theorem readAsked_len {cols : List By} {g g' : Nat} {l r : Toks} (h : readAsked cols g l = .ok (g', r)) : ∃ t, l = t :: r ∧ kd t.tok = .name := by
  unfold readAsked at h
  cases e : take .name l with
  | error f => rw [e] at h; cases h
  | ok x =>
    obtain ⟨t, m⟩ := x
    obtain ⟨e1, e2⟩ := take_len e
    rw [e] at h
    have h : (match cols.findIdx? fun c => c == nameOf t.tok with
      | none => (Except.error ⟨8, t.place⟩ : Except Fault (Nat × Toks))
      | some i => if g / 2 ^ i % 2 = 1 then .error ⟨6, t.place⟩ else .ok (g + 2 ^ i, m)) = Except.ok (g', r) := h
    split at h
    · cases h
    · split at h
      · cases h
      · cases h
        exact ⟨t, e1, e2⟩
theorem moreAskedN_fuel (cols : List By) : ∀ (n m g : Nat) (l : Toks), l.length < n → l.length < m → moreAskedN cols n g l = moreAskedN cols m g l
  | 0, _, _, _, h, _ => absurd h (Nat.not_lt_zero _)
  | _ + 1, 0, _, _, _, h => absurd h (Nat.not_lt_zero _)
  | n + 1, m + 1, g, l, h, h' => by
    show (if sees .comma l = true then _ else _) = (if sees .comma l = true then _ else _)
    split
    · cases e : readAsked cols g (l.drop 1) with
      | error f => rfl
      | ok x =>
        obtain ⟨w, r⟩ := x
        obtain ⟨t, e1, _⟩ := readAsked_len e
        have hl : r.length < l.length := by
          have q := congrArg List.length e1
          rw [List.length_drop, List.length_cons] at q
          omega
        exact moreAskedN_fuel cols n m w r (by omega) (by omega)
    · rfl
def moreAsked (cols : List By) (g : Nat) (l : Toks) := moreAskedN cols (l.length + 1) g l
theorem moreAsked_eq (cols : List By) (g : Nat) (l : Toks) : moreAsked cols g l = if sees .comma l = true then (readAsked cols g (l.drop 1)).bind fun x => moreAsked cols x.1 x.2 else .ok (g, l) := by
  show (if sees .comma l = true then _ else _) = _
  split
  · cases e : readAsked cols g (l.drop 1) with
    | error f => rfl
    | ok x =>
      obtain ⟨w, r⟩ := x
      obtain ⟨t, e1, _⟩ := readAsked_len e
      show moreAskedN cols l.length w r = moreAskedN cols (r.length + 1) w r
      refine moreAskedN_fuel cols _ _ _ _ ?_ (Nat.lt_succ_self _)
      have q := congrArg List.length e1
      rw [List.length_drop, List.length_cons] at q
      omega
  · rfl
theorem takeAsked_eq (cols : List By) : ∀ (n g : Nat) (l : Toks), l.length < n → takeAsked cols n g l = (readAsked cols g l).bind fun x => moreAsked cols x.1 x.2
  | 0, _, _, h => absurd h (Nat.not_lt_zero _)
  | n + 1, g, l, h => by
    show (takeName l).bind _ = _
    rw [takeName_eq]
    unfold readAsked
    cases e : take .name l with
    | error f => rfl
    | ok x =>
      obtain ⟨t, r⟩ := x
      obtain ⟨e1, e2⟩ := take_len e
      show (match cols.findIdx? fun c => c == nameOf t.tok with
        | none => _
        | some i => _) = Except.bind (match cols.findIdx? fun c => c == nameOf t.tok with
        | none => _
        | some i => _) _
      cases cols.findIdx? fun c => c == nameOf t.tok with
      | none => rfl
      | some i =>
        show (if g / 2 ^ i % 2 = 1 then _ else if next (.sign 44) r = true then _ else _) = Except.bind (if g / 2 ^ i % 2 = 1 then _ else _) _
        split
        · rfl
        · show _ = moreAsked cols (g + 2 ^ i) r
          rw [moreAsked_eq, next_comma]
          split
          · refine takeAsked_eq cols n _ _ ?_
            have q := congrArg List.length e1
            rw [List.length_cons] at q
            show (r.drop 1).length < n
            rw [List.length_drop]
            omega
          · rfl
def readGroup (cols : List By) (l : Toks) : Except Fault (Nat × Toks) := if sees .name l = true then (readAsked cols 0 l).bind fun x => moreAsked cols x.1 x.2 else .ok (0, l)
def readQuestion (cols : List By) (asks : Nat) (l : Toks) : Except Fault (Ask × Toks) := (take .ask l).bind fun w => if asks = 8 then .error ⟨4, w.1.place⟩ else
  (readGroup cols w.2).bind fun g => (readTimes g.2).bind fun k => (take .semi k.2).map fun m => (⟨g.1, k.1⟩, m.2)
theorem takeAsk_eq (cols : List By) (l : Toks) : takeAsk cols l = (readGroup cols l).bind fun g => (readTimes g.2).bind fun k => (take .semi k.2).map fun m => (⟨g.1, k.1⟩, m.2) := by
  have tail : ∀ g : Nat × Toks, ((takeTimes g.2).bind fun k => (takeSign 59 k.2).map fun m => ((⟨g.1, k.1⟩ : Ask), m)) = (readTimes g.2).bind fun k => (take .semi k.2).map fun m => (⟨g.1, k.1⟩, m.2) := fun g => by
    rw [takeTimes_eq]
    cases readTimes g.2 with
    | error f => rfl
    | ok k =>
      show (takeSign 59 k.2).map _ = (take .semi k.2).map _
      rw [taken_semi]
      cases take .semi k.2 <;> rfl
  unfold takeAsk readGroup
  rw [next_times, next_semi]
  cases hn : sees .name l with
  | true =>
    obtain ⟨t, r, e, k⟩ := sees_iff hn
    have h1 : sees .times l = false := by rw [e]; exact decide_eq_false (by rw [k]; intro z; cases z)
    have h2 : sees .semi l = false := by rw [e]; exact decide_eq_false (by rw [k]; intro z; cases z)
    rw [h1, h2, if_neg (by simp), if_pos rfl, takeAsked_eq cols _ _ _ (Nat.lt_succ_self _)]
    congr 1
    funext g
    exact tail g
  | false =>
    rw [if_neg Bool.false_ne_true]
    cases ht : sees .times l with
    | true =>
      rw [if_pos (.inl rfl)]
      show (takeTimes l).bind _ = (readTimes l).bind _
      exact tail (0, l)
    | false =>
      cases hs : sees .semi l with
      | true =>
        rw [if_pos (.inr rfl)]
        exact tail (0, l)
      | false =>
        rw [if_neg (by simp)]
        have e1 : takeAsked cols (l.length + 1) 0 l = .error ⟨3, here l⟩ := by
          rw [takeAsked_eq cols _ _ _ (Nat.lt_succ_self _)]
          unfold readAsked
          rw [sees_take hn]
          rfl
        have e2 : readTimes l = .ok (1, l) := by
          unfold readTimes
          rw [ht]
          rfl
        rw [e1]
        show Except.error _ = (readTimes l).bind _
        rw [e2]
        show Except.error _ = (take .semi l).map _
        rw [sees_take hs]
        rfl

/-! ### the lines behind the columns -/
theorem readAmount_len {l r : Toks} {m : Int} (h : readAmount l = .ok (m, r)) : r.length < l.length ∧ -1000 ≤ m ∧ m ≤ 1000 := by
  unfold readAmount at h
  split at h
  · cases e : readNumber 0 1000 (l.drop 1) with
    | error f => rw [e] at h; cases h
    | ok x =>
      obtain ⟨n, r'⟩ := x
      rw [e] at h
      cases h
      obtain ⟨t, e1, _, _, h1, h2⟩ := readNumber_len e
      have q := congrArg List.length e1
      rw [List.length_drop, List.length_cons] at q
      exact ⟨by show r'.length < l.length; omega, by show -1000 ≤ -(n : Int); omega, by show -(n : Int) ≤ 1000; omega⟩
  · cases e : readNumber 0 1000 l with
    | error f => rw [e] at h; cases h
    | ok x =>
      obtain ⟨n, r'⟩ := x
      rw [e] at h
      cases h
      obtain ⟨t, e1, _, _, h1, h2⟩ := readNumber_len e
      have q := congrArg List.length e1
      rw [List.length_cons] at q
      exact ⟨by show r'.length < l.length; omega, by show -1000 ≤ (n : Int); omega, by show (n : Int) ≤ 1000; omega⟩
theorem take_len_lt {k : Kd} {l r : Toks} {t : PTok} (h : take k l = .ok (t, r)) : r.length < l.length := by
  obtain ⟨e, _⟩ := take_len h
  rw [e, List.length_cons]
  exact Nat.lt_succ_self _
theorem ok_bind {A B : Type} {e : Except Fault A} {f : A → Except Fault B} {b : B} (h : e.bind f = .ok b) : ∃ a, e = .ok a ∧ f a = .ok b := by
  cases e with
  | error x => cases h
  | ok a => exact ⟨a, rfl, h⟩
theorem ok_map {A B : Type} {e : Except Fault A} {f : A → B} {b : B} (h : e.map f = .ok b) : ∃ a, e = .ok a ∧ f a = b := by
  cases e with
  | error x => cases h
  | ok a => exact ⟨a, rfl, by cases h; rfl⟩
theorem moreValues_len : ∀ (n : Nat) (vs : List Nat) (l : Toks) (vs' : List Nat) (r : Toks), moreValues n vs l = .ok (vs', r) → (∀ v ∈ vs, v ≤ 9) → r.length ≤ l.length ∧ vs'.length = vs.length + n ∧ ∀ v ∈ vs', v ≤ 9
  | 0, vs, l, vs', r, h, hv => by cases h; exact ⟨Nat.le_refl _, rfl, hv⟩
  | n + 1, vs, l, vs', r, h, hv => by
    obtain ⟨x, e1, h⟩ := ok_bind h
    obtain ⟨y, e2, h⟩ := ok_bind h
    have l1 := take_len_lt (t := x.1) (r := x.2) e1
    obtain ⟨t, q1, _, _, _, q2⟩ := readNumber_len (n := y.1) (r := y.2) e2
    have l2 := congrArg List.length q1
    rw [List.length_cons] at l2
    obtain ⟨a, b, c⟩ := moreValues_len n _ _ _ _ h (fun v hm => by
      rcases List.mem_append.mp hm with z | z
      · exact hv v z
      · rw [List.mem_singleton.mp z]; exact q2)
    refine ⟨by omega, ?_, c⟩
    rw [b, List.length_append, List.length_singleton]
    omega
/-- a row as it is to be -/
structure RowOk (n : Nat) (r : Row) : Prop where
  len : r.vs.length = n
  small : ∀ v ∈ r.vs, v ≤ 9
  lo : -1000 ≤ r.m
  hi : r.m ≤ 1000
theorem readRow_len {cols rows : Nat} {l r : Toks} {x : Row} (hc : 1 ≤ cols) (h : readRow cols rows l = .ok (x, r)) : r.length < l.length ∧ RowOk cols x ∧ rows ≠ 16 := by
  obtain ⟨w, e1, h⟩ := ok_bind h
  split at h
  · cases h
  · rename_i h16
    obtain ⟨y, e2, h⟩ := ok_bind h
    obtain ⟨v, e3, h⟩ := ok_bind h
    obtain ⟨c, e4, h⟩ := ok_bind h
    obtain ⟨a, e5, h⟩ := ok_bind h
    obtain ⟨m, e6, h⟩ := ok_map h
    cases h
    have l1 := take_len_lt (t := w.1) (r := w.2) e1
    obtain ⟨t, q1, _, _, _, q2⟩ := readNumber_len (n := y.1) (r := y.2) e2
    have l2 := congrArg List.length q1
    rw [List.length_cons] at l2
    obtain ⟨l3, q3, q4⟩ := moreValues_len _ _ _ v.1 v.2 e3 (fun z hz => by rw [List.mem_singleton.mp hz]; exact q2)
    have l4 := take_len_lt (t := c.1) (r := c.2) e4
    obtain ⟨l5, q5, q6⟩ := readAmount_len (m := a.1) (r := a.2) e5
    have l6 := take_len_lt (t := m.1) (r := m.2) e6
    refine ⟨by show m.2.length < l.length; omega, ⟨?_, q4, q5, q6⟩, h16⟩
    show v.1.length = cols
    rw [q3, List.length_singleton]
    omega
theorem readAsked_bound {cols : List By} {g g' : Nat} {l r : Toks} (h : readAsked cols g l = .ok (g', r)) (hg : g < 2 ^ cols.length) : g' < 2 ^ cols.length ∧ r.length < l.length := by
  obtain ⟨t, e1, _⟩ := readAsked_len h
  refine ⟨?_, by rw [e1, List.length_cons]; exact Nat.lt_succ_self _⟩
  unfold readAsked at h
  obtain ⟨x, _, h⟩ := ok_bind h
  split at h
  · cases h
  · rename_i i hi
    split at h
    · cases h
    · rename_i hb
      cases h
      have hil : i < cols.length := by
        obtain ⟨z, _⟩ := List.findIdx?_eq_some_iff_getElem.mp hi
        exact z
      have e0 : g / 2 ^ i % 2 = 0 := by omega
      -- g + 2^i keeps below 2^n, the bit being free
      have hpow : 2 ^ cols.length = 2 ^ (i + 1) * 2 ^ (cols.length - (i + 1)) := by rw [← Nat.pow_add]; congr 1; omega
      have hp : 0 < 2 ^ i := Nat.pow_pos (by decide)
      have d1 : g / 2 ^ (i + 1) < 2 ^ (cols.length - (i + 1)) := Nat.div_lt_of_lt_mul (by rw [← hpow]; exact hg)
      have ep : 2 ^ (i + 1) = 2 ^ i * 2 := Nat.pow_succ ..
      have d2 : g / 2 ^ (i + 1) = g / 2 ^ i / 2 := by rw [ep, Nat.div_div_eq_div_mul]
      have d3 : g % 2 ^ i < 2 ^ i := Nat.mod_lt _ hp
      have d4 : 2 ^ i * (g / 2 ^ i) + g % 2 ^ i = g := Nat.div_add_mod _ _
      have d5 : g / 2 ^ i = 2 * (g / 2 ^ (i + 1)) := by rw [d2]; omega
      rw [hpow, ep]
      have d6 : g / 2 ^ (i + 1) + 1 ≤ 2 ^ (cols.length - (i + 1)) := d1
      have d7 : 2 ^ i * 2 * (g / 2 ^ (i + 1) + 1) ≤ 2 ^ i * 2 * 2 ^ (cols.length - (i + 1)) := Nat.mul_le_mul_left _ d6
      have d8 : 2 ^ i * 2 * (g / 2 ^ (i + 1) + 1) = 2 ^ i * (2 * (g / 2 ^ (i + 1))) + 2 ^ i * 2 := by rw [Nat.mul_add, Nat.mul_assoc, Nat.mul_one]
      rw [← d5] at d8
      omega
theorem moreAskedN_bound (cols : List By) : ∀ (n g : Nat) (l : Toks) (g' : Nat) (r : Toks), moreAskedN cols n g l = .ok (g', r) → g < 2 ^ cols.length → g' < 2 ^ cols.length ∧ r.length ≤ l.length
  | 0, _, l, _, _, h, _ => by cases h
  | n + 1, g, l, g', r, h, hg => by
    have h : (if sees .comma l = true then _ else _) = Except.ok (g', r) := h
    split at h
    · obtain ⟨x, e, h⟩ := ok_bind h
      obtain ⟨a, b⟩ := readAsked_bound (g' := x.1) (r := x.2) e hg
      obtain ⟨c, d⟩ := moreAskedN_bound cols n _ _ _ _ h a
      rw [List.length_drop] at b
      exact ⟨c, by omega⟩
    · cases h
      exact ⟨hg, Nat.le_refl _⟩
structure AskOk (n : Nat) (a : Ask) : Prop where
  g : a.g < 2 ^ n
  lo : 1 ≤ a.k
  hi : a.k ≤ 99
theorem readGroup_bound {cols : List By} {l r : Toks} {g : Nat} (h : readGroup cols l = .ok (g, r)) : g < 2 ^ cols.length ∧ r.length ≤ l.length := by
  unfold readGroup at h
  split at h
  · obtain ⟨x, e, h⟩ := ok_bind h
    obtain ⟨a, b⟩ := readAsked_bound (g' := x.1) (r := x.2) e (Nat.pow_pos (by decide))
    obtain ⟨c, d⟩ := moreAskedN_bound cols _ _ _ _ _ h a
    exact ⟨c, by omega⟩
  · cases h
    exact ⟨Nat.pow_pos (by decide), Nat.le_refl _⟩
theorem readTimes_bound {l r : Toks} {k : Nat} (h : readTimes l = .ok (k, r)) : 1 ≤ k ∧ k ≤ 99 ∧ r.length ≤ l.length := by
  unfold readTimes at h
  split at h
  · obtain ⟨t, e, _, _, a, b⟩ := readNumber_len h
    have q := congrArg List.length e
    rw [List.length_drop, List.length_cons] at q
    exact ⟨a, b, by omega⟩
  · cases h
    exact ⟨Nat.le_refl _, by decide, Nat.le_refl _⟩
theorem readQuestion_len {cols : List By} {asks : Nat} {l r : Toks} {x : Ask} (h : readQuestion cols asks l = .ok (x, r)) : r.length < l.length ∧ AskOk cols.length x ∧ asks ≠ 8 := by
  obtain ⟨w, e1, h⟩ := ok_bind h
  split at h
  · cases h
  · rename_i h8
    obtain ⟨g, e2, h⟩ := ok_bind h
    obtain ⟨k, e3, h⟩ := ok_bind h
    obtain ⟨m, e4, h⟩ := ok_map h
    cases h
    have l1 := take_len_lt (t := w.1) (r := w.2) e1
    obtain ⟨q1, l2⟩ := readGroup_bound (g := g.1) (r := g.2) e2
    obtain ⟨q2, q3, l3⟩ := readTimes_bound (k := k.1) (r := k.2) e3
    have l4 := take_len_lt (t := m.1) (r := m.2) e4
    exact ⟨by show m.2.length < l.length; omega, ⟨q1, q2, q3⟩, h8⟩
/-- rows and questions to the end -/
def linesN : Nat → Table → Toks → Except Fault Table
  | 0, _, l => wrong l
  | n + 1, t, l => if sees .fin l = true then .ok t else if sees .row l = true then (readRow t.cols.length t.rows.length l).bind fun x => linesN n { t with rows := t.rows ++ [x.1] } x.2
    else (readQuestion t.cols t.asks.length l).bind fun x => linesN n { t with asks := t.asks ++ [x.1] } x.2
theorem linesN_fuel : ∀ (n m : Nat) (t : Table) (l : Toks), 1 ≤ t.cols.length → l.length < n → l.length < m → linesN n t l = linesN m t l
  | 0, _, _, _, _, h, _ => absurd h (Nat.not_lt_zero _)
  | _ + 1, 0, _, _, _, _, h => absurd h (Nat.not_lt_zero _)
  | n + 1, m + 1, t, l, hc, h, h' => by
    show (if sees .fin l = true then _ else if sees .row l = true then _ else _) = (if sees .fin l = true then _ else if sees .row l = true then _ else _)
    split
    · rfl
    · split
      · cases e : readRow t.cols.length t.rows.length l with
        | error f => rfl
        | ok x =>
          have := (readRow_len hc (x := x.1) (r := x.2) e).1
          exact linesN_fuel n m { t with rows := t.rows ++ [x.1] } x.2 hc (by omega) (by omega)
      · cases e : readQuestion t.cols t.asks.length l with
        | error f => rfl
        | ok x =>
          have := (readQuestion_len (x := x.1) (r := x.2) e).1
          exact linesN_fuel n m { t with asks := t.asks ++ [x.1] } x.2 hc (by omega) (by omega)
def readLines (t : Table) (l : Toks) := linesN (l.length + 1) t l
theorem readLines_eq (t : Table) (l : Toks) (hc : 1 ≤ t.cols.length) : readLines t l = if sees .fin l = true then .ok t else if sees .row l = true then (readRow t.cols.length t.rows.length l).bind fun x => readLines { t with rows := t.rows ++ [x.1] } x.2
    else (readQuestion t.cols t.asks.length l).bind fun x => readLines { t with asks := t.asks ++ [x.1] } x.2 := by
  show (if sees .fin l = true then _ else if sees .row l = true then _ else _) = _
  split
  · rfl
  · split
    · cases e : readRow t.cols.length t.rows.length l with
      | error f => rfl
      | ok x =>
        have := (readRow_len hc (x := x.1) (r := x.2) e).1
        exact linesN_fuel l.length (x.2.length + 1) { t with rows := t.rows ++ [x.1] } x.2 hc (by omega) (by omega)
    · cases e : readQuestion t.cols t.asks.length l with
      | error f => rfl
      | ok x =>
        have := (readQuestion_len (x := x.1) (r := x.2) e).1
        exact linesN_fuel l.length (x.2.length + 1) { t with asks := t.asks ++ [x.1] } x.2 hc (by omega) (by omega)
theorem takeLines_eq : ∀ (n : Nat) (t : Table) (l : Toks), 1 ≤ t.cols.length → t.rows.length ≤ 16 → t.asks.length ≤ 8 → takeLines n t l = linesN n t l
  | 0, _, _, _, _, _ => rfl
  | n + 1, t, l, hc, hr, ha => by
    show (if next .last l = true then _ else if nextWord "row" l = true then _ else _) = (if sees .fin l = true then _ else if sees .row l = true then _ else _)
    rw [next_last, next_row]
    split
    · rfl
    · split
      · rename_i h1 h2
        obtain ⟨x, r, e, k⟩ := sees_iff h2
        subst e
        have et : take .row (x :: r) = .ok (x, r) := take_ok k
        unfold readRow
        rw [et]
        show (if ROWS ≤ t.rows.length then _ else _) = Except.bind (if t.rows.length = 16 then _ else _) _
        by_cases h16 : t.rows.length = 16
        · rw [if_pos (show ROWS ≤ t.rows.length from by show 16 ≤ t.rows.length; omega), if_pos h16]
          rfl
        · rw [if_neg (show ¬ ROWS ≤ t.rows.length from by show ¬ 16 ≤ t.rows.length; omega), if_neg h16]
          obtain ⟨c, ec⟩ : ∃ c, t.cols.length = c + 1 := ⟨t.cols.length - 1, by omega⟩
          have ev : takeValues t.cols.length [] r = (readNumber 0 9 r).bind fun y => moreValues (t.cols.length - 1) [y.1] y.2 := by
            rw [ec]
            show (takeNat VALUE r).bind _ = _
            rw [takeNat_eq]
            show (readNumber 0 9 r).bind _ = _
            cases readNumber 0 9 r with
            | error f => rfl
            | ok y => exact takeValues_more c [y.1] y.2 (by simp)
          show (takeValues t.cols.length [] r).bind _ = _
          rw [ev]
          show _ = ((readNumber 0 9 r).bind _).bind _
          cases readNumber 0 9 r with
          | error f => rfl
          | ok y =>
            show (moreValues (t.cols.length - 1) [y.1] y.2).bind _ = ((moreValues (t.cols.length - 1) [y.1] y.2).bind _).bind _
            cases moreValues (t.cols.length - 1) [y.1] y.2 with
            | error f => rfl
            | ok v =>
              show (takeSign 58 v.2).bind _ = ((take .colon v.2).bind _).bind _
              rw [taken_colon]
              cases take .colon v.2 with
              | error f => rfl
              | ok c =>
                show (takeInt c.2).bind _ = ((readAmount c.2).bind _).bind _
                rw [takeInt_eq]
                cases readAmount c.2 with
                | error f => rfl
                | ok a =>
                  show (takeSign 59 a.2).bind _ = ((take .semi a.2).map _).bind _
                  rw [taken_semi]
                  cases take .semi a.2 with
                  | error f => rfl
                  | ok m =>
                    refine takeLines_eq n _ _ hc ?_ ha
                    show (t.rows ++ [_]).length ≤ 16
                    rw [List.length_append, List.length_singleton]
                    omega
      · rw [taken_ask]
        unfold readQuestion
        cases e : take .ask l with
        | error f => rfl
        | ok x =>
          obtain ⟨y, r⟩ := x
          obtain ⟨e1, e2⟩ := take_len e
          have eh : here l = y.place := by rw [e1]; rfl
          show (if ASKS ≤ t.asks.length then _ else _) = Except.bind (if t.asks.length = 8 then _ else _) _
          by_cases h8 : t.asks.length = 8
          · rw [if_pos (show ASKS ≤ t.asks.length from by show 8 ≤ t.asks.length; omega), if_pos h8, eh]
            rfl
          · rw [if_neg (show ¬ ASKS ≤ t.asks.length from by show ¬ 8 ≤ t.asks.length; omega), if_neg h8]
            show (takeAsk t.cols r).bind _ = _
            rw [takeAsk_eq]
            generalize ((readGroup t.cols r).bind fun g => (readTimes g.2).bind fun k => (take .semi k.2).map fun m => ((⟨g.1, k.1⟩ : Ask), m.2)) = q
            cases q with
            | error f => rfl
            | ok a =>
              refine takeLines_eq n _ _ hc hr ?_
              show (t.asks ++ [_]).length ≤ 8
              rw [List.length_append, List.length_singleton]
              omega
theorem moreColumns_good : ∀ (n : Nat) (names : List By) (l : Toks) (names' : List By) (r : Toks), moreColumns n names l = .ok (names', r) → 1 ≤ names.length → names.length ≤ 4 → names.Nodup → (∀ t ∈ l, (nameOf t.tok).length ≤ 16) → (∀ w ∈ names, w.length ≤ 16) →
    1 ≤ names'.length ∧ names'.length ≤ 4 ∧ names'.Nodup ∧ ∀ w ∈ names', w.length ≤ 16
  | 0, _, _, _, _, h, _, _, _, _, _ => by cases h
  | n + 1, names, l, names', r, h, h1, h4, nd, hl, hw => by
    have h : (if sees .comma l = true then _ else _) = Except.ok (names', r) := h
    split at h
    · obtain ⟨x, e, h⟩ := ok_bind h
      obtain ⟨t, e1, _, e2, e3, e4⟩ := readColumn_len (w := x.1) (r := x.2) e
      have hm : ∀ u ∈ t :: x.2, u ∈ l := fun u hu => List.mem_of_mem_drop (by rw [e1]; exact hu)
      refine moreColumns_good n _ _ _ _ h (by rw [List.length_append]; omega) (by rw [List.length_append, List.length_singleton]; omega) ?_ (fun u hu => hl u (hm u (List.mem_cons_of_mem _ hu))) (fun w hw' => ?_)
      · rw [List.nodup_append]
        refine ⟨nd, List.pairwise_singleton .., fun a ha b hb => ?_⟩
        rw [List.mem_singleton.mp hb]
        intro z
        rw [z] at ha
        have : names.contains x.1 = true := by simpa using ha
        rw [this] at e4
        cases e4
      · rcases List.mem_append.mp hw' with z | z
        · exact hw w z
        · rw [List.mem_singleton.mp z, e2]
          exact hl t (hm t List.mem_cons_self)
    · obtain ⟨m, _, h⟩ := ok_map h
      cases h
      exact ⟨h1, h4, nd, hw⟩
/-- a table as it is to be -/
structure TableOk (t : Table) : Prop where
  c1 : 1 ≤ t.cols.length
  c4 : t.cols.length ≤ 4
  nd : t.cols.Nodup
  nm : ∀ w ∈ t.cols, w.length ≤ 16
  rows : ∀ r ∈ t.rows, RowOk t.cols.length r
  r16 : t.rows.length ≤ 16
  asks : ∀ a ∈ t.asks, AskOk t.cols.length a
  a8 : t.asks.length ≤ 8
theorem TableOk.row {t : Table} {r : Row} (T : TableOk t) (h : RowOk t.cols.length r) (n : t.rows.length ≠ 16) : TableOk { t with rows := t.rows ++ [r] } :=
  ⟨T.c1, T.c4, T.nd, T.nm, fun x hx => (List.mem_append.mp hx).elim (T.rows x) fun z => by rw [List.mem_singleton.mp z]; exact h, by
    show (t.rows ++ [r]).length ≤ 16
    have := T.r16
    rw [List.length_append, List.length_singleton]
    omega, T.asks, T.a8⟩
theorem TableOk.ask {t : Table} {a : Ask} (T : TableOk t) (h : AskOk t.cols.length a) (n : t.asks.length ≠ 8) : TableOk { t with asks := t.asks ++ [a] } :=
  ⟨T.c1, T.c4, T.nd, T.nm, T.rows, T.r16, fun x hx => (List.mem_append.mp hx).elim (T.asks x) fun z => by rw [List.mem_singleton.mp z]; exact h, by
    show (t.asks ++ [a]).length ≤ 8
    have := T.a8
    rw [List.length_append, List.length_singleton]
    omega⟩
def readTable (l : Toks) : Except Fault Table := (readColumns l).bind fun x => readLines ⟨x.1, [], []⟩ x.2
theorem readColumns_good {l r : Toks} {names : List By} (h : readColumns l = .ok (names, r)) (hl : ∀ t ∈ l, (nameOf t.tok).length ≤ 16) : 1 ≤ names.length ∧ names.length ≤ 4 ∧ names.Nodup ∧ ∀ w ∈ names, w.length ≤ 16 := by
  obtain ⟨x, e, h⟩ := ok_bind h
  obtain ⟨y, e2, h⟩ := ok_bind h
  obtain ⟨q1, _⟩ := take_len (t := x.1) (r := x.2) e
  obtain ⟨t, e1, _, e3, _, _⟩ := readColumn_len (w := y.1) (r := y.2) e2
  have hm : ∀ u ∈ t :: y.2, u ∈ l := fun u hu => by rw [q1, e1]; exact List.mem_cons_of_mem _ hu
  refine moreColumns_good _ _ _ _ _ h (by simp) (by simp) (by simp) (fun u hu => hl u (hm u (List.mem_cons_of_mem _ hu))) fun w hw => ?_
  rw [List.mem_singleton.mp hw, e3]
  exact hl t (hm t List.mem_cons_self)
theorem lexF_names : ∀ (n p : Nat) (l : By) (ts : Toks), lex n p l = .ok ts → ∀ t ∈ ts, (nameOf t.tok).length ≤ 16
  | 0, p, l, ts, h, t, ht => by cases h; rw [List.mem_singleton.mp ht]; exact Nat.zero_le _
  | n + 1, p, [], ts, h, t, ht => by cases h; rw [List.mem_singleton.mp ht]; exact Nat.zero_le _
  | n + 1, p, b :: r, ts, h, t, ht => by
    have h : (if isBlank b = true then lex n (p + 1) r else if b == 35 then lex n (p + 1 + (r.takeWhile (· != 10)).length) (r.dropWhile (· != 10))
      else match token (b :: r) with
        | none => .error ⟨2, p⟩
        | some x => (lex n (p + x.2) ((b :: r).drop x.2)).map fun l => ⟨p, x.1⟩ :: l) = .ok ts := h
    split at h
    · exact lexF_names n _ _ ts h t ht
    · split at h
      · exact lexF_names n _ _ ts h t ht
      · split at h
        · cases h
        · rename_i x e
          obtain ⟨ts', q, h⟩ := ok_map h
          subst h
          rcases List.mem_cons.mp ht with z | z
          · rw [z]
            obtain ⟨u, k⟩ := x
            show (nameOf u).length ≤ 16
            unfold token at e
            simp only at e
            split at e
            · split at e
              · cases e
              · rename_i hh
                injection e with e
                injection e with e1 e2
                rw [← e1]
                exact Nat.le_of_not_lt hh
            · split at e
              · cases q2 : numberOf ((b :: r).takeWhile isDigit) with
                | none => rw [q2] at e; cases e
                | some v =>
                  rw [q2] at e
                  injection e with e
                  injection e with e1 e2
                  rw [← e1]
                  exact Nat.zero_le _
              · split at e
                · injection e with e
                  injection e with e1 e2
                  rw [← e1]
                  exact Nat.zero_le _
                · cases e
          · exact lexF_names n _ _ ts' q t z
theorem tokens_names {b : By} {ts : Toks} (h : tokens b = .ok ts) : ∀ t ∈ ts, (nameOf t.tok).length ≤ 16 := by
  rw [tokens_eq] at h
  split at h
  · cases h
  · exact lexF_names _ _ _ _ h
theorem read_eq (b : By) : Vamvsa.read b = (tokens b).bind readTable := by
  unfold Vamvsa.read
  cases e : tokens b with
  | error f => rfl
  | ok l =>
    show (takeWord "columns" l).bind _ = (readColumns l).bind _
    rw [taken_columns]
    unfold readColumns
    cases e2 : take .columns l with
    | error f => rfl
    | ok x =>
      show (takeColumns (x.2.length + 1) [] x.2).bind _ = ((readColumn [] x.2).bind _).bind _
      rw [takeColumns_eq _ _ _ (by simp) (Nat.lt_succ_self _)]
      show ((readColumn [] x.2).bind fun y => moreCols ([] ++ [y.1]) y.2).bind _ = ((readColumn [] x.2).bind fun y => moreCols [y.1] y.2).bind _
      have hg := tokens_names e
      have e3 : readColumns l = ((readColumn [] x.2).bind fun y => moreCols [y.1] y.2) := by
        unfold readColumns
        rw [e2]
        rfl
      show (((readColumn [] x.2).bind fun y => moreCols [y.1] y.2)).bind _ = _
      rw [← e3]
      cases e4 : readColumns l with
      | error f => rfl
      | ok c =>
        obtain ⟨h1, _⟩ := readColumns_good (names := c.1) (r := c.2) e4 hg
        exact takeLines_eq _ ⟨c.1, [], []⟩ c.2 h1 (by simp) (by simp)
theorem linesN_good : ∀ (n : Nat) (t : Table) (l : Toks) (t' : Table), linesN n t l = .ok t' → TableOk t → TableOk t'
  | 0, _, _, _, h, _ => by cases h
  | n + 1, t, l, t', h, T => by
    have h : (if sees .fin l = true then _ else if sees .row l = true then _ else _) = Except.ok t' := h
    split at h
    · cases h; exact T
    · split at h
      · obtain ⟨x, e, h⟩ := ok_bind h
        obtain ⟨_, a, b⟩ := readRow_len T.c1 (x := x.1) (r := x.2) e
        exact linesN_good n _ _ _ h (T.row a b)
      · obtain ⟨x, e, h⟩ := ok_bind h
        obtain ⟨_, a, b⟩ := readQuestion_len (x := x.1) (r := x.2) e
        exact linesN_good n _ _ _ h (T.ask a b)
theorem read_good {b : By} {t : Table} (h : Vamvsa.read b = .ok t) : TableOk t := by
  rw [read_eq] at h
  obtain ⟨l, e, h⟩ := ok_bind h
  obtain ⟨c, e2, h⟩ := ok_bind h
  obtain ⟨h1, h4, nd, hw⟩ := readColumns_good (names := c.1) (r := c.2) e2 (tokens_names e)
  exact linesN_good _ _ _ _ h { c1 := h1, c4 := h4, nd := nd, nm := hw, rows := fun _ hr => (nomatch hr), r16 := Nat.zero_le _, asks := fun _ ha => (nomatch ha), a8 := Nat.zero_le _ }
end Kg
/-! Groups: a dict by keys in the order of coming, sorted at the end, is the specification's collecting. -/
namespace Kg
open VamvsBase Vamvsa

abbrev LLt (a b : List Nat) : Prop := lexLess a b = true
theorem lex_irr : ∀ a : List Nat, lexLess a a = false
  | [] => rfl
  | x :: a => by
    show (decide (x < x) || (x == x && lexLess a a)) = false
    rw [lex_irr a]
    simp
theorem lex_trans : ∀ {a b c : List Nat}, LLt a b → LLt b c → LLt a c
  | [], [], _, h, _ => by cases h
  | [], _ :: _, _, h, _ => by cases h
  | _ :: _, [], _, h, _ => by cases h
  | _ :: _, _ :: _, [], _, h => by cases h
  | x :: a, y :: b, z :: c, h1, h2 => by
    have h1 : (decide (x < y) || (x == y && lexLess a b)) = true := h1
    have h2 : (decide (y < z) || (y == z && lexLess b c)) = true := h2
    show (decide (x < z) || (x == z && lexLess a c)) = true
    simp only [Bool.or_eq_true, decide_eq_true_eq, Bool.and_eq_true, beq_iff_eq] at h1 h2 ⊢
    rcases h1 with h1 | ⟨e1, h1⟩
    · rcases h2 with h2 | ⟨e2, h2⟩
      · exact .inl (by omega)
      · exact .inl (by omega)
    · rcases h2 with h2 | ⟨e2, h2⟩
      · exact .inl (by omega)
      · exact .inr ⟨by omega, lex_trans h1 h2⟩
theorem lex_tri : ∀ {a b : List Nat}, a.length = b.length → a ≠ b → lexLess a b = false → LLt b a
  | [], [], _, n, _ => absurd rfl n
  | [], _ :: _, h, _, _ => by cases h
  | _ :: _, [], h, _, _ => by cases h
  | x :: a, y :: b, hl, n, h => by
    have h : (decide (x < y) || (x == y && lexLess a b)) = false := h
    show (decide (y < x) || (y == x && lexLess b a)) = true
    simp only [Bool.or_eq_false_iff, decide_eq_false_iff_not, Bool.and_eq_false_iff, beq_eq_false_iff_ne] at h
    simp only [Bool.or_eq_true, decide_eq_true_eq, Bool.and_eq_true, beq_iff_eq]
    obtain ⟨h1, h2⟩ := h
    by_cases e : x = y
    · refine .inr ⟨e.symm, lex_tri (Nat.succ.inj hl) (fun z => n (by rw [e, z])) ?_⟩
      rcases h2 with h2 | h2
      · exact absurd e h2
      · exact h2
    · exact .inl (by omega)
def keys (l : List Group) : List (List Nat) := l.map Group.key
def Asc (l : List Group) : Prop := l.Pairwise fun a b => LLt a.key b.key
/-- all keys are of one length -/
def Len (d : Nat) (l : List Group) : Prop := ∀ g ∈ l, g.key.length = d
/-- a group put into what is there by its key, in order of coming -/
def putOne (x : Group) (l : List Group) : List Group := if x.key ∈ keys l then l.map fun y => if x.key = y.key then ⟨y.key, y.sum + x.sum, y.n + x.n⟩ else y else l ++ [x]
theorem put_perm (x : Group) : ∀ l : List Group, x.key ∉ keys l → (putGroup x l).Perm (x :: l)
  | [], _ => List.Perm.refl _
  | y :: r, h => by
    have h1 : ¬ x.key = y.key := fun e => h (by rw [e]; exact List.mem_cons_self)
    show (if x.key = y.key then _ else if lexLess x.key y.key = true then _ else _ : List Group).Perm _
    rw [if_neg h1]
    split
    · exact List.Perm.refl _
    · exact ((put_perm x r fun z => h (List.mem_cons_of_mem _ z)).cons y).trans (List.Perm.swap ..)
theorem put_map (x : Group) : ∀ l : List Group, Asc l → x.key ∈ keys l → putGroup x l = l.map fun y => if x.key = y.key then ⟨y.key, y.sum + x.sum, y.n + x.n⟩ else y
  | [], _, h => by cases h
  | y :: r, s, h => by
    obtain ⟨s1, s2⟩ := List.pairwise_cons.mp s
    show (if x.key = y.key then _ else if lexLess x.key y.key = true then _ else _ : List Group) = _
    by_cases e : x.key = y.key
    · rw [if_pos e, List.map_cons, if_pos e]
      congr 1
      have same : ∀ z ∈ r, (if x.key = z.key then (⟨z.key, z.sum + x.sum, z.n + x.n⟩ : Group) else z) = z := fun z hz => by
        rw [if_neg]
        intro e2
        have h1 : lexLess y.key z.key = true := s1 z hz
        rw [← e2, e, lex_irr] at h1
        cases h1
      rw [List.map_congr_left same, List.map_id'']
      intro z; rfl
    · have hr : x.key ∈ keys r := by
        rcases List.mem_cons.mp h with z | z
        · exact absurd z e
        · exact z
      have hl : lexLess x.key y.key = false := by
        cases q : lexLess x.key y.key with
        | false => rfl
        | true =>
          obtain ⟨z, hz, ez⟩ := List.mem_map.mp hr
          have h1 : lexLess y.key z.key = true := s1 z hz
          rw [ez] at h1
          have h2 : lexLess x.key x.key = true := lex_trans q h1
          rw [lex_irr] at h2
          cases h2
      rw [if_neg e, if_neg (by rw [hl]; exact Bool.false_ne_true), List.map_cons, if_neg e, put_map x r s2 hr]
theorem put_mem {x g : Group} : ∀ {l : List Group}, g ∈ putGroup x l → g.key = x.key ∨ ∃ y ∈ l, y.key = g.key
  | [], h => .inl (by rw [List.mem_singleton.mp h])
  | y :: r, h => by
    have h : g ∈ (if x.key = y.key then ⟨y.key, y.sum + x.sum, y.n + x.n⟩ :: r else if lexLess x.key y.key = true then x :: y :: r else y :: putGroup x r : List Group) := h
    split at h
    · rcases List.mem_cons.mp h with z | z
      · exact .inr ⟨y, List.mem_cons_self, by rw [z]⟩
      · exact .inr ⟨g, List.mem_cons_of_mem _ z, rfl⟩
    · split at h
      · rcases List.mem_cons.mp h with z | z
        · exact .inl (by rw [z])
        · exact .inr ⟨g, z, rfl⟩
      · rcases List.mem_cons.mp h with z | z
        · exact .inr ⟨g, by rw [z]; exact List.mem_cons_self, rfl⟩
        · rcases put_mem z with w | ⟨u, hu, w⟩
          · exact .inl w
          · exact .inr ⟨u, List.mem_cons_of_mem _ hu, w⟩
theorem put_len {d : Nat} {x : Group} {l : List Group} (h : Len d l) (hx : x.key.length = d) : Len d (putGroup x l) := fun g hg => by
  rcases put_mem hg with z | ⟨y, hy, z⟩
  · rw [z]; exact hx
  · rw [← z]; exact h y hy
theorem put_str {d : Nat} {x : Group} : ∀ {l : List Group}, Len d l → x.key.length = d → Asc l → Asc (putGroup x l)
  | [], _, _, _ => List.pairwise_singleton ..
  | y :: r, h, hx, s => by
    obtain ⟨s1, s2⟩ := List.pairwise_cons.mp s
    show Asc (if x.key = y.key then ⟨y.key, y.sum + x.sum, y.n + x.n⟩ :: r else if lexLess x.key y.key = true then x :: y :: r else y :: putGroup x r : List Group)
    split
    · exact List.pairwise_cons.mpr ⟨s1, s2⟩
    · split
      · rename_i e q
        refine List.pairwise_cons.mpr ⟨fun z hz => ?_, s⟩
        rcases List.mem_cons.mp hz with w | w
        · rw [w]; exact q
        · exact lex_trans q (s1 z w)
      · rename_i e q
        have q : lexLess x.key y.key = false := by simpa using q
        have hy : LLt y.key x.key := lex_tri (hx.trans (h y List.mem_cons_self).symm) e q
        refine List.pairwise_cons.mpr ⟨fun z hz => ?_, put_str (fun g hg => h g (List.mem_cons_of_mem _ hg)) hx s2⟩
        rcases put_mem hz with w | ⟨u, hu, w⟩
        · show LLt y.key z.key
          rw [w]; exact hy
        · show LLt y.key z.key
          rw [← w]; exact s1 u hu
theorem collect_snoc (l : List Group) (x : Group) : collect (l ++ [x]) = putGroup x (collect l) := by
  unfold collect
  rw [List.foldl_append]
  rfl
theorem rev_ind {α : Type} {p : List α → Prop} (h0 : p []) (h1 : ∀ l x, p l → p (l ++ [x])) : ∀ l, p l := by
  intro l
  have q : ∀ m : List α, p m.reverse := fun m => by
    induction m with
    | nil => exact h0
    | cons x r ih =>
      rw [List.reverse_cons]
      exact h1 _ _ ih
  rw [← List.reverse_reverse l]
  exact q _
theorem collect_good {d : Nat} : ∀ l : List Group, Len d l → Len d (collect l) ∧ Asc (collect l) := by
  refine rev_ind (fun _ => ⟨fun g h => (nomatch h), List.Pairwise.nil⟩) fun l x ih h => ?_
  obtain ⟨a, b⟩ := ih fun g hg => h g (List.mem_append_left _ hg)
  have hx : x.key.length = d := h x (List.mem_append_right _ List.mem_cons_self)
  rw [collect_snoc]
  exact ⟨put_len a hx, put_str a hx b⟩
/-- as the program gathers: in the order of coming -/
def gather (l : List Group) : List Group := l.foldl (fun r x => putOne x r) []
theorem gather_snoc (l : List Group) (x : Group) : gather (l ++ [x]) = putOne x (gather l) := by
  unfold gather
  rw [List.foldl_append]
  rfl
theorem gather_perm {d : Nat} : ∀ l : List Group, Len d l → (gather l).Perm (collect l) := by
  refine rev_ind (fun _ => List.Perm.refl _) fun l x ih h => ?_
  have hl : Len d l := fun g hg => h g (List.mem_append_left _ hg)
  have p := ih hl
  obtain ⟨a, b⟩ := collect_good l hl
  rw [collect_snoc, gather_snoc]
  have hk : x.key ∈ keys (gather l) ↔ x.key ∈ keys (collect l) := (p.map Group.key).mem_iff
  unfold putOne
  by_cases e : x.key ∈ keys (gather l)
  · rw [if_pos e, put_map x _ b (hk.mp e)]
    exact p.map _
  · rw [if_neg e]
    refine List.Perm.trans ?_ (put_perm x _ fun z => e (hk.mpr z)).symm
    exact (List.perm_append_comm (l₁ := gather l) (l₂ := [x])).trans (p.cons x)
theorem str_nodup {l : List Group} (s : Asc l) : (keys l).Nodup := by
  unfold keys
  rw [List.nodup_iff_pairwise_ne, List.pairwise_map]
  refine s.imp fun {a b} h e => ?_
  rw [e, LLt, lex_irr] at h
  cases h
theorem gather_nodup {d : Nat} {l : List Group} (h : Len d l) : (keys (gather l)).Nodup := ((gather_perm l h).map Group.key).nodup_iff.mpr (str_nodup (collect_good l h).2)
theorem putOne_len (x : Group) (l : List Group) : (putOne x l).length ≤ l.length + 1 := by
  unfold putOne
  split
  · rw [List.length_map]; exact Nat.le_succ _
  · rw [List.length_append]; exact Nat.le_refl _
theorem gather_le : ∀ l : List Group, (gather l).length ≤ l.length := by
  refine rev_ind (Nat.le_refl _) fun l x ih => ?_
  rw [gather_snoc, List.length_append]
  have := putOne_len x (gather l)
  show _ ≤ l.length + 1
  omega
/-- two arrangements by a strict order of the same things are one -/
theorem sorted_unique {α : Type} {r : α → α → Prop} (irr : ∀ a, ¬ r a a) (tr : ∀ a b c, r a b → r b c → r a c) : ∀ {l m : List α}, l.Pairwise r → m.Pairwise r → l.Perm m → l = m
  | [], m, _, _, p => (List.nil_perm.mp p).symm
  | x :: l, [], _, _, p => absurd p.length_eq (by simp)
  | x :: l, y :: m, hl, hm, p => by
    obtain ⟨l1, l2⟩ := List.pairwise_cons.mp hl
    obtain ⟨m1, m2⟩ := List.pairwise_cons.mp hm
    have e : x = y := by
      rcases List.mem_cons.mp (p.mem_iff.mp List.mem_cons_self) with z | z
      · exact z
      · rcases List.mem_cons.mp (p.mem_iff.mpr List.mem_cons_self) with w | w
        · exact w.symm
        · exact absurd (tr _ _ _ (m1 x z) (l1 y w)) (irr y)
    subst e
    rw [sorted_unique irr tr l2 m2 (List.Perm.cons_inv p)]
/-- the keys sorted are those of the collecting -/
theorem keys_sorted {d : Nat} {l : List Group} (h : Len d l) {ks : List (List Nat)} (p : ks.Perm (keys (gather l))) (s : ks.Pairwise LLt) : ks = keys (collect l) :=
  sorted_unique (r := LLt) (fun a z => by have z : lexLess a a = true := z; rw [lex_irr] at z; cases z) (fun a b c h1 h2 => lex_trans h1 h2) s (List.pairwise_map.mpr (collect_good l h).2) (p.trans ((gather_perm l h).map Group.key))
/-- the group of a key -/
theorem gather_at {d : Nat} {l : List Group} (h : Len d l) {g : Group} (hg : g ∈ collect l) : g ∈ gather l := (gather_perm l h).mem_iff.mpr hg
theorem key_one {l : List Group} (n : (keys l).Nodup) {g g' : Group} (h : g ∈ l) (h' : g' ∈ l) (e : g.key = g'.key) : g = g' := by
  unfold keys at n
  rw [List.nodup_iff_pairwise_ne, List.pairwise_map] at n
  obtain ⟨i, hi, e1⟩ := List.getElem_of_mem h
  obtain ⟨j, hj, e2⟩ := List.getElem_of_mem h'
  rcases Nat.lt_trichotomy i j with z | z | z
  · have := List.pairwise_iff_getElem.mp n i j hi hj z
    rw [e1, e2] at this
    exact absurd e this
  · subst z; exact e1.symm.trans e2
  · have := List.pairwise_iff_getElem.mp n j i hj hi z
    rw [e1, e2] at this
    exact absurd e.symm this
end Kg
/-! Columns as bits; what is read; what is kept. -/
namespace Kg
open VamvsBase Vamvsa

theorem bit_eq (g i : Nat) : (g / 2 ^ i % 2 == 1) = g.testBit i := by
  rw [Nat.testBit_eq_decide_div_mod_eq, Bool.eq_iff_iff]
  simp
theorem mem_cols {n g i : Nat} : i ∈ columnsOf n g ↔ i < n ∧ g.testBit i = true := by
  unfold columnsOf
  rw [List.mem_filter, List.mem_range, bit_eq]
theorem cols_nodup (n g : Nat) : (columnsOf n g).Nodup := List.Nodup.sublist List.filter_sublist List.nodup_range
theorem cols_len (n g : Nat) : (columnsOf n g).length ≤ n := by
  have := List.length_filter_le (fun i => g / 2 ^ i % 2 == 1) (List.range n)
  rw [List.length_range] at this
  exact this
theorem canFrom_bits {n s g : Nat} (hg : g < 2 ^ n) : canFrom n s g = decide (g &&& s = g) := by
  rw [Bool.eq_iff_iff, decide_eq_true_eq]
  unfold canFrom
  rw [List.all_eq_true]
  constructor
  · intro h
    apply Nat.eq_of_testBit_eq
    intro i
    rw [Nat.testBit_and]
    cases e : g.testBit i with
    | false => rfl
    | true =>
      have hi : i < n := by
        rcases Nat.lt_or_ge i n with z | z
        · exact z
        · have := Nat.testBit_lt_two_pow (x := g) (i := i) (Nat.lt_of_lt_of_le hg (Nat.pow_le_pow_right (by decide) z))
          rw [this] at e
          cases e
      have := h i (mem_cols.mpr ⟨hi, e⟩)
      rw [List.contains_iff_mem] at this
      rw [(mem_cols.mp this).2]
      rfl
  · intro h i hi
    obtain ⟨h1, h2⟩ := mem_cols.mp hi
    rw [List.contains_iff_mem]
    refine mem_cols.mpr ⟨h1, ?_⟩
    rw [← h, Nat.testBit_and, Bool.and_eq_true] at h2
    exact h2.2
theorem cols_nil {n g : Nat} (hg : g < 2 ^ n) : columnsOf n g = [] ↔ g = 0 := by
  constructor
  · intro h
    apply Nat.eq_of_testBit_eq
    intro i
    rw [Nat.zero_testBit]
    cases e : g.testBit i with
    | false => rfl
    | true =>
      have hi : i < n := by
        rcases Nat.lt_or_ge i n with z | z
        · exact z
        · have := Nat.testBit_lt_two_pow (x := g) (i := i) (Nat.lt_of_lt_of_le hg (Nat.pow_le_pow_right (by decide) z))
          rw [this] at e
          cases e
      have := mem_cols.mpr ⟨hi, e⟩
      rw [h] at this
      cases this
  · intro h
    subst h
    refine List.eq_nil_iff_forall_not_mem.mpr fun i hi => ?_
    have := (mem_cols.mp hi).2
    rw [Nat.zero_testBit] at this
    cases this

/-! ### merging -/
/-- one group for all that are alike at these places -/
def mergeG (ps : List Nat) (l : List Group) : List Group := collect (l.map fun x => ⟨ps.map fun p => x.key.getD p 0, x.sum, x.n⟩)
def rowsG (t : Table) : List Group := t.rows.map fun r => ⟨r.vs, r.m, 1⟩
theorem groupsOf_merge (t : Table) (g : Nat) : groupsOf t g = mergeG (columnsOf (width t) g) (rowsG t) := by
  unfold groupsOf mergeG rowsG
  rw [List.map_map]
  rfl
def rollPs (n big small : Nat) : List Nat := (columnsOf n small).map fun i => (columnsOf n big).findIdx fun c => c == i
theorem rolled_merge (n big small : Nat) (l : List Group) : rolled n big small l = mergeG (rollPs n big small) l := by
  unfold rolled mergeG rollPs
  simp only [List.map_map]
  rfl
/-- lines as they are to be: keys of d numbers up to 9 -/
def LineOk (d : Nat) (g : Group) : Prop := g.key.length = d ∧ ∀ v ∈ g.key, v ≤ 9
theorem merged_len {ps : List Nat} {l : List Group} : Len ps.length (l.map fun x => (⟨ps.map fun p => x.key.getD p 0, x.sum, x.n⟩ : Group)) := fun g hg => by
  obtain ⟨x, _, e⟩ := List.mem_map.mp hg
  subst e
  exact List.length_map ..
theorem getD_le {l : List Nat} (h : ∀ v ∈ l, v ≤ 9) (i : Nat) : l.getD i 0 ≤ 9 := by
  rw [List.getD_eq_getElem?_getD]
  cases e : l[i]? with
  | none => exact Nat.zero_le _
  | some v => exact h v (List.mem_of_getElem? e)
theorem put_keyof {x g : Group} {l : List Group} (h : g ∈ putGroup x l) : g.key = x.key ∨ ∃ y ∈ l, y.key = g.key := put_mem h
theorem collect_keyof : ∀ (l : List Group) (g : Group), g ∈ collect l → ∃ x ∈ l, x.key = g.key := by
  refine rev_ind (fun g h => (nomatch h)) fun l x ih g h => ?_
  rw [collect_snoc] at h
  rcases put_mem h with z | ⟨y, hy, z⟩
  · exact ⟨x, List.mem_append_right _ List.mem_cons_self, z.symm⟩
  · obtain ⟨u, hu, w⟩ := ih y hy
    exact ⟨u, List.mem_append_left _ hu, w.trans z⟩
theorem merge_ok {d : Nat} {ps : List Nat} {l : List Group} (h : ∀ g ∈ l, LineOk d g) : ∀ g ∈ mergeG ps l, LineOk ps.length g := fun g hg => by
  refine ⟨(collect_good _ merged_len).1 g hg, ?_⟩
  obtain ⟨x, hx, e⟩ := collect_keyof _ g hg
  obtain ⟨y, hy, e2⟩ := List.mem_map.mp hx
  intro v hv
  rw [← e, ← e2] at hv
  obtain ⟨p, _, e3⟩ := List.mem_map.mp hv
  rw [← e3]
  exact getD_le (h y hy).2 p
theorem collect_le (l : List Group) {d : Nat} (h : Len d l) : (collect l).length ≤ l.length := by
  rw [← (gather_perm l h).length_eq]
  exact gather_le l
theorem merge_le {ps : List Nat} {l : List Group} : (mergeG ps l).length ≤ l.length := by
  have := collect_le _ (merged_len (ps := ps) (l := l))
  rw [List.length_map] at this
  exact this
theorem rows_ok {t : Table} (T : TableOk t) : ∀ g ∈ rowsG t, LineOk (width t) g := fun g hg => by
  obtain ⟨r, hr, e⟩ := List.mem_map.mp hg
  subst e
  exact ⟨(T.rows r hr).len, (T.rows r hr).small⟩
theorem groupsOf_ok {t : Table} (T : TableOk t) (g : Nat) : ∀ x ∈ groupsOf t g, LineOk (columnsOf (width t) g).length x := by
  rw [groupsOf_merge]
  exact merge_ok (rows_ok T)
theorem groupsOf_le {t : Table} (T : TableOk t) (g : Nat) : (groupsOf t g).length ≤ 16 := by
  rw [groupsOf_merge]
  refine Nat.le_trans merge_le ?_
  unfold rowsG
  rw [List.length_map]
  exact T.r16
theorem rollPs_lt {n big small : Nat} (h : canFrom n big small = true) : ∀ p ∈ rollPs n big small, p < (columnsOf n big).length := fun p hp => by
  obtain ⟨i, hi, e⟩ := List.mem_map.mp hp
  subst e
  refine List.findIdx_lt_length_of_exists ⟨i, ?_, beq_self_eq_true i⟩
  unfold canFrom at h
  exact List.contains_iff_mem.mp (List.all_eq_true.mp h i hi)

/-! ### what is read -/
def szLe (t : Table) (v u : Nat) : Prop := sizeOf_ t v < sizeOf_ t u ∨ (sizeOf_ t v = sizeOf_ t u ∧ v ≤ u)
/-- the best of a list: none if there is none -/
def Best (t : Table) (g : Nat) (l : List Nat) : Option Nat → Prop
  | none => ∀ v ∈ l, canFrom (width t) v g = false
  | some v => v ∈ l ∧ canFrom (width t) v g = true ∧ ∀ u ∈ l, canFrom (width t) u g = true → szLe t v u
theorem best_fold (t : Table) (g : Nat) : ∀ l : List Nat, l.Pairwise (· < ·) → Best t g l (l.foldl (better t g) none) := by
  refine rev_ind (fun _ v h => (nomatch h)) fun l x ih h => ?_
  obtain ⟨hl, _, hx⟩ := List.pairwise_append.mp h
  have ih := ih hl
  rw [List.foldl_append]
  show Best t g (l ++ [x]) (better t g (l.foldl (better t g) none) x)
  generalize l.foldl (better t g) none = b at ih ⊢
  unfold better
  split
  · rename_i hc
    cases b with
    | none =>
      intro v hv
      rcases List.mem_append.mp hv with z | z
      · exact ih v z
      · rw [List.mem_singleton.mp z]; exact hc
    | some b =>
      obtain ⟨i1, i2, i3⟩ := ih
      refine ⟨List.mem_append_left _ i1, i2, fun u hu hcu => ?_⟩
      rcases List.mem_append.mp hu with z | z
      · exact i3 u z hcu
      · rw [List.mem_singleton.mp z, hc] at hcu
        cases hcu
  · rename_i hc
    have hc : canFrom (width t) x g = true := by simpa using hc
    cases b with
    | none =>
      refine ⟨List.mem_append_right _ List.mem_cons_self, hc, fun u hu hcu => ?_⟩
      rcases List.mem_append.mp hu with z | z
      · rw [ih u z] at hcu
        cases hcu
      · rw [List.mem_singleton.mp z]
        exact .inr ⟨rfl, Nat.le_refl _⟩
    | some b =>
      obtain ⟨i1, i2, i3⟩ := ih
      show Best t g (l ++ [x]) (if sizeOf_ t x < sizeOf_ t b then some x else some b)
      split
      · rename_i hlt
        refine ⟨List.mem_append_right _ List.mem_cons_self, hc, fun u hu hcu => ?_⟩
        rcases List.mem_append.mp hu with z | z
        · rcases i3 u z hcu with w | ⟨w, _⟩
          · exact .inl (Nat.lt_trans hlt w)
          · exact .inl (by omega)
        · rw [List.mem_singleton.mp z]
          exact .inr ⟨rfl, Nat.le_refl _⟩
      · rename_i hlt
        refine ⟨List.mem_append_left _ i1, i2, fun u hu hcu => ?_⟩
        rcases List.mem_append.mp hu with z | z
        · exact i3 u z hcu
        · rw [List.mem_singleton.mp z]
          have := hx b i1 x List.mem_cons_self
          by_cases e : sizeOf_ t b < sizeOf_ t x
          · exact .inl e
          · exact .inr ⟨by omega, Nat.le_of_lt this⟩
theorem best_one {t : Table} {g : Nat} {l m : List Nat} (hm : ∀ v, v ∈ l ↔ v ∈ m) : ∀ {a b : Option Nat}, Best t g l a → Best t g m b → a = b
  | none, none, _, _ => rfl
  | none, some b, h, h' => by
    have := h b ((hm b).mpr h'.1)
    rw [h'.2.1] at this
    cases this
  | some a, none, h, h' => by
    have := h' a ((hm a).mp h.1)
    rw [h.2.1] at this
    cases this
  | some a, some b, h, h' => by
    have q1 := h.2.2 b ((hm b).mpr h'.1) h'.2.1
    have q2 := h'.2.2 a ((hm a).mp h.1) h.2.1
    have e : a = b := by
      rcases q1 with q1 | ⟨q1, q3⟩ <;> rcases q2 with q2 | ⟨q2, q4⟩ <;> omega
    rw [e]
theorem groupings_sorted (t : Table) : (groupings t).Pairwise (· < ·) := List.pairwise_lt_range
theorem mem_sorted {t : Table} {k : List Nat} {g : Nat} : g ∈ sortedKept t k ↔ g < 2 ^ width t ∧ g ∈ k := by
  unfold sortedKept groupings
  rw [List.mem_filter, List.mem_range, List.contains_iff_mem]
theorem sorted_sorted (t : Table) (k : List Nat) : (sortedKept t k).Pairwise (· < ·) := (groupings_sorted t).filter _
theorem reader_best (t : Table) (k : List Nat) (g : Nat) : Best t g (sortedKept t k) (reader t k g) := best_fold t g _ (sorted_sorted t k)
/-- what is kept, in order of coming, stands for k -/
structure KeptAs (t : Table) (ks k : List Nat) : Prop where
  nd : ks.Nodup
  lt : ∀ g ∈ ks, g < 2 ^ width t
  iff : ∀ g, g < 2 ^ width t → (g ∈ ks ↔ g ∈ k)
theorem KeptAs.mem {t : Table} {ks k : List Nat} (h : KeptAs t ks k) (g : Nat) : g ∈ sortedKept t k ↔ g ∈ ks := by
  rw [mem_sorted]
  constructor
  · intro ⟨a, b⟩; exact (h.iff g a).mpr b
  · intro a; exact ⟨h.lt g a, (h.iff g (h.lt g a)).mp a⟩
theorem perm_same {l m : List Nat} (hl : l.Nodup) (hm : m.Nodup) (h : ∀ g, g ∈ l ↔ g ∈ m) : l.Perm m := by
  rw [List.perm_iff_count]
  intro a
  rw [List.nodup_iff_count] at hl hm
  have h1 := hl a
  have h2 := hm a
  have h3 := h a
  rw [← List.count_pos_iff, ← List.count_pos_iff] at h3
  omega
theorem KeptAs.perm {t : Table} {ks k : List Nat} (h : KeptAs t ks k) : ks.Perm (sortedKept t k) :=
  perm_same h.nd ((sorted_sorted t k).imp (fun {a b} (z : a < b) => Nat.ne_of_lt z)) fun g => (h.mem g).symm
theorem KeptAs.room {t : Table} {ks k : List Nat} (h : KeptAs t ks k) : (ks.map (sizeOf_ t)).sum = room t k := (h.perm.map _).sum_nat
theorem KeptAs.reader {t : Table} {ks k : List Nat} (h : KeptAs t ks k) {g : Nat} {b : Option Nat} (hb : Best t g ks b) : b = Vamvsa.reader t k g :=
  best_one (fun v => (h.mem v).symm) hb (reader_best t k g)
theorem KeptAs.nil (t : Table) : KeptAs t [] [] := ⟨List.nodup_nil, fun g h => (nomatch h), fun g _ => Iff.rfl⟩
theorem KeptAs.more {t : Table} {ks k : List Nat} (h : KeptAs t ks k) {x : Nat} (hx : x < 2 ^ width t) : KeptAs t (if x ∈ ks then ks else ks ++ [x]) (x :: k) := by
  split
  · rename_i hm
    refine ⟨h.nd, h.lt, fun g hg => ?_⟩
    rw [List.mem_cons, h.iff g hg]
    constructor
    · intro z; exact .inr z
    · intro z
      rcases z with z | z
      · rw [z]; exact (h.iff x hx).mp hm
      · exact z
  · rename_i hm
    refine ⟨?_, fun g hg => ?_, fun g hg => ?_⟩
    · rw [List.nodup_append]
      refine ⟨h.nd, List.pairwise_singleton .., fun a ha b hb e => ?_⟩
      rw [List.mem_singleton.mp hb] at e
      rw [e] at ha
      exact hm ha
    · rcases List.mem_append.mp hg with z | z
      · exact h.lt g z
      · rw [List.mem_singleton.mp z]; exact hx
    · rw [List.mem_append, List.mem_singleton, List.mem_cons, h.iff g hg]
      constructor
      · intro z
        rcases z with z | z
        · exact .inr z
        · exact .inl z
      · intro z
        rcases z with z | z
        · exact .inr z
        · exact .inl z
/-- the groupings told, each once, in order of coming -/
def once (l : List Nat) : List Nat := l.foldl (fun r x => if x ∈ r then r else r ++ [x]) []
theorem once_snoc (l : List Nat) (x : Nat) : once (l ++ [x]) = if x ∈ once l then once l else once l ++ [x] := by
  unfold once
  rw [List.foldl_append]
  rfl
theorem once_kept (t : Table) : ∀ l : List Nat, (∀ g ∈ l, g < 2 ^ width t) → KeptAs t (once l) l.reverse := by
  refine rev_ind (fun _ => KeptAs.nil t) fun l x ih h => ?_
  rw [once_snoc, List.reverse_append]
  exact (ih fun g hg => h g (List.mem_append_left _ hg)).more (h x (List.mem_append_right _ List.mem_cons_self))
theorem KeptAs.to {t : Table} {ks k k' : List Nat} (h : KeptAs t ks k) (e : ∀ g, g < 2 ^ width t → (g ∈ k ↔ g ∈ k')) : KeptAs t ks k' := ⟨h.nd, h.lt, fun g hg => (h.iff g hg).trans (e g hg)⟩
end Kg
/-! The one form as the program writes it. -/
namespace Kg
open VamvsBase Vamvsa

/-- names one behind another -/
def listedM (l : List By) : By := l.foldl (fun f w => (if f = [] then f else f ++ word ", ") ++ w) []
theorem listedM_snoc (l : List By) (w : By) : listedM (l ++ [w]) = (if listedM l = [] then listedM l else listedM l ++ word ", ") ++ w := by
  unfold listedM
  rw [List.foldl_append]
  rfl
theorem joined_snoc (sep : By) : ∀ (l : List By) (w : By), l ≠ [] → joined sep (l ++ [w]) = joined sep l ++ sep ++ w
  | [], _, h => absurd rfl h
  | [x], w, _ => by
    show x ++ sep ++ w = x ++ sep ++ w
    rfl
  | x :: y :: r, w, _ => by
    show x ++ sep ++ joined sep ((y :: r) ++ [w]) = x ++ sep ++ joined sep (y :: r) ++ sep ++ w
    rw [joined_snoc sep (y :: r) w (by simp)]
    simp only [List.append_assoc]
theorem listedM_eq : ∀ l : List By, (∀ w ∈ l, w ≠ []) → listedM l = commas l ∧ (l ≠ [] → listedM l ≠ []) := by
  refine rev_ind (fun _ => ⟨rfl, fun h => absurd rfl h⟩) fun l w ih h => ?_
  obtain ⟨i1, i2⟩ := ih fun x hx => h x (List.mem_append_left _ hx)
  have hw : w ≠ [] := h w (List.mem_append_right _ List.mem_cons_self)
  have hne : listedM (l ++ [w]) ≠ [] := by
    rw [listedM_snoc]
    intro z
    exact hw (List.append_eq_nil_iff.mp z).2
  refine ⟨?_, fun _ => hne⟩
  rw [listedM_snoc]
  by_cases e : l = []
  · subst e; rfl
  · rw [if_neg (i2 e), i1]
    unfold commas
    rw [joined_snoc _ _ _ e]
def colsLine (cols : List By) : By := word "columns " ++ listedM cols ++ word " ;\n"
def rowLine (r : Row) : By := word "row " ++ (commas (r.vs.map showNat) ++ (word " : " ++ (showInt r.m ++ word " ;\n")))
/-- the asked columns' names -/
def askedOf (cols : List By) (g : Nat) : List By := (columnsOf cols.length g).map fun i => cols.getD i []
def askLine (cols : List By) (a : Ask) : By :=
  ((if askedOf cols a.g = [] then word "ask " else word "ask " ++ (listedM (askedOf cols a.g) ++ word " ")) ++ (if a.k = 1 then [] else word "times " ++ (showNat a.k ++ word " "))) ++ word ";\n"
theorem asked_mem {cols : List By} {g : Nat} {w : By} (h : w ∈ askedOf cols g) : w ∈ cols := by
  obtain ⟨i, hi, e⟩ := List.mem_map.mp h
  have hl := (mem_cols.mp hi).1
  rw [List.getD_eq_getElem?_getD, List.getElem?_eq_getElem hl] at e
  rw [← e]
  exact List.getElem_mem hl
theorem colsLine_eq {t : Table} (h : ∀ w ∈ t.cols, w ≠ []) : line (word "columns " ++ (commas t.cols ++ word " ;")) = colsLine t.cols := by
  unfold line colsLine
  rw [(listedM_eq t.cols h).1]
  simp only [List.append_assoc]
  rfl
theorem rowLine_eq (r : Row) : showRow r = rowLine r := by
  unfold showRow line rowLine
  simp only [List.append_assoc]
  rfl
theorem askLine_eq {cols : List By} {a : Ask} (h : ∀ w ∈ cols, w ≠ []) (hg : a.g < 2 ^ cols.length) : showAsk cols a = askLine cols a := by
  unfold showAsk line askLine
  have h1 := (listedM_eq (askedOf cols a.g) fun w hw => h w (asked_mem hw)).1
  have h2 : askedOf cols a.g = [] ↔ a.g = 0 := by
    unfold askedOf
    rw [List.map_eq_nil_iff]
    exact cols_nil hg
  rw [h1]
  by_cases e1 : a.g = 0
  · rw [if_pos e1, if_pos (h2.mpr e1)]
    by_cases e2 : a.k = 1
    · rw [if_pos e2, if_pos e2]; rfl
    · rw [if_neg e2, if_neg e2]
      have : word " times " = word " " ++ word "times " := rfl
      rw [this]
      simp only [List.append_assoc, List.nil_append]
      rfl
  · rw [if_neg e1, if_neg (mt h2.mp e1)]
    unfold askedOf
    by_cases e2 : a.k = 1
    · rw [if_pos e2, if_pos e2]
      simp only [List.append_assoc, List.nil_append]
      rfl
    · rw [if_neg e2, if_neg e2]
      have : word " times " = word " " ++ word "times " := rfl
      rw [this]
      simp only [List.append_assoc, List.nil_append]
      rfl
theorem shown_eq {t : Table} (h : ∀ w ∈ t.cols, w ≠ []) (ha : ∀ a ∈ t.asks, a.g < 2 ^ t.cols.length) : Vamvsa.shown t = colsLine t.cols ++ (t.rows.flatMap rowLine ++ t.asks.flatMap (askLine t.cols)) := by
  unfold Vamvsa.shown
  rw [colsLine_eq h]
  congr 2
  · congr 1; funext r; exact rowLine_eq r
  · have : ∀ l : List Ask, (∀ a ∈ l, a.g < 2 ^ t.cols.length) → l.flatMap (showAsk t.cols) = l.flatMap (askLine t.cols) := fun l => by
      induction l with
      | nil => intro _; rfl
      | cons a l ih =>
        intro hl
        rw [List.flatMap_cons, List.flatMap_cons, askLine_eq h (hl a List.mem_cons_self), ih fun b hb => hl b (List.mem_cons_of_mem _ hb)]
    exact this _ ha
/-! names are not empty -/
theorem token_name {l : By} {w : By} {n : Nat} (h : token l = some (.name w, n)) : w ≠ [] := by
  cases l with
  | nil => cases h
  | cons b r =>
    unfold token at h
    simp only at h
    split at h
    · rename_i hb
      split at h
      · cases h
      · injection h with h
        injection h with h1 h2
        injection h1 with h1
        rw [← h1, List.takeWhile_cons]
        simp [hb]
    · split at h
      · cases e : numberOf ((b :: r).takeWhile isDigit) with
        | none => rw [e] at h; cases h
        | some v => rw [e] at h; cases h
      · split at h <;> cases h
theorem lex_nonempty : ∀ (n p : Nat) (l : By) (ts : Toks), lex n p l = .ok ts → ∀ t ∈ ts, ∀ w, t.tok = .name w → w ≠ []
  | 0, p, l, ts, h, t, ht, w, hw => by cases h; rw [List.mem_singleton.mp ht] at hw; cases hw
  | n + 1, p, [], ts, h, t, ht, w, hw => by cases h; rw [List.mem_singleton.mp ht] at hw; cases hw
  | n + 1, p, b :: r, ts, h, t, ht, w, hw => by
    have h : (if isBlank b = true then lex n (p + 1) r else if b == 35 then lex n (p + 1 + (r.takeWhile (· != 10)).length) (r.dropWhile (· != 10))
      else match token (b :: r) with
        | none => .error ⟨2, p⟩
        | some x => (lex n (p + x.2) ((b :: r).drop x.2)).map fun l => ⟨p, x.1⟩ :: l) = .ok ts := h
    split at h
    · exact lex_nonempty n _ _ ts h t ht w hw
    · split at h
      · exact lex_nonempty n _ _ ts h t ht w hw
      · split at h
        · cases h
        · rename_i x e
          obtain ⟨ts', q, h⟩ := ok_map h
          subst h
          rcases List.mem_cons.mp ht with z | z
          · rw [z] at hw
            obtain ⟨u, k⟩ := x
            have hw : u = .name w := hw
            rw [hw] at e
            exact token_name e
          · exact lex_nonempty n _ _ ts' q t z w hw
theorem tokens_nonempty {b : By} {ts : Toks} (h : tokens b = .ok ts) : ∀ t ∈ ts, kd t.tok = .name → nameOf t.tok ≠ [] := by
  rw [tokens_eq] at h
  split at h
  · cases h
  · intro t ht hk
    obtain ⟨w, hw⟩ := kd_name hk
    rw [hw]
    exact lex_nonempty _ _ _ _ h t ht w hw
theorem moreColumns_nonempty : ∀ (n : Nat) (names : List By) (l : Toks) (names' : List By) (r : Toks), moreColumns n names l = .ok (names', r) → (∀ t ∈ l, kd t.tok = .name → nameOf t.tok ≠ []) → (∀ w ∈ names, w ≠ []) → ∀ w ∈ names', w ≠ []
  | 0, _, _, _, _, h, _, _ => by cases h
  | n + 1, names, l, names', r, h, hl, hw => by
    have h : (if sees .comma l = true then _ else _) = Except.ok (names', r) := h
    split at h
    · obtain ⟨x, e, h⟩ := ok_bind h
      obtain ⟨t, e1, e5, e2, e3, e4⟩ := readColumn_len (w := x.1) (r := x.2) e
      have hm : ∀ u ∈ t :: x.2, u ∈ l := fun u hu => List.mem_of_mem_drop (by rw [e1]; exact hu)
      refine moreColumns_nonempty n _ _ _ _ h (fun u hu => hl u (hm u (List.mem_cons_of_mem _ hu))) fun w hw' => ?_
      rcases List.mem_append.mp hw' with z | z
      · exact hw w z
      · rw [List.mem_singleton.mp z, e2]
        exact hl t (hm t List.mem_cons_self) e5
    · obtain ⟨m, _, h⟩ := ok_map h
      cases h
      exact hw
theorem linesN_cols : ∀ (n : Nat) (t : Table) (l : Toks) (t' : Table), linesN n t l = .ok t' → t'.cols = t.cols
  | 0, _, _, _, h => by cases h
  | n + 1, t, l, t', h => by
    have h : (if sees .fin l = true then _ else if sees .row l = true then _ else _) = Except.ok t' := h
    split at h
    · cases h; rfl
    · split at h
      · obtain ⟨x, _, h⟩ := ok_bind h
        exact linesN_cols n { t with rows := t.rows ++ [x.1] } _ _ h
      · obtain ⟨x, _, h⟩ := ok_bind h
        exact linesN_cols n { t with asks := t.asks ++ [x.1] } _ _ h
theorem read_nonempty {b : By} {t : Table} (h : Vamvsa.read b = .ok t) : ∀ w ∈ t.cols, w ≠ [] := by
  rw [read_eq] at h
  obtain ⟨l, e, h⟩ := ok_bind h
  obtain ⟨c, e2, h⟩ := ok_bind h
  rw [linesN_cols _ _ _ _ h]
  have hl := tokens_nonempty e
  obtain ⟨x, e3, e4⟩ := ok_bind e2
  obtain ⟨y, e5, e6⟩ := ok_bind e4
  obtain ⟨q1, _⟩ := take_len (t := x.1) (r := x.2) e3
  obtain ⟨t1, e7, e8, e9, _, _⟩ := readColumn_len (w := y.1) (r := y.2) e5
  have hm : ∀ u ∈ t1 :: y.2, u ∈ l := fun u hu => by rw [q1, e7]; exact List.mem_cons_of_mem _ hu
  refine moreColumns_nonempty _ _ _ _ _ e6 (fun u hu => hl u (hm u (List.mem_cons_of_mem _ hu))) fun w hw => ?_
  rw [List.mem_singleton.mp hw, e9]
  exact hl t1 (hm t1 List.mem_cons_self) e8
/-- a table that was read -/
structure TableGood (t : Table) : Prop where
  ok : TableOk t
  ne : ∀ w ∈ t.cols, w ≠ []
theorem read_tgood {b : By} {t : Table} (h : Vamvsa.read b = .ok t) : TableGood t := ⟨read_good h, read_nonempty h⟩
end Kg
/-! The walk over the calls, at the level of plain lists. -/
namespace Kg
open VamvsBase Vamvsa

/-- how many plain numbers a call has -/
def plainN (p : Int) : Nat := if p = 2 ∨ p = 6 ∨ p = 7 ∨ p = 9 then 1 else if p = 3 then 2 else 0
def hasList (p : Int) : Prop := p = 0 ∨ p = 5
instance (p : Int) : Decidable (hasList p) := inferInstanceAs (Decidable (p = 0 ∨ p = 5))
/-- a call of its number and its other numbers -/
def callW (p : Int) (ns : List Int) : List (List Int) := if hasList p then [[p], ns] else [p :: ns]
theorem shape_some {p : Int} {x : Nat × Nat} (h : PyVamvsa.shape p = some x) : 0 ≤ p ∧ p ≤ 9 ∧ x = (plainN p, if hasList p then 1 else 0) := by
  unfold PyVamvsa.shape at h
  repeat' (split at h)
  all_goals first
    | (cases h; subst_vars; refine ⟨by decide, by decide, rfl⟩)
    | cases h
/-- a call at the front -/
theorem call_view {p : Int} {r : List Int} {c : List (List Int)} {t : List Int} (h : PyFlat.call PyVamvsa.shape (p :: r) = some (c, t)) :
    0 ≤ p ∧ p ≤ 9 ∧ ∃ ns, c = callW p ns ∧ ((hasList p ∧ r = (ns.length : Int) :: (ns ++ t)) ∨ (¬ hasList p ∧ ns.length = plainN p ∧ r = ns ++ t)) := by
  have h : (match PyVamvsa.shape p with
    | none => none
    | some (n, k) => if r.length < n then none else match PyFlat.rows k (r.drop n) with
      | none => none
      | some (xs, t) => some ((p :: r.take n) :: xs, t)) = some (c, t) := h
  cases e : PyVamvsa.shape p with
  | none => rw [e] at h; cases h
  | some x =>
    obtain ⟨n, k⟩ := x
    rw [e] at h
    obtain ⟨h0, h9, hx⟩ := shape_some e
    refine ⟨h0, h9, ?_⟩
    have hx1 : n = plainN p := congrArg Prod.fst hx
    have hx2 : k = if hasList p then 1 else 0 := congrArg Prod.snd hx
    have h : (if r.length < n then none else match PyFlat.rows k (r.drop n) with
      | none => none
      | some (xs, t) => some ((p :: r.take n) :: xs, t)) = some (c, t) := h
    split at h
    · cases h
    · rename_i hn
      by_cases hl : hasList p
      · have hk : k = 1 := by rw [hx2, if_pos hl]
        have hn0 : n = 0 := by
          rw [hx1]
          rcases hl with z | z <;> subst z <;> rfl
        subst hk hn0
        rw [List.drop_zero, List.take_zero] at h
        have hr : PyFlat.rows 1 r = match PyFlat.row r with
          | none => none
          | some (x, s) => some ([x], s) := by
          show (match PyFlat.row r with
            | none => none
            | some (x, s) => match PyFlat.rows 0 s with
              | none => none
              | some (xs, t) => some (x :: xs, t)) = _
          cases PyFlat.row r with
          | none => rfl
          | some x => rfl
        rw [hr] at h
        cases r with
        | nil => cases h
        | cons m r =>
          have e1 : PyFlat.row (m :: r) = if 0 ≤ m ∧ m.toNat ≤ r.length then some (r.take m.toNat, r.drop m.toNat) else none := rfl
          rw [e1] at h
          by_cases hm : 0 ≤ m ∧ m.toNat ≤ r.length
          · rw [if_pos hm] at h
            injection h with h
            injection h with h1 h2
            refine ⟨r.take m.toNat, ?_, .inl ⟨hl, ?_⟩⟩
            · rw [← h1, callW, if_pos hl]
            · rw [← h2, List.take_append_drop, List.length_take, Nat.min_eq_left hm.2]
              congr 1
              omega
          · rw [if_neg hm] at h
            cases h
      · have hk : k = 0 := by rw [hx2, if_neg hl]
        subst hk
        injection h with h
        injection h with h1 h2
        refine ⟨r.take n, ?_, .inr ⟨hl, ?_, ?_⟩⟩
        · rw [← h1, callW, if_neg hl]
        · rw [List.length_take, ← hx1]
          omega
        · rw [← h2, List.take_append_drop]
theorem calls_view {f : Nat} {p : Int} {r : List Int} {cs : List (List (List Int))} (h : PyFlat.calls PyVamvsa.shape f (p :: r) = some cs) :
    ∃ f' c t cs', PyFlat.call PyVamvsa.shape (p :: r) = some (c, t) ∧ PyFlat.calls PyVamvsa.shape f' t = some cs' ∧ cs = c :: cs' := by
  cases f with
  | zero => cases h
  | succ f =>
    have h : (match PyFlat.call PyVamvsa.shape (p :: r) with
      | none => none
      | some (c, t) => match PyFlat.calls PyVamvsa.shape f t with
        | none => none
        | some cs => some (c :: cs)) = some cs := h
    cases e : PyFlat.call PyVamvsa.shape (p :: r) with
    | none => rw [e] at h; cases h
    | some x =>
      obtain ⟨c, t⟩ := x
      rw [e] at h
      have h : (match PyFlat.calls PyVamvsa.shape f t with
        | none => none
        | some cs => some (c :: cs)) = some cs := h
      cases e2 : PyFlat.calls PyVamvsa.shape f t with
      | none => rw [e2] at h; cases h
      | some cs' =>
        rw [e2] at h
        injection h with h
        exact ⟨f, c, t, cs', rfl, e2, h.symm⟩
theorem whole_id (c : List (List Int)) : PyVamvsa.whole c = c := by
  unfold PyVamvsa.whole
  split <;> rfl
theorem map_whole (cs : List (List (List Int))) : cs.map PyVamvsa.whole = cs := by
  induction cs with
  | nil => rfl
  | cons c cs ih => rw [List.map_cons, whole_id, ih]
/-- what is asked, as the walk needs it -/
theorem asked_view {l : List Int} (h : PyVamvsa.answers_asked l = true) : ∃ cs, PyFlat.calls PyVamvsa.shape l.length l = some cs ∧ (∀ c ∈ cs, VamvsaNeutral.asked1 c = true) ∧
    PyVamvsa.answers l = PyFlat.told (PyFlat.played VamvsaNeutral.step VamvsaNeutral.start cs) ∧ (PyVamvsa.answers l).length ≤ 10000000 := by
  unfold PyVamvsa.answers_asked at h
  cases e : PyFlat.calls PyVamvsa.shape l.length l with
  | none => rw [e] at h; cases h
  | some cs =>
    rw [e] at h
    simp only [Bool.and_eq_true] at h
    obtain ⟨⟨⟨⟨_, _⟩, _⟩, h1⟩, h2⟩ := h
    refine ⟨cs, rfl, ?_, ?_, ?_⟩
    · rw [map_whole] at h1
      unfold VamvsaNeutral.asked at h1
      simp only [Bool.and_eq_true] at h1
      exact fun c hc => List.all_eq_true.mp h1.1 c hc
    · unfold PyVamvsa.answers PyVamvsa.calls
      rw [e]
      show PyFlat.told (PyFlat.played VamvsaNeutral.step VamvsaNeutral.start (cs.map PyVamvsa.whole)) = _
      rw [map_whole]
    · exact of_decide_eq_true h2
theorem told_cons (a : List Int) (r : List (List Int)) : PyFlat.told (a :: r) = (a.length : Int) :: (a ++ PyFlat.told r) := rfl
theorem played_cons (s : Obj) (c : List (List Int)) (r : List (List (List Int))) : PyFlat.played VamvsaNeutral.step s (c :: r) = (VamvsaNeutral.step s c).2 :: PyFlat.played VamvsaNeutral.step (VamvsaNeutral.step s c).1 r := rfl
/-- one call's answer -/
def ans (s : Obj) (p : Int) (ns : List Int) : List Int := (VamvsaNeutral.step s (callW p ns)).2
def nxt (s : Obj) (p : Int) (ns : List Int) : Obj := (VamvsaNeutral.step s (callW p ns)).1
/-- what is asked of a call's numbers -/
def Ask1 (p : Int) (ns : List Int) : Prop := VamvsaNeutral.asked1 (callW p ns) = true
theorem ask_load {ns : List Int} (h : Ask1 0 ns) : (∀ z ∈ ns, 0 ≤ z ∧ z < 256) ∧ ns.length ≤ 8192 := by
  have h : ((ns.all (fun (z : Int) => VamvsaNeutral.natural z 8)) && decide (ns.length ≤ 8192)) = true := h
  simp only [Bool.and_eq_true, decide_eq_true_eq, List.all_eq_true, VamvsaNeutral.natural] at h
  exact ⟨fun z hz => h.1 z hz, h.2⟩
theorem whole_b {z : Int} (h : VamvsaNeutral.whole60 z = true) : -1000000000000000000 ≤ z ∧ z ≤ 1000000000000000000 := by
  unfold VamvsaNeutral.whole60 at h
  simp only [Bool.and_eq_true, decide_eq_true_eq] at h
  exact h
theorem ask_keep {ns : List Int} (h : Ask1 5 ns) : (∀ z ∈ ns, -1000000000000000000 ≤ z ∧ z ≤ 1000000000000000000) ∧ ns.length ≤ 2000 := by
  have h : (ns.all VamvsaNeutral.whole60 && decide (ns.length ≤ 2000)) = true := h
  simp only [Bool.and_eq_true, decide_eq_true_eq, List.all_eq_true] at h
  exact ⟨fun z hz => whole_b (h.1 z hz), h.2⟩
/-- the bytes of a load -/
theorem load_bytes {ns : List Int} (h : Ask1 0 ns) : ∃ b : By, ns = b.map (fun c => (c.toNat : Int)) ∧ VamvsaNeutral.callOf (callW 0 ns) = some (.load b) := by
  obtain ⟨h1, _⟩ := ask_load h
  have hb : NeutralIO.bytes ns = true := by
    unfold NeutralIO.bytes
    rw [List.all_eq_true]
    intro z hz
    have := h1 z hz
    simp only [Bool.and_eq_true, decide_eq_true_eq]
    omega
  refine ⟨VamvsaNeutral.bytesOf ns, ?_, ?_⟩
  · unfold VamvsaNeutral.bytesOf
    rw [List.map_map]
    refine ((List.map_congr_left fun z hz => ?_).trans (List.map_id'' (fun _ => rfl) ns)).symm
    have := h1 z hz
    show ((UInt8.ofNat z.toNat).toNat : Int) = z
    rw [UInt8.toNat_ofNat', Nat.mod_eq_of_lt (by omega)]
    omega
  · show (if NeutralIO.bytes ns = true then some (Vamvsa.Call.load (VamvsaNeutral.bytesOf ns)) else none) = _
    rw [if_pos hb]
theorem step_of {s : Obj} {c : List (List Int)} {k : Vamvsa.Call} (h : VamvsaNeutral.callOf c = some k) : VamvsaNeutral.step s c = ((Vamvsa.step s k).1, VamvsaNeutral.encode (Vamvsa.step s k).2) := by
  unfold VamvsaNeutral.step
  rw [h]
/-- every call but load of no table -/
theorem ans_none {p : Int} {ns : List Int} (h0 : 0 ≤ p) (h9 : p ≤ 9) (hl : ¬ hasList p → ns.length = plainN p) (hp : p ≠ 0) : ans none p ns = [-1] ∧ nxt none p ns = none := by
  have fin : ∀ k : Vamvsa.Call, VamvsaNeutral.callOf (callW p ns) = some k → (∀ b, k ≠ .load b) → ans none p ns = [-1] ∧ nxt none p ns = none := fun k e hk => by
    unfold ans nxt
    rw [step_of e]
    cases k <;> first | exact absurd rfl (hk _) | exact ⟨rfl, rfl⟩
  have c : p = 1 ∨ p = 2 ∨ p = 3 ∨ p = 4 ∨ p = 5 ∨ p = 6 ∨ p = 7 ∨ p = 8 ∨ p = 9 := by omega
  rcases c with c | c | c | c | c | c | c | c | c <;> subst c
  · have := hl (by decide); match ns, this with | [], _ => exact fin _ rfl (fun b => by intro z; cases z)
  · have := hl (by decide); match ns, this with | [a], _ => exact fin _ rfl (fun b => by intro z; cases z)
  · have := hl (by decide); match ns, this with | [a, b], _ => exact fin _ rfl (fun b => by intro z; cases z)
  · have := hl (by decide); match ns, this with | [], _ => exact fin _ rfl (fun b => by intro z; cases z)
  · exact fin _ rfl (fun b => by intro z; cases z)
  · have := hl (by decide); match ns, this with | [a], _ => exact fin _ rfl (fun b => by intro z; cases z)
  · have := hl (by decide); match ns, this with | [a], _ => exact fin _ rfl (fun b => by intro z; cases z)
  · have := hl (by decide); match ns, this with | [], _ => exact fin _ rfl (fun b => by intro z; cases z)
  · have := hl (by decide); match ns, this with | [a], _ => exact fin _ rfl (fun b => by intro z; cases z)
end Kg
/-! The frame: the program's text by places, what is told of a def (Ok), of a class. -/
namespace Kg
open PySem PySem.Spec PyProof.Rows L2

def topS (i : Nat) : Stmt := PySem.Challenge.pw_keptgroupings_s01_answers.main.body.getD i (.Pass ⟨0, 0, 0, 0⟩)

/-- a def of the top that keeps a promise: where it stands, how it is called -/
structure Ok (P : Program) (w : World) (K : PySem.W.Frag) (mg : Str → Option Value) (base : Heap) (CX : CXT) (k : Nat) (x : Str) (ps : List Str) (sp : Sp) : Prop where
  ex : ∃ f fd, FnOk P w K mg base CX k f fd ps sp ∧ mg x = some (.ref f) ∧ PySem.W.keepIn K (.ref f) = true ∧ Binds K fd ps []
/-- what stands of a def in the text -/
structure Df (K : PySem.W.Frag) (mg : Str → Option Value) (x : Str) (st : Stmt) (ps : List Str) : Prop where
  ex : ∃ f fd, Fun K x x st f fd ∧ mg x = some (.ref f) ∧ Binds K fd ps []
section
variable {P : Program} {w : World} {K : PySem.W.Frag} {mg : Str → Option Value} {base : Heap}
theorem Df.ok {x : Str} {st : Stmt} {ps : List Str} {sp : Sp} {CX : CXT} {k : Nat} (D : Df K mg x st ps) (h : ∀ f fd, Fun K x x st f fd → FnOk P w K mg base CX k f fd ps sp) : Ok P w K mg base CX k x ps sp := by
  obtain ⟨f, fd, F, m, b⟩ := D.ex
  exact ⟨f, fd, h f fd F, m, F.kp, b⟩
end
/-- o called by its name, with what is wished for when it raises -/
theorem pe_ok {X : Cx} {CX : CXT} {k j : Nat} {x : Str} {ps : List Str} {sp : Sp} {E : XK} {e : Expr} {es : List Expr} {t : TA} {p pos : Pos} (O : Ok X.prog X.w X.K X.mg X.base CX k x ps sp) (hr : Room j X.A) (hk : k ≤ j) (hg : Gl X x) (hx : Passes CX X E) (ha : PA X (e :: es) t)
    (he : starEach (e :: es) X.env = (false, eval e X.env) :: starEach es X.env := by rfl) (hpl : (backTo pos (starEach es X.env)).any (·.1) = false := by rfl) (hd : (x == ("__debug__" : Str)) = false := by decide) :
    PE X (.Call (.Name x p) (e :: es) [] pos) (tCall sp [] E t) := by
  obtain ⟨f, fd, F, m, kp, b⟩ := O.ex
  exact pe_call F (hr.mono hk) hg m kp b .nil hx ha (hdb := hd) (he := he) (hpl := hpl)
/-- all but one address -/
def But (c : Addr) (H H' : Hp) : Prop := ∀ b o, b ≠ c → H b = some o → H' b = some o
theorem But.refl (c : Addr) (H : Hp) : But c H H := fun _ _ _ h => h
theorem But.trans {c : Addr} {H H1 H2 : Hp} (a : But c H H1) (b : But c H1 H2) : But c H H2 := fun x o n h => b x o n (a x o n h)
theorem But.of {c : Addr} {H H' : Hp} (h : Same H H') : But c H H' := fun b o _ e => h b o e
theorem same_new {H : Hp} {p : Addr} {o : HO} (h : H p = none) : Same H (upd H p o) := fun b u e => by
  rw [upd_ne (ne_of_none e h)]
  exact e
theorem But.upd {c : Addr} {H : Hp} {o : HO} : But c H (upd H c o) := fun b u n e => by
  rw [upd_ne n]
  exact e

/-- the names of built-ins that the program leaves alone -/
structure Blt (mg : Str → Option Value) : Prop where
  len : mg "len" = none
  range : mg "range" = none
  ord : mg "ord" = none
  min : mg "min" = none
  sum : mg "sum" = none
  all : mg "all" = none
  sorted : mg "sorted" = none
  tuple : mg "tuple" = none
  str : mg "str" = none
  dict : mg "dict" = none
  exc : mg "Exception" = none

/-- a class with an __init__ that stores its parameters -/
structure Cl (K : PySem.W.Frag) (mg : Str → Option Value) (x : Str) (C : Addr) : Prop where
  cl : Cls K C
  g : mg x = some (.ref C)
/-- an instance of C with these fields, at a -/
def At (C : Addr) (H : Hp) (a : Addr) (fs : List (Str × V)) : Prop := ∃ dx, H a = some (.ins C dx fs)
/-- what an __init__ does: the fresh object gets just these fields; nothing else is touched -/
def spInit (C : Addr) (fs : List V → List (Str × V)) (n : Nat) : Sp := fun vs H Q _ => ∃ (p dx : Addr) (us : List V), vs = .ref p :: us ∧ us.length = n ∧ H p = some (.ins C dx []) ∧ Q .non (upd H p (.ins C dx (fs us)))
end Kg
/-! The program's one error class: over Exception, its own __init__ hands its arguments on and stores two fields. -/
namespace Kg
open PySem PySem.Spec PyProof.Rows L2
open PySem.W (findIn clsIn)

abbrev bmE : List Value := [.type "Exception", .type "BaseException", .type "object"]
/-- what the written part says of the class at C -/
structure FltC (K : PySem.W.Frag) (C : Addr) : Prop where
  ob : ∃ nm q N bs sn sub ab col dd k0 k1 k2 k3 k5, K.lookup C = some (excClassObj nm q C N bs bmE true sn sub ab col dd k0 k1 k2 k3 k5 "Exception.__new__")
  sa : findIn K (.ref C) "__setattr__" = some (some (.builtin "object.__setattr__"))
  base : PySem.W.subIn K (.ref C) (.type "BaseException") = some true
  ty : PySem.W.typeIn K (.ref C) = some (.type "type")
  kp : PySem.W.keepIn K (.ref C) = true
theorem FltC.cd {K : PySem.W.Frag} {C : Addr} (T : FltC K C) : ∃ cd, clsIn K C = some cd ∧ cd.hasDict = true ∧ cd.mro = .ref C :: bmE := by
  obtain ⟨nm, q, N, bs, sn, sub, ab, col, dd, k0, k1, k2, k3, k5, hC⟩ := T.ob
  refine ⟨_, by unfold clsIn; rw [hC] <;> rfl, rfl, rfl⟩
theorem FltC.over {K : PySem.W.Frag} {C : Addr} (T : FltC K C) : PySem.W.excOver K C bmE = true := by
  obtain ⟨cd, h, _, hm⟩ := T.cd
  unfold PySem.W.excOver
  rw [h]
  show (match cd.mro with | .ref C' :: bm => C' == C && PySem.W.excTail bmE bm | _ => false) = true
  rw [hm]
  show (C == C && PySem.W.excTail bmE bmE) = true
  rw [beq_self_eq_true]
  decide +kernel
theorem taker0 {K : PySem.W.Frag} {C : Addr} {n : Str} (h : findIn K (.ref C) n = some none) : PySem.W.takerIn K C n = some none := NoAttr.taker h
section
open Builtin Builtin.ObjectAttr
variable {P : Program} {w : World} {A : Around} {R : Result → Shared → Prop} {hpo : Heap} {g : Array GenState} {d : Drawn} {t : Nat} {os : OsState} {K : PySem.W.Frag} {C x : Addr} {n : Str} {tk : Tok} {v : Value} {fv : Array Value}
/-- the first field: the dict is made -/
theorem flt_store1 (T : FltC K C) (X : K.In hpo) (hx : hpo.get? x = some { cls := .ref C, data := .fields fv }) (hno : findIn K (.ref C) n = some none)
    (hq : ∀ h' tk' dxo, (∀ b o, b ≠ x → hpo.get? b = some o → h'.get? b = some o) → hpo.objs.size ≤ dxo → dxo ≠ x → h'.get? x = some { cls := .ref C, dict := some dxo, data := .fields fv } →
      h'.Ns1 dxo (fun y => if y = n then some v else none) → R (.ok (.ret .none)) ⟨h', g, d, tk', os⟩) :
    codeAny (model P w) A (.call (.builtin "object.__setattr__") ⟨[.ref x, .str n tk, v], []⟩) R ⟨hpo, g, d, t, os⟩ := by
  obtain ⟨cd, hcd, hd, _⟩ := T.cd
  have lt := Nat.ne_of_lt (Heap.lt_size hx)
  have look : PySem.W.Looks (model P w) hpo (classData C) cd := PySem.W.looks_clsIn X hcd
  refine PySem.W.osa_openX F.store_Exception X (ox := { cls := .ref C, data := .fields fv }) (od := none) ⟨hx, rfl, rfl, trivial⟩ T.over (taker0 hno) fun b => ?_
  show wpAny _ _ (storeInOwnDict (.ref x) (.ref C) (.str n tk) n v b) _ _ _
  obtain ⟨nm, bs, mro, ns, qn, dct, sn, sb, ab, col, del⟩ := cd
  have hd : dct = true := hd
  subst hd
  unfold storeInOwnDict ownDictForStores
  repeat (first | with_reducible refine HandSPX.store_in_new ?_ ?_ | with_reducible refine wpAny_loadPart_at hx ?_ | with_reducible refine look.at ?_ | wp_step)
  · exact ⟨_, #[], _, (Heap.get?_update_ne _ _ _ _ lt.symm).trans (Heap.get?_push_at rfl rfl), rfl, fun _ z => absurd z (by simp), fun _ => rfl⟩
  · intro h' tk' hn hs
    have grown := Heap.get?_push_of_some { cls := .type "dict", data := .dict #[] } hx
    refine hq h' tk' hpo.objs.size (fun b o hb hoo => ?_) (Nat.le_refl _) lt.symm ((hs.2 x lt).trans (Heap.get?_update_self _ grown rfl)) hn
    have step := Heap.get?_push_of_some { cls := .type "dict", data := .dict #[] } hoo
    exact (hs.2 b (Nat.ne_of_lt (Heap.lt_size hoo))).trans ((Heap.get?_update_ne _ _ _ _ hb).trans step)
/-- a further field: the dict is there -/
theorem flt_store2 {dxo : Addr} {m0 : Str → Option Value} {ns : List Str} (T : FltC K C) (X : K.In hpo) (hx : hpo.get? x = some { cls := .ref C, dict := some dxo, data := .fields fv }) (hn0 : hpo.Ns1 dxo m0) (hw : PySem.Within m0 ns) (hz : ns.length ≤ 1000) (hno : findIn K (.ref C) n = some none)
    (hq : ∀ h' tk', (∀ b o, b ≠ dxo → hpo.get? b = some o → h'.get? b = some o) → h'.Ns1 dxo (fun y => if y = n then some v else m0 y) → R (.ok (.ret .none)) ⟨h', g, d, tk', os⟩) :
    codeAny (model P w) A (.call (.builtin "object.__setattr__") ⟨[.ref x, .str n tk, v], []⟩) R ⟨hpo, g, d, t, os⟩ := by
  obtain ⟨cd, hcd, hd, _⟩ := T.cd
  obtain ⟨oD, _, _, hoD, _, _⟩ := hn0.count hw
  have look : PySem.W.Looks (model P w) hpo (classData C) cd := PySem.W.looks_clsIn X hcd
  refine PySem.W.osa_openX F.store_Exception X (ox := { cls := .ref C, dict := some dxo, data := .fields fv }) (od := some oD) ⟨hx, rfl, rfl, hoD⟩ T.over (taker0 hno) fun b => ?_
  show wpAny _ _ (storeInOwnDict (.ref x) (.ref C) (.str n tk) n v b) _ _ _
  obtain ⟨nm, bs, mro, ns', qn, dct, sn, sb, ab, col, del⟩ := cd
  have hd : dct = true := hd
  subst hd
  unfold storeInOwnDict ownDictForStores
  repeat (first | with_reducible refine OEX.store_in_old hn0 hw hz ?_ | with_reducible refine wpAny_loadPart_at hx ?_ | with_reducible refine look.at ?_ | wp_step)
  intro h' tk' hn hs
  exact hq h' tk' (fun b o hb hoo => (hs.2 b hb).trans hoo) hn
end
section
variable {X : Cx} {pins : List (Addr × Obj)} {σ : L2.St} {H : Hp} {s : Shared} {a C dxo : Addr} {f : Str} {y : V} {u : Value} {fs : List (Str × V)} {Q : Unit → Shared → Prop} {E : Value → Shared → Prop} {A : Around}
theorem flt_set1 (T : FltC X.K C) (I : Inv X pins σ H s) (e : H a = some (exo a C none)) (hno : findIn X.K (.ref C) f = some none) (ry : L2.RelV y u)
    (h : ∀ dxo s', H dxo = none → dxo ≠ a → Inv X pins σ (upd (upd H dxo (exd dxo [(f, y)])) a (exo a C (some dxo))) s' → Q () s') : wpAny (model X.prog X.w) A (setAttr (.ref a) f u) Q E s := by
  obtain ⟨txo, hoo⟩ := exo_at I.hok e
  obtain ⟨hpo, g, d, t, os⟩ := s
  refine PySem.W.set_plain I.kIn (ox := { cls := .ref C, dict := none, data := .fields #[.ref txo, .none, .none, .none, .bool false, .none] }) (od := none) ⟨hoo, rfl, rfl, trivial⟩ T.sa ?_
  refine flt_store1 T I.kIn hoo hno fun h' tk' dxo k dn dne hx hn => ?_
  have free : H dxo = none := I.hok.fresh dn
  -- the heap between: the dict is laid, the object still as it was
  let mid : Heap := h'.update a fun _ => { cls := .ref C, dict := none, data := .fields #[.ref txo, .none, .none, .none, .bool false, .none] }
  have mida : mid.get? a = some { cls := .ref C, dict := none, data := .fields #[.ref txo, .none, .none, .none, .bool false, .none] } := Heap.get?_update_self _ hx rfl
  have midn : ∀ b, b ≠ a → mid.get? b = h'.get? b := fun b hb => Heap.get?_update_ne _ _ _ _ hb
  have I1 : Inv X pins σ (upd H dxo (exd dxo [(f, y)])) ⟨mid, g, d, tk', os⟩ := by
    refine I.laid (t' := tk') (h' := mid) (fun b o q => ?_) dn ?_
    · by_cases hb : b = a
      · subst hb
        rw [hoo] at q
        rw [mida]
        exact q
      · rw [midn b hb]
        exact k b o hb q
    · obtain ⟨o, es, ep, w1, w2⟩ := hn
      exact exd_ok ⟨o, es, ep, (midn dxo dne).trans w1, w2⟩ (relO_put (fs := []) ry fun _ => True.intro)
  have eao : upd H dxo (exd dxo [(f, y)]) a = some (exo a C none) := (upd_ne (Ne.symm dne)).trans e
  refine h dxo _ free dne (I1.write (t' := tk') (x := a) (e := a) (o := exo a C (some dxo)) (by rw [eao]; exact True.intro) (.inl rfl) (fun b o hb q => ?_) ⟨_, hx⟩ (exo_ok hx))
  rw [← midn b hb]
  exact q
theorem flt_set2 (T : FltC X.K C) (I : Inv X pins σ H s) (e : H a = some (exo a C (some dxo))) (edo : H dxo = some (exd dxo fs)) (hl : fs.length ≤ 900) (hno : findIn X.K (.ref C) f = some none) (ry : L2.RelV y u)
    (h : ∀ s', Inv X pins σ (upd H dxo (exd dxo ((f, y) :: fs))) s' → Q () s') : wpAny (model X.prog X.w) A (setAttr (.ref a) f u) Q E s := by
  obtain ⟨txo, hoo⟩ := exo_at I.hok e
  obtain ⟨mA, hnso, relo⟩ := exd_at I.hok edo
  have hw := within_of relo
  obtain ⟨hpo, g, d, t, os⟩ := s
  obtain ⟨oD, _, _, hoD, _, _⟩ := hnso.count hw
  refine PySem.W.set_plain I.kIn (ox := { cls := .ref C, dict := some dxo, data := .fields #[.ref txo, .none, .none, .none, .bool false, .none] }) (od := some oD) ⟨hoo, rfl, rfl, hoD⟩ T.sa ?_
  refine flt_store2 T I.kIn hoo hnso hw (by rw [List.length_map]; omega) hno fun h' tk' k hn => ?_
  have there : ∃ o, h'.get? dxo = some o := by
    obtain ⟨o, _, _, w1, _⟩ := hn
    exact ⟨o, w1⟩
  exact h _ (I.write (t' := tk') (x := dxo) (e := dxo) (o := exd dxo ((f, y) :: fs)) (by rw [edo]; exact True.intro) (.inl rfl) k there (exd_ok hn (relO_put ry relo)))
/-- Exception.__init__(self, ..): nothing of it is told -/
theorem flt_base {uso : List Value} {Q : Value → Shared → Prop} (T : FltC X.K C) (I : Inv X pins σ H s) (e : H a = some (exo a C none)) (hl : uso.length ≤ sizeLine) (h : ∀ s', Inv X pins σ H s' → Q .none s') :
    wpAny (model X.prog X.w) A (call (.builtin "Exception.__init__") (.ref a :: uso)) Q E s := by
  obtain ⟨nm, q, N, bs, sn, sub, ab, col, dd, k0, k1, k2, k3, k5, hC⟩ := T.ob
  obtain ⟨txo, hoo⟩ := exo_at I.hok e
  obtain ⟨hpo, g, d, t, os⟩ := s
  refine wpAny_call (HandSPX.init_base F.excBase_Exception (fun _ => rfl) (I.kIn _ _ hC) hoo hl fun h' t2 k hx => ?_)
  have J := I.write (x := a) (e := a) (t' := t) (o := exo a C none) (by rw [e]; exact True.intro) (.inl rfl) k ⟨_, hx⟩ (exo_ok hx)
  have same : upd H a (exo a C none) = H := funext fun b => by
    by_cases hb : b = a
    · subst hb
      rw [upd_same]
      exact e.symm
    · exact upd_ne hb
  rw [same] at J
  exact h _ J
end
theorem typ_Exc : typeOf (.type "Exception") = pure (.type "type") := by kernel_rfl

/-! ### readings, rules -/
/-- Exception.__init__(e, ..) -/
def tExI (K : PySem.W.Frag) (ta : TA) : TE := fun σ H Q => ta σ H fun vs H1 => ∃ (a C : Addr) (ws : List V), vs = .ref a :: ws ∧ ws.length ≤ 1000 ∧ FltC K C ∧ H1 a = some (exo a C none) ∧ Q .non H1
/-- e.f = e' on the error that is being made -/
def tExS (K : PySem.W.Frag) (f : Str) (to te : TE) : TS := fun D σ H => te σ H fun y H1 => to σ H1 fun x H2 => ∃ a C : Addr, x = .ref a ∧ FltC K C ∧ findIn K (.ref C) f = some none ∧
  ((H2 a = some (exo a C none) ∧ ∀ dxo, H2 dxo = none → dxo ≠ a → D.nx σ (upd (upd H2 dxo (exd dxo [(f, y)])) a (exo a C (some dxo)))) ∨
    ∃ (dxo : Addr) (fs : List (Str × V)), H2 a = some (exo a C (some dxo)) ∧ H2 dxo = some (exd dxo fs) ∧ fs.length ≤ 900 ∧ D.nx σ (upd H2 dxo (exd dxo ((f, y) :: fs))))
section
variable {X : Cx} {o e : Expr} {es : List Expr} {to te : TE} {ta : TA} {f : Str} {p p' p1 p2 pos : Pos}
theorem pe_excInit {plo : Sem Bool} (hg : Gl X "Exception") (hm : X.mg "Exception" = none) (hv : PySem.W.findCls X.K (.type "Exception") (.type "type") "__init__" = some (.val (.builtin "Exception.__init__"))) (ha : PA X (e :: es) ta)
    (hc : eval (.Call (.Attribute (.Name "Exception" p1) "__init__" p2) (e :: es) [] pos) X.env = (do
      let obv ← eval (.Name "Exception" p1) X.env
      standAt p2.atName
      let (g0, rest) ← holding [obv] (getMethod obv "__init__" plo)
      callWith pos g0 rest (backTo pos (starEach (e :: es) X.env)) (backToKw pos (keywordEach [] X.env))) := by rfl)
    (heo : starEach (e :: es) X.env = (false, eval e X.env) :: starEach es X.env := by rfl) (hplo : (backTo pos (starEach es X.env)).any (·.1) = false := by rfl) :
    PE X (.Call (.Attribute (.Name "Exception" p1) "__init__" p2) (e :: es) [] pos) (tExI X.K ta) := by
  refine ⟨fun pins s σ H Q I h => ?_⟩
  refine PySem.W.methodCall_KW (ld_blt I hg hm PyProof.Rows.Boot.«Exception» ?_ (by decide) (by decide)) hc
  obtain ⟨m, fr⟩ := I.fr
  refine PySem.W.method_type fr I.ok.mod.kin typ_Exc (by decide +kernel) hv (by decide +kernel) ?_
  show wpAny _ _ (callWith pos (Value.builtin "Exception.__init__") [] (backTo pos (starEach (e :: es) X.env)) []) _ _ _
  refine PyProof.Rows.callWith_method1 (thn (ha.run pos pins _ σ H _ (I.tok _) h) fun uso s1 ⟨vs, H1, I1, r1, a, C, ws, ev, hl, T, eao, q⟩ => ?_) heo hplo
  subst ev
  cases r1 with
  | @cons _ u0 _ ur ra rw' =>
    have eu : u0 = Value.ref a := ra
    subst eu
    have small : ur.length ≤ sizeLine := by
      rw [← Paired.length rw', sizeLine_eq]
      omega
    exact flt_base T I1 eao small fun s' J => ⟨.non, H1, J, rfl, q⟩
theorem ps_exS (hoo : PE X o to) (heo : PE X e te) (hs : swapsWith e (some (.Attribute o f p')) pos.line X.env = pure false := by rfl) : PS X (.Assign [.Attribute o f p'] e pos) (tExS X.K f to te) := by
  refine ⟨fun pins s σ H D I h => ?_⟩
  refine plainObj_wpAny_Assign_Attribute (thn (heo.run pins s σ H _ I h) fun v s1 ⟨y, H1, I1, r1, q1⟩ => thn (hoo.run pins s1 σ H1 _ I1 q1) fun u s2 ⟨x, H2, I2, r2, a, C, ex, T, hno, q⟩ => ?_) hs
  subst ex
  have eu : u = Value.ref a := r2
  subst eu
  rcases q with ⟨eao, q⟩ | ⟨dxo, fs, eao, edo, hl, q⟩
  · exact flt_set1 T I2 eao hno r1 fun dxo s' n ne J => ⟨σ, _, J, q dxo n ne⟩
  · exact flt_set2 T I2 eao edo hl hno r1 fun s' J => ⟨σ, _, J, q⟩
/-- the error class called: its __init__ keeps sp; behind it the error is let go, its dict stands -/
theorem pmk_flt {CX : CXT} {x : Str} {C fI : Addr} {k : Nat} {fd : FuncData} {ps : List Str} {sp : Sp} (T : FltC X.K C) (iC : findIn X.K (.ref C) "__init__" = some (some (.ref fI))) (tI : PySem.W.typeIn X.K (.ref fI) = some (.type "function"))
    (F1 : FnOk X.prog X.w X.K X.mg X.base CX k fI fd ps sp) (hr : Room (k + 1) X.A) (hb : Binds X.K fd ps []) (hx : Passes CX X (fun _ _ _ => False)) (hg : Gl X x) (hm : X.mg x = some (.ref C)) (ha : PA X (e :: es) ta)
    (hdbo : (x == ("__debug__" : Str)) = false := by decide) (heo : starEach (e :: es) X.env = (false, eval e X.env) :: starEach es X.env := by rfl) (hplo : (backTo pos (starEach es X.env)).any (·.1) = false := by rfl) :
    PMk X (.Call (.Name x p) (e :: es) [] pos) (tMkO C sp [] ta) := by
  intro pins s σ H Q I h
  obtain ⟨nm, q, N, bs, sn, sub, ab, col, dd, k0, k1, k2, k3, k5, hC⟩ := T.ob
  refine wpAny_Call_Name_kw (ld_glob I hg hm ?_ hdbo)
  refine PySem.W.callWith_K (h₀ := X.base) I.ok.mod.kin T.kp (thn (ha.run pos pins s σ H _ I h) fun uso s1 ⟨vs, H1, I1, r1, hz, q1⟩ => ⟨I1.kIn, ?_⟩) heo hplo
  show wpAny _ _ (call (.ref C) uso) _ _ _
  obtain ⟨hpo, g, dr, tk, os⟩ := s1
  have next : hpo.objs.size ≤ hpo.objs.size + 1 := Nat.le_succ _
  have hq := q1 (hpo.objs.size + 1) (I1.hok.fresh next)
  have kept : ∀ b o, hpo.get? b = some o → ((hpo.push (PySem.W.kdv_tup uso)).push (HandSPX.excO C hpo.objs.size)).get? b = some o := fun b o z => Heap.get?_push_of_some _ (Heap.get?_push_of_some _ z)
  have there : ((hpo.push (PySem.W.kdv_tup uso)).push (HandSPX.excO C hpo.objs.size)).get? (hpo.objs.size + 1) = some (HandSPX.excO C hpo.objs.size) := by
    heap_get
  have I2 : Inv X pins σ (upd H1 (hpo.objs.size + 1) (exo (hpo.objs.size + 1) C none)) ⟨((hpo.push (PySem.W.kdv_tup uso)).push (HandSPX.excO C hpo.objs.size)), g, dr, tk, os⟩ :=
    I1.laid (t' := tk) (a := hpo.objs.size + 1) (o := exo (hpo.objs.size + 1) C none) (h' := ((hpo.push (PySem.W.kdv_tup uso)).push (HandSPX.excO C hpo.objs.size))) kept next (exo_ok there)
  have r2 : Vals (V.ref (hpo.objs.size + 1) :: (vs ++ [])) (Value.ref (hpo.objs.size + 1) :: uso) := .cons rfl (by rw [List.append_nil]; exact r1)
  have hl : (Value.ref (hpo.objs.size + 1) :: uso ++ []).length = ps.length := by
    have z := r2.length
    rw [F1.len _ _ _ _ hq] at z
    rw [List.append_nil]
    exact z.symm
  have bound := hb ⟨((hpo.push (PySem.W.kdv_tup uso)).push (HandSPX.excO C hpo.objs.size)), g, dr, tk, os⟩ (Value.ref (hpo.objs.size + 1) :: uso) I2.kIn hl
  rw [List.append_nil] at bound
  have small : uso.length ≤ sizeLine := by
    rw [← Paired.length r1, sizeLine_eq]
    omega
  refine wpAny_call (HandSPX.call_own F.excBase_Exception (fun _ => rfl) (I1.kIn _ _ hC) (PySem.W.looks_findIn I1.kIn iC) (fun self => PySem.W.bind_fn I1.kIn self tI) small
    (codeAny_mono (F1.run _ X.stack _ _ ⟨Value.ref (hpo.objs.size + 1) :: uso, []⟩ (Value.ref (hpo.objs.size + 1) :: uso) _ _ (fun _ _ _ => False) (hr.make C uso []) (I2.env0.make C uso []) bound r2 hq) fun r s' z => ?_))
  cases r with
  | error er => exact hx pins σ _ _ er s' I2 z
  | ok fl =>
    cases fl with
    | ret u =>
      obtain ⟨v, H2, os2, bare2, un2, hok2, rv, ev, d, fs, eao, edo, hd1, q2⟩ := z
      subst ev
      obtain ⟨h2, g2, d2, t2, os'⟩ := s'
      exact ⟨rv, mk_end (raises_own T.base T.ty) I1 next kept un2 hok2 os2 bare2 eao edo hd1 q2⟩
    | next => exact False.elim z
    | brk => exact False.elim z
    | cont => exact False.elim z
end
end Kg
namespace Kg
open PySem PySem.Spec PyProof.Rows L2
open PySem.W (findIn clsIn)
/-- the two fields of an error -/
def fFs (c p : Int) : List (Str × V) := [("place", .int p), ("code", .int c)]
def spFaultInit (C : Addr) : Sp := fun vs H Q _ => ∃ (a : Addr) (c p : Int), vs = [.ref a, .int c, .int p] ∧ H a = some (exo a C none) ∧
  ∀ dxo, H dxo = none → dxo ≠ a → Q .non (upd (upd (upd H dxo (exd dxo [("code", .int c)])) a (exo a C (some dxo))) dxo (exd dxo (fFs c p)))
theorem flt_read {C : Addr} {H : Hp} {c p : Int} {Q : XK} (k : ∀ d, H d = none → Q (.ref C) (some d) (upd H d (.xd (fFs c p)))) :
    ([V.int c, V.int p] : List V).length ≤ 1000 ∧ ∀ a, H a = none → spFaultInit C (.ref a :: ([V.int c, V.int p] ++ [])) (upd H a (exo a C none))
      (fun v H2 => v = .non ∧ ∃ (d : Addr) (fs : List (Str × V)), H2 a = some (exo a C (some d)) ∧ H2 d = some (exd d fs) ∧ H d = none ∧ Q (.ref C) (some d) (upd (del H2 a) d (.xd fs))) (fun _ _ _ => False) := by
  refine ⟨by simp, fun a na => ⟨a, c, p, rfl, upd_same, fun dxo nd ne => ⟨rfl, dxo, fFs c p, ?_, upd_same, ?_, ?_⟩⟩⟩
  · rw [upd_ne (Ne.symm ne), upd_same]
  · rw [upd_ne ne] at nd
    exact nd
  · rw [upd_ne ne] at nd
    have e : upd (del (upd (upd (upd (upd H a (exo a C none)) dxo (exd dxo [("code", .int c)])) a (exo a C (some dxo))) dxo (exd dxo (fFs c p))) a) dxo (.xd (fFs c p)) = upd H dxo (.xd (fFs c p)) := by
      funext b
      by_cases h1 : b = dxo
      · subst h1
        rw [upd_same, upd_same]
      · rw [upd_ne h1, upd_ne h1]
        by_cases h2 : b = a
        · subst h2
          rw [del_same, na]
        · rw [del_ne h2, upd_ne h1, upd_ne h2, upd_ne h1, upd_ne h2]
    rw [e]
    exact k dxo nd
/-- what is known of the error class: it can be made, raised, read -/
structure Fl (P : Program) (w : World) (K : PySem.W.Frag) (mg : Str → Option Value) (base : Heap) (C : Addr) : Prop where
  T : FltC K C
  g : mg "Fault" = some (.ref C)
  ini : ∃ fI fd, findIn K (.ref C) "__init__" = some (some (.ref fI)) ∧ PySem.W.typeIn K (.ref fI) = some (.type "function") ∧ FnOk P w K mg base CX0 1 fI fd ["self", "code", "place"] (spFaultInit C) ∧ Binds K fd ["self", "code", "place"] []
  te : PySem.W.exmOne K (.ref C) (.ref C) = some true
  xf : XfC K C
  nc : findIn K (.ref C) "code" = some none
  np : findIn K (.ref C) "place" = some none
section
variable {X : Cx} {C : Addr} {a b : Expr} {ta : TA} {W : WX} {p pos pos2 : Pos}
/-- raise Fault(code, place) -/
def tRaiseF (C : Addr) (W : WX) (ta : TA) : TS := fun _ σ H => tMkO C (spFaultInit C) [] ta σ H fun cls d H' => W cls d σ H'
theorem ps_flt (F : Fl X.prog X.w X.K X.mg X.base C) (hc : X.calm = true) (hr : Room 2 X.A) (tk : Takes X W) (ha : PA X [a, b] ta) (hg : Gl X "Fault" := by rfl)
    (heo : starEach [a, b] X.env = (false, eval a X.env) :: starEach [b] X.env := by rfl) (hplo : (backTo pos (starEach [b] X.env)).any (·.1) = false := by rfl) :
    PS X (.Raise (some (.Call (.Name "Fault" p) [a, b] [] pos)) none pos2) (tRaiseF C W ta) := by
  obtain ⟨fI, fd, i1, i2, G, bI⟩ := F.ini
  exact ps_raise hc tk (pmk_flt F.T i1 i2 G hr bI pass0 hg F.g ha (heo := heo) (hplo := hplo))
end
/-! ### its __init__ -/
abbrev sFaultInit : Stmt := inClass (topS 9) 0
theorem scFaultInit : FnScope ["self", "code", "place"] ["self", "code", "place"] (defScope sFaultInit) := ⟨rfl, rfl, rfl, by decide +kernel, rfl, by decide +kernel, by decide +kernel⟩
theorem okFaultInit {P : Program} {w : World} {K : PySem.W.Frag} {mg : Str → Option Value} {base : Heap} {C f : Addr} {fd : FuncData} (F : Fun K "__init__" "Fault.__init__" sFaultInit f fd) (T : FltC K C) (B : Blt mg)
    (nc : findIn K (.ref C) "code" = some none) (np : findIn K (.ref C) "place" = some none) (hv : PySem.W.findCls K (.type "Exception") (.type "type") "__init__" = some (.val (.builtin "Exception.__init__"))) :
    FnOk P w K mg base CX0 1 f fd ["self", "code", "place"] (spFaultInit C) := by
  refine F.ok scFaultInit (fun vs H Q E h => ?_) (fun cdv A outer s H vs Q E hr h => ?_)
  · obtain ⟨a, c, p, rfl, _⟩ := h
    rfl
  obtain ⟨a, c, p, rfl, ha, hQ⟩ := h
  refine ⟨_, pss_cons (ps_expr (pe_excInit rfl B.exc hv (pa_cons (pv 0) (pa_cons (pv 1) (pa_cons (pv 2) pa_nil))))) (pss_cons (ps_exS (pv 0) (pv 1)) (pss_one (ps_exS (pv 0) (pv 2)))), ?_⟩
  refine ⟨_, rfl, _, rfl, _, rfl, a, C, _, rfl, by simp, T, ha, ?_⟩
  refine ⟨_, rfl, _, rfl, a, C, rfl, T, nc, .inl ⟨ha, fun dxo nd ne => ?_⟩⟩
  refine ⟨_, rfl, _, rfl, a, C, rfl, T, np, .inr ⟨dxo, _, upd_same, ?_, by simp, hQ dxo nd ne⟩⟩
  rw [upd_ne ne, upd_same]
end Kg
namespace Kg
open PySem PySem.Spec PyProof.Rows L2
open VamvsBase (isLetter isDigit isBlank)

/-! ### fields -/
theorem lk_here {k : Str} {v : V} {r : List (Str × V)} : List.lookup k ((k, v) :: r) = some v := by
  have e : (k == k) = true := beq_self_eq_true k
  simp only [List.lookup, e]
theorem lk_past {k g : Str} {v : V} {r : List (Str × V)} (h : (k == g) = false) : List.lookup k ((g, v) :: r) = List.lookup k r := by
  simp only [List.lookup, h]
theorem putF_new {f : Str} {v : V} : ∀ {fs : List (Str × V)}, f ∉ fs.map (·.1) → putF f v fs = fs ++ [(f, v)]
  | [], _ => rfl
  | (g, x) :: r, h => by
    have h1 : ¬ g = f := fun e => h (by rw [← e]; exact List.mem_cons_self)
    show (if g = f then (g, v) :: r else (g, x) :: putF f v r) = _
    rw [if_neg h1, putF_new fun z => h (List.mem_cons_of_mem _ z)]
    rfl
theorem putF_len (f : Str) (v : V) : ∀ fs : List (Str × V), (putF f v fs).length ≤ fs.length + 1
  | [] => Nat.le_refl _
  | (g, x) :: r => by
    show (if g = f then (g, v) :: r else (g, x) :: putF f v r).length ≤ _
    split
    · exact Nat.le_succ _
    · exact Nat.succ_le_succ (putF_len f v r)
theorem pl1 {f : Str} {v : V} : (putF f v []).length < 1000 := Nat.lt_of_le_of_lt (putF_len _ _ _) (by decide)
theorem pl2 {f g : Str} {v w : V} : (putF f v (putF g w [])).length < 1000 := Nat.lt_of_le_of_lt (Nat.le_trans (putF_len _ _ _) (Nat.succ_le_succ (putF_len _ _ _))) (by decide)
theorem pl3 {f g h : Str} {v w u : V} : (putF f v (putF g w (putF h u []))).length < 1000 :=
  Nat.lt_of_le_of_lt (Nat.le_trans (putF_len _ _ _) (Nat.succ_le_succ (Nat.le_trans (putF_len _ _ _) (Nat.succ_le_succ (putF_len _ _ _))))) (by decide)
theorem put1 {f : Str} {v : V} : putF f v [] = [(f, v)] := rfl
theorem put2 {f g : Str} {v w : V} (h : f ∉ ([g] : List Str)) : putF f v [(g, w)] = [(g, w), (f, v)] := putF_new (fs := [(g, w)]) h
theorem put3 {f g h : Str} {v w u : V} (n : f ∉ ([g, h] : List Str)) : putF f v [(g, w), (h, u)] = [(g, w), (h, u), (f, v)] := putF_new (fs := [(g, w), (h, u)]) n
theorem put4 {f g h i : Str} {v w u z : V} (n : f ∉ ([g, h, i] : List Str)) : putF f v [(g, w), (h, u), (i, z)] = [(g, w), (h, u), (i, z), (f, v)] := putF_new (fs := [(g, w), (h, u), (i, z)]) n
/-- a class whose __init__ gives the fresh object just these fields -/
structure Mkc (P : Program) (w : World) (K : PySem.W.Frag) (mg : Str → Option Value) (base : Heap) (x : Str) (C : Addr) (ps names : List Str) (fs : List V → List (Str × V)) : Prop where
  cl : Cls K C
  g : mg x = some (.ref C)
  ini : ∃ f fd, Mk K C f ∧ FnOk P w K mg base CX0 1 f fd ("self" :: ps) (spInit C fs ps.length) ∧ Binds K fd ("self" :: ps) []
  no : ∀ n ∈ names, NoAttr K C n
theorem pe_mkc {X : Cx} {x : Str} {C : Addr} {ps names : List Str} {fs : List V → List (Str × V)} {k : Nat} {e : Expr} {es : List Expr} {t : TA} {p pos : Pos} (M : Mkc X.prog X.w X.K X.mg X.base x C ps names fs) (hr : Room k X.A) (hk : 2 ≤ k) (hg : Gl X x) (ha : PA X (e :: es) t)
    (he : starEach (e :: es) X.env = (false, eval e X.env) :: starEach es X.env := by rfl) (hpl : (backTo pos (starEach es X.env)).any (·.1) = false := by rfl) (hd : (x == ("__debug__" : Str)) = false := by decide) :
    PE X (.Call (.Name x p) (e :: es) [] pos) (tMake C (spInit C fs ps.length) [] E0 t) := by
  obtain ⟨f, fd, m, F, b⟩ := M.ini
  exact pe_make m F (hr.mono hk) hg M.g b .nil pass0 ha (hdb := hd) (he := he) (hpl := hpl)
/-- the end of a making -/
theorem made {C : Addr} {fs : List V → List (Str × V)} {n : Nat} {H : Hp} {Q : VK} {us : List V} (hn : us.length = n) (k : ∀ x H', H x = none → Same H H' → (∃ dx, H' x = some (.ins C dx (fs us))) → Q (.ref x) H') :
    ∀ x dx, H x = none → H dx = none → dx ≠ x → spInit C fs n (.ref x :: (us ++ [])) (upd (upd H dx (.own x)) x (.ins C dx [])) (fun v H2 => v = .non ∧ Q (.ref x) H2) E0 := by
  intro x dx nx nd ne
  refine ⟨x, dx, us, by rw [List.append_nil], hn, upd_same, rfl, k x _ nx (fun b o e => ?_) ⟨dx, upd_same⟩⟩
  have h1 := ne_of_none e nx
  have h2 := ne_of_none e nd
  rw [upd_ne h1, upd_ne h1, upd_ne h2]
  exact e
section
variable {P : Program} {w : World} {K : PySem.W.Frag} {mg : Str → Option Value} {base : Heap}

/-! ### Token -/
abbrev sTokenInit : Stmt := inClass (topS 42) 0
theorem scTokenInit : FnScope ["self", "kind", "said", "place", "behind"] ["self", "kind", "said", "place", "behind"] (defScope sTokenInit) := ⟨rfl, rfl, rfl, by decide +kernel, rfl, by decide +kernel, by decide +kernel⟩
def fsTok : List V → List (Str × V)
  | [a, b, c, d] => [("kind", a), ("said", b), ("place", c), ("behind", d)]
  | _ => []
theorem okTokenInit {C f : Addr} {fd : FuncData} (F : Fun K "__init__" "Token.__init__" sTokenInit f fd) (cl : Cls K C) (no : ∀ n ∈ (["kind", "said", "place", "behind"] : List Str), NoAttr K C n) :
    FnOk P w K mg base CX0 1 f fd ["self", "kind", "said", "place", "behind"] (spInit C fsTok 4) := by
  refine F.ok scTokenInit (fun vs H Q E h => ?_) (fun cdv A outer s H vs Q E hr h => ?_)
  · obtain ⟨p, dx, us, rfl, hl, _⟩ := h
    exact congrArg (· + 1) hl
  obtain ⟨p, dx, us, rfl, hl, hp, hQ⟩ := h
  match us, hl, hQ with
  | [a, b, c, d], _, hQ =>
    refine ⟨_, pss_cons (ps_fld (pv 0) (pv 1) rfl) (pss_cons (ps_fld (pv 0) (pv 2) rfl) (pss_cons (ps_fld (pv 0) (pv 3) rfl) (pss_one (ps_fld (pv 0) (pv 4) rfl)))), ?_⟩
    refine ⟨_, rfl, _, rfl, p, C, dx, _, rfl, hp, cl, no _ (by simp), by simp, ?_⟩
    refine ⟨_, rfl, _, rfl, p, C, dx, _, rfl, upd_same, cl, no _ (by simp), pl1, ?_⟩
    rw [upd_upd]
    refine ⟨_, rfl, _, rfl, p, C, dx, _, rfl, upd_same, cl, no _ (by simp), pl2, ?_⟩
    rw [upd_upd]
    refine ⟨_, rfl, _, rfl, p, C, dx, _, rfl, upd_same, cl, no _ (by simp), pl3, ?_⟩
    rw [upd_upd]
    have e : putF "behind" d (putF "place" c (putF "said" b (putF "kind" a []))) = fsTok [a, b, c, d] := by
      rw [put1, put2 (by decide +kernel), put3 (by decide +kernel), put4 (by decide +kernel)]
      rfl
    rw [e]
    exact hQ

/-! ### Line, Question, Cursor -/
abbrev sLineInit : Stmt := inClass (topS 11) 0
theorem scLineInit : FnScope ["self", "numbers", "amount", "count"] ["self", "numbers", "amount", "count"] (defScope sLineInit) := ⟨rfl, rfl, rfl, by decide +kernel, rfl, by decide +kernel, by decide +kernel⟩
def fsLine : List V → List (Str × V)
  | [a, b, c] => [("numbers", a), ("amount", b), ("count", c)]
  | _ => []
theorem okLineInit {C f : Addr} {fd : FuncData} (F : Fun K "__init__" "Line.__init__" sLineInit f fd) (cl : Cls K C) (no : ∀ n ∈ (["numbers", "amount", "count"] : List Str), NoAttr K C n) :
    FnOk P w K mg base CX0 1 f fd ["self", "numbers", "amount", "count"] (spInit C fsLine 3) := by
  refine F.ok scLineInit (fun vs H Q E h => ?_) (fun cdv A outer s H vs Q E hr h => ?_)
  · obtain ⟨p, dx, us, rfl, hl, _⟩ := h
    exact congrArg (· + 1) hl
  obtain ⟨p, dx, us, rfl, hl, hp, hQ⟩ := h
  match us, hl, hQ with
  | [a, b, c], _, hQ =>
    refine ⟨_, pss_cons (ps_fld (pv 0) (pv 1) rfl) (pss_cons (ps_fld (pv 0) (pv 2) rfl) (pss_one (ps_fld (pv 0) (pv 3) rfl))), ?_⟩
    refine ⟨_, rfl, _, rfl, p, C, dx, _, rfl, hp, cl, no _ (by simp), by simp, ?_⟩
    refine ⟨_, rfl, _, rfl, p, C, dx, _, rfl, upd_same, cl, no _ (by simp), pl1, ?_⟩
    rw [upd_upd]
    refine ⟨_, rfl, _, rfl, p, C, dx, _, rfl, upd_same, cl, no _ (by simp), pl2, ?_⟩
    rw [upd_upd]
    have e : putF "count" c (putF "amount" b (putF "numbers" a [])) = fsLine [a, b, c] := by
      rw [put1, put2 (by decide +kernel), put3 (by decide +kernel)]
      rfl
    rw [e]
    exact hQ
abbrev sQuestionInit : Stmt := inClass (topS 12) 0
theorem scQuestionInit : FnScope ["self", "grouping", "times"] ["self", "grouping", "times"] (defScope sQuestionInit) := ⟨rfl, rfl, rfl, by decide +kernel, rfl, by decide +kernel, by decide +kernel⟩
def fsQue : List V → List (Str × V)
  | [a, b] => [("grouping", a), ("times", b)]
  | _ => []
theorem okQuestionInit {C f : Addr} {fd : FuncData} (F : Fun K "__init__" "Question.__init__" sQuestionInit f fd) (cl : Cls K C) (no : ∀ n ∈ (["grouping", "times"] : List Str), NoAttr K C n) :
    FnOk P w K mg base CX0 1 f fd ["self", "grouping", "times"] (spInit C fsQue 2) := by
  refine F.ok scQuestionInit (fun vs H Q E h => ?_) (fun cdv A outer s H vs Q E hr h => ?_)
  · obtain ⟨p, dx, us, rfl, hl, _⟩ := h
    exact congrArg (· + 1) hl
  obtain ⟨p, dx, us, rfl, hl, hp, hQ⟩ := h
  match us, hl, hQ with
  | [a, b], _, hQ =>
    refine ⟨_, pss_cons (ps_fld (pv 0) (pv 1) rfl) (pss_one (ps_fld (pv 0) (pv 2) rfl)), ?_⟩
    refine ⟨_, rfl, _, rfl, p, C, dx, _, rfl, hp, cl, no _ (by simp), by simp, ?_⟩
    refine ⟨_, rfl, _, rfl, p, C, dx, _, rfl, upd_same, cl, no _ (by simp), pl1, ?_⟩
    rw [upd_upd]
    have e : putF "times" b (putF "grouping" a []) = fsQue [a, b] := by
      rw [put1, put2 (by decide +kernel)]
      rfl
    rw [e]
    exact hQ
abbrev sCursorInit : Stmt := inClass (topS 68) 0
theorem scCursorInit : FnScope ["self", "tokens"] ["self", "tokens"] (defScope sCursorInit) := ⟨rfl, rfl, rfl, by decide +kernel, rfl, by decide +kernel, by decide +kernel⟩
def fsCur : List V → List (Str × V)
  | [a] => [("tokens", a), ("position", .int 0)]
  | _ => []
theorem okCursorInit {C f : Addr} {fd : FuncData} (F : Fun K "__init__" "Cursor.__init__" sCursorInit f fd) (cl : Cls K C) (no : ∀ n ∈ (["tokens", "position"] : List Str), NoAttr K C n) :
    FnOk P w K mg base CX0 1 f fd ["self", "tokens"] (spInit C fsCur 1) := by
  refine F.ok scCursorInit (fun vs H Q E h => ?_) (fun cdv A outer s H vs Q E hr h => ?_)
  · obtain ⟨p, dx, us, rfl, hl, _⟩ := h
    exact congrArg (· + 1) hl
  obtain ⟨p, dx, us, rfl, hl, hp, hQ⟩ := h
  match us, hl, hQ with
  | [a], _, hQ =>
    refine ⟨_, pss_cons (ps_fld (pv 0) (pv 1) rfl) (pss_one (ps_fld (pv 0) pe_int rfl)), ?_⟩
    refine ⟨_, rfl, _, rfl, p, C, dx, _, rfl, hp, cl, no _ (by simp), by simp, ?_⟩
    refine ⟨_, rfl, p, C, dx, _, rfl, upd_same, cl, no _ (by simp), pl1, ?_⟩
    rw [upd_upd]
    have e : putF "position" (.int 0) (putF "tokens" a []) = fsCur [a] := by
      rw [put1, put2 (by decide +kernel)]
      rfl
    rw [e]
    exact hQ

/-! ### Table, Holder: with a list, a dict of their own -/
abbrev sTableInit : Stmt := inClass (topS 13) 0
theorem scTableInit : FnScope ["self", "columns"] ["self", "columns"] (defScope sTableInit) := ⟨rfl, rfl, rfl, by decide +kernel, rfl, by decide +kernel, by decide +kernel⟩
def fsTab (c r q : V) : List (Str × V) := [("columns", c), ("rows", r), ("questions", q)]
def spTabI (C : Addr) : Sp := fun vs H Q _ => ∃ (p dx : Addr) (c : V), vs = [.ref p, c] ∧ H p = some (.ins C dx []) ∧
  ∀ (H' : Hp) (r q : Addr), But p H H' → H' p = some (.ins C dx (fsTab c (.ref r) (.ref q))) → H' r = some (.lst []) → H' q = some (.lst []) → r ≠ q → H r = none → H q = none → Q .non H'
theorem okTableInit {C f : Addr} {fd : FuncData} (F : Fun K "__init__" "Table.__init__" sTableInit f fd) (cl : Cls K C) (no : ∀ n ∈ (["columns", "rows", "questions"] : List Str), NoAttr K C n) :
    FnOk P w K mg base CX0 1 f fd ["self", "columns"] (spTabI C) := by
  refine F.ok scTableInit (fun vs H Q E h => ?_) (fun cdv A outer s H vs Q E hr h => ?_)
  · obtain ⟨p, dx, c, rfl, _⟩ := h
    rfl
  obtain ⟨p, dx, c, rfl, hp, hQ⟩ := h
  refine ⟨_, pss_cons (ps_fld (pv 0) (pv 1) rfl) (pss_cons (ps_fld (pv 0) (pe_lst pa_nil) rfl) (pss_one (ps_fld (pv 0) (pe_lst pa_nil) rfl))), ?_⟩
  refine ⟨_, rfl, _, rfl, p, C, dx, _, rfl, hp, cl, no _ (by simp), by simp, ?_⟩
  refine ⟨Nat.zero_le _, fun r hr' => ⟨_, rfl, ?_⟩⟩
  have rp : p ≠ r := ne_of_none upd_same hr'
  have hr0 : H r = none := by rw [upd_ne (Ne.symm rp)] at hr'; exact hr'
  refine ⟨p, C, dx, _, rfl, (upd_ne rp).trans upd_same, cl, no _ (by simp), pl1, ?_⟩
  refine ⟨Nat.zero_le _, fun q hq' => ⟨_, rfl, ?_⟩⟩
  have qp : p ≠ q := ne_of_none upd_same hq'
  have qr : r ≠ q := ne_of_none ((upd_ne (Ne.symm rp)).trans upd_same) hq'
  have hq0 : H q = none := by rw [upd_ne (Ne.symm qp), upd_ne (Ne.symm qr), upd_ne (Ne.symm qp)] at hq'; exact hq'
  refine ⟨p, C, dx, _, rfl, (upd_ne qp).trans upd_same, cl, no _ (by simp), pl2, ?_⟩
  have e : putF "questions" (.ref q) (putF "rows" (.ref r) (putF "columns" c [])) = fsTab c (.ref r) (.ref q) := by
    rw [put1, put2 (by decide +kernel), put3 (by decide +kernel)]
    rfl
  rw [e]
  refine hQ _ r q (fun b o nb eb => ?_) upd_same ?_ ?_ qr hr0 hq0
  · rw [upd_ne nb, upd_ne (ne_of_none eb hq0), upd_ne nb, upd_ne (ne_of_none eb hr0), upd_ne nb]
    exact eb
  · rw [upd_ne (Ne.symm rp), upd_ne qr, upd_ne (Ne.symm rp), upd_same]
  · rw [upd_ne (Ne.symm qp), upd_same]
abbrev sHolderInit : Stmt := inClass (topS 82) 0
theorem scHolderInit : FnScope ["self"] ["self"] (defScope sHolderInit) := ⟨rfl, rfl, rfl, by decide +kernel, rfl, by decide +kernel, by decide +kernel⟩
def fsHol (t k : V) : List (Str × V) := [("table", t), ("kept", k)]
def spHolI (C : Addr) : Sp := fun vs H Q _ => ∃ (p dx : Addr), vs = [.ref p] ∧ H p = some (.ins C dx []) ∧
  ∀ (H' : Hp) (d : Addr), But p H H' → H' p = some (.ins C dx (fsHol .non (.ref d))) → H' d = some (.dK []) → H d = none → Q .non H'
theorem okHolderInit {C f : Addr} {fd : FuncData} (F : Fun K "__init__" "Holder.__init__" sHolderInit f fd) (cl : Cls K C) (no : ∀ n ∈ (["table", "kept"] : List Str), NoAttr K C n) :
    FnOk P w K mg base CX0 1 f fd ["self"] (spHolI C) := by
  refine F.ok scHolderInit (fun vs H Q E h => ?_) (fun cdv A outer s H vs Q E hr h => ?_)
  · obtain ⟨p, dx, rfl, _⟩ := h
    rfl
  obtain ⟨p, dx, rfl, hp, hQ⟩ := h
  refine ⟨_, pss_cons (ps_fld (pv 0) pe_non rfl) (pss_one (ps_fld (pv 0) pe_dnewK rfl)), ?_⟩
  refine ⟨_, rfl, p, C, dx, _, rfl, hp, cl, no _ (by simp), by simp, ?_⟩
  intro d hd
  have dp : p ≠ d := ne_of_none upd_same hd
  have hd0 : H d = none := by rw [upd_ne (Ne.symm dp)] at hd; exact hd
  refine ⟨_, rfl, p, C, dx, _, rfl, (upd_ne dp).trans upd_same, cl, no _ (by simp), pl1, ?_⟩
  have e : putF "kept" (.ref d) (putF "table" .non []) = fsHol .non (.ref d) := by
    rw [put1, put2 (by decide +kernel)]
    rfl
  rw [e]
  refine hQ _ d (fun b o nb eb => ?_) upd_same ?_ hd0
  · rw [upd_ne nb, upd_ne (ne_of_none eb hd0), upd_ne nb]
    exact eb
  · rw [upd_ne (Ne.symm dp), upd_same]
end
end Kg
/-! Names of the top: numbers, tuples, a dict that is written there. -/
namespace Kg
open PySem PySem.Spec PyProof.Rows L2
/-- the top's name x holds the number i -/
def GI (mg : Str → Option Value) (x : Str) (i : Int) : Prop := ∃ t, mg x = some (.int i t)
theorem pe_gi {X : Cx} {x : Str} {i : Int} {pos : Pos} (h : GI X.mg x i) (hg : Gl X x) (hd : (x == ("__debug__" : Str)) = false := by decide) : PE X (.Name x pos) (tC (.int i)) := by
  obtain ⟨t, h⟩ := h
  exact pe_glob hg h ⟨t, rfl⟩ hd
/-- the top's name x holds a tuple of these -/
def GT (K : PySem.W.Frag) (mg : Str → Option Value) (x : Str) (xs : List V) (a : Addr) : Prop := mg x = some (.ref a) ∧ ∀ H : Hp, SqT K H a xs
theorem pe_gt {X : Cx} {x : Str} {xs : List V} {a : Addr} {pos : Pos} (h : GT X.K X.mg x xs a) (hg : Gl X x) (hd : (x == ("__debug__" : Str)) = false := by decide) : PE X (.Name x pos) (tC (.ref a)) :=
  pe_glob hg h.1 rfl hd
/-- the top's name x holds a dict with these keys and values -/
def GD (P : Program) (w : World) (K : PySem.W.Frag) (mg : Str → Option Value) (x : Str) (kvs : List (Key × V)) : Prop :=
  ∃ (d : Addr) (o : Obj) (vs : List (Key × Value)), mg x = some (.ref d) ∧ K.lookup d = some o ∧ (d == sysModules) = false ∧ KV kvs vs ∧ ∀ h : Heap, h.get? d = some o → h.DictOf (mixKind P w) d vs
def tWGet (kvs : List (Key × V)) (ty : TE) : TE := fun σ H Q => ty σ H fun y H1 => ∃ k v, y = kV k ∧ valV kvs k = some v ∧ Q v H1
def tWIn (kvs : List (Key × V)) (ty : TE) : TE := fun σ H Q => ty σ H fun y H1 => ∃ k, y = kV k ∧ Q (.bl (valV kvs k).isSome) H1
section
variable {X : Cx} {x : Str} {kvs : List (Key × V)} {i : Expr} {ty : TE} {p pos : Pos}
theorem pe_wget (D : GD X.prog X.w X.K X.mg x kvs) (hg : Gl X x) (hi : PE X i ty) (hs : NoSl i) (hd : (x == ("__debug__" : Str)) = false := by decide) : PE X (.Subscript (.Name x p) i pos) (tWGet kvs ty) := by
  obtain ⟨d, o, vs, hm, hl, hsys, rel, hD⟩ := D
  refine ⟨fun pins s σ H Q I h => ?_⟩
  refine subD_of PySem.F.slot_dict_getitem.lookup hs (ld_glob I hg hm (thn (hi.run pins s σ H _ I h) fun iv s2 ⟨y, H2, I2, ry, k, v, ey, l, q2⟩ => ?_) hd)
  have dd := hD s2.heap (I2.kIn _ _ hl)
  obtain ⟨w', hww, rw'⟩ := RelO.some_of (v := v) (o := valueAt vs k) (by rw [← l]; exact rel.val k)
  subst ey
  exact ⟨dd.typeIs, wpAny_getItem_of (kV_is ry) dd.mapOf hww ⟨v, H2, I2.tok _, rw', q2⟩⟩
theorem pc_win (D : GD X.prog X.w X.K X.mg x kvs) (hg : Gl X x) (hi : PE X i ty) (hd : (x == ("__debug__" : Str)) = false := by decide) : PC X .In i (.Name x p) (tWIn kvs ty) := by
  obtain ⟨d, o, vs, hm, hl, hsys, rel, hD⟩ := D
  refine ⟨fun pins s σ H Q I h => ?_⟩
  refine thn (hi.run pins s σ H _ I h) fun iv s2 ⟨y, H2, I2, ry, k, ey, q2⟩ => ld_glob I2 hg hm ?_ hd
  have dd := hD s2.heap (I2.kIn _ _ hl)
  subst ey
  refine wpAny_in_of (kV_is ry) hsys dd.mapOf ?_
  rw [← (rel.val k).isSome_eq]
  exact ⟨.bl (valV kvs k).isSome, H2, I2.tok _, rfl, q2⟩
end
/-- the program's numbers -/
structure Cst (mg : Str → Option Value) : Prop where
  TOO_LONG : GI mg "TOO_LONG" 1
  NO_TOKEN : GI mg "NO_TOKEN" 2
  NOT_ALLOWED : GI mg "NOT_ALLOWED" 3
  TOO_MANY : GI mg "TOO_MANY" 4
  COLUMN_TWICE : GI mg "COLUMN_TWICE" 5
  ASKED_TWICE : GI mg "ASKED_TWICE" 6
  OUT_OF_BOUNDS : GI mg "OUT_OF_BOUNDS" 7
  NO_COLUMN : GI mg "NO_COLUMN" 8
  FROM_TABLE : GI mg "FROM_TABLE" (-1)
  LINE_FEED : GI mg "LINE_FEED" 10
  REMARK : GI mg "REMARK" 35
  DIGIT_ZERO : GI mg "DIGIT_ZERO" 48
  LONGEST_NAME : GI mg "LONGEST_NAME" 16
  LONGEST_NUMBER : GI mg "LONGEST_NUMBER" 10
  GREATEST_NUMBER : GI mg "GREATEST_NUMBER" 1000000000
  LONGEST_TEXT : GI mg "LONGEST_TEXT" 4096
  MOST_COLUMNS : GI mg "MOST_COLUMNS" 4
  MOST_ROWS : GI mg "MOST_ROWS" 16
  MOST_QUESTIONS : GI mg "MOST_QUESTIONS" 8
  GREATEST_VALUE : GI mg "GREATEST_VALUE" 9
  GREATEST_AMOUNT : GI mg "GREATEST_AMOUNT" 1000
  MOST_TIMES : GI mg "MOST_TIMES" 99
  NO_TABLE : GI mg "NO_TABLE" (-1)
  NO_GROUPING : GI mg "NO_GROUPING" (-2)
  NO_QUESTION : GI mg "NO_QUESTION" (-3)
  NOT_WORKED_OUT : GI mg "NOT_WORKED_OUT" (-5)
  LOAD : GI mg "LOAD" 0
/-- texts as values -/
def kvSigns : List (Key × V) := [(Sum.inl 44, .str ","), (Sum.inl 58, .str ":"), (Sum.inl 59, .str ";"), (Sum.inl 45, .str "-")]
end Kg
namespace Kg
open PySem PySem.Spec PyProof.Rows L2
open VamvsBase (isLetter isDigit isBlank)
/-- bytes as values -/
def bV (b : By) : List V := b.map fun c => V.int (c.toNat : Int)
theorem bV_len (b : By) : (bV b).length = b.length := List.length_map ..
theorem bV_at {b : By} {p : Nat} {c : UInt8} (h : b[p]? = some c) : (bV b)[p]? = some (.int (c.toNat : Int)) := by
  unfold bV
  rw [List.getElem?_map, h]
  rfl
theorem u8_eq {c : UInt8} {n : Nat} (h : n < 256) : ((c.toNat : Int) = (n : Int)) ↔ c = UInt8.ofNat n := by
  constructor
  · intro e
    have e : c.toNat = n := Int.ofNat.inj e
    rw [← e, UInt8.ofNat_toNat]
  · intro e
    subst e
    rw [UInt8.toNat_ofNat']
    exact congrArg Int.ofNat (Nat.mod_eq_of_lt h)
theorem ieq {i j : Int} (h : decide (V.int i = V.int j) = true) : i = j := V.int.inj (of_decide_eq_true h)
theorem ine {i j : Int} (h : ¬ decide (V.int i = V.int j) = true) : i ≠ j := fun e => h (by rw [e]; exact decide_eq_true rfl)
theorem nieq {i j : Int} (h : ¬ (!decide (V.int i = V.int j)) = true) : i = j := by
  by_cases e : i = j
  · exact e
  · exact absurd (by rw [decide_eq_false fun z => e (V.int.inj z)]; rfl) h
theorem nine {i j : Int} (h : (!decide (V.int i = V.int j)) = true) : i ≠ j := fun e => by
  rw [e, decide_eq_true rfl] at h
  cases h
theorem int_eq {i j : Int} : decide (V.int i = V.int j) = decide (i = j) := by
  by_cases h : i = j
  · subst h; simp
  · rw [decide_eq_false h]; exact decide_eq_false fun e => h (V.int.inj e)
section
variable {P : Program} {w : World} {K : PySem.W.Frag} {mg : Str → Option Value} {base : Heap}

/-! ### is_letter, is_digit -/
abbrev sIsLetter : Stmt := topS 52
abbrev sIsDigit : Stmt := topS 53
theorem scIsDigit : FnScope ["byte"] ["byte"] (defScope sIsDigit) := ⟨rfl, rfl, rfl, by decide +kernel, rfl, by decide +kernel, by decide +kernel⟩
theorem scIsLetter : FnScope ["byte"] ["byte"] (defScope sIsLetter) := ⟨rfl, rfl, rfl, by decide +kernel, rfl, by decide +kernel, by decide +kernel⟩
def spByte (f : UInt8 → Bool) : Sp := fun vs H Q _ => ∃ c : UInt8, vs = [.int (c.toNat : Int)] ∧ Q (.bl (f c)) H
theorem okIsDigit (D : Df K mg "is_digit" sIsDigit ["byte"]) : Ok P w K mg base CX0 1 "is_digit" ["byte"] (spByte isDigit) := by
  refine D.ok fun f fd F => F.ok scIsDigit (fun vs H Q E h => ?_) (fun cdv A outer s H vs Q E hr h => ?_)
  · obtain ⟨c, rfl, _⟩ := h
    rfl
  obtain ⟨c, rfl, hQ⟩ := h
  refine ⟨_, pss_one (ps_ret (pe_chain op_le op_le pe_int (pv 0) pe_int)), ?_⟩
  refine ⟨_, rfl, _, _, rfl, rfl, _, rfl, ite2 (fun h1 => ?_) fun h1 => ?_⟩
  · refine ⟨_, _, rfl, rfl, ?_⟩
    have e : isDigit c = decide ((c.toNat : Int) ≤ 57) := by
      have := of_decide_eq_true h1
      unfold isDigit
      rw [decide_eq_decide]
      omega
    rw [e] at hQ
    exact hQ
  · have e : isDigit c = false := by
      have := of_decide_eq_false (Bool.eq_false_iff.mpr h1)
      unfold isDigit
      rw [decide_eq_false_iff_not]
      omega
    rw [e] at hQ
    exact hQ
theorem okIsLetter (D : Df K mg "is_letter" sIsLetter ["byte"]) : Ok P w K mg base CX0 1 "is_letter" ["byte"] (spByte isLetter) := by
  refine D.ok fun f fd F => F.ok scIsLetter (fun vs H Q E h => ?_) (fun cdv A outer s H vs Q E hr h => ?_)
  · obtain ⟨c, rfl, _⟩ := h
    rfl
  obtain ⟨c, rfl, hQ⟩ := h
  refine ⟨_, pss_one (ps_ret (pe_or (pe_chain op_le op_le pe_int (pv 0) pe_int) (pe_one (pe_chain op_le op_le pe_int (pv 0) pe_int)))), ?_⟩
  have small : isLetter c = (decide (65 ≤ c.toNat ∧ c.toNat ≤ 90) || decide (97 ≤ c.toNat ∧ c.toNat ≤ 122)) := rfl
  have second : decide (65 ≤ c.toNat ∧ c.toNat ≤ 90) = false → tOrV (fun _ H' Q' => Q' (.bl false) H') (tChain (rI0 fun i j => .bl (decide (i ≤ j))) (rI0 fun i j => .bl (decide (i ≤ j))) (tC (.int 97)) (tVar 0) (tC (.int 122))) (L2.start ["byte"] [.int (c.toNat : Int)]) H Q := by
    intro h0
    rw [h0, Bool.false_or] at small
    refine ⟨false, rfl, ?_⟩
    refine iteF ?_
    refine ⟨_, rfl, _, _, rfl, rfl, _, rfl, ite2 (fun h1 => ?_) fun h1 => ?_⟩
    · refine ⟨_, _, rfl, rfl, ?_⟩
      have e : isLetter c = decide ((c.toNat : Int) ≤ 122) := by
        have := of_decide_eq_true h1
        rw [small, decide_eq_decide]
        omega
      rw [e] at hQ
      exact hQ
    · have e : isLetter c = false := by
        have := of_decide_eq_false (Bool.eq_false_iff.mpr h1)
        rw [small, decide_eq_false_iff_not]
        omega
      rw [e] at hQ
      exact hQ
  refine ⟨_, rfl, _, _, rfl, rfl, _, rfl, ite2 (fun h1 => ?_) fun h1 => ?_⟩
  · refine ⟨_, _, rfl, rfl, ?_⟩
    have h1 := of_decide_eq_true h1
    refine ⟨_, rfl, ite2 (fun h2 => ?_) fun h2 => ?_⟩
    · have h2 := of_decide_eq_true h2
      have e : isLetter c = true := by
        rw [small, decide_eq_true (by omega)]
        rfl
      rw [e] at hQ
      exact hQ
    · have h2 := of_decide_eq_false (Bool.eq_false_iff.mpr h2)
      obtain ⟨_, e0, h⟩ := second (decide_eq_false (by omega))
      cases e0
      exact h
  · have := of_decide_eq_false (Bool.eq_false_iff.mpr h1)
    refine ⟨_, rfl, iteF ?_⟩
    obtain ⟨_, e0, h⟩ := second (decide_eq_false (by omega))
    cases e0
    exact h
end
end Kg
namespace Kg
open PySem PySem.Spec PyProof.Rows L2
open VamvsBase (isLetter isDigit isBlank)
section
variable {P : Program} {w : World} {K : PySem.W.Frag} {mg : Str → Option Value} {base : Heap}

/-! ### behind_remark -/
abbrev sBehindRemark : Stmt := topS 46
theorem scBehindRemark : FnScope ["text", "place"] ["text", "place"] (defScope sBehindRemark) := ⟨rfl, rfl, rfl, by decide +kernel, rfl, by decide +kernel, by decide +kernel⟩
def spBehindRemark (K : PySem.W.Frag) : Sp := fun vs H Q _ => ∃ (a : Addr) (b : By) (p : Nat), vs = [.ref a, .int (p : Int)] ∧ SqL K H a (bV b) ∧ p ≤ b.length ∧ Q (.int (remEnd b p : Nat)) H
theorem okBehindRemark (D : Df K mg "behind_remark" sBehindRemark ["text", "place"]) (B : Blt mg) (C : Cst mg) : Ok P w K mg base CX0 1 "behind_remark" ["text", "place"] (spBehindRemark K) := by
  refine D.ok fun f fd F => F.ok scBehindRemark (fun vs H Q E h => ?_) (fun cdv A outer s H vs Q E hr h => ?_)
  · obtain ⟨a, b, p, rfl, _⟩ := h
    rfl
  obtain ⟨a, b, p, rfl, hS, hp, hQ⟩ := h
  refine ⟨_, pss_cons (ps_while PassesOwn.never
      (PW.pt (pw_and (pt_cmpR op_lt (pv 1) (pe_callB call_len_seq (by rfl) B.len PySem.boot_len (pa_cons (pv 0) pa_nil)) (nomark _))
        (pw_and1 (pt_cmpR op_ne (pe_ix ix_list (pv 0) (pv 1) (fun _ _ => rfl)) (pe_gi C.LINE_FEED rfl) (nomark _)))))
      (pss_one (ps_aug (i := 1) scBehindRemark.nd rfl (.inl rfl) pe_int ip_add)))
    (pss_one (ps_ret (pv 1))), ?_⟩
  refine ⟨fun n σ H' => H' = H ∧ ∃ q : Nat, σ = [some (.ref a), some (.int (q : Int))] ∧ q ≤ b.length ∧ remEnd b q = remEnd b p ∧ n = b.length - q, ⟨_, rfl, p, rfl, hp, rfl, rfl⟩, ?_⟩
  rintro n σ H' ⟨rfl, q, rfl, hq, he, rfl⟩
  refine ⟨_, rfl, _, rfl, _, _, rfl, .inl hS, _, _, rfl, rfl, _, rfl, ite2 (fun h1 => ?_) fun h1 => ?_⟩
  · have hl : q < b.length := by
      have z := of_decide_eq_true h1
      rw [bV_len] at z
      omega
    obtain ⟨c, hc⟩ : ∃ c, b[q]? = some c := ⟨_, List.getElem?_eq_getElem hl⟩
    refine ⟨_, rfl, _, rfl, _, _, _, _, rfl, rfl, hS, at_of rfl (bV_at hc), rfl, _, rfl, ?_⟩
    refine ite2 (fun h2 => ?_) fun h2 => ?_
    · refine ⟨_, fun _ _ h => h, ?_⟩
      refine ⟨_, rfl, _, _, rfl, rfl, b.length - (q + 1), by omega, rfl, q + 1, ?_, hl, ?_, rfl⟩
      · show [some (V.ref a), some (V.int ((q : Int) + 1))] = _
        rw [show ((q : Int) + 1) = ((q + 1 : Nat) : Int) from by omega]
      · rw [← he]
        refine (remEnd_more hc fun z => nine h2 ?_).symm
        rw [z]
        rfl
    · refine ⟨_, rfl, ?_⟩
      have h3 := (u8_eq (c := c) (n := 10) (by decide)).mp (nieq h2)
      rw [h3] at hc
      rw [remEnd_here hc] at he
      rw [he]
      exact hQ
  · have z := of_decide_eq_false (Bool.eq_false_iff.mpr h1)
    rw [bV_len] at z
    have e : q = b.length := by omega
    refine iteF ⟨_, rfl, ?_⟩
    rw [e, remEnd_end (Nat.le_refl _)] at he
    rw [e, he]
    exact hQ
end
end Kg
namespace Kg
open PySem PySem.Spec PyProof.Rows L2
open VamvsBase (isLetter isDigit isBlank)
section
variable {P : Program} {w : World} {K : PySem.W.Frag} {mg : Str → Option Value} {base : Heap}

/-! ### behind_blanks -/
abbrev sBehindBlanks : Stmt := topS 45
theorem scBehindBlanks : FnScope ["text", "place"] ["text", "place"] (defScope sBehindBlanks) := ⟨rfl, rfl, rfl, by decide +kernel, rfl, by decide +kernel, by decide +kernel⟩
/-- no blank, no remark begins here -/
def Stop (b : By) (q : Nat) : Prop := q = b.length ∨ ∃ c, b[q]? = some c ∧ isBlank c = false ∧ c ≠ 35
def spBehindBlanks (K : PySem.W.Frag) : Sp := fun vs H Q _ => ∃ (a : Addr) (b : By) (p : Nat), vs = [.ref a, .int (p : Int)] ∧ SqL K H a (bV b) ∧ p ≤ b.length ∧
  ∀ q : Nat, p ≤ q → q ≤ b.length → lexF q (b.drop q) = lexF p (b.drop p) → Stop b q → Q (.int (q : Nat)) H
theorem blank_in (c : UInt8) : inV (.int (c.toNat : Int)) [.int 32, .int 9, .int 10] = isBlank c := by
  show ((32 : Int) == (c.toNat : Int) || ((9 : Int) == (c.toNat : Int) || ((10 : Int) == (c.toNat : Int) || false))) = (c == 32 || (c == 9 || c == 10))
  have h : ∀ n : Nat, n < 256 → ((n : Int) == (c.toNat : Int)) = (c == UInt8.ofNat n) := fun n hn => by
    rw [Bool.eq_iff_iff, beq_iff_eq, beq_iff_eq]
    exact ⟨fun e => (u8_eq hn).mp e.symm, fun e => ((u8_eq hn).mpr e).symm⟩
  rw [Bool.or_false, show ((32 : Int) == (c.toNat : Int)) = (c == 32) from h 32 (by decide), show ((9 : Int) == (c.toNat : Int)) = (c == 9) from h 9 (by decide), show ((10 : Int) == (c.toNat : Int)) = (c == 10) from h 10 (by decide)]
theorem okBehindBlanks {aB : Addr} (D : Df K mg "behind_blanks" sBehindBlanks ["text", "place"]) (B : Blt mg) (C : Cst mg) (G : GT K mg "BLANKS" [.int 32, .int 9, .int 10] aB)
    (O : Ok P w K mg base CX0 1 "behind_remark" ["text", "place"] (spBehindRemark K)) : Ok P w K mg base CX0 2 "behind_blanks" ["text", "place"] (spBehindBlanks K) := by
  refine D.ok fun f fd F => F.ok scBehindBlanks (fun vs H Q E h => ?_) (fun cdv A outer s H vs Q E hr h => ?_)
  · obtain ⟨a, b, p, rfl, _⟩ := h
    rfl
  obtain ⟨a, b, p, rfl, hS, hp, hQ⟩ := h
  refine ⟨_, pss_cons (ps_while PassesOwn.never
      (PW.pt (pw_and (pt_cmpR op_lt (pv 1) (pe_callB call_len_seq (by rfl) B.len PySem.boot_len (pa_cons (pv 0) pa_nil)) (nomark _))
        (pw_and1 (PW.pt (pw_or (pt_cmpR op_in_seq (pe_ix ix_list (pv 0) (pv 1) (fun _ _ => rfl)) (pe_gt G rfl) (by rfl))
          (pw_or1 (pt_cmpR op_eq (pe_ix ix_list (pv 0) (pv 1) (fun _ _ => rfl)) (pe_gi C.REMARK rfl) (nomark _))))))))
      (pss_one (ps_if (pt_cmpR op_eq (pe_ix ix_list (pv 0) (pv 1) (fun _ _ => rfl)) (pe_gi C.REMARK rfl) (nomark _))
        (pss_one (ps_set (i := 1) scBehindBlanks.nd rfl (.inl rfl) (pe_ok O hr (by decide) rfl pass0 (pa_cons (pv 0) (pa_cons (pv 1) pa_nil)))))
        (pss_one (ps_aug (i := 1) scBehindBlanks.nd rfl (.inl rfl) pe_int ip_add)))))
    (pss_one (ps_ret (pv 1))), ?_⟩
  refine ⟨fun n σ H' => H' = H ∧ ∃ q : Nat, σ = [some (.ref a), some (.int (q : Int))] ∧ p ≤ q ∧ q ≤ b.length ∧ lexF q (b.drop q) = lexF p (b.drop p) ∧ n = b.length - q, ⟨_, rfl, p, rfl, Nat.le_refl _, hp, rfl, rfl⟩, ?_⟩
  rintro n σ H' ⟨rfl, q, rfl, hpq, hq, he, rfl⟩
  refine ⟨_, rfl, _, rfl, _, _, rfl, .inl hS, _, _, rfl, rfl, _, rfl, ite2 (fun h1 => ?_) fun h1 => ?_⟩
  · have hl : q < b.length := by
      have z := of_decide_eq_true h1
      rw [bV_len] at z
      omega
    obtain ⟨c, hc⟩ : ∃ c, b[q]? = some c := ⟨_, List.getElem?_eq_getElem hl⟩
    have stepR : c = 35 → ∃ m', m' < b.length - q ∧ (H' = H' ∧ ∃ q' : Nat, [some (V.ref a), some (V.int ((remEnd b q : Nat) : Int))] = [some (V.ref a), some (V.int (q' : Int))] ∧ p ≤ q' ∧ q' ≤ b.length ∧ lexF q' (b.drop q') = lexF p (b.drop p) ∧ m' = b.length - q') := fun h35 => by
      rw [h35] at hc
      have g := remEnd_gt hc
      have l := remEnd_le (b := b) hq
      exact ⟨b.length - remEnd b q, by omega, rfl, remEnd b q, rfl, by omega, l, (lex_rem hc).symm.trans he, rfl⟩
    have stepB : isBlank c = true → ∃ m', m' < b.length - q ∧ (H' = H' ∧ ∃ q' : Nat, [some (V.ref a), some (V.int ((q : Int) + 1))] = [some (V.ref a), some (V.int (q' : Int))] ∧ p ≤ q' ∧ q' ≤ b.length ∧ lexF q' (b.drop q') = lexF p (b.drop p) ∧ m' = b.length - q') := fun hb => by
      exact ⟨b.length - (q + 1), by omega, rfl, q + 1, by rw [show ((q : Int) + 1) = ((q + 1 : Nat) : Int) from by omega], by omega, hl, (lex_blank hc hb).symm.trans he, rfl⟩
    refine ⟨_, rfl, _, rfl, _, _, _, _, rfl, rfl, hS, at_of rfl (bV_at hc), _, _, rfl, .inr (G.2 _), rfl, rfl, _, rfl, ite2 (fun h2 => ?_) fun h2 => ?_⟩
    · have hb : isBlank c = true := (blank_in c).symm.trans h2
      refine ⟨_, fun _ _ h => h, ?_⟩
      refine ⟨_, rfl, _, rfl, _, _, _, _, rfl, rfl, hS, at_of rfl (bV_at hc), rfl, _, rfl, ite2 (fun h3 => ?_) fun h3 => ?_⟩
      · exact ⟨_, rfl, _, rfl, a, b, q, rfl, hS, hq, stepR ((u8_eq (n := 35) (by decide)).mp (ieq h3))⟩
      · exact ⟨_, rfl, _, _, rfl, rfl, stepB hb⟩
    · have hb : isBlank c = false := (blank_in c).symm.trans (Bool.eq_false_iff.mpr h2)
      refine ⟨_, rfl, _, rfl, _, _, _, _, rfl, rfl, hS, at_of rfl (bV_at hc), rfl, _, rfl, ite2 (fun h4 => ?_) fun h4 => ?_⟩
      · have e35 := (u8_eq (c := c) (n := 35) (by decide)).mp (ieq h4)
        refine ⟨_, fun _ _ h => h, ?_⟩
        refine ⟨_, rfl, _, rfl, _, _, _, _, rfl, rfl, hS, at_of rfl (bV_at hc), rfl, _, rfl, ite2 (fun h3 => ?_) fun h3 => ?_⟩
        · exact ⟨_, rfl, _, rfl, a, b, q, rfl, hS, hq, stepR e35⟩
        · exact absurd h4 h3
      · refine ⟨_, rfl, hQ q hpq hq he (.inr ⟨c, hc, hb, fun z => ine h4 ?_⟩)⟩
        rw [z]
        rfl
  · have z := of_decide_eq_false (Bool.eq_false_iff.mpr h1)
    rw [bV_len] at z
    have e : q = b.length := by omega
    exact iteF ⟨_, rfl, hQ q hpq hq he (.inl e)⟩
end
end Kg
namespace Kg
open PySem PySem.Spec PyProof.Rows L2
open VamvsBase (isLetter isDigit isBlank)
/-- over the signs of a text, in a comprehension -/
theorem lc_text {x : Str} {g : TG} {tt : TT} {te : TE} {vs : List Nat} {σ : L2.St} {H1 : Hp} {D : Addr} {Qd : Hp → Prop} (Pv : Nat → Hp → Prop) (h0 : Pv 0 (upd H1 D (.lst [])))
    (hs : ∀ i c H, x.cps[i]? = some c → Pv i H → g (.str ⟨#[c]⟩) (wipe σ vs) H fun σ2 H2 => wipe σ2 vs = wipe σ vs ∧ tt σ2 H2 fun b H3 =>
      if b = true then te σ2 H3 fun y H4 => ∃ acc, H4 D = some (.lst acc) ∧ acc.length < sizeLine ∧ Pv (i + 1) (upd H4 D (.lst (acc ++ [y]))) else Pv (i + 1) H3) (hd : ∀ H, Pv x.cps.size H → Qd H) : ∃ W : Nat → Nat → Hp → Prop, (∃ m, W 0 m (upd H1 D (.lst []))) ∧ ∀ i m H, W i m H →
      ((Its x).stop i H ∧ Qd H) ∨ ((Its x).go i H ∧ ∃ Nx : Hp → Prop, (∀ H', Nx H' → ∃ m', m' < m ∧ W (i + 1) m' H') ∧ ∀ v H', (Its x).yld i H v H' → g v (wipe σ vs) H' fun σ2 H2 => wipe σ2 vs = wipe σ vs ∧ tt σ2 H2 fun b H3 => if b = true then te σ2 H3 fun y H4 => ∃ acc, H4 D = some (.lst acc) ∧ acc.length < sizeLine ∧ Nx (upd H4 D (.lst (acc ++ [y]))) else Nx H3) := by
  refine ⟨fun i m H => m = x.cps.size - i ∧ i ≤ x.cps.size ∧ Pv i H, ⟨_, rfl, Nat.zero_le _, h0⟩, ?_⟩
  rintro i m H ⟨rfl, hi, p⟩
  by_cases hlt : i < x.cps.size
  · refine .inr ⟨hlt, Pv (i + 1), fun H' p' => ⟨_, Nat.sub_lt_sub_left hlt (Nat.lt_succ_self i), rfl, hlt, p'⟩, fun v H' y => ?_⟩
    obtain ⟨rfl, c, hc, rfl⟩ := y
    exact hs i c _ hc p
  · have e : i = x.cps.size := by omega
    subst e
    exact .inl ⟨Nat.le_refl _, hd H p⟩
section
variable {P : Program} {w : World} {K : PySem.W.Frag} {mg : Str → Option Value} {base : Heap}

/-! ### bytes_of -/
abbrev sBytesOf : Stmt := topS 44
theorem scBytesOf : FnScope ["letters", "letter"] ["letters"] (defScope sBytesOf) := ⟨rfl, rfl, rfl, by decide +kernel, rfl, by decide +kernel, by decide +kernel⟩
/-- the signs of a text as numbers -/
def cV (z : Str) : List V := z.cps.toList.map fun (c : Nat) => V.int (c : Int)
def spBytesOf : Sp := fun vs H Q _ => ∃ z : Str, vs = [.str z] ∧ z.cps.size < sizeLine ∧ ∀ p, H p = none → Q (.ref p) (upd H p (.lst (cV z)))
theorem cV_take {z : Str} {i c : Nat} (h : z.cps[i]? = some c) : (cV z).take (i + 1) = (cV z).take i ++ [V.int (c : Int)] := by
  have h' : (cV z)[i]? = some (V.int (c : Int)) := by
    unfold cV
    rw [List.getElem?_map, Array.getElem?_toList, h]
    rfl
  rw [List.take_add_one, h']
  rfl
theorem okBytesOf (D : Df K mg "bytes_of" sBytesOf ["letters"]) (B : Blt mg) : Ok P w K mg base CX0 1 "bytes_of" ["letters"] spBytesOf := by
  refine D.ok fun f fd F => F.ok scBytesOf (fun vs H Q E h => ?_) (fun cdv A outer s H vs Q E hr h => ?_)
  · obtain ⟨z, rfl, _⟩ := h
    rfl
  obtain ⟨z, rfl, hz, hQ⟩ := h
  refine ⟨_, pss_one (ps_ret (pe_lc (own := [("letter", 1)]) (g := gName 1) (tt := tYes) rfl scBytesOf.nd (pi_str (pv 0)) (blkOk_by (N := ["letters", "letter"]) (sc := defScope sBytesOf) (by decide +kernel))
    (fun _ _ _ _ _ => pg_name (i := 1) scBytesOf.nd rfl (Or.inl rfl)) (fun _ _ _ _ _ => pts_nil) (fun _ _ _ _ _ => pe_callB call_ord (by rfl) B.ord (by decide +kernel) (pa_cons (pv 1) pa_nil)))), ?_⟩
  refine ⟨_, rfl, z, rfl, fun L hL => lc_text (fun i H' => H' = upd H L (.lst ((cV z).take i))) rfl ?_ ?_⟩
  · rintro i c H' hc rfl
    refine ⟨rfl, ?_⟩
    refine ⟨_, rfl, _, rfl, rfl, _, upd_same, ?_, ?_⟩
    · refine Nat.lt_of_le_of_lt (List.length_take_le' _ _) ?_
      unfold cV
      rw [List.length_map, Array.length_toList]
      exact hz
    · rw [upd_upd, cV_take hc]
      rfl
  · rintro H' rfl
    have e : (cV z).take z.cps.size = cV z := List.take_of_length_le (by unfold cV; rw [List.length_map, Array.length_toList]; exact Nat.le_refl _)
    rw [e]
    exact hQ L hL

/-! ### value_of -/
abbrev sValueOf : Stmt := topS 51
theorem scValueOf : FnScope ["digits", "value", "digit"] ["digits"] (defScope sValueOf) := ⟨rfl, rfl, rfl, by decide +kernel, rfl, by decide +kernel, by decide +kernel⟩
def spValueOf (K : PySem.W.Frag) : Sp := fun vs H Q _ => ∃ (a : Addr) (l : By), vs = [.ref a] ∧ SqL K H a (bV l) ∧ (∀ c ∈ l, isDigit c = true) ∧ l.length ≤ 10 ∧ Q (.int (decI 0 l)) H
theorem decI_take {l : By} {i : Nat} {c : UInt8} (h : l[i]? = some c) : decI 0 (l.take (i + 1)) = decI 0 (l.take i) * 10 + (c.toNat : Int) - 48 := by
  rw [List.take_add_one, h]
  unfold decI
  rw [List.foldl_append]
  rfl
theorem bV_inv {b : By} {i : Nat} {v : V} (h : (bV b)[i]? = some v) : ∃ c, b[i]? = some c ∧ v = .int (c.toNat : Int) := by
  unfold bV at h
  rw [List.getElem?_map] at h
  obtain ⟨c, hc, e⟩ := Option.map_eq_some_iff.mp h
  exact ⟨c, hc, e.symm⟩
theorem okValueOf (D : Df K mg "value_of" sValueOf ["digits"]) (C : Cst mg) : Ok P w K mg base CX0 1 "value_of" ["digits"] (spValueOf K) := by
  refine D.ok fun f fd F => F.ok scValueOf (fun vs H Q E h => ?_) (fun cdv A outer s H vs Q E hr h => ?_)
  · obtain ⟨a, l, rfl, _⟩ := h
    rfl
  obtain ⟨a, l, rfl, hS, hd, hl, hQ⟩ := h
  refine ⟨_, pss_cons (ps_set (i := 1) scValueOf.nd rfl (.inl rfl) pe_int)
    (pss_cons (ps_for PassesOwn.never rfl (pi_list (pv 0)) (pg_name (i := 2) scValueOf.nd rfl (.inl rfl))
      (pss_one (ps_set (i := 1) scValueOf.nd rfl (.inl rfl) (pe_op op_sub (pe_op op_add (pe_op op_mul (pv 1) pe_int) (pv 2)) (pe_gi C.DIGIT_ZERO rfl)))))
    (pss_one (ps_ret (pv 1)))), ?_⟩
  refine ⟨_, rfl, a, rfl, ⟨_, hS⟩, for_list (K := K) (a := a) (xs := bV l) (fun i σ H' => H' = H ∧ ∃ v : Option V, σ = [some (.ref a), some (.int (decI 0 (l.take i))), v]) ⟨rfl, none, rfl⟩ (fun i σ H' _ ⟨e, _⟩ => by rw [e]; exact hS) ?_ ?_⟩
  · rintro i y σ H' hi ⟨rfl, v, rfl⟩
    obtain ⟨c, hc, rfl⟩ := bV_inv hi
    have hb := decI_bound (l.take i) 0 0 (fun d hm => hd d (List.mem_of_mem_take hm)) (Int.le_refl 0) (by decide)
    have h10 : (10 : Int) ^ (0 + (l.take i).length) ≤ 10 ^ 10 := by
      have hle : 0 + (l.take i).length ≤ 10 := by rw [List.length_take]; omega
      have := Nat.pow_le_pow_right (n := 10) (by decide) hle
      exact_mod_cast this
    refine ⟨_, rfl, _, _, rfl, rfl, .inl ⟨?_, ?_⟩, ?_⟩
    · have := hb.1; omega
    · have := hb.2; omega
    refine ⟨_, rfl, _, _, rfl, rfl, _, _, rfl, rfl, rfl, ?_⟩
    refine ⟨some (.int (c.toNat : Int)), ?_⟩
    rw [decI_take hc]
    rfl
  · rintro σ H' ⟨rfl, v, rfl⟩
    refine ⟨_, rfl, ?_⟩
    rw [bV_len, List.take_length]
    exact hQ

/-! ### kind_of_word -/
abbrev sKindOfWord : Stmt := topS 50
theorem scKindOfWord : FnScope ["said", "word"] ["said"] (defScope sKindOfWord) := ⟨rfl, rfl, rfl, by decide +kernel, rfl, by decide +kernel, by decide +kernel⟩
def kdStr : Kd → Str
  | .columns => "columns" | .row => "row" | .ask => "ask" | .times => "times" | .name => "name" | .number => "number"
  | .comma => "," | .colon => ":" | .semi => ";" | .dash => "-" | .fin => "end" | .other => "?"
theorem kdStr_inj : ∀ {a b : Kd}, kdStr a = kdStr b → a = b := by
  intro a b h
  have : ∀ a b : Kd, decide (kdStr a = kdStr b) = true → a = b := by
    intro a b
    cases a <;> cases b <;> first | (intro _; rfl) | (intro h; exact absurd h (by decide +kernel))
  exact this a b (decide_eq_true h)
/-- whole numbers as data -/
def pdI (l : List Int) : List PyData := l.map PyData.int
theorem eqvAll_ints : ∀ l m : List Int, PyData.eqvAll (pdI l) (pdI m) = decide (l = m)
  | [], [] => rfl
  | [], _ :: _ => rfl
  | _ :: _, [] => rfl
  | x :: l, y :: m => by
    show ((x == y) && PyData.eqvAll (pdI l) (pdI m)) = decide (x :: l = y :: m)
    rw [eqvAll_ints l m, Bool.eq_iff_iff]
    simp
theorem shaped_ints (l : List Int) : SeqAt.shaped (.list (pdI l)) = true := by
  have h1 : ∀ l : List Int, PyData.canLayAll0 (pdI l) = true := by
    intro l
    induction l with
    | nil => rfl
    | cons x l ih => exact ih
  have h2 : ∀ l : List Int, PyData.depthAll (pdI l) = 0 := by
    intro l
    induction l with
    | nil => rfl
    | cons x l ih =>
      show max 0 (PyData.depthAll (pdI l)) = 0
      rw [ih]
      rfl
  unfold SeqAt.shaped
  show (PyData.canLayAll0 (pdI l) && decide (PyData.depthAll (pdI l) + 1 ≤ 64)) = true
  rw [h1, h2]
  rfl
theorem dp_ints {K : PySem.W.Frag} {H : Hp} : ∀ l : List Int, DpAll K H (l.map V.int) (pdI l)
  | [] => .nil
  | x :: l => .cons (.int x) (dp_ints l)
theorem dp_list {K : PySem.W.Frag} {H : Hp} {a : Addr} {l : List Int} (h : SqL K H a (l.map V.int)) : Dp K H (.ref a) (.list (pdI l)) := .lst h (dp_ints l)
def bI (b : By) : List Int := b.map fun c => (c.toNat : Int)
theorem bV_eq (b : By) : bV b = (bI b).map V.int := by
  unfold bV bI
  rw [List.map_map]
  rfl
theorem bI_inj : ∀ {a b : By}, bI a = bI b → a = b
  | [], [], _ => rfl
  | [], _ :: _, h => by cases h
  | _ :: _, [], h => by cases h
  | x :: a, y :: b, h => by
    have h := List.cons.inj h
    rw [UInt8.toNat_inj.mp (Int.ofNat.inj h.1), bI_inj (a := a) (b := b) h.2]
def wordsV : List V := [.str "columns", .str "row", .str "ask", .str "times"]
def wordsK : List (Kd × String) := [(.columns, "columns"), (.row, "row"), (.ask, "ask"), (.times, "times")]
def spKindOfWord (K : PySem.W.Frag) : Sp := fun vs H Q _ => ∃ (a : Addr) (u : By), vs = [.ref a] ∧ SqL K H a (bV u) ∧ ∀ H', Same H H' → Q (.str (kdStr (kdW u))) H'
/-- one word of the four -/
theorem word_at {i : Nat} {v : V} (h : wordsV[i]? = some v) : ∃ (k : Kd) (s : String) (z : Str), wordsK[i]? = some (k, s) ∧ v = .str z ∧ z = kdStr k ∧ z.cps.size < sizeLine ∧ cV z = bV (VamvsBase.word s) ∧ (∀ u : By, u = VamvsBase.word s → kdW u = k) := by
  match i, h with
  | 0, h => cases h; exact ⟨.columns, "columns", _, rfl, rfl, rfl, by decide +kernel, by decide +kernel, fun u e => kdW_columns.mpr e⟩
  | 1, h => cases h; exact ⟨.row, "row", _, rfl, rfl, rfl, by decide +kernel, by decide +kernel, fun u e => kdW_row.mpr e⟩
  | 2, h => cases h; exact ⟨.ask, "ask", _, rfl, rfl, rfl, by decide +kernel, by decide +kernel, fun u e => kdW_ask.mpr e⟩
  | 3, h => cases h; exact ⟨.times, "times", _, rfl, rfl, rfl, by decide +kernel, by decide +kernel, fun u e => kdW_times.mpr e⟩
  | n + 4, h => cases h
theorem okKindOfWord {aW : Addr} (D : Df K mg "kind_of_word" sKindOfWord ["said"]) (G : GT K mg "WORDS" wordsV aW) (O : Ok P w K mg base CX0 1 "bytes_of" ["letters"] spBytesOf) : Ok P w K mg base CX0 2 "kind_of_word" ["said"] (spKindOfWord K) := by
  refine D.ok fun f fd F => F.ok scKindOfWord (fun vs H Q E h => ?_) (fun cdv A outer s H vs Q E hr h => ?_)
  · obtain ⟨a, u, rfl, _⟩ := h
    rfl
  obtain ⟨a, u, rfl, hS, hQ⟩ := h
  refine ⟨_, pss_cons (ps_for PassesOwn.never rfl (pi_tup (pe_gt G rfl)) (pg_name (i := 1) scKindOfWord.nd rfl (.inl rfl))
      (pss_one (ps_if (pt_cmpR (op_eqD hr.units) (pv 0) (pe_ok O hr (by decide) rfl pass0 (pa_cons (pv 1) pa_nil)) (nomark _)) (pss_one (ps_ret (pv 1))) pss_nil)))
    (pss_one (ps_ret pe_str)), ?_⟩
  refine ⟨aW, rfl, ⟨_, G.2 H⟩, for_tup (K := K) (a := aW) (xs := wordsV) (fun i σ H' => Same H H' ∧ (∃ v : Option V, σ = [some (.ref a), v]) ∧ ∀ j k s, j < i → wordsK[j]? = some (k, s) → u ≠ VamvsBase.word s) ⟨Same.refl _, ⟨none, rfl⟩, fun j k s hj => absurd hj (Nat.not_lt_zero _)⟩ (fun i σ H' _ _ => G.2 H') ?_ ?_⟩
  · rintro i v σ H' hi ⟨sm, ⟨v0, rfl⟩, hne⟩
    obtain ⟨k, s, z, hk, rfl, ez, hz, hc, hu⟩ := word_at hi
    refine ⟨_, rfl, _, rfl, z, rfl, hz, fun p hp => ?_⟩
    have hS1 : SqL K (upd H' p (.lst (cV z))) a (bV u) := (same_new hp).seq (sm.seq hS)
    rw [bV_eq] at hS1
    have hS2 : SqL K (upd H' p (.lst (cV z))) p ((bI (VamvsBase.word s)).map V.int) := by
      rw [hc, bV_eq]
      exact SqL.of upd_same
    refine ⟨_, _, dp_list hS1, dp_list hS2, shaped_ints _, shaped_ints _, _, rfl, ite2 (fun h1 => ?_) fun h1 => ?_⟩
    · have e : bI u = bI (VamvsBase.word s) := by
        have h1 : PyData.eqvAll (pdI (bI u)) (pdI (bI (VamvsBase.word s))) = true := h1
        rw [eqvAll_ints] at h1
        exact of_decide_eq_true h1
      refine ⟨_, rfl, ?_⟩
      have e2 := hu u (bI_inj e)
      rw [ez, ← e2]
      exact hQ _ (sm.trans (same_new hp))
    · refine ⟨sm.trans (same_new hp), ⟨_, rfl⟩, fun j k' s' hj hjk => ?_⟩
      by_cases hji : j = i
      · subst hji
        rw [hk] at hjk
        cases hjk
        intro z'
        refine h1 ?_
        show PyData.eqvAll (pdI (bI u)) (pdI (bI (VamvsBase.word s))) = true
        rw [eqvAll_ints, z']
        exact decide_eq_true rfl
      · exact hne j k' s' (by omega) hjk
  · rintro σ H' ⟨sm, ⟨v0, rfl⟩, hne⟩
    have e : kdW u = .name := by
      unfold kdW
      rw [if_neg (hne 0 _ _ (by decide) rfl), if_neg (hne 1 _ _ (by decide) rfl), if_neg (hne 2 _ _ (by decide) rfl), if_neg (hne 3 _ _ (by decide) rfl)]
    have q := hQ H' sm
    rw [e] at q
    exact q
end
end Kg
namespace Kg
open PySem PySem.Spec PyProof.Rows L2
open VamvsBase (isLetter isDigit isBlank PTok Toks)

/-- where the classes and tables of the program's text stand -/
structure Ads where
  F : Addr
  T : Addr
  C : Addr
  L : Addr
  Q : Addr
  B : Addr
  H : Addr
  blanks : Addr
  words : Addr
/-- what is known of them -/
structure Tx (P : Program) (w : World) (K : PySem.W.Frag) (mg : Str → Option Value) (base : Heap) (z : Ads) : Prop where
  blt : Blt mg
  cst : Cst mg
  flt : Fl P w K mg base z.F
  tok : Mkc P w K mg base "Token" z.T ["kind", "said", "place", "behind"] ["kind", "said", "place", "behind"] fsTok
  cur : Mkc P w K mg base "Cursor" z.C ["tokens"] ["tokens", "position"] fsCur
  lin : Mkc P w K mg base "Line" z.L ["numbers", "amount", "count"] ["numbers", "amount", "count"] fsLine
  que : Mkc P w K mg base "Question" z.Q ["grouping", "times"] ["grouping", "times"] fsQue
  blanks : GT K mg "BLANKS" [.int 32, .int 9, .int 10] z.blanks
  words : GT K mg "WORDS" wordsV z.words
  signs : GD P w K mg "SIGNS" kvSigns
/-- a fault is let out: its class, its code and place; what stood, stands -/
def Flies (C : Addr) (c p : Nat) (fr : Hp → Prop) (E : XK) : Prop := ∀ d H', fr H' → H' d = some (.xd (fFs c p)) → E (.ref C) (some d) H'
theorem Flies.use {C : Addr} {c p : Nat} {fr : Hp → Prop} {E : XK} {H : Hp} (h : Flies C c p fr E) (hf : ∀ d, H d = none → fr (upd H d (.xd (fFs c p)))) :
    ([V.int c, V.int p] : List V).length ≤ 1000 ∧ ∀ a, H a = none → spFaultInit C (.ref a :: ([V.int c, V.int p] ++ [])) (upd H a (exo a C none))
      (fun v H2 => v = .non ∧ ∃ (d : Addr) (fs : List (Str × V)), H2 a = some (exo a C (some d)) ∧ H2 d = some (exd d fs) ∧ H d = none ∧ E (.ref C) (some d) (upd (del H2 a) d (.xd fs))) (fun _ _ _ => False) :=
  flt_read fun d nd => h d _ (hf d nd) upd_same
/-- what a token says, as a value -/
def SaidOk (K : PySem.W.Frag) (H : Hp) (v : V) : VamvsBase.Tok → Prop
  | .name u => u ≠ [] ∧ ∃ a, v = .ref a ∧ H a = some (.lst (bV u))
  | .num n => v = .int (n : Int)
  | _ => True
def IsTok (K : PySem.W.Frag) (C : Addr) (H : Hp) (r : Addr) (t : PTok) (beh : V) : Prop := ∃ said, SaidOk K H said t.tok ∧ At C H r (fsTok [.str (kdStr (kd t.tok)), said, .int (t.place : Int), beh])
theorem SaidOk.mono {K : PySem.W.Frag} {H H' : Hp} {v : V} {t : VamvsBase.Tok} (s : Same H H') (h : SaidOk K H v t) : SaidOk K H' v t := by
  cases t with
  | name u => obtain ⟨n, a, e, q⟩ := h; exact ⟨n, a, e, s _ _ q⟩
  | num n => exact h
  | sign c => exact h
  | last => exact h
theorem IsTok.mono {K : PySem.W.Frag} {C : Addr} {H H' : Hp} {r : Addr} {t : PTok} {b : V} (s : Same H H') (h : IsTok K C H r t b) : IsTok K C H' r t b := by
  obtain ⟨v, h1, dx, h2⟩ := h
  exact ⟨v, h1.mono s, dx, s _ _ h2⟩
section
variable {P : Program} {w : World} {K : PySem.W.Frag} {mg : Str → Option Value} {base : Heap} {z : Ads}

/-! ### word_at -/
abbrev sWordAt : Stmt := topS 48
theorem scWordAt : FnScope ["text", "place", "behind", "said"] ["text", "place"] (defScope sWordAt) := ⟨rfl, rfl, rfl, by decide +kernel, rfl, by decide +kernel, by decide +kernel⟩
/-- the token that begins at p -/
def spTok (K : PySem.W.Frag) (z : Ads) (pre : UInt8 → Prop) : Sp := fun vs H Q E => ∃ (a : Addr) (b : By) (p : Nat) (c : UInt8), vs = [.ref a, .int (p : Int)] ∧ SqL K H a (bV b) ∧ b[p]? = some c ∧ pre c ∧
  match VamvsBase.token (b.drop p) with
  | none => Flies z.F 2 p (Same H) E
  | some (t, n) => ∀ r H', Same H H' → IsTok K z.T H' r ⟨p, t⟩ (.int ((p + n : Nat) : Int)) → Q (.ref r) H'
theorem bV_cut {b : By} {p q : Nat} (hp : p ≤ q) (hq : q ≤ b.length) : cutV (bV b) (some (p : Int)) (some (q : Int)) = bV ((b.drop p).take (q - p)) := by
  unfold cutV
  have e1 : HT.sIx (bV b).length 0 (some (p : Int)) = p := by
    rw [HT.sIx_nat, bV_len]
    omega
  have e2 : HT.sIx (bV b).length (bV b).length (some (q : Int)) = q := by
    rw [HT.sIx_nat, bV_len]
    omega
  rw [e1, e2]
  unfold bV
  rw [List.map_take, List.map_drop]
theorem okWordAt (D : Df K mg "word_at" sWordAt ["text", "place"]) (T : Tx P w K mg base z) (O1 : Ok P w K mg base CX0 1 "is_letter" ["byte"] (spByte isLetter)) (O2 : Ok P w K mg base CX0 1 "is_digit" ["byte"] (spByte isDigit))
    (O3 : Ok P w K mg base CX0 2 "kind_of_word" ["said"] (spKindOfWord K)) : Ok P w K mg base (L2.CX P w) 3 "word_at" ["text", "place"] (spTok K z fun c => isLetter c = true) := by
  refine D.ok fun f fd F => F.okX scWordAt (fun vs H Q E h => ?_) (fun cdv A outer s H vs Q E hr h => ?_)
  · obtain ⟨a, b, p, c, rfl, _⟩ := h
    rfl
  obtain ⟨a, b, p, c, rfl, hS, hc, hl, hQ⟩ := h
  refine ⟨_, pss_cons (ps_set (i := 2) scWordAt.nd rfl (.inl rfl) (pv 1))
    (pss_cons (ps_while (passes_of rfl)
      (PW.pt (pw_and (pt_cmpR op_lt (pv 2) (pe_callB call_len_seq (by rfl) T.blt.len PySem.boot_len (pa_cons (pv 0) pa_nil)) (nomark _))
        (pw_and1 (PW.pt (pw_or (pt_val (pe_ok O1 hr (by decide) rfl pass0 (pa_cons (pe_ix ix_list (pv 0) (pv 2) (fun _ _ => rfl)) pa_nil)))
          (pw_or1 (pt_val (pe_ok O2 hr (by decide) rfl pass0 (pa_cons (pe_ix ix_list (pv 0) (pv 2) (fun _ _ => rfl)) pa_nil)))))))))
      (pss_one (ps_aug (i := 2) scWordAt.nd rfl (.inl rfl) pe_int ip_add)))
    (pss_cons (ps_if (pt_cmpR op_gt (pe_op op_sub (pv 2) (pv 1)) (pe_gi T.cst.LONGEST_NAME rfl) (nomark _))
      (pss_one (ps_flt T.flt rfl hr (takes_of rfl rfl rfl rfl) (pa_cons (pe_gi T.cst.NO_TOKEN rfl) (pa_cons (pv 1) pa_nil)))) pss_nil)
    (pss_cons (ps_set (i := 3) scWordAt.nd rfl (.inl rfl) (pe_slice sl_list (pv 0) (po_some (pv 1)) (po_some (pv 2))))
    (pss_one (ps_ret (pe_mkc T.tok hr (by decide) rfl (pa_cons (pe_ok O3 hr (by decide) rfl pass0 (pa_cons (pv 3) pa_nil)) (pa_cons (pv 3) (pa_cons (pv 1) (pa_cons (pv 2) pa_nil)))))))))), ?_⟩
  rw [token_letter hc hl] at hQ
  have hpl : p < b.length := (List.getElem?_eq_some_iff.mp hc).1
  have hne : (b.drop p).takeWhile wordB ≠ [] := by
    rw [drop_at hc, List.takeWhile_cons]
    unfold wordB
    rw [hl]
    simp
  refine ⟨_, rfl, ?_⟩
  have after : ∀ q : Nat, q = runEnd wordB b p → tSeq (tIfS (tTest (tOp (rI0 fun i j => .bl (decide (j < i))) (tOp (rI0 fun i j => .int (i - j)) (tVar 2) (tVar 1)) (tC (.int 16)))) (tRaiseF z.F (fun cls d _ H => E cls d H) (tCons (tC (.int 2)) (tCons (tVar 1) tNil))) tNext)
      (tSeq (tAsg (tSl (rSlL K) (tVar 0) (tPart (tVar 1)) (tPart (tVar 2))) (gName 3)) (tRet (tMake z.T (spInit z.T fsTok 4) [] E0 (tCons (tCall (spKindOfWord K) [] (fun _ _ _ => False) (tCons (tVar 3) tNil)) (tCons (tVar 3) (tCons (tVar 1) (tCons (tVar 2) tNil)))))))
      { nx := fun _ H' => Q .non H', rt := Q } [some (.ref a), some (.int (p : Int)), some (.int (q : Int)), none] H := by
    intro q hq
    have hlen : ((b.drop p).takeWhile wordB).length = q - p := by rw [hq]; unfold runEnd; omega
    have hge : p ≤ q := by rw [hq]; exact runEnd_ge
    have hle : q ≤ b.length := by rw [hq]; exact runEnd_le (Nat.le_of_lt hpl)
    refine ⟨_, rfl, _, rfl, _, _, rfl, rfl, _, _, rfl, rfl, _, rfl, ite2 (fun h1 => ?_) fun h1 => ?_⟩
    · have h1 := of_decide_eq_true h1
      rw [if_pos (by omega)] at hQ
      exact ⟨_, rfl, hQ.use fun d nd => same_new nd⟩
    · have h1 := of_decide_eq_false (Bool.eq_false_iff.mpr h1)
      rw [if_neg (by omega)] at hQ
      refine ⟨_, rfl, _, rfl, _, rfl, _, rfl, _, rfl, _, _, rfl, hS, fun u hu => ?_⟩
      rw [bV_cut hge hle, hq, runEnd_cut]
      refine ⟨_, rfl, u, _, rfl, SqL.of upd_same, fun H2 s2 => ?_⟩
      refine ⟨_, rfl, _, rfl, _, rfl, made rfl fun r H3 n3 s3 a3 => ?_⟩
      have hs : Same H H3 := ((same_new hu).trans s2).trans s3
      refine hQ r H3 hs ⟨_, ⟨hne, u, rfl, s3 _ _ (s2 _ _ upd_same)⟩, ?_⟩
      rw [hlen]
      have e : p + (q - p) = q := by omega
      rw [e]
      rw [hq]
      exact a3
  refine ⟨fun n σ H' => H' = H ∧ ∃ q : Nat, σ = [some (.ref a), some (.int (p : Int)), some (.int (q : Int)), none] ∧ q ≤ b.length ∧ runEnd wordB b q = runEnd wordB b p ∧ n = b.length - q, ⟨_, rfl, p, rfl, Nat.le_of_lt hpl, rfl, rfl⟩, ?_⟩
  rintro n σ H' ⟨rfl, q, rfl, hq, he, rfl⟩
  refine ⟨_, rfl, _, rfl, _, _, rfl, .inl hS, _, _, rfl, rfl, _, rfl, ite2 (fun h1 => ?_) fun h1 => ?_⟩
  · have hl : q < b.length := by
      have z := of_decide_eq_true h1
      rw [bV_len] at z
      omega
    obtain ⟨c, hc⟩ : ∃ c, b[q]? = some c := ⟨_, List.getElem?_eq_getElem hl⟩
    have step : wordB c = true → ∃ m', m' < b.length - q ∧ (H' = H' ∧ ∃ q' : Nat, [some (V.ref a), some (V.int (p : Int)), some (V.int ((q : Int) + 1)), none] = [some (V.ref a), some (V.int (p : Int)), some (V.int (q' : Int)), none] ∧ q' ≤ b.length ∧ runEnd wordB b q' = runEnd wordB b p ∧ m' = b.length - q') := fun hw =>
      ⟨b.length - (q + 1), by omega, rfl, q + 1, by rw [show ((q : Int) + 1) = ((q + 1 : Nat) : Int) from by omega], hl, (runEnd_more hc hw).symm.trans he, rfl⟩
    refine ⟨_, rfl, _, rfl, _, _, _, _, rfl, rfl, hS, at_of rfl (bV_at hc), c, rfl, _, rfl, ite2 (fun h2 => ?_) fun h2 => ?_⟩
    · refine ⟨_, fun _ _ h => h, ?_⟩
      exact ⟨_, rfl, _, _, rfl, rfl, step (by unfold wordB; rw [h2]; rfl)⟩
    · refine ⟨_, rfl, _, rfl, _, _, _, _, rfl, rfl, hS, at_of rfl (bV_at hc), c, rfl, _, rfl, ite2 (fun h3 => ?_) fun h3 => ?_⟩
      · refine ⟨_, fun _ _ h => h, ?_⟩
        exact ⟨_, rfl, _, _, rfl, rfl, step (by unfold wordB; rw [h3, Bool.or_true])⟩
      · refine after q ?_
        rw [← he]
        refine (runEnd_here hc ?_).symm
        unfold wordB
        rw [Bool.eq_false_iff.mpr h2, Bool.eq_false_iff.mpr h3]
        rfl
  · have z := of_decide_eq_false (Bool.eq_false_iff.mpr h1)
    rw [bV_len] at z
    have e : q = b.length := by omega
    refine iteF (after q ?_)
    rw [← he, e, runEnd_end (Nat.le_refl _)]
end
end Kg
namespace Kg
open PySem PySem.Spec PyProof.Rows L2
open VamvsBase (isLetter isDigit isBlank PTok Toks)
/-- what comes behind two ways at once, told by the first that asks for it -/
theorem later {α : Type} {p : α → Prop} {T : α → Prop} {G : Prop} (main : (∀ q, p q → T q) → G) (after : ∀ q, p q → T q) : G := main after
theorem later0 {c T G : Prop} (main : (c → T) → G) (after : c → T) : G := main after
theorem signs_view (c : UInt8) : (VamvsBase.SIGNS.contains c = true ∧ valV kvSigns (Sum.inl (c.toNat : Int)) = some (.str (kdStr (kd (.sign c.toNat))))) ∨ (VamvsBase.SIGNS.contains c = false ∧ valV kvSigns (Sum.inl (c.toNat : Int)) = none) := by
  by_cases h1 : c = 44
  · subst h1; exact .inl ⟨rfl, rfl⟩
  by_cases h2 : c = 58
  · subst h2; exact .inl ⟨rfl, rfl⟩
  by_cases h3 : c = 59
  · subst h3; exact .inl ⟨rfl, rfl⟩
  by_cases h4 : c = 45
  · subst h4; exact .inl ⟨rfl, rfl⟩
  refine .inr ⟨?_, ?_⟩
  · unfold VamvsBase.SIGNS
    simp [h1, h2, h3, h4]
  · have ne : ∀ n : Nat, n < 256 → c ≠ UInt8.ofNat n → ¬ (Sum.inl (n : Int) : Key) = Sum.inl (c.toNat : Int) := fun n hn hc e => hc ((u8_eq hn).mp (Sum.inl.inj e).symm)
    unfold kvSigns
    rw [valV_neg (ne 44 (by decide) h1), valV_neg (ne 58 (by decide) h2), valV_neg (ne 59 (by decide) h3), valV_neg (ne 45 (by decide) h4), valV_nil]
section
variable {P : Program} {w : World} {K : PySem.W.Frag} {mg : Str → Option Value} {base : Heap} {z : Ads}

/-! ### number_at -/
abbrev sNumberAt : Stmt := topS 49
theorem scNumberAt : FnScope ["text", "place", "behind", "digits", "said"] ["text", "place"] (defScope sNumberAt) := ⟨rfl, rfl, rfl, by decide +kernel, rfl, by decide +kernel, by decide +kernel⟩
theorem okNumberAt (D : Df K mg "number_at" sNumberAt ["text", "place"]) (T : Tx P w K mg base z) (O2 : Ok P w K mg base CX0 1 "is_digit" ["byte"] (spByte isDigit))
    (O3 : Ok P w K mg base CX0 1 "value_of" ["digits"] (spValueOf K)) : Ok P w K mg base (L2.CX P w) 3 "number_at" ["text", "place"] (spTok K z fun c => isLetter c = false ∧ isDigit c = true) := by
  refine D.ok fun f fd F => F.okX scNumberAt (fun vs H Q E h => ?_) (fun cdv A outer s H vs Q E hr h => ?_)
  · obtain ⟨a, b, p, c, rfl, _⟩ := h
    rfl
  obtain ⟨a, b, p, c, rfl, hS, hc, ⟨hl0, hl⟩, hQ⟩ := h
  refine ⟨_, pss_cons (ps_set (i := 2) scNumberAt.nd rfl (.inl rfl) (pv 1))
    <| pss_cons (ps_while (passes_of rfl)
      (PW.pt (pw_and (pt_cmpR op_lt (pv 2) (pe_callB call_len_seq (by rfl) T.blt.len PySem.boot_len (pa_cons (pv 0) pa_nil)) (nomark _))
        (pw_and1 (pt_val (pe_ok O2 hr (by decide) rfl pass0 (pa_cons (pe_ix ix_list (pv 0) (pv 2) (fun _ _ => rfl)) pa_nil))))))
      (pss_one (ps_aug (i := 2) scNumberAt.nd rfl (.inl rfl) pe_int ip_add)))
    <| pss_cons (ps_set (i := 3) scNumberAt.nd rfl (.inl rfl) (pe_slice sl_list (pv 0) (po_some (pv 1)) (po_some (pv 2))))
    <| pss_cons (ps_if (PW.pt (pw_or (pt_cmpR op_gt (pe_callB call_len_seq (by rfl) T.blt.len PySem.boot_len (pa_cons (pv 3) pa_nil)) (pe_gi T.cst.LONGEST_NUMBER rfl) (nomark _))
        (pw_or1 (PW.pt (pw_and (pt_cmpR op_gt (pe_callB call_len_seq (by rfl) T.blt.len PySem.boot_len (pa_cons (pv 3) pa_nil)) pe_int (nomark _))
          (pw_and1 (pt_cmpR op_eq (pe_ix ix_list (pv 3) pe_int (fun _ _ => rfl)) (pe_gi T.cst.DIGIT_ZERO rfl) (nomark _))))))))
      (pss_one (ps_flt T.flt rfl hr (takes_of rfl rfl rfl rfl) (pa_cons (pe_gi T.cst.NO_TOKEN rfl) (pa_cons (pv 1) pa_nil)))) pss_nil)
    <| pss_cons (ps_set (i := 4) scNumberAt.nd rfl (.inl rfl) (pe_ok O3 hr (by decide) rfl pass0 (pa_cons (pv 3) pa_nil)))
    <| pss_cons (ps_if (pt_cmpR op_gt (pv 4) (pe_gi T.cst.GREATEST_NUMBER rfl) (nomark _))
      (pss_one (ps_flt T.flt rfl hr (takes_of rfl rfl rfl rfl) (pa_cons (pe_gi T.cst.NO_TOKEN rfl) (pa_cons (pv 1) pa_nil)))) pss_nil)
    <| pss_one (ps_ret (pe_mkc T.tok hr (by decide) rfl (pa_cons pe_str (pa_cons (pv 4) (pa_cons (pv 1) (pa_cons (pv 2) pa_nil)))))), ?_⟩
  rw [token_digit hc hl0 hl] at hQ
  have hpl : p < b.length := (List.getElem?_eq_some_iff.mp hc).1
  refine ⟨_, rfl, ?_⟩
  refine' later (p := fun q => q = runEnd isDigit b p) (fun after => ?_) ?_; rotate_left
  · refine ⟨fun n σ H' => H = H' ∧ ∃ q : Nat, σ = [some (.ref a), some (.int (p : Int)), some (.int (q : Int)), none, none] ∧ q ≤ b.length ∧ runEnd isDigit b q = runEnd isDigit b p ∧ n = b.length - q, ⟨_, rfl, p, rfl, Nat.le_of_lt hpl, rfl, rfl⟩, ?_⟩
    rintro n σ H' ⟨rfl, q, rfl, hq, he, rfl⟩
    refine ⟨_, rfl, _, rfl, _, _, rfl, .inl hS, _, _, rfl, rfl, _, rfl, ite2 (fun h1 => ?_) fun h1 => ?_⟩
    · have hl : q < b.length := by
        have z := of_decide_eq_true h1
        rw [bV_len] at z
        omega
      obtain ⟨c, hc⟩ : ∃ c, b[q]? = some c := ⟨_, List.getElem?_eq_getElem hl⟩
      refine ⟨_, rfl, _, rfl, _, _, _, _, rfl, rfl, hS, at_of rfl (bV_at hc), c, rfl, _, rfl, ite2 (fun h2 => ?_) fun h2 => ?_⟩
      · refine ⟨_, fun _ _ h => h, ?_⟩
        exact ⟨_, rfl, _, _, rfl, rfl, b.length - (q + 1), by omega, rfl, q + 1, rfl, hl, (runEnd_more hc h2).symm.trans he, rfl⟩
      · refine after q ?_
        show q = runEnd isDigit b p
        rw [← he]
        exact (runEnd_here hc (Bool.eq_false_iff.mpr h2)).symm
    · have z := of_decide_eq_false (Bool.eq_false_iff.mpr h1)
      rw [bV_len] at z
      have e : q = b.length := by omega
      refine iteF (after q ?_)
      show q = runEnd isDigit b p
      rw [← he, e, runEnd_end (Nat.le_refl _)]
  rintro q hq
  have hq : q = runEnd isDigit b p := hq
  have hlen : ((b.drop p).takeWhile isDigit).length = q - p := by rw [hq]; unfold runEnd; omega
  have hge : p ≤ q := by rw [hq]; exact runEnd_ge
  have hle : q ≤ b.length := by rw [hq]; exact runEnd_le (Nat.le_of_lt hpl)
  have hne : (b.drop p).takeWhile isDigit ≠ [] := by
    rw [drop_at hc, List.takeWhile_cons, hl]
    simp
  have hcut : cutV (bV b) (some (p : Int)) (some (q : Int)) = bV ((b.drop p).takeWhile isDigit) := by rw [bV_cut hge hle, hq, runEnd_cut]
  generalize el : (b.drop p).takeWhile isDigit = l at hlen hcut hne hQ
  have hall : ∀ c ∈ l, isDigit c = true := by rw [← el]; exact tw_all _ _
  have bad : (10 < l.length ∨ (1 < l.length ∧ l.head? = some 48) ∨ VamvsBase.NUMBER < VamvsBase.decimal l) → Flies z.F 2 p (Same H) E := fun h => by
    unfold VamvsBase.numberOf at hQ
    rw [if_pos (.inr h)] at hQ
    exact hQ
  have good : ¬ (10 < l.length ∨ (1 < l.length ∧ l.head? = some 48) ∨ VamvsBase.NUMBER < VamvsBase.decimal l) → ∀ r H2, Same H H2 → IsTok K z.T H2 r ⟨p, .num (VamvsBase.decimal l)⟩ (.int ((p + l.length : Nat) : Int)) → Q (.ref r) H2 := fun h => by
    unfold VamvsBase.numberOf at hQ
    rw [if_neg (fun x => x.elim hne h)] at hQ
    exact hQ
  refine ⟨_, rfl, _, rfl, _, rfl, _, rfl, _, rfl, _, _, rfl, hS, fun u hu => ?_⟩
  rw [hcut]
  have hU : SqL K (upd H u (.lst (bV l))) u (bV l) := SqL.of upd_same
  refine' later0 (c := l.length ≤ 10 ∧ ¬ (1 < l.length ∧ l.head? = some 48)) (fun rest => ?_) ?_; rotate_left
  · refine ⟨_, rfl, _, _, rfl, .inl hU, _, _, rfl, rfl, _, rfl, ite2 (fun h1 => ?_) fun h1 => ?_⟩
    · have h1 := of_decide_eq_true h1
      rw [bV_len] at h1
      exact ⟨_, rfl, (bad (.inl (by omega))).use fun d nd => (same_new hu).trans (same_new nd)⟩
    · have h1 := of_decide_eq_false (Bool.eq_false_iff.mpr h1)
      rw [bV_len] at h1
      have h10 : l.length ≤ 10 := by omega
      refine ⟨_, rfl, _, _, rfl, .inl hU, _, _, rfl, rfl, _, rfl, ite2 (fun h2 => ?_) fun h2 => ?_⟩
      · have h2 := of_decide_eq_true h2
        rw [bV_len] at h2
        obtain ⟨c0, l', e0⟩ : ∃ c0 l', l = c0 :: l' := by
          cases l with
          | nil => exact absurd rfl hne
          | cons c0 l' => exact ⟨c0, l', rfl⟩
        have h0 : (bV l)[0]? = some (.int (c0.toNat : Int)) := by rw [e0]; rfl
        refine ⟨_, rfl, _, _, _, _, rfl, rfl, hU, at_of rfl h0, rfl, _, rfl, ite2 (fun h3 => ?_) fun h3 => ?_⟩
        · have e48 := (u8_eq (c := c0) (n := 48) (by decide)).mp (ieq h3)
          exact ⟨_, rfl, (bad (.inr (.inl ⟨by omega, by rw [e0, e48]; rfl⟩))).use fun d nd => (same_new hu).trans (same_new nd)⟩
        · refine rest ⟨h10, fun x => ine h3 ?_⟩
          have := x.2
          rw [e0] at this
          cases this
          rfl
      · have h2 := of_decide_eq_false (Bool.eq_false_iff.mpr h2)
        rw [bV_len] at h2
        exact iteF (rest ⟨h10, fun x => h2 (by omega)⟩)
  rintro ⟨h10, h2⟩
  refine ⟨_, rfl, _, l, rfl, hU, hall, h10, ?_⟩
  rw [decimal_eq hall]
  refine ⟨_, rfl, _, _, rfl, rfl, _, rfl, ite2 (fun h3 => ?_) fun h3 => ?_⟩
  · have h3 := of_decide_eq_true h3
    exact ⟨_, rfl, (bad (.inr (.inr (by show 1000000000 < _; omega)))).use fun d nd => (same_new hu).trans (same_new nd)⟩
  · have h3 := of_decide_eq_false (Bool.eq_false_iff.mpr h3)
    refine ⟨_, rfl, _, rfl, _, rfl, made rfl fun r H3 n3 s3 a3 => ?_⟩
    refine good (fun x => ?_) r H3 ((same_new hu).trans s3) ⟨_, rfl, ?_⟩
    · rcases x with x | x | x
      · omega
      · exact h2 x
      · have x : 1000000000 < VamvsBase.decimal l := x
        omega
    · rw [hlen]
      have e : p + (q - p) = q := by omega
      rw [e]
      exact a3

/-! ### token_at -/
abbrev sTokenAt : Stmt := topS 47
theorem scTokenAt : FnScope ["text", "place", "byte"] ["text", "place"] (defScope sTokenAt) := ⟨rfl, rfl, rfl, by decide +kernel, rfl, by decide +kernel, by decide +kernel⟩
theorem okTokenAt (D : Df K mg "token_at" sTokenAt ["text", "place"]) (T : Tx P w K mg base z) (O1 : Ok P w K mg base CX0 1 "is_letter" ["byte"] (spByte isLetter)) (O2 : Ok P w K mg base CX0 1 "is_digit" ["byte"] (spByte isDigit))
    (O3 : Ok P w K mg base (L2.CX P w) 3 "word_at" ["text", "place"] (spTok K z fun c => isLetter c = true)) (O4 : Ok P w K mg base (L2.CX P w) 3 "number_at" ["text", "place"] (spTok K z fun c => isLetter c = false ∧ isDigit c = true)) :
    Ok P w K mg base (L2.CX P w) 4 "token_at" ["text", "place"] (spTok K z fun _ => True) := by
  refine D.ok fun f fd F => F.okX scTokenAt (fun vs H Q E h => ?_) (fun cdv A outer s H vs Q E hr h => ?_)
  · obtain ⟨a, b, p, c, rfl, _⟩ := h
    rfl
  obtain ⟨a, b, p, c, rfl, hS, hc, -, hQ⟩ := h
  refine ⟨_, pss_cons (ps_set (i := 2) scTokenAt.nd rfl (.inl rfl) (pe_ix ix_list (pv 0) (pv 1) (fun _ _ => rfl)))
    <| pss_cons (ps_if (pt_val (pe_ok O1 hr (by decide) rfl pass0 (pa_cons (pv 2) pa_nil))) (pss_one (ps_ret (pe_ok O3 hr (by decide) rfl (E := E) (passes_call (takes_of rfl rfl rfl rfl) (fun _ _ _ _ h => h)) (pa_cons (pv 0) (pa_cons (pv 1) pa_nil))))) pss_nil)
    <| pss_cons (ps_if (pt_val (pe_ok O2 hr (by decide) rfl pass0 (pa_cons (pv 2) pa_nil))) (pss_one (ps_ret (pe_ok O4 hr (by decide) rfl (E := E) (passes_call (takes_of rfl rfl rfl rfl) (fun _ _ _ _ h => h)) (pa_cons (pv 0) (pa_cons (pv 1) pa_nil))))) pss_nil)
    <| pss_cons (ps_if (pt_cmp (pc_win T.signs rfl (pv 2))) (pss_one (ps_ret (pe_mkc T.tok hr (by decide) rfl (pa_cons (pe_wget T.signs rfl (pv 2) (fun _ _ => rfl)) (pa_cons pe_int (pa_cons (pv 1) (pa_cons (pe_op op_add (pv 1) pe_int) pa_nil))))))) pss_nil)
    <| pss_one (ps_flt T.flt rfl (hr.mono (by decide)) (takes_of rfl rfl rfl rfl) (pa_cons (pe_gi T.cst.NO_TOKEN rfl) (pa_cons (pv 1) pa_nil))), ?_⟩
  refine ⟨_, rfl, _, rfl, _, _, _, _, rfl, rfl, hS, at_of rfl (bV_at hc), ?_⟩
  refine ⟨_, rfl, c, rfl, _, rfl, ite2 (fun h1 => ?_) fun h1 => ?_⟩
  · exact ⟨_, rfl, _, rfl, a, b, p, c, rfl, hS, hc, h1, hQ⟩
  have h1 := Bool.eq_false_iff.mpr h1
  refine ⟨_, rfl, c, rfl, _, rfl, ite2 (fun h2 => ?_) fun h2 => ?_⟩
  · exact ⟨_, rfl, _, rfl, a, b, p, c, rfl, hS, hc, ⟨h1, h2⟩, hQ⟩
  have h2 := Bool.eq_false_iff.mpr h2
  rw [token_sign hc h1 h2] at hQ
  rcases signs_view c with ⟨e1, e2⟩ | ⟨e1, e2⟩
  · rw [if_pos e1] at hQ
    refine ⟨_, rfl, Sum.inl (c.toNat : Int), rfl, _, rfl, ite2 (fun h => ?_) fun h => absurd (by rw [e2]; rfl) h⟩
    refine ⟨_, rfl, Sum.inl (c.toNat : Int), _, rfl, e2, _, rfl, _, rfl, _, _, rfl, rfl, made rfl fun r H3 n3 s3 a3 => ?_⟩
    exact hQ r H3 s3 ⟨.int 0, True.intro, a3⟩
  · rw [if_neg (by rw [e1]; exact Bool.false_ne_true)] at hQ
    refine ⟨_, rfl, Sum.inl (c.toNat : Int), rfl, _, rfl, ite2 (fun h => absurd h (by rw [e2]; simp)) fun h => ?_⟩
    exact ⟨_, rfl, Flies.use hQ fun d nd => same_new nd⟩
end
end Kg
namespace Kg
open PySem PySem.Spec PyProof.Rows L2
open VamvsBase (isLetter isDigit isBlank PTok Toks)
/-- one by one -/
def Al {α β : Type} (F : α → β → Prop) (xs : List α) (ys : List β) : Prop := xs.length = ys.length ∧ ∀ (i : Nat) x y, xs[i]? = some x → ys[i]? = some y → F x y
theorem Al.nil {α β : Type} {F : α → β → Prop} : Al F [] [] := ⟨rfl, fun i x y h => by cases h⟩
theorem Al.mono {α β : Type} {F G : α → β → Prop} {xs : List α} {ys : List β} (h : Al F xs ys) (m : ∀ x y, F x y → G x y) : Al G xs ys := ⟨h.1, fun i x y a b => m _ _ (h.2 i x y a b)⟩
theorem Al.snoc {α β : Type} {F : α → β → Prop} {xs : List α} {ys : List β} {x : α} {y : β} (h : Al F xs ys) (f : F x y) : Al F (xs ++ [x]) (ys ++ [y]) := by
  refine ⟨by rw [List.length_append, List.length_append, h.1]; rfl, fun i a b ha hb => ?_⟩
  rcases Nat.lt_trichotomy i xs.length with c | c | c
  · rw [List.getElem?_append_left c] at ha
    rw [List.getElem?_append_left (by rw [← h.1]; exact c)] at hb
    exact h.2 i a b ha hb
  · rw [List.getElem?_append_right (by omega), show i - xs.length = 0 from by omega] at ha
    rw [List.getElem?_append_right (by rw [← h.1]; omega), show i - ys.length = 0 from by rw [← h.1]; omega] at hb
    cases ha
    cases hb
    exact f
  · rw [List.getElem?_eq_none (by rw [List.length_append, List.length_singleton]; omega)] at ha
    cases ha
theorem Al.at {α β : Type} {F : α → β → Prop} {xs : List α} {ys : List β} (h : Al F xs ys) {i : Nat} {y : β} (e : ys[i]? = some y) : ∃ x, xs[i]? = some x ∧ F x y := by
  have hl : i < xs.length := by rw [h.1]; exact (List.getElem?_eq_some_iff.mp e).1
  exact ⟨_, List.getElem?_eq_getElem hl, h.2 i _ _ (List.getElem?_eq_getElem hl) e⟩
theorem Al.at1 {α β : Type} {F : α → β → Prop} {xs : List α} {ys : List β} (h : Al F xs ys) {i : Nat} {x : α} (e : xs[i]? = some x) : ∃ y, ys[i]? = some y ∧ F x y := by
  have hl : i < ys.length := by rw [← h.1]; exact (List.getElem?_eq_some_iff.mp e).1
  exact ⟨_, List.getElem?_eq_getElem hl, h.2 i _ _ e (List.getElem?_eq_getElem hl)⟩
/-- lists of objects -/
def rV (rs : List Addr) : List V := rs.map V.ref
theorem rV_len (rs : List Addr) : (rV rs).length = rs.length := List.length_map ..
theorem rV_snoc (rs : List Addr) (r : Addr) : rV rs ++ [V.ref r] = rV (rs ++ [r]) := by unfold rV; rw [List.map_append]; rfl
theorem rV_at {rs : List Addr} {i : Nat} {r : Addr} (h : rs[i]? = some r) : (rV rs)[i]? = some (V.ref r) := by unfold rV; rw [List.getElem?_map, h]; rfl
theorem rV_inv {rs : List Addr} {i : Nat} {v : V} (h : (rV rs)[i]? = some v) : ∃ r, rs[i]? = some r ∧ v = .ref r := by
  unfold rV at h
  rw [List.getElem?_map] at h
  obtain ⟨c, hc, e⟩ := Option.map_eq_some_iff.mp h
  exact ⟨c, hc, e.symm⟩
theorem lst_ne {u : By} {rs : List Addr} (h : u ≠ []) : HO.lst (bV u) ≠ HO.lst (rV rs) := by
  intro e
  injection e with e
  cases u with
  | nil => exact h rfl
  | cons c u =>
    cases rs with
    | nil => cases e
    | cons r rs => cases e
theorem same_upd {H H' : Hp} {p : Addr} {o : HO} (s : Same H H') (h : H p = none) : Same H (upd H' p o) := fun b u e => by
  rw [upd_ne (ne_of_none e h)]
  exact s b u e
/-- a list of objects changes: tokens stand -/
theorem IsTok.but {K : PySem.W.Frag} {C : Addr} {H : Hp} {r l : Addr} {t : PTok} {b : V} {rs : List Addr} {o : HO} (hl : H l = some (.lst (rV rs))) (h : IsTok K C H r t b) : IsTok K C (upd H l o) r t b := by
  obtain ⟨v, h1, dx, h2⟩ := h
  refine ⟨v, ?_, dx, by rw [upd_ne (ne_of h2 hl (by intro z; cases z))]; exact h2⟩
  cases hk : t.tok with
  | name u =>
    rw [hk] at h1
    obtain ⟨n, a, e, q⟩ := h1
    exact ⟨n, a, e, by rw [upd_ne (ne_of q hl (lst_ne n))]; exact q⟩
  | num n => rw [hk] at h1; exact h1
  | sign c => exact True.intro
  | last => exact True.intro
theorem tokKind {a b c d : V} : List.lookup ("kind" : Str) (fsTok [a, b, c, d]) = some a := lk_here
theorem tokSaid {a b c d : V} : List.lookup ("said" : Str) (fsTok [a, b, c, d]) = some b := (lk_past (by decide +kernel)).trans lk_here
theorem tokPlace {a b c d : V} : List.lookup ("place" : Str) (fsTok [a, b, c, d]) = some c := (lk_past (by decide +kernel)).trans ((lk_past (by decide +kernel)).trans lk_here)
theorem tokBehind {a b c d : V} : List.lookup ("behind" : Str) (fsTok [a, b, c, d]) = some d := (lk_past (by decide +kernel)).trans ((lk_past (by decide +kernel)).trans ((lk_past (by decide +kernel)).trans lk_here))
/-- a token somewhere, its place behind left open -/
def IsTk (K : PySem.W.Frag) (C : Addr) (H : Hp) (r : Addr) (t : PTok) : Prop := ∃ b, IsTok K C H r t b
/-- the end of a making, whatever comes behind -/
theorem made2 {C : Addr} {fs : List V → List (Str × V)} {n : Nat} {H : Hp} {Q : Addr → Hp → Prop} {us : List V} (hn : us.length = n) (k : ∀ x H', H x = none → Same H H' → (∃ dx, H' x = some (.ins C dx (fs us))) → Q x H') :
    ∀ x dx, H x = none → H dx = none → dx ≠ x → spInit C fs n (.ref x :: (us ++ [])) (upd (upd H dx (.own x)) x (.ins C dx [])) (fun v H2 => v = .non ∧ Q x H2) E0 := by
  intro x dx nx nd ne
  exact made (Q := fun v H' => ∀ y, v = .ref y → Q y H') hn (fun y H' a b c y' e => by cases e; exact k y H' a b c) x dx nx nd ne |> fun ⟨p, dx', us', h1, h2, h3, h4, h5⟩ => ⟨p, dx', us', h1, h2, h3, h4, h5 _ rfl⟩
section
variable {P : Program} {w : World} {K : PySem.W.Frag} {mg : Str → Option Value} {base : Heap} {z : Ads}

/-! ### tokens_of -/
abbrev sTokensOf : Stmt := topS 43
theorem scTokensOf : FnScope ["text", "tokens", "place", "token"] ["text"] (defScope sTokensOf) := ⟨rfl, rfl, rfl, by decide +kernel, rfl, by decide +kernel, by decide +kernel⟩
def spTokens (K : PySem.W.Frag) (z : Ads) : Sp := fun vs H Q E => ∃ (a : Addr) (b : By), vs = [.ref a] ∧ SqL K H a (bV b) ∧ b.length ≤ 10000 ∧
  match lexF 0 b with
  | .error f => Flies z.F f.code f.place (Same H) E
  | .ok ts => ∀ l rs H', Same H H' → H l = none → H' l = some (.lst (rV rs)) → Al (IsTk K z.T H') rs ts → Q (.ref l) H'
theorem okTokensOf (D : Df K mg "tokens_of" sTokensOf ["text"]) (T : Tx P w K mg base z) (O1 : Ok P w K mg base CX0 2 "behind_blanks" ["text", "place"] (spBehindBlanks K)) (O2 : Ok P w K mg base (L2.CX P w) 4 "token_at" ["text", "place"] (spTok K z fun _ => True)) :
    Ok P w K mg base (L2.CX P w) 5 "tokens_of" ["text"] (spTokens K z) := by
  refine D.ok fun f fd F => F.okX scTokensOf (fun vs H Q E h => ?_) (fun cdv A outer s H vs Q E hr h => ?_)
  · obtain ⟨a, b, rfl, _⟩ := h
    rfl
  obtain ⟨a, b, rfl, hS, hb, hQ⟩ := h
  have h16 : 10001 < sizeLine := by rw [sizeLine_eq]; decide
  refine ⟨_, pss_cons (ps_set (i := 1) scTokensOf.nd rfl (.inl rfl) (pe_lst pa_nil))
    <| pss_cons (ps_set (i := 2) scTokensOf.nd rfl (.inl rfl) (pe_ok O1 hr (by decide) rfl pass0 (pa_cons (pv 0) (pa_cons pe_int pa_nil))))
    <| pss_cons (ps_while (passes_of rfl) (pt_cmpR op_lt (pv 2) (pe_callB call_len_seq (by rfl) T.blt.len PySem.boot_len (pa_cons (pv 0) pa_nil)) (nomark _))
      (pss_cons (ps_set (i := 3) scTokensOf.nd rfl (.inl rfl) (pe_ok O2 hr (by decide) rfl (E := E) (passes_call (takes_of rfl rfl rfl rfl) (fun _ _ _ _ h => h)) (pa_cons (pv 0) (pa_cons (pv 2) pa_nil))))
      <| pss_cons (ps_expr (pe_bm PySem.F.plainAttrs_list PySem.F.slot_list_append PySem.F.type_list_append mt_append (pv 1) (pa_cons (pv 3) pa_nil)))
      <| pss_one (ps_set (i := 2) scTokensOf.nd rfl (.inl rfl) (pe_ok O1 hr (by decide) rfl pass0 (pa_cons (pv 0) (pa_cons (pe_fld (pv 3) rfl) pa_nil))))))
    <| pss_cons (ps_expr (pe_bm PySem.F.plainAttrs_list PySem.F.slot_list_append PySem.F.type_list_append mt_append (pv 1) (pa_cons (pe_mkc T.tok hr (by decide) rfl
        (pa_cons pe_str (pa_cons pe_int (pa_cons (pe_callB call_len_seq (by rfl) T.blt.len PySem.boot_len (pa_cons (pv 0) pa_nil)) (pa_cons (pe_callB call_len_seq (by rfl) T.blt.len PySem.boot_len (pa_cons (pv 0) pa_nil)) pa_nil))))) pa_nil)))
    <| pss_one (ps_ret (pv 1)), ?_⟩
  refine ⟨Nat.zero_le _, fun l hl => ?_⟩
  have hS0 : SqL K (upd H l (.lst [])) a (bV b) := (same_new hl).seq hS
  refine ⟨_, rfl, a, b, 0, rfl, hS0, Nat.zero_le _, fun q0 _ hq0 he0 st0 => ?_⟩
  -- the walk
  refine ⟨fun n σ H' => ∃ (q : Nat) (v : Option V) (rs : List Addr) (ds : Toks), σ = [some (.ref a), some (.ref l), some (.int (q : Int)), v] ∧ Same H H' ∧ H' l = some (.lst (rV rs)) ∧ Al (IsTk K z.T H') rs ds ∧ q ≤ b.length ∧ Stop b q ∧ ds.length ≤ q ∧
    lexF 0 b = (lexF q (b.drop q)).map (ds ++ ·) ∧ n = b.length - q, ⟨_, q0, none, [], [], rfl, same_new hl, upd_same, Al.nil, hq0, st0, Nat.zero_le _, ?_, rfl⟩, ?_⟩
  · rw [he0, List.drop_zero]
    cases lexF 0 b <;> rfl
  rintro n σ H' ⟨q, v, rs, ds, rfl, sm, hL, al, hq, st, hds, he, rfl⟩
  have hS1 : SqL K H' a (bV b) := sm.seq hS
  refine ⟨_, rfl, _, rfl, _, _, rfl, .inl hS1, _, _, rfl, rfl, _, rfl, ite2 (fun h1 => ?_) fun h1 => ?_⟩
  · have hlq : q < b.length := by
      have z := of_decide_eq_true h1
      rw [bV_len] at z
      omega
    obtain ⟨c, hc, hc1, hc2⟩ : ∃ c, b[q]? = some c ∧ isBlank c = false ∧ c ≠ 35 := by
      rcases st with e | e
      · omega
      · exact e
    refine ⟨_, fun _ _ h => h, ?_⟩
    refine ⟨_, rfl, _, rfl, a, b, q, c, rfl, hS1, hc, True.intro, ?_⟩
    cases ht : VamvsBase.token (b.drop q) with
    | none =>
      rw [he, lex_none hc hc1 hc2 ht] at hQ
      exact fun d H2 s2 hd => hQ d H2 (sm.trans s2) hd
    | some x =>
      obtain ⟨t, n⟩ := x
      intro r H2 s2 tk
      obtain ⟨hn1, hn2⟩ := token_len ht
      rw [List.length_drop] at hn2
      have hL2 := s2 _ _ hL
      refine ⟨_, rfl, .inl ⟨rfl, _, SqL.of hL2⟩, _, rfl, l, _, _, rfl, rfl, hL2, ?_, ?_⟩
      · rw [rV_len, al.1]; omega
      rw [rV_snoc]
      have tk2 : IsTok K z.T (upd H2 l (.lst (rV (rs ++ [r])))) r ⟨q, t⟩ (.int ((q + n : Nat) : Int)) := tk.but hL2
      have hS3 : SqL K (upd H2 l (.lst (rV (rs ++ [r])))) a (bV b) := (same_upd (sm.trans s2) hl).seq hS
      obtain ⟨said, hsaid, dx, hr1⟩ := id tk2
      refine ⟨_, rfl, _, rfl, r, z.T, dx, _, _, rfl, hr1, T.tok.cl, T.tok.no _ (by simp), tokBehind, a, b, q + n, rfl, hS3, by omega, fun q' hq1 hq2 he' st' => ?_⟩
      refine ⟨b.length - q', by omega, q', _, rs ++ [r], ds ++ [⟨q, t⟩], rfl, same_upd (sm.trans s2) hl, upd_same, ?_, hq2, st', ?_, ?_, rfl⟩
      · refine Al.snoc ((al.mono fun x y ⟨bb, h⟩ => ⟨bb, (h.mono s2).but hL2⟩)) ⟨_, tk2⟩
      · rw [List.length_append, List.length_singleton]; omega
      · rw [he, lex_some hc hc1 hc2 ht, he']
        cases lexF (q + n) (b.drop (q + n)) with
        | error f => rfl
        | ok ts =>
          show Except.ok (ds ++ (⟨q, t⟩ :: ts)) = Except.ok (ds ++ [⟨q, t⟩] ++ ts)
          rw [List.append_assoc]
          rfl
  · have e : q = b.length := by
      have z := of_decide_eq_false (Bool.eq_false_iff.mpr h1)
      rw [bV_len] at z
      omega
    refine ⟨_, rfl, .inl ⟨rfl, _, SqL.of hL⟩, _, rfl, _, _, rfl, .inl hS1, _, rfl, _, _, rfl, .inl hS1, ?_⟩
    refine made2 rfl fun r H2 n2 s2 a2 => ?_
    have hL2 := s2 _ _ hL
    refine ⟨l, _, _, rfl, rfl, hL2, ?_, ?_⟩
    · rw [rV_len, al.1]; omega
    rw [rV_snoc]
    rw [e, lex_end] at he
    rw [he] at hQ
    refine ⟨_, rfl, hQ l (rs ++ [r]) _ (same_upd (sm.trans s2) hl) hl upd_same ?_⟩
    have tk : IsTok K z.T H2 r ⟨b.length, .last⟩ (.int (b.length : Int)) := by
      refine ⟨.int 0, True.intro, ?_⟩
      have a2 := a2
      rw [bV_len] at a2
      exact a2
    exact Al.snoc (al.mono fun x y ⟨bb, h⟩ => ⟨bb, (h.mono s2).but hL2⟩) ⟨_, tk.but hL2⟩
end
end Kg
namespace Kg
open PySem PySem.Spec PyProof.Rows L2
open VamvsBase (isLetter isDigit isBlank PTok Toks)
/-- a method that keeps a promise -/
structure OkM (P : Program) (w : World) (K : PySem.W.Frag) (mg : Str → Option Value) (base : Heap) (CX : CXT) (k : Nat) (C : Addr) (m : Str) (ps : List Str) (sp : Sp) : Prop where
  ex : ∃ f fd, FnOk P w K mg base CX k f fd ps sp ∧ Meth K C m f ∧ Binds K fd ps []
structure DfM (K : PySem.W.Frag) (C : Addr) (m q : Str) (st : Stmt) (ps : List Str) : Prop where
  ex : ∃ f fd, Fun K m q st f fd ∧ Meth K C m f ∧ Binds K fd ps []
theorem DfM.ok {P : Program} {w : World} {K : PySem.W.Frag} {mg : Str → Option Value} {base : Heap} {C : Addr} {m q : Str} {st : Stmt} {ps : List Str} {sp : Sp} {CX : CXT} {k : Nat} (D : DfM K C m q st ps) (h : ∀ f fd, Fun K m q st f fd → FnOk P w K mg base CX k f fd ps sp) : OkM P w K mg base CX k C m ps sp := by
  obtain ⟨f, fd, F, m, b⟩ := D.ex
  exact ⟨f, fd, h f fd F, m, b⟩
/-- o.m(e, ..) -/
theorem pe_okm {X : Cx} {CX : CXT} {k j : Nat} {C : Addr} {m : Str} {ps : List Str} {sp : Sp} {E : XK} {o e : Expr} {es : List Expr} {to : TE} {t : TA} {apos pos : Pos} {pl : Sem Bool} (O : OkM X.prog X.w X.K X.mg X.base CX k C m ps sp) (c : Cls X.K C) (hr : Room j X.A) (hk : k ≤ j) (hx : Passes CX X E) (ho : PE X o to) (ha : PA X (e :: es) t)
    (hst : starEach (e :: es) X.env = (false, eval e X.env) :: starEach es X.env := by rfl) (hpl : (backTo pos (starEach es X.env)).any (·.1) = false := by rfl)
    (ht : eval (.Call (.Attribute o m apos) (e :: es) [] pos) X.env = (do
      let ov ← eval o X.env
      standAt apos.atName
      let (g0, rest) ← holding [ov] (getMethod ov m pl)
      callWith pos g0 rest (backTo pos (starEach (e :: es) X.env)) (backToKw pos (keywordEach [] X.env))) := by rfl) :
    PE X (.Call (.Attribute o m apos) (e :: es) [] pos) (tMeth C m sp [] E to t) := by
  obtain ⟨f, fd, F, mm, b⟩ := O.ex
  exact pe_meth ho c mm F (hr.mono hk) b .nil hx ha hst hpl ht
/-- the cursor -/
abbrev curF (tl : Addr) (i : Int) : List (Str × V) := [("tokens", .ref tl), ("position", .int i)]
def curO (z : Ads) (dx tl : Addr) (i : Nat) : HO := .ins z.C dx (curF tl (i : Int))
/-- what stood when the cursor was made -/
structure Sn (K : PySem.W.Frag) (z : Ads) (c tl : Addr) (ls : Toks) (H0 : Hp) : Prop where
  toks : ∃ rs, H0 tl = some (.lst (rV rs)) ∧ Al (IsTk K z.T H0) rs ls
  new : H0 c = none
/-- how far it is -/
structure Cu (z : Ads) (c dx tl : Addr) (ls : Toks) (H0 H : Hp) (r : Toks) : Prop where
  same : Same H0 H
  cur : ∃ i, H c = some (curO z dx tl i) ∧ ls.drop i = r
  fin : Ended r
theorem drop_next {α : Type} {ls : List α} {i : Nat} {t : α} {r : List α} (h : ls.drop i = t :: r) : ls.drop (i + 1) = r ∧ ls[i]? = some t := by
  constructor
  · rw [← List.drop_drop, h]
    rfl
  · have e : (ls.drop i)[0]? = some t := by rw [h]; rfl
    rw [List.getElem?_drop] at e
    exact e
theorem curT {tl : Addr} {i : Int} : List.lookup ("tokens" : Str) (curF tl i) = some (.ref tl) := lk_here
theorem curP {tl : Addr} {i : Int} : List.lookup ("position" : Str) (curF tl i) = some (.int i) := (lk_past (by decide +kernel)).trans lk_here
theorem curPut {tl : Addr} {i j : Int} : putF "position" (.int j) (curF tl i) = curF tl j := by
  show (if ("tokens" : Str) = "position" then (_ : List (Str × V)) else _) = _
  rw [if_neg (by decide +kernel)]
  show (("tokens" : Str), V.ref tl) :: (if ("position" : Str) = "position" then (_ : List (Str × V)) else _) = _
  rw [if_pos rfl]
theorem Cu.step {z : Ads} {c dx tl : Addr} {ls : Toks} {H0 H : Hp} {t : PTok} {r : Toks} {i : Nat} {K : PySem.W.Frag} (S : Sn K z c tl ls H0) (h : Cu z c dx tl ls H0 H (t :: r)) (e : ls.drop i = t :: r) (n : kd t.tok ≠ .fin) : Cu z c dx tl ls H0 (upd H c (curO z dx tl (i + 1))) r :=
  ⟨same_upd h.same S.new, ⟨i + 1, upd_same, (drop_next e).1⟩, h.fin.next n⟩
theorem sameK {k k' : Kd} : decide (V.str (kdStr k) = V.str (kdStr k')) = decide (k = k') := by
  by_cases h : k = k'
  · subst h; simp
  · rw [decide_eq_false h]
    exact decide_eq_false fun e => h (kdStr_inj (V.str.inj e))
section
variable {P : Program} {w : World} {K : PySem.W.Frag} {mg : Str → Option Value} {base : Heap} {z : Ads}
/-- sees -/
abbrev sSees : Stmt := inClass (topS 68) 1
theorem scSees : FnScope ["self", "kind"] ["self", "kind"] (defScope sSees) := ⟨rfl, rfl, rfl, by decide +kernel, rfl, by decide +kernel, by decide +kernel⟩
def spSees (K : PySem.W.Frag) (z : Ads) : Sp := fun vs H Q E => ∃ (c dx tl : Addr) (ls : Toks) (H0 : Hp) (r : Toks) (k : Kd), vs = [.ref c, .str (kdStr k)] ∧ Sn K z c tl ls H0 ∧ Cu z c dx tl ls H0 H r ∧ Q (.bl (sees k r)) H
theorem okSees (D : DfM K z.C "sees" "Cursor.sees" sSees ["self", "kind"]) (T : Tx P w K mg base z) : OkM P w K mg base CX0 1 z.C "sees" ["self", "kind"] (spSees K z) := by
  refine D.ok fun f fd F => F.ok scSees (fun vs H Q E h => ?_) (fun cdv A outer s H vs Q E hr h => ?_)
  · obtain ⟨c, dx, tl, ls, H0, r, k, rfl, _⟩ := h
    rfl
  obtain ⟨c, dx, tl, ls, H0, r, k, rfl, S, C, hQ⟩ := h
  refine ⟨_, pss_one (ps_ret (pe_cmpR op_eq (pe_fld (pe_ix ix_list (pe_fld (pv 0) rfl) (pe_fld (pv 0) rfl) (fun _ _ => rfl)) rfl) (pv 1) (nomark _))), ?_⟩
  obtain ⟨i, hc, hd⟩ := C.cur
  cases r with
  | nil => exact absurd rfl C.fin.ne
  | cons t r =>
    obtain ⟨rs, ht, al⟩ := S.toks
    obtain ⟨rT, hr1, b, said, h1, dT, h2⟩ := al.at (drop_next hd).2
    refine ⟨_, rfl, c, z.C, dx, _, _, rfl, hc, T.cur.cl, T.cur.no _ (by simp), curT, ?_⟩
    refine ⟨_, rfl, c, z.C, dx, _, _, rfl, hc, T.cur.cl, T.cur.no _ (by simp), curP, ?_⟩
    refine ⟨_, _, _, _, rfl, rfl, SqL.of (C.same _ _ ht), at_of rfl (rV_at hr1), ?_⟩
    refine ⟨rT, z.T, dT, _, _, rfl, C.same _ _ h2, T.tok.cl, T.tok.no _ (by simp), tokKind, _, rfl, rfl, ?_⟩
    rw [sameK]
    exact hQ
/-- take -/
abbrev sTake : Stmt := inClass (topS 68) 2
theorem scTake : FnScope ["self", "kind", "token"] ["self", "kind"] (defScope sTake) := ⟨rfl, rfl, rfl, by decide +kernel, rfl, by decide +kernel, by decide +kernel⟩
def spTake (K : PySem.W.Frag) (z : Ads) : Sp := fun vs H Q E => ∃ (c dx tl : Addr) (ls : Toks) (H0 : Hp) (r : Toks) (k : Kd), vs = [.ref c, .str (kdStr k)] ∧ Sn K z c tl ls H0 ∧ Cu z c dx tl ls H0 H r ∧ k ≠ .fin ∧
  match take k r with
  | .error f => Flies z.F f.code f.place (But c H) E
  | .ok (t, r') => ∀ rT H', But c H H' → Cu z c dx tl ls H0 H' r' → IsTk K z.T H0 rT t → Q (.ref rT) H'
theorem okTake (D : DfM K z.C "take" "Cursor.take" sTake ["self", "kind"]) (T : Tx P w K mg base z) : OkM P w K mg base (L2.CX P w) 3 z.C "take" ["self", "kind"] (spTake K z) := by
  refine D.ok fun f fd F => F.okX scTake (fun vs H Q E h => ?_) (fun cdv A outer s H vs Q E hr h => ?_)
  · obtain ⟨c, dx, tl, ls, H0, r, k, rfl, _⟩ := h
    rfl
  obtain ⟨c, dx, tl, ls, H0, r, k, rfl, S, C, hk, hQ⟩ := h
  refine ⟨_, pss_cons (ps_set (i := 2) scTake.nd rfl (.inl rfl) (pe_ix ix_list (pe_fld (pv 0) rfl) (pe_fld (pv 0) rfl) (fun _ _ => rfl)))
    <| pss_cons (ps_if (pt_cmpR op_ne (pe_fld (pv 2) rfl) (pv 1) (nomark _)) (pss_one (ps_flt T.flt rfl hr (takes_of rfl rfl rfl rfl) (pa_cons (pe_gi T.cst.NOT_ALLOWED rfl) (pa_cons (pe_fld (pv 2) rfl) pa_nil)))) pss_nil)
    <| pss_cons (ps_fldaug (pv 0) pe_int in_add)
    <| pss_one (ps_ret (pv 2)), ?_⟩
  obtain ⟨i, hc, hd⟩ := C.cur
  cases r with
  | nil => exact absurd rfl C.fin.ne
  | cons t r =>
    obtain ⟨rs, ht, al⟩ := S.toks
    obtain ⟨rT, hr1, b, said, h1, dT, h2⟩ := al.at (drop_next hd).2
    refine ⟨_, rfl, c, z.C, dx, _, _, rfl, hc, T.cur.cl, T.cur.no _ (by simp), curT, ?_⟩
    refine ⟨_, rfl, c, z.C, dx, _, _, rfl, hc, T.cur.cl, T.cur.no _ (by simp), curP, ?_⟩
    refine ⟨_, _, _, _, rfl, rfl, SqL.of (C.same _ _ ht), at_of rfl (rV_at hr1), ?_⟩
    refine ⟨_, rfl, rT, z.T, dT, _, _, rfl, C.same _ _ h2, T.tok.cl, T.tok.no _ (by simp), tokKind, _, rfl, rfl, _, rfl, ?_⟩
    rw [sameK]
    refine ite2 (fun h => ?_) fun h => ?_
    · have hn : kd t.tok ≠ k := by simpa using h
      rw [take_bad hn] at hQ
      refine ⟨_, rfl, rT, z.T, dT, _, _, rfl, C.same _ _ h2, T.tok.cl, T.tok.no _ (by simp), tokPlace, Flies.use hQ fun d nd => But.of (same_new nd)⟩
    · have hn : kd t.tok = k := by simpa using h
      rw [take_ok hn] at hQ
      refine ⟨_, rfl, c, z.C, dx, _, _, rfl, hc, T.cur.cl, T.cur.no _ (by simp), curP, _, _, rfl, rfl, dx, _, hc, by simp, ?_⟩
      rw [curPut]
      have C' := C.step S hd (by rw [hn]; exact hk)
      exact ⟨_, rfl, hQ rT _ But.upd C' ⟨b, said, h1, dT, h2⟩⟩
/-- skips -/
abbrev sSkips : Stmt := inClass (topS 68) 3
theorem scSkips : FnScope ["self", "kind"] ["self", "kind"] (defScope sSkips) := ⟨rfl, rfl, rfl, by decide +kernel, rfl, by decide +kernel, by decide +kernel⟩
def spSkips (K : PySem.W.Frag) (z : Ads) : Sp := fun vs H Q E => ∃ (c dx tl : Addr) (ls : Toks) (H0 : Hp) (r : Toks) (k : Kd), vs = [.ref c, .str (kdStr k)] ∧ Sn K z c tl ls H0 ∧ Cu z c dx tl ls H0 H r ∧ k ≠ .fin ∧
  (sees k r = false → Q (.bl false) H) ∧ (sees k r = true → ∀ H', But c H H' → Cu z c dx tl ls H0 H' (r.drop 1) → Q (.bl true) H')
theorem okSkips (D : DfM K z.C "skips" "Cursor.skips" sSkips ["self", "kind"]) (T : Tx P w K mg base z) (O : OkM P w K mg base CX0 1 z.C "sees" ["self", "kind"] (spSees K z)) : OkM P w K mg base CX0 2 z.C "skips" ["self", "kind"] (spSkips K z) := by
  refine D.ok fun f fd F => F.ok scSkips (fun vs H Q E h => ?_) (fun cdv A outer s H vs Q E hr h => ?_)
  · obtain ⟨c, dx, tl, ls, H0, r, k, rfl, _⟩ := h
    rfl
  obtain ⟨c, dx, tl, ls, H0, r, k, rfl, S, C, hk, hF, hT⟩ := h
  refine ⟨_, pss_cons (ps_if (pt_not (pt_val (pe_okm O T.cur.cl hr (by decide) pass0 (pv 0) (pa_cons (pv 1) pa_nil)))) (pss_one (ps_ret pe_bl)) pss_nil)
    <| pss_cons (ps_fldaug (pv 0) pe_int in_add)
    <| pss_one (ps_ret pe_bl), ?_⟩
  obtain ⟨i, hc, hd⟩ := C.cur
  have no : List.lookup ("sees" : Str) (curF tl i) = none := (lk_past (by decide +kernel)).trans ((lk_past (by decide +kernel)).trans rfl)
  refine ⟨_, rfl, c, dx, _, rfl, hc, no, _, rfl, c, dx, tl, ls, H0, r, k, rfl, S, C, _, rfl, ?_⟩
  cases hs : sees k r with
  | false => exact hF hs
  | true =>
    refine ⟨_, rfl, c, z.C, dx, _, _, rfl, hc, T.cur.cl, T.cur.no _ (by simp), curP, _, _, rfl, rfl, dx, _, hc, by simp, ?_⟩
    rw [curPut]
    obtain ⟨t, r', e, hk'⟩ := sees_iff hs
    subst e
    exact hT hs _ But.upd (C.step S hd (by rw [hk']; exact hk))
end
end Kg
namespace Kg
open PySem PySem.Spec PyProof.Rows L2
open VamvsBase (isLetter isDigit isBlank PTok Toks)
theorem room65 {k : Nat} {A : Around} (hr : Room k A) : A.units + 65 < cLine := by have := hr.un; omega
/-- names as data -/
def pdW (u : By) : PyData := .list (pdI (bI u))
theorem pdW_shaped (u : By) : SeqAt.shaped (pdW u) = true := shaped_ints _
theorem pdW_eqv (u v : By) : PyData.eqv (pdW u) (pdW v) = decide (u = v) := by
  show PyData.eqvAll (pdI (bI u)) (pdI (bI v)) = _
  rw [eqvAll_ints, decide_eq_decide]
  exact ⟨bI_inj, fun e => by rw [e]⟩
theorem pdWs_shaped (l : List By) : SeqAt.shaped (.list (l.map pdW)) = true := by
  have h0 : ∀ l : List Int, PyData.canLayAll0 (pdI l) = true ∧ PyData.depthAll (pdI l) = 0 := by
    intro l
    induction l with
    | nil => exact ⟨rfl, rfl⟩
    | cons x l ih => exact ⟨ih.1, by show max 0 (PyData.depthAll (pdI l)) = 0; rw [ih.2]; rfl⟩
  have h1 : ∀ l : List By, PyData.canLayAll0 (l.map pdW) = true ∧ PyData.depthAll (l.map pdW) ≤ 1 := by
    intro l
    induction l with
    | nil => exact ⟨rfl, Nat.zero_le _⟩
    | cons x l ih =>
      refine ⟨?_, ?_⟩
      · show (PyData.canLayAll0 (pdI (bI x)) && PyData.canLayAll0 (l.map pdW)) = true
        rw [(h0 _).1, ih.1]; rfl
      · show max (PyData.depthAll (pdI (bI x)) + 1) (PyData.depthAll (l.map pdW)) ≤ 1
        rw [(h0 _).2]
        omega
  unfold SeqAt.shaped
  show (PyData.canLayAll0 (l.map pdW) && decide (PyData.depthAll (l.map pdW) + 1 ≤ 64)) = true
  rw [(h1 l).1]
  have := (h1 l).2
  simp only [Bool.true_and, decide_eq_true_eq]
  omega
/-- a list of bytes, written -/
def LB (H : Hp) (a : Addr) (u : By) : Prop := H a = some (.lst (bV u))
theorem LB.dp {K : PySem.W.Frag} {H : Hp} {a : Addr} {u : By} (h : LB H a u) : Dp K H (.ref a) (pdW u) := by
  have h : H a = some (.lst ((bI u).map V.int)) := by rw [← bV_eq]; exact h
  exact .lst (SqL.of h) (dp_ints _)
theorem dp_names {K : PySem.W.Frag} {H : Hp} : ∀ {as : List Addr} {us : List By}, Al (LB H) as us → DpAll K H (rV as) (us.map pdW)
  | [], [], _ => .nil
  | [], _ :: _, h => by cases h.1
  | _ :: _, [], h => by cases h.1
  | a :: as, u :: us, h => .cons (h.2 0 a u rfl rfl).dp (dp_names ⟨Nat.succ.inj h.1, fun i x y e1 e2 => h.2 (i + 1) x y e1 e2⟩)
theorem names_any (l : List By) (u : By) : ((l.map pdW).any fun z => PyData.eqv z (pdW u)) = l.contains u := by
  induction l with
  | nil => rfl
  | cons x l ih =>
    rw [List.map_cons, List.any_cons, ih, pdW_eqv, List.contains_cons]
    congr 1
    by_cases h : x = u
    · subst h; simp
    · rw [decide_eq_false h]; symm; simpa using fun e => h e.symm
section
variable {P : Program} {w : World} {K : PySem.W.Frag} {mg : Str → Option Value} {base : Heap} {z : Ads}

theorem But.free {c : Addr} {H H' : Hp} (b : But c H H') {x : Addr} (n : x ≠ c) (h : H' x = none) : H x = none := by
  cases q : H x with
  | none => rfl
  | some o =>
    rw [b x o n q] at h
    cases h
theorem but_new {c : Addr} {H H' : Hp} {x : Addr} {o : HO} (b : But c H H') (h : H x = none) : But c H (upd H' x o) := fun y u n e => by
  rw [upd_ne (ne_of_none e h)]
  exact b y u n e
theorem Cu.but {c dx tl : Addr} {ls r : Toks} {H0 H : Hp} {x : Addr} {o : HO} (C : Cu z c dx tl ls H0 H r) (n : x ≠ c) (h : H x = none) : Cu z c dx tl ls H0 (upd H x o) r :=
  ⟨C.same.trans (same_new h), by
    obtain ⟨j, q1, q2⟩ := C.cur
    exact ⟨j, by rw [upd_ne (Ne.symm n)]; exact q1, q2⟩, C.fin⟩
theorem Cu.but2 {c dx tl : Addr} {ls r : Toks} {H0 H : Hp} {x : Addr} {o : HO} (C : Cu z c dx tl ls H0 H r) (n : x ≠ c) (h : H0 x = none) : Cu z c dx tl ls H0 (upd H x o) r :=
  ⟨same_upd C.same h, by
    obtain ⟨j, q1, q2⟩ := C.cur
    exact ⟨j, by rw [upd_ne (Ne.symm n)]; exact q1, q2⟩, C.fin⟩

/-! ### read_number, read_amount -/
abbrev sReadNumber : Stmt := topS 74
theorem scReadNumber : FnScope ["cursor", "least", "most", "token"] ["cursor", "least", "most"] (defScope sReadNumber) := ⟨rfl, rfl, rfl, by decide +kernel, rfl, by decide +kernel, by decide +kernel⟩
def spNumber (K : PySem.W.Frag) (z : Ads) : Sp := fun vs H Q E => ∃ (c dx tl : Addr) (ls : Toks) (H0 : Hp) (r : Toks) (lo hi : Nat), vs = [.ref c, .int (lo : Int), .int (hi : Int)] ∧ Sn K z c tl ls H0 ∧ Cu z c dx tl ls H0 H r ∧
  match readNumber lo hi r with
  | .error f => Flies z.F f.code f.place (But c H) E
  | .ok (n, r') => ∀ H', But c H H' → Cu z c dx tl ls H0 H' r' → Q (.int (n : Int)) H'
theorem okReadNumber (D : Df K mg "read_number" sReadNumber ["cursor", "least", "most"]) (T : Tx P w K mg base z) (O : OkM P w K mg base (L2.CX P w) 3 z.C "take" ["self", "kind"] (spTake K z)) : Ok P w K mg base (L2.CX P w) 4 "read_number" ["cursor", "least", "most"] (spNumber K z) := by
  refine D.ok fun f fd F => F.okX scReadNumber (fun vs H Q E h => ?_) (fun cdv A outer s H vs Q E hr h => ?_)
  · obtain ⟨c, dx, tl, ls, H0, r, lo, hi, rfl, _⟩ := h
    rfl
  obtain ⟨c, dx, tl, ls, H0, r, lo, hi, rfl, S, C, hQ⟩ := h
  refine ⟨_, pss_cons (ps_set (i := 3) scReadNumber.nd rfl (.inl rfl) (pe_okm O T.cur.cl hr (by decide) (E := E) (passes_call (takes_of rfl rfl rfl rfl) (fun _ _ _ _ h => h)) (pv 0) (pa_cons pe_str pa_nil)))
    <| pss_cons (ps_if (PW.pt (pw_or (pt_cmpR op_lt (pe_fld (pv 3) rfl) (pv 1) (nomark _)) (pw_or1 (pt_cmpR op_gt (pe_fld (pv 3) rfl) (pv 2) (nomark _)))))
      (pss_one (ps_flt T.flt rfl (hr.mono (by decide)) (takes_of rfl rfl rfl rfl) (pa_cons (pe_gi T.cst.OUT_OF_BOUNDS rfl) (pa_cons (pe_fld (pv 3) rfl) pa_nil)))) pss_nil)
    <| pss_one (ps_ret (pe_fld (pv 3) rfl)), ?_⟩
  obtain ⟨i, hc, hd⟩ := C.cur
  have no : List.lookup ("take" : Str) (curF tl i) = none := (lk_past (by decide +kernel)).trans ((lk_past (by decide +kernel)).trans rfl)
  refine ⟨_, rfl, c, dx, _, rfl, hc, no, c, dx, tl, ls, H0, r, .number, rfl, S, C, by decide, ?_⟩
  unfold readNumber at hQ
  cases e : take .number r with
  | error f => rw [e] at hQ; exact hQ
  | ok x =>
    obtain ⟨t, r'⟩ := x
    obtain ⟨e1, e2⟩ := take_len e
    obtain ⟨n, en⟩ := kd_number e2
    rw [e] at hQ
    intro rT H1 b1 C1 tk
    obtain ⟨bb, said, h1, dT, h2⟩ := tk
    have h2 := C1.same _ _ h2
    rw [en] at h1
    have h1 : said = .int (n : Int) := h1
    subst h1
    have hn : numOf t.tok = n := by rw [en]; rfl
    have hQ : match (if n < lo ∨ hi < n then (.error ⟨7, t.place⟩ : Except VamvsBase.Fault (Nat × Toks)) else .ok (n, r')) with
      | .error f => Flies z.F f.code f.place (But c H) E
      | .ok (n, r') => ∀ H', But c H H' → Cu z c dx tl ls H0 H' r' → Q (.int (n : Int)) H' := by rw [← hn]; exact hQ
    have bad : (n < lo ∨ hi < n) → Flies z.F 7 t.place (But c H) E := fun h => by rw [if_pos h] at hQ; exact hQ
    refine ⟨_, rfl, rT, z.T, dT, _, _, rfl, h2, T.tok.cl, T.tok.no _ (by simp), tokSaid, _, rfl, _, _, rfl, rfl, _, rfl, ite2 (fun h1 => ?_) fun h1 => ?_⟩
    · have h1 := of_decide_eq_true h1
      refine ⟨_, rfl, rT, z.T, dT, _, _, rfl, h2, T.tok.cl, T.tok.no _ (by simp), tokPlace, (bad (.inl (by omega))).use fun d nd => b1.trans (But.of (same_new nd))⟩
    · have h1 := of_decide_eq_false (Bool.eq_false_iff.mpr h1)
      refine ⟨_, rfl, rT, z.T, dT, _, _, rfl, h2, T.tok.cl, T.tok.no _ (by simp), tokSaid, _, rfl, _, _, rfl, rfl, _, rfl, ite2 (fun h3 => ?_) fun h3 => ?_⟩
      · have h3 := of_decide_eq_true h3
        refine ⟨_, rfl, rT, z.T, dT, _, _, rfl, h2, T.tok.cl, T.tok.no _ (by simp), tokPlace, (bad (.inr (by omega))).use fun d nd => b1.trans (But.of (same_new nd))⟩
      · have h3 := of_decide_eq_false (Bool.eq_false_iff.mpr h3)
        rw [if_neg (by omega)] at hQ
        exact ⟨_, rfl, rT, z.T, dT, _, _, rfl, h2, T.tok.cl, T.tok.no _ (by simp), tokSaid, hQ H1 b1 C1⟩
abbrev sReadAmount : Stmt := topS 73
theorem scReadAmount : FnScope ["cursor"] ["cursor"] (defScope sReadAmount) := ⟨rfl, rfl, rfl, by decide +kernel, rfl, by decide +kernel, by decide +kernel⟩
def spAmount (K : PySem.W.Frag) (z : Ads) : Sp := fun vs H Q E => ∃ (c dx tl : Addr) (ls : Toks) (H0 : Hp) (r : Toks), vs = [.ref c] ∧ Sn K z c tl ls H0 ∧ Cu z c dx tl ls H0 H r ∧
  match readAmount r with
  | .error f => Flies z.F f.code f.place (But c H) E
  | .ok (n, r') => ∀ H', But c H H' → Cu z c dx tl ls H0 H' r' → Q (.int n) H'
theorem Flies.mono {C : Addr} {c p : Nat} {fr fr' : Hp → Prop} {E : XK} (h : Flies C c p fr E) (m : ∀ H, fr' H → fr H) : Flies C c p fr' E := fun d H' f e => h d H' (m _ f) e
theorem okReadAmount (D : Df K mg "read_amount" sReadAmount ["cursor"]) (T : Tx P w K mg base z) (O1 : OkM P w K mg base CX0 2 z.C "skips" ["self", "kind"] (spSkips K z)) (O2 : Ok P w K mg base (L2.CX P w) 4 "read_number" ["cursor", "least", "most"] (spNumber K z)) :
    Ok P w K mg base (L2.CX P w) 5 "read_amount" ["cursor"] (spAmount K z) := by
  refine D.ok fun f fd F => F.okX scReadAmount (fun vs H Q E h => ?_) (fun cdv A outer s H vs Q E hr h => ?_)
  · obtain ⟨c, dx, tl, ls, H0, r, rfl, _⟩ := h
    rfl
  obtain ⟨c, dx, tl, ls, H0, r, rfl, S, C, hQ⟩ := h
  refine ⟨_, pss_cons (ps_if (pt_val (pe_okm O1 T.cur.cl hr (by decide) pass0 (pv 0) (pa_cons pe_str pa_nil)))
      (pss_one (ps_ret (pe_un un_neg (pe_ok O2 hr (by decide) rfl (E := E) (passes_call (takes_of rfl rfl rfl rfl) (fun _ _ _ _ h => h)) (pa_cons (pv 0) (pa_cons pe_int (pa_cons (pe_gi T.cst.GREATEST_AMOUNT rfl) pa_nil))))))) pss_nil)
    <| pss_one (ps_ret (pe_ok O2 hr (by decide) rfl (E := E) (passes_call (takes_of rfl rfl rfl rfl) (fun _ _ _ _ h => h)) (pa_cons (pv 0) (pa_cons pe_int (pa_cons (pe_gi T.cst.GREATEST_AMOUNT rfl) pa_nil))))), ?_⟩
  obtain ⟨i, hc, hd⟩ := C.cur
  have no : List.lookup ("skips" : Str) (curF tl i) = none := (lk_past (by decide +kernel)).trans ((lk_past (by decide +kernel)).trans rfl)
  refine ⟨_, rfl, c, dx, _, rfl, hc, no, c, dx, tl, ls, H0, r, .dash, rfl, S, C, by decide, fun hs => ?_, fun hs H1 b1 C1 => ?_⟩
  · refine ⟨_, rfl, iteF ?_⟩
    unfold readAmount at hQ
    rw [if_neg (by rw [hs]; exact Bool.false_ne_true)] at hQ
    refine ⟨_, rfl, c, dx, tl, ls, H0, r, 0, 1000, rfl, S, C, ?_⟩
    cases e : readNumber 0 1000 r with
    | error f => rw [e] at hQ; exact hQ
    | ok x => rw [e] at hQ; exact hQ
  · refine ⟨_, rfl, iteT ?_⟩
    unfold readAmount at hQ
    rw [if_pos hs] at hQ
    refine ⟨_, rfl, c, dx, tl, ls, H0, r.drop 1, 0, 1000, rfl, S, C1, ?_⟩
    cases e : readNumber 0 1000 (r.drop 1) with
    | error f => rw [e] at hQ; exact Flies.mono hQ fun H' q => b1.trans q
    | ok x => rw [e] at hQ; exact fun H2 b2 C2 => ⟨_, rfl, hQ H2 (b1.trans b2) C2⟩

/-! ### read_column, read_columns -/
abbrev sReadColumn : Stmt := topS 71
theorem scReadColumn : FnScope ["cursor", "names", "token"] ["cursor", "names"] (defScope sReadColumn) := ⟨rfl, rfl, rfl, by decide +kernel, rfl, by decide +kernel, by decide +kernel⟩
def spColumn (K : PySem.W.Frag) (z : Ads) : Sp := fun vs H Q E => ∃ (c dx tl : Addr) (ls : Toks) (H0 : Hp) (r : Toks) (x : Addr) (as : List Addr) (us : List By), vs = [.ref c, .ref x] ∧ Sn K z c tl ls H0 ∧ Cu z c dx tl ls H0 H r ∧ x ≠ c ∧ H x = some (.lst (rV as)) ∧ Al (LB H0) as us ∧
  match readColumn us r with
  | .error f => Flies z.F f.code f.place (But c H) E
  | .ok (u, r') => ∀ a H', But c H H' → Cu z c dx tl ls H0 H' r' → LB H0 a u → Q (.ref a) H'
theorem okReadColumn (D : Df K mg "read_column" sReadColumn ["cursor", "names"]) (T : Tx P w K mg base z) (O : OkM P w K mg base (L2.CX P w) 3 z.C "take" ["self", "kind"] (spTake K z)) : Ok P w K mg base (L2.CX P w) 4 "read_column" ["cursor", "names"] (spColumn K z) := by
  refine D.ok fun f fd F => F.okX scReadColumn (fun vs H Q E h => ?_) (fun cdv A outer s H vs Q E hr h => ?_)
  · obtain ⟨c, dx, tl, ls, H0, r, x, as, us, rfl, _⟩ := h
    rfl
  obtain ⟨c, dx, tl, ls, H0, r, x, as, us, rfl, S, C, xc, hx, al, hQ⟩ := h
  refine ⟨_, pss_cons (ps_set (i := 2) scReadColumn.nd rfl (.inl rfl) (pe_okm O T.cur.cl hr (by decide) (E := E) (passes_call (takes_of rfl rfl rfl rfl) (fun _ _ _ _ h => h)) (pv 0) (pa_cons pe_str pa_nil)))
    <| pss_cons (ps_if (pt_cmpR op_eq (pe_callB call_len_seq (by rfl) T.blt.len PySem.boot_len (pa_cons (pv 1) pa_nil)) (pe_gi T.cst.MOST_COLUMNS rfl) (nomark _))
      (pss_one (ps_flt T.flt rfl (hr.mono (by decide)) (takes_of rfl rfl rfl rfl) (pa_cons (pe_gi T.cst.TOO_MANY rfl) (pa_cons (pe_fld (pv 2) rfl) pa_nil)))) pss_nil)
    <| pss_cons (ps_if (pt_cmpR (op_inD (room65 hr)) (pe_fld (pv 2) rfl) (pv 1) (by rfl))
      (pss_one (ps_flt T.flt rfl (hr.mono (by decide)) (takes_of rfl rfl rfl rfl) (pa_cons (pe_gi T.cst.COLUMN_TWICE rfl) (pa_cons (pe_fld (pv 2) rfl) pa_nil)))) pss_nil)
    <| pss_one (ps_ret (pe_fld (pv 2) rfl)), ?_⟩
  obtain ⟨i, hc, hd⟩ := C.cur
  have no : List.lookup ("take" : Str) (curF tl i) = none := (lk_past (by decide +kernel)).trans ((lk_past (by decide +kernel)).trans rfl)
  refine ⟨_, rfl, c, dx, _, rfl, hc, no, c, dx, tl, ls, H0, r, .name, rfl, S, C, by decide, ?_⟩
  unfold readColumn at hQ
  cases e : take .name r with
  | error f => rw [e] at hQ; exact hQ
  | ok y =>
    obtain ⟨t, r'⟩ := y
    obtain ⟨e1, e2⟩ := take_len e
    obtain ⟨u, en⟩ := kd_name e2
    rw [e] at hQ
    intro rT H1 b1 C1 tk
    obtain ⟨bb, said, h1, dT, h2⟩ := tk
    have h2 := C1.same _ _ h2
    rw [en] at h1
    obtain ⟨_, a, rfl, ha⟩ := (show u ≠ [] ∧ ∃ a, said = .ref a ∧ H0 a = some (.lst (bV u)) from h1)
    have hn : nameOf t.tok = u := by rw [en]; rfl
    have hQ : match (if us.length = 4 then (.error ⟨4, t.place⟩ : Except VamvsBase.Fault (By × Toks)) else if us.contains u = true then .error ⟨5, t.place⟩ else .ok (u, r')) with
      | .error f => Flies z.F f.code f.place (But c H) E
      | .ok (u, r') => ∀ a H', But c H H' → Cu z c dx tl ls H0 H' r' → LB H0 a u → Q (.ref a) H' := by rw [← hn]; exact hQ
    have hx1 := b1 _ _ xc hx
    have pl := tokPlace (a := .str (kdStr (kd t.tok))) (b := .ref a) (c := .int (t.place : Int)) (d := bb)
    refine ⟨_, rfl, _, _, rfl, .inl (SqL.of hx1), rfl, _, rfl, ite2 (fun h3 => ?_) fun h3 => ?_⟩
    · have h3 := ieq h3
      rw [rV_len, al.1] at h3
      rw [if_pos (by omega)] at hQ
      exact ⟨_, rfl, rT, z.T, dT, _, _, rfl, h2, T.tok.cl, T.tok.no _ (by simp), pl, Flies.use hQ fun d nd => b1.trans (But.of (same_new nd))⟩
    · have h3 := ine h3
      rw [rV_len, al.1] at h3
      rw [if_neg (by omega)] at hQ
      have al1 : Al (LB H1) as us := al.mono fun p q e => C1.same _ _ e
      have ha1 : LB H1 a u := C1.same _ _ ha
      refine ⟨_, rfl, rT, z.T, dT, _, _, rfl, h2, T.tok.cl, T.tok.no _ (by simp), tokSaid, _, rfl, pdW u, us.map pdW, ha1.dp, .lst (SqL.of hx1) (dp_names al1), pdW_shaped u, pdWs_shaped us, _, rfl, ?_⟩
      rw [names_any]
      refine ite2 (fun h4 => ?_) fun h4 => ?_
      · rw [if_pos h4] at hQ
        exact ⟨_, rfl, rT, z.T, dT, _, _, rfl, h2, T.tok.cl, T.tok.no _ (by simp), pl, Flies.use hQ fun d nd => b1.trans (But.of (same_new nd))⟩
      · rw [if_neg h4] at hQ
        exact ⟨_, rfl, rT, z.T, dT, _, _, rfl, h2, T.tok.cl, T.tok.no _ (by simp), tokSaid, hQ a H1 b1 C1 ha⟩
abbrev sReadColumns : Stmt := topS 70
theorem scReadColumns : FnScope ["cursor", "names"] ["cursor"] (defScope sReadColumns) := ⟨rfl, rfl, rfl, by decide +kernel, rfl, by decide +kernel, by decide +kernel⟩
def spColumns (K : PySem.W.Frag) (z : Ads) : Sp := fun vs H Q E => ∃ (c dx tl : Addr) (ls : Toks) (H0 : Hp) (r : Toks), vs = [.ref c] ∧ Sn K z c tl ls H0 ∧ Cu z c dx tl ls H0 H r ∧
  match readColumns r with
  | .error f => Flies z.F f.code f.place (But c H) E
  | .ok (us, r') => ∀ x as H', But c H H' → Cu z c dx tl ls H0 H' r' → H x = none → H' x = some (.lst (rV as)) → Al (LB H0) as us → Q (.ref x) H'
theorem okReadColumns (D : Df K mg "read_columns" sReadColumns ["cursor"]) (T : Tx P w K mg base z) (O1 : OkM P w K mg base (L2.CX P w) 3 z.C "take" ["self", "kind"] (spTake K z)) (O2 : OkM P w K mg base CX0 2 z.C "skips" ["self", "kind"] (spSkips K z))
    (O3 : Ok P w K mg base (L2.CX P w) 4 "read_column" ["cursor", "names"] (spColumn K z)) : Ok P w K mg base (L2.CX P w) 5 "read_columns" ["cursor"] (spColumns K z) := by
  refine D.ok fun f fd F => F.okX scReadColumns (fun vs H Q E h => ?_) (fun cdv A outer s H vs Q E hr h => ?_)
  · obtain ⟨c, dx, tl, ls, H0, r, rfl, _⟩ := h
    rfl
  obtain ⟨c, dx, tl, ls, H0, r, rfl, S, C, hQ⟩ := h
  refine ⟨_, pss_cons (ps_expr (pe_okm O1 T.cur.cl hr (by decide) (E := E) (passes_call (takes_of rfl rfl rfl rfl) (fun _ _ _ _ h => h)) (pv 0) (pa_cons pe_str pa_nil)))
    <| pss_cons (ps_set (i := 1) scReadColumns.nd rfl (.inl rfl) (pe_lst (pa_cons (pe_ok O3 hr (by decide) rfl (E := E) (passes_call (takes_of rfl rfl rfl rfl) (fun _ _ _ _ h => h)) (pa_cons (pv 0) (pa_cons (pe_lst pa_nil) pa_nil))) pa_nil)))
    <| pss_cons (ps_while (passes_of rfl) (pt_val (pe_okm O2 T.cur.cl hr (by decide) pass0 (pv 0) (pa_cons pe_str pa_nil)))
      (pss_one (ps_expr (pe_bm PySem.F.plainAttrs_list PySem.F.slot_list_append PySem.F.type_list_append mt_append (pv 1)
        (pa_cons (pe_ok O3 hr (by decide) rfl (E := E) (passes_call (takes_of rfl rfl rfl rfl) (fun _ _ _ _ h => h)) (pa_cons (pv 0) (pa_cons (pv 1) pa_nil))) pa_nil)))))
    <| pss_cons (ps_expr (pe_okm O1 T.cur.cl hr (by decide) (E := E) (passes_call (takes_of rfl rfl rfl rfl) (fun _ _ _ _ h => h)) (pv 0) (pa_cons pe_str pa_nil)))
    <| pss_one (ps_ret (pv 1)), ?_⟩
  obtain ⟨i, hc, hd⟩ := C.cur
  have noT : ∀ i : Int, List.lookup ("take" : Str) (curF tl i) = none := fun i => (lk_past (by decide +kernel)).trans ((lk_past (by decide +kernel)).trans rfl)
  have noS : ∀ i : Int, List.lookup ("skips" : Str) (curF tl i) = none := fun i => (lk_past (by decide +kernel)).trans ((lk_past (by decide +kernel)).trans rfl)
  refine ⟨_, rfl, c, dx, _, rfl, hc, noT _, c, dx, tl, ls, H0, r, .columns, rfl, S, C, by decide, ?_⟩
  rw [readColumns_eq] at hQ
  cases e : take .columns r with
  | error f => rw [e] at hQ; exact hQ
  | ok y =>
    obtain ⟨t, r1⟩ := y
    rw [e] at hQ
    intro rT H1 b1 C1 _
    have hQ : match ((readColumn [] r1).bind fun y => moreCols [y.1] y.2) with
      | .error f => Flies z.F f.code f.place (But c H) E
      | .ok (us, r') => ∀ x as H', But c H H' → Cu z c dx tl ls H0 H' r' → H x = none → H' x = some (.lst (rV as)) → Al (LB H0) as us → Q (.ref x) H' := hQ
    refine ⟨_, rfl, Nat.zero_le _, fun e0 he0 => ?_⟩
    have ec : e0 ≠ c := fun z => by
      obtain ⟨_, q, _⟩ := C1.cur
      rw [← z, he0] at q
      cases q
    have C1' : Cu z c dx tl ls H0 (upd H1 e0 (.lst [])) r1 := ⟨C1.same.trans (same_new he0), by
      obtain ⟨j, q1, q2⟩ := C1.cur
      exact ⟨j, by rw [upd_ne (Ne.symm ec)]; exact q1, q2⟩, C1.fin⟩
    have b1' : But c H (upd H1 e0 (.lst [])) := b1.trans (But.of (same_new he0))
    refine ⟨c, dx, tl, ls, H0, r1, e0, [], [], rfl, S, C1', ec, upd_same, Al.nil, ?_⟩
    cases e2 : readColumn [] r1 with
    | error f => rw [e2] at hQ; exact Flies.mono hQ fun H' q => b1'.trans q
    | ok y =>
      obtain ⟨u, r2⟩ := y
      rw [e2] at hQ
      intro a H2 b2 C2 ha
      have hQ : match (moreCols [u] r2) with
        | .error f => Flies z.F f.code f.place (But c H) E
        | .ok (us, r') => ∀ x as H', But c H H' → Cu z c dx tl ls H0 H' r' → H x = none → H' x = some (.lst (rV as)) → Al (LB H0) as us → Q (.ref x) H' := hQ
      refine ⟨by show 1 ≤ sizeLine; rw [sizeLine_eq]; decide, fun x hx => ?_⟩
      have xc : x ≠ c := fun z => by
        obtain ⟨_, q, _⟩ := C2.cur
        rw [← z, hx] at q
        cases q
      have b2' : But c H H2 := b1'.trans b2
      have hxH : H x = none := b2'.free xc hx
      have hx0 : H0 x = none := C.same.free hxH
      refine ⟨fun n σ H' => ∃ (as : List Addr) (us : List By) (r' : Toks), σ = [some (.ref c), some (.ref x)] ∧ H' x = some (.lst (rV as)) ∧ Al (LB H0) as us ∧ Cu z c dx tl ls H0 H' r' ∧ But c H H' ∧ us.length ≤ 4 ∧ moreCols us r' = moreCols [u] r2 ∧ n = r'.length,
        ⟨_, [a], [u], r2, rfl, upd_same, Al.nil.snoc ha, C2.but xc hx, but_new b2' hxH, (by show 1 ≤ 4; decide), rfl, rfl⟩, ?_⟩
      rintro n σ H' ⟨as, us, r', rfl, hx', al, C', b', h4, em, rfl⟩
      obtain ⟨i', hc', _⟩ := C'.cur
      rw [← em, moreCols_eq] at hQ
      refine ⟨_, rfl, c, dx, _, rfl, hc', noS _, c, dx, tl, ls, H0, r', .comma, rfl, S, C', by decide, fun hs => ?_, fun hs H3 b3 C3 => ?_⟩
      · rw [if_neg (by rw [hs]; exact Bool.false_ne_true)] at hQ
        refine ⟨_, rfl, iteF ?_⟩
        refine ⟨_, rfl, c, dx, _, rfl, hc', noT _, c, dx, tl, ls, H0, r', .semi, rfl, S, C', by decide, ?_⟩
        cases e3 : take .semi r' with
        | error f => rw [e3] at hQ; exact Flies.mono hQ fun H' q => b'.trans q
        | ok y =>
          obtain ⟨t3, r3⟩ := y
          rw [e3] at hQ
          intro rT H3 b3 C3 _
          exact ⟨_, rfl, hQ x as H3 (b'.trans b3) C3 hxH (b3 _ _ xc hx') al⟩
      · rw [if_pos hs] at hQ
        refine ⟨_, rfl, iteT ⟨_, fun _ _ h => h, ?_⟩⟩
        have hx3 := b3 _ _ xc hx'
        refine ⟨_, rfl, .inl ⟨rfl, _, SqL.of hx3⟩, _, rfl, _, rfl, c, dx, tl, ls, H0, r'.drop 1, x, as, us, rfl, S, C3, xc, hx3, al, ?_⟩
        cases e3 : readColumn us (r'.drop 1) with
        | error f => rw [e3] at hQ; exact Flies.mono hQ fun H' q => (b'.trans b3).trans q
        | ok y =>
          obtain ⟨u3, r3⟩ := y
          rw [e3] at hQ
          intro a3 H4 b4 C4 ha3
          have hx4 := b4 _ _ xc hx3
          obtain ⟨t3, q1, _, _, q2, _⟩ := readColumn_len e3
          have hl := congrArg List.length q1
          rw [List.length_drop, List.length_cons] at hl
          refine ⟨x, _, _, rfl, rfl, hx4, ?_, ?_⟩
          · rw [rV_len, al.1, sizeLine_eq]; omega
          rw [rV_snoc]
          refine ⟨r3.length, by omega, as ++ [a3], us ++ [u3], r3, rfl, upd_same, al.snoc ha3, C4.but2 xc hx0, but_new ((b'.trans b3).trans b4) hxH, ?_, ?_, rfl⟩
          · rw [List.length_append, List.length_singleton]; omega
          · rw [← em, moreCols_eq us r', if_pos hs, e3]
            rfl
end
end Kg
namespace Kg
open PySem PySem.Spec PyProof.Rows L2
open VamvsBase (isLetter isDigit isBlank PTok Toks)
open Vamvsa (Ask Table Group)
/-- an outcome -/
def Out {α : Type} (e : Except VamvsBase.Fault α) (ok : α → Prop) (fl : VamvsBase.Fault → Prop) : Prop := match e with
  | .error f => fl f
  | .ok a => ok a
section
variable {α β : Type} {e : Except VamvsBase.Fault α} {g : α → Except VamvsBase.Fault β} {m : α → β} {ok : β → Prop} {fl : VamvsBase.Fault → Prop} {f : VamvsBase.Fault} {a : α}
theorem Out.berr (h : Out (e.bind g) ok fl) (he : e = .error f) : fl f := by subst he; exact h
theorem Out.bok (h : Out (e.bind g) ok fl) (he : e = .ok a) : Out (g a) ok fl := by subst he; exact h
theorem Out.bberr {γ : Type} {ok : γ → Prop} {k : β → Except VamvsBase.Fault γ} (h : Out ((e.bind g).bind k) ok fl) (he : e = .error f) : fl f := by subst he; exact h
theorem Out.bbok {γ : Type} {ok : γ → Prop} {k : β → Except VamvsBase.Fault γ} (h : Out ((e.bind g).bind k) ok fl) (he : e = .ok a) : Out ((g a).bind k) ok fl := by subst he; exact h
theorem Out.merr (h : Out (e.map m) ok fl) (he : e = .error f) : fl f := by subst he; exact h
theorem Out.mok (h : Out (e.map m) ok fl) (he : e = .ok a) : ok (m a) := by subst he; exact h
end
/-- numbers as values -/
def nV (l : List Nat) : List V := l.map fun (n : Nat) => V.int (n : Int)
theorem nV_len (l : List Nat) : (nV l).length = l.length := List.length_map ..
theorem nV_snoc (l : List Nat) (n : Nat) : nV l ++ [V.int (n : Int)] = nV (l ++ [n]) := by unfold nV; rw [List.map_append]; rfl
/-- a line of an answer, or a row -/
def IsLn (z : Ads) (H : Hp) (r : Addr) (g : Group) : Prop := ∃ dx t, H r = some (.ins z.L dx (fsLine [.ref t, .int g.sum, .int (g.n : Int)])) ∧ H t = some (.tup (nV g.key))
theorem IsLn.mono {z : Ads} {H H' : Hp} {r : Addr} {g : Group} (s : Same H H') (h : IsLn z H r g) : IsLn z H' r g := by
  obtain ⟨dx, t, h1, h2⟩ := h
  exact ⟨dx, t, s _ _ h1, s _ _ h2⟩
def IsQu (z : Ads) (H : Hp) (r : Addr) (a : Ask) : Prop := ∃ dx, H r = some (.ins z.Q dx (fsQue [.int (a.g : Int), .int (a.k : Int)]))
theorem IsQu.mono {z : Ads} {H H' : Hp} {r : Addr} {g : Ask} (s : Same H H') (h : IsQu z H r g) : IsQu z H' r g := by
  obtain ⟨dx, h1⟩ := h
  exact ⟨dx, s _ _ h1⟩
def rowG (r : Vamvsa.Row) : Group := ⟨r.vs, r.m, 1⟩
/-- a table's parts -/
structure TabAt (z : Ads) (H : Hp) (tb cl rl ql : Addr) (cas ras qas : List Addr) : Prop where
  obj : ∃ dx, H tb = some (.ins z.B dx (fsTab (.ref cl) (.ref rl) (.ref ql)))
  cols : H cl = some (.lst (rV cas))
  rows : H rl = some (.lst (rV ras))
  asks : H ql = some (.lst (rV qas))
theorem TabAt.mono {z : Ads} {H H' : Hp} {tb cl rl ql : Addr} {cas ras qas : List Addr} (s : Same H H') (h : TabAt z H tb cl rl ql cas ras qas) : TabAt z H' tb cl rl ql cas ras qas := by
  obtain ⟨⟨dx, h1⟩, h2, h3, h4⟩ := h
  exact ⟨⟨dx, s _ _ h1⟩, s _ _ h2, s _ _ h3, s _ _ h4⟩
theorem cur_tab {z : Ads} {dx tl dy : Addr} {i : Nat} {a b c : V} : HO.ins z.B dy (fsTab a b c) ≠ curO z dx tl i := fun e => by
  injection e with _ _ e
  injection e with _ e
  injection e with _ e
  cases e
theorem Cu.tab {z : Ads} {c dx tl : Addr} {ls r : Toks} {H0 H : Hp} (C : Cu z c dx tl ls H0 H r) {tb cl rl ql : Addr} {cas ras qas : List Addr} (t : TabAt z H tb cl rl ql cas ras qas) : tb ≠ c ∧ cl ≠ c ∧ rl ≠ c ∧ ql ≠ c := by
  obtain ⟨i, h, _⟩ := C.cur
  obtain ⟨⟨dy, h1⟩, h2, h3, h4⟩ := t
  exact ⟨ne_of h1 h cur_tab, ne_of h2 h (by intro z; cases z), ne_of h3 h (by intro z; cases z), ne_of h4 h (by intro z; cases z)⟩
theorem TabAt.but {z : Ads} {c dx tl : Addr} {ls r : Toks} {H0 H H' : Hp} (C : Cu z c dx tl ls H0 H r) {tb cl rl ql : Addr} {cas ras qas : List Addr} (b : But c H H') (t : TabAt z H tb cl rl ql cas ras qas) : TabAt z H' tb cl rl ql cas ras qas := by
  obtain ⟨n1, n2, n3, n4⟩ := C.tab t
  obtain ⟨⟨dy, h1⟩, h2, h3, h4⟩ := t
  exact ⟨⟨dy, b _ _ n1 h1⟩, b _ _ n2 h2, b _ _ n3 h3, b _ _ n4 h4⟩
theorem tabCols {a b c : V} : List.lookup ("columns" : Str) (fsTab a b c) = some a := lk_here
theorem tabRows {a b c : V} : List.lookup ("rows" : Str) (fsTab a b c) = some b := (lk_past (by decide +kernel)).trans lk_here
theorem tabAsks {a b c : V} : List.lookup ("questions" : Str) (fsTab a b c) = some c := (lk_past (by decide +kernel)).trans ((lk_past (by decide +kernel)).trans lk_here)
theorem cu_ne {z : Ads} {c dx tl : Addr} {ls r : Toks} {H0 H : Hp} (C : Cu z c dx tl ls H0 H r) {x : Addr} (h : H x = none) : x ≠ c := fun e => by
  obtain ⟨_, q, _⟩ := C.cur
  rw [← e, h] at q
  cases q
theorem noTake (tl : Addr) (i : Int) : List.lookup ("take" : Str) (curF tl i) = none := (lk_past (by decide +kernel)).trans ((lk_past (by decide +kernel)).trans rfl)
theorem noSkips (tl : Addr) (i : Int) : List.lookup ("skips" : Str) (curF tl i) = none := (lk_past (by decide +kernel)).trans ((lk_past (by decide +kernel)).trans rfl)
theorem noSees (tl : Addr) (i : Int) : List.lookup ("sees" : Str) (curF tl i) = none := (lk_past (by decide +kernel)).trans ((lk_past (by decide +kernel)).trans rfl)
section
variable {P : Program} {w : World} {K : PySem.W.Frag} {mg : Str → Option Value} {base : Heap} {z : Ads}
/-- the class of tables, read -/
structure TbC (K : PySem.W.Frag) (z : Ads) : Prop where
  cl : Cls K z.B
  no : ∀ n ∈ (["columns", "rows", "questions"] : List Str), NoAttr K z.B n
/-! ### read_row -/
abbrev sReadRow : Stmt := topS 72
theorem scReadRow : FnScope ["cursor", "table", "word", "numbers", "amount"] ["cursor", "table"] (defScope sReadRow) := ⟨rfl, rfl, rfl, by decide +kernel, rfl, by decide +kernel, by decide +kernel⟩
def spRow (K : PySem.W.Frag) (z : Ads) : Sp := fun vs H Q E => ∃ (c dx tl : Addr) (ls : Toks) (H0 : Hp) (r : Toks) (tb cl rl ql : Addr) (cas ras qas : List Addr), vs = [.ref c, .ref tb] ∧ Sn K z c tl ls H0 ∧ Cu z c dx tl ls H0 H r ∧ TabAt z H tb cl rl ql cas ras qas ∧ 1 ≤ cas.length ∧ cas.length ≤ 4 ∧
  Out (readRow cas.length ras.length r) (fun y => ∀ x H', But c H H' → Cu z c dx tl ls H0 H' y.2 → H x = none → IsLn z H' x (rowG y.1) → Q (.ref x) H') (fun f => Flies z.F f.code f.place (But c H) E)
theorem okReadRow (D : Df K mg "read_row" sReadRow ["cursor", "table"]) (T : Tx P w K mg base z) (B : TbC K z) (O1 : OkM P w K mg base (L2.CX P w) 3 z.C "take" ["self", "kind"] (spTake K z)) (O2 : Ok P w K mg base (L2.CX P w) 4 "read_number" ["cursor", "least", "most"] (spNumber K z))
    (O3 : Ok P w K mg base (L2.CX P w) 5 "read_amount" ["cursor"] (spAmount K z)) : Ok P w K mg base (L2.CX P w) 6 "read_row" ["cursor", "table"] (spRow K z) := by
  refine D.ok fun f fd F => F.okX scReadRow (fun vs H Q E h => ?_) (fun cdv A outer s H vs Q E hr h => ?_)
  · obtain ⟨c, dx, tl, ls, H0, r, tb, cl, rl, ql, cas, ras, qas, rfl, _⟩ := h
    rfl
  obtain ⟨c, dx, tl, ls, H0, r, tb, cl, rl, ql, cas, ras, qas, rfl, S, C, tab, n1, n4, hQ⟩ := h
  refine ⟨_, pss_cons (ps_set (i := 2) scReadRow.nd rfl (.inl rfl) (pe_okm O1 T.cur.cl hr (by decide) (E := E) (passes_call (takes_of rfl rfl rfl rfl) (fun _ _ _ _ h => h)) (pv 0) (pa_cons pe_str pa_nil)))
    <| pss_cons (ps_if (pt_cmpR op_eq (pe_callB call_len_seq (by rfl) T.blt.len PySem.boot_len (pa_cons (pe_fld (pv 1) rfl) pa_nil)) (pe_gi T.cst.MOST_ROWS rfl) (nomark _))
      (pss_one (ps_flt T.flt rfl (hr.mono (by decide)) (takes_of rfl rfl rfl rfl) (pa_cons (pe_gi T.cst.TOO_MANY rfl) (pa_cons (pe_fld (pv 2) rfl) pa_nil)))) pss_nil)
    <| pss_cons (ps_set (i := 3) scReadRow.nd rfl (.inl rfl) (pe_lst (pa_cons (pe_ok O2 hr (by decide) rfl (E := E) (passes_call (takes_of rfl rfl rfl rfl) (fun _ _ _ _ h => h)) (pa_cons (pv 0) (pa_cons pe_int (pa_cons (pe_gi T.cst.GREATEST_VALUE rfl) pa_nil)))) pa_nil)))
    <| pss_cons (ps_while (passes_of rfl) (pt_cmpR op_lt (pe_callB call_len_seq (by rfl) T.blt.len PySem.boot_len (pa_cons (pv 3) pa_nil)) (pe_callB call_len_seq (by rfl) T.blt.len PySem.boot_len (pa_cons (pe_fld (pv 1) rfl) pa_nil)) (nomark _))
      (pss_cons (ps_expr (pe_okm O1 T.cur.cl hr (by decide) (E := E) (passes_call (takes_of rfl rfl rfl rfl) (fun _ _ _ _ h => h)) (pv 0) (pa_cons pe_str pa_nil)))
      <| pss_one (ps_expr (pe_bm PySem.F.plainAttrs_list PySem.F.slot_list_append PySem.F.type_list_append mt_append (pv 3)
        (pa_cons (pe_ok O2 hr (by decide) rfl (E := E) (passes_call (takes_of rfl rfl rfl rfl) (fun _ _ _ _ h => h)) (pa_cons (pv 0) (pa_cons pe_int (pa_cons (pe_gi T.cst.GREATEST_VALUE rfl) pa_nil)))) pa_nil)))))
    <| pss_cons (ps_expr (pe_okm O1 T.cur.cl hr (by decide) (E := E) (passes_call (takes_of rfl rfl rfl rfl) (fun _ _ _ _ h => h)) (pv 0) (pa_cons pe_str pa_nil)))
    <| pss_cons (ps_set (i := 4) scReadRow.nd rfl (.inl rfl) (pe_ok O3 hr (by decide) rfl (E := E) (passes_call (takes_of rfl rfl rfl rfl) (fun _ _ _ _ h => h)) (pa_cons (pv 0) pa_nil)))
    <| pss_cons (ps_expr (pe_okm O1 T.cur.cl hr (by decide) (E := E) (passes_call (takes_of rfl rfl rfl rfl) (fun _ _ _ _ h => h)) (pv 0) (pa_cons pe_str pa_nil)))
    <| pss_one (ps_ret (pe_mkc T.lin hr (by decide) rfl (pa_cons (pe_callTy call_tuple_of (by rfl) T.blt.tuple (by decide +kernel) (pa_cons (pv 3) pa_nil)) (pa_cons (pv 4) (pa_cons pe_int pa_nil))))), ?_⟩
  obtain ⟨i, hc, hd⟩ := C.cur
  refine ⟨_, rfl, c, dx, _, rfl, hc, noTake _ _, c, dx, tl, ls, H0, r, .row, rfl, S, C, by decide, ?_⟩
  unfold readRow at hQ
  cases e : take .row r with
  | error f => exact hQ.berr e
  | ok y =>
    obtain ⟨t, r1⟩ := y
    have hQ := hQ.bok e
    intro rT H1 b1 C1 tk
    obtain ⟨bb, said, _, dT, h2⟩ := tk
    have h2 := C1.same _ _ h2
    have tab1 := tab.but C b1
    obtain ⟨⟨dy, ht1⟩, ht2, ht3, ht4⟩ := id tab1
    refine ⟨_, rfl, _, z.B, dy, _, _, rfl, ht1, B.cl, B.no _ (by simp), tabRows, _, _, rfl, .inl (SqL.of ht3), rfl, _, rfl, ite2 (fun h3 => ?_) fun h3 => ?_⟩
    · have h3 := ieq h3
      rw [rV_len] at h3
      rw [if_pos (by omega)] at hQ
      exact ⟨_, rfl, rT, z.T, dT, _, _, rfl, h2, T.tok.cl, T.tok.no _ (by simp), tokPlace, Flies.use hQ fun d nd => b1.trans (But.of (same_new nd))⟩
    have h3 := ine h3
    rw [rV_len] at h3
    rw [if_neg (by omega)] at hQ
    refine ⟨_, rfl, c, dx, tl, ls, H0, r1, 0, 9, rfl, S, C1, ?_⟩
    cases e2 : readNumber 0 9 r1 with
    | error f => exact (hQ.berr e2).mono fun H' q => b1.trans q
    | ok y =>
      obtain ⟨n, r2⟩ := y
      have hQ := hQ.bok e2
      dsimp only at hQ
      intro H2 b2 C2
      refine ⟨by show 1 ≤ sizeLine; rw [sizeLine_eq]; decide, fun x hx => ?_⟩
      have xc := cu_ne C2 hx
      have b12 := b1.trans b2
      have hxH : H x = none := b12.free xc hx
      have hx0 : H0 x = none := C.same.free hxH
      have n4' := n4
      refine ⟨fun m σ H' => ∃ (us : List Nat) (r' : Toks), σ = [some (.ref c), some (.ref tb), some (.ref rT), some (.ref x), none] ∧ H' x = some (.lst (nV us)) ∧ Cu z c dx tl ls H0 H' r' ∧ But c H H' ∧ TabAt z H' tb cl rl ql cas ras qas ∧ us.length ≤ cas.length ∧ 1 ≤ us.length ∧
          moreValues (cas.length - us.length) us r' = moreValues (cas.length - 1) [n] r2 ∧ m = cas.length - us.length,
        ⟨_, [n], r2, rfl, upd_same, C2.but xc hx, but_new b12 hxH, (tab1.but C1 b2).mono (same_new hx), n1, Nat.le_refl _, rfl, rfl⟩, ?_⟩
      rintro m σ H' ⟨us, r', rfl, hx', C', b', tab', hu, hu1, em, rfl⟩
      obtain ⟨i', hc', _⟩ := C'.cur
      obtain ⟨⟨dy', ht1'⟩, ht2', _, _⟩ := id tab'
      rw [← em] at hQ
      refine ⟨_, rfl, _, _, rfl, .inl (SqL.of hx'), _, rfl, _, z.B, dy', _, _, rfl, ht1', B.cl, B.no _ (by simp), tabCols, _, _, rfl, .inl (SqL.of ht2'), _, _, rfl, rfl, _, rfl, ite2 (fun h4 => ?_) fun h4 => ?_⟩
      · have h4 := of_decide_eq_true h4
        rw [nV_len, rV_len] at h4
        obtain ⟨k, ek⟩ : ∃ k, cas.length - us.length = k + 1 := ⟨cas.length - us.length - 1, by omega⟩
        rw [ek] at hQ em
        refine ⟨_, fun _ _ h => h, ?_⟩
        refine ⟨_, rfl, c, dx, _, rfl, hc', noTake _ _, c, dx, tl, ls, H0, r', .comma, rfl, S, C', by decide, ?_⟩
        have step : moreValues (k + 1) us r' = (take .comma r').bind fun x => (readNumber 0 9 x.2).bind fun y => moreValues k (us ++ [y.1]) y.2 := rfl
        rw [step] at hQ
        cases e3 : take .comma r' with
        | error f => exact (hQ.bberr e3).mono fun H' q => b'.trans q
        | ok y =>
          obtain ⟨t3, r3⟩ := y
          have hQ := hQ.bbok e3
          dsimp only at hQ
          intro rT3 H3 b3 C3 _
          have hx3 := b3 _ _ xc hx'
          refine ⟨_, rfl, .inl ⟨rfl, _, SqL.of hx3⟩, _, rfl, c, dx, tl, ls, H0, r3, 0, 9, rfl, S, C3, ?_⟩
          cases e4 : readNumber 0 9 r3 with
          | error f => exact (hQ.bberr e4).mono fun H' q => (b'.trans b3).trans q
          | ok y =>
            obtain ⟨n4, r4⟩ := y
            intro H4 b4 C4
            have hx4 := b4 _ _ xc hx3
            refine ⟨x, _, _, rfl, rfl, hx4, ?_, ?_⟩
            · rw [nV_len, sizeLine_eq]; omega
            rw [nV_snoc]
            refine ⟨cas.length - (us ++ [n4]).length, by rw [List.length_append, List.length_singleton]; omega, us ++ [n4], r4, rfl, upd_same, C4.but2 xc hx0, but_new ((b'.trans b3).trans b4) hxH, ?_, ?_, ?_, ?_, rfl⟩
            · have tab4 := (tab'.but C' b3).but C3 b4
              obtain ⟨⟨dz, q1⟩, q2, q3, q4⟩ := tab4
              have ne : ∀ {y : Addr} {o : HO}, H4 y = some o → o ≠ .lst (nV us) → y ≠ x := fun h d => ne_of h hx4 d
              have nl : ∀ {as : List Addr} {y : Addr}, H y = some (.lst (rV as)) → y ≠ x := fun h => ne_of_none h hxH
              exact ⟨⟨dz, by rw [upd_ne (ne q1 (by intro z; cases z))]; exact q1⟩, by rw [upd_ne (nl tab.cols)]; exact q2, by rw [upd_ne (nl tab.rows)]; exact q3, by rw [upd_ne (nl tab.asks)]; exact q4⟩
            · rw [List.length_append, List.length_singleton]; omega
            · rw [List.length_append]; omega
            · rw [← em, step, e3]
              show _ = (readNumber 0 9 r3).bind _
              rw [e4]
              have : cas.length - (us ++ [n4]).length = k := by rw [List.length_append, List.length_singleton]; omega
              rw [this]
              rfl
      · have h4 := of_decide_eq_false (Bool.eq_false_iff.mpr h4)
        rw [nV_len, rV_len] at h4
        have e0 : cas.length - us.length = 0 := by omega
        rw [e0] at hQ
        have hQ := hQ.bok (a := (us, r')) rfl
        refine ⟨_, rfl, c, dx, _, rfl, hc', noTake _ _, c, dx, tl, ls, H0, r', .colon, rfl, S, C', by decide, ?_⟩
        cases e3 : take .colon r' with
        | error f => exact (hQ.berr e3).mono fun H' q => b'.trans q
        | ok y =>
          obtain ⟨t3, r3⟩ := y
          have hQ := hQ.bok e3
          intro rT3 H3 b3 C3 _
          refine ⟨_, rfl, c, dx, tl, ls, H0, r3, rfl, S, C3, ?_⟩
          have b3' := b'.trans b3
          cases e4 : readAmount r3 with
          | error f => exact (hQ.berr e4).mono fun H' q => b3'.trans q
          | ok y =>
            obtain ⟨m4, r4⟩ := y
            have hQ := hQ.bok e4
            intro H4 b4 C4
            have b4' := b3'.trans b4
            obtain ⟨i4, hc4, _⟩ := C4.cur
            refine ⟨_, rfl, c, dx, _, rfl, hc4, noTake _ _, c, dx, tl, ls, H0, r4, .semi, rfl, S, C4, by decide, ?_⟩
            cases e5 : take .semi r4 with
            | error f => exact (hQ.merr e5).mono fun H' q => b4'.trans q
            | ok y =>
              obtain ⟨t5, r5⟩ := y
              have hQ := hQ.mok e5
              intro rT5 H5 b5 C5 _
              have b5' := b4'.trans b5
              have hx5 : H5 x = some (.lst (nV us)) := b5 _ _ xc (b4 _ _ xc (b3 _ _ xc hx'))
              refine ⟨_, rfl, _, _, rfl, .inl ⟨SqL.of hx5, fun l hl => ⟨_, rfl, ?_⟩⟩⟩
              refine made2 rfl fun x6 H6 n6 s6 a6 => ?_
              have sl : Same H5 H6 := (same_new hl).trans s6
              obtain ⟨d6, a6⟩ := a6
              have C6 : Cu z c dx tl ls H0 H6 r5 := ⟨C5.same.trans sl, by
                obtain ⟨j, q1, q2⟩ := C5.cur
                exact ⟨j, sl _ _ q1, q2⟩, C5.fin⟩
              have nx6 : H5 x6 = none := (same_new (o := .tup (nV us)) hl).free n6
              exact hQ x6 H6 (b5'.trans (But.of sl)) C6 (b5'.free (cu_ne C5 nx6) nx6) ⟨d6, l, a6, s6 _ _ upd_same⟩
end
end Kg
namespace Kg
open PySem PySem.Spec PyProof.Rows L2
open VamvsBase (isLetter isDigit isBlank PTok Toks)
open Vamvsa (Ask Table Group)
theorem bit_small : ∀ g : Fin 16, ∀ i : Fin 4, ((g.val &&& 2 ^ i.val) != 0) = decide (g.val / 2 ^ i.val % 2 = 1) ∧ (g.val / 2 ^ i.val % 2 ≠ 1 → g.val ||| 2 ^ i.val = g.val + 2 ^ i.val) := by decide +kernel
theorem bitA (g i : Nat) : Builtin.bitAnd (g : Int) (1 * 2 ^ ((i : Nat) : Int).toNat) = ((g &&& 2 ^ i : Nat) : Int) := by
  have e : (1 : Int) * 2 ^ ((i : Nat) : Int).toNat = ((2 ^ i : Nat) : Int) := by
    rw [Int.one_mul, Int.toNat_natCast]
    norm_cast
  rw [e, bitAnd_pp (Int.natCast_nonneg _) (Int.natCast_nonneg _), Int.toNat_natCast, Int.toNat_natCast]
theorem bitO (g i : Nat) : Builtin.bitOr (g : Int) (1 * 2 ^ ((i : Nat) : Int).toNat) = ((g ||| 2 ^ i : Nat) : Int) := by
  have e : (1 : Int) * 2 ^ ((i : Nat) : Int).toNat = ((2 ^ i : Nat) : Int) := by
    rw [Int.one_mul, Int.toNat_natCast]
    norm_cast
  rw [e, Bits.bitOr_pp (Int.natCast_nonneg _) (Int.natCast_nonneg _), Int.toNat_natCast, Int.toNat_natCast]
theorem later3 {α β γ : Type} {p : α → β → γ → Prop} {T : α → β → γ → Prop} {G : Prop} (main : (∀ a b c, p a b c → T a b c) → G) (after : ∀ a b c, p a b c → T a b c) : G := main after
section
variable {P : Program} {w : World} {K : PySem.W.Frag} {mg : Str → Option Value} {base : Heap} {z : Ads}
/-! ### read_asked -/
abbrev sReadAsked : Stmt := topS 76
theorem scReadAsked : FnScope ["cursor", "columns", "grouping", "token", "bit"] ["cursor", "columns", "grouping"] (defScope sReadAsked) := ⟨rfl, rfl, rfl, by decide +kernel, rfl, by decide +kernel, by decide +kernel⟩
def spAsked (K : PySem.W.Frag) (z : Ads) : Sp := fun vs H Q E => ∃ (c dx tl : Addr) (ls : Toks) (H0 : Hp) (r : Toks) (cl : Addr) (cas : List Addr) (us : List By) (g : Nat), vs = [.ref c, .ref cl, .int (g : Int)] ∧ Sn K z c tl ls H0 ∧ Cu z c dx tl ls H0 H r ∧ H cl = some (.lst (rV cas)) ∧ Al (LB H0) cas us ∧ us.length ≤ 4 ∧ g < 2 ^ us.length ∧
  Out (readAsked us g r) (fun y => ∀ H', But c H H' → Cu z c dx tl ls H0 H' y.2 → Q (.int (y.1 : Int)) H') (fun f => Flies z.F f.code f.place (But c H) E)
theorem okReadAsked (D : Df K mg "read_asked" sReadAsked ["cursor", "columns", "grouping"]) (T : Tx P w K mg base z) (O1 : OkM P w K mg base (L2.CX P w) 3 z.C "take" ["self", "kind"] (spTake K z)) : Ok P w K mg base (L2.CX P w) 4 "read_asked" ["cursor", "columns", "grouping"] (spAsked K z) := by
  refine D.ok fun f fd F => F.okX scReadAsked (fun vs H Q E h => ?_) (fun cdv A outer s H vs Q E hr h => ?_)
  · obtain ⟨c, dx, tl, ls, H0, r, cl, cas, us, g, rfl, _⟩ := h
    rfl
  obtain ⟨c, dx, tl, ls, H0, r, cl, cas, us, g, rfl, S, C, hcl, al, hu4, hg, hQ⟩ := h
  refine ⟨_, pss_cons (ps_set (i := 3) scReadAsked.nd rfl (.inl rfl) (pe_okm O1 T.cur.cl hr (by decide) (E := E) (passes_call (takes_of rfl rfl rfl rfl) (fun _ _ _ _ h => h)) (pv 0) (pa_cons pe_str pa_nil)))
    <| pss_cons (ps_if (pt_cmpR (op_notInD (room65 hr)) (pe_fld (pv 3) rfl) (pv 1) (by rfl))
      (pss_one (ps_flt T.flt rfl (hr.mono (by decide)) (takes_of rfl rfl rfl rfl) (pa_cons (pe_gi T.cst.NO_COLUMN rfl) (pa_cons (pe_fld (pv 3) rfl) pa_nil)))) pss_nil)
    <| pss_cons (ps_set (i := 4) scReadAsked.nd rfl (.inl rfl) (pe_op op_shl pe_int (pe_bm PySem.F.plainAttrs_list PySem.F.slot_list_index PySem.F.type_list_index (mt_indexD (room65 hr)) (pv 1) (pa_cons (pe_fld (pv 3) rfl) pa_nil))))
    <| pss_cons (ps_if (pt_truth (pe_op op_and (pv 2) (pv 4)) (by intro _; rfl))
      (pss_one (ps_flt T.flt rfl (hr.mono (by decide)) (takes_of rfl rfl rfl rfl) (pa_cons (pe_gi T.cst.ASKED_TWICE rfl) (pa_cons (pe_fld (pv 3) rfl) pa_nil)))) pss_nil)
    <| pss_one (ps_ret (pe_op op_or (pv 2) (pv 4))), ?_⟩
  obtain ⟨i, hc, hd⟩ := C.cur
  refine ⟨_, rfl, c, dx, _, rfl, hc, noTake _ _, c, dx, tl, ls, H0, r, .name, rfl, S, C, by decide, ?_⟩
  unfold readAsked at hQ
  cases e : take .name r with
  | error f => exact hQ.berr e
  | ok y =>
    obtain ⟨t, r1⟩ := y
    obtain ⟨e1, e2⟩ := take_len e
    obtain ⟨u, en⟩ := kd_name e2
    have hQ := hQ.bok e
    have hn : nameOf t.tok = u := by rw [en]; rfl
    dsimp only at hQ
    rw [hn] at hQ
    intro rT H1 b1 C1 tk
    obtain ⟨bb, said, h1, dT, h2⟩ := tk
    have h2 := C1.same _ _ h2
    rw [en] at h1
    obtain ⟨_, a, rfl, ha⟩ := (show u ≠ [] ∧ ∃ a, said = .ref a ∧ H0 a = some (.lst (bV u)) from h1)
    have ha1 : LB H1 a u := C1.same _ _ ha
    have al1 : Al (LB H1) cas us := al.mono fun p q e => C1.same _ _ e
    have clc : cl ≠ c := ne_of hcl hc (by intro z; cases z)
    have hcl1 := b1 _ _ clc hcl
    have pl := tokPlace (a := .str (kdStr (kd t.tok))) (b := .ref a) (c := .int (t.place : Int)) (d := bb)
    refine ⟨_, rfl, rT, z.T, dT, _, _, rfl, h2, T.tok.cl, T.tok.no _ (by simp), tokSaid, _, rfl, pdW u, us.map pdW, ha1.dp, .lst (SqL.of hcl1) (dp_names al1), pdW_shaped u, pdWs_shaped us, _, rfl, ?_⟩
    rw [names_any]
    cases ef : us.findIdx? (fun c => c == u) with
    | none =>
      have no : us.contains u = false := by
        rw [List.findIdx?_eq_none_iff] at ef
        cases q : us.contains u with
        | false => rfl
        | true =>
          have := ef u (List.contains_iff_mem.mp q)
          simp at this
      rw [ef] at hQ
      rw [no]
      exact ⟨_, rfl, rT, z.T, dT, _, _, rfl, h2, T.tok.cl, T.tok.no _ (by simp), pl, Flies.use hQ fun d nd => b1.trans (But.of (same_new nd))⟩
    | some j =>
      rw [ef] at hQ
      obtain ⟨hj, q1, q2⟩ := List.findIdx?_eq_some_iff_getElem.mp ef
      have q1 : us[j] = u := by simpa using q1
      have yes : us.contains u = true := List.contains_iff_mem.mpr (by rw [← q1]; exact List.getElem_mem hj)
      rw [yes]
      have hju : us[j]? = some u := by rw [List.getElem?_eq_getElem hj, q1]
      refine ⟨_, rfl, .inl ⟨rfl, _, SqL.of hcl1⟩, _, rfl, rT, z.T, dT, _, _, rfl, h2, T.tok.cl, T.tok.no _ (by simp), tokSaid, cl, .ref a, pdW u, us.map pdW, j, pdW u, rfl, rfl, .lst (SqL.of hcl1) (dp_names al1), ha1.dp, pdWs_shaped us, pdW_shaped u, ?_, ?_, ?_, ?_⟩
      · rw [List.getElem?_map, hju]; rfl
      · rw [pdW_eqv]; exact decide_eq_true rfl
      · intro m z' hm hz
        rw [List.getElem?_map] at hz
        have hml : m < us.length := Nat.lt_trans hm hj
        rw [List.getElem?_eq_getElem hml] at hz
        cases hz
        rw [pdW_eqv]
        refine decide_eq_false fun e => ?_
        have := q2 m hm
        simp [e] at this
      have hg16 : g < 16 := Nat.lt_of_lt_of_le hg (Nat.pow_le_pow_right (n := 2) (by decide) hu4)
      obtain ⟨s1, s2⟩ := bit_small ⟨g, hg16⟩ ⟨j, by omega⟩
      have s1 : ((g &&& 2 ^ j) != 0) = decide (g / 2 ^ j % 2 = 1) := s1
      refine ⟨_, _, rfl, rfl, ⟨by omega, by omega, by decide⟩, ?_⟩
      refine ⟨_, rfl, _, rfl, _, _, rfl, rfl, _, rfl, ?_⟩
      have ek : (Builtin.bitAnd (g : Int) (1 * 2 ^ ((j : Nat) : Int).toNat) != 0) = decide (g / 2 ^ j % 2 = 1) := by
        rw [bitA, ← s1, Bool.eq_iff_iff]
        simp
      rw [ek]
      refine ite2 (fun h4 => ?_) fun h4 => ?_
      · have h4 := of_decide_eq_true h4
        have hQ : Out (if g / 2 ^ j % 2 = 1 then (.error ⟨6, t.place⟩ : Except VamvsBase.Fault (Nat × Toks)) else .ok (g + 2 ^ j, r1)) _ _ := hQ
        rw [if_pos h4] at hQ
        exact ⟨_, rfl, rT, z.T, dT, _, _, rfl, h2, T.tok.cl, T.tok.no _ (by simp), pl, Flies.use hQ fun d nd => b1.trans (But.of (same_new nd))⟩
      · have h4 := of_decide_eq_false (Bool.eq_false_iff.mpr h4)
        have hQ : Out (if g / 2 ^ j % 2 = 1 then (.error ⟨6, t.place⟩ : Except VamvsBase.Fault (Nat × Toks)) else .ok (g + 2 ^ j, r1)) _ _ := hQ
        rw [if_neg h4] at hQ
        refine ⟨_, rfl, _, rfl, _, _, rfl, rfl, ?_⟩
        have eo : Builtin.bitOr (g : Int) (1 * 2 ^ ((j : Nat) : Int).toNat) = ((g + 2 ^ j : Nat) : Int) := by rw [bitO]; exact congrArg Int.ofNat (s2 h4)
        show Q (.int (Builtin.bitOr (g : Int) (1 * 2 ^ ((j : Nat) : Int).toNat))) H1
        rw [eo]
        exact hQ H1 b1 C1
end
end Kg
namespace Kg
open PySem PySem.Spec PyProof.Rows L2
open VamvsBase (isLetter isDigit isBlank PTok Toks)
open Vamvsa (Ask Table Group)
section
variable {P : Program} {w : World} {K : PySem.W.Frag} {mg : Str → Option Value} {base : Heap} {z : Ads}
/-! ### read_question -/
abbrev sReadQuestion : Stmt := topS 75
theorem scReadQuestion : FnScope ["cursor", "table", "word", "grouping", "times"] ["cursor", "table"] (defScope sReadQuestion) := ⟨rfl, rfl, rfl, by decide +kernel, rfl, by decide +kernel, by decide +kernel⟩
def spQuestion (K : PySem.W.Frag) (z : Ads) : Sp := fun vs H Q E => ∃ (c dx tl : Addr) (ls : Toks) (H0 : Hp) (r : Toks) (tb cl rl ql : Addr) (cas ras qas : List Addr) (us : List By), vs = [.ref c, .ref tb] ∧ Sn K z c tl ls H0 ∧ Cu z c dx tl ls H0 H r ∧ TabAt z H tb cl rl ql cas ras qas ∧ Al (LB H0) cas us ∧ us.length ≤ 4 ∧
  Out (readQuestion us qas.length r) (fun y => ∀ x H', But c H H' → Cu z c dx tl ls H0 H' y.2 → H x = none → IsQu z H' x y.1 → Q (.ref x) H') (fun f => Flies z.F f.code f.place (But c H) E)
theorem okReadQuestion (D : Df K mg "read_question" sReadQuestion ["cursor", "table"]) (T : Tx P w K mg base z) (B : TbC K z) (O0 : OkM P w K mg base CX0 1 z.C "sees" ["self", "kind"] (spSees K z)) (O1 : OkM P w K mg base (L2.CX P w) 3 z.C "take" ["self", "kind"] (spTake K z)) (O2 : OkM P w K mg base CX0 2 z.C "skips" ["self", "kind"] (spSkips K z))
    (O3 : Ok P w K mg base (L2.CX P w) 4 "read_number" ["cursor", "least", "most"] (spNumber K z)) (O4 : Ok P w K mg base (L2.CX P w) 4 "read_asked" ["cursor", "columns", "grouping"] (spAsked K z)) : Ok P w K mg base (L2.CX P w) 6 "read_question" ["cursor", "table"] (spQuestion K z) := by
  refine D.ok fun f fd F => F.okX scReadQuestion (fun vs H Q E h => ?_) (fun cdv A outer s H vs Q E hr h => ?_)
  · obtain ⟨c, dx, tl, ls, H0, r, tb, cl, rl, ql, cas, ras, qas, us, rfl, _⟩ := h
    rfl
  obtain ⟨c, dx, tl, ls, H0, r, tb, cl, rl, ql, cas, ras, qas, us, rfl, S, C, tab, al, n4, hQ⟩ := h
  refine ⟨_, pss_cons (ps_set (i := 2) scReadQuestion.nd rfl (.inl rfl) (pe_okm O1 T.cur.cl hr (by decide) (E := E) (passes_call (takes_of rfl rfl rfl rfl) (fun _ _ _ _ h => h)) (pv 0) (pa_cons pe_str pa_nil)))
    <| pss_cons (ps_if (pt_cmpR op_eq (pe_callB call_len_seq (by rfl) T.blt.len PySem.boot_len (pa_cons (pe_fld (pv 1) rfl) pa_nil)) (pe_gi T.cst.MOST_QUESTIONS rfl) (nomark _))
      (pss_one (ps_flt T.flt rfl (hr.mono (by decide)) (takes_of rfl rfl rfl rfl) (pa_cons (pe_gi T.cst.TOO_MANY rfl) (pa_cons (pe_fld (pv 2) rfl) pa_nil)))) pss_nil)
    <| pss_cons (ps_set (i := 3) scReadQuestion.nd rfl (.inl rfl) pe_int)
    <| pss_cons (ps_if (pt_val (pe_okm O0 T.cur.cl hr (by decide) pass0 (pv 0) (pa_cons pe_str pa_nil)))
      (pss_cons (ps_set (i := 3) scReadQuestion.nd rfl (.inl rfl) (pe_ok O4 hr (by decide) rfl (E := E) (passes_call (takes_of rfl rfl rfl rfl) (fun _ _ _ _ h => h)) (pa_cons (pv 0) (pa_cons (pe_fld (pv 1) rfl) (pa_cons (pv 3) pa_nil)))))
      <| pss_one (ps_while (passes_of rfl) (pt_val (pe_okm O2 T.cur.cl hr (by decide) pass0 (pv 0) (pa_cons pe_str pa_nil)))
        (pss_one (ps_set (i := 3) scReadQuestion.nd rfl (.inl rfl) (pe_ok O4 hr (by decide) rfl (E := E) (passes_call (takes_of rfl rfl rfl rfl) (fun _ _ _ _ h => h)) (pa_cons (pv 0) (pa_cons (pe_fld (pv 1) rfl) (pa_cons (pv 3) pa_nil)))))))) pss_nil)
    <| pss_cons (ps_set (i := 4) scReadQuestion.nd rfl (.inl rfl) pe_int)
    <| pss_cons (ps_if (pt_val (pe_okm O2 T.cur.cl hr (by decide) pass0 (pv 0) (pa_cons pe_str pa_nil)))
      (pss_one (ps_set (i := 4) scReadQuestion.nd rfl (.inl rfl) (pe_ok O3 hr (by decide) rfl (E := E) (passes_call (takes_of rfl rfl rfl rfl) (fun _ _ _ _ h => h)) (pa_cons (pv 0) (pa_cons pe_int (pa_cons (pe_gi T.cst.MOST_TIMES rfl) pa_nil)))))) pss_nil)
    <| pss_cons (ps_expr (pe_okm O1 T.cur.cl hr (by decide) (E := E) (passes_call (takes_of rfl rfl rfl rfl) (fun _ _ _ _ h => h)) (pv 0) (pa_cons pe_str pa_nil)))
    <| pss_one (ps_ret (pe_mkc T.que hr (by decide) rfl (pa_cons (pv 3) (pa_cons (pv 4) pa_nil)))), ?_⟩
  obtain ⟨i, hc, hd⟩ := C.cur
  refine ⟨_, rfl, c, dx, _, rfl, hc, noTake _ _, c, dx, tl, ls, H0, r, .ask, rfl, S, C, by decide, ?_⟩
  unfold readQuestion at hQ
  cases e : take .ask r with
  | error f => exact hQ.berr e
  | ok y =>
    obtain ⟨t, r1⟩ := y
    have hQ := hQ.bok e
    dsimp only at hQ
    intro rT H1 b1 C1 tk
    obtain ⟨bb, said, _, dT, h2⟩ := tk
    have h2 := C1.same _ _ h2
    have tab1 := tab.but C b1
    obtain ⟨⟨dy, ht1⟩, ht2, ht3, ht4⟩ := id tab1
    refine ⟨_, rfl, _, z.B, dy, _, _, rfl, ht1, B.cl, B.no _ (by simp), tabAsks, _, _, rfl, .inl (SqL.of ht4), rfl, _, rfl, ite2 (fun h3 => ?_) fun h3 => ?_⟩
    · have h3 := ieq h3
      rw [rV_len] at h3
      rw [if_pos (by omega)] at hQ
      exact ⟨_, rfl, rT, z.T, dT, _, _, rfl, h2, T.tok.cl, T.tok.no _ (by simp), tokPlace, Flies.use hQ fun d nd => b1.trans (But.of (same_new nd))⟩
    have h3 := ine h3
    rw [rV_len] at h3
    rw [if_neg (by omega)] at hQ
    obtain ⟨i1, hc1, _⟩ := C1.cur
    refine ⟨_, rfl, c, dx, _, rfl, hc1, noSees _ _, c, dx, tl, ls, H0, r1, .name, rfl, S, C1, _, rfl, ?_⟩
    refine' later3 (p := fun (g : Nat) (r' : Toks) (H' : Hp) => readGroup us r1 = .ok (g, r') ∧ But c H H' ∧ Cu z c dx tl ls H0 H' r') (fun after => ?_) ?_; rotate_left
    · refine ite2 (fun hs => ?_) fun hs => ?_
      · have eg : readGroup us r1 = (readAsked us 0 r1).bind fun x => moreAsked us x.1 x.2 := by unfold readGroup; rw [if_pos hs]
        rw [eg] at hQ
        refine ⟨_, rfl, _, rfl, _, z.B, dy, _, _, rfl, ht1, B.cl, B.no _ (by simp), tabCols, _, rfl, c, dx, tl, ls, H0, r1, cl, cas, us, 0, rfl, S, C1, ht2, al, n4, Nat.pow_pos (by decide), ?_⟩
        cases e2 : readAsked us 0 r1 with
        | error f => exact (hQ.bberr e2).mono fun H' q => b1.trans q
        | ok y =>
          obtain ⟨g2, r2⟩ := y
          have hQ := hQ.bbok e2
          dsimp only at hQ
          intro H2 b2 C2
          refine ⟨fun n σ H' => ∃ (g : Nat) (r' : Toks), σ = [some (.ref c), some (.ref tb), some (.ref rT), some (.int (g : Int)), none] ∧ Cu z c dx tl ls H0 H' r' ∧ But c H H' ∧ TabAt z H' tb cl rl ql cas ras qas ∧ g < 2 ^ us.length ∧
            moreAsked us g r' = moreAsked us g2 r2 ∧ n = r'.length, ⟨_, g2, r2, rfl, C2, b1.trans b2, tab1.but C1 b2, (readAsked_bound e2 (Nat.pow_pos (by decide))).1, rfl, rfl⟩, ?_⟩
          rintro n σ H' ⟨g, r', rfl, C', b', tab', hg, em, rfl⟩
          obtain ⟨i', hc', _⟩ := C'.cur
          obtain ⟨⟨dy', ht1'⟩, ht2', _, _⟩ := id tab'
          rw [← em] at hQ
          refine ⟨_, rfl, c, dx, _, rfl, hc', noSkips _ _, c, dx, tl, ls, H0, r', .comma, rfl, S, C', by decide, fun hs2 => ?_, fun hs2 H3 b3 C3 => ?_⟩
          · refine ⟨_, rfl, iteF (after g r' H' ⟨?_, b', C'⟩)⟩
            rw [eg, e2]
            show moreAsked us g2 r2 = _
            rw [← em, moreAsked_eq, if_neg (by rw [hs2]; exact Bool.false_ne_true)]
          · refine ⟨_, rfl, iteT ⟨_, fun _ _ h => h, ?_⟩⟩
            rw [moreAsked_eq, if_pos hs2] at hQ
            have tab3 := tab'.but C' b3
            obtain ⟨⟨dy3, ht13⟩, ht23, _, _⟩ := id tab3
            refine ⟨_, rfl, _, rfl, _, z.B, dy3, _, _, rfl, ht13, B.cl, B.no _ (by simp), tabCols, _, rfl, c, dx, tl, ls, H0, r'.drop 1, cl, cas, us, g, rfl, S, C3, ht23, al, n4, hg, ?_⟩
            cases e4 : readAsked us g (r'.drop 1) with
            | error f => exact (hQ.bberr e4).mono fun H' q => (b'.trans b3).trans q
            | ok y =>
              obtain ⟨g4, r4⟩ := y
              intro H4 b4 C4
              obtain ⟨q1, q2⟩ := readAsked_bound e4 hg
              rw [List.length_drop] at q2
              refine ⟨r4.length, by omega, g4, r4, rfl, C4, (b'.trans b3).trans b4, tab3.but C3 b4, q1, ?_, rfl⟩
              rw [← em, moreAsked_eq us g r', if_pos hs2, e4]
              rfl
      · refine after 0 r1 H1 ⟨?_, b1, C1⟩
        unfold readGroup
        rw [if_neg hs]
    · rintro g r2 H2 ⟨eg, b2, C2⟩
      have hQ := hQ.bok eg
      dsimp only at hQ
      obtain ⟨i2, hc2, _⟩ := C2.cur
      refine ⟨_, rfl, c, dx, _, rfl, hc2, noSkips _ _, c, dx, tl, ls, H0, r2, .times, rfl, S, C2, by decide, ?_⟩
      refine' later3 (p := fun (k : Nat) (r' : Toks) (H' : Hp) => readTimes r2 = .ok (k, r') ∧ But c H H' ∧ Cu z c dx tl ls H0 H' r') (fun after => ?_) ?_; rotate_left
      · refine And.symm ⟨fun hs H3 b3 C3 => ?_, fun hs => ?_⟩
        · have ek : readTimes r2 = readNumber 1 99 (r2.drop 1) := by unfold readTimes; rw [if_pos hs]
          rw [ek] at hQ
          refine ⟨_, rfl, iteT ?_⟩
          refine ⟨_, rfl, c, dx, tl, ls, H0, r2.drop 1, 1, 99, rfl, S, C3, ?_⟩
          cases e4 : readNumber 1 99 (r2.drop 1) with
          | error f => exact (hQ.berr e4).mono fun H' q => (b2.trans b3).trans q
          | ok y =>
            obtain ⟨k4, r4⟩ := y
            intro H4 b4 C4
            exact after k4 r4 H4 ⟨ek.trans e4, (b2.trans b3).trans b4, C4⟩
        · refine ⟨_, rfl, iteF (after 1 r2 H2 ⟨?_, b2, C2⟩)⟩
          unfold readTimes
          rw [if_neg (by rw [hs]; exact Bool.false_ne_true)]
      · rintro k r3 H3 ⟨ek, b3, C3⟩
        have hQ := hQ.bok ek
        dsimp only at hQ
        obtain ⟨i3, hc3, _⟩ := C3.cur
        refine ⟨_, rfl, c, dx, _, rfl, hc3, noTake _ _, c, dx, tl, ls, H0, r3, .semi, rfl, S, C3, by decide, ?_⟩
        cases e5 : take .semi r3 with
        | error f => exact (hQ.merr e5).mono fun H' q => b3.trans q
        | ok y =>
          obtain ⟨t5, r5⟩ := y
          have hQ := hQ.mok e5
          intro rT5 H5 b5 C5 _
          have b5' := b3.trans b5
          refine ⟨_, rfl, _, rfl, made2 rfl fun x6 H6 n6 s6 a6 => ?_⟩
          have C6 : Cu z c dx tl ls H0 H6 r5 := ⟨C5.same.trans s6, by
            obtain ⟨j, q1, q2⟩ := C5.cur
            exact ⟨j, s6 _ _ q1, q2⟩, C5.fin⟩
          exact hQ x6 H6 (b5'.trans (But.of s6)) C6 (b5'.free (cu_ne C5 n6) n6) a6
end
end Kg
namespace Kg
open PySem PySem.Spec PyProof.Rows L2
open VamvsBase (isLetter isDigit isBlank PTok Toks)
open Vamvsa (Ask Table Group)
/-- a table, read -/
def IsTab (z : Ads) (H : Hp) (tb : Addr) (t : Table) : Prop := ∃ cl rl ql cas ras qas, TabAt z H tb cl rl ql cas ras qas ∧ Al (LB H) cas t.cols ∧ Al (fun r x => IsLn z H r (rowG x)) ras t.rows ∧ Al (IsQu z H) qas t.asks
theorem IsTab.mono {z : Ads} {H H' : Hp} {tb : Addr} {t : Table} (s : Same H H') (h : IsTab z H tb t) : IsTab z H' tb t := by
  obtain ⟨cl, rl, ql, cas, ras, qas, h1, h2, h3, h4⟩ := h
  exact ⟨cl, rl, ql, cas, ras, qas, h1.mono s, h2.mono fun _ _ e => s _ _ e, h3.mono fun _ _ e => e.mono s, h4.mono fun _ _ e => e.mono s⟩
theorem IsLn.upd {z : Ads} {H : Hp} {r l : Addr} {g : Group} {xs : List V} {o : HO} (hl : H l = some (.lst xs)) (h : IsLn z H r g) : IsLn z (upd H l o) r g := by
  obtain ⟨dx, t, h1, h2⟩ := h
  exact ⟨dx, t, by rw [upd_ne (ne_of h1 hl (by intro z; cases z))]; exact h1, by rw [upd_ne (ne_of h2 hl (by intro z; cases z))]; exact h2⟩
theorem IsQu.upd {z : Ads} {H : Hp} {r l : Addr} {g : Ask} {xs : List V} {o : HO} (hl : H l = some (.lst xs)) (h : IsQu z H r g) : IsQu z (upd H l o) r g := by
  obtain ⟨dx, h1⟩ := h
  exact ⟨dx, by rw [upd_ne (ne_of h1 hl (by intro z; cases z))]; exact h1⟩
theorem cur_line {z : Ads} {dx tl dy : Addr} {i : Nat} {a b c : V} : HO.ins z.L dy (fsLine [a, b, c]) ≠ curO z dx tl i := fun e => by
  injection e with _ _ e
  injection e with _ e
  injection e with _ e
  cases e
theorem cur_que {z : Ads} {dx tl dy : Addr} {i : Nat} {a b : V} : HO.ins z.Q dy (fsQue [a, b]) ≠ curO z dx tl i := fun e => by
  injection e with _ _ e
  injection e with e _
  injection e with e _
  exact absurd e (by decide +kernel)
theorem IsLn.but {z : Ads} {c dx tl : Addr} {ls r : Toks} {H0 H H' : Hp} {x : Addr} {g : Group} (C : Cu z c dx tl ls H0 H r) (b : But c H H') (h : IsLn z H x g) : IsLn z H' x g := by
  obtain ⟨i, hc, _⟩ := C.cur
  obtain ⟨dy, t, h1, h2⟩ := h
  exact ⟨dy, t, b _ _ (ne_of h1 hc cur_line) h1, b _ _ (ne_of h2 hc (by intro z; cases z)) h2⟩
theorem IsQu.but {z : Ads} {c dx tl : Addr} {ls r : Toks} {H0 H H' : Hp} {x : Addr} {g : Ask} (C : Cu z c dx tl ls H0 H r) (b : But c H H') (h : IsQu z H x g) : IsQu z H' x g := by
  obtain ⟨i, hc, _⟩ := C.cur
  obtain ⟨dy, h1⟩ := h
  exact ⟨dy, b _ _ (ne_of h1 hc cur_que) h1⟩
section
variable {P : Program} {w : World} {K : PySem.W.Frag} {mg : Str → Option Value} {base : Heap} {z : Ads}
structure TbM (P : Program) (w : World) (K : PySem.W.Frag) (mg : Str → Option Value) (base : Heap) (z : Ads) : Prop where
  g : mg "Table" = some (.ref z.B)
  ini : ∃ f fd, Mk K z.B f ∧ FnOk P w K mg base CX0 1 f fd ["self", "columns"] (spTabI z.B) ∧ Binds K fd ["self", "columns"] []
  c : TbC K z
theorem pe_tab {X : Cx} {z : Ads} {k : Nat} {e : Expr} {es : List Expr} {t : TA} {p pos : Pos} (M : TbM X.prog X.w X.K X.mg X.base z) (hr : Room k X.A) (hk : 2 ≤ k) (hg : Gl X "Table") (ha : PA X (e :: es) t)
    (he : starEach (e :: es) X.env = (false, eval e X.env) :: starEach es X.env := by rfl) (hpl : (backTo pos (starEach es X.env)).any (·.1) = false := by rfl) :
    PE X (.Call (.Name "Table" p) (e :: es) [] pos) (tMake z.B (spTabI z.B) [] E0 t) := by
  obtain ⟨f, fd, m, F, b⟩ := M.ini
  exact pe_make m F (hr.mono hk) hg M.g b .nil pass0 ha (he := he) (hpl := hpl)
/-! ### table_of -/
abbrev sTableOf : Stmt := topS 69
theorem scTableOf : FnScope ["text", "cursor", "table"] ["text"] (defScope sTableOf) := ⟨rfl, rfl, rfl, by decide +kernel, rfl, by decide +kernel, by decide +kernel⟩
def spTableOf (K : PySem.W.Frag) (z : Ads) : Sp := fun vs H Q E => ∃ (a : Addr) (b : By), vs = [.ref a] ∧ SqL K H a (bV b) ∧
  Out (Vamvsa.read b) (fun t => ∀ tb H', Same H H' → H tb = none → IsTab z H' tb t → Q (.ref tb) H') (fun f => Flies z.F f.code f.place (Same H) E)
theorem okTableOf (D : Df K mg "table_of" sTableOf ["text"]) (T : Tx P w K mg base z) (B : TbM P w K mg base z) (O0 : OkM P w K mg base CX0 1 z.C "sees" ["self", "kind"] (spSees K z)) (O1 : Ok P w K mg base (L2.CX P w) 5 "tokens_of" ["text"] (spTokens K z))
    (O2 : Ok P w K mg base (L2.CX P w) 5 "read_columns" ["cursor"] (spColumns K z)) (O3 : Ok P w K mg base (L2.CX P w) 6 "read_row" ["cursor", "table"] (spRow K z)) (O4 : Ok P w K mg base (L2.CX P w) 6 "read_question" ["cursor", "table"] (spQuestion K z)) :
    Ok P w K mg base (L2.CX P w) 7 "table_of" ["text"] (spTableOf K z) := by
  refine D.ok fun f fd F => F.okX scTableOf (fun vs H Q E h => ?_) (fun cdv A outer s H vs Q E hr h => ?_)
  · obtain ⟨a, b, rfl, _⟩ := h
    rfl
  obtain ⟨a, b, rfl, hS, hQ⟩ := h
  refine ⟨_, pss_cons (ps_if (pt_cmpR op_gt (pe_callB call_len_seq (by rfl) T.blt.len PySem.boot_len (pa_cons (pv 0) pa_nil)) (pe_gi T.cst.LONGEST_TEXT rfl) (nomark _))
      (pss_one (ps_flt T.flt rfl (hr.mono (by decide)) (takes_of rfl rfl rfl rfl) (pa_cons (pe_gi T.cst.TOO_LONG rfl) (pa_cons (pe_gi T.cst.LONGEST_TEXT rfl) pa_nil)))) pss_nil)
    <| pss_cons (ps_set (i := 1) scTableOf.nd rfl (.inl rfl) (pe_mkc T.cur hr (by decide) rfl (pa_cons (pe_ok O1 hr (by decide) rfl (E := E) (passes_call (takes_of rfl rfl rfl rfl) (fun _ _ _ _ h => h)) (pa_cons (pv 0) pa_nil)) pa_nil)))
    <| pss_cons (ps_set (i := 2) scTableOf.nd rfl (.inl rfl) (pe_tab B hr (by decide) rfl (pa_cons (pe_ok O2 hr (by decide) rfl (E := E) (passes_call (takes_of rfl rfl rfl rfl) (fun _ _ _ _ h => h)) (pa_cons (pv 1) pa_nil)) pa_nil)))
    <| pss_cons (ps_while (passes_of rfl) (pt_not (pt_val (pe_okm O0 T.cur.cl hr (by decide) pass0 (pv 1) (pa_cons pe_str pa_nil))))
      (pss_one (ps_if (pt_val (pe_okm O0 T.cur.cl hr (by decide) pass0 (pv 1) (pa_cons pe_str pa_nil)))
        (pss_one (ps_expr (pe_bm PySem.F.plainAttrs_list PySem.F.slot_list_append PySem.F.type_list_append mt_append (pe_fld (pv 2) rfl) (pa_cons (pe_ok O3 hr (by decide) rfl (E := E) (passes_call (takes_of rfl rfl rfl rfl) (fun _ _ _ _ h => h)) (pa_cons (pv 1) (pa_cons (pv 2) pa_nil))) pa_nil))))
        (pss_one (ps_expr (pe_bm PySem.F.plainAttrs_list PySem.F.slot_list_append PySem.F.type_list_append mt_append (pe_fld (pv 2) rfl) (pa_cons (pe_ok O4 hr (by decide) rfl (E := E) (passes_call (takes_of rfl rfl rfl rfl) (fun _ _ _ _ h => h)) (pa_cons (pv 1) (pa_cons (pv 2) pa_nil))) pa_nil)))))))
    <| pss_one (ps_ret (pv 2)), ?_⟩
  rw [read_eq, tokens_eq] at hQ
  refine ⟨_, rfl, _, _, rfl, .inl hS, _, _, rfl, rfl, _, rfl, ite2 (fun h1 => ?_) fun h1 => ?_⟩
  · have h1 := of_decide_eq_true h1
    rw [bV_len] at h1
    rw [if_pos (by omega)] at hQ
    exact Flies.use hQ fun d nd => same_new nd
  have h1 := of_decide_eq_false (Bool.eq_false_iff.mpr h1)
  rw [bV_len] at h1
  rw [if_neg (by omega)] at hQ
  refine ⟨_, rfl, a, b, rfl, hS, by omega, ?_⟩
  cases e : lexF 0 b with
  | error f => exact hQ.berr e
  | ok ts =>
    have hQ := hQ.bok e
    intro tl rs H1 s1 ntl hL al
    refine made2 rfl fun c H2 nc s2 a2 => ?_
    obtain ⟨dx, a2⟩ := a2
    have S : Sn K z c tl ts H1 := ⟨⟨rs, hL, al⟩, nc⟩
    have C2 : Cu z c dx tl ts H1 H2 ts := ⟨s2, ⟨0, a2, rfl⟩, lexF_ended _ _ _ _ e⟩
    refine ⟨_, rfl, c, dx, tl, ts, H1, ts, rfl, S, C2, ?_⟩
    have fr : ∀ {H'}, But c H2 H' → Same H H' := fun {H'} q => by
      intro y o hy
      exact q y o (ne_of_none (s1 _ _ hy) nc) (s2 _ _ (s1 _ _ hy))
    unfold readTable at hQ
    cases e2 : readColumns ts with
    | error f => exact (hQ.berr e2).mono fun H' q => fr q
    | ok y =>
      obtain ⟨us, r2⟩ := y
      have hQ := hQ.bok e2
      dsimp only at hQ
      obtain ⟨u1, u4, _, _⟩ := readColumns_good e2 (lexF_names _ _ _ _ e)
      intro cl cas H3 b3 C3 ncl hcl als
      intro tb dxb ntb ndb nebd
      refine ⟨tb, dxb, .ref cl, rfl, upd_same, fun H4 rl ql b4 h4 hr4 hq4 rq nr nq => ⟨rfl, ?_⟩⟩
      -- what is new
      have nr3 : H3 rl = none ∧ rl ≠ tb := by
        have n1 : rl ≠ tb := fun z => by rw [z, upd_same] at nr; cases nr
        have n2 : rl ≠ dxb := fun z => by rw [z, upd_ne nebd, upd_same] at nr; cases nr
        rw [upd_ne n1, upd_ne n2] at nr
        exact ⟨nr, n1⟩
      have nq3 : H3 ql = none ∧ ql ≠ tb := by
        have n1 : ql ≠ tb := fun z => by rw [z, upd_same] at nq; cases nq
        have n2 : ql ≠ dxb := fun z => by rw [z, upd_ne nebd, upd_same] at nq; cases nq
        rw [upd_ne n1, upd_ne n2] at nq
        exact ⟨nq, n1⟩
      have s34 : Same H3 H4 := fun y o hy => b4 y o (ne_of_none hy ntb) (by rw [upd_ne (ne_of_none hy ntb), upd_ne (ne_of_none hy ndb)]; exact hy)
      have s24 : Same H1 H3 := C3.same
      have C4 : Cu z c dx tl ts H1 H4 r2 := ⟨s24.trans s34, by
        obtain ⟨j, q1, q2⟩ := C3.cur
        exact ⟨j, s34 _ _ q1, q2⟩, C3.fin⟩
      have lrq : cl ≠ rl ∧ cl ≠ ql := ⟨ne_of_none hcl nr3.1, ne_of_none hcl nq3.1⟩
      have f1 : H1 rl = none ∧ H1 ql = none := ⟨s24.free nr3.1, s24.free nq3.1⟩
      have fr1 : ∀ {H'}, Same H1 H' → Same H H' := fun q => s1.trans q
      have fr2 : ∀ {H' H''}, Same H1 H' → But c H' H'' → Same H H'' := fun {H' H''} p q y o hy => q y o (ne_of_none (s1 _ _ hy) nc) (p _ _ (s1 _ _ hy))
      have hcas : cas.length = us.length := als.1
      refine ⟨fun n σ H' => ∃ (t : Table) (ras qas : List Addr) (r' : Toks), σ = [some (.ref a), some (.ref c), some (.ref tb)] ∧ Cu z c dx tl ts H1 H' r' ∧ TabAt z H' tb cl rl ql cas ras qas ∧ Al (fun r x => IsLn z H' r (rowG x)) ras t.rows ∧ Al (IsQu z H') qas t.asks ∧ t.cols = us ∧ t.rows.length ≤ 16 ∧ t.asks.length ≤ 8 ∧
        H tb = none ∧ readLines t r' = readLines ⟨us, [], []⟩ r2 ∧ n = r'.length, ⟨_, ⟨us, [], []⟩, [], [], r2, rfl, C4, ⟨⟨dxb, h4⟩, s34 _ _ hcl, hr4, hq4⟩, Al.nil, Al.nil, rfl, Nat.zero_le _, Nat.zero_le _, (s1.trans s24).free ntb, rfl, rfl⟩, ?_⟩
      rintro n σ H' ⟨t, ras, qas, r', rfl, C', tab', alr, alq, ec, h16, h8, ntH, em, rfl⟩
      obtain ⟨i', hc', _⟩ := C'.cur
      obtain ⟨⟨dy', ht1⟩, ht2, ht3, ht4⟩ := id tab'
      have hc1 : 1 ≤ t.cols.length := by rw [ec]; exact u1
      rw [← em, readLines_eq t r' hc1] at hQ
      refine ⟨_, rfl, c, dx, _, rfl, hc', noSees _ _, c, dx, tl, ts, H1, r', .fin, rfl, S, C', _, rfl, ?_⟩
      cases hf : sees .fin r' with
      | true =>
        rw [if_pos hf] at hQ
        refine ⟨_, rfl, hQ tb H' (fr1 C'.same) ntH ⟨cl, rl, ql, cas, ras, qas, tab', ?_, alr, alq⟩⟩
        rw [ec]
        exact als.mono fun _ _ q => C'.same _ _ q
      | false =>
        rw [if_neg (by rw [hf]; exact Bool.false_ne_true)] at hQ
        refine ⟨_, fun _ _ h => h, ?_⟩
        refine ⟨_, rfl, c, dx, _, rfl, hc', noSees _ _, c, dx, tl, ts, H1, r', .row, rfl, S, C', _, rfl, ite2 (fun hs => ?_) fun hs => ?_⟩
        · rw [if_pos hs, ec, ← hcas, ← alr.1] at hQ
          refine ⟨_, rfl, _, z.B, dy', _, _, rfl, ht1, B.c.cl, B.c.no _ (by simp), tabRows, .inl ⟨rfl, _, SqL.of ht3⟩, _, rfl, _, rfl, c, dx, tl, ts, H1, r', tb, cl, rl, ql, cas, ras, qas, rfl, S, C', tab', by omega, by omega, ?_⟩
          cases e5 : readRow cas.length ras.length r' with
          | error f => exact (hQ.berr e5).mono fun H' q => fr2 C'.same q
          | ok y =>
            obtain ⟨row, r5⟩ := y
            intro x H5 b5 C5 nx ln
            have tab5 := tab'.but C' b5
            obtain ⟨⟨dy5, hu1⟩, hu2, hu3, hu4⟩ := id tab5
            obtain ⟨q1, q2, q3⟩ := readRow_len (by omega) e5
            refine ⟨rl, _, _, rfl, rfl, hu3, ?_, ?_⟩
            · rw [rV_len, alr.1, sizeLine_eq]; omega
            rw [rV_snoc]
            have ne1 : tb ≠ rl := ne_of hu1 hu3 (by intro z; cases z)
            refine ⟨r5.length, q1, { t with rows := t.rows ++ [row] }, ras ++ [x], qas, r5, rfl, C5.but2 (C5.tab tab5).2.2.1 f1.1, ⟨⟨dy5, by rw [upd_ne ne1]; exact hu1⟩, by rw [upd_ne lrq.1]; exact hu2, upd_same, by rw [upd_ne (Ne.symm rq)]; exact hu4⟩,
              (alr.mono fun _ _ q => (q.but C' b5).upd hu3).snoc (ln.upd hu3), alq.mono fun _ _ q => (q.but C' b5).upd hu3, ec, ?_, h8, ntH, ?_, rfl⟩
            · show (t.rows ++ [row]).length ≤ 16
              have := alr.1
              rw [List.length_append, List.length_singleton]
              omega
            · rw [← em, readLines_eq t r' hc1, if_neg (by rw [hf]; exact Bool.false_ne_true), if_pos hs, ec, ← hcas, ← alr.1, e5]
              rfl
        · rw [if_neg hs, ec, ← alq.1] at hQ
          refine ⟨_, rfl, _, z.B, dy', _, _, rfl, ht1, B.c.cl, B.c.no _ (by simp), tabAsks, .inl ⟨rfl, _, SqL.of ht4⟩, _, rfl, _, rfl, c, dx, tl, ts, H1, r', tb, cl, rl, ql, cas, ras, qas, us, rfl, S, C', tab', als, u4, ?_⟩
          cases e5 : readQuestion us qas.length r' with
          | error f => exact (hQ.berr e5).mono fun H' q => fr2 C'.same q
          | ok y =>
            obtain ⟨qu, r5⟩ := y
            intro x H5 b5 C5 nx ln
            have tab5 := tab'.but C' b5
            obtain ⟨⟨dy5, hu1⟩, hu2, hu3, hu4⟩ := id tab5
            obtain ⟨q1, q2, q3⟩ := readQuestion_len e5
            refine ⟨ql, _, _, rfl, rfl, hu4, ?_, ?_⟩
            · rw [rV_len, alq.1, sizeLine_eq]; omega
            rw [rV_snoc]
            have ne1 : tb ≠ ql := ne_of hu1 hu4 (by intro z; cases z)
            refine ⟨r5.length, q1, { t with asks := t.asks ++ [qu] }, ras, qas ++ [x], r5, rfl, C5.but2 (C5.tab tab5).2.2.2 f1.2, ⟨⟨dy5, by rw [upd_ne ne1]; exact hu1⟩, by rw [upd_ne lrq.2]; exact hu2, by rw [upd_ne rq]; exact hu3, upd_same⟩,
              alr.mono fun _ _ q => (q.but C' b5).upd hu4, (alq.mono fun _ _ q => (q.but C' b5).upd hu4).snoc (ln.upd hu4), ec, h16, ?_, ntH, ?_, rfl⟩
            · show (t.asks ++ [qu]).length ≤ 8
              have := alq.1
              rw [List.length_append, List.length_singleton]
              omega
            · rw [← em, readLines_eq t r' hc1, if_neg (by rw [hf]; exact Bool.false_ne_true), if_neg hs, ec, ← alq.1, e5]
              rfl
end
end Kg
/-! sorted(d), d a dict whose keys are tuples of small numbers. -/
namespace Kg
open PySem PySem.Spec PyProof.Rows L2
def zI (k : List Nat) : List Int := k.map fun (n : Nat) => (n : Int)
theorem nV_z (k : List Nat) : nV k = (zI k).map V.int := by unfold nV zI; rw [List.map_map]; rfl
def keyN (k : List Nat) : List Key := k.map fun (n : Nat) => Sum.inl (n : Int)
theorem keyN_kV (k : List Nat) : (keyN k).map kV = nV k := by unfold keyN nV; rw [List.map_map]; rfl
theorem keyN_inj : ∀ {a b : List Nat}, keyN a = keyN b → a = b
  | [], [], _ => rfl
  | [], _ :: _, h => by cases h
  | _ :: _, [], h => by cases h
  | x :: a, y :: b, h => by
    have h := List.cons.inj h
    rw [Int.ofNat.inj (Sum.inl.inj h.1), keyN_inj (a := a) (b := b) h.2]
theorem zI_bd {k : List Nat} (h : ∀ v ∈ k, v ≤ 9) : TS.Bd 10 (zI k) := fun m hm => by
  obtain ⟨v, hv, e⟩ := List.mem_map.mp hm
  have := h v hv
  omega
theorem code_lex : ∀ {a b : List Nat}, a.length = b.length → (∀ v ∈ a, v ≤ 9) → (∀ v ∈ b, v ≤ 9) → a ≠ b → TS.code 10 (zI a) ≤ TS.code 10 (zI b) → LLt a b
  | [], [], _, _, _, n, _ => absurd rfl n
  | [], _ :: _, h, _, _, _, _ => by cases h
  | _ :: _, [], h, _, _, _, _ => by cases h
  | x :: a, y :: b, hl, ha, hb, n, h => by
    have hl' : a.length = b.length := Nat.succ.inj hl
    have za : (zI a).length = (zI b).length := by unfold zI; rw [List.length_map, List.length_map, hl']
    have ha' := zI_bd fun v hv => ha v (List.mem_cons_of_mem _ hv)
    have hb' := zI_bd fun v hv => hb v (List.mem_cons_of_mem _ hv)
    show (decide (x < y) || (x == y && Vamvsa.lexLess a b)) = true
    simp only [Bool.or_eq_true, decide_eq_true_eq, Bool.and_eq_true, beq_iff_eq]
    rcases Nat.lt_trichotomy x y with c | c | c
    · exact .inl c
    · subst c
      refine .inr ⟨rfl, code_lex hl' (fun v hv => ha v (List.mem_cons_of_mem _ hv)) (fun v hv => hb v (List.mem_cons_of_mem _ hv)) (fun e => n (by rw [e])) ?_⟩
      have h : TS.code 10 ((x : Int) :: zI a) ≤ TS.code 10 ((x : Int) :: zI b) := h
      have q := TS.code_same (B := 10) (d := (x : Int)) za.symm
      omega
    · have := TS.code_lt (B := 10) (d := (y : Int)) (e := (x : Int)) za.symm hb' ha' (by omega)
      have h : TS.code 10 ((x : Int) :: zI a) ≤ TS.code 10 ((y : Int) :: zI b) := h
      omega
section
variable {prog : Program} {w : World} {A : Around} {E : Value → Shared → Prop} {s : Shared}
/-- tuples put in order, also where they are empty and there is one alone -/
theorem sort_keys {l : Addr} {vs : List Value} {m d : Nat} {Pf : PySem.Fin → Shared → Prop} (hl : s.heap.get? l = some (seqObj "list" vs.toArray m)) (few : vs.length < 64) (hd : 2 ≤ vs.length → 1 ≤ d) (ok : TS.TupsOk s.heap d 10 vs)
    (fin : ∀ out : Array Value, out.toList.Perm vs → out.toList.Pairwise (fun x y => TS.code 10 (TS.intsOf s.heap x) ≤ TS.code 10 (TS.intsOf s.heap y)) → Pf (.done (.ret .none)) { s with heap := sortedHeap s.heap l vs out }) :
    wpAny (model prog w) A (Builtin.«list.sort» ⟨[.ref l], []⟩) Pf E s := by
  by_cases c : 2 ≤ vs.length
  · exact TS.sort_tups hl few (hd c) ok (fun x => TS.code 10 (TS.intsOf s.heap x)) (fun x _ ns t => congrArg (TS.code 10) t.ints) fin
  · refine SK.plain_sort (r := fun x => TS.code 10 (TS.intsOf s.heap x)) hl few (fun two => absurd two c) fun ps out o1 o2 o3 => ?_
    have q := TS.out_rank (r := fun x => TS.code 10 (TS.intsOf s.heap x)) o1 o2 o3
    exact fin out q.1 q.2
end
/-- the numbers of the tuple at b -/
def numsAt (H : Hp) (b : Addr) : List Nat := match H b with
  | some (.tup vs) => vs.map fun v => match v with
    | .int i => i.toNat
    | _ => 0
  | _ => []
theorem numsAt_of {H : Hp} {b : Addr} {k : List Nat} (h : H b = some (.tup (nV k))) : numsAt H b = k := by
  unfold numsAt
  rw [h]
  show (nV k).map _ = k
  unfold nV
  rw [List.map_map]
  refine List.map_id'' (fun n => ?_) k
  show ((n : Int)).toNat = n
  exact Int.toNat_natCast n
def adr : Value → Addr
  | .ref a => a
  | _ => 0
theorem perm_refs {as : List Addr} {l : List Value} (p : l.Perm (as.map Value.ref)) : (l.map adr).Perm as ∧ l = (l.map adr).map Value.ref := by
  constructor
  · have q := p.map adr
    rw [List.map_map] at q
    rw [List.map_id'' (f := adr ∘ Value.ref) (fun a => rfl)] at q
    exact q
  · rw [List.map_map]
    refine ((List.map_congr_left fun v hv => ?_).trans (List.map_id'' (fun _ => rfl) l)).symm
    obtain ⟨a, _, e⟩ := List.mem_map.mp (p.mem_iff.mp hv)
    show Value.ref (adr v) = v
    rw [← e]
    rfl
theorem vals_rV : ∀ bs : List Addr, Vals (rV bs) (bs.map Value.ref)
  | [] => .nil
  | _ :: r => .cons rfl (vals_rV r)
def rSortedDT : List V → Hp → VK → Prop := fun vs H Q => ∃ (a : Addr) (kvs : List (List Key × V)) (ks : List (List Nat)) (d : Nat), vs = [.ref a] ∧ Rd H a (.dT kvs) ∧ kvs.map (·.1) = ks.map keyN ∧ ks.length < 64 ∧ (∀ k ∈ ks, k.length = d ∧ ∀ v ∈ k, v ≤ 9) ∧ ks.Nodup ∧
  ∀ (ks' : List (List Nat)) (bs : List Addr) (p : Addr), ks'.Perm ks → ks'.Pairwise LLt → Al (fun b k => H b = some (.tup (nV k))) bs ks' → H p = none → Q (.ref p) (upd H p (.lst (rV bs)))
section
variable {X : Cx}
/-- the keys' tuples, as they are walked -/
theorem keys_walked {H : Hp} {kvs : List (List Key × V)} {xs : List (List Key × Addr × Value)} {ks : List (List Nat)} (pr : Paired (fun (p : List Key × V) (q : List Key × Addr × Value) => p.1 = q.1 ∧ H q.2.1 = some (.tup (p.1.map kV)) ∧ RelV p.2 q.2.2) kvs xs) (hk : kvs.map (·.1) = ks.map keyN) :
    (xs.map fun x => x.2.1).map (numsAt H) = ks ∧ ∀ b ∈ xs.map fun x => x.2.1, H b = some (.tup (nV (numsAt H b))) := by
  induction pr generalizing ks with
  | nil =>
    cases ks with
    | nil => exact ⟨rfl, fun b h => by cases h⟩
    | cons k ks => cases hk
  | @cons p q l1 l2 h t ih =>
    cases ks with
    | nil => cases hk
    | cons k ks =>
      have hk := List.cons.inj hk
      obtain ⟨i1, i2⟩ := ih hk.2
      have hq : H q.2.1 = some (.tup (nV k)) := by
        have z := h.2.1
        have e : p.1 = keyN k := hk.1
        rw [e, keyN_kV] at z
        exact z
      refine ⟨?_, fun b hb => ?_⟩
      · rw [List.map_cons, List.map_cons, i1, numsAt_of hq]
      · rcases List.mem_cons.mp hb with e | e
        · rw [e, numsAt_of hq]; exact hq
        · exact i2 b e
theorem cr_sortedDT (hc : X.calm = true) : CallR X (.builtin "sorted") rSortedDT := by
  intro pins s σ H vs us Q I r h
  obtain ⟨a, kvs, ks, d, rfl, hd, hks, few, hok, hnd, q⟩ := h
  obtain ⟨u, rfl, rx⟩ := r.one
  cases rx
  obtain ⟨z, hs, xs, pr, o, es, ep, ho, hx, hdt, he, hn⟩ := (show ObjOk X.prog X.w H s.heap a (.dT kvs) from hd.ok I.hok)
  obtain ⟨kw1, kw2⟩ := keys_walked pr hks
  have l1 : es.size = xs.length := size_of_entries he
  have l2 : xs.length = ks.length := by rw [← kw1, List.length_map, List.length_map]
  have s64 : 64 ≤ sizeLine := by rw [sizeLine_eq]; decide
  refine Calls.call_function_entry PyProof.Rows.kind_sorted
    PyProof.Rows.plain_sorted PyProof.Rows.entry_sorted (PyProof.Rows.args_sorted1 _) ?_
  unfold Builtin.«sorted»
  refine wpAny_bind (m := checkCount "sorted" 1 1 _) (wpAny_pure ?_)
  refine wpAny_bind (PySem.W.kdu_collect (A := X.A.in1) (kdl_raw hs hx hdt) (I.ok.hd hc) ho (by omega) fun h' tkk gotten kp it => ?_)
  have ea : gotten.toList = (xs.map fun x => x.2.1).map Value.ref := by
    have hl : gotten.toList.length = xs.length := by rw [Array.length_toList, it.1]; exact l1
    apply List.ext_getElem?
    intro j
    rw [List.getElem?_map, List.getElem?_map]
    cases hj : gotten.toList[j]? with
    | none =>
      rw [List.getElem?_eq_none (by have := List.getElem?_eq_none_iff.mp hj; omega)]
      rfl
    | some v =>
      obtain ⟨entx, hent, hv⟩ := it.2 j v (by rw [← Array.getElem?_toList]; exact hj)
      have qe := entry_at he j
      rw [hent] at qe
      cases hb : xs[j]? with
      | none => rw [hb] at qe; exact nomatch (show some entx = none from qe)
      | some b =>
        rw [hb] at qe
        rw [hv, show entx = entryOfKey (tupleKind (mixKind X.prog X.w)) b from Option.some.inj qe]
        rfl
  have I1 : Inv X pins σ H { s with heap := h', toks := tkk } := I.kept kp
  have hal : gotten.toList.length = ks.length := by rw [ea, List.length_map, List.length_map, l2]
  refine wpAny_bind (wpAny_newList ?_ (by omega))
  have laidL : (h'.push (seqObj "list" gotten.toList.toArray 0)).get? h'.objs.size = some (seqObj "list" gotten.toList.toArray 0) := Heap.get?_push_size _ rfl
  show wpAny _ _ _ _ _ { s with heap := h'.push (seqObj "list" gotten.toList.toArray 0), toks := tkk }
  -- the tuples are such as they are said to be
  have raw : ∀ b ∈ xs.map fun x => x.2.1, TS.TupInts (h'.push (seqObj "list" gotten.toList.toArray 0)) (.ref b) (zI (numsAt H b)) := fun b hb => by
    have t0 : TS.TupInts h' (.ref b) (zI (numsAt H b)) := tupI_raw I1 (by rw [← nV_z]; exact SqT.of (kw2 b hb))
    exact t0.keeps fun c oc e _ => Heap.get?_push_of_some _ e
  have mem : ∀ b ∈ xs.map fun x => x.2.1, numsAt H b ∈ ks := fun b hb => by rw [← kw1]; exact List.mem_map_of_mem hb
  have ok : TS.TupsOk (h'.push (seqObj "list" gotten.toList.toArray 0)) d 10 gotten.toList := fun v hv => by
    rw [ea] at hv
    obtain ⟨b, hb, e⟩ := List.mem_map.mp hv
    subst e
    obtain ⟨k1, k2⟩ := hok _ (mem b hb)
    exact ⟨_, raw b hb, by unfold zI; rw [List.length_map]; exact k1, zI_bd k2⟩
  have hd1 : 2 ≤ gotten.toList.length → 1 ≤ d := fun two => by
    rcases Nat.eq_zero_or_pos d with c | c
    · exfalso
      match ks, hnd, hok, (show 2 ≤ ks.length by omega) with
      | k1 :: k2 :: r, hnd, hok, _ =>
        have e1 := List.eq_nil_of_length_eq_zero ((hok k1 (by simp)).1.trans c)
        have e2 := List.eq_nil_of_length_eq_zero ((hok k2 (by simp)).1.trans c)
        rw [e1, e2] at hnd
        simp at hnd
    · exact c
  refine wpAny_bind (wpAny_holding (wpAny_call_entry PyProof.Rows.slot_list_sort ⟨_, laidL, rfl⟩ PyProof.Rows.entry_list_sort
    (sort_keys (s := { s with heap := h'.push (seqObj "list" gotten.toList.toArray 0), toks := tkk }) laidL (by omega) hd1 ok fun out g1 g2 => ⟨_, rfl, ?_⟩) (PyProof.Rows.args_list_sort _)))
  obtain ⟨ex', hex'⟩ := PyProof.Rows.sortedHeap_at (vs := gotten.toList) (out := out) laidL
  have g1' := g1
  rw [ea] at g1'
  obtain ⟨p1, p2⟩ := perm_refs g1'
  have hbs : ∀ b ∈ out.toList.map adr, b ∈ xs.map fun x => x.2.1 := fun b hb => p1.mem_iff.mp hb
  have perm : ((out.toList.map adr).map (numsAt H)).Perm ks := by rw [← kw1]; exact p1.map _
  have hlen : (rV (out.toList.map adr)).length ≤ sizeLine := by
    rw [rV_len, p1.length_eq, List.length_map]
    omega
  refine wpAny_pure ⟨_, rfl, .ref h'.objs.size, upd H h'.objs.size (.lst (rV (out.toList.map adr))), I1.laid (t' := tkk) (fun b u e => ?_) (Nat.le_refl _)
    (show ObjOk X.prog X.w _ _ _ (.lst (rV (out.toList.map adr))) from ⟨hlen, out.toList, ex', ?_, by rw [Array.toArray_toList]; exact hex'⟩), rfl, q ((out.toList.map adr).map (numsAt H)) (out.toList.map adr) _ perm ?_ ?_ (I1.hok.fresh (Nat.le_refl _))⟩
  · have hb : b < h'.objs.size := Heap.lt_size e
    rw [PyProof.Rows.sortedHeap_old (Nat.ne_of_lt hb) (by rw [size_push'] ; exact Nat.lt_succ_of_lt hb)]
    exact Heap.get?_push_of_some _ e
  · have v := vals_rV (out.toList.map adr)
    rw [← p2] at v
    exact v
  · rw [List.pairwise_map]
    have nd : ((out.toList.map adr).map (numsAt H)).Nodup := perm.nodup_iff.mpr hnd
    rw [List.nodup_iff_pairwise_ne, List.pairwise_map] at nd
    rw [p2, List.pairwise_map] at g2
    refine (nd.and g2).imp_of_mem fun {x y} hx hy c => ?_
    obtain ⟨x1, x2⟩ := hok _ (mem x (hbs x hx))
    obtain ⟨y1, y2⟩ := hok _ (mem y (hbs y hy))
    refine code_lex (x1.trans y1.symm) x2 y2 c.1 ?_
    have e1 := (raw x (hbs x hx)).ints
    have e2 := (raw y (hbs y hy)).ints
    have c2 := c.2
    rw [e1, e2] at c2
    exact c2
  · refine ⟨(List.length_map ..).symm, fun i b k h1 h2 => ?_⟩
    rw [List.getElem?_map, h1] at h2
    cases h2
    exact kw2 b (hbs b (List.mem_of_getElem? h1))
end
end Kg
/-! xs.extend(t), t a tuple; dict(d), d a dict by numbers. -/
namespace Kg
open PySem PySem.Spec PyProof.Rows L2
theorem ext_tup (l b : Addr) (xs ys : Array Value) (n m : Nat) (dv : Option Addr) (sl : Array (Option Value)) (fits : xs.size + ys.size ≤ sizeLine) :
    Meets (Builtin.«list.extend» ⟨[.ref l, .ref b], []⟩) (fun _ R s => s.heap.get? l = some { cls := .type "list", dict := none, data := .seq xs n, slots := #[] } ∧ s.heap.get? b = some ⟨.type "tuple", dv, .seq ys m, sl⟩ ∧
      R (.ok (.ret .none)) { s with heap := s.heap.update l (Obj.mapSeq fun x => x ++ ys), toks := s.toks }) :=
  .of_wp fun prog w A R s h => by
    obtain ⟨hp, gs, dr, tk, os⟩ := s
    obtain ⟨h1, h2, hR⟩ := h
    have t1 := AutoSeq1.idx_int
    have t2 := AutoSeq1.sub_tuple_tuple
    have t3 := AutoSeq1.sub_list_list
    have t4 := AutoSeq1.sub_tuple_list
    have t5 := AutoSeq1.sub_list_tuple
    have hz1 : xs.size ≤ sizeLine := by omega
    have hz2 : (xs ++ ys).size ≤ sizeLine + 1 := by rw [Array.size_append]; omega
    have shut : ¬ (!xs.isEmpty && Builtin.List.listTooLong (xs.size + ys.size)) = true := by
      rw [notLongL fits, Bool.and_false]
      exact Bool.false_ne_true
    wp_walk using (wpAny_updateSeq h1 rfl (hz := hz1) (_hz' := hz2)), AutoSeq1.wpAny_loadPart' h1, AutoSeq1.wpAny_loadPart' h2
    exact ⟨_, rfl, hR⟩
def rExtT (K : PySem.W.Frag) : V → List V → Hp → VK → Prop := fun x vs H Q => ∃ l b xs zs, x = .ref l ∧ vs = [.ref b] ∧ H l = some (.lst xs) ∧ SqT K H b zs ∧ xs.length + zs.length ≤ sizeLine ∧ Q .non (upd H l (.lst (xs ++ zs)))
theorem mt_extT {X : Cx} : MtR X "list.extend" (rExtT X.K) := by
  intro pins s σ H x vs v us Q I rx rv h
  obtain ⟨l, b, xs, zs, rfl, rfl, h1, h2, hz, q⟩ := h
  cases rx
  obtain ⟨u, rfl, ru⟩ := rv.one
  cases ru
  obtain ⟨z1, its, n, r1, el, e1⟩ := I.lstM h1
  obtain ⟨its2, r2, ⟨ob, e2, hc, m, hd⟩, z2⟩ := I.tuple h2
  obtain ⟨cl, dv, da, sl⟩ := ob
  have hc : cl = .type "tuple" := hc
  have hd : da = .seq its2.toArray m := hd
  subst hc hd
  have el2 := r2.length
  refine call_meets F.slot_list_extend ⟨_, e1, rfl⟩ F.entry_list_extend (F.args_list_extend_2 _ _) (ext_tup l b its.toArray its2.toArray n m dv sl (by rw [List.size_toArray, List.size_toArray]; omega)) ⟨e1, e2, ?_⟩
  refine ⟨.non, _, I.lset (its' := its ++ its2) h1 e1 (by simp) (r1.append r2) ?_, rfl, q⟩
  rw [List.length_append]
  exact hz
theorem cr_copy {X : Cx} : CallR X (.type "dict") (fun xs H Q => ∃ (a : Addr) (kvs : List (Key × V)), xs = [.ref a] ∧ Rd H a (.dK kvs) ∧ ∀ p, H p = none → Q (.ref p) (upd H p (.dK kvs))) := by
  intro pins s σ H xs us Q I r h
  obtain ⟨a, kvs, rfl, hd, q⟩ := h
  obtain ⟨u, rfl, rx⟩ := r.one
  cases rx
  exact d_copyOf I hd fun p s' n J => ⟨.ref p, _, J, rfl, q p n⟩
end Kg
namespace Kg
open PySem PySem.Spec PyProof.Rows L2
open Vamvsa (Ask Table Group)
theorem bitA1 (g i : Nat) : Builtin.bitAnd ((g : Int) / 2 ^ ((0 : Int) + (i : Int)).toNat) 1 = ((g / 2 ^ i % 2 : Nat) : Int) := by
  rw [Int.zero_add, Int.toNat_natCast]
  have e : (g : Int) / 2 ^ i = ((g / 2 ^ i : Nat) : Int) := by norm_cast
  rw [e, show (1 : Int) = ((1 : Nat) : Int) from rfl, bitAnd_pp (Int.natCast_nonneg _) (Int.natCast_nonneg _), Int.toNat_natCast, Int.toNat_natCast, Nat.and_one_is_mod]
theorem pow16 {n : Nat} (h : n ≤ 4) : 2 ^ n ≤ 16 := Nat.pow_le_pow_right (n := 2) (by decide) h
section
variable {P : Program} {w : World} {K : PySem.W.Frag} {mg : Str → Option Value} {base : Heap} {z : Ads}
/-! ### how_many_groupings, is_grouping, can_be_worked_out -/
abbrev sHowMany : Stmt := topS 15
theorem scHowMany : FnScope ["table"] ["table"] (defScope sHowMany) := ⟨rfl, rfl, rfl, by decide +kernel, rfl, by decide +kernel, by decide +kernel⟩
def spHowMany (z : Ads) : Sp := fun vs H Q _ => ∃ (tb : Addr) (t : Table), vs = [.ref tb] ∧ IsTab z H tb t ∧ t.cols.length ≤ 4 ∧ Q (.int ((2 ^ t.cols.length : Nat) : Int)) H
theorem okHowMany (D : Df K mg "how_many_groupings" sHowMany ["table"]) (T : Tx P w K mg base z) (B : TbC K z) : Ok P w K mg base CX0 1 "how_many_groupings" ["table"] (spHowMany z) := by
  refine D.ok fun f fd F => F.ok scHowMany (fun vs H Q E h => ?_) (fun cdv A outer s H vs Q E hr h => ?_)
  · obtain ⟨tb, t, rfl, _⟩ := h
    rfl
  obtain ⟨tb, t, rfl, hT, h4, hQ⟩ := h
  refine ⟨_, pss_one (ps_ret (pe_op op_shl pe_int (pe_callB call_len_seq (by rfl) T.blt.len PySem.boot_len (pa_cons (pe_fld (pv 0) rfl) pa_nil)))), ?_⟩
  obtain ⟨cl, rl, ql, cas, ras, qas, ⟨⟨dx, h1⟩, h2, h3, h5⟩, al, _⟩ := hT
  refine ⟨_, rfl, tb, z.B, dx, _, _, rfl, h1, B.cl, B.no _ (by simp), tabCols, _, _, rfl, .inl (SqL.of h2), _, _, rfl, rfl, ⟨by omega, ?_, by decide⟩, ?_⟩
  · rw [rV_len, al.1]; omega
  have e : (1 : Int) * 2 ^ (((rV cas).length : Nat) : Int).toNat = ((2 ^ t.cols.length : Nat) : Int) := by
    rw [Int.one_mul, Int.toNat_natCast, rV_len, al.1]
    norm_cast
  show Q (.int ((1 : Int) * 2 ^ (((rV cas).length : Nat) : Int).toNat)) H
  rw [e]
  exact hQ
abbrev sIsGrouping : Stmt := topS 16
theorem scIsGrouping : FnScope ["table", "grouping"] ["table", "grouping"] (defScope sIsGrouping) := ⟨rfl, rfl, rfl, by decide +kernel, rfl, by decide +kernel, by decide +kernel⟩
def isG (t : Table) (g : Int) : Bool := decide (0 ≤ g ∧ g < ((2 ^ t.cols.length : Nat) : Int))
def spIsGrouping (z : Ads) : Sp := fun vs H Q _ => ∃ (tb : Addr) (t : Table) (g : Int), vs = [.ref tb, .int g] ∧ IsTab z H tb t ∧ t.cols.length ≤ 4 ∧ Q (.bl (isG t g)) H
theorem okIsGrouping (D : Df K mg "is_grouping" sIsGrouping ["table", "grouping"]) (O : Ok P w K mg base CX0 1 "how_many_groupings" ["table"] (spHowMany z)) : Ok P w K mg base CX0 2 "is_grouping" ["table", "grouping"] (spIsGrouping z) := by
  refine D.ok fun f fd F => F.ok scIsGrouping (fun vs H Q E h => ?_) (fun cdv A outer s H vs Q E hr h => ?_)
  · obtain ⟨tb, t, g, rfl, _⟩ := h
    rfl
  obtain ⟨tb, t, g, rfl, hT, h4, hQ⟩ := h
  refine ⟨_, pss_one (ps_ret (pe_chain op_le op_lt pe_int (pv 1) (pe_ok O hr (by decide) rfl pass0 (pa_cons (pv 0) pa_nil)))), ?_⟩
  refine ⟨_, rfl, _, _, rfl, rfl, _, rfl, ite2 (fun h1 => ?_) fun h1 => ?_⟩
  · have h1 := of_decide_eq_true h1
    refine ⟨_, rfl, tb, t, rfl, hT, h4, _, _, rfl, rfl, ?_⟩
    have e : isG t g = decide (g < ((2 ^ t.cols.length : Nat) : Int)) := by
      unfold isG
      rw [decide_eq_decide]
      exact ⟨fun h => h.2, fun h => ⟨h1, h⟩⟩
    rw [e] at hQ
    exact hQ
  · have h1 := of_decide_eq_false (Bool.eq_false_iff.mpr h1)
    have e : isG t g = false := by
      unfold isG
      rw [decide_eq_false_iff_not]
      exact fun h => h1 h.1
    rw [e] at hQ
    exact hQ
abbrev sCanBe : Stmt := topS 17
theorem scCanBe : FnScope ["grouping", "source"] ["grouping", "source"] (defScope sCanBe) := ⟨rfl, rfl, rfl, by decide +kernel, rfl, by decide +kernel, by decide +kernel⟩
def spCanBe : Sp := fun vs H Q _ => ∃ (g s : Nat), vs = [.int (g : Int), .int (s : Int)] ∧ Q (.bl (decide (g &&& s = g))) H
theorem okCanBe (D : Df K mg "can_be_worked_out" sCanBe ["grouping", "source"]) : Ok P w K mg base CX0 1 "can_be_worked_out" ["grouping", "source"] spCanBe := by
  refine D.ok fun f fd F => F.ok scCanBe (fun vs H Q E h => ?_) (fun cdv A outer s H vs Q E hr h => ?_)
  · obtain ⟨g, s, rfl, _⟩ := h
    rfl
  obtain ⟨g, s, rfl, hQ⟩ := h
  refine ⟨_, pss_one (ps_ret (pe_cmpR op_eq (pe_op op_and (pv 0) (pv 1)) (pv 0) (nomark _))), ?_⟩
  refine ⟨_, rfl, _, rfl, _, _, rfl, rfl, _, rfl, rfl, ?_⟩
  have e : decide (V.int (Builtin.bitAnd (g : Int) (s : Int)) = V.int (g : Int)) = decide (g &&& s = g) := by
    rw [int_eq, bitAnd_pp (Int.natCast_nonneg _) (Int.natCast_nonneg _), Int.toNat_natCast, Int.toNat_natCast, decide_eq_decide]
    omega
  show Q (.bl (decide (V.int (Builtin.bitAnd (g : Int) (s : Int)) = V.int (g : Int)))) H
  rw [e]
  exact hQ
/-! ### columns_of -/
abbrev sColumnsOf : Stmt := topS 18
theorem scColumnsOf : FnScope ["grouping", "width", "column"] ["grouping", "width"] (defScope sColumnsOf) := ⟨rfl, rfl, rfl, by decide +kernel, rfl, by decide +kernel, by decide +kernel⟩
def spColumnsOf : Sp := fun vs H Q _ => ∃ (g n : Nat), vs = [.int (g : Int), .int (n : Int)] ∧ n ≤ 4 ∧ ∀ p, H p = none → Q (.ref p) (upd H p (.lst (nV (Vamvsa.columnsOf n g))))
def colsTo (g i : Nat) : List Nat := (List.range i).filter fun j => g / 2 ^ j % 2 == 1
theorem colsTo_succ (g i : Nat) : colsTo g (i + 1) = if g / 2 ^ i % 2 == 1 then colsTo g i ++ [i] else colsTo g i := by
  unfold colsTo
  rw [List.range_succ, List.filter_append]
  cases e : (g / 2 ^ i % 2 == 1) with
  | true => simp [e]
  | false => simp [e]
theorem colsTo_len (g i : Nat) : (colsTo g i).length ≤ i := by
  have := List.length_filter_le (fun j => g / 2 ^ j % 2 == 1) (List.range i)
  rw [List.length_range] at this
  exact this
theorem okColumnsOf (D : Df K mg "columns_of" sColumnsOf ["grouping", "width"]) (T : Tx P w K mg base z) : Ok P w K mg base CX0 1 "columns_of" ["grouping", "width"] spColumnsOf := by
  refine D.ok fun f fd F => F.ok scColumnsOf (fun vs H Q E h => ?_) (fun cdv A outer s H vs Q E hr h => ?_)
  · obtain ⟨g, n, rfl, _⟩ := h
    rfl
  obtain ⟨g, n, rfl, hn, hQ⟩ := h
  refine ⟨_, pss_one (ps_ret (pe_lc (own := [("column", 2)]) (g := gName 2) rfl scColumnsOf.nd (pi_range1 (by rfl) T.blt.range (pa_cons (pv 1) pa_nil)) (blkOk_by (N := ["grouping", "width", "column"]) (sc := defScope sColumnsOf) (by decide +kernel))
    (fun _ _ _ _ _ => pg_name (i := 2) scColumnsOf.nd rfl (Or.inl rfl)) (fun _ _ _ _ _ => pts_one (pt_cmpR op_eq (pe_op op_and (pe_op op_shr (pv 0) (pv 2)) pe_int) pe_int (nomark _))) (fun _ _ _ _ _ => pv 2))), ?_⟩
  refine ⟨_, rfl, _, rfl, by omega, by omega, fun L hL => lc_range (lo := 0) (n := n) (fun i H' => H' = upd H L (.lst (nV (colsTo g i)))) rfl ?_ ?_⟩
  · rintro i H' hi rfl
    refine ⟨rfl, ?_⟩
    refine ⟨_, rfl, _, rfl, _, _, rfl, rfl, by omega, _, _, rfl, rfl, rfl, _, rfl, ?_⟩
    have e : decide (V.int (Builtin.bitAnd ((g : Int) / 2 ^ ((0 : Int) + (i : Int)).toNat) 1) = V.int 1) = (g / 2 ^ i % 2 == 1) := by
      rw [int_eq, bitA1, Bool.eq_iff_iff, decide_eq_true_iff, beq_iff_eq]
      generalize g / 2 ^ i % 2 = m
      omega
    show if decide (V.int (Builtin.bitAnd ((g : Int) / 2 ^ ((0 : Int) + (i : Int)).toNat) 1) = V.int 1) = true then _ else _
    rw [e]
    refine ite2 (fun h1 => ?_) fun h1 => ?_
    · refine ⟨_, rfl, _, upd_same, ?_, ?_⟩
      · have := colsTo_len g i
        rw [nV_len, sizeLine_eq]
        omega
      · rw [upd_upd, colsTo_succ, if_pos h1, Int.zero_add, nV_snoc]
    · rw [colsTo_succ, if_neg h1]
  · rintro H' rfl
    exact hQ L hL
end
end Kg
namespace Kg
open PySem PySem.Spec PyProof.Rows L2
open Vamvsa (Ask Table Group)
/-- the dict of the lines by their numbers -/
def kvOf : List Group → List Addr → List (List Key × V)
  | g :: gs, r :: rs => (keyN g.key, V.ref r) :: kvOf gs rs
  | _, _ => []
theorem kvOf_snoc : ∀ {acc : List Group} {ls : List Addr} {g : Group} {r : Addr}, ls.length = acc.length → kvOf (acc ++ [g]) (ls ++ [r]) = kvOf acc ls ++ [(keyN g.key, V.ref r)]
  | [], [], g, r, _ => rfl
  | [], _ :: _, _, _, h => by cases h
  | _ :: _, [], _, _, h => by cases h
  | x :: acc, y :: ls, g, r, h => by
    show _ :: kvOf (acc ++ [g]) (ls ++ [r]) = _ :: (kvOf acc ls ++ _)
    rw [kvOf_snoc (Nat.succ.inj h)]
theorem kvOf_len : ∀ {acc : List Group} {ls : List Addr}, ls.length = acc.length → (kvOf acc ls).length = acc.length
  | [], [], _ => rfl
  | [], _ :: _, h => by cases h
  | _ :: _, [], h => by cases h
  | x :: acc, y :: ls, h => congrArg (· + 1) (kvOf_len (Nat.succ.inj h))
theorem kvOf_keys : ∀ {acc : List Group} {ls : List Addr}, ls.length = acc.length → (kvOf acc ls).map (·.1) = (keys acc).map keyN
  | [], [], _ => rfl
  | [], _ :: _, h => by cases h
  | _ :: _, [], h => by cases h
  | x :: acc, y :: ls, h => congrArg (keyN x.key :: ·) (kvOf_keys (Nat.succ.inj h))
theorem kvOf_val : ∀ {acc : List Group} {ls : List Addr} {j : Nat} {g : Group} {r : Addr}, ls.length = acc.length → (keys acc).Nodup → acc[j]? = some g → ls[j]? = some r → valV (kvOf acc ls) (keyN g.key) = some (.ref r)
  | [], _, _, _, _, _, _, h, _ => by cases h
  | _ :: _, [], _, _, _, h, _, _, _ => by cases h
  | x :: acc, y :: ls, 0, g, r, h, nd, h1, h2 => by
    cases h1
    cases h2
    exact valV_pos rfl
  | x :: acc, y :: ls, j + 1, g, r, h, nd, h1, h2 => by
    obtain ⟨n1, n2⟩ := List.nodup_cons.mp nd
    have hg : g.key ∈ keys acc := List.mem_map_of_mem (List.mem_of_getElem? h1)
    show valV ((keyN x.key, V.ref y) :: kvOf acc ls) (keyN g.key) = _
    rw [valV_neg (p := (keyN x.key, V.ref y)) fun e => n1 (by rw [keyN_inj e]; exact hg)]
    exact kvOf_val (Nat.succ.inj h) n2 h1 h2
theorem kvOf_none : ∀ {acc : List Group} {ls : List Addr} {k : List Nat}, k ∉ keys acc → valV (kvOf acc ls) (keyN k) = none
  | [], _, _, _ => rfl
  | _ :: _, [], _, _ => rfl
  | x :: acc, y :: ls, k, h => by
    show valV ((keyN x.key, V.ref y) :: kvOf acc ls) (keyN k) = _
    rw [valV_neg (p := (keyN x.key, V.ref y)) fun e => h (by rw [← keyN_inj e]; exact List.mem_cons_self)]
    exact kvOf_none fun z => h (List.mem_cons_of_mem _ z)
theorem kvOf_map (f : Group → Group) (hf : ∀ g, (f g).key = g.key) : ∀ {acc : List Group} {ls : List Addr}, kvOf (acc.map f) ls = kvOf acc ls
  | [], _ => rfl
  | _ :: _, [] => rfl
  | x :: acc, y :: ls => by
    show (keyN (f x).key, V.ref y) :: kvOf (acc.map f) ls = _
    rw [hf, kvOf_map f hf]
    rfl
theorem putK_new {kvs : List (List Key × V)} {k : List Key} {v : V} (h : valV kvs k = none) : putK kvs k v = kvs ++ [(k, v)] := by
  unfold putK
  rw [if_neg]
  intro e
  obtain ⟨x, hx, hk⟩ := List.any_eq_true.mp e
  unfold valV at h
  rw [Option.map_eq_none_iff, List.find?_eq_none] at h
  exact h x hx hk
theorem lnNums {a b c : V} : List.lookup ("numbers" : Str) (fsLine [a, b, c]) = some a := lk_here
theorem lnAmount {a b c : V} : List.lookup ("amount" : Str) (fsLine [a, b, c]) = some b := (lk_past (by decide +kernel)).trans lk_here
theorem lnCount {a b c : V} : List.lookup ("count" : Str) (fsLine [a, b, c]) = some c := (lk_past (by decide +kernel)).trans ((lk_past (by decide +kernel)).trans lk_here)
theorem lnPutA {a b c v : V} : putF "amount" v (fsLine [a, b, c]) = fsLine [a, v, c] := by
  show (if ("numbers" : Str) = "amount" then (_ : List (Str × V)) else _) = _
  rw [if_neg (by decide +kernel)]
  show (("numbers" : Str), a) :: (if ("amount" : Str) = "amount" then (_ : List (Str × V)) else _) = _
  rw [if_pos rfl]
  rfl
theorem lnPutC {a b c v : V} : putF "count" v (fsLine [a, b, c]) = fsLine [a, b, v] := by
  show (if ("numbers" : Str) = "count" then (_ : List (Str × V)) else _) = _
  rw [if_neg (by decide +kernel)]
  show (("numbers" : Str), a) :: (if ("amount" : Str) = "count" then (_ : List (Str × V)) else _) = _
  rw [if_neg (by decide +kernel)]
  show (("numbers" : Str), a) :: (("amount" : Str), b) :: (if ("count" : Str) = "count" then (_ : List (Str × V)) else _) = _
  rw [if_pos rfl]
  rfl
/-- some other object changes -/
theorem IsLn.away {z : Ads} {H : Hp} {r l : Addr} {g : Group} {o u : HO} (hl : H l = some u) (h1 : ∀ dx fs, u ≠ .ins z.L dx fs) (h2 : ∀ xs, u ≠ .tup xs) (h : IsLn z H r g) : IsLn z (L2.upd H l o) r g := by
  obtain ⟨dx, t, q1, q2⟩ := h
  exact ⟨dx, t, by rw [upd_ne (ne_of q1 hl fun e => h1 _ _ e.symm)]; exact q1, by rw [upd_ne (ne_of q2 hl fun e => h2 _ e.symm)]; exact q2⟩
theorem IsLn.other {z : Ads} {H : Hp} {r l : Addr} {g : Group} {dx : Addr} {fs : List (Str × V)} {o : HO} (hl : H l = some (.ins z.L dx fs)) (n : r ≠ l) (h : IsLn z H r g) : IsLn z (L2.upd H l o) r g := by
  obtain ⟨dy, t, q1, q2⟩ := h
  exact ⟨dy, t, by rw [upd_ne n]; exact q1, by rw [upd_ne (ne_of q2 hl (by intro z; cases z))]; exact q2⟩
/-- what is gathered so far -/
structure MInv (z : Ads) (H H' : Hp) (D : Addr) (acc : List Group) (ls : List Addr) : Prop where
  same : Same H H'
  dict : H' D = some (.dT (kvOf acc ls))
  al : Al (IsLn z H') ls acc
  new : ∀ r ∈ ls, H r = none
  nd : ls.Nodup
theorem MInv.mono {z : Ads} {H H' H2 : Hp} {D : Addr} {acc : List Group} {ls : List Addr} (m : MInv z H H' D acc ls) (s : Same H' H2) : MInv z H H2 D acc ls :=
  ⟨m.same.trans s, s _ _ m.dict, m.al.mono fun _ _ e => e.mono s, m.new, m.nd⟩
/-- the sums of one group grow -/
def addTo (k : List Nat) (s : Int) (n : Nat) (y : Group) : Group := if k = y.key then ⟨y.key, y.sum + s, y.n + n⟩ else y
theorem addTo_key (k : List Nat) (s : Int) (n : Nat) (y : Group) : (addTo k s n y).key = y.key := by unfold addTo; split <;> rfl
theorem nodup_at {α : Type} {l : List α} (h : l.Nodup) {i j : Nat} {x : α} (h1 : l[i]? = some x) (h2 : l[j]? = some x) : i = j := by
  obtain ⟨a1, e1⟩ := List.getElem?_eq_some_iff.mp h1
  obtain ⟨a2, e2⟩ := List.getElem?_eq_some_iff.mp h2
  rw [List.nodup_iff_pairwise_ne] at h
  rcases Nat.lt_trichotomy i j with c | c | c
  · exact absurd (e1.trans e2.symm) (List.pairwise_iff_getElem.mp h i j a1 a2 c)
  · exact c
  · exact absurd (e2.trans e1.symm) (List.pairwise_iff_getElem.mp h j i a2 a1 c)
theorem MInv.add {z : Ads} {H H' : Hp} {D : Addr} {acc : List Group} {ls : List Addr} (m : MInv z H H' D acc ls) (nk : (keys acc).Nodup) {j : Nat} {g : Group} {r dx t : Addr} (hg : acc[j]? = some g) (hr : ls[j]? = some r)
    (h1 : H' r = some (.ins z.L dx (fsLine [.ref t, .int g.sum, .int (g.n : Int)]))) (h2 : H' t = some (.tup (nV g.key))) (s : Int) (n : Nat) :
    MInv z H (upd H' r (.ins z.L dx (fsLine [.ref t, .int (g.sum + s), .int ((g.n : Int) + (n : Int))]))) D (acc.map (addTo g.key s n)) ls := by
  have rl := List.mem_of_getElem? hr
  have rD : D ≠ r := ne_of m.dict h1 (by intro z; cases z)
  have rt : t ≠ r := ne_of h2 h1 (by intro z; cases z)
  refine ⟨same_upd m.same (m.new r rl), ?_, ⟨by rw [List.length_map]; exact m.al.1, fun i x y a b => ?_⟩, m.new, m.nd⟩
  · rw [upd_ne rD, kvOf_map _ (addTo_key _ _ _)]
    exact m.dict
  · rw [List.getElem?_map] at b
    obtain ⟨y0, hy0, ey⟩ := Option.map_eq_some_iff.mp b
    by_cases c : i = j
    · subst c
      rw [hr] at a
      cases a
      rw [hg] at hy0
      cases hy0
      rw [← ey]
      unfold addTo
      rw [if_pos rfl]
      exact ⟨dx, t, upd_same, by rw [upd_ne rt]; exact h2⟩
    · have xr : x ≠ r := fun e => c (nodup_at m.nd a (by rw [e]; exact hr))
      have ky : g.key ≠ y0.key := fun e => c (nodup_at nk (x := g.key) (by unfold keys; rw [List.getElem?_map, hy0]; exact congrArg some e.symm) (by unfold keys; rw [List.getElem?_map, hg]; rfl))
      have ey2 : y = y0 := by
        rw [← ey]
        unfold addTo
        exact if_neg ky
      rw [ey2]
      exact (m.al.2 i x y0 a hy0).other h1 xr
/-- the group of a row or line, at these places -/
def atPs (ps : List Nat) (x : Group) : Group := ⟨ps.map fun p => x.key.getD p 0, x.sum, x.n⟩
theorem putOne_cases (x : Group) (acc : List Group) : putOne x acc = (if x.key ∈ keys acc then acc else acc ++ [⟨x.key, 0, 0⟩]).map (addTo x.key x.sum x.n) := by
  unfold putOne
  split
  · rfl
  · rename_i h
    rw [List.map_append]
    have e : acc.map (addTo x.key x.sum x.n) = acc := by
      refine (List.map_congr_left fun y hy => ?_).trans (List.map_id'' (fun _ => rfl) acc)
      unfold addTo
      exact if_neg fun e => h (by rw [e]; exact List.mem_map_of_mem hy)
    rw [e]
    show acc ++ [x] = acc ++ [addTo x.key x.sum x.n ⟨x.key, 0, 0⟩]
    unfold addTo
    rw [if_pos rfl]
    show acc ++ [x] = acc ++ [⟨x.key, 0 + x.sum, 0 + x.n⟩]
    rw [Int.zero_add, Nat.zero_add]
end Kg
namespace Kg
open PySem PySem.Spec PyProof.Rows L2
open Vamvsa (Ask Table Group)
theorem nV_at {l : List Nat} {i n : Nat} (h : l[i]? = some n) : (nV l)[i]? = some (.int (n : Int)) := by unfold nV; rw [List.getElem?_map, h]; rfl
theorem nV_inv {l : List Nat} {i : Nat} {v : V} (h : (nV l)[i]? = some v) : ∃ n, l[i]? = some n ∧ v = .int (n : Int) := by
  unfold nV at h
  rw [List.getElem?_map] at h
  obtain ⟨c, hc, e⟩ := Option.map_eq_some_iff.mp h
  exact ⟨c, hc, e.symm⟩
section
variable {P : Program} {w : World} {K : PySem.W.Frag} {mg : Str → Option Value} {base : Heap} {z : Ads}
abbrev sMerged : Stmt := topS 21
theorem scMerged : FnScope ["lines", "positions", "groups", "line", "numbers", "group", "position"] ["lines", "positions"] (defScope sMerged) := ⟨rfl, rfl, rfl, by decide +kernel, rfl, by decide +kernel, by decide +kernel⟩
def spMerged (K : PySem.W.Frag) (z : Ads) : Sp := fun vs H Q _ => ∃ (a b : Addr) (rs : List Addr) (gs : List Group) (ps : List Nat) (d : Nat), vs = [.ref a, .ref b] ∧ SqL K H a (rV rs) ∧ Al (IsLn z H) rs gs ∧ SqL K H b (nV ps) ∧ (∀ g ∈ gs, LineOk d g) ∧ (∀ p ∈ ps, p < d) ∧ gs.length ≤ 16 ∧ ps.length ≤ 4 ∧
  ∀ l ts H', Same H H' → H l = none → H' l = some (.lst (rV ts)) → Al (IsLn z H') ts (mergeG ps gs) → Q (.ref l) H'
theorem mergeG_eq (ps : List Nat) (gs : List Group) : mergeG ps gs = Vamvsa.collect (gs.map (atPs ps)) := rfl
theorem len_at (ps : List Nat) (gs : List Group) : Len ps.length (gs.map (atPs ps)) := merged_len
theorem okMerged (D : Df K mg "merged" sMerged ["lines", "positions"]) (T : Tx P w K mg base z) : Ok P w K mg base CX0 3 "merged" ["lines", "positions"] (spMerged K z) := by
  refine D.ok fun f fd F => F.ok scMerged (fun vs H Q E h => ?_) (fun cdv A outer s H vs Q E hr h => ?_)
  · obtain ⟨a, b, rs, gs, ps, d, rfl, _⟩ := h
    rfl
  obtain ⟨a, b, rs, gs, ps, d, rfl, hA, alg, hB, hok, hps, h16, hp4, hQ⟩ := h
  have hu := hu_of hr
  refine ⟨_, pss_cons (ps_set (i := 2) scMerged.nd rfl (.inr rfl) pe_dnewT)
    <| pss_cons (ps_for PassesOwn.never rfl (pi_list (pv 0)) (pg_name (i := 3) scMerged.nd rfl (.inr rfl))
      (pss_cons (ps_set (i := 4) scMerged.nd rfl (.inl rfl) (pe_callTy call_tuple_of (by rfl) T.blt.tuple (by decide +kernel) (pa_cons
          (pe_lc (own := [("position", 6)]) (g := gName 6) (tt := tYes) (te := tOp (rIxT K) (tFld K (tVar 3) "numbers") (tVar 6)) rfl scMerged.nd (pi_list (pv 1)) (blkOk_by (N := ["lines", "positions", "groups", "line", "numbers", "group", "position"]) (sc := defScope sMerged) (by decide +kernel))
            (fun _ _ _ _ _ => pg_name (i := 6) scMerged.nd rfl (Or.inl rfl)) (fun _ _ _ _ _ => pts_nil) (fun _ _ _ _ _ => pe_ix ix_tup (pe_fld (pv 3) rfl) (pv 6) (fun _ _ => rfl))) pa_nil)))
      <| pss_cons (ps_if (pt_cmp (pc_dnotin hu (pv 4) (pv 2))) (pss_one (ps_dput hu (pv 2) (pv 4) (pe_mkc T.lin hr (by decide) rfl (pa_cons (pv 4) (pa_cons pe_int (pa_cons pe_int pa_nil)))) rfl)) pss_nil)
      <| pss_cons (ps_set (i := 5) scMerged.nd rfl (.inl rfl) (pe_dget hu (pv 2) (pv 4) (fun _ _ => rfl)))
      <| pss_cons (ps_fldaug (pv 5) (pe_fld (pv 3) rfl) in_add)
      <| pss_one (ps_fldaug (pv 5) (pe_fld (pv 3) rfl) in_add)))
    <| pss_one (ps_ret (pe_lc (own := [("numbers", 4)]) (g := gName 4) (tt := tYes) rfl scMerged.nd (pi_list (pe_callB (cr_sortedDT rfl) (by rfl) T.blt.sorted (by decide +kernel) (pa_cons (pv 2) pa_nil)))
        (blkOk_by (N := ["lines", "positions", "groups", "line", "numbers", "group", "position"]) (sc := defScope sMerged) (by decide +kernel))
        (fun _ _ _ _ _ => pg_name (i := 4) scMerged.nd rfl (Or.inl rfl)) (fun _ _ _ _ _ => pts_nil) (fun _ _ _ _ _ => pe_dget hu (pv 2) (pv 4) (fun _ _ => rfl)))), ?_⟩
  intro D hD
  have m0 : MInv z H (upd H D (.dT [])) D (gather []) [] := ⟨same_new hD, upd_same, Al.nil, fun r h => (nomatch h), List.nodup_nil⟩
  refine ⟨_, rfl, a, rfl, ⟨_, (same_new hD).seq hA⟩, for_list (K := K) (a := a) (xs := rV rs) (fun i σ H' => (∃ v3 v4 v5 : Option V, σ = [some (.ref a), some (.ref b), some (.ref D), v3, v4, v5, none]) ∧ ∃ ls, MInv z H H' D (gather ((gs.take i).map (atPs ps))) ls)
    ⟨⟨none, none, none, rfl⟩, [], m0⟩ (fun i σ H' _ ⟨_, ls, m⟩ => m.same.seq hA) ?_ ?_⟩
  · rintro i v σ H' hi ⟨⟨v3, v4, v5, rfl⟩, ls, m⟩
    obtain ⟨rl, hrl, rfl⟩ := rV_inv hi
    obtain ⟨g, hg, hln⟩ := alg.at1 hrl
    obtain ⟨dl, tl, hl1, hl2⟩ := hln
    have hgo := hok g (List.mem_of_getElem? hg)
    have hkey : ∀ p ∈ ps, g.key[p]? = some (g.key.getD p 0) := fun p hp => by
      have hlt : p < g.key.length := by rw [hgo.1]; exact hps p hp
      rw [List.getD_eq_getElem?_getD, List.getElem?_eq_getElem hlt]
      rfl
    -- the line's numbers at the places
    refine ⟨_, rfl, b, rfl, ⟨_, m.same.seq hB⟩, fun L hL => lc_list (K := K) (a := b) (xs := nV ps) (fun j H2 => H2 = upd H' L (.lst (nV ((ps.take j).map fun p => g.key.getD p 0)))) rfl (fun j H2 _ e => by rw [e]; exact (m.same.trans (same_new hL)).seq hB) ?_ ?_⟩
    · rintro j v H2 hv rfl
      obtain ⟨p, hp, rfl⟩ := nV_inv hv
      have sL : Same H' (upd H' L (.lst (nV ((ps.take j).map fun p => g.key.getD p 0)))) := same_new hL
      refine ⟨rfl, ?_⟩
      refine ⟨_, rfl, rl, z.L, dl, _, _, rfl, sL _ _ (m.same _ _ hl1), T.lin.cl, T.lin.no _ (by simp), lnNums, _, rfl, tl, _, (p : Int), _, rfl, rfl, SqT.of (sL _ _ (m.same _ _ hl2)), at_of rfl (nV_at (hkey p (List.mem_of_getElem? hp))), _, upd_same, ?_, ?_⟩
      · rw [nV_len, List.length_map, List.length_take, sizeLine_eq]; omega
      · rw [upd_upd, nV_snoc, List.take_add_one, hp, List.map_append]
        rfl
    rintro _ rfl
    rw [nV_len, List.take_length]
    refine ⟨_, _, rfl, .inl ⟨SqL.of upd_same, fun t ht => ?_⟩⟩
    have key' : (ps.map fun p => g.key.getD p 0) = (atPs ps g).key := rfl
    rw [key']
    have s2 : Same H' (upd (upd H' L (.lst (nV (atPs ps g).key))) t (.tup (nV (atPs ps g).key))) := (same_new hL).trans (same_new ht)
    have ht2 : (upd (upd H' L (.lst (nV (atPs ps g).key))) t (.tup (nV (atPs ps g).key))) t = some (.tup (nV (atPs ps g).key)) := upd_same
    generalize (upd (upd H' L (.lst (nV (atPs ps g).key))) t (.tup (nV (atPs ps g).key))) = H2 at s2 ht2
    have m2 := m.mono s2
    have h64 : 16 < sizeLine := by rw [sizeLine_eq]; decide
    have len0 : (gather ((gs.take i).map (atPs ps))).length ≤ 16 := by
      refine Nat.le_trans (gather_le _) ?_
      rw [List.length_map, List.length_take]
      omega
    have nk0 : (keys (gather ((gs.take i).map (atPs ps)))).Nodup := gather_nodup (len_at ps (gs.take i))
    have step : gather ((gs.take (i + 1)).map (atPs ps)) = putOne (atPs ps g) (gather ((gs.take i).map (atPs ps))) := by
      rw [List.take_add_one, hg, List.map_append]
      exact gather_snoc _ _
    have rl1 : H2 rl = some (.ins z.L dl (fsLine [.ref tl, .int g.sum, .int (g.n : Int)])) := s2 _ _ (m.same _ _ hl1)
    generalize gather ((gs.take i).map (atPs ps)) = acc at m2 len0 nk0 step
    refine' later (p := fun H3 => H3 t = some (.tup (nV (atPs ps g).key)) ∧ H3 rl = some (.ins z.L dl (fsLine [.ref tl, .int g.sum, .int (g.n : Int)])) ∧ ∃ ls', MInv z H H3 D (if (atPs ps g).key ∈ keys acc then acc else acc ++ [⟨(atPs ps g).key, 0, 0⟩]) ls') (fun after => ?_) ?_; rotate_left
    · refine ⟨_, rfl, _, rfl, D, _, rfl, DGet.t (k := keyN (atPs ps g).key) m2.dict (by rw [keyN_kV]; exact ht2), _, rfl, ?_⟩
      by_cases hk : (atPs ps g).key ∈ keys acc
      · obtain ⟨g0, hg0, ek⟩ := List.mem_map.mp hk
        obtain ⟨j, hj, ej⟩ := List.getElem_of_mem hg0
        have hj' : acc[j]? = some g0 := by rw [List.getElem?_eq_getElem hj, ej]
        obtain ⟨r0, hr0, _⟩ := m2.al.at hj'
        have ev : valV (kvOf acc ls) (keyN (atPs ps g).key) = some (.ref r0) := by rw [← ek]; exact kvOf_val m2.al.1 nk0 hj' hr0
        refine ite2 (fun h => absurd h (by rw [ev]; simp)) fun _ => ?_
        exact after H2 ⟨ht2, rl1, ls, by rw [if_pos hk]; exact m2⟩
      · have ev : valV (kvOf acc ls) (keyN (atPs ps g).key) = none := kvOf_none hk
        refine ite2 (fun _ => ?_) fun h => absurd (by rw [ev]; rfl) h
        refine ⟨_, rfl, made2 rfl fun r H3 nr s3 a3 => ?_⟩
        obtain ⟨dr, a3⟩ := a3
        have m3 := m2.mono s3
        have ht3 := s3 _ _ ht2
        refine ⟨_, rfl, _, rfl, D, _, rfl, DPut.t (k := keyN (atPs ps g).key) m3.dict (by rw [keyN_kV]; exact ht3) (by rw [kvOf_len m3.al.1]; omega), ?_⟩
        rw [putK_new ev, ← kvOf_snoc (g := ⟨(atPs ps g).key, 0, 0⟩) m3.al.1]
        have nD : ∀ dx fs, HO.dT (kvOf acc ls) ≠ .ins z.L dx fs := fun dx fs e => by cases e
        have nD2 : ∀ xs, HO.dT (kvOf acc ls) ≠ .tup xs := fun xs e => by cases e
        have lnR : IsLn z H3 r ⟨(atPs ps g).key, 0, 0⟩ := ⟨dr, t, a3, ht3⟩
        refine after _ ⟨?_, ?_, ls ++ [r], ?_⟩
        · rw [upd_ne (ne_of ht3 m3.dict (by intro z; cases z))]; exact ht3
        · rw [upd_ne (ne_of (s3 _ _ rl1) m3.dict (by intro z; cases z))]; exact s3 _ _ rl1
        · rw [if_neg hk]
          refine ⟨same_upd m3.same hD, upd_same, (m3.al.mono fun _ _ e => e.away m3.dict nD nD2).snoc (lnR.away m3.dict nD nD2), fun y hy => ?_, ?_⟩
          · rcases List.mem_append.mp hy with e | e
            · exact m3.new y e
            · rw [List.mem_singleton.mp e]
              exact m2.same.free nr
          · rw [List.nodup_append]
            refine ⟨m3.nd, List.pairwise_singleton .., fun x hx y hy e => ?_⟩
            rw [List.mem_singleton.mp hy] at e
            obtain ⟨q, hq⟩ := List.getElem?_of_mem hx
            obtain ⟨_, _, dq, tq, e1, _⟩ := m2.al.at1 hq
            rw [e, nr] at e1
            cases e1
    · rintro H3 ⟨ht3, hr3, ls', m3⟩
      -- the group of these numbers is there now
      have hin : (atPs ps g).key ∈ keys (if (atPs ps g).key ∈ keys acc then acc else acc ++ [⟨(atPs ps g).key, 0, 0⟩]) := by
        by_cases hk : (atPs ps g).key ∈ keys acc
        · rw [if_pos hk]; exact hk
        · rw [if_neg hk]
          unfold keys
          rw [List.map_append]
          exact List.mem_append_right _ List.mem_cons_self
      have nk : (keys (if (atPs ps g).key ∈ keys acc then acc else acc ++ [⟨(atPs ps g).key, 0, 0⟩])).Nodup := by
        by_cases hk : (atPs ps g).key ∈ keys acc
        · rw [if_pos hk]; exact nk0
        · rw [if_neg hk]
          unfold keys
          rw [List.map_append, List.nodup_append]
          refine ⟨nk0, List.pairwise_singleton .., fun x hx y hy e => hk ?_⟩
          have ey : y = (atPs ps g).key := List.mem_singleton.mp hy
          rw [← ey, ← e]
          exact hx
      have step2 := putOne_cases (atPs ps g) acc
      rw [← step] at step2
      generalize (if (atPs ps g).key ∈ keys acc then acc else acc ++ [⟨(atPs ps g).key, 0, 0⟩]) = acc' at m3 hin nk step2
      obtain ⟨g0, hg0, ek⟩ := List.mem_map.mp hin
      obtain ⟨j, hj, ej⟩ := List.getElem_of_mem hg0
      have hj' : acc'[j]? = some g0 := by rw [List.getElem?_eq_getElem hj, ej]
      obtain ⟨r0, hr0, d0, t0, h01, h02⟩ := m3.al.at hj'
      have ev : valV (kvOf acc' ls') (keyN (atPs ps g).key) = some (.ref r0) := by rw [← ek]; exact kvOf_val m3.al.1 nk hj' hr0
      have dg : DGet H3 D (.ref t) (some (.ref r0)) := by
        have q := DGet.t (k := keyN (atPs ps g).key) m3.dict (by rw [keyN_kV]; exact ht3)
        rw [ev] at q
        exact q
      have nr0 : H r0 = none := m3.new r0 (List.mem_of_getElem? hr0)
      have rlr : rl ≠ r0 := ne_of_none hl1 nr0
      refine ⟨_, rfl, _, rfl, D, .ref r0, rfl, dg, ?_⟩
      refine ⟨_, rfl, r0, z.L, d0, _, _, rfl, h01, T.lin.cl, T.lin.no _ (by simp), lnAmount, _, rfl, rl, z.L, dl, _, _, rfl, hr3, T.lin.cl, T.lin.no _ (by simp), lnAmount, _, _, rfl, rfl, d0, _, h01, by show 3 < 1000; decide, ?_⟩
      rw [lnPutA]
      have hr4 : (L2.upd H3 r0 (.ins z.L d0 (fsLine [.ref t0, .int (g0.sum + g.sum), .int (g0.n : Int)]))) rl = some (.ins z.L dl (fsLine [.ref tl, .int g.sum, .int (g.n : Int)])) := by rw [upd_ne rlr]; exact hr3
      refine ⟨_, rfl, r0, z.L, d0, _, _, rfl, upd_same, T.lin.cl, T.lin.no _ (by simp), lnCount, _, rfl, rl, z.L, dl, _, _, rfl, hr4, T.lin.cl, T.lin.no _ (by simp), lnCount, _, _, rfl, rfl, d0, _, upd_same, by show 3 < 1000; decide, ?_⟩
      rw [lnPutC, upd_upd]
      have m4 := m3.add nk hj' hr0 h01 h02 (atPs ps g).sum (atPs ps g).n
      rw [ek, ← step2] at m4
      exact ⟨⟨_, _, _, rfl⟩, ls', m4⟩
  · rintro σ H' ⟨⟨v3, v4, v5, rfl⟩, ls, m⟩
    rw [rV_len, alg.1, List.take_length] at m
    have hlen : Len ps.length (gs.map (atPs ps)) := len_at ps gs
    have nk : (keys (gather (gs.map (atPs ps)))).Nodup := gather_nodup hlen
    have acc16 : (gather (gs.map (atPs ps))).length ≤ 16 := by
      refine Nat.le_trans (gather_le _) ?_
      rw [List.length_map]
      exact h16
    have kok : ∀ k ∈ keys (gather (gs.map (atPs ps))), k.length = ps.length ∧ ∀ v ∈ k, v ≤ 9 := fun k hk => by
      obtain ⟨x, hx, ek⟩ := List.mem_map.mp hk
      have := merge_ok (ps := ps) hok x ((gather_perm _ hlen).mem_iff.mp hx)
      rw [← ek]
      exact this
    refine ⟨_, rfl, D, _, keys (gather (gs.map (atPs ps))), ps.length, rfl, Rd.of m.dict, kvOf_keys m.al.1, by unfold keys; rw [List.length_map]; omega, kok, nk, fun ks' bs p perm srt albs np => ?_⟩
    have eks : ks' = keys (mergeG ps gs) := keys_sorted hlen perm srt
    subst eks
    have sp : Same H' (L2.upd H' p (.lst (rV bs))) := same_new np
    have mp := m.mono sp
    refine ⟨p, rfl, ⟨_, SqL.of upd_same⟩, fun L hL => ?_⟩
    have albs' : Al (fun b k => (L2.upd H' p (.lst (rV bs))) b = some (.tup (nV k))) bs (keys (mergeG ps gs)) := albs.mono fun x y e => sp _ _ e
    have hpL : (L2.upd H' p (.lst (rV bs))) p = some (.lst (rV bs)) := upd_same
    generalize (L2.upd H' p (.lst (rV bs))) = Hs at hL mp albs' hpL
    refine lc_list (K := K) (a := p) (xs := rV bs) (fun j H2 => ∃ ts, H2 = L2.upd Hs L (.lst (rV ts)) ∧ Al (IsLn z Hs) ts ((mergeG ps gs).take j)) ⟨[], rfl, Al.nil⟩ (fun j H2 _ ⟨ts, e, _⟩ => by rw [e]; exact (same_new hL).seq (SqL.of hpL)) ?_ ?_
    · rintro j v H2 hv ⟨ts, rfl, alt⟩
      obtain ⟨b0, hb0, rfl⟩ := rV_inv hv
      obtain ⟨k0, hk0, hbk⟩ := albs'.at1 hb0
      unfold keys at hk0
      rw [List.getElem?_map] at hk0
      obtain ⟨g0, hg0, ek⟩ := Option.map_eq_some_iff.mp hk0
      obtain ⟨q, hq, eq⟩ := List.getElem_of_mem (gather_at hlen (List.mem_of_getElem? hg0))
      have hq' : (gather (gs.map (atPs ps)))[q]? = some g0 := by rw [List.getElem?_eq_getElem hq, eq]
      obtain ⟨r0, hr0, ln0⟩ := mp.al.at hq'
      have sL : Same Hs (L2.upd Hs L (.lst (rV ts))) := same_new hL
      have ev : valV (kvOf (gather (gs.map (atPs ps))) ls) (keyN k0) = some (.ref r0) := by rw [← ek]; exact kvOf_val mp.al.1 nk hq' hr0
      have dg : DGet (L2.upd Hs L (.lst (rV ts))) D (.ref b0) (some (.ref r0)) := by
        have u := DGet.t (k := keyN k0) (sL _ _ mp.dict) (by rw [keyN_kV]; exact sL _ _ hbk)
        rw [ev] at u
        exact u
      refine ⟨rfl, ?_⟩
      refine ⟨_, rfl, _, rfl, D, .ref r0, rfl, dg, _, upd_same, ?_, ts ++ [r0], ?_, ?_⟩
      · rw [rV_len, alt.1, List.length_take, sizeLine_eq]
        have : (mergeG ps gs).length ≤ gs.length := merge_le
        omega
      · rw [upd_upd, rV_snoc]
      · rw [List.take_add_one, hg0]
        exact alt.snoc ln0
    · rintro H2 ⟨ts, rfl, alt⟩
      have e : (mergeG ps gs).take (rV bs).length = mergeG ps gs := List.take_of_length_le (by
        rw [rV_len, albs.1]
        unfold keys
        rw [List.length_map]
        exact Nat.le_refl _)
      rw [e] at alt
      exact hQ L ts _ (mp.same.trans (same_new hL)) (mp.same.free hL) upd_same (alt.mono fun _ _ q => q.mono (same_new hL))
end
end Kg
namespace Kg
open PySem PySem.Spec PyProof.Rows L2
open Vamvsa (Ask Table Group)
def rLenSq (K : PySem.W.Frag) : List V → Hp → VK → Prop := fun xs H Q => ∃ p ys, xs = [.ref p] ∧ (SqL K H p ys ∨ SqT K H p ys) ∧ Q (.int ((ys.length : Nat) : Int)) H
theorem cr_len {X : Cx} : CallR X (.builtin "len") (rLenSq X.K) := call_len_seq
theorem Al.mapR {α β γ : Type} {F : α → γ → Prop} {f : β → γ} {xs : List α} {ys : List β} (h : Al (fun x y => F x (f y)) xs ys) : Al F xs (ys.map f) :=
  ⟨by rw [List.length_map]; exact h.1, fun i x y a b => by
    rw [List.getElem?_map] at b
    obtain ⟨y0, q1, q2⟩ := Option.map_eq_some_iff.mp b
    rw [← q2]
    exact h.2 i x y0 a q1⟩
theorem rowsG_eq (t : Table) : rowsG t = t.rows.map rowG := rfl
/-- the place of a column among the columns that are there -/
theorem idx_cols {l : List Nat} {c : Nat} (h : c ∈ l) : l[l.findIdx fun x => x == c]? = some c ∧ ∀ (m x : Nat), m < (l.findIdx fun x => x == c) → l[m]? = some x → x ≠ c := by
  have hl : l.findIdx (fun x => x == c) < l.length := List.findIdx_lt_length_of_exists ⟨c, h, beq_self_eq_true c⟩
  refine ⟨?_, fun m x hm hx => ?_⟩
  · have := List.findIdx_getElem (w := hl)
    rw [List.getElem?_eq_getElem hl]
    exact congrArg some (beq_iff_eq.mp this)
  · have hml : m < l.length := Nat.lt_trans hm hl
    have := List.not_of_lt_findIdx hm
    rw [List.getElem?_eq_getElem hml] at hx
    cases hx
    intro e
    rw [beq_iff_eq.mpr e] at this
    cases this
theorem flat_nV (l : List Nat) : (nV l).all flatV = true := by
  rw [List.all_eq_true]
  intro v hv
  obtain ⟨n, _, e⟩ := List.mem_map.mp hv
  rw [← e]
  rfl
section
variable {P : Program} {w : World} {K : PySem.W.Frag} {mg : Str → Option Value} {base : Heap} {z : Ads}
abbrev sFromTable : Stmt := topS 19
theorem scFromTable : FnScope ["table", "grouping"] ["table", "grouping"] (defScope sFromTable) := ⟨rfl, rfl, rfl, by decide +kernel, rfl, by decide +kernel, by decide +kernel⟩
def spFromTable (z : Ads) : Sp := fun vs H Q _ => ∃ (tb : Addr) (t : Table) (g : Nat), vs = [.ref tb, .int (g : Int)] ∧ IsTab z H tb t ∧ TableGood t ∧ ∀ l ts H', Same H H' → H l = none → H' l = some (.lst (rV ts)) → Al (IsLn z H') ts (Vamvsa.groupsOf t g) → Q (.ref l) H'
theorem okFromTable (D : Df K mg "lines_from_table" sFromTable ["table", "grouping"]) (T : Tx P w K mg base z) (B : TbC K z) (O1 : Ok P w K mg base CX0 3 "merged" ["lines", "positions"] (spMerged K z)) (O2 : Ok P w K mg base CX0 1 "columns_of" ["grouping", "width"] spColumnsOf) :
    Ok P w K mg base CX0 4 "lines_from_table" ["table", "grouping"] (spFromTable z) := by
  refine D.ok fun f fd F => F.ok scFromTable (fun vs H Q E h => ?_) (fun cdv A outer s H vs Q E hr h => ?_)
  · obtain ⟨tb, t, g, rfl, _⟩ := h
    rfl
  obtain ⟨tb, t, g, rfl, hT, good, hQ⟩ := h
  refine ⟨_, pss_one (ps_ret (pe_ok O1 hr (by decide) rfl pass0 (pa_cons (pe_fld (pv 0) rfl) (pa_cons (pe_ok O2 hr (by decide) rfl pass0 (pa_cons (pv 1) (pa_cons (pe_callB cr_len (by rfl) T.blt.len PySem.boot_len (pa_cons (pe_fld (pv 0) rfl) pa_nil)) pa_nil))) pa_nil)))), ?_⟩
  obtain ⟨cl, rl, ql, cas, ras, qas, ⟨⟨dx, h1⟩, h2, h3, h5⟩, alc, alr, alq⟩ := hT
  refine ⟨_, rfl, tb, z.B, dx, _, _, rfl, h1, B.cl, B.no _ (by simp), tabRows, _, rfl, _, rfl, tb, z.B, dx, _, _, rfl, h1, B.cl, B.no _ (by simp), tabCols, _, _, rfl, .inl (SqL.of h2), g, t.cols.length, ?_, good.ok.c4, fun p hp => ?_⟩
  · rw [rV_len, alc.1]; rfl
  have sp := same_new (o := HO.lst (nV (Vamvsa.columnsOf t.cols.length g))) hp
  refine ⟨rl, p, ras, rowsG t, Vamvsa.columnsOf t.cols.length g, t.cols.length, rfl, SqL.of (sp _ _ h3), (Al.mapR (f := rowG) alr).mono fun _ _ e => e.mono sp, SqL.of upd_same, rows_ok good.ok, fun c hc => (mem_cols.mp hc).1, ?_, ?_, fun l ts H' s' nl hl al' => ?_⟩
  · unfold rowsG
    rw [List.length_map]
    exact good.ok.r16
  · exact Nat.le_trans (cols_len _ _) good.ok.c4
  · refine hQ l ts H' (sp.trans s') (sp.free nl) hl ?_
    rw [groupsOf_merge]
    exact al'
abbrev sFromAnswer : Stmt := topS 20
theorem scFromAnswer : FnScope ["table", "lines", "source", "grouping", "there", "wanted", "column"] ["table", "lines", "source", "grouping"] (defScope sFromAnswer) := ⟨rfl, rfl, rfl, by decide +kernel, rfl, by decide +kernel, by decide +kernel⟩
def spFromAnswer (K : PySem.W.Frag) (z : Ads) : Sp := fun vs H Q _ => ∃ (tb a : Addr) (t : Table) (s g : Nat) (rs : List Addr) (gs : List Group), vs = [.ref tb, .ref a, .int (s : Int), .int (g : Int)] ∧ IsTab z H tb t ∧ TableGood t ∧ SqL K H a (rV rs) ∧ Al (IsLn z H) rs gs ∧
  (∀ x ∈ gs, LineOk (Vamvsa.columnsOf t.cols.length s).length x) ∧ gs.length ≤ 16 ∧ Vamvsa.canFrom t.cols.length s g = true ∧
  ∀ l ts H', Same H H' → H l = none → H' l = some (.lst (rV ts)) → Al (IsLn z H') ts (Vamvsa.rolled t.cols.length s g gs) → Q (.ref l) H'
theorem okFromAnswer (D : Df K mg "lines_from_answer" sFromAnswer ["table", "lines", "source", "grouping"]) (T : Tx P w K mg base z) (B : TbC K z) (O1 : Ok P w K mg base CX0 3 "merged" ["lines", "positions"] (spMerged K z)) (O2 : Ok P w K mg base CX0 1 "columns_of" ["grouping", "width"] spColumnsOf) :
    Ok P w K mg base CX0 4 "lines_from_answer" ["table", "lines", "source", "grouping"] (spFromAnswer K z) := by
  refine D.ok fun f fd F => F.ok scFromAnswer (fun vs H Q E h => ?_) (fun cdv A outer st H vs Q E hr h => ?_)
  · obtain ⟨tb, a, t, s, g, rs, gs, rfl, _⟩ := h
    rfl
  obtain ⟨tb, a, t, s, g, rs, gs, rfl, hT, good, hA, alg, hok, h16, hcan, hQ⟩ := h
  refine ⟨_, pss_cons (ps_set (i := 4) scFromAnswer.nd rfl (.inr rfl) (pe_ok O2 hr (by decide) rfl pass0 (pa_cons (pv 2) (pa_cons (pe_callB cr_len (by rfl) T.blt.len PySem.boot_len (pa_cons (pe_fld (pv 0) rfl) pa_nil)) pa_nil))))
    <| pss_cons (ps_set (i := 5) scFromAnswer.nd rfl (.inl rfl) (pe_ok O2 hr (by decide) rfl pass0 (pa_cons (pv 3) (pa_cons (pe_callB cr_len (by rfl) T.blt.len PySem.boot_len (pa_cons (pe_fld (pv 0) rfl) pa_nil)) pa_nil))))
    <| pss_one (ps_ret (pe_ok O1 hr (by decide) rfl pass0 (pa_cons (pv 1) (pa_cons (pe_lc (own := [("column", 6)]) (g := gName 6) (tt := tYes) (te := tBM K "list" (rIndex K) (tVar 4) (tCons (tVar 6) tNil)) rfl scFromAnswer.nd (pi_list (pv 5))
        (blkOk_by (N := ["table", "lines", "source", "grouping", "there", "wanted", "column"]) (sc := defScope sFromAnswer) (by decide +kernel))
        (fun _ _ _ _ _ => pg_name (i := 6) scFromAnswer.nd rfl (Or.inl rfl)) (fun _ _ _ _ _ => pts_nil) (fun _ _ _ _ _ => pe_bm PySem.F.plainAttrs_list PySem.F.slot_list_index PySem.F.type_list_index mt_index (pv 4) (pa_cons (pv 6) pa_nil))) pa_nil)))), ?_⟩
  obtain ⟨cl, rl, ql, cas, ras, qas, ⟨⟨dx, h1⟩, h2, h3, h5⟩, alc, alr, alq⟩ := hT
  refine ⟨_, rfl, _, rfl, tb, z.B, dx, _, _, rfl, h1, B.cl, B.no _ (by simp), tabCols, _, _, rfl, .inl (SqL.of h2), s, t.cols.length, ?_, good.ok.c4, fun p hp => ?_⟩
  · rw [rV_len, alc.1]; rfl
  have s1 := same_new (o := HO.lst (nV (Vamvsa.columnsOf t.cols.length s))) hp
  have p1 : (L2.upd H p (.lst (nV (Vamvsa.columnsOf t.cols.length s)))) p = some (.lst (nV (Vamvsa.columnsOf t.cols.length s))) := upd_same
  generalize (L2.upd H p (.lst (nV (Vamvsa.columnsOf t.cols.length s)))) = H1 at s1 p1
  refine ⟨_, rfl, _, rfl, tb, z.B, dx, _, _, rfl, s1 _ _ h1, B.cl, B.no _ (by simp), tabCols, _, _, rfl, .inl (SqL.of (s1 _ _ h2)), g, t.cols.length, ?_, good.ok.c4, fun q hq => ?_⟩
  · rw [rV_len, alc.1]; rfl
  have s2 := same_new (o := HO.lst (nV (Vamvsa.columnsOf t.cols.length g))) hq
  have q2 : (L2.upd H1 q (.lst (nV (Vamvsa.columnsOf t.cols.length g)))) q = some (.lst (nV (Vamvsa.columnsOf t.cols.length g))) := upd_same
  generalize (L2.upd H1 q (.lst (nV (Vamvsa.columnsOf t.cols.length g)))) = H2 at s2 q2
  have p2 := s2 _ _ p1
  have s12 := s1.trans s2
  refine ⟨_, rfl, _, rfl, q, rfl, ⟨_, SqL.of q2⟩, fun L hL => lc_list (K := K) (a := q) (xs := nV (Vamvsa.columnsOf t.cols.length g)) (fun j H3 => H3 = L2.upd H2 L (.lst (nV (((Vamvsa.columnsOf t.cols.length g).take j).map fun i => (Vamvsa.columnsOf t.cols.length s).findIdx fun c => c == i))))
    rfl (fun j H3 _ e => by rw [e]; exact (same_new hL).seq (SqL.of q2)) ?_ ?_⟩
  · rintro j v H3 hv rfl
    obtain ⟨c, hc, rfl⟩ := nV_inv hv
    have hin : c ∈ Vamvsa.columnsOf t.cols.length s := by
      unfold Vamvsa.canFrom at hcan
      exact List.contains_iff_mem.mp (List.all_eq_true.mp hcan c (List.mem_of_getElem? hc))
    obtain ⟨i1, i2⟩ := idx_cols hin
    have sL : Same H2 (L2.upd H2 L (.lst (nV (((Vamvsa.columnsOf t.cols.length g).take j).map fun i => (Vamvsa.columnsOf t.cols.length s).findIdx fun c => c == i)))) := same_new hL
    refine ⟨rfl, ?_⟩
    refine ⟨_, rfl, .inl ⟨rfl, _, SqL.of (sL _ _ p2)⟩, _, rfl, p, _, _, (Vamvsa.columnsOf t.cols.length s).findIdx (fun x => x == c), _, rfl, rfl, SqL.of (sL _ _ p2), rfl, flat_nV _, nV_at i1, by show ((c : Int) == (c : Int)) = true; exact beq_self_eq_true _, ?_, _, upd_same, ?_, ?_⟩
    · intro m v hm hv
      obtain ⟨x, hx, rfl⟩ := nV_inv hv
      show ((x : Int) == (c : Int)) = false
      exact beq_eq_false_iff_ne.mpr fun e => i2 m x hm hx (Int.ofNat.inj e)
    · have := cols_len t.cols.length g
      have := good.ok.c4
      rw [nV_len, List.length_map, List.length_take, sizeLine_eq]
      omega
    · rw [upd_upd, nV_snoc, List.take_add_one, hc, List.map_append]
      rfl
  · rintro _ rfl
    rw [nV_len, List.take_length]
    have sL : Same H2 (L2.upd H2 L (.lst (nV (rollPs t.cols.length s g)))) := same_new hL
    refine ⟨a, L, rs, gs, rollPs t.cols.length s g, (Vamvsa.columnsOf t.cols.length s).length, rfl, (s12.trans sL).seq hA, alg.mono fun _ _ e => e.mono (s12.trans sL), SqL.of upd_same, hok, rollPs_lt hcan, h16, ?_, fun l ts H' s' nl hl al' => ?_⟩
    · unfold rollPs
      rw [List.length_map]
      exact Nat.le_trans (cols_len _ _) good.ok.c4
    · refine hQ l ts H' ((s12.trans sL).trans s') ((s12.trans sL).free nl) hl ?_
      rw [rolled_merge]
      exact al'
abbrev sSizesOfAll : Stmt := topS 22
theorem scSizesOfAll : FnScope ["table", "grouping"] ["table"] (defScope sSizesOfAll) := ⟨rfl, rfl, rfl, by decide +kernel, rfl, by decide +kernel, by decide +kernel⟩
def spSizesOfAll (z : Ads) : Sp := fun vs H Q _ => ∃ (tb : Addr) (t : Table), vs = [.ref tb] ∧ IsTab z H tb t ∧ TableGood t ∧ ∀ l H', Same H H' → H l = none → H' l = some (.lst (nV ((Vamvsa.groupings t).map (Vamvsa.sizeOf_ t)))) → Q (.ref l) H'
theorem okSizesOfAll (D : Df K mg "sizes_of_all" sSizesOfAll ["table"]) (T : Tx P w K mg base z) (O1 : Ok P w K mg base CX0 1 "how_many_groupings" ["table"] (spHowMany z)) (O2 : Ok P w K mg base CX0 4 "lines_from_table" ["table", "grouping"] (spFromTable z)) :
    Ok P w K mg base CX0 5 "sizes_of_all" ["table"] (spSizesOfAll z) := by
  refine D.ok fun f fd F => F.ok scSizesOfAll (fun vs H Q E h => ?_) (fun cdv A outer s H vs Q E hr h => ?_)
  · obtain ⟨tb, t, rfl, _⟩ := h
    rfl
  obtain ⟨tb, t, rfl, hT, good, hQ⟩ := h
  refine ⟨_, pss_one (ps_ret (pe_lc (own := [("grouping", 1)]) (g := gName 1) (tt := tYes) (te := tCB (rLenSq K) (tCons (tCall (spFromTable z) [] E0 (tCons (tVar 0) (tCons (tVar 1) tNil))) tNil)) rfl scSizesOfAll.nd
      (pi_range1 (by rfl) T.blt.range (pa_cons (pe_ok O1 hr (by decide) rfl pass0 (pa_cons (pv 0) pa_nil)) pa_nil)) (blkOk_by (N := ["table", "grouping"]) (sc := defScope sSizesOfAll) (by decide +kernel))
      (fun _ _ _ _ _ => pg_name (i := 1) scSizesOfAll.nd rfl (Or.inl rfl)) (fun _ _ _ _ _ => pts_nil) (fun _ _ _ _ _ => pe_callB cr_len (by rfl) T.blt.len PySem.boot_len (pa_cons (pe_ok O2 hr (by decide) rfl pass0 (pa_cons (pv 0) (pa_cons (pv 1) pa_nil))) pa_nil)))), ?_⟩
  have p16 := pow16 good.ok.c4
  have q0 : (0 : Int) ≤ ((2 ^ t.cols.length : Nat) : Int) := Int.natCast_nonneg _
  have q1 : ((2 ^ t.cols.length : Nat) : Int) ≤ 16 := Int.ofNat_le.mpr p16
  refine ⟨_, rfl, tb, t, rfl, hT, good.ok.c4, _, rfl, Int.le_trans (by decide) q0, Int.lt_of_le_of_lt q1 (by decide), fun L hL => lc_range (lo := 0) (n := 2 ^ t.cols.length) (fun i H' => Same H H' ∧ H' L = some (.lst (nV ((List.range i).map (Vamvsa.sizeOf_ t))))) ⟨same_new hL, upd_same⟩ ?_ ?_⟩
  · rintro i H' hi ⟨sm, hl⟩
    refine ⟨rfl, ?_⟩
    refine ⟨_, rfl, _, rfl, tb, t, i, ?_, hT.mono sm, good, fun l ts H2 s2 nl hl2 al2 => ?_⟩
    · show [V.ref tb, V.int (0 + (i : Int))] = _
      rw [Int.zero_add]
    refine ⟨l, _, rfl, .inl (SqL.of hl2), _, s2 _ _ hl, ?_, ?_, ?_⟩
    · rw [nV_len, List.length_map, List.length_range, sizeLine_eq]; omega
    · exact same_upd (sm.trans s2) hL
    · rw [upd_same, List.range_succ, List.map_append, rV_len, al2.1, nV_snoc]
      rfl
  · rintro H' ⟨sm, hl⟩
    exact hQ L H' sm hL hl
end
end Kg
namespace Kg
open PySem PySem.Spec PyProof.Rows L2
open Vamvsa (Ask Table Group)
/-- the kept answers, by grouping -/
def kpOf : List Nat → List Addr → List (Key × V)
  | g :: gs, a :: as => (Sum.inl (g : Int), V.ref a) :: kpOf gs as
  | _, _ => []
theorem kpOf_snoc : ∀ {ks : List Nat} {as : List Addr} {g : Nat} {a : Addr}, as.length = ks.length → kpOf (ks ++ [g]) (as ++ [a]) = kpOf ks as ++ [(Sum.inl (g : Int), V.ref a)]
  | [], [], _, _, _ => rfl
  | [], _ :: _, _, _, h => by cases h
  | _ :: _, [], _, _, h => by cases h
  | x :: ks, y :: as, g, a, h => by
    show _ :: kpOf (ks ++ [g]) (as ++ [a]) = _ :: (kpOf ks as ++ _)
    rw [kpOf_snoc (Nat.succ.inj h)]
theorem kpOf_len : ∀ {ks : List Nat} {as : List Addr}, as.length = ks.length → (kpOf ks as).length = ks.length
  | [], [], _ => rfl
  | [], _ :: _, h => by cases h
  | _ :: _, [], h => by cases h
  | x :: ks, y :: as, h => congrArg (· + 1) (kpOf_len (Nat.succ.inj h))
theorem kpOf_at : ∀ {ks : List Nat} {as : List Addr} {j : Nat} {k : Key} {v : V}, (kpOf ks as)[j]? = some (k, v) → ∃ g a, ks[j]? = some g ∧ as[j]? = some a ∧ k = Sum.inl (g : Int) ∧ v = .ref a
  | [], _, _, _, _, h => by cases h
  | _ :: _, [], _, _, _, h => by cases h
  | x :: ks, y :: as, 0, k, v, h => by
    cases h
    exact ⟨x, y, rfl, rfl, rfl, rfl⟩
  | x :: ks, y :: as, j + 1, k, v, h => kpOf_at (ks := ks) (as := as) (j := j) h
theorem key_int {g h : Nat} : ((Sum.inl (g : Int) : Key) = Sum.inl (h : Int)) ↔ g = h := ⟨fun e => Int.ofNat.inj (Sum.inl.inj e), fun e => by rw [e]⟩
theorem kpOf_val : ∀ {ks : List Nat} {as : List Addr} {j : Nat} {g : Nat} {a : Addr}, as.length = ks.length → ks.Nodup → ks[j]? = some g → as[j]? = some a → valV (kpOf ks as) (Sum.inl (g : Int)) = some (.ref a)
  | [], _, _, _, _, _, _, h, _ => by cases h
  | _ :: _, [], _, _, _, h, _, _, _ => by cases h
  | x :: ks, y :: as, 0, g, a, h, nd, h1, h2 => by
    cases h1
    cases h2
    exact valV_pos rfl
  | x :: ks, y :: as, j + 1, g, a, h, nd, h1, h2 => by
    obtain ⟨n1, n2⟩ := List.nodup_cons.mp nd
    have hg : g ∈ ks := List.mem_of_getElem? h1
    show valV ((Sum.inl (x : Int), V.ref y) :: kpOf ks as) (Sum.inl (g : Int)) = _
    rw [valV_neg (p := ((Sum.inl (x : Int) : Key), V.ref y)) fun e => n1 (by rw [key_int.mp e]; exact hg)]
    exact kpOf_val (Nat.succ.inj h) n2 h1 h2
theorem kpOf_none : ∀ {ks : List Nat} {as : List Addr} {g : Nat}, g ∉ ks → valV (kpOf ks as) (Sum.inl (g : Int)) = none
  | [], _, _, _ => rfl
  | _ :: _, [], _, _ => rfl
  | x :: ks, y :: as, g, h => by
    show valV ((Sum.inl (x : Int), V.ref y) :: kpOf ks as) (Sum.inl (g : Int)) = _
    rw [valV_neg (p := ((Sum.inl (x : Int) : Key), V.ref y)) fun e => h (by rw [← key_int.mp e]; exact List.mem_cons_self)]
    exact kpOf_none fun z => h (List.mem_cons_of_mem _ z)
theorem putK_newK {kvs : List (Key × V)} {k : Key} {v : V} (h : valV kvs k = none) : putK kvs k v = kvs ++ [(k, v)] := by
  unfold putK
  rw [if_neg]
  intro e
  obtain ⟨x, hx, hk⟩ := List.any_eq_true.mp e
  unfold valV at h
  rw [Option.map_eq_none_iff, List.find?_eq_none] at h
  exact h x hx hk
theorem kpOf_set : ∀ {ks : List Nat} {as : List Addr} {g : Nat} {a : Addr}, as.length = ks.length → ∃ as', as'.length = ks.length ∧ (kpOf ks as).map (fun kv => if kv.1 = (Sum.inl (g : Int) : Key) then (kv.1, V.ref a) else kv) = kpOf ks as' ∧ ∀ (i : Nat) (x : Nat) (y : Addr), ks[i]? = some x → as'[i]? = some y → (x = g ∧ y = a) ∨ as[i]? = some y
  | [], [], _, _, _ => ⟨[], rfl, rfl, fun i x y h => by cases h⟩
  | [], _ :: _, _, _, h => by cases h
  | _ :: _, [], _, _, h => by cases h
  | x :: ks, y :: as, g, a, h => by
    obtain ⟨as', l, e, q⟩ := kpOf_set (ks := ks) (as := as) (g := g) (a := a) (Nat.succ.inj h)
    by_cases c : x = g
    · refine ⟨a :: as', by rw [List.length_cons, List.length_cons, l], ?_, fun i u v h1 h2 => ?_⟩
      · show (if (Sum.inl (x : Int) : Key) = Sum.inl (g : Int) then _ else _) :: (kpOf ks as).map _ = _
        rw [if_pos (key_int.mpr c), e]
        rfl
      · cases i with
        | zero => cases h1; cases h2; exact .inl ⟨c, rfl⟩
        | succ i => exact q i u v h1 h2
    · refine ⟨y :: as', by rw [List.length_cons, List.length_cons, l], ?_, fun i u v h1 h2 => ?_⟩
      · show (if (Sum.inl (x : Int) : Key) = Sum.inl (g : Int) then _ else _) :: (kpOf ks as).map _ = _
        rw [if_neg fun z => c (key_int.mp z), e]
        rfl
      · cases i with
        | zero => cases h1; cases h2; exact .inr rfl
        | succ i => exact q i u v h1 h2
/-- an answer's lines -/
def IsAns (z : Ads) (H : Hp) (t : Table) (a : Addr) (g : Nat) : Prop := ∃ rs, H a = some (.lst (rV rs)) ∧ Al (IsLn z H) rs (Vamvsa.groupsOf t g)
theorem IsAns.mono {z : Ads} {H H' : Hp} {t : Table} {a : Addr} {g : Nat} (s : Same H H') (h : IsAns z H t a g) : IsAns z H' t a g := by
  obtain ⟨rs, h1, h2⟩ := h
  exact ⟨rs, s _ _ h1, h2.mono fun _ _ e => e.mono s⟩
/-- the kept answers, stored -/
def IsKept (z : Ads) (H : Hp) (kd : Addr) (t : Table) (ks : List Nat) : Prop := ∃ as, H kd = some (.dK (kpOf ks as)) ∧ Al (fun a g => IsAns z H t a g) as ks
theorem IsKept.mono {z : Ads} {H H' : Hp} {t : Table} {kd : Addr} {ks : List Nat} (s : Same H H') (h : IsKept z H kd t ks) : IsKept z H' kd t ks := by
  obtain ⟨as, h1, h2⟩ := h
  exact ⟨as, s _ _ h1, h2.mono fun _ _ e => e.mono s⟩
theorem IsAns.away {z : Ads} {H : Hp} {t : Table} {a l : Addr} {g : Nat} {kvs : List (Key × V)} {o : HO} (hl : H l = some (.dK kvs)) (h : IsAns z H t a g) : IsAns z (L2.upd H l o) t a g := by
  obtain ⟨rs, h1, h2⟩ := h
  exact ⟨rs, by rw [upd_ne (ne_of h1 hl (by intro z; cases z))]; exact h1, h2.mono fun _ _ e => e.away hl (fun dx fs z => by cases z) (fun xs z => by cases z)⟩
theorem once_len : ∀ l : List Nat, (once l).length ≤ l.length := by
  refine rev_ind (Nat.le_refl _) fun l x ih => ?_
  rw [once_snoc, List.length_append, List.length_singleton]
  split
  · omega
  · rw [List.length_append, List.length_singleton]; omega
section
variable {P : Program} {w : World} {K : PySem.W.Frag} {mg : Str → Option Value} {base : Heap} {z : Ads}
abbrev sKeptAnswers : Stmt := topS 25
theorem scKeptAnswers : FnScope ["table", "groupings", "kept", "grouping"] ["table", "groupings"] (defScope sKeptAnswers) := ⟨rfl, rfl, rfl, by decide +kernel, rfl, by decide +kernel, by decide +kernel⟩
def spKeptAnswers (K : PySem.W.Frag) (z : Ads) : Sp := fun vs H Q _ => ∃ (tb a : Addr) (t : Table) (l : List Nat), vs = [.ref tb, .ref a] ∧ IsTab z H tb t ∧ TableGood t ∧ SqL K H a (nV l) ∧ (∀ g ∈ l, g < 2 ^ t.cols.length) ∧ l.length ≤ 2000 ∧
  ∀ kd H', Same H H' → H kd = none → IsKept z H' kd t (once l) → Q (.ref kd) H'
theorem okKeptAnswers (D : Df K mg "kept_answers" sKeptAnswers ["table", "groupings"]) (T : Tx P w K mg base z) (O1 : Ok P w K mg base CX0 4 "lines_from_table" ["table", "grouping"] (spFromTable z)) :
    Ok P w K mg base CX0 5 "kept_answers" ["table", "groupings"] (spKeptAnswers K z) := by
  refine D.ok fun f fd F => F.ok scKeptAnswers (fun vs H Q E h => ?_) (fun cdv A outer s H vs Q E hr h => ?_)
  · obtain ⟨tb, a, t, l, rfl, _⟩ := h
    rfl
  obtain ⟨tb, a, t, l, rfl, hT, good, hA, hlt, h2000, hQ⟩ := h
  have hu := hu_of hr
  refine ⟨_, pss_cons (ps_set (i := 2) scKeptAnswers.nd rfl (.inl rfl) pe_dnewK)
    <| pss_cons (ps_for PassesOwn.never rfl (pi_list (pv 1)) (pg_name (i := 3) scKeptAnswers.nd rfl (.inl rfl))
      (pss_one (ps_if (pt_cmp (pc_dnotin hu (pv 3) (pv 2))) (pss_one (ps_dput hu (pv 2) (pv 3) (pe_ok O1 hr (by decide) rfl pass0 (pa_cons (pv 0) (pa_cons (pv 3) pa_nil))) rfl)) pss_nil)))
    <| pss_one (ps_ret (pv 2)), ?_⟩
  intro kd hkd
  refine ⟨_, rfl, a, rfl, ⟨_, (same_new hkd).seq hA⟩, for_list (K := K) (a := a) (xs := nV l) (fun i σ H' => (∃ v : Option V, σ = [some (.ref tb), some (.ref a), some (.ref kd), v]) ∧ Same H H' ∧ IsKept z H' kd t (once (l.take i)))
    ⟨⟨none, rfl⟩, same_new hkd, [], upd_same, Al.nil⟩ (fun i σ H' _ ⟨_, sm, _⟩ => sm.seq hA) ?_ ?_⟩
  · rintro i v σ H' hi ⟨⟨v3, rfl⟩, sm, as, hk, al⟩
    obtain ⟨g, hg, rfl⟩ := nV_inv hi
    have nd := (once_kept t (l.take i) fun x hx => hlt x (List.mem_of_mem_take hx)).nd
    have l16 : (once (l.take i)).length ≤ 2000 := Nat.le_trans (once_len _) (by rw [List.length_take]; omega)
    have step : once (l.take (i + 1)) = if g ∈ once (l.take i) then once (l.take i) else once (l.take i) ++ [g] := by
      rw [List.take_add_one, hg]
      exact once_snoc _ _
    generalize once (l.take i) = ks at hk al nd l16 step
    refine ⟨_, rfl, _, rfl, kd, _, rfl, DGet.k (k := Sum.inl (g : Int)) hk, _, rfl, ?_⟩
    by_cases c : g ∈ ks
    · obtain ⟨j, hj, ej⟩ := List.getElem_of_mem c
      have hj' : ks[j]? = some g := by rw [List.getElem?_eq_getElem hj, ej]
      obtain ⟨r0, hr0, _⟩ := al.at hj'
      have ev := kpOf_val al.1 nd hj' hr0
      refine ite2 (fun h => absurd h (by rw [ev]; simp)) fun _ => ?_
      rw [if_pos c] at step
      exact ⟨⟨_, rfl⟩, sm, by rw [step]; exact ⟨as, hk, al⟩⟩
    · have ev : valV (kpOf ks as) (Sum.inl (g : Int)) = none := kpOf_none c
      refine ite2 (fun _ => ?_) fun h => absurd (by rw [ev]; rfl) h
      refine ⟨_, rfl, _, rfl, tb, t, g, rfl, hT.mono sm, good, fun r ts H2 s2 nr hr2 al2 => ?_⟩
      have hk2 := s2 _ _ hk
      refine ⟨_, rfl, _, rfl, kd, _, rfl, DPut.k (k := Sum.inl (g : Int)) hk2 (by rw [kpOf_len al.1, sizeLine_eq]; omega), ?_⟩
      rw [putK_newK ev, ← kpOf_snoc al.1]
      rw [if_neg c] at step
      have an : IsAns z H2 t r g := ⟨ts, hr2, al2⟩
      exact ⟨⟨_, rfl⟩, same_upd (sm.trans s2) hkd, by rw [step]; exact ⟨as ++ [r], upd_same, (al.mono fun _ _ e => (e.mono s2).away hk2).snoc (an.away hk2)⟩⟩
  · rintro σ H' ⟨⟨v3, rfl⟩, sm, k⟩
    rw [nV_len, List.take_length] at k
    exact ⟨_, rfl, hQ kd H' sm hkd k⟩
abbrev sOneMore : Stmt := topS 26
theorem scOneMore : FnScope ["table", "kept", "grouping", "more"] ["table", "kept", "grouping"] (defScope sOneMore) := ⟨rfl, rfl, rfl, by decide +kernel, rfl, by decide +kernel, by decide +kernel⟩
def spOneMore (z : Ads) : Sp := fun vs H Q _ => ∃ (tb kd : Addr) (t : Table) (ks : List Nat) (g : Nat), vs = [.ref tb, .ref kd, .int (g : Int)] ∧ IsTab z H tb t ∧ TableGood t ∧ IsKept z H kd t ks ∧ ks.length ≤ 2000 ∧ ks.Nodup ∧
  ∀ md H', Same H H' → H md = none → IsKept z H' md t (if g ∈ ks then ks else ks ++ [g]) → Q (.ref md) H'
theorem okOneMore (D : Df K mg "with_one_more" sOneMore ["table", "kept", "grouping"]) (T : Tx P w K mg base z) (O1 : Ok P w K mg base CX0 4 "lines_from_table" ["table", "grouping"] (spFromTable z)) :
    Ok P w K mg base CX0 5 "with_one_more" ["table", "kept", "grouping"] (spOneMore z) := by
  refine D.ok fun f fd F => F.ok scOneMore (fun vs H Q E h => ?_) (fun cdv A outer s H vs Q E hr h => ?_)
  · obtain ⟨tb, kd, t, ks, g, rfl, _⟩ := h
    rfl
  obtain ⟨tb, kd, t, ks, g, rfl, hT, good, ⟨as, hk, al⟩, h2000, nd, hQ⟩ := h
  have hu := hu_of hr
  refine ⟨_, pss_cons (ps_set (i := 3) scOneMore.nd rfl (.inl rfl) (pe_callTy cr_copy (by rfl) T.blt.dict (by decide +kernel) (pa_cons (pv 1) pa_nil)))
    <| pss_cons (ps_dput hu (pv 3) (pv 2) (pe_ok O1 hr (by decide) rfl pass0 (pa_cons (pv 0) (pa_cons (pv 2) pa_nil))) rfl)
    <| pss_one (ps_ret (pv 3)), ?_⟩
  refine ⟨_, rfl, kd, _, rfl, Rd.of hk, fun md hmd => ?_⟩
  have s1 : Same H (L2.upd H md (.dK (kpOf ks as))) := same_new hmd
  have hm1 : (L2.upd H md (.dK (kpOf ks as))) md = some (.dK (kpOf ks as)) := upd_same
  generalize (L2.upd H md (.dK (kpOf ks as))) = H1 at s1 hm1
  refine ⟨_, rfl, _, rfl, tb, t, g, rfl, hT.mono s1, good, fun r ts H2 s2 nr hr2 al2 => ?_⟩
  have hm2 := s2 _ _ hm1
  have s12 := s1.trans s2
  have an : IsAns z H2 t r g := ⟨ts, hr2, al2⟩
  have al' : Al (fun a g => IsAns z H2 t a g) as ks := al.mono fun _ _ e => e.mono s12
  refine ⟨_, rfl, _, rfl, md, _, rfl, DPut.k (k := Sum.inl (g : Int)) hm2 (by rw [kpOf_len al.1, sizeLine_eq]; omega), ?_⟩
  refine ⟨_, rfl, hQ md _ (same_upd s12 hmd) hmd ?_⟩
  by_cases c : g ∈ ks
  · rw [if_pos c]
    obtain ⟨j, hj, ej⟩ := List.getElem_of_mem c
    have hj' : ks[j]? = some g := by rw [List.getElem?_eq_getElem hj, ej]
    obtain ⟨r0, hr0, _⟩ := al.at hj'
    have ev := kpOf_val al.1 nd hj' hr0
    obtain ⟨as', l', e', q'⟩ := kpOf_set (ks := ks) (as := as) (g := g) (a := r) al.1
    have any : ((kpOf ks as).any fun kv => decide (kv.1 = (Sum.inl (g : Int) : Key))) = true := by
      unfold valV at ev
      obtain ⟨x, hx, _⟩ := Option.map_eq_some_iff.mp ev
      exact List.any_eq_true.mpr ⟨x, List.mem_of_find?_eq_some hx, List.find?_some (p := fun kv : Key × V => decide (kv.1 = (Sum.inl (g : Int) : Key))) hx⟩
    have ep : putK (kpOf ks as) (Sum.inl (g : Int)) (.ref r) = kpOf ks as' := by
      unfold putK
      rw [if_pos any]
      exact e'
    rw [ep]
    refine ⟨as', upd_same, l', fun i x y h1 h2 => ?_⟩
    rcases q' i y x h2 h1 with ⟨e1, e2⟩ | e1
    · rw [e1, e2]
      exact an.away hm2
    · exact (al'.2 i x y e1 h2).away hm2
  · rw [if_neg c, putK_newK (kpOf_none c), ← kpOf_snoc al.1]
    exact ⟨as ++ [r], upd_same, (al'.mono fun _ _ e => e.away hm2).snoc (an.away hm2)⟩
abbrev sTogether : Stmt := topS 27
theorem scTogether : FnScope ["kept", "lines"] ["kept"] (defScope sTogether) := ⟨rfl, rfl, rfl, by decide +kernel, rfl, by decide +kernel, by decide +kernel⟩
def spTogether (z : Ads) : Sp := fun vs H Q _ => ∃ (kd : Addr) (t : Table) (ks : List Nat), vs = [.ref kd] ∧ IsKept z H kd t ks ∧ ks.length ≤ 2000 ∧ ∀ H', Same H H' → Q (.int (((ks.map (Vamvsa.sizeOf_ t)).sum : Nat) : Int)) H'
theorem sum_cast : ∀ l : List Nat, (l.map fun (n : Nat) => (n : Int)).sum = ((l.sum : Nat) : Int)
  | [] => rfl
  | x :: l => by
    rw [List.map_cons, List.sum_cons, List.sum_cons, sum_cast l]
    omega
theorem okTogether (D : Df K mg "lines_together" sTogether ["kept"]) (T : Tx P w K mg base z) : Ok P w K mg base CX0 1 "lines_together" ["kept"] (spTogether z) := by
  refine D.ok fun f fd F => F.ok scTogether (fun vs H Q E h => ?_) (fun cdv A outer s H vs Q E hr h => ?_)
  · obtain ⟨kd, t, ks, rfl, _⟩ := h
    rfl
  obtain ⟨kd, t, ks, rfl, ⟨as, hk, al⟩, h2000, hQ⟩ := h
  refine ⟨_, pss_one (ps_ret (pe_callB (cr_sum rfl) (by rfl) T.blt.sum (by decide +kernel) (pa_cons (pe_lock (pe_lc (own := [("lines", 1)]) (g := gName 1) (tt := tYes) (te := tCB (rLenSq K) (tCons (tVar 1) tNil)) rfl scTogether.nd
      (pi_values (pv 0)) (blkOk_by (N := ["kept", "lines"]) (sc := defScope sTogether) (by decide +kernel))
      (fun _ _ _ _ _ => pg_name (i := 1) scTogether.nd rfl (Or.inl rfl)) (fun _ _ _ _ _ => pts_nil) (fun _ _ _ _ _ => pe_callB cr_len (by rfl) T.blt.len PySem.boot_len (pa_cons (pv 1) pa_nil)))) pa_nil))), ?_⟩
  refine ⟨kd, _, hk, True.intro, fun od => ?_⟩
  have hf : (L2.upd H kd (.frz od (.dK (kpOf ks as)))) kd = some (.frz od (.dK (kpOf ks as))) := upd_same
  have ho : ∀ b o, b ≠ kd → H b = some o → (L2.upd H kd (.frz od (.dK (kpOf ks as)))) b = some o := fun b o n e => by rw [upd_ne n]; exact e
  generalize (L2.upd H kd (.frz od (.dK (kpOf ks as)))) = Hf at hf ho
  have an : ∀ {a : Addr} {g : Nat}, IsAns z H t a g → ∃ rs, Hf a = some (.lst (rV rs)) ∧ rs.length = Vamvsa.sizeOf_ t g := fun {a g} ⟨rs, h1, h2⟩ => ⟨rs, ho _ _ (ne_of h1 hk (by intro z; cases z)) h1, h2.1⟩
  refine ⟨_, rfl, kd, od, _, rfl, hf, fun L hL => lc_it walk_values (fun j H2 => H2 = L2.upd Hf L (.lst (nV ((ks.take j).map (Vamvsa.sizeOf_ t))))) rfl (fun j H2 _ e => by rw [e, upd_ne (ne_of_none hf hL)]; exact hf) ?_ ?_⟩
  · rintro j x H2 H3 hj rfl ⟨rfl, k, hkv⟩
    obtain ⟨g, a, hg, ha, rfl, rfl⟩ := kpOf_at hkv
    obtain ⟨rs, h1, h2⟩ := an (al.2 j a g ha hg)
    refine ⟨rfl, ?_⟩
    refine ⟨_, rfl, a, _, rfl, .inl (SqL.of (same_new hL _ _ h1)), _, upd_same, ?_, ?_⟩
    · rw [nV_len, List.length_map, List.length_take, sizeLine_eq]; omega
    · rw [upd_upd, rV_len, h2, nV_snoc, List.take_add_one, hg, List.map_append]
      rfl
  · rintro _ rfl
    rw [kpOf_len al.1, List.take_length]
    refine ⟨by rw [upd_ne (ne_of_none hf hL)]; exact hf, L, zI (ks.map (Vamvsa.sizeOf_ t)), rfl, ?_, ?_⟩
    · rw [← nV_z]
      have lk : L ≠ kd := fun e => by rw [e, hf] at hL; cases hL
      exact SqL.of (by rw [upd_ne lk, upd_same])
    · have e : (zI (ks.map (Vamvsa.sizeOf_ t))).sum = (((ks.map (Vamvsa.sizeOf_ t)).sum : Nat) : Int) := sum_cast _
      rw [e]
      refine hQ _ fun b o hb => ?_
      by_cases c : b = kd
      · rw [c, upd_same, ← hk, ← c]
        exact hb
      · have hb' := ho b o c hb
        rw [upd_ne c, upd_ne (ne_of_none hb' hL)]
        exact hb'
abbrev sCostFrom : Stmt := topS 29
theorem scCostFrom : FnScope ["table", "kept", "source"] ["table", "kept", "source"] (defScope sCostFrom) := ⟨rfl, rfl, rfl, by decide +kernel, rfl, by decide +kernel, by decide +kernel⟩
/-- what is read, as a number -/
def rdV : Option Nat → V
  | none => .int (-1)
  | some v => .int (v : Int)
def costN (t : Table) : Option Nat → Nat
  | none => t.rows.length
  | some v => Vamvsa.sizeOf_ t v
def spCostFrom (z : Ads) : Sp := fun vs H Q _ => ∃ (tb kd : Addr) (t : Table) (ks : List Nat) (b : Option Nat), vs = [.ref tb, .ref kd, rdV b] ∧ IsTab z H tb t ∧ IsKept z H kd t ks ∧ ks.Nodup ∧ (∀ v, b = some v → v ∈ ks) ∧ Q (.int ((costN t b : Nat) : Int)) H
theorem okCostFrom (D : Df K mg "cost_from" sCostFrom ["table", "kept", "source"]) (T : Tx P w K mg base z) (B : TbC K z) : Ok P w K mg base CX0 1 "cost_from" ["table", "kept", "source"] (spCostFrom z) := by
  refine D.ok fun f fd F => F.ok scCostFrom (fun vs H Q E h => ?_) (fun cdv A outer s H vs Q E hr h => ?_)
  · obtain ⟨tb, kd, t, ks, b, rfl, _⟩ := h
    rfl
  obtain ⟨tb, kd, t, ks, b, rfl, hT, ⟨as, hk, al⟩, nd, hb, hQ⟩ := h
  have hu := hu_of hr
  refine ⟨_, pss_cons (ps_if (pt_cmpR op_eq (pv 2) (pe_gi T.cst.FROM_TABLE rfl) (nomark _)) (pss_one (ps_ret (pe_callB cr_len (by rfl) T.blt.len PySem.boot_len (pa_cons (pe_fld (pv 0) rfl) pa_nil)))) pss_nil)
    <| pss_one (ps_ret (pe_callB cr_len (by rfl) T.blt.len PySem.boot_len (pa_cons (pe_dget hu (pv 1) (pv 2) (fun _ _ => rfl)) pa_nil))), ?_⟩
  cases b with
  | none =>
    obtain ⟨cl, rl, ql, cas, ras, qas, ⟨⟨dx, h1⟩, h2, h3, h5⟩, alc, alr, alq⟩ := hT
    refine ⟨_, rfl, rfl, _, rfl, ite2 (fun _ => ?_) fun h => absurd (decide_eq_true rfl) h⟩
    refine ⟨_, rfl, tb, z.B, dx, _, _, rfl, h1, B.cl, B.no _ (by simp), tabRows, _, _, rfl, .inl (SqL.of h3), ?_⟩
    rw [rV_len, alr.1]
    exact hQ
  | some v =>
    refine ⟨_, rfl, rfl, _, rfl, ite2 (fun h => ?_) fun _ => ?_⟩
    · have h : ((v : Int)) = -1 := ieq h
      omega
    · obtain ⟨j, hj, ej⟩ := List.getElem_of_mem (hb v rfl)
      have hj' : ks[j]? = some v := by rw [List.getElem?_eq_getElem hj, ej]
      obtain ⟨a, ha, rs, h1, h2⟩ := al.at hj'
      have dg : DGet H kd (.int (v : Int)) (some (.ref a)) := by
        have q := DGet.k (k := Sum.inl (v : Int)) hk
        rw [kpOf_val al.1 nd hj' ha] at q
        exact q
      refine ⟨_, rfl, _, rfl, kd, .ref a, rfl, dg, a, _, rfl, .inl (SqL.of h1), ?_⟩
      rw [rV_len, h2.1]
      exact hQ
end
end Kg
/-! A lambda of one parameter that reads one captured name: made, handed to min as its key, called. -/
namespace Kg
open PySem PySem.Spec PyProof.Rows L2 LamX
/-- where the lambda's body runs -/
def lamX (X : Cx) (A : Around) (s : Shared) (H : Hp) (scope : Scope) (f c' : Addr) : Cx := { lamCx X A X.stack s H (fun _ _ _ => False) scope f c' with N := ["source", "kept"] }
/-- what the lambda's words are -/
structure LamOne (sc scope : Scope) : Prop where
  kind : scope.kind = .function
  co : scope.isCoroutine = false
  gen : scope.isGenerator = false
  src : scope.names.lookup ("source" : Str) = some NameKind.local
  kept : scope.names.lookup ("kept" : Str) = some NameKind.free
  cell : sc.names.lookup ("kept" : Str) = some NameKind.cell
  own : ∀ y ∈ scope.names, y.2 ≠ .cell
  free : ∀ y ∈ scope.names, y.2 = .free → sc.names.lookup y.1 = some .cell ∨ sc.names.lookup y.1 = some .free
theorem noCX {P : Program} {w : World} {outer : List Env} {H : Hp} {s s' : Shared} {e : Value} (c : L2.CX P w outer H s (fun _ _ _ => False) e s') : False := by
  obtain ⟨_, _, _, _, _, _, _, _, _, _, _, _, z⟩ := c
  exact z
section
variable {X : Cx} {pins : List (Addr × Obj)} {σ : L2.St} {H : Hp} {s : Shared}
theorem LamOne.has {scope : Scope} (L : LamOne X.env.scope scope) (ok : X.Ok) : ∀ y ∈ scope.names, y.2 = .free → ∃ c, X.env.cells.lookup y.1 = some c := fun y hy e =>
  (L.free y hy e).elim (fun k => ok.has _ (.inl k)) fun k => ok.has _ (.inr k)
theorem lam_in {A : Around} {scope : Scope} {f c' kd : Addr} {h₁ : Heap} {tk i : Nat} {g : Int} {v : Value} (I : Inv X pins σ H s) (L : LamOne X.env.scope scope) (hA : A.frames = some X.stack) (hd : A.handled = none) (hi : X.N[i]? = some ("kept" : Str)) (hk : σ[i]? = some (some (.ref kd)))
    (hns : h₁.Ns s.heap.objs.size fun y => [(("source" : Str), v)].reverse.lookup y) (keptO : ∀ b o, s.heap.get? b = some o → h₁.get? b = some o) (rv : L2.RelV (.int g) v) :
    Inv (lamX X A s H scope f c') [] [some (.int g), some (.ref kd)] H { s with heap := h₁, toks := tk } := by
  have cells := L.has I.ok
  have e0 := I.env0
  -- what is captured is a cell of the maker
  have up : ∀ {y c}, (cloFrom X.env.cells scope.names []).lookup y = some c → X.env.cells.lookup y = some c := fun {y c} e => by
    rcases cloFrom_mem (PySem.mem_of_lookup e) with hm | ⟨h1, h2⟩
    · cases hm
    · obtain ⟨ca, hc⟩ := cells _ h1 rfl
      have hc : X.env.cells.lookup y = some ca := hc
      rw [hc] at h2
      have h2 : c = ca := h2
      rw [h2]
      exact hc
  have down : ∀ {y}, scope.names.lookup y = some .free → ∃ c, (cloFrom X.env.cells scope.names []).lookup y = some c := fun {y} hl =>
    mem_lookup (cloFrom_has (cells := X.env.cells) (acc := []) (PySem.mem_of_lookup hl : (y, NameKind.free) ∈ scope.names))
  have stay : ∀ {c : Addr} {u : Option Value}, s.heap.IsCell c u → h₁.IsCell c u := fun {c u} ⟨o, ho, hd⟩ => ⟨o, keptO _ _ ho, hd⟩
  have none : ∀ b : Addr, b ∉ (lamX X A s H scope f c').ex := fun b z => absurd (show b ∈ ([] : List Addr) from z) (by simp)
  refine ⟨⟨e0.mod, L.kind, rfl, rfl, Nat.le_refl _, fun x y c h1 h2 => I.ok.inj x y c (up h1) (up h2), fun y hyn => ?_, fun y c z _ => Bool.noConfusion (show false = true from z), fun _ => hd, Around.frames_deeper hA, .inr ⟨rfl, rfl⟩, fun b z => absurd z (none b), e0.bs, e0.bsz, fun b _ _ => none b,
      fun b z => absurd z (none b), e0.funs, e0.frf⟩,
    rfl, e0.bare, Un.kept keptO, ⟨_, hns, fun j y u e1 e2 e3 => ?_⟩, fun y c e => ?_, e0.hok.fresh (Nat.le_refl _), fun y c e => I.freeC y c (up e), fun q hq => absurd (show q ∈ ([] : List (Addr × Obj)) ++ [] from hq) (by simp), e0.hok.kept keptO, rfl⟩
  · have hyn : scope.names.lookup y = some .cell ∨ scope.names.lookup y = some .free := hyn
    rcases hyn with hyn | hyn
    · exact absurd rfl (L.own _ (PySem.mem_of_lookup hyn))
    · exact down hyn
  · match j, e1, e2 with
    | 0, e1, e2 =>
      cases e1
      cases e2
      exact ⟨v, rv, .inl ⟨L.src, by first | rfl | (simp [List.lookup])⟩⟩
    | 1, e1, e2 =>
      cases e1
      cases e2
      obtain ⟨m, _, hl⟩ := I.loc
      obtain ⟨w', r, q⟩ := hl i "kept" (.ref kd) hi hk (.inr (.inl L.cell))
      obtain ⟨c2, h2⟩ := down L.kept
      refine ⟨w', r, .inr ⟨.inr L.kept, c2, h2, ?_⟩⟩
      rcases q with ⟨k', _⟩ | ⟨_, c3, e', z⟩
      · have k' : X.env.scope.names.lookup ("kept" : Str) = some NameKind.local := k'
        rw [L.cell] at k'
        cases k'
      · have e' : X.env.cells.lookup ("kept" : Str) = some c3 := e'
        rw [up h2] at e'
        cases e'
        exact stay z
    | j + 2, e1, _ => cases e1
  · obtain ⟨u, z⟩ := I.cell y c (up e)
    exact ⟨u, stay z⟩
/-- the lambda is called -/
theorem lam_call {A : Around} {scope : Scope} {params : Arguments} {body : Expr} {f c' kd : Addr} {i k : Nat} {g : Int} {tb : TE} {Q : V → Hp → Prop} {v pm ctv : Value} {E : Value → Shared → Prop} {R : Value → Shared → Prop} (I : Inv X pins σ H s) (L : LamOne X.env.scope scope) (hA : A.frames = some X.stack) (hr : Room (k + 1) A)
    (hi : X.N[i]? = some ("kept" : Str)) (hk : σ[i]? = some (some (.ref kd))) (hf : s.heap.get? f = some (PySem.W.kla_obj "<lambda>" (X.env.qual ++ "<lambda>") params body scope (cloFrom X.env.cells scope.names []) pm c' ctv)) (hc : H c' = some (CodeO c' (X.env.qual ++ "<lambda>")))
    (hbind : bindArgs (PySem.W.kla_fn "<lambda>" (X.env.qual ++ "<lambda>") params body scope (cloFrom X.env.cells scope.names []) pm (.ref c') ctv) ⟨[v], []⟩ = pure [(("source" : Str), v)]) (rv : L2.RelV (.int g) v)
    (hbody : ∀ (s₁ : Shared) (env : Env), Room k (A.deeper env) → A.deeper env = (lamX X A s H scope f c').A → PE (lamX X A s H scope f c') body tb) (ht : tb [some (.int g), some (.ref kd)] H Q)
    (hq : ∀ u s', CE X.stack X.prog X.w H s Q u s' → R u s') :
    wpAny (model X.prog X.w) A (call (.ref f) [v]) R E s := by
  obtain ⟨⟨oc, vs, t, hoc, hdc, hvc⟩, _, _⟩ := I.hok c' _ hc
  refine wpAny_call (PySem.W.kla_callFunE hr.depth hf rfl L.co L.gen rfl ⟨c', oc, vs, t, rfl, hoc, hdc, hvc⟩ ?_)
  rw [hbind]
  refine wpAny_pure (wpAny_newFunctionEnv (fun y hyn => L.own y hyn) (fun y hyn => by rw [List.mem_singleton.mp hyn]; exact L.src) (fun h₁ hns hsb => ⟨I.nolimit.fresh _ hsb, ?_⟩) L.kind)
  show codeAny _ _ (.expr body (lamEnv X scope s.heap.objs.size f c')) _ _
  have keptO : ∀ b o, s.heap.get? b = some o → h₁.get? b = some o := fun b o e => hsb.extBut b o (Nat.ne_of_lt (Heap.lt_size e)) (Heap.get?_push_of_some _ e)
  have J : Inv (lamX X A s H scope f c') [] [some (.int g), some (.ref kd)] H { s with heap := h₁, toks := s.toks + [(("source" : Str), v)].length } := lam_in I L hA hr.hd hi hk hns keptO rv
  refine PySem.W.kla_codeExpr (wpAny_mono ((hbody s (lamEnv X scope s.heap.objs.size f c') (hr.deeper _) rfl).run [] _ _ H Q J ht) (fun u s' hq' => ?_) fun e s' hq' => ?_)
  · obtain ⟨w', H', J', rw', q⟩ := hq'
    exact hq u s' ⟨w', H', J'.os, J'.bare, J'.base, J'.hok, rw', q⟩
  · exact wpAny_mono hq' (fun _ s'' c => (noCX c).elim) fun _ s'' c => (noCX c).elim
end
end Kg
/-! min(sources, key=lambda source: (.., source), default=..): the first of the least. -/
namespace Kg
open PySem PySem.Spec PyProof.Rows L2 LamX
/-- what two keys say -/
def lessN (a b : Nat × Nat) : Bool := decide ((a.1 * 65536 + a.2 : Nat) < (b.1 * 65536 + b.2 : Nat))
theorem lex_less {a b c d : Nat} (hb : b < 65536) (hd : d < 65536) : HT.lexLt [(a : Int), (b : Int)] [(c : Int), (d : Int)] = decide (((a * 65536 + b : Nat) : Int) < ((c * 65536 + d : Nat) : Int)) := by
  rw [HT.lexLt_cons, HT.lexLt_cons, HT.lexLt_nil_nil]
  by_cases h : (a : Int) = (c : Int)
  · rw [if_pos h]
    by_cases h2 : (b : Int) = (d : Int)
    · rw [if_pos h2]
      exact (decide_eq_false (by omega)).symm
    · rw [if_neg h2]
      exact decide_eq_decide.mpr (by omega)
  · rw [if_neg h]
    exact decide_eq_decide.mpr (by omega)
/-- the heap while min runs: tuples are laid -/
structure Tupled (H H' : Hp) : Prop where
  same : ∀ b o, H b = some o → H' b = some o
  new : ∀ b, H' b = H b ∨ ∃ xs, H' b = some (.tup xs)
theorem Tupled.refl (H : Hp) : Tupled H H := ⟨fun _ _ h => h, fun _ => .inl rfl⟩
theorem Tupled.add {H H' : Hp} (t : Tupled H H') {p : Addr} {xs : List V} (h : H' p = none) : Tupled H (L2.upd H' p (.tup xs)) := ⟨fun b o e => by
  have e' := t.same b o e
  rw [upd_ne (ne_of_none e' h)]
  exact e', fun b => by
  by_cases c : b = p
  · rw [c, upd_same]
    exact .inr ⟨_, rfl⟩
  · rw [upd_ne c]
    exact t.new b⟩
section
variable {X : Cx} {pins : List (Addr × Obj)} {σ : L2.St}
/-- what holds while min runs -/
structure MinJ (X : Cx) (pins : List (Addr × Obj)) (σ : L2.St) (H1 : Hp) (f It S : Addr) (fo : Obj) (s : Shared) (Hj : Hp) : Prop where
  inv : Inv X pins σ Hj s
  tup : Tupled H1 Hj
  fob : s.heap.get? f = some fo
  fno : Hj f = none
  itp : FpOk X pins Hj It
  sp : FpOk X pins Hj S
def MinV (X : Cx) (H1 : Hp) (It S : Addr) (a b : Nat) (k : Value) (s : Shared) : Prop := ∃ (tp : Addr) (its : Array Value), k = .ref tp ∧ tp ≠ S ∧ tp ≠ It ∧ H1 tp = none ∧ tp ∉ frs X.stack ∧ IsTup s.heap tp its ∧ IntsAre its.toList [(a : Int), (b : Int)]
theorem MinJ.moved {H1 Hj : Hp} {f It S : Addr} {fo : Obj} {s s' : Shared} {G : Array GenState → Array GenState → Prop} (hf : f ≠ It ∧ f ≠ S) (hG : ∀ a b, G a b → b = a) (J : MinJ X pins σ H1 f It S fo s Hj) (m : Moved (S :: [It]) G s s') : MinJ X pins σ H1 f It S fo s' Hj := by
  obtain ⟨h', g', d', t', o'⟩ := s'
  obtain ⟨m1, m2, m3, m4, m5⟩ := m
  have e1 : g' = s.gens := hG _ _ m2
  have e2 : d' = s.drawn := m3
  have e3 : o' = s.os := m4
  subst e1 e2 e3
  refine ⟨J.inv.turnedL (t' := t') (ch := S :: [It]) m1 (fun b hb => ?_), J.tup, m1 _ _ (fun z => ?_) J.fob, J.fno, J.itp, J.sp⟩
  · rcases List.mem_cons.mp hb with e | e
    · rw [e]; exact J.sp
    · rw [List.mem_singleton.mp e]; exact J.itp
  · rcases List.mem_cons.mp z with e | e
    · exact hf.2 e
    · exact hf.1 (List.mem_singleton.mp e)
theorem MinV.moved {H1 : Hp} {It S : Addr} {a b : Nat} {k : Value} {s s' : Shared} {G : Array GenState → Array GenState → Prop} (v : MinV X H1 It S a b k s) (m : Moved (S :: [It]) G s s') : MinV X H1 It S a b k s' := by
  obtain ⟨tp, its, e, n1, n2, n3, n4, ⟨o, ho, q⟩, it⟩ := v
  refine ⟨tp, its, e, n1, n2, n3, n4, ⟨o, m.heap _ _ (fun z => ?_) ho, q⟩, it⟩
  rcases List.mem_cons.mp z with e | e
  · exact n1 e
  · exact n2 (List.mem_singleton.mp e)
theorem intsAre_len {us : List Value} {ns : List Int} (h : IntsAre us ns) : us.length = ns.length := by
  induction h with
  | nil => rfl
  | cons a t r ih => exact congrArg (· + 1) ih
theorem rel_int {x : V} {n : Int} {t : Tok} (r : L2.RelV x (.int n t)) : x = .int n := by
  cases x with
  | int i =>
    obtain ⟨t', e⟩ := r
    cases e
    rfl
  | str z => obtain ⟨t', e⟩ := r; cases e
  | byt z => obtain ⟨t', e⟩ := r; cases e
  | flt z => obtain ⟨t', e⟩ := r; cases e
  | _ => first | (cases r) | (exact nomatch r)
theorem vals_ints {us : List Value} {ns : List Int} (h : IntsAre us ns) : ∀ {xs : List V}, Vals xs us → xs = ns.map V.int := by
  induction h with
  | nil => intro xs r; cases r; rfl
  | cons a t r ih =>
    intro xs q
    cases q with
    | cons q1 q2 => rw [ih q2, rel_int q1]; rfl
theorem MinV.turn {H1 Hj H' : Hp} {f It S : Addr} {fo : Obj} {s s' : Shared} {a b : Nat} {k : Value} (J : MinJ X pins σ H1 f It S fo s Hj) (un : Un (frs X.stack) [] Hj H' s.heap s'.heap) (hok : HOk X.prog X.w H' s'.heap) (v : MinV X H1 It S a b k s) : MinV X H1 It S a b k s' := by
  obtain ⟨tp, its, e, n1, n2, n3, n4, ⟨o, ho, hc, n, hd⟩, it⟩ := v
  rcases J.tup.new tp with q | ⟨xs, q⟩
  · exact ⟨tp, its, e, n1, n2, n3, n4, ⟨o, un.keep _ _ ho (q.trans n3) n4 (by simp), hc, n, hd⟩, it⟩
  · obtain ⟨z1, its1, r1, o1, ho1, hc1, m1, hd1⟩ := (show ObjOk X.prog X.w Hj s.heap tp (.tup xs) from J.inv.hok _ _ q)
    rw [ho] at ho1
    cases ho1
    rw [hd] at hd1
    cases hd1
    obtain ⟨z2, its2, r2, p2⟩ := (show ObjOk X.prog X.w H' s'.heap tp (.tup xs) from hok _ _ (un.tups _ _ q))
    have ex := vals_ints it r1
    rw [ex] at r2
    exact ⟨tp, _, e, n1, n2, n3, n4, p2, intsAre_of (ns := [(a : Int), (b : Int)]) r2⟩
theorem MinJ.offS {H1 Hj : Hp} {f It S : Addr} {fo : Obj} {s : Shared} (J : MinJ X pins σ H1 f It S fo s Hj) : S ∉ frs X.stack ∧ It ∉ frs X.stack := by
  constructor
  · intro z
    rcases List.mem_cons.mp (J.inv.stkSub _ z) with e | e
    · exact J.sp.2.1 e
    · exact J.sp.2.2.1 e
  · intro z
    rcases List.mem_cons.mp (J.inv.stkSub _ z) with e | e
    · exact J.itp.2.1 e
    · exact J.itp.2.2.1 e
/-- the lambda was called: what it gave, what stays -/
theorem MinJ.turn {H1 Hj H' : Hp} {f It S ax tp : Addr} {fo od : Obj} {u : HO} {items : Array Value} {i a b : Nat} {s s' : Shared} {oS : Obj} (J : MinJ X pins σ H1 f It S fo s Hj) (hfr : f ∉ frs X.stack) (hax : H1 ax = some (.frz od u))
    (st : s.heap.IsListIter It ax i ∧ s.heap.IsList ax items) (hS : s.heap.get? S = some oS) (ho : s'.os = s.os) (bare : AllBare s'.gens) (un : Un (frs X.stack) [] Hj H' s.heap s'.heap) (hok : HOk X.prog X.w H' s'.heap)
    (hn : Hj tp = none) (hH : H' = L2.upd Hj tp (.tup [.int (a : Int), .int (b : Int)])) :
    MinJ X pins σ H1 f It S fo s' H' ∧ (s'.heap.IsListIter It ax i ∧ s'.heap.IsList ax items) ∧ s'.heap.get? S = some oS ∧ MinV X H1 It S a b (.ref tp) s' := by
  obtain ⟨oI, st1, st2⟩ := st.1
  have hat : H' tp = some (.tup [.int (a : Int), .int (b : Int)]) := by rw [hH, upd_same]
  have nt : ∀ {c : Addr} {o : Obj}, s.heap.get? c = some o → Hj c = none → tp ≠ c := fun {c o} e n z => by
    have q := un.free c o e n (by simp)
    rw [← z, hat] at q
    cases q
  have J2 := J.inv.call' ho un hok bare (fun _ z => nomatch z)
  have off := J.offS
  have fx : H' ax = some (.frz od u) := un.frzs _ _ _ (J.tup.same _ _ hax)
  have ax1 : s.heap.get? ax = some od := (show ObjOk X.prog X.w Hj s.heap ax (.frz od u) from J.inv.hok _ _ (J.tup.same _ _ hax)).1
  have ax2 : s'.heap.get? ax = some od := (show ObjOk X.prog X.w H' s'.heap ax (.frz od u) from hok _ _ fx).1
  refine ⟨⟨J2, by rw [hH]; exact J.tup.add hn, un.keep _ _ J.fob J.fno hfr (by simp), un.free _ _ J.fob J.fno (by simp), ⟨un.free _ _ st1 J.itp.1 (by simp), J.itp.2⟩, ⟨un.free _ _ hS J.sp.1 (by simp), J.sp.2⟩⟩,
    ⟨⟨oI, un.keep _ _ st1 J.itp.1 off.2 (by simp), st2⟩, st.2.at fun o e => by rw [ax1] at e; rw [ax2]; exact e⟩, un.keep _ _ hS J.sp.1 off.1 (by simp), ?_⟩
  obtain ⟨z2, its2, r2, p2⟩ := (show ObjOk X.prog X.w H' s'.heap tp (.tup [.int (a : Int), .int (b : Int)]) from hok _ _ hat)
  refine ⟨tp, _, rfl, nt hS J.sp.1, nt st1 J.itp.1, ?_, fun z => ?_, p2, intsAre_of (ns := [(a : Int), (b : Int)]) r2⟩
  · cases e : H1 tp with
    | none => rfl
    | some o =>
      have q := J.tup.same _ _ e
      rw [hn] at q
      cases q
  · rw [J2.stkFree tp z] at hat
    cases hat
end
end Kg
namespace Kg
open PySem PySem.Spec PyProof.Rows L2 LamX
/-- what min with a key of two numbers reads -/
def tMinKey (P : Addr) (q : Str) (is ik : Nat) (d : V) (tb : TE) : TE := fun σ H Q => ∃ (S0 kd : Addr) (od : Obj) (src : List Nat) (len : Nat → Nat), σ[is]? = some (some (.ref S0)) ∧ σ[ik]? = some (some (.ref kd)) ∧ H S0 = some (.frz od (.lst (nV src))) ∧ Tabs [(P, q)] H ∧ (∀ g ∈ src, g < 65536) ∧
  (∀ H', ExtN H H' → ∀ g ∈ src, tb [some (.int (g : Int)), some (.ref kd)] H' fun v H2 => ∃ tp, v = .ref tp ∧ H' tp = none ∧ H2 = L2.upd H' tp (.tup [.int (len g : Int), .int (g : Int)])) ∧
  ∀ H', ExtN H H' → Tabs [(P, q)] H' → (src = [] → Q d H') ∧ ∀ g ∈ src, (∀ g' ∈ src, len g * 65536 + g ≤ len g' * 65536 + g') → Q (.int (g : Int)) H'
section
variable {X : Cx}
theorem pe_minKey {c P : Addr} {params : Arguments} {body : Expr} {scope : Scope} {lpos p p1 p3 kp1 kp2 pos : Pos} {is ik : Nat} {xs xd : Str} {d : V} {du : Value} {tb : TE} {k : Nat}
    (hg : Gl X "min") (hm : X.mg "min" = none) (his : X.N[is]? = some xs) (hvs : Vis X.env.scope xs) (hds : (xs == ("__debug__" : Str)) = false) (hcs : (xs == ("__classdict__" : Str)) = false)
    (hik : X.N[ik]? = some ("kept" : Str)) (hgd : Gl X xd) (hmd : X.mg xd = some du) (rd : RelV d du) (hdd : (xd == ("__debug__" : Str)) = false)
    (TB : TabB X.base X.mg c P) (hcode : X.env.code = .ref c) (L : LamOne X.env.scope scope) (hdef : defaultsOf params X.env = ([], [])) (hr : Room (k + 2) X.A)
    (hbind : ∀ (q : Str) (cl : List (Str × Addr)) (pm cv ctv v : Value), bindArgs (PySem.W.kla_fn "<lambda>" q params body scope cl pm cv ctv) ⟨[v], []⟩ = pure [(("source" : Str), v)])
    (hbody : ∀ (s : Shared) (H : Hp) (f c' : Addr) (s₁ : Shared) (env : Env), Room k (X.A.in1.deeper env) → X.A.in1.deeper env = (lamX X X.A.in1 s H scope f c').A → PE (lamX X X.A.in1 s H scope f c') body tb)
    (hks : starEach [.Name xs p1] X.env = [(false, eval (.Name xs p1) X.env)] := by rfl) :
    PE X (.Call (.Name "min" p) [.Name xs p1] [⟨some "key", .Lambda params body scope lpos, kp1⟩, ⟨some "default", .Name xd p3, kp2⟩] pos) (tMinKey P (X.env.qual ++ "<lambda>") is ik d tb) := by
  refine ⟨fun pins s σ H Q I h => ?_⟩
  obtain ⟨S0, kd, od, src, len, hS0, hkd, hSf, hT, h16, hb, hQ⟩ := h
  refine wpAny_Call_Name_kw (ld_blt I hg hm boot_min ?_ (by decide) (by decide))
  refine PyProof.Rows.callWith_kw (thn ((pa_cons (pe_var (pos := p1) (i := is) his hvs hds hcs) pa_nil hks).run pos pins s σ H (fun vs H1 => vs = [.ref S0] ∧ H1 = H) I ⟨_, hS0, rfl, rfl⟩) fun us s1 h1 => ?_)
  obtain ⟨vs, H1, I1, r1, ev, eH⟩ := h1
  subst ev eH
  obtain ⟨u, rfl, ru⟩ := r1.one
  obtain rfl : u = Value.ref S0 := ru
  show wpAny _ _ (evalAll ((do let v ← eval (.Lambda params body scope lpos) X.env; standAt pos; pure v) :: (do let v ← eval (.Name xd p3) X.env; standAt pos; pure v) :: [])) _ _ s1
  refine wpAny_evalAll_cons (wpAny_bind (lam_make2 I1 TB hcode (List.mem_singleton.mpr rfl) (fun p hp _ => by rw [List.mem_singleton.mp hp]) hT hdef (L.has I1.ok) fun f c' pm ctv H2 s2 I2 eN T2 hf hfn hfr hco => wpAny_bind (wpAny_standAt (wpAny_pure ?_))))
  refine wpAny_evalAll_cons (wpAny_bind (ld_glob I2 hgd hmd (wpAny_bind (wpAny_standAt (wpAny_pure (wpAny_evalAll_nil ?_)))) hdd))
  show wpAny _ _ (call (.builtin "min") [.ref S0] [(Str.ofString "key", .ref f), (Str.ofString "default", du)]) _ _ s2
  have hS2 : H2 S0 = some (.frz od (.lst (nV src))) := eN _ _ hSf (fun ps z => by cases z)
  obtain ⟨oS, zS, its, nS, rI, eS⟩ := (show ObjOk X.prog X.w H2 s2.heap S0 (.frz od (.lst (nV src))) from I2.hok _ _ hS2)
  have hl : s2.heap.IsList S0 its.toArray := ⟨_, eS, rfl, _, rfl⟩
  have sz : its.toArray.size = src.length := by
    have q := rI.length
    rw [nV_len] at q
    rw [List.size_toArray]
    exact q.symm
  refine PySem.call_min_walkKD (wpAny_pyIter_list hl ?_)
  have I3 : Inv X pins σ H2 { s2 with heap := s2.heap.push { cls := .type "list_iterator", data := .fields #[.ref S0, .int 0 0] } } := I2.kept fun b o e => Heap.get?_push_of_some _ e
  have ltS : S0 < s2.heap.objs.size := Heap.lt_size eS
  have ltf : f < s2.heap.objs.size := Heap.lt_size hf
  obtain ⟨fo, efo⟩ : ∃ fo, fo = PySem.W.kla_obj "<lambda>" (X.env.qual ++ "<lambda>") params body scope (cloFrom X.env.cells scope.names []) pm c' ctv := ⟨_, rfl⟩
  rw [← efo] at hf
  have get : ∀ {j g : Nat} {v : Value}, src[j]? = some g → its.toArray[j]? = some v → L2.RelV (.int (g : Int)) v := fun {j g v} h1 h2 => by
    obtain ⟨u, e1, e2⟩ := rI.get (nV_at h1)
    have h2 : its[j]? = some v := by rw [← h2]; simp
    rw [e1] at h2
    cases h2
    exact e2
  generalize e3 : ({ s2 with heap := s2.heap.push { cls := .type "list_iterator", data := .fields #[.ref S0, .int 0 0] } } : Shared) = s3 at I3
  have h3 : s3.heap = s2.heap.push { cls := .type "list_iterator", data := .fields #[.ref S0, .int 0 0] } := by rw [← e3]
  have sz3 : s3.heap.objs.size = s2.heap.objs.size + 1 := by rw [h3, Heap.size_push]
  have hit : s3.heap.IsListIter s2.heap.objs.size S0 0 := ⟨_, by rw [h3]; exact Heap.get?_push_size _ rfl, rfl, rfl⟩
  have hl3 : s3.heap.IsList S0 its.toArray := hl.at fun o e => by rw [h3]; exact Heap.get?_push_of_some _ e
  have num : ∀ {i g : Nat}, src[i]? = some g → (src.getD i 0) = g := fun {i g} e => by rw [List.getD_eq_getElem?_getD, e]; rfl
  refine ⟨s2.heap.objs.size, [s2.heap.objs.size, S0], [s2.heap.objs.size], _, its.toArray.size, _, _,
    fun s' => ∃ Hj, MinJ X pins σ H2 f s2.heap.objs.size s3.heap.objs.size fo s' Hj,
    fun i k s' => ∃ g, src[i]? = some g ∧ MinV X H2 s2.heap.objs.size s3.heap.objs.size (len g) g k s',
    fun i j => decide ((((len (src.getD i 0)) * 65536 + src.getD i 0 : Nat) : Int) < (((len (src.getD j 0)) * 65536 + src.getD j 0 : Nat) : Int)), rfl,
    (Walks.list hr.in1.hd s2.heap.objs.size S0 (Nat.ne_of_lt ltS) its.toArray).toS, ⟨hit, hl3⟩, fun b hb => ?_, ⟨fun s4 s5 ⟨Hj, J⟩ m => ⟨Hj, J.moved ⟨Nat.ne_of_lt ltf, by rw [sz3]; exact Nat.ne_of_lt (Nat.lt_succ_of_lt ltf)⟩ (fun _ _ z => z) m⟩, fun i k s4 s5 ⟨g, hg, v⟩ m => ⟨g, hg, v.moved m⟩, ?_, ?_⟩,
    ⟨H2, I3, Tupled.refl _, by rw [h3]; exact Heap.get?_push_of_some _ hf, hfn, ?_, I3.fpOk (Nat.le_refl _) (I3.hok.fresh (Nat.le_refl _))⟩, fun hn s4 ⟨Hj, J⟩ => ?_, fun hn v s4 hv ⟨Hj, J⟩ => ?_⟩
  · rw [sz3]
    rcases List.mem_cons.mp hb with e | e
    · rw [e]; exact Nat.lt_succ_self _
    · rw [List.mem_singleton.mp e]; exact Nat.lt_succ_of_lt ltS
  · rintro i v s4 oS4 Q4 E4 hi hv ⟨Hj, J⟩ st hS4 k4
    obtain ⟨g, hg⟩ : ∃ g, src[i]? = some g := ⟨_, List.getElem?_eq_getElem (by omega)⟩
    have rv := get hg hv
    have hj : Hj c' = some (CodeO c' (X.env.qual ++ "<lambda>")) := J.tup.same _ _ hco
    refine lam_call J.inv L I.ok.frames hr.in1 hik hkd (by rw [← efo]; exact J.fob) hj (hbind _ _ _ _ _ _) rv (hbody _ _ _ _) (hb Hj (eN.trans (ExtN.of J.tup.same)) g (List.mem_of_getElem? hg)) fun u s5 hu => ?_
    obtain ⟨v5, H5, ho, bare, un, hok, r5, tp, ev, hn, eH⟩ := hu
    subst ev
    obtain rfl : u = Value.ref tp := r5
    obtain ⟨J5, st5, hS5, V5⟩ := J.turn hfr hS2 st hS4 ho bare un hok hn eH
    exact k4 _ s5 ⟨H5, J5⟩ st5 hS5 ⟨g, hg, V5⟩ fun j k' ⟨g', hg', v'⟩ => ⟨g', hg', v'.turn J un hok⟩
  · rintro i j ki kj s4 Q4 E4 _ ⟨gi, hgi, tpi, iti, rfl, _, _, _, _, pi, ii⟩ ⟨gj, hgj, tpj, itj, rfl, _, _, _, _, pj, ij⟩ q
    refine HT.lt_tupInts pi pj ii ij hr.in1.units0 ?_
    rw [lex_less (h16 gi (List.mem_of_getElem? hgi)) (h16 gj (List.mem_of_getElem? hgj))]
    rw [num hgi, num hgj] at q
    exact q
  · exact I2.fpOk (Nat.le_refl _) (I2.hok.fresh (Nat.le_refl _))
  · obtain ⟨q1, _⟩ := hQ Hj (eN.trans (ExtN.of J.tup.same)) (T2.ext J.tup.same)
    exact ⟨d, Hj, J.inv, rd, q1 (List.eq_nil_of_length_eq_zero (by omega))⟩
  · obtain ⟨_, q2⟩ := hQ Hj (eN.trans (ExtN.of J.tup.same)) (T2.ext J.tup.same)
    obtain ⟨b1, b2⟩ := argBest_lt (fun i => (((len (src.getD i 0)) * 65536 + src.getD i 0 : Nat) : Int)) (its.toArray.size - 1)
    generalize argBest (fun i j => decide ((((len (src.getD i 0)) * 65536 + src.getD i 0 : Nat) : Int) < (((len (src.getD j 0)) * 65536 + src.getD j 0 : Nat) : Int))) (its.toArray.size - 1) = m at hv b1 b2
    obtain ⟨g, hg⟩ : ∃ g, src[m]? = some g := ⟨_, List.getElem?_eq_getElem (by omega)⟩
    have rv := get hg hv
    refine ⟨_, Hj, J.inv, rv, q2 g (List.mem_of_getElem? hg) fun g' hg' => ?_⟩
    obtain ⟨j, hj, ej⟩ := List.getElem_of_mem hg'
    have q := b2 j (by omega)
    have hj' : src[j]? = some g' := by rw [List.getElem?_eq_getElem hj, ej]
    rw [num hg, num hj'] at q
    omega
end
end Kg
namespace Kg
open PySem PySem.Spec PyProof.Rows L2 LamX
open Vamvsa (Ask Table Group)
/-! what stays where tables of code objects grow -/
theorem ExtN.seq' {K : PySem.W.Frag} {H H' : Hp} {a : Addr} {xs : List V} (e : ExtN H H') (h : SqL K H a xs) : SqL K H' a xs := by
  rcases h with h | h
  · rcases h with h | ⟨o, h⟩
    · exact .inl (.inl (e _ _ h (fun ps z => by cases z)))
    · exact .inl (.inr ⟨o, e _ _ h (fun ps z => by cases z)⟩)
  · exact .inr h
theorem IsLn.ext {z : Ads} {H H' : Hp} {r : Addr} {g : Group} (s : ExtN H H') (h : IsLn z H r g) : IsLn z H' r g := by
  obtain ⟨dl, tl, h1, h2⟩ := h
  exact ⟨dl, tl, s _ _ h1 (fun _ z => by cases z), s _ _ h2 (fun _ z => by cases z)⟩
theorem IsAns.ext {z : Ads} {H H' : Hp} {t : Table} {a : Addr} {g : Nat} (s : ExtN H H') (h : IsAns z H t a g) : IsAns z H' t a g := by
  obtain ⟨rs, h1, h2⟩ := h
  exact ⟨rs, s _ _ h1 (fun _ z => by cases z), h2.mono fun _ _ e => e.ext s⟩
theorem IsKept.ext {z : Ads} {H H' : Hp} {t : Table} {kd : Addr} {ks : List Nat} (s : ExtN H H') (h : IsKept z H kd t ks) : IsKept z H' kd t ks := by
  obtain ⟨as, h1, h2⟩ := h
  exact ⟨as, s _ _ h1 (fun _ z => by cases z), h2.mono fun _ _ e => e.ext s⟩
theorem IsQu.ext {z : Ads} {H H' : Hp} {r : Addr} {q : Ask} (s : ExtN H H') (h : IsQu z H r q) : IsQu z H' r q := by
  obtain ⟨dq, h1⟩ := h
  exact ⟨dq, s _ _ h1 (fun _ z => by cases z)⟩
theorem IsTab.ext {z : Ads} {H H' : Hp} {tb : Addr} {t : Table} (s : ExtN H H') (h : IsTab z H tb t) : IsTab z H' tb t := by
  obtain ⟨cl, rl, ql, cas, ras, qas, ⟨⟨dx, h1⟩, h2, h3, h5⟩, alc, alr, alq⟩ := h
  exact ⟨cl, rl, ql, cas, ras, qas, ⟨⟨dx, s _ _ h1 (fun _ z => by cases z)⟩, s _ _ h2 (fun _ z => by cases z), s _ _ h3 (fun _ z => by cases z), s _ _ h5 (fun _ z => by cases z)⟩, alc.mono (fun _ _ e => s _ _ e (fun _ z => by cases z)), alr.mono fun _ _ e => e.ext s, alq.mono fun _ _ e => e.ext s⟩
theorem extN_same {H H' : Hp} (s : Same H H') : ExtN H H' := ExtN.of s
section
variable {P : Program} {w : World} {K : PySem.W.Frag} {mg : Str → Option Value} {base : Heap} {z : Ads}
/-- a def that makes a lambda: its own code object is known -/
structure DfC (K : PySem.W.Frag) (mg : Str → Option Value) (base : Heap) (x : Str) (st : Stmt) (ps : List Str) (Tb : Addr) : Prop where
  ex : ∃ (f : Addr) (oc : Value) (od : Option Addr) (kV doc pm : Value) (an : Option Addr) (c : Addr) (ct : Value) (osl : Array (Option Value)),
    K.lookup f = some ⟨oc, od, .func (PySem.W.fnOf x x (defArgs st) (defBody st) (defScope st) .none kV doc pm an (.ref c) ct), osl⟩ ∧ PySem.W.codeIn K (.ref c) x = true ∧ PySem.W.keepIn K (.ref f) = true ∧ mg x = some (.ref f) ∧
    Binds K (PySem.W.fnOf x x (defArgs st) (defBody st) (defScope st) .none kV doc pm an (.ref c) ct) ps [] ∧ TabB base mg c Tb
theorem DfC.ok {x : Str} {st : Stmt} {ps : List Str} {sp : Sp} {k : Nat} {N : List Str} {Tb : Addr} (D : DfC K mg base x st ps Tb) (S : FnScope N ps (defScope st)) (len : ∀ vs H Q E, sp vs H Q E → vs.length = ps.length)
    (hbody : ∀ (f c : Addr) (A : Around) (outer : List Env) (s : Shared) (H : Hp) (vs : List V) (Q : VK) (E : XK), TabB base mg c Tb → Room k (A.deeper (envOfC x (defScope st) s.heap.objs.size f (.ref c))) → sp vs H Q E →
      ∃ t, PSs (cxOf CX0 P w K mg base N x (defScope st) f (.ref c) A outer s H E).nox (defBody st) t ∧ t { nx := fun _ H' => Q .non H', rt := Q } (start N vs) H) : Ok P w K mg base CX0 (k + 1) x ps sp := by
  obtain ⟨f, oc, od, kV, doc, pm, an, c, ct, osl, lk, cd, kp, m, b, tb⟩ := D.ex
  refine ⟨f, _, fn_of lk cd S len fun A outer s H vs Q E hr hsp => ?_, m, kp, b⟩
  obtain ⟨t, h, q⟩ := hbody f c A outer s H vs Q E tb hr hsp
  exact ⟨t, h.nox, q⟩
abbrev sSourceRead : Stmt := topS 28
theorem scSourceRead : FnScope ["kept", "grouping", "sources", "source"] ["kept", "grouping"] (defScope sSourceRead) := ⟨rfl, rfl, rfl, by decide +kernel, rfl, by decide +kernel, by decide +kernel⟩
/-- the name of the lambda's code -/
abbrev lamQ : Str := ("source_read" : Str) ++ ".<locals>." ++ "<lambda>"
def spSourceRead (z : Ads) (Tb : Addr) : Sp := fun vs H Q _ => ∃ (kd : Addr) (t : Table) (ks : List Nat) (g : Nat), vs = [.ref kd, .int (g : Int)] ∧ IsKept z H kd t ks ∧ ks.Nodup ∧ (∀ v ∈ ks, v < 65536) ∧ ks.length ≤ 2000 ∧ g < 2 ^ t.cols.length ∧ TabS H Tb lamQ ∧
  ∀ b H', Best t g ks b → ExtN H H' → TabS H' Tb lamQ → Q (rdV b) H'
theorem upd_back {H : Hp} {a p : Addr} {o u v : HO} (h : H a = some u) (n : p ≠ a) : L2.upd (L2.upd (L2.upd H a o) p v) a u = L2.upd H p v := by
  funext b
  by_cases c : b = a
  · rw [c, upd_same, upd_ne (Ne.symm n), h]
  · rw [upd_ne c]
    by_cases d : b = p
    · rw [d, upd_same, upd_same]
    · rw [upd_ne d, upd_ne d, upd_ne c]
theorem best_of {t : Table} {g : Nat} {ks : List Nat} (hg : g < 2 ^ t.cols.length) : ((ks.filter fun s => decide (g &&& s = g)) = [] → Best t g ks none) ∧
    ∀ v ∈ ks.filter (fun s => decide (g &&& s = g)), (∀ u ∈ ks.filter (fun s => decide (g &&& s = g)), u < 65536 ∧ Vamvsa.sizeOf_ t v * 65536 + v ≤ Vamvsa.sizeOf_ t u * 65536 + u) → v < 65536 → Best t g ks (some v) := by
  have can : ∀ s, Vamvsa.canFrom (Vamvsa.width t) s g = decide (g &&& s = g) := fun s => canFrom_bits hg
  refine ⟨fun h v hv => ?_, fun v hv h lt => ⟨(List.mem_filter.mp hv).1, ?_, fun u hu hc => ?_⟩⟩
  · rw [can]
    have z := List.filter_eq_nil_iff.mp h v hv
    simpa using z
  · rw [can]
    exact (List.mem_filter.mp hv).2
  · rw [can] at hc
    obtain ⟨l1, l2⟩ := h u (List.mem_filter.mpr ⟨hu, hc⟩)
    unfold szLe
    generalize Vamvsa.sizeOf_ t v = a at l2 ⊢
    generalize Vamvsa.sizeOf_ t u = b at l2 ⊢
    omega
abbrev lamSc : Scope := { kind := .function, names := [("source", .local), ("kept", .free), ("len", .globalImplicit)], isGenerator := false, isCoroutine := false, more := [] }
theorem lamOneS : LamOne (defScope sSourceRead) lamSc := ⟨rfl, rfl, rfl, rfl, rfl, by decide +kernel, by decide +kernel, by decide +kernel⟩
theorem okSourceRead {Tb : Addr} (D : DfC K mg base "source_read" sSourceRead ["kept", "grouping"] Tb) (T : Tx P w K mg base z) (O1 : Ok P w K mg base CX0 1 "can_be_worked_out" ["grouping", "source"] spCanBe) :
    Ok P w K mg base CX0 4 "source_read" ["kept", "grouping"] (spSourceRead z Tb) := by
  refine D.ok scSourceRead (fun vs H Q E h => ?_) (fun f c A outer s H vs Q E hTB hr h => ?_)
  · obtain ⟨kd, t, ks, g, rfl, _⟩ := h
    rfl
  obtain ⟨kd, t, ks, g, rfl, hK, nd, h16, h2000, hg, hTb, hQ⟩ := h
  have hu := hu_of hr
  obtain ⟨tkF, hft⟩ := T.cst.FROM_TABLE
  refine ⟨_, pss_cons (ps_lock (ps_setLc (i := 2) (own := [("source", 3)]) (g := gName 3) (tt := tB (tCall spCanBe [] E0 (tCons (tVar 1) (tCons (tVar 3) tNil)))) (te := tVar 3) rfl scSourceRead.nd rfl rfl rfl
      (pi_keys (pv 0)) (blkOk_by (N := ["kept", "grouping", "sources", "source"]) (sc := defScope sSourceRead) (by decide +kernel))
      (fun _ _ _ _ _ => pg_name (i := 3) scSourceRead.nd rfl (Or.inl rfl)) (fun _ _ _ _ _ => pts_one (pt_val (pe_ok O1 hr (by decide) rfl pass0 (pa_cons (pv 1) (pa_cons (pv 3) pa_nil))))) (fun _ _ _ _ _ => pv 3)))
    <| pss_one (ps_ret (pe_lock (pe_minKey (c := c) (P := Tb) (is := 2) (ik := 0) (k := 1) (d := .int (-1)) (tb := tTup (tCons (tCB (rLenSq K) (tCons (tDGet (tVar 1) (tVar 0)) tNil)) (tCons (tVar 0) tNil))) (by rfl) T.blt.min rfl (.inl rfl) (by decide) (by decide)
      rfl (by rfl) hft ⟨tkF, rfl⟩ (by decide) hTB rfl lamOneS rfl hr (fun _ _ _ _ _ _ => rfl)
      (fun _ _ _ _ _ _ hr1 e1 => pe_tup (pa_cons (pe_callB cr_len (by rfl) T.blt.len PySem.boot_len (pa_cons (pe_dget (by rw [e1] at hr1; exact hu_of hr1) (pv 1) (pv 0) (fun _ _ => rfl)) pa_nil)) (pa_cons (pv 0) pa_nil)))))), ?_⟩
  obtain ⟨as, hk, al⟩ := hK
  refine ⟨kd, _, hk, True.intro, fun od => ?_⟩
  have hf : (L2.upd H kd (.frz od (.dK (kpOf ks as)))) kd = some (.frz od (.dK (kpOf ks as))) := upd_same
  generalize eHf : (L2.upd H kd (.frz od (.dK (kpOf ks as)))) = Hf at hf
  refine ⟨_, rfl, kd, od, rfl, .inl ⟨_, hf, fun L hL => lc_it walk_keys (fun j H2 => H2 = L2.upd Hf L (.lst (nV ((ks.take j).filter fun s => decide (g &&& s = g))))) rfl (fun j H2 _ e => by rw [e, upd_ne (ne_of_none hf hL)]; exact hf) ?_ ?_⟩⟩
  · rintro j x H2 H3 hj rfl ⟨rfl, k, v, hkv, rfl⟩
    obtain ⟨s1, a, hs1, ha, rfl, rfl⟩ := kpOf_at hkv
    refine ⟨rfl, ?_⟩
    refine ⟨_, rfl, _, rfl, g, s1, rfl, _, rfl, ?_⟩
    have step : (ks.take (j + 1)).filter (fun s => decide (g &&& s = g)) = (ks.take j).filter (fun s => decide (g &&& s = g)) ++ (if decide (g &&& s1 = g) = true then [s1] else []) := by
      rw [List.take_add_one, hs1, List.filter_append]
      show _ ++ List.filter _ [s1] = _
      rw [List.filter_cons, List.filter_nil]
    refine ite2 (fun c1 => ?_) fun c1 => ?_
    · rw [if_pos c1] at step
      refine ⟨_, rfl, _, upd_same, ?_, ?_⟩
      · have q := List.length_filter_le (fun s => decide (g &&& s = g)) (ks.take j)
        rw [List.length_take] at q
        rw [nV_len, sizeLine_eq]
        omega
      · rw [step, upd_upd, ← nV_snoc]
        rfl
    · rw [if_neg c1] at step
      rw [step, List.append_nil]
  rintro _ rfl
  rw [kpOf_len al.1, List.take_length]
  refine ⟨by rw [upd_ne (ne_of_none hf hL)]; exact hf, ?_⟩
  have lk : L ≠ kd := fun e => by rw [e, hf] at hL; cases hL
  rw [← eHf, upd_back hk lk]
  have hL0 : H L = none := by rw [← eHf, upd_ne lk] at hL; exact hL
  obtain ⟨b1, b2⟩ := best_of (t := t) (ks := ks) hg
  have bl := List.length_filter_le (fun s => decide (g &&& s = g)) ks
  have bm : ∀ v ∈ ks.filter (fun s => decide (g &&& s = g)), v ∈ ks := fun v hv => (List.mem_filter.mp hv).1
  generalize ks.filter (fun s => decide (g &&& s = g)) = src at b1 b2 bl bm
  have s1 := same_new (o := HO.lst (nV src)) hL0
  have l1 : (L2.upd H L (.lst (nV src))) L = some (.lst (nV src)) := upd_same
  generalize (L2.upd H L (.lst (nV src))) = H1 at s1 l1
  refine ⟨L, _, l1, True.intro, fun od2 => ?_⟩
  have back : ∀ {H' : Hp}, ExtN (L2.upd H1 L (.frz od2 (.lst (nV src)))) H' → H' L = some (.frz od2 (.lst (nV src))) ∧ ExtN H1 (L2.upd H' L (.lst (nV src))) := fun {H'} e => by
    refine ⟨e _ _ upd_same (fun _ z => by cases z), fun b o hb nb => ?_⟩
    by_cases cb : b = L
    · rw [cb, upd_same, ← l1, ← cb]
      exact hb
    · rw [upd_ne cb]
      exact e _ _ (by rw [upd_ne cb]; exact hb) nb
  have tabs : ∀ {Hx Hy : Hp}, TabS Hx Tb lamQ → (∀ ps, Hx L ≠ some (.tbl ps)) → (∀ q, Hx L ≠ some (CodeO L q)) → (∀ b, b ≠ L → Hy b = Hx b) → TabS Hy Tb lamQ := fun {Hx Hy} ⟨ps, t1, t2, t3⟩ n1 n2 e => by
    refine ⟨ps, (e _ fun z => n1 ps (by rw [← z]; exact t1)).trans t1, t2, fun pos cv hc => ?_⟩
    obtain ⟨c1, e1, e2⟩ := t3 pos cv hc
    exact ⟨c1, e1, (e _ fun z => n2 lamQ (by rw [z] at e2; exact e2)).trans e2⟩
  have t1 : TabS (L2.upd H1 L (.frz od2 (.lst (nV src)))) Tb lamQ := tabs (hTb.ext s1) (fun ps z => by rw [l1] at z; cases z) (fun q z => by rw [l1] at z; unfold CodeO at z; cases z) (fun b n => upd_ne n)
  refine ⟨L, kd, od2, src, Vamvsa.sizeOf_ t, rfl, rfl, upd_same, fun p hp => by rw [List.mem_singleton.mp hp]; exact t1, fun v hv => h16 v (bm v hv), fun H' e v hv => ?_, fun H' e tT => ?_⟩
  · obtain ⟨j, hj, ej⟩ := List.getElem_of_mem (bm v hv)
    have hj' : ks[j]? = some v := by rw [List.getElem?_eq_getElem hj, ej]
    obtain ⟨a, ha, rs, g1, g2⟩ := al.at hj'
    have e1 : ExtN H1 (L2.upd H' L (.lst (nV src))) := (back e).2
    have low : ∀ {b : Addr} {o : HO}, H b = some o → (∀ ps, o ≠ .tbl ps) → H' b = some o := fun {b o} hb nb => by
      have q := e1 _ _ (s1 _ _ hb) nb
      rw [upd_ne (ne_of_none hb hL0)] at q
      exact q
    have dg : DGet H' kd (.int (v : Int)) (some (.ref a)) := by
      have q := DGet.k (k := Sum.inl (v : Int)) (low hk (fun _ z => by cases z))
      rw [kpOf_val al.1 nd hj' ha] at q
      exact q
    refine ⟨_, rfl, _, rfl, kd, .ref a, rfl, dg, a, _, rfl, .inl (SqL.of (low g1 (fun _ z => by cases z))), _, rfl, ?_⟩
    refine ⟨by simp [sizeLine_eq], fun tp ht => ⟨tp, rfl, ht, ?_⟩⟩
    rw [rV_len, g2.1]
    rfl
  · obtain ⟨q1, q2⟩ := back e
    have tT' : TabS (L2.upd H' L (.lst (nV src))) Tb lamQ := tabs (tT _ (List.mem_singleton.mpr rfl)) (fun ps z => by rw [q1] at z; cases z) (fun q z => by rw [q1] at z; unfold CodeO at z; cases z) (fun b n => upd_ne n)
    have ex : ExtN H (L2.upd H' L (.lst (nV src))) := (ExtN.of s1).trans q2
    refine ⟨fun h0 => ⟨q1, hQ none _ (b1 h0) ex tT'⟩, fun v hv hle => ⟨q1, hQ (some v) _ (b2 v hv (fun u hu => ⟨h16 u (bm u hu), hle u hu⟩) (h16 v (bm v hv))) ex tT'⟩⟩
end
end Kg
namespace Kg
open PySem PySem.Spec PyProof.Rows L2 LamX
open Vamvsa (Ask Table Group)
theorem quGr {a b : V} : List.lookup ("grouping" : Str) (fsQue [a, b]) = some a := lk_here
theorem quTi {a b : V} : List.lookup ("times" : Str) (fsQue [a, b]) = some b := (lk_past (by decide +kernel)).trans lk_here
theorem costOf_N (t : Table) (k : List Nat) (g : Nat) : Vamvsa.costOf t k g = costN t (Vamvsa.reader t k g) := by
  unfold Vamvsa.costOf
  cases Vamvsa.reader t k g <;> rfl
theorem sizeOf_le {t : Table} (T : TableOk t) (g : Nat) : Vamvsa.sizeOf_ t g ≤ 16 := groupsOf_le T g
theorem costN_le {t : Table} (T : TableOk t) (b : Option Nat) : costN t b ≤ 16 := by
  cases b with
  | none => exact T.r16
  | some v => exact sizeOf_le T v
theorem KeptAs.small {t : Table} {ks k : List Nat} (T : TableOk t) (h : KeptAs t ks k) : ∀ v ∈ ks, v < 65536 := fun v hv => by
  have h1 := h.lt v hv
  have h2 := pow16 T.c4
  exact Nat.lt_of_lt_of_le h1 (Nat.le_trans h2 (by decide))
section
variable {P : Program} {w : World} {K : PySem.W.Frag} {mg : Str → Option Value} {base : Heap} {z : Ads}
abbrev sCostAll : Stmt := topS 30
theorem scCostAll : FnScope ["table", "kept", "together", "question", "source"] ["table", "kept"] (defScope sCostAll) := ⟨rfl, rfl, rfl, by decide +kernel, rfl, by decide +kernel, by decide +kernel⟩
def spCostAll (z : Ads) (Tb : Addr) : Sp := fun vs H Q _ => ∃ (tb kd : Addr) (t : Table) (ks k : List Nat), vs = [.ref tb, .ref kd] ∧ IsTab z H tb t ∧ TableGood t ∧ IsKept z H kd t ks ∧ KeptAs t ks k ∧ ks.length ≤ 2000 ∧ TabS H Tb lamQ ∧
  ∀ H', ExtN H H' → TabS H' Tb lamQ → Q (.int ((Vamvsa.total t k : Nat) : Int)) H'
theorem okCostAll {Tb : Addr} (D : Df K mg "cost_of_all" sCostAll ["table", "kept"]) (T : Tx P w K mg base z) (B : TbC K z) (O1 : Ok P w K mg base CX0 4 "source_read" ["kept", "grouping"] (spSourceRead z Tb))
    (O2 : Ok P w K mg base CX0 1 "cost_from" ["table", "kept", "source"] (spCostFrom z)) : Ok P w K mg base CX0 5 "cost_of_all" ["table", "kept"] (spCostAll z Tb) := by
  refine D.ok fun f fd F => F.ok scCostAll (fun vs H Q E h => ?_) (fun cdv A outer s H vs Q E hr h => ?_)
  · obtain ⟨tb, kd, t, ks, k, rfl, _⟩ := h
    rfl
  obtain ⟨tb, kd, t, ks, k, rfl, hT, good, hK, kas, h2000, hTb, hQ⟩ := h
  have hu := hu_of hr
  refine ⟨_, pss_cons (ps_set (i := 2) scCostAll.nd rfl (.inl rfl) pe_int)
    <| pss_cons (ps_for PassesOwn.never rfl (pi_list (pe_fld (pv 0) rfl)) (pg_name (i := 3) scCostAll.nd rfl (.inl rfl))
      (pss_cons (ps_set (i := 4) scCostAll.nd rfl (.inl rfl) (pe_ok O1 hr (by decide) rfl pass0 (pa_cons (pv 1) (pa_cons (pe_fld (pv 3) rfl) pa_nil))))
      <| pss_one (ps_aug (i := 2) scCostAll.nd rfl (.inl rfl) (pe_op op_mul (pe_fld (pv 3) rfl) (pe_ok O2 hr (by decide) rfl pass0 (pa_cons (pv 0) (pa_cons (pv 1) (pa_cons (pv 4) pa_nil))))) ip_add)))
    <| pss_one (ps_ret (pv 2)), ?_⟩
  obtain ⟨cl, rl, ql, cas, ras, qas, ⟨⟨dx, h1⟩, h2, h3, h5⟩, alc, alr, alq⟩ := id hT
  refine ⟨_, rfl, tb, z.B, dx, _, _, rfl, h1, B.cl, B.no _ (by simp), tabAsks, ql, rfl, ⟨_, SqL.of h5⟩, for_list (K := K) (a := ql) (xs := rV qas) (fun i σ H' => (∃ v3 v4 : Option V, σ = [some (.ref tb), some (.ref kd), some (.int ((((t.asks.take i).map fun a => a.k * Vamvsa.costOf t k a.g).sum : Nat) : Int)), v3, v4]) ∧ ExtN H H' ∧ TabS H' Tb lamQ)
    ⟨⟨none, none, rfl⟩, ExtN.refl H, hTb⟩ (fun i σ H' _ ⟨_, e, _⟩ => ExtN.seq' e (SqL.of h5)) ?_ ?_⟩
  · rintro i v σ H' hi ⟨⟨v3, v4, rfl⟩, e, hTb'⟩
    obtain ⟨qa, hqa, rfl⟩ := rV_inv hi
    obtain ⟨a, ha, dq, hq⟩ := alq.at1 hqa
    have aok := good.ok.asks a (List.mem_of_getElem? ha)
    refine ⟨_, rfl, _, rfl, qa, z.Q, dq, _, _, rfl, e _ _ hq (fun _ z => by cases z), T.que.cl, T.que.no _ (by simp), quGr, ?_⟩
    refine ⟨kd, t, ks, a.g, rfl, hK.ext e, kas.nd, kas.small good.ok, h2000, aok.g, hTb', fun b H2 hb e2 hTb2 => ?_⟩
    have hb' := kas.reader hb
    have e12 := e.trans e2
    refine ⟨_, rfl, _, rfl, qa, z.Q, dq, _, _, rfl, e12 _ _ hq (fun _ z => by cases z), T.que.cl, T.que.no _ (by simp), quTi, ?_⟩
    refine ⟨_, rfl, _, rfl, _, rfl, tb, kd, t, ks, b, rfl, hT.ext e12, hK.ext e12, kas.nd, fun v hv => ?_, ?_⟩
    · rw [hv] at hb
      exact hb.1
    have c16 := costN_le good.ok b
    have hi99 := aok.hi
    refine ⟨_, _, rfl, rfl, ?_, ?_⟩
    · exact .inl ⟨by omega, by omega⟩
    · refine ⟨_, _, rfl, rfl, ⟨some (.ref qa), some (rdV b), ?_⟩, e12, hTb2⟩
      have e1 : (((t.asks.take (i + 1)).map fun a => a.k * Vamvsa.costOf t k a.g).sum : Nat) = ((t.asks.take i).map fun a => a.k * Vamvsa.costOf t k a.g).sum + a.k * costN t b := by
        rw [List.take_add_one, ha, List.map_append, List.sum_append]
        show _ + (a.k * Vamvsa.costOf t k a.g + 0) = _
        rw [costOf_N, ← hb', Nat.add_zero]
      rw [e1, Int.natCast_add, Int.natCast_mul]
      rfl
  · rintro σ H' ⟨⟨v3, v4, rfl⟩, e, hTb'⟩
    have hl : (rV qas).length = t.asks.length := by rw [rV_len, alq.1]
    rw [hl, List.take_length]
    exact ⟨_, rfl, hQ H' e hTb'⟩
abbrev sLinesRead : Stmt := topS 31
theorem scLinesRead : FnScope ["table", "kept", "grouping", "source"] ["table", "kept", "grouping"] (defScope sLinesRead) := ⟨rfl, rfl, rfl, by decide +kernel, rfl, by decide +kernel, by decide +kernel⟩
def spLinesRead (z : Ads) (Tb : Addr) : Sp := fun vs H Q _ => ∃ (tb kd : Addr) (t : Table) (ks k : List Nat) (g : Nat), vs = [.ref tb, .ref kd, .int (g : Int)] ∧ IsTab z H tb t ∧ TableGood t ∧ IsKept z H kd t ks ∧ KeptAs t ks k ∧ ks.length ≤ 2000 ∧ g < 2 ^ t.cols.length ∧ TabS H Tb lamQ ∧
  ∀ l ts H', ExtN H H' → TabS H' Tb lamQ → H' l = some (.lst (rV ts)) → Al (IsLn z H') ts (Vamvsa.answerOf t k g) → Q (.ref l) H'
theorem okLinesRead {Tb : Addr} (D : Df K mg "lines_read" sLinesRead ["table", "kept", "grouping"]) (T : Tx P w K mg base z) (O1 : Ok P w K mg base CX0 4 "source_read" ["kept", "grouping"] (spSourceRead z Tb))
    (O2 : Ok P w K mg base CX0 4 "lines_from_table" ["table", "grouping"] (spFromTable z)) (O3 : Ok P w K mg base CX0 4 "lines_from_answer" ["table", "lines", "source", "grouping"] (spFromAnswer K z)) :
    Ok P w K mg base CX0 5 "lines_read" ["table", "kept", "grouping"] (spLinesRead z Tb) := by
  refine D.ok fun f fd F => F.ok scLinesRead (fun vs H Q E h => ?_) (fun cdv A outer s H vs Q E hr h => ?_)
  · obtain ⟨tb, kd, t, ks, k, g, rfl, _⟩ := h
    rfl
  obtain ⟨tb, kd, t, ks, k, g, rfl, hT, good, hK, kas, h2000, hg, hTb, hQ⟩ := h
  have hu := hu_of hr
  refine ⟨_, pss_cons (ps_set (i := 3) scLinesRead.nd rfl (.inl rfl) (pe_ok O1 hr (by decide) rfl pass0 (pa_cons (pv 1) (pa_cons (pv 2) pa_nil))))
    <| pss_cons (ps_if (pt_cmpR op_eq (pv 3) (pe_gi T.cst.FROM_TABLE rfl) (nomark _)) (pss_one (ps_ret (pe_ok O2 hr (by decide) rfl pass0 (pa_cons (pv 0) (pa_cons (pv 2) pa_nil))))) pss_nil)
    <| pss_one (ps_ret (pe_ok O3 hr (by decide) rfl pass0 (pa_cons (pv 0) (pa_cons (pe_dget hu (pv 1) (pv 3) (fun _ _ => rfl)) (pa_cons (pv 3) (pa_cons (pv 2) pa_nil)))))), ?_⟩
  refine ⟨_, rfl, _, rfl, kd, t, ks, g, rfl, hK, kas.nd, kas.small good.ok, h2000, hg, hTb, fun b H1 hb e1 hT1 => ?_⟩
  have hb' := kas.reader hb
  cases b with
  | none =>
    have ea : Vamvsa.answerOf t k g = Vamvsa.groupsOf t g := by
      unfold Vamvsa.answerOf
      rw [← hb']
    refine ⟨_, rfl, rfl, _, rfl, ite2 (fun _ => ?_) fun h => absurd (decide_eq_true rfl) h⟩
    refine ⟨_, rfl, _, rfl, tb, t, g, rfl, hT.ext e1, good, fun l ts H2 s2 nl hl al => ?_⟩
    exact hQ l ts H2 (e1.trans (ExtN.of s2)) (hT1.ext s2) hl (by rw [ea]; exact al)
  | some v =>
    have ea : Vamvsa.answerOf t k g = Vamvsa.rolled t.cols.length v g (Vamvsa.groupsOf t v) := by
      unfold Vamvsa.answerOf
      rw [← hb']
      rfl
    obtain ⟨hv, hc, _⟩ := hb
    obtain ⟨as, hk, al⟩ := hK.ext e1
    obtain ⟨j, hj, ej⟩ := List.getElem_of_mem hv
    have hj' : ks[j]? = some v := by rw [List.getElem?_eq_getElem hj, ej]
    obtain ⟨a, ha, rs, g1, g2⟩ := al.at hj'
    have dg : DGet H1 kd (.int (v : Int)) (some (.ref a)) := by
      have q := DGet.k (k := Sum.inl (v : Int)) hk
      rw [kpOf_val al.1 kas.nd hj' ha] at q
      exact q
    refine ⟨_, rfl, rfl, _, rfl, ite2 (fun h => ?_) fun _ => ?_⟩
    · have h : ((v : Int)) = -1 := ieq h
      omega
    refine ⟨_, rfl, _, rfl, _, rfl, kd, .ref a, rfl, dg, _, rfl, _, rfl, tb, a, t, v, g, rs, _, rfl, hT.ext e1, good, SqL.of g1, g2, groupsOf_ok good.ok v, groupsOf_le good.ok v, hc, fun l ts H2 s2 nl hl al2 => ?_⟩
    exact hQ l ts H2 (e1.trans (ExtN.of s2)) (hT1.ext s2) hl (by rw [ea]; exact al2)
end
end Kg
/-! Texts and bytes. -/
namespace Kg
open PySem PySem.Spec PyProof.Rows L2
open VamvsBase (word showNat showInt joined)
/-- the text's signs are these bytes -/
def AsB (z : Str) (b : By) : Prop := z.cps.toList = b.map UInt8.toNat
theorem cps_of (s : String) : (Str.ofString s).cps.toList = s.toList.map Char.toNat := by
  have e : Str.ofString s = Str.ofStringByList s := congrFun Str.ofString_eq_byList s
  rw [e]
  rfl
theorem AsB.cV {z : Str} {b : By} (h : AsB z b) : cV z = bV b := by
  unfold Kg.cV bV
  rw [show z.cps.toList = b.map UInt8.toNat from h, List.map_map]
  rfl
theorem AsB.len {z : Str} {b : By} (h : AsB z b) : z.length = b.length := by
  have q := congrArg List.length (show z.cps.toList = b.map UInt8.toNat from h)
  rw [List.length_map, Array.length_toList] at q
  exact q
theorem AsB.app {y z : Str} {a b : By} (h : AsB y a) (g : AsB z b) : AsB (y ++ z) (a ++ b) := by
  show (y.cps ++ z.cps).toList = _
  rw [Array.toList_append, List.map_append, show y.cps.toList = _ from h, show z.cps.toList = _ from g]
theorem AsB.of {s : String} (h : ∀ c ∈ s.toList, c.toNat < 256) : AsB (Str.ofString s) (word s) := by
  show (Str.ofString s).cps.toList = _
  rw [cps_of]
  unfold word
  rw [List.map_map]
  refine List.map_congr_left fun c hc => ?_
  show c.toNat = (UInt8.ofNat c.toNat).toNat
  rw [UInt8.toNat_ofNat', Nat.mod_eq_of_lt (h c hc)]
theorem asB_digits (n : Nat) : ∀ c ∈ Nat.toDigits 10 n, c.toNat < 256 := fun c hc => by
  have q := Nat.isDigit_of_mem_toDigits (by decide) (by decide) hc
  unfold Char.isDigit at q
  simp only [Bool.and_eq_true, decide_eq_true_eq] at q
  have h : c.val.toNat ≤ 57 := q.2
  show c.val.toNat < 256
  omega
theorem AsB.nat (n : Nat) : AsB (Str.ofString (toString (n : Int))) (showNat n) := by
  show (Str.ofString (String.ofList (Nat.toDigits 10 n))).cps.toList = _
  rw [cps_of, String.toList_ofList]
  unfold showNat
  rw [List.map_map]
  refine List.map_congr_left fun c hc => ?_
  show c.toNat = (UInt8.ofNat c.toNat).toNat
  rw [UInt8.toNat_ofNat', Nat.mod_eq_of_lt (asB_digits n c hc)]
theorem AsB.int (i : Int) : AsB (Str.ofString (toString i)) (showInt i) := by
  unfold showInt
  cases i with
  | ofNat n =>
    rw [if_neg (by have := Int.natCast_nonneg n; exact Int.not_lt.mpr this)]
    exact AsB.nat n
  | negSucc n =>
    rw [if_pos (Int.negSucc_lt_zero n)]
    show (Str.ofString ("-" ++ String.ofList (Nat.toDigits 10 (n + 1)))).cps.toList = _
    rw [cps_of, String.toList_append, List.map_append]
    have q := AsB.nat (n + 1)
    have q : (Str.ofString (String.ofList (Nat.toDigits 10 (n + 1)))).cps.toList = (showNat (n + 1)).map UInt8.toNat := q
    rw [cps_of] at q
    rw [q]
    rfl
theorem joined_flat (sep : By) : ∀ (r : List By) (x : By), joined sep (x :: r) = x ++ r.flatMap (sep ++ ·)
  | [], x => (List.append_nil x).symm
  | y :: r, x => by
    show x ++ sep ++ joined sep (y :: r) = _
    rw [joined_flat sep r y, List.flatMap_cons]
    simp only [List.append_assoc]
theorem glue_flat {a : Str} {sep : By} (ha : AsB a sep) : ∀ {ys : List Str} {bs : List By} {acc : Array Nat} {b : By}, ys.length = bs.length → (∀ (i : Nat) y c, ys[i]? = some y → bs[i]? = some c → AsB y c) → acc.toList = b.map UInt8.toNat →
    (ys.foldl (fun acc p => acc ++ a.cps ++ p.cps) acc).toList = (b ++ bs.flatMap (sep ++ ·)).map UInt8.toNat
  | [], [], acc, b, _, _, h => by rw [List.flatMap_nil, List.append_nil]; exact h
  | [], _ :: _, _, _, h, _, _ => by cases h
  | _ :: _, [], _, _, h, _, _ => by cases h
  | y :: ys, c :: bs, acc, b, hl, h, hb => by
    have q : AsB y c := h 0 y c rfl rfl
    have e : (acc ++ a.cps ++ y.cps).toList = (b ++ (sep ++ c)).map UInt8.toNat := by
      rw [Array.toList_append, Array.toList_append, hb, show a.cps.toList = _ from ha, show y.cps.toList = _ from q, List.map_append, List.map_append, List.append_assoc]
    have r := glue_flat ha (ys := ys) (bs := bs) (acc := acc ++ a.cps ++ y.cps) (b := b ++ (sep ++ c)) (Nat.succ.inj hl) (fun i y c h1 h2 => h (i + 1) y c h1 h2) e
    rw [List.flatMap_cons, ← List.append_assoc]
    exact r
theorem AsB.join {a : Str} {sep : By} (ha : AsB a sep) {ys : List Str} {bs : List By} (hl : ys.length = bs.length) (h : ∀ (i : Nat) y c, ys[i]? = some y → bs[i]? = some c → AsB y c) : AsB (Txt.join a ys) (joined sep bs) := by
  cases ys with
  | nil =>
    cases bs with
    | nil => rfl
    | cons c bs => cases hl
  | cons y ys =>
    cases bs with
    | nil => cases hl
    | cons c bs =>
      rw [joined_flat]
      exact glue_flat ha (Nat.succ.inj hl) (fun i y c h1 h2 => h (i + 1) y c h1 h2) (h 0 y c rfl rfl)
theorem AsB.nats {a : Str} {sep : By} (ha : AsB a sep) (ns : List Nat) : AsB (Txt.join a (ns.map fun (n : Nat) => Str.ofString (toString (n : Int)))) (joined sep (ns.map showNat)) := by
  refine AsB.join ha (by rw [List.length_map, List.length_map]) fun i y c h1 h2 => ?_
  rw [List.getElem?_map] at h1 h2
  obtain ⟨n, hn, rfl⟩ := Option.map_eq_some_iff.mp h1
  rw [hn] at h2
  cases h2
  exact AsB.nat n
/-- a number's digits, counted -/
theorem digits_le : ∀ {k n : Nat}, n < 10 ^ (k + 1) → (showNat n).length ≤ k + 1 := fun {k n} h => by
  unfold showNat
  rw [List.length_map]
  exact Nat.length_toDigits_le_iff (by decide) (by omega) |>.mpr h
end Kg
namespace Kg
open PySem PySem.Spec PyProof.Rows L2
open VamvsBase (word showNat showInt joined)
open Vamvsa (Ask Table Group)
theorem listedM_le : ∀ {us : List By}, (∀ u ∈ us, u.length ≤ 16) → (listedM us).length ≤ 18 * us.length := fun {us} => by
  refine rev_ind (p := fun us => (∀ u ∈ us, u.length ≤ 16) → (listedM us).length ≤ 18 * us.length) (fun _ => Nat.le_refl _) (fun l x ih h => ?_) us
  have h1 := ih fun u hu => h u (List.mem_append_left _ hu)
  have h2 := h x (List.mem_append_right _ (List.mem_singleton.mpr rfl))
  have e : (word ", ").length = 2 := rfl
  rw [listedM_snoc, List.length_append, List.length_append, List.length_singleton]
  split
  · omega
  · rw [List.length_append, e]; omega
theorem bV_app (a b : By) : bV (a ++ b) = bV a ++ bV b := List.map_append
theorem asB_comma : AsB (", " : Str) (word ", ") := AsB.of (by decide +kernel)
section
variable {P : Program} {w : World} {K : PySem.W.Frag} {mg : Str → Option Value} {base : Heap} {z : Ads}
theorem bytesFor {z : Str} {b : By} (h : AsB z b) (hb : b.length < 16000000) : z.cps.size < sizeLine ∧ cV z = bV b := by
  refine ⟨?_, h.cV⟩
  have q := h.len
  show z.length < sizeLine
  rw [q, sizeLine_eq]
  omega
abbrev sListed : Stmt := topS 59
theorem scListed : FnScope ["names", "form", "name"] ["names"] (defScope sListed) := ⟨rfl, rfl, rfl, by decide +kernel, rfl, by decide +kernel, by decide +kernel⟩
def spListed (K : PySem.W.Frag) : Sp := fun vs H Q _ => ∃ (a : Addr) (as : List Addr) (us : List By), vs = [.ref a] ∧ SqL K H a (rV as) ∧ Al (LB H) as us ∧ (∀ u ∈ us, u.length ≤ 16) ∧ us.length ≤ 16 ∧ ∀ l H', Same H H' → H l = none → H' l = some (.lst (bV (listedM us))) → Q (.ref l) H'
theorem okListed (D : Df K mg "listed" sListed ["names"]) (O : Ok P w K mg base CX0 1 "bytes_of" ["letters"] spBytesOf) : Ok P w K mg base CX0 2 "listed" ["names"] (spListed K) := by
  refine D.ok fun f fd F => F.ok scListed (fun vs H Q E h => ?_) (fun cdv A outer s H vs Q E hr h => ?_)
  · obtain ⟨a, as, us, rfl, _⟩ := h
    rfl
  obtain ⟨a, as, us, rfl, hA, al, h16, hl16, hQ⟩ := h
  have hu := hu_of hr
  refine ⟨_, pss_cons (ps_set (i := 1) scListed.nd rfl (.inl rfl) (pe_lst pa_nil))
    <| pss_cons (ps_for PassesOwn.never rfl (pi_list (pv 0)) (pg_name (i := 2) scListed.nd rfl (.inl rfl))
      (pss_cons (ps_if (pt_truth (pv 1) (by intro _; rfl)) (pss_one (ps_expr (pe_bm PySem.F.plainAttrs_list PySem.F.slot_list_extend PySem.F.type_list_extend mt_extend (pv 1) (pa_cons (pe_ok O hr (by decide) rfl pass0 (pa_cons pe_str pa_nil)) pa_nil)))) pss_nil)
      <| pss_one (ps_expr (pe_bm PySem.F.plainAttrs_list PySem.F.slot_list_extend PySem.F.type_list_extend mt_extend (pv 1) (pa_cons (pv 2) pa_nil)))))
    <| pss_one (ps_ret (pv 1)), ?_⟩
  refine ⟨Nat.zero_le _, fun D0 hD => ?_⟩
  refine ⟨_, rfl, a, rfl, ⟨_, (same_new hD).seq hA⟩, for_list (K := K) (a := a) (xs := rV as) (fun i σ H' => (∃ v : Option V, σ = [some (.ref a), some (.ref D0), v]) ∧ Same H H' ∧ H' D0 = some (.lst (bV (listedM (us.take i)))))
    ⟨⟨none, rfl⟩, same_new hD, upd_same⟩ (fun i σ H' _ ⟨_, sm, _⟩ => sm.seq hA) ?_ ?_⟩
  · rintro i v σ H' hi ⟨⟨v2, rfl⟩, sm, hd⟩
    obtain ⟨ra, hra, rfl⟩ := rV_inv hi
    obtain ⟨u, hu1, hln⟩ := al.at1 hra
    have step : listedM (us.take (i + 1)) = (if listedM (us.take i) = [] then listedM (us.take i) else listedM (us.take i) ++ word ", ") ++ u := by
      rw [List.take_add_one, hu1]
      exact listedM_snoc _ _
    have b1 := listedM_le (us := us.take i) fun u hu => h16 u (List.mem_of_mem_take hu)
    rw [List.length_take] at b1
    have b2 := h16 u (List.mem_of_getElem? hu1)
    generalize listedM (us.take i) = f at step b1 hd
    generalize listedM (us.take (i + 1)) = f' at step
    refine ⟨_, rfl, _, .inl ⟨_, SqL.of hd, rfl⟩, ?_⟩
    by_cases c : f = []
    · subst c
      rw [if_pos rfl, List.nil_append] at step
      subst step
      refine ite2 (fun h => absurd h (by decide)) fun _ => ?_
      refine ⟨_, rfl, .inl ⟨rfl, _, SqL.of hd⟩, _, rfl, D0, ra, _, _, rfl, rfl, hd, sm _ _ hln, ?_, ?_⟩
      · rw [bV_len, bV_len, sizeLine_eq]; show 0 + _ ≤ _; omega
      · exact ⟨⟨_, rfl⟩, same_upd sm hD, upd_same⟩
    · rw [if_neg c] at step
      have ne : bV f ≠ [] := fun e => c (List.map_eq_nil_iff.mp e)
      refine ite2 (fun _ => ?_) fun h => absurd (by rw [List.isEmpty_eq_false_iff.mpr ne]; rfl) h
      obtain ⟨l1, l2⟩ := bytesFor asB_comma (by decide)
      refine ⟨_, rfl, .inl ⟨rfl, _, SqL.of hd⟩, _, rfl, l1, fun p hp => ?_⟩
      rw [l2]
      have hd1 := same_new (o := HO.lst (bV (word ", "))) hp _ _ hd
      refine ⟨D0, p, _, _, rfl, rfl, hd1, upd_same, ?_, ?_⟩
      · rw [bV_len, bV_len, sizeLine_eq]; show _ + 2 ≤ _; omega
      · rw [← bV_app]
        have s2 : Same H (L2.upd (L2.upd H' p (.lst (bV (word ", ")))) D0 (.lst (bV (f ++ word ", ")))) := same_upd (sm.trans (same_new hp)) hD
        have d2 : (L2.upd (L2.upd H' p (.lst (bV (word ", ")))) D0 (.lst (bV (f ++ word ", ")))) D0 = some (.lst (bV (f ++ word ", "))) := upd_same
        generalize (L2.upd (L2.upd H' p (.lst (bV (word ", ")))) D0 (.lst (bV (f ++ word ", ")))) = H3 at s2 d2
        refine ⟨_, rfl, .inl ⟨rfl, _, SqL.of d2⟩, _, rfl, D0, ra, _, _, rfl, rfl, d2, s2 _ _ hln, ?_, ?_⟩
        · rw [bV_len, bV_len, List.length_append, sizeLine_eq]; show _ + 2 + _ ≤ _; omega
        · rw [← bV_app, ← step]
          exact ⟨⟨_, rfl⟩, same_upd s2 hD, upd_same⟩
  · rintro σ H' ⟨⟨v2, rfl⟩, sm, hd⟩
    rw [rV_len, al.1, List.take_length] at hd
    exact ⟨_, rfl, hQ D0 H' sm hD hd⟩
end
end Kg
namespace Kg
open PySem PySem.Spec PyProof.Rows L2
open VamvsBase (word showNat showInt joined)
open Vamvsa (Ask Table Group)
theorem lnAm {a b c : V} : List.lookup ("amount" : Str) (fsLine [a, b, c]) = some b := (lk_past (by decide +kernel)).trans lk_here
theorem lnCo {a b c : V} : List.lookup ("count" : Str) (fsLine [a, b, c]) = some c := (lk_past (by decide +kernel)).trans ((lk_past (by decide +kernel)).trans lk_here)
theorem log_small {i : Int} (h : i.natAbs < 2 ^ 64) : i.natAbs.log2 < 1920 := by
  by_cases h0 : i.natAbs = 0
  · rw [h0]; decide
  · have := (Nat.log2_lt h0).mpr h
    omega
theorem commas_len : ∀ {l : List By} {k : Nat}, (∀ u ∈ l, u.length ≤ k) → (Vamvsa.commas l).length ≤ (k + 2) * l.length
  | [], _, _ => Nat.zero_le _
  | [x], k, h => by
    have := h x List.mem_cons_self
    show x.length ≤ (k + 2) * 1
    omega
  | x :: y :: r, k, h => by
    have h1 := h x List.mem_cons_self
    have h2 := commas_len (l := y :: r) (k := k) fun u hu => h u (List.mem_cons_of_mem _ hu)
    have e : (Vamvsa.commas (x :: y :: r)).length = x.length + 2 + (Vamvsa.commas (y :: r)).length := by
      show (x ++ word ", " ++ joined (word ", ") (y :: r)).length = _
      rw [List.length_append, List.length_append]
      rfl
    rw [e, List.length_cons, Nat.mul_succ]
    omega
theorem showInt_len {i : Int} (lo : -1000 ≤ i) (hi : i ≤ 1000) : (showInt i).length ≤ 5 := by
  have h : i.natAbs < 10 ^ (3 + 1) := by omega
  have q := digits_le h
  unfold showInt
  split
  · show (showNat i.natAbs).length + 1 ≤ 5; omega
  · omega
theorem rowParts {r : Vamvsa.Row} {n : Nat} (h : RowOk n r) (n4 : n ≤ 4) : (Vamvsa.commas (r.vs.map showNat)).length ≤ 12 ∧ (showInt r.m).length ≤ 5 := by
  have c := commas_len (l := r.vs.map showNat) (k := 1) fun u hu => by
    obtain ⟨v, hv, e⟩ := List.mem_map.mp hu
    subst e
    exact digits_le (k := 0) (by have := h.small v hv; omega)
  rw [List.length_map, h.len] at c
  exact ⟨by omega, showInt_len h.lo h.hi⟩
section
variable {P : Program} {w : World} {K : PySem.W.Frag} {mg : Str → Option Value} {base : Heap} {z : Ads}
abbrev sColsLine : Stmt := topS 56
theorem scColsLine : FnScope ["names"] ["names"] (defScope sColsLine) := ⟨rfl, rfl, rfl, by decide +kernel, rfl, by decide +kernel, by decide +kernel⟩
def spColsLine (K : PySem.W.Frag) : Sp := fun vs H Q _ => ∃ (a : Addr) (as : List Addr) (us : List By), vs = [.ref a] ∧ SqL K H a (rV as) ∧ Al (LB H) as us ∧ (∀ u ∈ us, u.length ≤ 16) ∧ us.length ≤ 16 ∧ ∀ l H', Same H H' → H l = none → H' l = some (.lst (bV (colsLine us))) → Q (.ref l) H'
theorem okColsLine (D : Df K mg "columns_line" sColsLine ["names"]) (O : Ok P w K mg base CX0 1 "bytes_of" ["letters"] spBytesOf) (O2 : Ok P w K mg base CX0 2 "listed" ["names"] (spListed K)) : Ok P w K mg base CX0 3 "columns_line" ["names"] (spColsLine K) := by
  refine D.ok fun f fd F => F.ok scColsLine (fun vs H Q E h => ?_) (fun cdv A outer s H vs Q E hr h => ?_)
  · obtain ⟨a, as, us, rfl, _⟩ := h
    rfl
  obtain ⟨a, as, us, rfl, hA, al, h16, hl16, hQ⟩ := h
  refine ⟨_, pss_one (ps_ret (pe_op op_cat (pe_op op_cat (pe_ok O hr (by decide) rfl pass0 (pa_cons pe_str pa_nil)) (pe_ok O2 hr (by decide) rfl pass0 (pa_cons (pv 0) pa_nil))) (pe_ok O hr (by decide) rfl pass0 (pa_cons pe_str pa_nil)))), ?_⟩
  have c1 : AsB ("columns " : Str) (word "columns ") := AsB.of (by decide +kernel)
  have c2 : AsB (" ;\n" : Str) (word " ;\n") := AsB.of (by decide +kernel)
  obtain ⟨l1, l2⟩ := bytesFor c1 (by decide)
  obtain ⟨l3, l4⟩ := bytesFor c2 (by decide)
  have b1 := listedM_le h16
  refine ⟨_, rfl, l1, fun p hp => ?_⟩
  rw [l2]
  have s1 := same_new (o := HO.lst (bV (word "columns "))) hp
  have p1 : (L2.upd H p (.lst (bV (word "columns ")))) p = some (.lst (bV (word "columns "))) := upd_same
  generalize (L2.upd H p (.lst (bV (word "columns ")))) = H1 at s1 p1
  refine ⟨_, rfl, a, as, us, rfl, s1.seq hA, al.mono fun _ _ e => s1 _ _ e, h16, hl16, fun q H2 s2 hq q2 => ?_⟩
  refine ⟨p, q, _, _, rfl, rfl, s2 _ _ p1, q2, ?_, fun r hr2 => ?_⟩
  · rw [bV_len, bV_len, sizeLine_eq]; show 8 + _ ≤ _; omega
  rw [← bV_app]
  have s3 := same_new (o := HO.lst (bV (word "columns " ++ listedM us))) hr2
  have r3 : (L2.upd H2 r (.lst (bV (word "columns " ++ listedM us)))) r = some (.lst (bV (word "columns " ++ listedM us))) := upd_same
  generalize (L2.upd H2 r (.lst (bV (word "columns " ++ listedM us)))) = H3 at s3 r3
  refine ⟨_, rfl, l3, fun u hu => ?_⟩
  rw [l4]
  have s4 := same_new (o := HO.lst (bV (word " ;\n"))) hu
  have u4 : (L2.upd H3 u (.lst (bV (word " ;\n")))) u = some (.lst (bV (word " ;\n"))) := upd_same
  generalize (L2.upd H3 u (.lst (bV (word " ;\n")))) = H4 at s4 u4
  refine ⟨r, u, _, _, rfl, rfl, s4 _ _ r3, u4, ?_, fun v hv => ?_⟩
  · rw [bV_len, bV_len, List.length_append, sizeLine_eq]; show 8 + _ + 3 ≤ _; omega
  rw [← bV_app]
  have s04 := ((s1.trans s2).trans s3).trans s4
  exact hQ v _ (s04.trans (same_new hv)) (s04.free hv) upd_same
abbrev sRowLine : Stmt := topS 57
theorem scRowLine : FnScope ["row", "numbers", "amount", "number"] ["row"] (defScope sRowLine) := ⟨rfl, rfl, rfl, by decide +kernel, rfl, by decide +kernel, by decide +kernel⟩
def spRowLine (z : Ads) : Sp := fun vs H Q _ => ∃ (ra : Addr) (r : Vamvsa.Row) (n : Nat), vs = [.ref ra] ∧ IsLn z H ra (rowG r) ∧ RowOk n r ∧ n ≤ 4 ∧ ∀ l H', Same H H' → H l = none → H' l = some (.lst (bV (rowLine r))) → Q (.ref l) H'
theorem digits_sum : ∀ {l : List Nat}, (∀ v ∈ l, v ≤ 9) → ((l.map fun (n : Nat) => Str.ofString (toString (n : Int))).map (·.length)).sum ≤ l.length
  | [], _ => Nat.le_refl _
  | x :: l, h => by
    have q := digits_sum (l := l) fun v hv => h v (List.mem_cons_of_mem _ hv)
    have h9 := h x List.mem_cons_self
    have e := (AsB.nat x).len
    have d := digits_le (k := 0) (n := x) (by omega)
    rw [List.map_cons, List.map_cons, List.sum_cons, List.length_cons, e]
    omega
def strsV (ns : List Nat) : List V := ns.map fun (n : Nat) => V.str (Str.ofString (toString (n : Int)))
theorem okRowLine (D : Df K mg "row_line" sRowLine ["row"]) (T : Tx P w K mg base z) (O : Ok P w K mg base CX0 1 "bytes_of" ["letters"] spBytesOf) : Ok P w K mg base CX0 2 "row_line" ["row"] (spRowLine z) := by
  refine D.ok fun f fd F => F.ok scRowLine (fun vs H Q E h => ?_) (fun cdv A outer s H vs Q E hr h => ?_)
  · obtain ⟨ra, r, n, rfl, _⟩ := h
    rfl
  obtain ⟨ra, r, n, rfl, ⟨dl, tl, h1, h2⟩, rok, n4, hQ⟩ := h
  refine ⟨_, pss_cons (ps_set (i := 1) scRowLine.nd rfl (.inl rfl) (pe_join pe_str (pe_lc (own := [("number", 3)]) (g := gName 3) (tt := tYes) rfl scRowLine.nd (pi_tup (pe_fld (pv 0) rfl)) (blkOk_by (N := ["row", "numbers", "amount", "number"]) (sc := defScope sRowLine) (by decide +kernel))
        (fun _ _ _ _ _ => pg_name (i := 3) scRowLine.nd rfl (Or.inl rfl)) (fun _ _ _ _ _ => pts_nil) (fun _ _ _ _ _ => pe_callTy call_str_int (by rfl) T.blt.str (by decide +kernel) (pa_cons (pv 3) pa_nil)))))
    <| pss_cons (ps_set (i := 2) scRowLine.nd rfl (.inl rfl) (pe_fld (pv 0) rfl))
    <| pss_one (ps_ret (pe_ok O hr (by decide) rfl pass0 (pa_cons (pe_joined (.cons pe_str (.cons (pe_fmt (pv 1)) (.cons pe_str (.cons (pe_fmt (pv 2)) (.cons pe_str .nil)))))) pa_nil))), ?_⟩
  obtain ⟨q1, q2⟩ := rowParts rok n4
  refine ⟨⟨_, rfl⟩, ?_⟩
  refine ⟨_, rfl, ra, z.L, dl, _, _, rfl, h1, T.lin.cl, T.lin.no _ (by simp), lnNums, tl, rfl, ⟨_, SqT.of h2⟩, fun L hL => lc_tup (K := K) (a := tl) (xs := nV r.vs) (fun j H2 => H2 = L2.upd H L (.lst (strsV (r.vs.take j)))) rfl (fun j H2 _ e => by rw [e]; exact SqT.of (same_new hL _ _ h2)) ?_ ?_⟩
  · rintro j v H2 hv rfl
    obtain ⟨m, hm, rfl⟩ := nV_inv hv
    have m9 := rok.small m (List.mem_of_getElem? hm)
    refine ⟨rfl, ?_⟩
    refine ⟨_, rfl, _, rfl, log_small (by omega), _, upd_same, ?_, ?_⟩
    · unfold strsV
      rw [List.length_map, List.length_take, sizeLine_eq]
      have := rok.len
      omega
    · rw [upd_upd, List.take_add_one, hm]
      unfold strsV
      rw [List.map_append]
      rfl
  rintro _ rfl
  rw [nV_len, List.take_length]
  have s1 := same_new (o := HO.lst (strsV r.vs)) hL
  have L1 : (L2.upd H L (.lst (strsV r.vs))) L = some (.lst (strsV r.vs)) := upd_same
  generalize (L2.upd H L (.lst (strsV r.vs))) = H1 at s1 L1
  have c0 : AsB (Txt.join (", " : Str) (r.vs.map fun (n : Nat) => Str.ofString (toString (n : Int)))) (Vamvsa.commas (r.vs.map showNat)) := AsB.nats asB_comma r.vs
  have ev : strsV r.vs = (r.vs.map fun (n : Nat) => Str.ofString (toString (n : Int))).map V.str := by unfold strsV; rw [List.map_map]; rfl
  refine ⟨_, L, r.vs.map fun (n : Nat) => Str.ofString (toString (n : Int)), rfl, rfl, .inl (by rw [← ev]; exact SqL.of L1), ?_, ?_⟩
  · have := digits_sum rok.small
    have e : (", " : Str).length = 2 := asB_comma.len
    have := rok.len
    rw [List.length_map, e]
    omega
  have k1 : AsB ("row " : Str) (word "row ") := AsB.of (by decide +kernel)
  have k2 : AsB (" : " : Str) (word " : ") := AsB.of (by decide +kernel)
  have k3 : AsB (" ;\n" : Str) (word " ;\n") := AsB.of (by decide +kernel)
  have k0 : AsB Str.empty [] := rfl
  have a1 := k0.app k1
  have a2 := a1.app c0
  have a3 := a2.app k2
  have a4 := a3.app (AsB.int (rowG r).sum)
  have q2 : (showInt (rowG r).sum).length ≤ 5 := q2
  have a5 := a4.app k3
  have w1 : (word "row ").length = 4 := rfl
  have w2 : (word " : ").length = 3 := rfl
  have w3 : (word " ;\n").length = 3 := rfl
  refine ⟨_, rfl, ra, z.L, dl, _, _, rfl, s1 _ _ h1, T.lin.cl, T.lin.no _ (by simp), lnAm, ?_⟩
  have sz := sizeLine_eq
  refine ⟨_, rfl, ?_, ?_⟩
  · rw [a1.len, sz, List.length_append, w1]; decide
  refine ⟨_, rfl, .inl ⟨_, rfl, ?_, ?_⟩⟩
  · rw [c0.len, sz]; omega
  refine ⟨_, rfl, ?_, ?_⟩
  · rw [a2.len, sz]; simp only [List.length_append, List.length_nil, w1]; omega
  refine ⟨_, rfl, ?_, ?_⟩
  · rw [a3.len, sz]; simp only [List.length_append, List.length_nil, w1, w2]; omega
  refine ⟨_, rfl, .inr ⟨_, rfl, log_small (by have h1 := rok.lo; have h2 := rok.hi; show r.m.natAbs < _; omega), ?_⟩⟩
  refine ⟨_, rfl, ?_, ?_⟩
  · rw [a4.len, sz]; simp only [List.length_append, List.length_nil, w1, w2]; omega
  refine ⟨_, rfl, ?_, ?_⟩
  · rw [a5.len, sz]; simp only [List.length_append, List.length_nil, w1, w2, w3]; omega
  obtain ⟨b1, b2⟩ := bytesFor a5 (by simp only [List.length_append, List.length_nil, w1, w2, w3]; omega)
  refine ⟨_, rfl, b1, fun p hp => ?_⟩
  rw [b2]
  have e : ((((([] : By) ++ word "row ") ++ Vamvsa.commas (r.vs.map showNat)) ++ word " : ") ++ showInt (rowG r).sum) ++ word " ;\n" = rowLine r := by
    unfold rowLine
    show ((((([] : By) ++ word "row ") ++ Vamvsa.commas (r.vs.map showNat)) ++ word " : ") ++ showInt r.m) ++ word " ;\n" = _
    simp only [List.append_assoc, List.nil_append]
  rw [e]
  exact hQ p _ (s1.trans (same_new hp)) (s1.free hp) upd_same
end
end Kg
namespace Kg
open PySem PySem.Spec PyProof.Rows L2
open VamvsBase (word showNat showInt joined)
open Vamvsa (Ask Table Group)
def askF1 (cols : List By) (g : Nat) : By := if askedOf cols g = [] then word "ask " else word "ask " ++ (listedM (askedOf cols g) ++ word " ")
def askF2 (k : Nat) : By := if k = 1 then [] else word "times " ++ (showNat k ++ word " ")
theorem askLine_parts (cols : List By) (a : Ask) : askLine cols a = (askF1 cols a.g ++ askF2 a.k) ++ word ";\n" := rfl
section
variable {P : Program} {w : World} {K : PySem.W.Frag} {mg : Str → Option Value} {base : Heap} {z : Ads}
abbrev sAskLine : Stmt := topS 58
theorem scAskLine : FnScope ["question", "names", "line", "times", "asked", "column"] ["question", "names"] (defScope sAskLine) := ⟨rfl, rfl, rfl, by decide +kernel, rfl, by decide +kernel, by decide +kernel⟩
def spAskLine (K : PySem.W.Frag) (z : Ads) : Sp := fun vs H Q _ => ∃ (qa a : Addr) (as : List Addr) (us : List By) (q : Ask), vs = [.ref qa, .ref a] ∧ IsQu z H qa q ∧ AskOk us.length q ∧ SqL K H a (rV as) ∧ Al (LB H) as us ∧ (∀ u ∈ us, u.length ≤ 16) ∧ us.length ≤ 4 ∧
  ∀ l H', Same H H' → H l = none → H' l = some (.lst (bV (askLine us q))) → Q (.ref l) H'
theorem askedOf_al {H : Hp} {as : List Addr} {us : List By} (al : Al (LB H) as us) (g : Nat) : Al (LB H) ((Vamvsa.columnsOf us.length g).map fun i => as.getD i 0) (askedOf us g) := by
  unfold askedOf
  refine ⟨by rw [List.length_map, List.length_map], fun i x y h1 h2 => ?_⟩
  rw [List.getElem?_map] at h1 h2
  obtain ⟨c, hc, rfl⟩ := Option.map_eq_some_iff.mp h1
  rw [hc] at h2
  cases h2
  have hl := (mem_cols.mp (List.mem_of_getElem? hc)).1
  have hl2 : c < as.length := by rw [al.1]; exact hl
  show LB H (as.getD c 0) (us.getD c [])
  rw [List.getD_eq_getElem?_getD, List.getD_eq_getElem?_getD, List.getElem?_eq_getElem hl, List.getElem?_eq_getElem hl2]
  exact al.2 c _ _ (List.getElem?_eq_getElem hl2) (List.getElem?_eq_getElem hl)
theorem okAskLine (D : Df K mg "question_line" sAskLine ["question", "names"]) (T : Tx P w K mg base z) (O : Ok P w K mg base CX0 1 "bytes_of" ["letters"] spBytesOf) (O2 : Ok P w K mg base CX0 2 "listed" ["names"] (spListed K))
    (O3 : Ok P w K mg base CX0 1 "columns_of" ["grouping", "width"] spColumnsOf) : Ok P w K mg base CX0 3 "question_line" ["question", "names"] (spAskLine K z) := by
  refine D.ok fun f fd F => F.ok scAskLine (fun vs H Q E h => ?_) (fun cdv A outer s H vs Q E hr h => ?_)
  · obtain ⟨qa, a, as, us, q, rfl, _⟩ := h
    rfl
  obtain ⟨qa, a, as, us, q, rfl, ⟨dq, hq⟩, aok, hA, al, h16, h4, hQ⟩ := h
  refine ⟨_, pss_cons (ps_set (i := 2) scAskLine.nd rfl (.inl rfl) (pe_ok O hr (by decide) rfl pass0 (pa_cons pe_str pa_nil)))
    <| pss_cons (ps_set (i := 3) scAskLine.nd rfl (.inl rfl) (pe_fld (pv 0) rfl))
    <| pss_cons (ps_setLc (i := 4) (own := [("column", 5)]) (g := gName 5) (tt := tYes) (te := tOp (rIxL K) (tVar 1) (tVar 5)) rfl scAskLine.nd rfl rfl rfl
        (pi_list (pe_ok O3 hr (by decide) rfl pass0 (pa_cons (pe_fld (pv 0) rfl) (pa_cons (pe_callB cr_len (by rfl) T.blt.len PySem.boot_len (pa_cons (pv 1) pa_nil)) pa_nil))))
        (blkOk_by (N := ["question", "names", "line", "times", "asked", "column"]) (sc := defScope sAskLine) (by decide +kernel))
        (fun _ _ _ _ _ => pg_name (i := 5) scAskLine.nd rfl (Or.inl rfl)) (fun _ _ _ _ _ => pts_nil) (fun _ _ _ _ _ => pe_ix ix_list (pv 1) (pv 5) (fun _ _ => rfl)))
    <| pss_cons (ps_if (pt_truth (pv 4) (by intro _; rfl)) (pss_one (ps_expr (pe_bm PySem.F.plainAttrs_list PySem.F.slot_list_extend PySem.F.type_list_extend mt_extend (pv 2)
        (pa_cons (pe_op op_cat (pe_ok O2 hr (by decide) rfl pass0 (pa_cons (pv 4) pa_nil)) (pe_ok O hr (by decide) rfl pass0 (pa_cons pe_str pa_nil))) pa_nil)))) pss_nil)
    <| pss_cons (ps_if (pt_cmpR op_ne (pv 3) pe_int (nomark _)) (pss_one (ps_expr (pe_bm PySem.F.plainAttrs_list PySem.F.slot_list_extend PySem.F.type_list_extend mt_extend (pv 2)
        (pa_cons (pe_ok O hr (by decide) rfl pass0 (pa_cons (pe_joined (.cons pe_str (.cons (pe_fmt (pv 3)) (.cons pe_str .nil)))) pa_nil)) pa_nil)))) pss_nil)
    <| pss_one (ps_ret (pe_op op_cat (pv 2) (pe_ok O hr (by decide) rfl pass0 (pa_cons pe_str pa_nil)))), ?_⟩
  have c1 : AsB ("ask " : Str) (word "ask ") := AsB.of (by decide +kernel)
  have c2 : AsB (" " : Str) (word " ") := AsB.of (by decide +kernel)
  have c3 : AsB ("times " : Str) (word "times ") := AsB.of (by decide +kernel)
  have c4 : AsB (";\n" : Str) (word ";\n") := AsB.of (by decide +kernel)
  have w1 : (word "ask ").length = 4 := rfl
  have w2 : (word " ").length = 1 := rfl
  have w3 : (word "times ").length = 6 := rfl
  have w4 : (word ";\n").length = 2 := rfl
  have sz := sizeLine_eq
  obtain ⟨l1, l2⟩ := bytesFor c1 (by decide)
  refine ⟨_, rfl, l1, fun p0 hp0 => ?_⟩
  rw [l2]
  have s1 := same_new (o := HO.lst (bV (word "ask "))) hp0
  have p1 : (L2.upd H p0 (.lst (bV (word "ask ")))) p0 = some (.lst (bV (word "ask "))) := upd_same
  generalize (L2.upd H p0 (.lst (bV (word "ask ")))) = H1 at s1 p1
  refine ⟨_, rfl, qa, z.Q, dq, _, _, rfl, s1 _ _ hq, T.que.cl, T.que.no _ (by simp), quTi, ?_⟩
  refine ⟨_, rfl, qa, z.Q, dq, _, _, rfl, s1 _ _ hq, T.que.cl, T.que.no _ (by simp), quGr, ?_⟩
  refine ⟨_, rfl, a, _, rfl, .inl (s1.seq hA), q.g, us.length, by rw [rV_len, al.1]; rfl, h4, fun pc hpc => ?_⟩
  have s2 := same_new (o := HO.lst (nV (Vamvsa.columnsOf us.length q.g))) hpc
  have p2 : (L2.upd H1 pc (.lst (nV (Vamvsa.columnsOf us.length q.g)))) pc = some (.lst (nV (Vamvsa.columnsOf us.length q.g))) := upd_same
  generalize (L2.upd H1 pc (.lst (nV (Vamvsa.columnsOf us.length q.g)))) = H2 at s2 p2
  have s12 := s1.trans s2
  refine ⟨pc, rfl, ⟨_, SqL.of p2⟩, fun L hL => lc_list (K := K) (a := pc) (xs := nV (Vamvsa.columnsOf us.length q.g)) (fun j H3 => H3 = L2.upd H2 L (.lst (rV (((Vamvsa.columnsOf us.length q.g).take j).map fun i => as.getD i 0)))) rfl (fun j H3 _ e => by rw [e]; exact (same_new hL).seq (SqL.of p2)) ?_ ?_⟩
  · rintro j v H3 hv rfl
    obtain ⟨c, hc, rfl⟩ := nV_inv hv
    have hl := (mem_cols.mp (List.mem_of_getElem? hc)).1
    have hl2 : c < as.length := by rw [al.1]; exact hl
    have e0 : as[c]? = some (as.getD c 0) := by rw [List.getD_eq_getElem?_getD, List.getElem?_eq_getElem hl2]; rfl
    have sL : Same H2 (L2.upd H2 L (.lst (rV (((Vamvsa.columnsOf us.length q.g).take j).map fun i => as.getD i 0)))) := same_new hL
    refine ⟨rfl, ?_⟩
    refine ⟨_, rfl, _, rfl, a, _, (c : Int), _, rfl, rfl, (s12.trans sL).seq hA, at_of rfl (rV_at e0), _, upd_same, ?_, ?_⟩
    · have := cols_len us.length q.g
      rw [rV_len, List.length_map, List.length_take, sz]
      omega
    · rw [upd_upd, List.take_add_one, hc, List.map_append]
      unfold rV
      rw [List.map_append]
      rfl
  rintro _ rfl
  rw [nV_len, List.take_length]
  have sL := same_new (o := HO.lst (rV ((Vamvsa.columnsOf us.length q.g).map fun i => as.getD i 0))) hL
  have L3 : (L2.upd H2 L (.lst (rV ((Vamvsa.columnsOf us.length q.g).map fun i => as.getD i 0)))) L = some (.lst (rV ((Vamvsa.columnsOf us.length q.g).map fun i => as.getD i 0))) := upd_same
  generalize (L2.upd H2 L (.lst (rV ((Vamvsa.columnsOf us.length q.g).map fun i => as.getD i 0)))) = H3 at sL L3
  have s3 := s12.trans sL
  have p3 := sL _ _ (s2 _ _ p1)
  have alA := askedOf_al (H := H3) (al.mono fun _ _ e => s3 _ _ e) q.g
  have lenA : (askedOf us q.g).length ≤ 4 := by
    unfold askedOf
    rw [List.length_map]
    exact Nat.le_trans (cols_len _ _) h4
  have h16A : ∀ u ∈ askedOf us q.g, u.length ≤ 16 := fun u hu => h16 u (asked_mem hu)
  have bA := listedM_le h16A
  have bk := digits_le (k := 1) (n := q.k) (by have := aok.hi; omega)
  have f1le : (askF1 us q.g).length ≤ 100 := by
    unfold askF1
    split
    · rw [w1]; decide
    · rw [List.length_append, List.length_append, w1, w2]; omega
  have f2le : (askF2 q.k).length ≤ 100 := by
    unfold askF2
    split
    · decide
    · rw [List.length_append, List.length_append, w2, w3]; omega
  generalize (Vamvsa.columnsOf us.length q.g).map (fun i => as.getD i 0) = aA at L3 alA
  refine ⟨_, rfl, _, .inl ⟨_, SqL.of L3, rfl⟩, ?_⟩
  refine' later (p := fun H4 => Same H H4 ∧ H4 p0 = some (.lst (bV (askF1 us q.g)))) (fun after => ?_) ?_; rotate_left
  · by_cases ca : askedOf us q.g = []
    · have e0 : aA = [] := List.eq_nil_of_length_eq_zero (by rw [alA.1, ca]; rfl)
      refine ite2 (fun h => absurd h (by rw [e0]; decide)) fun _ => ?_
      refine after H3 ⟨s3, ?_⟩
      rw [p3]
      unfold askF1
      rw [if_pos ca]
    · have ne : rV aA ≠ [] := fun e => ca (List.eq_nil_of_length_eq_zero (by rw [← alA.1, ← rV_len, e]; rfl))
      refine ite2 (fun _ => ?_) fun h => absurd (by rw [List.isEmpty_eq_false_iff.mpr ne]; rfl) h
      refine ⟨_, rfl, .inl ⟨rfl, _, SqL.of p3⟩, ?_⟩
      obtain ⟨l3, l4⟩ := bytesFor c2 (by decide)
      refine ⟨_, rfl, L, aA, _, rfl, SqL.of L3, alA, h16A, by omega, fun m H5 s5 hm m5 => ?_⟩
      refine ⟨_, rfl, l3, fun n hn => ?_⟩
      rw [l4]
      have s6 := same_new (o := HO.lst (bV (word " "))) hn
      have n6 : (L2.upd H5 n (.lst (bV (word " ")))) n = some (.lst (bV (word " "))) := upd_same
      generalize (L2.upd H5 n (.lst (bV (word " ")))) = H6 at s6 n6
      refine ⟨m, n, _, _, rfl, rfl, s6 _ _ m5, n6, ?_, fun o ho => ?_⟩
      · rw [bV_len, bV_len, w2, sz]; omega
      rw [← bV_app]
      have s7 := same_new (o := HO.lst (bV (listedM (askedOf us q.g) ++ word " "))) ho
      have o7 : (L2.upd H6 o (.lst (bV (listedM (askedOf us q.g) ++ word " ")))) o = some (.lst (bV (listedM (askedOf us q.g) ++ word " "))) := upd_same
      generalize (L2.upd H6 o (.lst (bV (listedM (askedOf us q.g) ++ word " ")))) = H7 at s7 o7
      have s37 := (s5.trans s6).trans s7
      refine ⟨p0, o, _, _, rfl, rfl, s37 _ _ p3, o7, ?_, ?_⟩
      · rw [bV_len, bV_len, List.length_append, w1, w2, sz]; omega
      rw [← bV_app]
      have ef : word "ask " ++ (listedM (askedOf us q.g) ++ word " ") = askF1 us q.g := by
        unfold askF1
        rw [if_neg ca]
      rw [ef]
      exact after _ ⟨same_upd (s3.trans s37) hp0, upd_same⟩
  · rintro H4 ⟨s4, p4⟩
    refine ⟨_, rfl, rfl, _, rfl, ?_⟩
    refine' later (p := fun H5 => Same H H5 ∧ H5 p0 = some (.lst (bV (askF1 us q.g ++ askF2 q.k)))) (fun after => ?_) ?_; rotate_left
    · by_cases ck : q.k = 1
      · refine ite2 (fun h => absurd h (by rw [ck]; decide)) fun _ => ?_
        refine after H4 ⟨s4, ?_⟩
        rw [p4]
        unfold askF2
        rw [if_pos ck, List.append_nil]
      · refine ite2 (fun _ => ?_) fun h => absurd (by simpa using fun e => ck (by omega)) h
        refine ⟨_, rfl, .inl ⟨rfl, _, SqL.of p4⟩, ?_⟩
        have k0 : AsB Str.empty [] := rfl
        have a1 := k0.app c3
        have a2 := a1.app (AsB.nat q.k)
        have a3 := a2.app c2
        have e3 : (([] : By) ++ word "times " ++ showNat q.k) ++ word " " = askF2 q.k := by
          unfold askF2
          rw [if_neg ck]
          simp only [List.append_assoc, List.nil_append]
        rw [e3] at a3
        obtain ⟨l3, l4⟩ := bytesFor a3 (by omega)
        refine ⟨_, rfl, ?_, ?_⟩
        · rw [a1.len, sz, List.length_append, w3]; decide
        refine ⟨_, rfl, .inr ⟨_, rfl, log_small (by have h1 := aok.hi; omega), ?_⟩⟩
        refine ⟨_, rfl, ?_, ?_⟩
        · rw [a2.len, sz]; simp only [List.length_append, List.length_nil, w3]; omega
        refine ⟨_, rfl, ?_, ?_⟩
        · rw [a3.len, sz]; omega
        refine ⟨_, rfl, l3, fun n hn => ?_⟩
        rw [l4]
        have s6 := same_new (o := HO.lst (bV (askF2 q.k))) hn
        have n6 : (L2.upd H4 n (.lst (bV (askF2 q.k)))) n = some (.lst (bV (askF2 q.k))) := upd_same
        generalize (L2.upd H4 n (.lst (bV (askF2 q.k)))) = H6 at s6 n6
        refine ⟨p0, n, _, _, rfl, rfl, s6 _ _ p4, n6, ?_, ?_⟩
        · rw [bV_len, bV_len, sz]; omega
        rw [← bV_app]
        exact after _ ⟨same_upd (s4.trans s6) hp0, upd_same⟩
    · rintro H5 ⟨s5, p5⟩
      obtain ⟨l3, l4⟩ := bytesFor c4 (by decide)
      refine ⟨_, rfl, _, rfl, l3, fun u hu => ?_⟩
      rw [l4]
      have s6 := same_new (o := HO.lst (bV (word ";\n"))) hu
      have u6 : (L2.upd H5 u (.lst (bV (word ";\n")))) u = some (.lst (bV (word ";\n"))) := upd_same
      generalize (L2.upd H5 u (.lst (bV (word ";\n")))) = H6 at s6 u6
      refine ⟨p0, u, _, _, rfl, rfl, s6 _ _ p5, u6, ?_, fun v hv => ?_⟩
      · rw [bV_len, bV_len, List.length_append, w4, sz]; omega
      rw [← bV_app, ← askLine_parts]
      exact hQ v _ ((s5.trans s6).trans (same_new hv)) ((s5.trans s6).free hv) upd_same
end
end Kg
namespace Kg
open PySem PySem.Spec PyProof.Rows L2
open VamvsBase (word showNat showInt joined)
open Vamvsa (Ask Table Group)
theorem flatMap_le {α : Type} {f : α → By} {k : Nat} : ∀ {l : List α}, (∀ x ∈ l, (f x).length ≤ k) → (l.flatMap f).length ≤ k * l.length
  | [], _ => Nat.zero_le _
  | x :: l, h => by
    have h1 := h x List.mem_cons_self
    have h2 := flatMap_le (l := l) fun y hy => h y (List.mem_cons_of_mem _ hy)
    rw [List.flatMap_cons, List.length_append, List.length_cons, Nat.mul_succ]
    omega
theorem flatMap_snoc {α : Type} {f : α → By} {l : List α} {i : Nat} {x : α} (h : l[i]? = some x) : (l.take (i + 1)).flatMap f = (l.take i).flatMap f ++ f x := by
  rw [List.take_add_one, h, List.flatMap_append]
  show _ ++ (f x ++ []) = _
  rw [List.append_nil]
theorem rowLine_le {r : Vamvsa.Row} {n : Nat} (h : RowOk n r) (n4 : n ≤ 4) : (rowLine r).length ≤ 40 := by
  obtain ⟨q1, q2⟩ := rowParts h n4
  have w1 : (word "row ").length = 4 := rfl
  have w2 : (word " : ").length = 3 := rfl
  have w3 : (word " ;\n").length = 3 := rfl
  unfold rowLine
  simp only [List.length_append, w1, w2, w3]
  omega
theorem askLine_le {us : List By} {q : Ask} (aok : AskOk us.length q) (h16 : ∀ u ∈ us, u.length ≤ 16) (h4 : us.length ≤ 4) : (askLine us q).length ≤ 210 := by
  have lenA : (askedOf us q.g).length ≤ 4 := by
    unfold askedOf
    rw [List.length_map]
    exact Nat.le_trans (cols_len _ _) h4
  have bA := listedM_le fun u hu => h16 u (asked_mem (g := q.g) hu)
  have bk := digits_le (k := 1) (n := q.k) (by have := aok.hi; omega)
  have w1 : (word "ask ").length = 4 := rfl
  have w2 : (word " ").length = 1 := rfl
  have w3 : (word "times ").length = 6 := rfl
  have w4 : (word ";\n").length = 2 := rfl
  have f1le : (askF1 us q.g).length ≤ 100 := by
    unfold askF1
    split
    · rw [w1]; decide
    · rw [List.length_append, List.length_append, w1, w2]; omega
  have f2le : (askF2 q.k).length ≤ 100 := by
    unfold askF2
    split
    · decide
    · rw [List.length_append, List.length_append, w2, w3]; omega
  rw [askLine_parts, List.length_append, List.length_append, w4]
  omega
theorem colsLine_le {us : List By} (h16 : ∀ u ∈ us, u.length ≤ 16) (h4 : us.length ≤ 4) : (colsLine us).length ≤ 100 := by
  have b := listedM_le h16
  have w1 : (word "columns ").length = 8 := rfl
  have w3 : (word " ;\n").length = 3 := rfl
  unfold colsLine
  simp only [List.length_append, w1, w3]
  omega
section
variable {P : Program} {w : World} {K : PySem.W.Frag} {mg : Str → Option Value} {base : Heap} {z : Ads}
abbrev sOneForm : Stmt := topS 55
theorem scOneForm : FnScope ["table", "form", "row", "question"] ["table"] (defScope sOneForm) := ⟨rfl, rfl, rfl, by decide +kernel, rfl, by decide +kernel, by decide +kernel⟩
def spOneForm (z : Ads) : Sp := fun vs H Q _ => ∃ (tb : Addr) (t : Table), vs = [.ref tb] ∧ IsTab z H tb t ∧ TableGood t ∧ ∀ l H', Same H H' → H l = none → H' l = some (.lst (bV (Vamvsa.shown t))) → (Vamvsa.shown t).length ≤ 3000 → Q (.ref l) H'
theorem okOneForm (D : Df K mg "one_form" sOneForm ["table"]) (T : Tx P w K mg base z) (B : TbC K z) (O1 : Ok P w K mg base CX0 3 "columns_line" ["names"] (spColsLine K)) (O2 : Ok P w K mg base CX0 2 "row_line" ["row"] (spRowLine z))
    (O3 : Ok P w K mg base CX0 3 "question_line" ["question", "names"] (spAskLine K z)) : Ok P w K mg base CX0 4 "one_form" ["table"] (spOneForm z) := by
  refine D.ok fun f fd F => F.ok scOneForm (fun vs H Q E h => ?_) (fun cdv A outer s H vs Q E hr h => ?_)
  · obtain ⟨tb, t, rfl, _⟩ := h
    rfl
  obtain ⟨tb, t, rfl, hT, good, hQ⟩ := h
  refine ⟨_, pss_cons (ps_set (i := 1) scOneForm.nd rfl (.inl rfl) (pe_ok O1 hr (by decide) rfl pass0 (pa_cons (pe_fld (pv 0) rfl) pa_nil)))
    <| pss_cons (ps_for PassesOwn.never rfl (pi_list (pe_fld (pv 0) rfl)) (pg_name (i := 2) scOneForm.nd rfl (.inl rfl))
      (pss_one (ps_expr (pe_bm PySem.F.plainAttrs_list PySem.F.slot_list_extend PySem.F.type_list_extend mt_extend (pv 1) (pa_cons (pe_ok O2 hr (by decide) rfl pass0 (pa_cons (pv 2) pa_nil)) pa_nil)))))
    <| pss_cons (ps_for PassesOwn.never rfl (pi_list (pe_fld (pv 0) rfl)) (pg_name (i := 3) scOneForm.nd rfl (.inl rfl))
      (pss_one (ps_expr (pe_bm PySem.F.plainAttrs_list PySem.F.slot_list_extend PySem.F.type_list_extend mt_extend (pv 1) (pa_cons (pe_ok O3 hr (by decide) rfl pass0 (pa_cons (pv 3) (pa_cons (pe_fld (pv 0) rfl) pa_nil))) pa_nil)))))
    <| pss_one (ps_ret (pv 1)), ?_⟩
  obtain ⟨cl, rl, ql, cas, ras, qas, ⟨⟨dx, h1⟩, h2, h3, h5⟩, alc, alr, alq⟩ := id hT
  have h16 := good.ok.nm
  have h4 := good.ok.c4
  have c0 := colsLine_le h16 h4
  have sz := sizeLine_eq
  refine ⟨_, rfl, tb, z.B, dx, _, _, rfl, h1, B.cl, B.no _ (by simp), tabCols, ?_⟩
  refine ⟨cl, cas, t.cols, rfl, SqL.of h2, alc, h16, by omega, fun p0 H1 s1 hp0 p1 => ?_⟩
  refine ⟨_, rfl, tb, z.B, dx, _, _, rfl, s1 _ _ h1, B.cl, B.no _ (by simp), tabRows, rl, rfl, ⟨_, SqL.of (s1 _ _ h3)⟩, for_list (K := K) (a := rl) (xs := rV ras) (fun i σ H' => (∃ v2 v3 : Option V, σ = [some (.ref tb), some (.ref p0), v2, v3]) ∧ Same H H' ∧ H' p0 = some (.lst (bV (colsLine t.cols ++ (t.rows.take i).flatMap rowLine))))
    ⟨⟨none, none, rfl⟩, s1, by rw [List.take_zero, List.flatMap_nil, List.append_nil]; exact p1⟩ (fun i σ H' _ ⟨_, sm, _⟩ => sm.seq (SqL.of h3)) ?_ ?_⟩
  · rintro i v σ H' hi ⟨⟨v2, v3, rfl⟩, sm, hd⟩
    obtain ⟨ra, hra, rfl⟩ := rV_inv hi
    obtain ⟨r, hr1, hln⟩ := alr.at1 hra
    have rok := good.ok.rows r (List.mem_of_getElem? hr1)
    have fl := flatMap_le (f := rowLine) (k := 40) (l := t.rows.take i) fun x hx => rowLine_le (good.ok.rows x (List.mem_of_mem_take hx)) h4
    rw [List.length_take] at fl
    have r16 := good.ok.r16
    have rl40 := rowLine_le rok h4
    refine ⟨_, rfl, .inl ⟨rfl, _, SqL.of hd⟩, _, rfl, ra, r, t.cols.length, rfl, hln.mono sm, rok, h4, fun n H2 s2 hn n2 => ?_⟩
    refine ⟨p0, n, _, _, rfl, rfl, s2 _ _ hd, n2, ?_, ?_⟩
    · rw [bV_len, bV_len, List.length_append, sz]; omega
    rw [← bV_app, List.append_assoc, ← flatMap_snoc hr1]
    exact ⟨⟨_, _, rfl⟩, same_upd (sm.trans s2) hp0, upd_same⟩
  · rintro σ H' ⟨⟨v2, v3, rfl⟩, sm, hd⟩
    rw [rV_len, alr.1, List.take_length] at hd
    have fl := flatMap_le (f := rowLine) (k := 40) (l := t.rows) fun x hx => rowLine_le (good.ok.rows x hx) h4
    have r16 := good.ok.r16
    refine ⟨_, rfl, tb, z.B, dx, _, _, rfl, sm _ _ h1, B.cl, B.no _ (by simp), tabAsks, ql, rfl, ⟨_, SqL.of (sm _ _ h5)⟩, for_list (K := K) (a := ql) (xs := rV qas) (fun i σ H' => (∃ v2 v3 : Option V, σ = [some (.ref tb), some (.ref p0), v2, v3]) ∧ Same H H' ∧ H' p0 = some (.lst (bV ((colsLine t.cols ++ t.rows.flatMap rowLine) ++ (t.asks.take i).flatMap (askLine t.cols)))))
      ⟨⟨_, _, rfl⟩, sm, by rw [List.take_zero, List.flatMap_nil, List.append_nil]; exact hd⟩ (fun i σ H' _ ⟨_, sm, _⟩ => sm.seq (SqL.of h5)) ?_ ?_⟩
    · rintro i v σ H2 hi ⟨⟨v2, v3, rfl⟩, sm2, hd2⟩
      obtain ⟨qa, hqa, rfl⟩ := rV_inv hi
      obtain ⟨q, hq1, hqu⟩ := alq.at1 hqa
      have aok := good.ok.asks q (List.mem_of_getElem? hq1)
      have fa := flatMap_le (f := askLine t.cols) (k := 210) (l := t.asks.take i) fun x hx => askLine_le (good.ok.asks x (List.mem_of_mem_take hx)) h16 h4
      rw [List.length_take] at fa
      have a8 := good.ok.a8
      have al1 := askLine_le aok h16 h4
      refine ⟨_, rfl, .inl ⟨rfl, _, SqL.of hd2⟩, _, rfl, ?_⟩
      refine ⟨_, rfl, tb, z.B, dx, _, _, rfl, sm2 _ _ h1, B.cl, B.no _ (by simp), tabCols, ?_⟩
      refine ⟨qa, cl, cas, t.cols, q, rfl, hqu.mono sm2, aok, SqL.of (sm2 _ _ h2), alc.mono fun _ _ e => sm2 _ _ e, h16, h4, fun n H3 s3 hn n3 => ?_⟩
      refine ⟨p0, n, _, _, rfl, rfl, s3 _ _ hd2, n3, ?_, ?_⟩
      · rw [bV_len, bV_len, List.length_append, List.length_append, sz]; omega
      rw [← bV_app, List.append_assoc (colsLine t.cols ++ t.rows.flatMap rowLine), ← flatMap_snoc hq1]
      exact ⟨⟨_, _, rfl⟩, same_upd (sm2.trans s3) hp0, upd_same⟩
    · rintro σ H2 ⟨⟨v2, v3, rfl⟩, sm2, hd2⟩
      have e : Vamvsa.shown t = (colsLine t.cols ++ t.rows.flatMap rowLine) ++ t.asks.flatMap (askLine t.cols) := by
        rw [shown_eq good.ne fun a ha => (good.ok.asks a ha).g, List.append_assoc]
      have fa := flatMap_le (f := askLine t.cols) (k := 210) (l := t.asks) fun x hx => askLine_le (good.ok.asks x hx) h16 h4
      have a8 := good.ok.a8
      rw [rV_len, alq.1, List.take_length, ← e] at hd2
      refine ⟨_, rfl, hQ p0 H2 sm2 hp0 hd2 ?_⟩
      rw [e, List.length_append, List.length_append]
      omega
end
end Kg
namespace Kg
open PySem PySem.Spec PyProof.Rows L2
open Vamvsa (Ask Table Group)
def iV (l : List Int) : List V := l.map V.int
theorem iV_app (a b : List Int) : iV (a ++ b) = iV a ++ iV b := List.map_append
theorem iV_len (a : List Int) : (iV a).length = a.length := List.length_map ..
theorem iV_nats (l : List Nat) : iV (Vamvsa.nats l) = nV l := by unfold iV Vamvsa.nats nV; rw [List.map_map]; rfl
/-- the groups' answer, as numbers -/
def toldN (gs : List Group) : List Int := (gs.length : Int) :: gs.flatMap Vamvsa.groupRow
theorem toldN_eq (gs : List Group) : VamvsaNeutral.encode (Vamvsa.groupsAnswer gs) = toldN gs := rfl
theorem flatMap_leI {α : Type} {f : α → List Int} {k : Nat} : ∀ {l : List α}, (∀ x ∈ l, (f x).length ≤ k) → (l.flatMap f).length ≤ k * l.length
  | [], _ => Nat.zero_le _
  | x :: l, h => by
    have h1 := h x List.mem_cons_self
    have h2 := flatMap_leI (l := l) fun y hy => h y (List.mem_cons_of_mem _ hy)
    rw [List.flatMap_cons, List.length_append, List.length_cons, Nat.mul_succ]
    omega
section
variable {P : Program} {w : World} {K : PySem.W.Frag} {mg : Str → Option Value} {base : Heap} {z : Ads}
abbrev sTold : Stmt := topS 102
theorem scTold : FnScope ["lines", "out", "line"] ["lines"] (defScope sTold) := ⟨rfl, rfl, rfl, by decide +kernel, rfl, by decide +kernel, by decide +kernel⟩
def spTold (z : Ads) : Sp := fun vs H Q _ => ∃ (a : Addr) (rs : List Addr) (gs : List Group), vs = [.ref a] ∧ H a = some (.lst (rV rs)) ∧ Al (IsLn z H) rs gs ∧ gs.length ≤ 16 ∧ (∀ g ∈ gs, g.key.length ≤ 4) ∧
  ∀ l H', Same H H' → H l = none → H' l = some (.lst (iV (toldN gs))) → Q (.ref l) H'
theorem okTold (D : Df K mg "told" sTold ["lines"]) (T : Tx P w K mg base z) : Ok P w K mg base CX0 1 "told" ["lines"] (spTold z) := by
  refine D.ok fun f fd F => F.ok scTold (fun vs H Q E h => ?_) (fun cdv A outer s H vs Q E hr h => ?_)
  · obtain ⟨a, rs, gs, rfl, _⟩ := h
    rfl
  obtain ⟨a, rs, gs, rfl, hA, al, h16, h4, hQ⟩ := h
  refine ⟨_, pss_cons (ps_set (i := 1) scTold.nd rfl (.inl rfl) (pe_lst (pa_cons (pe_callB cr_len (by rfl) T.blt.len PySem.boot_len (pa_cons (pv 0) pa_nil)) pa_nil)))
    <| pss_cons (ps_for PassesOwn.never rfl (pi_list (pv 0)) (pg_name (i := 2) scTold.nd rfl (.inl rfl))
      (pss_cons (ps_expr (pe_bm PySem.F.plainAttrs_list PySem.F.slot_list_extend PySem.F.type_list_extend mt_extT (pv 1) (pa_cons (pe_fld (pv 2) rfl) pa_nil)))
      <| pss_cons (ps_expr (pe_bm PySem.F.plainAttrs_list PySem.F.slot_list_append PySem.F.type_list_append mt_append (pv 1) (pa_cons (pe_fld (pv 2) rfl) pa_nil)))
      <| pss_one (ps_expr (pe_bm PySem.F.plainAttrs_list PySem.F.slot_list_append PySem.F.type_list_append mt_append (pv 1) (pa_cons (pe_fld (pv 2) rfl) pa_nil)))))
    <| pss_one (ps_ret (pv 1)), ?_⟩
  have sz := sizeLine_eq
  refine ⟨_, rfl, a, _, rfl, .inl (SqL.of hA), by simp [sz], fun D0 hD => ?_⟩
  rw [rV_len, al.1]
  refine ⟨_, rfl, a, rfl, ⟨_, SqL.of (same_new hD _ _ hA)⟩, for_list (K := K) (a := a) (xs := rV rs) (fun i σ H' => (∃ v : Option V, σ = [some (.ref a), some (.ref D0), v]) ∧ Same H H' ∧ H' D0 = some (.lst (iV ((gs.length : Int) :: (gs.take i).flatMap Vamvsa.groupRow))))
    ⟨⟨none, rfl⟩, same_new hD, upd_same⟩ (fun i σ H' _ ⟨_, sm, _⟩ => SqL.of (sm _ _ hA)) ?_ ?_⟩
  · rintro i v σ H' hi ⟨⟨v2, rfl⟩, sm, hd⟩
    obtain ⟨rl, hrl, rfl⟩ := rV_inv hi
    obtain ⟨g, hg, dl, tl, hl1, hl2⟩ := al.at1 hrl
    have k4 := h4 g (List.mem_of_getElem? hg)
    have fl := flatMap_leI (f := Vamvsa.groupRow) (k := 6) (l := gs.take i) fun x hx => by
      have := h4 x (List.mem_of_mem_take hx)
      unfold Vamvsa.groupRow Vamvsa.nats
      rw [List.length_append, List.length_map]
      show _ + 2 ≤ 6
      omega
    rw [List.length_take] at fl
    have step : (gs.take (i + 1)).flatMap Vamvsa.groupRow = (gs.take i).flatMap Vamvsa.groupRow ++ (Vamvsa.nats g.key ++ [g.sum, (g.n : Int)]) := by
      rw [List.take_add_one, hg, List.flatMap_append]
      show _ ++ (Vamvsa.groupRow g ++ []) = _
      rw [List.append_nil]
      rfl
    generalize (gs.take i).flatMap Vamvsa.groupRow = ls at hd fl step
    have lV : (iV ((gs.length : Int) :: ls)).length = ls.length + 1 := by rw [iV_len, List.length_cons]
    refine ⟨_, rfl, .inl ⟨rfl, _, SqL.of hd⟩, _, rfl, rl, z.L, dl, _, _, rfl, sm _ _ hl1, T.lin.cl, T.lin.no _ (by simp), lnNums, ?_⟩
    refine ⟨D0, tl, _, _, rfl, rfl, hd, SqT.of (sm _ _ hl2), ?_, ?_⟩
    · rw [lV, nV_len, sz]; omega
    have s2 : Same H (L2.upd H' D0 (.lst (iV ((gs.length : Int) :: ls) ++ nV g.key))) := same_upd sm hD
    have d2 : (L2.upd H' D0 (.lst (iV ((gs.length : Int) :: ls) ++ nV g.key))) D0 = some (.lst (iV ((gs.length : Int) :: ls) ++ nV g.key)) := upd_same
    generalize (L2.upd H' D0 (.lst (iV ((gs.length : Int) :: ls) ++ nV g.key))) = H2 at s2 d2
    refine ⟨_, rfl, .inl ⟨rfl, _, SqL.of d2⟩, _, rfl, rl, z.L, dl, _, _, rfl, s2 _ _ hl1, T.lin.cl, T.lin.no _ (by simp), lnAm, ?_⟩
    refine ⟨D0, _, _, rfl, rfl, d2, ?_, ?_⟩
    · rw [List.length_append, lV, nV_len, sz]; omega
    have s3 : Same H (L2.upd H2 D0 (.lst (iV ((gs.length : Int) :: ls) ++ nV g.key ++ [.int g.sum]))) := same_upd s2 hD
    have d3 : (L2.upd H2 D0 (.lst (iV ((gs.length : Int) :: ls) ++ nV g.key ++ [.int g.sum]))) D0 = some (.lst (iV ((gs.length : Int) :: ls) ++ nV g.key ++ [.int g.sum])) := upd_same
    generalize (L2.upd H2 D0 (.lst (iV ((gs.length : Int) :: ls) ++ nV g.key ++ [.int g.sum]))) = H3 at s3 d3
    refine ⟨_, rfl, .inl ⟨rfl, _, SqL.of d3⟩, _, rfl, rl, z.L, dl, _, _, rfl, s3 _ _ hl1, T.lin.cl, T.lin.no _ (by simp), lnCo, ?_⟩
    refine ⟨D0, _, _, rfl, rfl, d3, ?_, ?_⟩
    · rw [List.length_append, List.length_append, lV, nV_len, sz]; show _ + _ + 1 < _; omega
    refine ⟨⟨_, rfl⟩, same_upd s3 hD, ?_⟩
    rw [upd_same, step]
    have e : iV ((gs.length : Int) :: (ls ++ (Vamvsa.nats g.key ++ [g.sum, (g.n : Int)]))) = iV ((gs.length : Int) :: ls) ++ nV g.key ++ [.int g.sum] ++ [.int (g.n : Int)] := by
      rw [← iV_nats]
      show iV (((gs.length : Int) :: ls) ++ (Vamvsa.nats g.key ++ [g.sum, (g.n : Int)])) = _
      rw [iV_app, iV_app]
      simp only [List.append_assoc]
      rfl
    rw [e]
  · rintro σ H' ⟨⟨v2, rfl⟩, sm, hd⟩
    rw [rV_len, al.1, List.take_length] at hd
    exact ⟨_, rfl, hQ D0 H' sm hD hd⟩
end
end Kg
namespace Kg
open PySem PySem.Spec PyProof.Rows L2 LamX
open Vamvsa (Ask Table Group)
theorem holTab {a b : V} : List.lookup ("table" : Str) (fsHol a b) = some a := lk_here
theorem holKept {a b : V} : List.lookup ("kept" : Str) (fsHol a b) = some b := (lk_past (by decide +kernel)).trans lk_here
/-- the class of holders -/
structure HlC (K : PySem.W.Frag) (z : Ads) : Prop where
  cl : Cls K z.H
  no : ∀ n ∈ (["table", "kept"] : List Str), NoAttr K z.H n
def HolAt (z : Ads) (H : Hp) (h : Addr) (tV : V) (kd : Addr) : Prop := ∃ dx, H h = some (.ins z.H dx (fsHol tV (.ref kd)))
/-- what is held -/
structure Hold (z : Ads) (H : Hp) (h : Addr) (o : Vamvsa.Held) (tb kd : Addr) (ks : List Nat) : Prop where
  at_ : HolAt z H h (.ref tb) kd
  tab : IsTab z H tb o.t
  good : TableGood o.t
  kept : IsKept z H kd o.t ks
  kas : KeptAs o.t ks o.k
  few : ks.length ≤ 2000
def IsHol (z : Ads) (H : Hp) (h : Addr) : Vamvsa.Obj → Prop
  | none => ∃ kd, HolAt z H h .non kd
  | some o => ∃ tb kd ks, Hold z H h o tb kd ks
theorem HolAt.ext {z : Ads} {H H' : Hp} {h : Addr} {tV : V} {kd : Addr} (s : ExtN H H') (e : HolAt z H h tV kd) : HolAt z H' h tV kd := by
  obtain ⟨dx, e⟩ := e
  exact ⟨dx, s _ _ e (fun _ z => by cases z)⟩
theorem Hold.ext {z : Ads} {H H' : Hp} {h : Addr} {o : Vamvsa.Held} {tb kd : Addr} {ks : List Nat} (s : ExtN H H') (e : Hold z H h o tb kd ks) : Hold z H' h o tb kd ks :=
  ⟨e.at_.ext s, e.tab.ext s, e.good, e.kept.ext s, e.kas, e.few⟩
theorem IsHol.ext {z : Ads} {H H' : Hp} {h : Addr} (s : ExtN H H') : ∀ {o : Vamvsa.Obj}, IsHol z H h o → IsHol z H' h o
  | none, ⟨kd, e⟩ => ⟨kd, e.ext s⟩
  | some o, ⟨tb, kd, ks, e⟩ => ⟨tb, kd, ks, e.ext s⟩
/-- all but the holder and the tables of code objects stay -/
def Gr (h : Addr) (H H' : Hp) : Prop := ∀ b o, b ≠ h → H b = some o → (∀ ps, o ≠ .tbl ps) → H' b = some o
theorem Gr.refl (h : Addr) (H : Hp) : Gr h H H := fun _ _ _ e _ => e
theorem Gr.trans {h : Addr} {H H1 H2 : Hp} (a : Gr h H H1) (b : Gr h H1 H2) : Gr h H H2 := fun c o n e x => b c o n (a c o n e x) x
theorem Gr.of {h : Addr} {H H' : Hp} (e : ExtN H H') : Gr h H H' := fun b o _ q n => e b o q n
/-- no list stands at l -/
def NoL (H : Hp) (l : Addr) : Prop := ∀ xs, H l ≠ some (.lst xs)
theorem NoL.ext {H H1 : Hp} {l : Addr} (e : ExtN H H1) (h : H1 l = none) : NoL H l := fun xs q => by
  have z := e _ _ q (fun _ z => by cases z)
  rw [h] at z
  cases z
theorem NoL.gr {H H1 : Hp} {h l C dx : Addr} {fs : List (Str × V)} (e : Gr h H H1) (hh : H h = some (.ins C dx fs)) (n : H1 l = none) : NoL H l := fun xs q => by
  have z := e _ _ (ne_of q hh (by intro z; cases z)) q (fun _ z => by cases z)
  rw [n] at z
  cases z
/-- a call's promise -/
def spDeed (z : Ads) (Tb : Addr) (p : Int) : Sp := fun vs H Q _ => ∃ (h na : Addr) (o : Vamvsa.Obj) (ns : List Int), vs = [.ref h, .ref na] ∧ IsHol z H h o ∧ (o = none → p = 0) ∧ H na = some (.lst (iV ns)) ∧ Ask1 p ns ∧ (¬ hasList p → ns.length = plainN p) ∧ TabS H Tb lamQ ∧
  ∀ l H', Gr h H H' → IsHol z H' h (nxt o p ns) → TabS H' Tb lamQ → NoL H l → H' l = some (.lst (iV (ans o p ns))) → Q (.ref l) H'
theorem looked_of {o : Vamvsa.Held} {p : Int} {ns : List Int} {k : Vamvsa.Call} (e : VamvsaNeutral.callOf (callW p ns) = some k) (h1 : ∀ b, k ≠ .load b) (h2 : ∀ l, k ≠ .keep l) : ans (some o) p ns = VamvsaNeutral.encode (Vamvsa.looked o k) ∧ nxt (some o) p ns = some o := by
  unfold ans nxt
  rw [step_of e]
  cases k <;> first | exact absurd rfl (h1 _) | exact absurd rfl (h2 _) | exact ⟨rfl, rfl⟩
theorem len1 {l : List Int} (h : l.length = 1) : ∃ a, l = [a] := by
  match l, h with
  | [a], _ => exact ⟨a, rfl⟩
theorem len2 {l : List Int} (h : l.length = 2) : ∃ a b, l = [a, b] := by
  match l, h with
  | [a, b], _ => exact ⟨a, b, rfl⟩
theorem isG_index (t : Table) (g : Int) : (isG t g = true ∧ ∃ n : Nat, g = (n : Int) ∧ n < 2 ^ t.cols.length ∧ VamvsBase.index g (2 ^ Vamvsa.width t) = some n) ∨ (isG t g = false ∧ VamvsBase.index g (2 ^ Vamvsa.width t) = none) := by
  unfold isG VamvsBase.index
  by_cases c : 0 ≤ g ∧ g < ((2 ^ t.cols.length : Nat) : Int)
  · refine .inl ⟨decide_eq_true c, g.toNat, by omega, by omega, if_pos c⟩
  · refine .inr ⟨decide_eq_false c, if_neg c⟩
section
variable {P : Program} {w : World} {K : PySem.W.Frag} {mg : Str → Option Value} {base : Heap} {z : Ads} {Tb : Addr}
abbrev sShown : Stmt := topS 84
theorem scShown : FnScope ["holder", "numbers", "form"] ["holder", "numbers"] (defScope sShown) := ⟨rfl, rfl, rfl, by decide +kernel, rfl, by decide +kernel, by decide +kernel⟩
theorem okShown (D : Df K mg "shown" sShown ["holder", "numbers"]) (T : Tx P w K mg base z) (C : HlC K z) (O1 : Ok P w K mg base CX0 4 "one_form" ["table"] (spOneForm z)) : Ok P w K mg base CX0 5 "shown" ["holder", "numbers"] (spDeed z Tb 1) := by
  refine D.ok fun f fd F => F.ok scShown (fun vs H Q E h => ?_) (fun cdv A outer s H vs Q E hr h => ?_)
  · obtain ⟨h, na, o, ns, rfl, _⟩ := h
    rfl
  obtain ⟨h, na, o, ns, rfl, hol, hn, hna, ak, hl, hTb, hQ⟩ := h
  obtain _ | o := o
  · exact absurd (hn rfl) (by decide)
  obtain ⟨tb, kd, ks, ho⟩ := hol
  have h0 := hl (by decide)
  obtain rfl : ns = [] := List.eq_nil_of_length_eq_zero h0
  obtain ⟨ea, en⟩ := looked_of (o := o) (p := 1) (ns := []) (k := .shown) rfl (fun _ z => by cases z) (fun _ z => by cases z)
  rw [ea, en] at hQ
  refine ⟨_, pss_cons (ps_set (i := 2) scShown.nd rfl (.inl rfl) (pe_ok O1 hr (by decide) rfl pass0 (pa_cons (pe_fld (pv 0) rfl) pa_nil)))
    <| pss_one (ps_ret (pe_op op_cat (pe_lst (pa_cons (pe_callB cr_len (by rfl) T.blt.len PySem.boot_len (pa_cons (pv 2) pa_nil)) pa_nil)) (pv 2))), ?_⟩
  obtain ⟨dx, h1⟩ := ho.at_
  have sz := sizeLine_eq
  refine ⟨_, rfl, h, z.H, dx, _, _, rfl, h1, C.cl, C.no _ (by simp), holTab, ?_⟩
  refine ⟨tb, o.t, rfl, ho.tab, ho.good, fun l H1 s1 nl l1 hz => ?_⟩
  refine ⟨_, rfl, l, _, rfl, .inl (SqL.of l1), by simp [sz], fun m hm => ?_⟩
  rw [bV_len]
  have s2 := same_new (o := HO.lst [.int ((Vamvsa.shown o.t).length : Int)]) hm
  have m2 : (L2.upd H1 m (.lst [.int ((Vamvsa.shown o.t).length : Int)])) m = some (.lst [.int ((Vamvsa.shown o.t).length : Int)]) := upd_same
  generalize (L2.upd H1 m (.lst [.int ((Vamvsa.shown o.t).length : Int)])) = H2 at s2 m2
  refine ⟨_, rfl, m, l, _, _, rfl, rfl, m2, s2 _ _ l1, ?_, fun n hn => ?_⟩
  · rw [bV_len, sz]; show 1 + _ ≤ _; omega
  have s3 := (s1.trans s2).trans (same_new (o := HO.lst ([V.int ((Vamvsa.shown o.t).length : Int)] ++ bV (Vamvsa.shown o.t))) hn)
  refine hQ n _ (Gr.of (ExtN.of s3)) ⟨tb, kd, ks, ho.ext (ExtN.of s3)⟩ (hTb.ext s3) (NoL.ext (ExtN.of (s1.trans s2)) hn) ?_
  rw [upd_same]
  show some (HO.lst (V.int ((Vamvsa.shown o.t).length : Int) :: bV (Vamvsa.shown o.t))) = some (HO.lst (iV (((Vamvsa.shown o.t).length : Int) :: (Vamvsa.shown o.t).map fun c => (c.toNat : Int))))
  unfold iV bV
  rw [List.map_cons, List.map_map]
  rfl
/-- a list of one number is given back -/
theorem one_back {h : Addr} {o : Vamvsa.Obj} {H H1 : Hp} {i : Int} {Q : VK} {z : Ads} (hol : IsHol z H h o) (hTb : TabS H Tb lamQ) (e1 : ExtN H H1) (t1 : TabS H1 Tb lamQ)
    (hQ : ∀ l H', Gr h H H' → IsHol z H' h o → TabS H' Tb lamQ → NoL H l → H' l = some (.lst (iV [i])) → Q (.ref l) H') : ∀ l, H1 l = none → Q (.ref l) (L2.upd H1 l (.lst [.int i])) := fun l hl => by
  have s := same_new (o := HO.lst [V.int i]) hl
  exact hQ l _ (Gr.of (e1.trans (ExtN.of s))) (hol.ext (e1.trans (ExtN.of s))) (t1.ext s) (NoL.ext e1 hl) upd_same
abbrev sGroup : Stmt := topS 85
theorem scGroup : FnScope ["holder", "numbers", "grouping"] ["holder", "numbers"] (defScope sGroup) := ⟨rfl, rfl, rfl, by decide +kernel, rfl, by decide +kernel, by decide +kernel⟩
theorem keys4 {t : Table} (T : TableOk t) {g : Nat} {gs : List Group} (h : ∀ x ∈ gs, LineOk (Vamvsa.columnsOf t.cols.length g).length x) : ∀ x ∈ gs, x.key.length ≤ 4 := fun x hx => by
  rw [(h x hx).1]
  exact Nat.le_trans (cols_len _ _) T.c4
theorem okGroup (D : Df K mg "group" sGroup ["holder", "numbers"]) (T : Tx P w K mg base z) (C : HlC K z) (O1 : Ok P w K mg base CX0 2 "is_grouping" ["table", "grouping"] (spIsGrouping z)) (O2 : Ok P w K mg base CX0 4 "lines_from_table" ["table", "grouping"] (spFromTable z))
    (O3 : Ok P w K mg base CX0 1 "told" ["lines"] (spTold z)) : Ok P w K mg base CX0 5 "group" ["holder", "numbers"] (spDeed z Tb 2) := by
  refine D.ok fun f fd F => F.ok scGroup (fun vs H Q E h => ?_) (fun cdv A outer s H vs Q E hr h => ?_)
  · obtain ⟨h, na, o, ns, rfl, _⟩ := h
    rfl
  obtain ⟨h, na, o, ns, rfl, hol, hn, hna, ak, hl, hTb, hQ⟩ := h
  obtain _ | o := o
  · exact absurd (hn rfl) (by decide)
  obtain ⟨tb, kd, ks, ho⟩ := id hol
  obtain ⟨g, rfl⟩ := len1 (hl (by decide))
  obtain ⟨ea, en⟩ := looked_of (o := o) (p := 2) (ns := [g]) (k := .group g) rfl (fun _ z => by cases z) (fun _ z => by cases z)
  rw [ea, en] at hQ
  refine ⟨_, pss_cons (ps_set (i := 2) scGroup.nd rfl (.inl rfl) (pe_ix ix_list (pv 1) pe_int (fun _ _ => rfl)))
    <| pss_cons (ps_if (pt_not (pt_val (pe_ok O1 hr (by decide) rfl pass0 (pa_cons (pe_fld (pv 0) rfl) (pa_cons (pv 2) pa_nil))))) (pss_one (ps_ret (pe_lst (pa_cons (pe_gi T.cst.NO_GROUPING rfl) pa_nil)))) pss_nil)
    <| pss_one (ps_ret (pe_ok O3 hr (by decide) rfl pass0 (pa_cons (pe_ok O2 hr (by decide) rfl pass0 (pa_cons (pe_fld (pv 0) rfl) (pa_cons (pv 2) pa_nil))) pa_nil))), ?_⟩
  obtain ⟨dx, h1⟩ := ho.at_
  have sz := sizeLine_eq
  refine ⟨_, rfl, na, _, 0, _, rfl, rfl, SqL.of hna, at_of rfl rfl, ?_⟩
  refine ⟨_, rfl, h, z.H, dx, _, _, rfl, h1, C.cl, C.no _ (by simp), holTab, _, rfl, tb, o.t, g, rfl, ho.tab, ho.good.ok.c4, _, rfl, ?_⟩
  rcases isG_index o.t g with ⟨e1, n, rfl, hn2, e2⟩ | ⟨e1, e2⟩
  · have el : Vamvsa.looked o (.group (n : Int)) = Vamvsa.groupsAnswer (Vamvsa.groupsOf o.t n) := by
      show Vamvsa.withGrouping o _ _ = _
      unfold Vamvsa.withGrouping
      rw [e2]
    rw [el, toldN_eq] at hQ
    rw [e1]
    refine ite2 (fun h => absurd h (by decide)) fun _ => ?_
    refine ⟨_, rfl, h, z.H, dx, _, _, rfl, h1, C.cl, C.no _ (by simp), holTab, _, rfl, tb, o.t, n, rfl, ho.tab, ho.good, fun l ts H1 s1 nl l1 al => ?_⟩
    refine ⟨l, ts, _, rfl, l1, al, groupsOf_le ho.good.ok n, keys4 ho.good.ok (groupsOf_ok ho.good.ok n), fun m H2 s2 nm m2 => ?_⟩
    have s12 := s1.trans s2
    exact hQ m H2 (Gr.of (ExtN.of s12)) (hol.ext (ExtN.of s12)) (hTb.ext s12) (NoL.ext (ExtN.of s1) nm) m2
  · have el : Vamvsa.looked o (.group g) = VamvsBase.one (-2) := by
      show Vamvsa.withGrouping o _ _ = _
      unfold Vamvsa.withGrouping
      rw [e2]
    rw [el] at hQ
    rw [e1]
    refine ite2 (fun _ => ?_) fun h => absurd rfl h
    exact ⟨by simp [sz], one_back hol hTb (ExtN.refl H) hTb hQ⟩
end
end Kg
namespace Kg
open PySem PySem.Spec PyProof.Rows L2 LamX
open Vamvsa (Ask Table Group)
theorem rolled_le {t : Table} (T : TableOk t) {s g : Nat} (hc : Vamvsa.canFrom t.cols.length s g = true) : (Vamvsa.rolled t.cols.length s g (Vamvsa.groupsOf t s)).length ≤ 16 ∧ ∀ x ∈ Vamvsa.rolled t.cols.length s g (Vamvsa.groupsOf t s), x.key.length ≤ 4 := by
  rw [rolled_merge]
  have hok := merge_ok (ps := rollPs t.cols.length s g) (groupsOf_ok T s)
  refine ⟨Nat.le_trans merge_le (groupsOf_le T s), fun x hx => ?_⟩
  rw [(hok x hx).1]
  unfold rollPs
  rw [List.length_map]
  exact Nat.le_trans (cols_len _ _) T.c4
section
variable {P : Program} {w : World} {K : PySem.W.Frag} {mg : Str → Option Value} {base : Heap} {z : Ads} {Tb : Addr}
abbrev sRoll : Stmt := topS 86
theorem scRoll : FnScope ["holder", "numbers", "source", "grouping", "lines"] ["holder", "numbers"] (defScope sRoll) := ⟨rfl, rfl, rfl, by decide +kernel, rfl, by decide +kernel, by decide +kernel⟩
theorem okRoll (D : Df K mg "roll" sRoll ["holder", "numbers"]) (T : Tx P w K mg base z) (C : HlC K z) (O1 : Ok P w K mg base CX0 2 "is_grouping" ["table", "grouping"] (spIsGrouping z)) (O2 : Ok P w K mg base CX0 4 "lines_from_table" ["table", "grouping"] (spFromTable z))
    (O3 : Ok P w K mg base CX0 1 "told" ["lines"] (spTold z)) (O4 : Ok P w K mg base CX0 1 "can_be_worked_out" ["grouping", "source"] spCanBe) (O5 : Ok P w K mg base CX0 4 "lines_from_answer" ["table", "lines", "source", "grouping"] (spFromAnswer K z)) :
    Ok P w K mg base CX0 5 "roll" ["holder", "numbers"] (spDeed z Tb 3) := by
  refine D.ok fun f fd F => F.ok scRoll (fun vs H Q E h => ?_) (fun cdv A outer s H vs Q E hr h => ?_)
  · obtain ⟨h, na, o, ns, rfl, _⟩ := h
    rfl
  obtain ⟨h, na, o, ns, rfl, hol, hn, hna, ak, hl, hTb, hQ⟩ := h
  obtain _ | o := o
  · exact absurd (hn rfl) (by decide)
  obtain ⟨tb, kd, ks, ho⟩ := id hol
  obtain ⟨u, g, rfl⟩ := len2 (hl (by decide))
  obtain ⟨ea, en⟩ := looked_of (o := o) (p := 3) (ns := [u, g]) (k := .roll u g) rfl (fun _ z => by cases z) (fun _ z => by cases z)
  rw [ea, en] at hQ
  refine ⟨_, pss_cons (ps_set (i := 2) scRoll.nd rfl (.inl rfl) (pe_ix ix_list (pv 1) pe_int (fun _ _ => rfl)))
    <| pss_cons (ps_set (i := 3) scRoll.nd rfl (.inl rfl) (pe_ix ix_list (pv 1) pe_int (fun _ _ => rfl)))
    <| pss_cons (ps_if (PW.pt (pw_or (pt_not (pt_val (pe_ok O1 hr (by decide) rfl pass0 (pa_cons (pe_fld (pv 0) rfl) (pa_cons (pv 2) pa_nil))))) (pw_or1 (pt_not (pt_val (pe_ok O1 hr (by decide) rfl pass0 (pa_cons (pe_fld (pv 0) rfl) (pa_cons (pv 3) pa_nil))))))))
      (pss_one (ps_ret (pe_lst (pa_cons (pe_gi T.cst.NO_GROUPING rfl) pa_nil)))) pss_nil)
    <| pss_cons (ps_if (pt_not (pt_val (pe_ok O4 hr (by decide) rfl pass0 (pa_cons (pv 3) (pa_cons (pv 2) pa_nil))))) (pss_one (ps_ret (pe_lst (pa_cons (pe_gi T.cst.NOT_WORKED_OUT rfl) pa_nil)))) pss_nil)
    <| pss_cons (ps_set (i := 4) scRoll.nd rfl (.inl rfl) (pe_ok O2 hr (by decide) rfl pass0 (pa_cons (pe_fld (pv 0) rfl) (pa_cons (pv 2) pa_nil))))
    <| pss_one (ps_ret (pe_ok O3 hr (by decide) rfl pass0 (pa_cons (pe_ok O5 hr (by decide) rfl pass0 (pa_cons (pe_fld (pv 0) rfl) (pa_cons (pv 4) (pa_cons (pv 2) (pa_cons (pv 3) pa_nil))))) pa_nil))), ?_⟩
  obtain ⟨dx, h1⟩ := ho.at_
  have sz := sizeLine_eq
  refine ⟨_, rfl, na, _, 0, _, rfl, rfl, SqL.of hna, at_of rfl rfl, ?_⟩
  refine ⟨_, rfl, na, _, 1, _, rfl, rfl, SqL.of hna, at_of (j := 1) rfl rfl, ?_⟩
  have eL : Vamvsa.looked o (.roll u g) = Vamvsa.withGrouping o u fun x => Vamvsa.withGrouping o g fun y => if Vamvsa.canFrom (Vamvsa.width o.t) x y = false then VamvsBase.one (-5) else Vamvsa.groupsAnswer (Vamvsa.rolled (Vamvsa.width o.t) x y (Vamvsa.groupsOf o.t x)) := rfl
  refine ⟨_, rfl, h, z.H, dx, _, _, rfl, h1, C.cl, C.no _ (by simp), holTab, _, rfl, tb, o.t, u, rfl, ho.tab, ho.good.ok.c4, _, rfl, ?_⟩
  rcases isG_index o.t u with ⟨e1, n, rfl, hn2, e2⟩ | ⟨e1, e2⟩
  · rw [e1]
    refine ite2 (fun h => absurd h (by decide)) fun _ => ?_
    refine ⟨_, rfl, h, z.H, dx, _, _, rfl, h1, C.cl, C.no _ (by simp), holTab, _, rfl, tb, o.t, g, rfl, ho.tab, ho.good.ok.c4, _, rfl, ?_⟩
    rcases isG_index o.t g with ⟨e3, m, rfl, hm2, e4⟩ | ⟨e3, e4⟩
    · rw [e3]
      refine ite2 (fun h => absurd h (by decide)) fun _ => ?_
      refine ⟨_, rfl, _, rfl, m, n, rfl, _, rfl, ?_⟩
      have ec : Vamvsa.canFrom (Vamvsa.width o.t) n m = decide (m &&& n = m) := canFrom_bits hm2
      by_cases c : m &&& n = m
      · rw [decide_eq_true c] at ec ⊢
        have el : Vamvsa.looked o (.roll (n : Int) (m : Int)) = Vamvsa.groupsAnswer (Vamvsa.rolled (Vamvsa.width o.t) n m (Vamvsa.groupsOf o.t n)) := by
          rw [eL]
          unfold Vamvsa.withGrouping
          rw [e2, e4]
          show (if Vamvsa.canFrom (Vamvsa.width o.t) n m = false then _ else _) = _
          rw [ec, if_neg (by decide)]
        rw [el, toldN_eq] at hQ
        refine ite2 (fun h => absurd h (by decide)) fun _ => ?_
        refine ⟨_, rfl, h, z.H, dx, _, _, rfl, h1, C.cl, C.no _ (by simp), holTab, _, rfl, tb, o.t, n, rfl, ho.tab, ho.good, fun l ts H1 s1 nl l1 al => ?_⟩
        refine ⟨_, rfl, h, z.H, dx, _, _, rfl, s1 _ _ h1, C.cl, C.no _ (by simp), holTab, _, rfl, _, rfl, _, rfl, tb, l, o.t, n, m, ts, _, rfl, ho.tab.mono s1, ho.good, SqL.of l1, al, groupsOf_ok ho.good.ok n, groupsOf_le ho.good.ok n, ec, fun l2 ts2 H2 s2 nl2 l22 al2 => ?_⟩
        obtain ⟨r1, r2⟩ := rolled_le ho.good.ok ec
        refine ⟨l2, ts2, _, rfl, l22, al2, r1, r2, fun m H3 s3 nm m3 => ?_⟩
        have s13 := (s1.trans s2).trans s3
        exact hQ m H3 (Gr.of (ExtN.of s13)) (hol.ext (ExtN.of s13)) (hTb.ext s13) (NoL.ext (ExtN.of (s1.trans s2)) nm) m3
      · rw [decide_eq_false c] at ec ⊢
        have el : Vamvsa.looked o (.roll (n : Int) (m : Int)) = VamvsBase.one (-5) := by
          rw [eL]
          unfold Vamvsa.withGrouping
          rw [e2, e4]
          show (if Vamvsa.canFrom (Vamvsa.width o.t) n m = false then _ else _) = _
          rw [ec, if_pos rfl]
        rw [el] at hQ
        refine ite2 (fun _ => ?_) fun h => absurd rfl h
        exact ⟨by simp [sz], one_back hol hTb (ExtN.refl H) hTb hQ⟩
    · rw [e3]
      have el : Vamvsa.looked o (.roll (n : Int) g) = VamvsBase.one (-2) := by
        rw [eL]
        unfold Vamvsa.withGrouping
        rw [e2, e4]
      rw [el] at hQ
      refine ite2 (fun _ => ?_) fun h => absurd rfl h
      exact ⟨by simp [sz], one_back hol hTb (ExtN.refl H) hTb hQ⟩
  · rw [e1]
    have el : Vamvsa.looked o (.roll u g) = VamvsBase.one (-2) := by
      rw [eL]
      unfold Vamvsa.withGrouping
      rw [e2]
    rw [el] at hQ
    refine ite2 (fun _ => ?_) fun h => absurd rfl h
    refine ite2 (fun _ => ?_) fun h => absurd rfl h
    exact ⟨by simp [sz], one_back hol hTb (ExtN.refl H) hTb hQ⟩
abbrev sSizes : Stmt := topS 87
theorem scSizes : FnScope ["holder", "numbers"] ["holder", "numbers"] (defScope sSizes) := ⟨rfl, rfl, rfl, by decide +kernel, rfl, by decide +kernel, by decide +kernel⟩
theorem okSizes (D : Df K mg "sizes" sSizes ["holder", "numbers"]) (T : Tx P w K mg base z) (B : TbC K z) (C : HlC K z) (O1 : Ok P w K mg base CX0 5 "sizes_of_all" ["table"] (spSizesOfAll z)) : Ok P w K mg base CX0 6 "sizes" ["holder", "numbers"] (spDeed z Tb 4) := by
  refine D.ok fun f fd F => F.ok scSizes (fun vs H Q E h => ?_) (fun cdv A outer s H vs Q E hr h => ?_)
  · obtain ⟨h, na, o, ns, rfl, _⟩ := h
    rfl
  obtain ⟨h, na, o, ns, rfl, hol, hn, hna, ak, hl, hTb, hQ⟩ := h
  obtain _ | o := o
  · exact absurd (hn rfl) (by decide)
  obtain ⟨tb, kd, ks, ho⟩ := id hol
  obtain rfl : ns = [] := List.eq_nil_of_length_eq_zero (hl (by decide))
  obtain ⟨ea, en⟩ := looked_of (o := o) (p := 4) (ns := []) (k := .sizes) rfl (fun _ z => by cases z) (fun _ z => by cases z)
  rw [ea, en] at hQ
  refine ⟨_, pss_one (ps_ret (pe_op op_cat (pe_lst (pa_cons (pe_callB cr_len (by rfl) T.blt.len PySem.boot_len (pa_cons (pe_fld (pe_fld (pv 0) rfl) rfl) pa_nil)) pa_nil)) (pe_ok O1 hr (by decide) rfl pass0 (pa_cons (pe_fld (pv 0) rfl) pa_nil)))), ?_⟩
  obtain ⟨dx, h1⟩ := ho.at_
  obtain ⟨cl, rl, ql, cas, ras, qas, ⟨⟨dt, t1⟩, t2, t3, t5⟩, alc, alr, alq⟩ := id ho.tab
  have sz := sizeLine_eq
  refine ⟨_, rfl, h, z.H, dx, _, _, rfl, h1, C.cl, C.no _ (by simp), holTab, ?_⟩
  refine ⟨tb, z.B, dt, _, _, rfl, t1, B.cl, B.no _ (by simp), tabRows, rl, _, rfl, .inl (SqL.of t3), by simp [sz], fun m hm => ?_⟩
  rw [rV_len, alr.1]
  have s1 := same_new (o := HO.lst [.int (o.t.rows.length : Int)]) hm
  have m1 : (L2.upd H m (.lst [.int (o.t.rows.length : Int)])) m = some (.lst [.int (o.t.rows.length : Int)]) := upd_same
  generalize (L2.upd H m (.lst [.int (o.t.rows.length : Int)])) = H1 at s1 m1
  refine ⟨_, rfl, h, z.H, dx, _, _, rfl, s1 _ _ h1, C.cl, C.no _ (by simp), holTab, ?_⟩
  refine ⟨tb, o.t, rfl, ho.tab.mono s1, ho.good, fun l H2 s2 nl l2 => ?_⟩
  have p16 := pow16 ho.good.ok.c4
  have lg : (Vamvsa.groupings o.t).length ≤ 16 := by
    unfold Vamvsa.groupings
    rw [List.length_range]
    exact p16
  refine ⟨m, l, _, _, rfl, rfl, s2 _ _ m1, l2, ?_, fun n hn => ?_⟩
  · rw [nV_len, List.length_map, sz]; show 1 + _ ≤ _; omega
  have s3 := (s1.trans s2).trans (same_new (o := HO.lst ([V.int (o.t.rows.length : Int)] ++ nV ((Vamvsa.groupings o.t).map (Vamvsa.sizeOf_ o.t)))) hn)
  refine hQ n _ (Gr.of (ExtN.of s3)) (hol.ext (ExtN.of s3)) (hTb.ext s3) (NoL.ext (ExtN.of (s1.trans s2)) hn) ?_
  rw [upd_same, ← iV_nats]
  rfl
end
end Kg
namespace Kg
open PySem PySem.Spec PyProof.Rows L2 LamX
open Vamvsa (Ask Table Group)
theorem KeptAs.len16 {t : Table} {ks k : List Nat} (T : TableOk t) (h : KeptAs t ks k) : ks.length ≤ 16 := by
  rw [h.perm.length_eq]
  unfold Vamvsa.sortedKept
  refine Nat.le_trans (List.length_filter_le _ _) ?_
  unfold Vamvsa.groupings
  rw [List.length_range]
  exact pow16 T.c4
theorem answerOf_ok {t : Table} (T : TableOk t) {k : List Nat} {g : Nat} : (Vamvsa.answerOf t k g).length ≤ 16 ∧ ∀ x ∈ Vamvsa.answerOf t k g, x.key.length ≤ 4 := by
  have hb := reader_best t k g
  unfold Vamvsa.answerOf
  cases e : Vamvsa.reader t k g with
  | none => exact ⟨groupsOf_le T g, keys4 T (groupsOf_ok T g)⟩
  | some v =>
    rw [e] at hb
    exact rolled_le T hb.2.1
/-- a number that tells a question -/
def isQ (t : Table) (q : Int) : Bool := decide (0 ≤ q ∧ q < (t.asks.length : Int))
theorem isQ_index (t : Table) (q : Int) : (isQ t q = true ∧ ∃ (n : Nat) (a : Ask), q = (n : Int) ∧ t.asks[n]? = some a ∧ ((VamvsBase.index q t.asks.length).bind fun i => t.asks[i]?) = some a) ∨ (isQ t q = false ∧ ((VamvsBase.index q t.asks.length).bind fun i => t.asks[i]?) = none) := by
  unfold isQ VamvsBase.index
  by_cases c : 0 ≤ q ∧ q < (t.asks.length : Int)
  · have hl : q.toNat < t.asks.length := by omega
    refine .inl ⟨decide_eq_true c, q.toNat, t.asks[q.toNat], by omega, List.getElem?_eq_getElem hl, ?_⟩
    rw [if_pos c]
    exact List.getElem?_eq_getElem hl
  · refine .inr ⟨decide_eq_false c, ?_⟩
    rw [if_neg c]
    rfl
section
variable {P : Program} {w : World} {K : PySem.W.Frag} {mg : Str → Option Value} {base : Heap} {z : Ads} {Tb : Addr}
abbrev sIsQuestion : Stmt := topS 101
theorem scIsQuestion : FnScope ["table", "number"] ["table", "number"] (defScope sIsQuestion) := ⟨rfl, rfl, rfl, by decide +kernel, rfl, by decide +kernel, by decide +kernel⟩
def spIsQuestion (z : Ads) : Sp := fun vs H Q _ => ∃ (tb : Addr) (t : Table) (q : Int), vs = [.ref tb, .int q] ∧ IsTab z H tb t ∧ Q (.bl (isQ t q)) H
theorem okIsQuestion (D : Df K mg "is_question" sIsQuestion ["table", "number"]) (T : Tx P w K mg base z) (B : TbC K z) : Ok P w K mg base CX0 1 "is_question" ["table", "number"] (spIsQuestion z) := by
  refine D.ok fun f fd F => F.ok scIsQuestion (fun vs H Q E h => ?_) (fun cdv A outer s H vs Q E hr h => ?_)
  · obtain ⟨tb, t, q, rfl, _⟩ := h
    rfl
  obtain ⟨tb, t, q, rfl, hT, hQ⟩ := h
  obtain ⟨cl, rl, ql, cas, ras, qas, ⟨⟨dt, t1⟩, t2, t3, t5⟩, alc, alr, alq⟩ := id hT
  refine ⟨_, pss_one (ps_ret (pe_chain op_le op_lt pe_int (pv 1) (pe_callB cr_len (by rfl) T.blt.len PySem.boot_len (pa_cons (pe_fld (pv 0) rfl) pa_nil)))), ?_⟩
  refine ⟨_, rfl, _, _, rfl, rfl, _, rfl, ite2 (fun h1 => ?_) fun h1 => ?_⟩
  · have h1 := of_decide_eq_true h1
    refine ⟨_, rfl, tb, z.B, dt, _, _, rfl, t1, B.cl, B.no _ (by simp), tabAsks, ql, _, rfl, .inl (SqL.of t5), _, _, rfl, rfl, ?_⟩
    rw [rV_len, alq.1]
    have e : isQ t q = decide (q < (t.asks.length : Int)) := by
      unfold isQ
      rw [decide_eq_decide]
      exact ⟨fun h => h.2, fun h => ⟨h1, h⟩⟩
    rw [e] at hQ
    exact hQ
  · have h1 := of_decide_eq_false (Bool.eq_false_iff.mpr h1)
    have e : isQ t q = false := by
      unfold isQ
      rw [decide_eq_false_iff_not]
      exact fun h => h1 h.1
    rw [e] at hQ
    exact hQ
abbrev sCost : Stmt := topS 89
theorem scCost : FnScope ["holder", "numbers", "question", "source"] ["holder", "numbers"] (defScope sCost) := ⟨rfl, rfl, rfl, by decide +kernel, rfl, by decide +kernel, by decide +kernel⟩
theorem rdV_num (o : Vamvsa.Held) (g : Nat) : rdV (Vamvsa.reader o.t o.k g) = .int (Vamvsa.readerNumber o g) := by
  unfold Vamvsa.readerNumber
  cases Vamvsa.reader o.t o.k g <;> rfl
theorem okCost (D : Df K mg "cost" sCost ["holder", "numbers"]) (T : Tx P w K mg base z) (B : TbC K z) (C : HlC K z) (O1 : Ok P w K mg base CX0 1 "is_question" ["table", "number"] (spIsQuestion z)) (O2 : Ok P w K mg base CX0 4 "source_read" ["kept", "grouping"] (spSourceRead z Tb))
    (O3 : Ok P w K mg base CX0 1 "cost_from" ["table", "kept", "source"] (spCostFrom z)) : Ok P w K mg base CX0 5 "cost" ["holder", "numbers"] (spDeed z Tb 6) := by
  refine D.ok fun f fd F => F.ok scCost (fun vs H Q E h => ?_) (fun cdv A outer s H vs Q E hr h => ?_)
  · obtain ⟨h, na, o, ns, rfl, _⟩ := h
    rfl
  obtain ⟨h, na, o, ns, rfl, hol, hn, hna, ak, hl, hTb, hQ⟩ := h
  obtain _ | o := o
  · exact absurd (hn rfl) (by decide)
  obtain ⟨tb, kd, ks, ho⟩ := id hol
  obtain ⟨q, rfl⟩ := len1 (hl (by decide))
  obtain ⟨ea, en⟩ := looked_of (o := o) (p := 6) (ns := [q]) (k := .cost q) rfl (fun _ z => by cases z) (fun _ z => by cases z)
  rw [ea, en] at hQ
  refine ⟨_, pss_cons (ps_if (pt_not (pt_val (pe_ok O1 hr (by decide) rfl pass0 (pa_cons (pe_fld (pv 0) rfl) (pa_cons (pe_ix ix_list (pv 1) pe_int (fun _ _ => rfl)) pa_nil))))) (pss_one (ps_ret (pe_lst (pa_cons (pe_gi T.cst.NO_QUESTION rfl) pa_nil)))) pss_nil)
    <| pss_cons (ps_set (i := 2) scCost.nd rfl (.inl rfl) (pe_ix ix_list (pe_fld (pe_fld (pv 0) rfl) rfl) (pe_ix ix_list (pv 1) pe_int (fun _ _ => rfl)) (fun _ _ => rfl)))
    <| pss_cons (ps_set (i := 3) scCost.nd rfl (.inl rfl) (pe_ok O2 hr (by decide) rfl pass0 (pa_cons (pe_fld (pv 0) rfl) (pa_cons (pe_fld (pv 2) rfl) pa_nil))))
    <| pss_one (ps_ret (pe_lst (pa_cons (pe_ok O3 hr (by decide) rfl pass0 (pa_cons (pe_fld (pv 0) rfl) (pa_cons (pe_fld (pv 0) rfl) (pa_cons (pv 3) pa_nil)))) (pa_cons (pv 3) (pa_cons (pe_fld (pv 2) rfl) pa_nil))))), ?_⟩
  obtain ⟨dx, h1⟩ := ho.at_
  obtain ⟨cl, rl, ql, cas, ras, qas, ⟨⟨dt, t1⟩, t2, t3, t5⟩, alc, alr, alq⟩ := id ho.tab
  have sz := sizeLine_eq
  refine ⟨_, rfl, h, z.H, dx, _, _, rfl, h1, C.cl, C.no _ (by simp), holTab, _, rfl, na, _, 0, _, rfl, rfl, SqL.of hna, at_of rfl rfl, tb, o.t, q, rfl, ho.tab, _, rfl, ?_⟩
  have eL : Vamvsa.looked o (.cost q) = Vamvsa.withAsk o q fun a => ⟨(Vamvsa.costOf o.t o.k a.g : Int), [Vamvsa.readerNumber o a.g, (a.k : Int)]⟩ := rfl
  rcases isQ_index o.t q with ⟨e1, n, a, rfl, ha, e2⟩ | ⟨e1, e2⟩
  · rw [e1]
    have el : Vamvsa.looked o (.cost (n : Int)) = ⟨(Vamvsa.costOf o.t o.k a.g : Int), [Vamvsa.readerNumber o a.g, (a.k : Int)]⟩ := by
      rw [eL]
      unfold Vamvsa.withAsk
      rw [e2]
    rw [el] at hQ
    obtain ⟨qa, hqa, dq, hq⟩ := alq.at ha
    have aok := ho.good.ok.asks a (List.mem_of_getElem? ha)
    refine ite2 (fun h => absurd h (by decide)) fun _ => ?_
    refine ⟨_, rfl, h, z.H, dx, _, _, rfl, h1, C.cl, C.no _ (by simp), holTab, tb, z.B, dt, _, _, rfl, t1, B.cl, B.no _ (by simp), tabAsks, _, rfl, na, _, 0, _, rfl, rfl, SqL.of hna, at_of rfl rfl, ql, _, (n : Int), _, rfl, rfl, SqL.of t5, at_of rfl (rV_at hqa), ?_⟩
    refine ⟨_, rfl, h, z.H, dx, _, _, rfl, h1, C.cl, C.no _ (by simp), holKept, _, rfl, qa, z.Q, dq, _, _, rfl, hq, T.que.cl, T.que.no _ (by simp), quGr, ?_⟩
    refine ⟨kd, o.t, ks, a.g, rfl, ho.kept, ho.kas.nd, ho.kas.small ho.good.ok, ho.few, aok.g, hTb, fun b H1 hb e1 hT1 => ?_⟩
    have hb' := ho.kas.reader hb
    have h1' := e1 _ _ h1 (fun _ z => by cases z)
    refine ⟨_, rfl, h, z.H, dx, _, _, rfl, h1', C.cl, C.no _ (by simp), holTab, _, rfl, h, z.H, dx, _, _, rfl, h1', C.cl, C.no _ (by simp), holKept, _, rfl, tb, kd, o.t, ks, b, rfl, ho.tab.ext e1, ho.kept.ext e1, ho.kas.nd, fun v hv => ?_, ?_⟩
    · rw [hv] at hb
      exact hb.1
    refine ⟨_, rfl, _, rfl, qa, z.Q, dq, _, _, rfl, e1 _ _ hq (fun _ z => by cases z), T.que.cl, T.que.no _ (by simp), quTi, by simp [sz], fun l hl => ?_⟩
    have s2 := same_new (o := HO.lst [V.int ((costN o.t b : Nat) : Int), rdV b, .int (a.k : Int)]) hl
    have e12 := e1.trans (ExtN.of s2)
    refine hQ l _ (Gr.of e12) (hol.ext e12) (hT1.ext s2) (NoL.ext e1 hl) ?_
    · rw [upd_same, costOf_N, ← hb']
      show some (HO.lst [V.int ((costN o.t b : Nat) : Int), rdV b, .int (a.k : Int)]) = some (HO.lst [.int ((costN o.t b : Nat) : Int), .int (Vamvsa.readerNumber o a.g), .int (a.k : Int)])
      rw [← rdV_num, ← hb']
  · rw [e1]
    have el : Vamvsa.looked o (.cost q) = VamvsBase.one (-3) := by
      rw [eL]
      unfold Vamvsa.withAsk
      rw [e2]
    rw [el] at hQ
    refine ite2 (fun _ => ?_) fun h => absurd rfl h
    exact ⟨by simp [sz], one_back hol hTb (ExtN.refl H) hTb hQ⟩
end
end Kg
namespace Kg
open PySem PySem.Spec PyProof.Rows L2 LamX
open Vamvsa (Ask Table Group)
section
variable {P : Program} {w : World} {K : PySem.W.Frag} {mg : Str → Option Value} {base : Heap} {z : Ads} {Tb : Addr}
abbrev sAnswer : Stmt := topS 90
theorem scAnswer : FnScope ["holder", "numbers", "question"] ["holder", "numbers"] (defScope sAnswer) := ⟨rfl, rfl, rfl, by decide +kernel, rfl, by decide +kernel, by decide +kernel⟩
theorem okAnswer (D : Df K mg "answer" sAnswer ["holder", "numbers"]) (T : Tx P w K mg base z) (B : TbC K z) (C : HlC K z) (O1 : Ok P w K mg base CX0 1 "is_question" ["table", "number"] (spIsQuestion z)) (O2 : Ok P w K mg base CX0 5 "lines_read" ["table", "kept", "grouping"] (spLinesRead z Tb))
    (O3 : Ok P w K mg base CX0 1 "told" ["lines"] (spTold z)) : Ok P w K mg base CX0 6 "answer" ["holder", "numbers"] (spDeed z Tb 7) := by
  refine D.ok fun f fd F => F.ok scAnswer (fun vs H Q E h => ?_) (fun cdv A outer s H vs Q E hr h => ?_)
  · obtain ⟨h, na, o, ns, rfl, _⟩ := h
    rfl
  obtain ⟨h, na, o, ns, rfl, hol, hn, hna, ak, hl, hTb, hQ⟩ := h
  obtain _ | o := o
  · exact absurd (hn rfl) (by decide)
  obtain ⟨tb, kd, ks, ho⟩ := id hol
  obtain ⟨q, rfl⟩ := len1 (hl (by decide))
  obtain ⟨ea, en⟩ := looked_of (o := o) (p := 7) (ns := [q]) (k := .answer q) rfl (fun _ z => by cases z) (fun _ z => by cases z)
  rw [ea, en] at hQ
  refine ⟨_, pss_cons (ps_if (pt_not (pt_val (pe_ok O1 hr (by decide) rfl pass0 (pa_cons (pe_fld (pv 0) rfl) (pa_cons (pe_ix ix_list (pv 1) pe_int (fun _ _ => rfl)) pa_nil))))) (pss_one (ps_ret (pe_lst (pa_cons (pe_gi T.cst.NO_QUESTION rfl) pa_nil)))) pss_nil)
    <| pss_cons (ps_set (i := 2) scAnswer.nd rfl (.inl rfl) (pe_ix ix_list (pe_fld (pe_fld (pv 0) rfl) rfl) (pe_ix ix_list (pv 1) pe_int (fun _ _ => rfl)) (fun _ _ => rfl)))
    <| pss_one (ps_ret (pe_ok O3 hr (by decide) rfl pass0 (pa_cons (pe_ok O2 hr (by decide) rfl pass0 (pa_cons (pe_fld (pv 0) rfl) (pa_cons (pe_fld (pv 0) rfl) (pa_cons (pe_fld (pv 2) rfl) pa_nil)))) pa_nil))), ?_⟩
  obtain ⟨dx, h1⟩ := ho.at_
  obtain ⟨cl, rl, ql, cas, ras, qas, ⟨⟨dt, t1⟩, t2, t3, t5⟩, alc, alr, alq⟩ := id ho.tab
  have sz := sizeLine_eq
  refine ⟨_, rfl, h, z.H, dx, _, _, rfl, h1, C.cl, C.no _ (by simp), holTab, _, rfl, na, _, 0, _, rfl, rfl, SqL.of hna, at_of rfl rfl, tb, o.t, q, rfl, ho.tab, _, rfl, ?_⟩
  have eL : Vamvsa.looked o (.answer q) = Vamvsa.withAsk o q fun a => Vamvsa.groupsAnswer (Vamvsa.answerOf o.t o.k a.g) := rfl
  rcases isQ_index o.t q with ⟨e1, n, a, rfl, ha, e2⟩ | ⟨e1, e2⟩
  · rw [e1]
    have el : Vamvsa.looked o (.answer (n : Int)) = Vamvsa.groupsAnswer (Vamvsa.answerOf o.t o.k a.g) := by
      rw [eL]
      unfold Vamvsa.withAsk
      rw [e2]
    rw [el, toldN_eq] at hQ
    obtain ⟨qa, hqa, dq, hq⟩ := alq.at ha
    have aok := ho.good.ok.asks a (List.mem_of_getElem? ha)
    refine ite2 (fun h => absurd h (by decide)) fun _ => ?_
    refine ⟨_, rfl, h, z.H, dx, _, _, rfl, h1, C.cl, C.no _ (by simp), holTab, tb, z.B, dt, _, _, rfl, t1, B.cl, B.no _ (by simp), tabAsks, _, rfl, na, _, 0, _, rfl, rfl, SqL.of hna, at_of rfl rfl, ql, _, (n : Int), _, rfl, rfl, SqL.of t5, at_of rfl (rV_at hqa), ?_⟩
    refine ⟨_, rfl, h, z.H, dx, _, _, rfl, h1, C.cl, C.no _ (by simp), holTab, _, rfl, h, z.H, dx, _, _, rfl, h1, C.cl, C.no _ (by simp), holKept, _, rfl, qa, z.Q, dq, _, _, rfl, hq, T.que.cl, T.que.no _ (by simp), quGr, ?_⟩
    refine ⟨tb, kd, o.t, ks, o.k, a.g, rfl, ho.tab, ho.good, ho.kept, ho.kas, ho.few, aok.g, hTb, fun l ts H1 e1 hT1 l1 al => ?_⟩
    obtain ⟨b1, b2⟩ := answerOf_ok ho.good.ok (k := o.k) (g := a.g)
    refine ⟨l, ts, _, rfl, l1, al, b1, b2, fun m H2 s2 nm m2 => ?_⟩
    have e12 := e1.trans (ExtN.of s2)
    exact hQ m H2 (Gr.of e12) (hol.ext e12) (hT1.ext s2) (NoL.ext e1 nm) m2
  · rw [e1]
    have el : Vamvsa.looked o (.answer q) = VamvsBase.one (-3) := by
      rw [eL]
      unfold Vamvsa.withAsk
      rw [e2]
    rw [el] at hQ
    refine ite2 (fun _ => ?_) fun h => absurd rfl h
    exact ⟨by simp [sz], one_back hol hTb (ExtN.refl H) hTb hQ⟩
abbrev sTotal : Stmt := topS 91
theorem scTotal : FnScope ["holder", "numbers", "cost_now"] ["holder", "numbers"] (defScope sTotal) := ⟨rfl, rfl, rfl, by decide +kernel, rfl, by decide +kernel, by decide +kernel⟩
theorem okTotal (D : Df K mg "total" sTotal ["holder", "numbers"]) (T : Tx P w K mg base z) (C : HlC K z) (O1 : Ok P w K mg base CX0 5 "cost_of_all" ["table", "kept"] (spCostAll z Tb)) (O2 : Ok P w K mg base CX0 1 "lines_together" ["kept"] (spTogether z)) :
    Ok P w K mg base CX0 6 "total" ["holder", "numbers"] (spDeed z Tb 8) := by
  refine D.ok fun f fd F => F.ok scTotal (fun vs H Q E h => ?_) (fun cdv A outer s H vs Q E hr h => ?_)
  · obtain ⟨h, na, o, ns, rfl, _⟩ := h
    rfl
  obtain ⟨h, na, o, ns, rfl, hol, hn, hna, ak, hl, hTb, hQ⟩ := h
  obtain _ | o := o
  · exact absurd (hn rfl) (by decide)
  obtain ⟨tb, kd, ks, ho⟩ := id hol
  obtain rfl : ns = [] := List.eq_nil_of_length_eq_zero (hl (by decide))
  obtain ⟨ea, en⟩ := looked_of (o := o) (p := 8) (ns := []) (k := .total) rfl (fun _ z => by cases z) (fun _ z => by cases z)
  rw [ea, en] at hQ
  refine ⟨_, pss_cons (ps_set (i := 2) scTotal.nd rfl (.inl rfl) (pe_ok O1 hr (by decide) rfl pass0 (pa_cons (pe_fld (pv 0) rfl) (pa_cons (pe_fld (pv 0) rfl) pa_nil))))
    <| pss_one (ps_ret (pe_lst (pa_cons (pv 2) (pa_cons (pe_ok O1 hr (by decide) rfl pass0 (pa_cons (pe_fld (pv 0) rfl) (pa_cons pe_dnewK pa_nil))) (pa_cons (pe_ok O2 hr (by decide) rfl pass0 (pa_cons (pe_fld (pv 0) rfl) pa_nil)) pa_nil))))), ?_⟩
  obtain ⟨dx, h1⟩ := ho.at_
  have sz := sizeLine_eq
  refine ⟨_, rfl, h, z.H, dx, _, _, rfl, h1, C.cl, C.no _ (by simp), holTab, _, rfl, h, z.H, dx, _, _, rfl, h1, C.cl, C.no _ (by simp), holKept, ?_⟩
  refine ⟨tb, kd, o.t, ks, o.k, rfl, ho.tab, ho.good, ho.kept, ho.kas, ho.few, hTb, fun H1 e1 hT1 => ?_⟩
  have h11 := e1 _ _ h1 (fun _ z => by cases z)
  refine ⟨_, rfl, _, rfl, h, z.H, dx, _, _, rfl, h11, C.cl, C.no _ (by simp), holTab, fun d hd => ?_⟩
  have s2 := same_new (o := HO.dK []) hd
  have d2 : (L2.upd H1 d (.dK [])) d = some (.dK []) := upd_same
  generalize (L2.upd H1 d (.dK [])) = H2 at s2 d2
  have e2 := e1.trans (ExtN.of s2)
  refine ⟨tb, d, o.t, [], [], rfl, ho.tab.ext e2, ho.good, ⟨[], d2, Al.nil⟩, KeptAs.nil _, by simp, hT1.ext s2, fun H3 e3 hT3 => ?_⟩
  have e13 := e2.trans e3
  refine ⟨_, rfl, h, z.H, dx, _, _, rfl, e13 _ _ h1 (fun _ z => by cases z), C.cl, C.no _ (by simp), holKept, ?_⟩
  refine ⟨kd, o.t, ks, rfl, ho.kept.ext e13, ho.few, fun H4 s4 => ?_⟩
  have e14 := e13.trans (ExtN.of s4)
  refine ⟨by simp [sz], fun l hl => ?_⟩
  have s5 := same_new (o := HO.lst [V.int ((Vamvsa.total o.t o.k : Nat) : Int), .int ((Vamvsa.total o.t [] : Nat) : Int), .int (((ks.map (Vamvsa.sizeOf_ o.t)).sum : Nat) : Int)]) hl
  have e15 := e14.trans (ExtN.of s5)
  refine hQ l _ (Gr.of e15) (hol.ext e15) ((hT3.ext s4).ext s5) (NoL.ext e14 hl) ?_
  rw [upd_same, ho.kas.room]
  rfl
abbrev sGain : Stmt := topS 92
theorem scGain : FnScope ["holder", "numbers", "grouping", "more", "cost_now"] ["holder", "numbers"] (defScope sGain) := ⟨rfl, rfl, rfl, by decide +kernel, rfl, by decide +kernel, by decide +kernel⟩
theorem okGain (D : Df K mg "gain" sGain ["holder", "numbers"]) (T : Tx P w K mg base z) (C : HlC K z) (O0 : Ok P w K mg base CX0 2 "is_grouping" ["table", "grouping"] (spIsGrouping z)) (O1 : Ok P w K mg base CX0 5 "cost_of_all" ["table", "kept"] (spCostAll z Tb))
    (O2 : Ok P w K mg base CX0 5 "with_one_more" ["table", "kept", "grouping"] (spOneMore z)) : Ok P w K mg base CX0 6 "gain" ["holder", "numbers"] (spDeed z Tb 9) := by
  refine D.ok fun f fd F => F.ok scGain (fun vs H Q E h => ?_) (fun cdv A outer s H vs Q E hr h => ?_)
  · obtain ⟨h, na, o, ns, rfl, _⟩ := h
    rfl
  obtain ⟨h, na, o, ns, rfl, hol, hn, hna, ak, hl, hTb, hQ⟩ := h
  obtain _ | o := o
  · exact absurd (hn rfl) (by decide)
  obtain ⟨tb, kd, ks, ho⟩ := id hol
  obtain ⟨g, rfl⟩ := len1 (hl (by decide))
  obtain ⟨ea, en⟩ := looked_of (o := o) (p := 9) (ns := [g]) (k := .gain g) rfl (fun _ z => by cases z) (fun _ z => by cases z)
  rw [ea, en] at hQ
  have hu := hu_of hr
  refine ⟨_, pss_cons (ps_set (i := 2) scGain.nd rfl (.inl rfl) (pe_ix ix_list (pv 1) pe_int (fun _ _ => rfl)))
    <| pss_cons (ps_if (pt_not (pt_val (pe_ok O0 hr (by decide) rfl pass0 (pa_cons (pe_fld (pv 0) rfl) (pa_cons (pv 2) pa_nil))))) (pss_one (ps_ret (pe_lst (pa_cons (pe_gi T.cst.NO_GROUPING rfl) pa_nil)))) pss_nil)
    <| pss_cons (ps_set (i := 3) scGain.nd rfl (.inl rfl) (pe_ok O2 hr (by decide) rfl pass0 (pa_cons (pe_fld (pv 0) rfl) (pa_cons (pe_fld (pv 0) rfl) (pa_cons (pv 2) pa_nil)))))
    <| pss_cons (ps_set (i := 4) scGain.nd rfl (.inl rfl) (pe_ok O1 hr (by decide) rfl pass0 (pa_cons (pe_fld (pv 0) rfl) (pa_cons (pe_fld (pv 0) rfl) pa_nil))))
    <| pss_one (ps_ret (pe_lst (pa_cons (pe_op op_sub (pv 4) (pe_ok O1 hr (by decide) rfl pass0 (pa_cons (pe_fld (pv 0) rfl) (pa_cons (pv 3) pa_nil)))) (pa_cons (pe_callB cr_len (by rfl) T.blt.len PySem.boot_len (pa_cons (pe_dget hu (pv 3) (pv 2) (fun _ _ => rfl)) pa_nil)) pa_nil)))), ?_⟩
  obtain ⟨dx, h1⟩ := ho.at_
  have sz := sizeLine_eq
  refine ⟨_, rfl, na, _, 0, _, rfl, rfl, SqL.of hna, at_of rfl rfl, ?_⟩
  refine ⟨_, rfl, h, z.H, dx, _, _, rfl, h1, C.cl, C.no _ (by simp), holTab, _, rfl, tb, o.t, g, rfl, ho.tab, ho.good.ok.c4, _, rfl, ?_⟩
  have eL : Vamvsa.looked o (.gain g) = Vamvsa.withGrouping o g fun x => ⟨(Vamvsa.total o.t o.k - Vamvsa.total o.t (x :: o.k) : Int), Vamvsa.nats [Vamvsa.sizeOf_ o.t x]⟩ := rfl
  rcases isG_index o.t g with ⟨e1, n, rfl, hn2, e2⟩ | ⟨e1, e2⟩
  · have el : Vamvsa.looked o (.gain (n : Int)) = ⟨(Vamvsa.total o.t o.k - Vamvsa.total o.t (n :: o.k) : Int), Vamvsa.nats [Vamvsa.sizeOf_ o.t n]⟩ := by
      rw [eL]
      unfold Vamvsa.withGrouping
      rw [e2]
    rw [el] at hQ
    rw [e1]
    refine ite2 (fun h => absurd h (by decide)) fun _ => ?_
    refine ⟨_, rfl, h, z.H, dx, _, _, rfl, h1, C.cl, C.no _ (by simp), holTab, _, rfl, h, z.H, dx, _, _, rfl, h1, C.cl, C.no _ (by simp), holKept, _, rfl, ?_⟩
    refine ⟨tb, kd, o.t, ks, n, rfl, ho.tab, ho.good, ho.kept, ho.few, ho.kas.nd, fun md H1 s1 nmd km => ?_⟩
    have h11 := s1 _ _ h1
    refine ⟨_, rfl, h, z.H, dx, _, _, rfl, h11, C.cl, C.no _ (by simp), holTab, _, rfl, h, z.H, dx, _, _, rfl, h11, C.cl, C.no _ (by simp), holKept, ?_⟩
    refine ⟨tb, kd, o.t, ks, o.k, rfl, ho.tab.mono s1, ho.good, ho.kept.mono s1, ho.kas, ho.few, hTb.ext s1, fun H2 e2 hT2 => ?_⟩
    have e12 := (ExtN.of s1).trans e2
    have kasM := ho.kas.more hn2
    refine ⟨_, rfl, _, rfl, h, z.H, dx, _, _, rfl, e12 _ _ h1 (fun _ z => by cases z), C.cl, C.no _ (by simp), holTab, _, rfl, ?_⟩
    have l16 := kasM.len16 ho.good.ok
    refine ⟨tb, md, o.t, _, n :: o.k, rfl, ho.tab.ext e12, ho.good, km.ext e2, kasM, by omega, hT2, fun H3 e3 hT3 => ?_⟩
    have e13 := e12.trans e3
    obtain ⟨as, hk, al⟩ := km.ext (e2.trans e3)
    have hmem : n ∈ (if n ∈ ks then ks else ks ++ [n]) := by
      split
      · assumption
      · exact List.mem_append_right _ (List.mem_singleton.mpr rfl)
    generalize (if n ∈ ks then ks else ks ++ [n]) = ks2 at kasM hk al hmem
    obtain ⟨j, hj, ej⟩ := List.getElem_of_mem hmem
    have hj' : ks2[j]? = some n := by rw [List.getElem?_eq_getElem hj, ej]
    obtain ⟨a, ha, rs, g1, g2⟩ := al.at hj'
    have dg : DGet H3 md (.int (n : Int)) (some (.ref a)) := by
      have q := DGet.k (k := Sum.inl (n : Int)) hk
      rw [kpOf_val al.1 kasM.nd hj' ha] at q
      exact q
    refine ⟨_, _, rfl, rfl, ?_⟩
    refine ⟨_, rfl, _, rfl, md, .ref a, rfl, dg, a, _, rfl, .inl (SqL.of g1), by simp [sz], fun l hl => ?_⟩
    rw [rV_len, g2.1]
    have s5 := same_new (o := HO.lst [V.int ((Vamvsa.total o.t o.k : Nat) - (Vamvsa.total o.t (n :: o.k) : Nat) : Int), .int ((Vamvsa.sizeOf_ o.t n : Nat) : Int)]) hl
    have e15 := e13.trans (ExtN.of s5)
    refine hQ l _ (Gr.of e15) (hol.ext e15) (hT3.ext s5) (NoL.ext e13 hl) ?_
    exact upd_same
  · have el : Vamvsa.looked o (.gain g) = VamvsBase.one (-2) := by
      rw [eL]
      unfold Vamvsa.withGrouping
      rw [e2]
    rw [el] at hQ
    rw [e1]
    refine ite2 (fun _ => ?_) fun h => absurd rfl h
    exact ⟨by simp [sz], one_back hol hTb (ExtN.refl H) hTb hQ⟩
end
end Kg
namespace Kg
open PySem PySem.Spec PyProof.Rows L2 LamX
open Vamvsa (Ask Table Group)
theorem holPutK {a b v : V} : putF "kept" v (fsHol a b) = fsHol a v := by
  show (if ("table" : Str) = "kept" then (_ : List (Str × V)) else _) = _
  rw [if_neg (by decide +kernel)]
  show (("table" : Str), a) :: (if ("kept" : Str) = "kept" then (_ : List (Str × V)) else _) = _
  rw [if_pos rfl]
  rfl
theorem holPutT {a b v : V} : putF "table" v (fsHol a b) = fsHol v b := by
  show (if ("table" : Str) = "table" then (_ : List (Str × V)) else _) = _
  rw [if_pos rfl]
  rfl
/-- what is kept by a call of keep -/
theorem keep_kas (t : Table) (l : List Nat) (h : ∀ g ∈ l, g < 2 ^ t.cols.length) (k : List Nat) (hk : k = (Vamvsa.groupings t).filter fun (g : Nat) => (Vamvsa.nats l).contains (g : Int)) : KeptAs t (once l) k ∧ (once l).length = k.length := by
  have mem : ∀ g : Nat, (Vamvsa.nats l).contains (g : Int) = true ↔ g ∈ l := fun g => by
    rw [List.contains_iff_mem]
    unfold Vamvsa.nats
    rw [List.mem_map]
    constructor
    · rintro ⟨x, hx, e⟩
      rw [← Int.ofNat.inj e]
      exact hx
    · intro hg
      exact ⟨g, hg, rfl⟩
  have mk : ∀ g : Nat, g ∈ k ↔ g < 2 ^ Vamvsa.width t ∧ g ∈ l := fun g => by
    rw [hk, List.mem_filter, mem g]
    unfold Vamvsa.groupings
    rw [List.mem_range]
  have kas : KeptAs t (once l) k := (once_kept t l h).to fun g hg => by
    rw [List.mem_reverse, mk]
    exact ⟨fun a => ⟨hg, a⟩, fun a => a.2⟩
  refine ⟨kas, ?_⟩
  rw [kas.perm.length_eq]
  have e : Vamvsa.sortedKept t k = k := by
    unfold Vamvsa.sortedKept
    have e2 : (Vamvsa.groupings t).filter (fun g => k.contains g) = (Vamvsa.groupings t).filter fun (g : Nat) => (Vamvsa.nats l).contains (g : Int) := by
      refine List.filter_congr fun g hg => ?_
      rw [Bool.eq_iff_iff, List.contains_iff_mem, mk, mem]
      unfold Vamvsa.groupings at hg
      exact ⟨fun a => a.2, fun a => ⟨List.mem_range.mp hg, a⟩⟩
    rw [e2, ← hk]
  rw [e]
/-- all of them groupings, or one is none -/
theorem all_groupings (t : Table) : ∀ l : List Int, (l.any (fun g => (VamvsBase.index g (2 ^ Vamvsa.width t)).isNone) = true ∧ (l.all (isG t)) = false) ∨ (l.any (fun g => (VamvsBase.index g (2 ^ Vamvsa.width t)).isNone) = false ∧ l.all (isG t) = true ∧ ∃ ns : List Nat, l = Vamvsa.nats ns ∧ ∀ n ∈ ns, n < 2 ^ t.cols.length)
  | [] => .inr ⟨rfl, rfl, [], rfl, fun _ h => by cases h⟩
  | g :: l => by
    rcases isG_index t g with ⟨e1, n, e3, hn, e2⟩ | ⟨e1, e2⟩
    · rcases all_groupings t l with ⟨a, b⟩ | ⟨a, b, ns, e, h⟩
      · refine .inl ⟨?_, ?_⟩
        · rw [List.any_cons, a, Bool.or_true]
        · rw [List.all_cons, b, Bool.and_false]
      · refine .inr ⟨?_, ?_, n :: ns, ?_, ?_⟩
        · rw [List.any_cons, a, e2]
          rfl
        · rw [List.all_cons, b, e1]
          rfl
        · rw [e, e3]
          rfl
        · intro m hm
          rcases List.mem_cons.mp hm with z | z
          · rw [z]; exact hn
          · exact h m z
    · refine .inl ⟨?_, ?_⟩
      · rw [List.any_cons, e2]
        rfl
      · rw [List.all_cons, e1]
        rfl
theorem nxt_keep (o : Vamvsa.Held) (ns : List Int) : nxt (some o) 5 ns = (Vamvsa.keepCall o ns).1 ∧ ans (some o) 5 ns = VamvsaNeutral.encode (Vamvsa.keepCall o ns).2 := by
  unfold nxt ans
  have e : VamvsaNeutral.callOf (callW 5 ns) = some (.keep ns) := rfl
  rw [step_of e]
  exact ⟨rfl, rfl⟩
/-! the holder's object is changed: all else stays -/
section
variable {z : Ads} {H H' : Hp} {h dx : Addr} {a b : V}
theorem off_lst {x : Addr} {xs : List V} (h1 : H h = some (.ins z.H dx (fsHol a b))) (e : H x = some (.lst xs)) : x ≠ h := ne_of e h1 (by intro z; cases z)
theorem IsLn.gr {r : Addr} {g : Group} (h1 : H h = some (.ins z.H dx (fsHol a b))) (s : Gr h H H') (e : IsLn z H r g) : IsLn z H' r g := by
  obtain ⟨dl, tl, e1, e2⟩ := e
  refine ⟨dl, tl, s _ _ (ne_of e1 h1 fun q => ?_) e1 (fun _ z => by cases z), s _ _ (ne_of e2 h1 (by intro z; cases z)) e2 (fun _ z => by cases z)⟩
  injection q with q1 q2 q3
  exact absurd (congrArg List.length q3) (by simp [fsLine, fsHol])
theorem IsAns.gr {t : Table} {r : Addr} {g : Nat} (h1 : H h = some (.ins z.H dx (fsHol a b))) (s : Gr h H H') (e : IsAns z H t r g) : IsAns z H' t r g := by
  obtain ⟨rs, e1, e2⟩ := e
  exact ⟨rs, s _ _ (off_lst h1 e1) e1 (fun _ z => by cases z), e2.mono fun _ _ e => e.gr h1 s⟩
theorem IsKept.gr {t : Table} {kd : Addr} {ks : List Nat} (h1 : H h = some (.ins z.H dx (fsHol a b))) (s : Gr h H H') (e : IsKept z H kd t ks) : IsKept z H' kd t ks := by
  obtain ⟨as, e1, e2⟩ := e
  exact ⟨as, s _ _ (ne_of e1 h1 (by intro z; cases z)) e1 (fun _ z => by cases z), e2.mono fun _ _ e => e.gr h1 s⟩
theorem IsQu.gr {r : Addr} {q : Ask} (h1 : H h = some (.ins z.H dx (fsHol a b))) (s : Gr h H H') (e : IsQu z H r q) : IsQu z H' r q := by
  obtain ⟨dq, e1⟩ := e
  refine ⟨dq, s _ _ (ne_of e1 h1 fun q => ?_) e1 (fun _ z => by cases z)⟩
  injection q with q1 q2 q3
  have q4 : (("grouping" : Str), _) = (("table" : Str), _) := (List.cons.inj q3).1
  exact absurd (show ("grouping" : Str) = "table" from congrArg Prod.fst q4) (by decide +kernel)
theorem IsTab.gr {tb : Addr} {t : Table} (h1 : H h = some (.ins z.H dx (fsHol a b))) (s : Gr h H H') (e : IsTab z H tb t) : IsTab z H' tb t := by
  obtain ⟨cl, rl, ql, cas, ras, qas, ⟨⟨dt, e1⟩, e2, e3, e5⟩, alc, alr, alq⟩ := e
  refine ⟨cl, rl, ql, cas, ras, qas, ⟨⟨dt, s _ _ (ne_of e1 h1 fun q => ?_) e1 (fun _ z => by cases z)⟩, s _ _ (off_lst h1 e2) e2 (fun _ z => by cases z), s _ _ (off_lst h1 e3) e3 (fun _ z => by cases z), s _ _ (off_lst h1 e5) e5 (fun _ z => by cases z)⟩,
    alc.mono (fun _ _ e => s _ _ (off_lst h1 e) e (fun _ z => by cases z)), alr.mono fun _ _ e => e.gr h1 s, alq.mono fun _ _ e => e.gr h1 s⟩
  injection q with q1 q2 q3
  exact absurd (congrArg List.length q3) (by simp [fsTab, fsHol])
theorem gr_upd {o : HO} : Gr h H (L2.upd H h o) := fun b _ n e _ => by rw [upd_ne n]; exact e
theorem tab_upd {Tb : Addr} {o : HO} (h1 : H h = some (.ins z.H dx (fsHol a b))) (t : TabS H Tb lamQ) : TabS (L2.upd H h o) Tb lamQ := by
  obtain ⟨ps, t1, t2, t3⟩ := t
  refine ⟨ps, (upd_ne (ne_of t1 h1 (by intro z; cases z))).trans t1, t2, fun pos cv hc => ?_⟩
  obtain ⟨c1, e1, e2⟩ := t3 pos cv hc
  exact ⟨c1, e1, (upd_ne (ne_of e2 h1 (by intro z; unfold CodeO at z; cases z))).trans e2⟩
end
section
variable {P : Program} {w : World} {K : PySem.W.Frag} {mg : Str → Option Value} {base : Heap} {z : Ads} {Tb : Addr}
abbrev sKeep : Stmt := topS 88
theorem scKeep : FnScope ["holder", "groupings", "grouping"] ["holder", "groupings"] (defScope sKeep) := ⟨rfl, rfl, rfl, by decide +kernel, rfl, by decide +kernel, by decide +kernel⟩
/-- is_grouping, told of every number -/
theorem okKeep (D : Df K mg "keep" sKeep ["holder", "groupings"]) (T : Tx P w K mg base z) (C : HlC K z) (O0 : Ok P w K mg base CX0 2 "is_grouping" ["table", "grouping"] (spIsGrouping z)) (O1 : Ok P w K mg base CX0 5 "kept_answers" ["table", "groupings"] (spKeptAnswers K z))
    (O2 : Ok P w K mg base CX0 1 "lines_together" ["kept"] (spTogether z)) : Ok P w K mg base CX0 6 "keep" ["holder", "groupings"] (spDeed z Tb 5) := by
  refine D.ok fun f fd F => F.ok scKeep (fun vs H Q E h => ?_) (fun cdv A outer s H vs Q E hr h => ?_)
  · obtain ⟨h, na, o, ns, rfl, _⟩ := h
    rfl
  obtain ⟨h, na, o, ns, rfl, hol, hn, hna, ak, hl, hTb, hQ⟩ := h
  obtain _ | o := o
  · exact absurd (hn rfl) (by decide)
  obtain ⟨tb, kd, ks, ho⟩ := id hol
  obtain ⟨en, ea⟩ := nxt_keep o ns
  rw [ea, en] at hQ
  obtain ⟨a1, a2⟩ := ask_keep ak
  refine ⟨_, pss_cons (ps_if (pt_not (pt_val (pe_callB (cr_all rfl) (by rfl) T.blt.all (by decide +kernel) (pa_cons
        (pe_lc (own := [("grouping", 2)]) (g := gName 2) (tt := tYes) (te := tCall (spIsGrouping z) [] E0 (tCons (tFld K (tVar 0) "table") (tCons (tVar 2) tNil))) rfl scKeep.nd (pi_list (pv 1)) (blkOk_by (N := ["holder", "groupings", "grouping"]) (sc := defScope sKeep) (by decide +kernel))
          (fun _ _ _ _ _ => pg_name (i := 2) scKeep.nd rfl (Or.inl rfl)) (fun _ _ _ _ _ => pts_nil) (fun _ _ _ _ _ => pe_ok O0 hr (by decide) rfl pass0 (pa_cons (pe_fld (pv 0) rfl) (pa_cons (pv 2) pa_nil)))) pa_nil))))
      (pss_one (ps_ret (pe_lst (pa_cons (pe_gi T.cst.NO_GROUPING rfl) pa_nil)))) pss_nil)
    <| pss_cons (ps_fld (pv 0) (pe_ok O1 hr (by decide) rfl pass0 (pa_cons (pe_fld (pv 0) rfl) (pa_cons (pv 1) pa_nil))) rfl)
    <| pss_one (ps_ret (pe_lst (pa_cons pe_int (pa_cons (pe_callB call_lenD (by rfl) T.blt.len PySem.boot_len (pa_cons (pe_fld (pv 0) rfl) pa_nil)) (pa_cons (pe_ok O2 hr (by decide) rfl pass0 (pa_cons (pe_fld (pv 0) rfl) pa_nil)) pa_nil))))), ?_⟩
  obtain ⟨dx, h1⟩ := ho.at_
  have sz := sizeLine_eq
  refine ⟨_, rfl, na, rfl, ⟨_, SqL.of hna⟩, fun L hL => lc_list (K := K) (a := na) (xs := iV ns) (fun j H2 => H2 = L2.upd H L (.lst (((ns.take j).map (isG o.t)).map V.bl))) rfl (fun j H2 _ e => by rw [e]; exact (same_new hL).seq (SqL.of hna)) ?_ ?_⟩
  · rintro j v H2 hv rfl
    unfold iV at hv
    rw [List.getElem?_map] at hv
    obtain ⟨g, hg, rfl⟩ := Option.map_eq_some_iff.mp hv
    have sL : Same H (L2.upd H L (.lst (((ns.take j).map (isG o.t)).map V.bl))) := same_new hL
    refine ⟨rfl, ?_⟩
    refine ⟨_, rfl, h, z.H, dx, _, _, rfl, sL _ _ h1, C.cl, C.no _ (by simp), holTab, _, rfl, tb, o.t, g, rfl, ho.tab.mono sL, ho.good.ok.c4, _, upd_same, ?_, ?_⟩
    · rw [List.length_map, List.length_map, List.length_take, sz]
      omega
    · rw [upd_upd, List.take_add_one, hg, List.map_append, List.map_append]
      rfl
  rintro _ rfl
  rw [iV_len, List.take_length]
  have s1 := same_new (o := HO.lst ((ns.map (isG o.t)).map V.bl)) hL
  have L1 : (L2.upd H L (.lst ((ns.map (isG o.t)).map V.bl))) L = some (.lst ((ns.map (isG o.t)).map V.bl)) := upd_same
  generalize (L2.upd H L (.lst ((ns.map (isG o.t)).map V.bl))) = H1 at s1 L1
  refine ⟨L, ns.map (isG o.t), rfl, SqL.of L1, _, rfl, ?_⟩
  have eall : (ns.map (isG o.t)).all id = ns.all (isG o.t) := by rw [List.all_map]; rfl
  rw [eall]
  rcases all_groupings o.t ns with ⟨b1, b2⟩ | ⟨b1, b2, l, rfl, hlt⟩
  · rw [b2]
    have el : Vamvsa.keepCall o ns = (some o, VamvsBase.one (-2)) := by
      unfold Vamvsa.keepCall
      rw [if_pos b1]
    rw [el] at hQ
    refine ite2 (fun _ => ?_) fun h => absurd rfl h
    exact ⟨by simp [sz], one_back hol hTb (ExtN.of s1) (hTb.ext s1) hQ⟩
  · rw [b2]
    obtain ⟨k, hk⟩ : ∃ k, k = (Vamvsa.groupings o.t).filter fun (g : Nat) => (Vamvsa.nats l).contains (g : Int) := ⟨_, rfl⟩
    have el : Vamvsa.keepCall o (Vamvsa.nats l) = (some { o with k := k }, ⟨1, Vamvsa.nats [k.length, Vamvsa.room o.t k]⟩) := by
      unfold Vamvsa.keepCall
      rw [if_neg (by rw [b1]; decide), hk]
    rw [el] at hQ
    obtain ⟨kas, klen⟩ := keep_kas o.t l hlt k hk
    have k16 := kas.len16 ho.good.ok
    rw [iV_nats] at hna
    refine ite2 (fun h => absurd h (by decide)) fun _ => ?_
    refine ⟨_, rfl, h, z.H, dx, _, _, rfl, s1 _ _ h1, C.cl, C.no _ (by simp), holTab, _, rfl, tb, na, o.t, l, rfl, ho.tab.mono s1, ho.good, SqL.of (s1 _ _ hna), hlt, ?_, fun kd2 H2 s2 nk hk2 => ?_⟩
    · unfold Vamvsa.nats at a2
      rw [List.length_map] at a2
      exact a2
    have s12 := s1.trans s2
    have h12 := s12 _ _ h1
    refine ⟨_, rfl, h, z.H, dx, _, rfl, h12, C.cl, C.no _ (by simp), by simp [fsHol], ?_⟩
    rw [holPutK]
    have g2 : Gr h H2 (L2.upd H2 h (.ins z.H dx (fsHol (.ref tb) (.ref kd2)))) := gr_upd
    have t2 : TabS (L2.upd H2 h (.ins z.H dx (fsHol (.ref tb) (.ref kd2)))) Tb lamQ := tab_upd h12 (hTb.ext s12)
    have h3 : (L2.upd H2 h (.ins z.H dx (fsHol (.ref tb) (.ref kd2)))) h = some (.ins z.H dx (fsHol (.ref tb) (.ref kd2))) := upd_same
    generalize (L2.upd H2 h (.ins z.H dx (fsHol (.ref tb) (.ref kd2)))) = H3 at g2 t2 h3
    obtain ⟨as, hd, al⟩ := hk2.gr h12 g2
    refine ⟨_, rfl, h, z.H, dx, _, _, rfl, h3, C.cl, C.no _ (by simp), holKept, kd2, _, rfl, hd, ?_⟩
    refine ⟨_, rfl, h, z.H, dx, _, _, rfl, h3, C.cl, C.no _ (by simp), holKept, ?_⟩
    refine ⟨kd2, o.t, once l, rfl, ⟨as, hd, al⟩, by omega, fun H4 s4 => ⟨by simp [sz], fun m hm => ?_⟩⟩
    have s5 := s4.trans (same_new (o := HO.lst [V.int 1, .int ((kpOf (once l) as).length : Int), .int ((((once l).map (Vamvsa.sizeOf_ o.t)).sum : Nat) : Int)]) hm)
    have gG := ((Gr.of (ExtN.of s12)).trans g2).trans (Gr.of (ExtN.of s5))
    have hd5 : Hold z (L2.upd H4 m (.lst [V.int 1, .int ((kpOf (once l) as).length : Int), .int ((((once l).map (Vamvsa.sizeOf_ o.t)).sum : Nat) : Int)])) h { o with k := k } tb kd2 (once l) :=
      ⟨⟨dx, s5 _ _ h3⟩, ((ho.tab.mono s12).gr h12 g2).mono s5, ho.good, IsKept.mono s5 ⟨as, hd, al⟩, kas, by omega⟩
    refine hQ m _ gG ⟨tb, kd2, once l, hd5⟩ (t2.ext s5) (NoL.gr (((Gr.of (ExtN.of s12)).trans g2).trans (Gr.of (ExtN.of s4))) h1 hm) ?_
    rw [upd_same, kpOf_len al.1, klen, kas.room]
    rfl
end
end Kg
namespace Kg
open PySem PySem.Spec PyProof.Rows L2 LamX
open Vamvsa (Ask Table Group)
theorem pe_okS {X : Cx} {CX : CXT} {k j : Nat} {x : Str} {ps : List Str} {sp : Sp} {E : L2.St → XK} {e : Expr} {es : List Expr} {t : TA} {p pos : Pos} (O : Ok X.prog X.w X.K X.mg X.base CX k x ps sp) (hr : Room j X.A) (hk : k ≤ j) (hg : Gl X x) (hx : ∀ σ, PassesAt CX X σ (E σ)) (ha : PA X (e :: es) t)
    (he : starEach (e :: es) X.env = (false, eval e X.env) :: starEach es X.env := by rfl) (hpl : (backTo pos (starEach es X.env)).any (·.1) = false := by rfl) (hd : (x == ("__debug__" : Str)) = false := by decide) :
    PE X (.Call (.Name x p) (e :: es) [] pos) (tCallS sp E t) := by
  obtain ⟨f, fd, F, m, kp, b⟩ := O.ex
  exact pe_callS F (hr.mono hk) hg m kp b hx ha (hdb := hd) (he := he) (hpl := hpl)
theorem step_load {o : Vamvsa.Obj} {ns : List Int} {b : By} (e : VamvsaNeutral.callOf (callW 0 ns) = some (.load b)) :
    (∃ t, Vamvsa.read b = .ok t ∧ nxt o 0 ns = some ⟨t, []⟩ ∧ ans o 0 ns = [1, (t.cols.length : Int), (t.rows.length : Int), (t.asks.length : Int)]) ∨ (∃ f, Vamvsa.read b = .error f ∧ nxt o 0 ns = o ∧ ans o 0 ns = [0, (f.code : Int), (f.place : Int)]) := by
  unfold nxt ans
  rw [step_of e]
  cases h : Vamvsa.read b with
  | ok t =>
    refine .inl ⟨t, rfl, ?_, ?_⟩
    · show (match Vamvsa.read b with
        | .ok t => ((some ⟨t, []⟩ : Vamvsa.Obj), (⟨1, Vamvsa.nats [Vamvsa.width t, t.rows.length, t.asks.length]⟩ : VamvsBase.Answer))
        | .error f => (o, VamvsBase.faulty f)).1 = _
      rw [h]
    · show VamvsaNeutral.encode (match Vamvsa.read b with
        | .ok t => ((some ⟨t, []⟩ : Vamvsa.Obj), (⟨1, Vamvsa.nats [Vamvsa.width t, t.rows.length, t.asks.length]⟩ : VamvsBase.Answer))
        | .error f => (o, VamvsBase.faulty f)).2 = _
      rw [h]
      rfl
  | error f =>
    refine .inr ⟨f, rfl, ?_, ?_⟩
    · show (match Vamvsa.read b with
        | .ok t => ((some ⟨t, []⟩ : Vamvsa.Obj), (⟨1, Vamvsa.nats [Vamvsa.width t, t.rows.length, t.asks.length]⟩ : VamvsBase.Answer))
        | .error f => (o, VamvsBase.faulty f)).1 = _
      rw [h]
    · show VamvsaNeutral.encode (match Vamvsa.read b with
        | .ok t => ((some ⟨t, []⟩ : Vamvsa.Obj), (⟨1, Vamvsa.nats [Vamvsa.width t, t.rows.length, t.asks.length]⟩ : VamvsBase.Answer))
        | .error f => (o, VamvsBase.faulty f)).2 = _
      rw [h]
      rfl
theorem fFs_code {c p : Int} : (fFs c p).lookup ("code" : Str) = some (.int c) := (lk_past (by decide +kernel)).trans lk_here
theorem fFs_place {c p : Int} : (fFs c p).lookup ("place" : Str) = some (.int p) := lk_here
section
variable {P : Program} {w : World} {K : PySem.W.Frag} {mg : Str → Option Value} {base : Heap} {z : Ads} {Tb : Addr}
abbrev sLoad : Stmt := topS 83
theorem scLoad : FnScope ["holder", "text", "table", "fault"] ["holder", "text"] (defScope sLoad) := ⟨rfl, rfl, rfl, by decide +kernel, rfl, by decide +kernel, by decide +kernel⟩
def tLoadSuite (z : Ads) : Addr → Value → Option Addr → TS := fun a cls d => tRet (tLst (tCons (tC (.int 0)) (tCons (tXf a cls d z.F "code" (tVar 3)) (tCons (tXf a cls d z.F "place" (tVar 3)) tNil))))
theorem okLoad (D : Df K mg "load" sLoad ["holder", "text"]) (T : Tx P w K mg base z) (B : TbC K z) (C : HlC K z) (O : Ok P w K mg base (L2.CX P w) 7 "table_of" ["text"] (spTableOf K z)) : Ok P w K mg base CX0 8 "load" ["holder", "text"] (spDeed z Tb 0) := by
  refine D.ok fun f fd F => F.ok scLoad (fun vs H Q E h => ?_) (fun cdv A outer s H vs Q E hr h => ?_)
  · obtain ⟨h, na, o, ns, rfl, _⟩ := h
    rfl
  obtain ⟨h, na, o, ns, rfl, hol, hn, hna, ak, hl, hTb, hQ⟩ := h
  obtain ⟨b, eb, ec⟩ := load_bytes ak
  refine ⟨_, pss_cons (ps_try_as (i := 3) (tb := fun W => tAsg (tCallS (spTableOf K z) (WE W) (tCons (tVar 1) tNil)) (gName 2)) (ts := tLoadSuite z) (Wout := fun _ _ _ _ => False) rfl rfl scLoad.nd rfl rfl ⟨rfl, by decide, Or.inl T.flt.g⟩ L2.takes0
        (fun W pn xe tk _ => pss_one (ps_set (i := 2) scLoad.nd rfl (Or.inl rfl) (pe_okS O hr (by decide) rfl (fun σ => passAt tk σ) (pa_cons (pv 1) pa_nil))))
        (fun a oe cls d pn hz hf => pss_one (ps_ret (pe_lst (pa_cons pe_int (pa_cons (pe_xf T.flt.xf T.flt.nc hz hf (pv 3)) (pa_cons (pe_xf T.flt.xf T.flt.np hz hf (pv 3)) pa_nil)))))))
    <| pss_cons (ps_fld (pv 0) (pv 2) rfl)
    <| pss_cons (ps_fld (pv 0) pe_dnewK rfl)
    <| pss_one (ps_ret (pe_lst (pa_cons pe_int (pa_cons (pe_callB cr_len (by rfl) T.blt.len PySem.boot_len (pa_cons (pe_fld (pv 2) rfl) pa_nil)) (pa_cons (pe_callB cr_len (by rfl) T.blt.len PySem.boot_len (pa_cons (pe_fld (pv 2) rfl) pa_nil))
        (pa_cons (pe_callB cr_len (by rfl) T.blt.len PySem.boot_len (pa_cons (pe_fld (pv 2) rfl) pa_nil)) pa_nil)))))), ?_⟩
  have sz := sizeLine_eq
  have hb : SqL K H na (bV b) := by
    have e : bV b = iV ns := by
      rw [eb]
      unfold bV iV
      rw [List.map_map]
      rfl
    rw [e]
    exact SqL.of hna
  refine ⟨_, rfl, na, b, rfl, hb, ?_⟩
  rcases step_load (o := o) ec with ⟨t, e1, e2, e3⟩ | ⟨ff, e1, e2, e3⟩
  · rw [e1]
    rw [e2, e3] at hQ
    intro tb H1 s1 nb hT
    have good := read_tgood e1
    obtain ⟨dx, tV, kd, h1⟩ : ∃ dx tV kd, H h = some (.ins z.H dx (fsHol tV (.ref kd))) := by
      match o, hol with
      | none, ⟨kd, dx, q⟩ => exact ⟨dx, _, kd, q⟩
      | some o, ⟨tb, kd, ks, q⟩ =>
        obtain ⟨dx, q⟩ := q.at_
        exact ⟨dx, _, kd, q⟩
    have h11 := s1 _ _ h1
    refine ⟨_, rfl, _, rfl, h, z.H, dx, _, rfl, h11, C.cl, C.no _ (by simp), by simp [fsHol], ?_⟩
    rw [holPutT]
    have g2 : Gr h H1 (L2.upd H1 h (.ins z.H dx (fsHol (.ref tb) (.ref kd)))) := gr_upd
    have t2 : TabS (L2.upd H1 h (.ins z.H dx (fsHol (.ref tb) (.ref kd)))) Tb lamQ := tab_upd h11 (hTb.ext s1)
    have h2 : (L2.upd H1 h (.ins z.H dx (fsHol (.ref tb) (.ref kd)))) h = some (.ins z.H dx (fsHol (.ref tb) (.ref kd))) := upd_same
    generalize (L2.upd H1 h (.ins z.H dx (fsHol (.ref tb) (.ref kd)))) = H2 at g2 t2 h2
    intro d hd
    have s3 := same_new (o := HO.dK []) hd
    have d3 : (L2.upd H2 d (.dK [])) d = some (.dK []) := upd_same
    generalize (L2.upd H2 d (.dK [])) = H3 at s3 d3
    have h3 := s3 _ _ h2
    refine ⟨_, rfl, h, z.H, dx, _, rfl, h3, C.cl, C.no _ (by simp), by simp [fsHol], ?_⟩
    rw [holPutK]
    have g4 : Gr h H3 (L2.upd H3 h (.ins z.H dx (fsHol (.ref tb) (.ref d)))) := gr_upd
    have t4 : TabS (L2.upd H3 h (.ins z.H dx (fsHol (.ref tb) (.ref d)))) Tb lamQ := tab_upd h3 (t2.ext s3)
    have h4 : (L2.upd H3 h (.ins z.H dx (fsHol (.ref tb) (.ref d)))) h = some (.ins z.H dx (fsHol (.ref tb) (.ref d))) := upd_same
    have d4 : (L2.upd H3 h (.ins z.H dx (fsHol (.ref tb) (.ref d)))) d = some (.dK []) := by rw [upd_ne (ne_of d3 h3 (by intro z; cases z))]; exact d3
    generalize (L2.upd H3 h (.ins z.H dx (fsHol (.ref tb) (.ref d)))) = H4 at g4 t4 h4 d4
    have hT4 : IsTab z H4 tb t := ((hT.gr h11 g2).mono s3).gr h3 g4
    obtain ⟨cl, rl, ql, cas, ras, qas, ⟨⟨dt, t1⟩, tc, tr, tq⟩, alc, alr, alq⟩ := id hT4
    refine ⟨_, rfl, tb, z.B, dt, _, _, rfl, t1, B.cl, B.no _ (by simp), tabCols, cl, _, rfl, .inl (SqL.of tc), ?_⟩
    refine ⟨_, rfl, tb, z.B, dt, _, _, rfl, t1, B.cl, B.no _ (by simp), tabRows, rl, _, rfl, .inl (SqL.of tr), ?_⟩
    refine ⟨_, rfl, tb, z.B, dt, _, _, rfl, t1, B.cl, B.no _ (by simp), tabAsks, ql, _, rfl, .inl (SqL.of tq), by simp [sz], fun m hm => ?_⟩
    rw [rV_len, rV_len, rV_len, alc.1, alr.1, alq.1]
    have s5 := same_new (o := HO.lst [V.int 1, .int (t.cols.length : Int), .int (t.rows.length : Int), .int (t.asks.length : Int)]) hm
    have gG : Gr h H (L2.upd H4 m (.lst [V.int 1, .int (t.cols.length : Int), .int (t.rows.length : Int), .int (t.asks.length : Int)])) := ((((Gr.of (ExtN.of s1)).trans g2).trans (Gr.of (ExtN.of s3))).trans g4).trans (Gr.of (ExtN.of s5))
    refine hQ m _ gG ⟨tb, d, [], ⟨dx, s5 _ _ h4⟩, hT4.mono s5, good, ⟨[], s5 _ _ d4, Al.nil⟩, KeptAs.nil t, by simp⟩ (t4.ext s5) (NoL.gr ((((Gr.of (ExtN.of s1)).trans g2).trans (Gr.of (ExtN.of s3))).trans g4) h1 hm) ?_
    exact upd_same
  · rw [e1]
    rw [e2, e3] at hQ
    intro d H1 sm hd
    refine ⟨true, T.flt.te, fun _ a ha => ?_, fun q => Bool.noConfusion q⟩
    refine ⟨_, rfl, rfl, rfl, d, _, _, rfl, hd, fFs_code, ?_⟩
    refine ⟨_, rfl, rfl, rfl, d, _, _, rfl, hd, fFs_place, by simp [sz], fun m hm => ?_⟩
    have s5 := sm.trans (same_new (o := HO.lst [V.int 0, .int (ff.code : Int), .int (ff.place : Int)]) hm)
    refine hQ m _ (Gr.of (ExtN.of s5)) (hol.ext (ExtN.of s5)) (hTb.ext s5) (NoL.ext (ExtN.of sm) hm) ?_
    exact upd_same
end
end Kg
namespace Kg
open PySem PySem.Spec PyProof.Rows L2 LamX
open Vamvsa (Ask Table Group)
/-- a def that a slot holds, its promise in the reading -/
def tCallH (P : Program) (w : World) (K : PySem.W.Frag) (mg : Str → Option Value) (base : Heap) (k i : Nat) (t : TA) : TE := fun σ H Q => ∃ f sp, σ[i]? = some (some (.ref f)) ∧ Held P w K mg base k f sp ∧ t σ H fun vs H1 => sp vs H1 Q (fun _ _ _ => False)
theorem pe_callH {X : Cx} {k i j : Nat} {x : Str} {e : Expr} {es : List Expr} {t : TA} {p pos : Pos} (hr : Room j X.A) (hkj : k ≤ j) (hN : X.N[i]? = some x) (hv : Vis X.env.scope x) (ha : PA X (e :: es) t)
    (hdb : (x == ("__debug__" : Str)) = false := by decide) (hcd : (x == ("__classdict__" : Str)) = false := by decide)
    (he : starEach (e :: es) X.env = (false, eval e X.env) :: starEach es X.env := by rfl) (hpl : (backTo pos (starEach es X.env)).any (·.1) = false := by rfl) : PE X (.Call (.Name x p) (e :: es) [] pos) (tCallH X.prog X.w X.K X.mg X.base k i t) := by
  refine ⟨fun pins s σ H Q I h => ?_⟩
  obtain ⟨f, sp, hs, A, ht⟩ := h
  obtain ⟨fd, ps, F, hk, hb⟩ := A.ex
  refine (pe_callL (i := i) (f := f) (sp := sp) (dvs := []) (E := fun _ _ _ => False) F (hr.mono hkj) hN hv hk hb .nil (fun _ _ _ _ _ _ _ z => z.elim) ha hdb hcd he hpl).run pins s σ H Q I ⟨hs, ?_⟩
  have app0 : (fun (vs : List V) (H1 : Hp) => sp (vs ++ []) H1 Q (fun _ _ _ => False)) = fun vs H1 => sp vs H1 Q (fun _ _ _ => False) := by
    funext vs H1
    rw [List.append_nil]
  show t σ H (fun vs H1 => sp (vs ++ []) H1 Q (fun _ _ _ => False))
  rw [app0]
  exact ht
theorem Ok.held {P : Program} {w : World} {K : PySem.W.Frag} {mg : Str → Option Value} {base : Heap} {k n : Nat} {x : Str} {ps : List Str} {sp : Sp} {f : Addr} (O : Ok P w K mg base CX0 k x ps sp) (hf : mg x = some (.ref f)) (hn : k ≤ n) : Held P w K mg base n f sp := by
  obtain ⟨f', fd, F, m, kp, b⟩ := O.ex
  rw [m] at hf
  cases hf
  exact ⟨fd, ps, F.mono hn, kp, b⟩
theorem inV_list (c : Int) : inV (.int c) [.int 0, .int 5] = decide (hasList c) := by
  show ((0 : Int) == c || ((5 : Int) == c || false)) = _
  rw [Bool.eq_iff_iff, decide_eq_true_iff]
  simp only [Bool.or_eq_true, beq_iff_eq, Bool.or_false]
  unfold hasList
  omega
section
variable {P : Program} {w : World} {K : PySem.W.Frag} {mg : Str → Option Value} {base : Heap} {z : Ads} {Tb : Addr} {aL aP aD : Addr}
abbrev sFirst : Stmt := topS 98
theorem scFirst : FnScope ["calls", "place"] ["calls", "place"] (defScope sFirst) := ⟨rfl, rfl, rfl, by decide +kernel, rfl, by decide +kernel, by decide +kernel⟩
def spFirst (K : PySem.W.Frag) : Sp := fun vs H Q _ => ∃ (a : Addr) (l : List Int) (p : Nat) (c : Int), vs = [.ref a, .int (p : Int)] ∧ SqL K H a (iV l) ∧ l[p]? = some c ∧ Q (.int (((if hasList c then p + 2 else p + 1) : Nat) : Int)) H
theorem iV_at {l : List Int} {i : Nat} {c : Int} (h : l[i]? = some c) : (iV l)[i]? = some (.int c) := by unfold iV; rw [List.getElem?_map, h]; rfl
theorem okFirst (D : Df K mg "first_number" sFirst ["calls", "place"]) (G : GT K mg "CALLS_WITH_A_LIST" [.int 0, .int 5] aL) : Ok P w K mg base CX0 1 "first_number" ["calls", "place"] (spFirst K) := by
  refine D.ok fun f fd F => F.ok scFirst (fun vs H Q E h => ?_) (fun cdv A outer s H vs Q E hr h => ?_)
  · obtain ⟨a, l, p, c, rfl, _⟩ := h
    rfl
  obtain ⟨a, l, p, c, rfl, hA, hc, hQ⟩ := h
  refine ⟨_, pss_cons (ps_if (pt_cmpR op_in_seq (pe_ix ix_list (pv 0) (pv 1) (fun _ _ => rfl)) (pe_gt G rfl) (by rfl)) (pss_one (ps_ret (pe_op op_add (pv 1) pe_int))) pss_nil)
    <| pss_one (ps_ret (pe_op op_add (pv 1) pe_int)), ?_⟩
  refine ⟨_, rfl, _, rfl, _, _, _, _, rfl, rfl, hA, at_of rfl (iV_at hc), _, _, rfl, .inr (G.2 _), rfl, rfl, _, rfl, ite2 (fun h2 => ?_) fun h2 => ?_⟩
  · have h2 : inV (.int c) [.int 0, .int 5] = true := h2
    rw [inV_list] at h2
    rw [if_pos (of_decide_eq_true h2)] at hQ
    exact ⟨_, rfl, _, _, rfl, rfl, hQ⟩
  · have h2 : ¬ inV (.int c) [.int 0, .int 5] = true := h2
    rw [inV_list] at h2
    rw [if_neg (fun q => h2 (decide_eq_true q))] at hQ
    exact ⟨_, rfl, _, _, rfl, rfl, hQ⟩
abbrev sManyNumbers : Stmt := topS 99
theorem scManyNumbers : FnScope ["calls", "place"] ["calls", "place"] (defScope sManyNumbers) := ⟨rfl, rfl, rfl, by decide +kernel, rfl, by decide +kernel, by decide +kernel⟩
def spManyNumbers (K : PySem.W.Frag) : Sp := fun vs H Q _ => ∃ (a : Addr) (l : List Int) (p : Nat) (c : Int) (n : Nat), vs = [.ref a, .int (p : Int)] ∧ SqL K H a (iV l) ∧ l[p]? = some c ∧ 0 ≤ c ∧ c ≤ 9 ∧ (hasList c → l[p + 1]? = some (n : Int)) ∧ (¬ hasList c → n = plainN c) ∧ Q (.int (n : Int)) H
theorem plain_at : ∀ {c : Int}, 0 ≤ c → c ≤ 9 → [V.int 0, .int 0, .int 1, .int 2, .int 0, .int 0, .int 1, .int 1, .int 0, .int 1][c.toNat]? = some (.int (plainN c : Int)) := fun {c} h0 h9 => by
  have e : c = 0 ∨ c = 1 ∨ c = 2 ∨ c = 3 ∨ c = 4 ∨ c = 5 ∨ c = 6 ∨ c = 7 ∨ c = 8 ∨ c = 9 := by omega
  rcases e with e | e | e | e | e | e | e | e | e | e <;> subst e <;> rfl
theorem okManyNumbers (D : Df K mg "how_many_numbers" sManyNumbers ["calls", "place"]) (G : GT K mg "CALLS_WITH_A_LIST" [.int 0, .int 5] aL) (G2 : GT K mg "PLAIN_NUMBERS" [.int 0, .int 0, .int 1, .int 2, .int 0, .int 0, .int 1, .int 1, .int 0, .int 1] aP) :
    Ok P w K mg base CX0 1 "how_many_numbers" ["calls", "place"] (spManyNumbers K) := by
  refine D.ok fun f fd F => F.ok scManyNumbers (fun vs H Q E h => ?_) (fun cdv A outer s H vs Q E hr h => ?_)
  · obtain ⟨a, l, p, c, n, rfl, _⟩ := h
    rfl
  obtain ⟨a, l, p, c, n, rfl, hA, hc, h0, h9, hl, hp, hQ⟩ := h
  refine ⟨_, pss_cons (ps_if (pt_cmpR op_in_seq (pe_ix ix_list (pv 0) (pv 1) (fun _ _ => rfl)) (pe_gt G rfl) (by rfl)) (pss_one (ps_ret (pe_ix ix_list (pv 0) (pe_op op_add (pv 1) pe_int) (fun _ _ => rfl)))) pss_nil)
    <| pss_one (ps_ret (pe_ix ix_tup (pe_gt G2 rfl) (pe_ix ix_list (pv 0) (pv 1) (fun _ _ => rfl)) (fun _ _ => rfl))), ?_⟩
  refine ⟨_, rfl, _, rfl, _, _, _, _, rfl, rfl, hA, at_of rfl (iV_at hc), _, _, rfl, .inr (G.2 _), rfl, rfl, _, rfl, ite2 (fun h2 => ?_) fun h2 => ?_⟩
  · have h2 : inV (.int c) [.int 0, .int 5] = true := h2
    rw [inV_list] at h2
    exact ⟨_, rfl, _, rfl, _, _, rfl, rfl, _, _, _, _, rfl, rfl, hA, at_of (j := p + 1) (by omega) (iV_at (hl (of_decide_eq_true h2))), hQ⟩
  · have h2 : ¬ inV (.int c) [.int 0, .int 5] = true := h2
    rw [inV_list] at h2
    rw [hp fun q => h2 (decide_eq_true q)] at hQ
    exact ⟨_, rfl, _, rfl, _, _, _, _, rfl, rfl, hA, at_of rfl (iV_at hc), _, _, _, _, rfl, rfl, G2.2 _, at_of (j := c.toNat) (by omega) (plain_at h0 h9), hQ⟩
abbrev sAnswerTo : Stmt := topS 100
theorem scAnswerTo : FnScope ["holder", "call", "numbers", "deed"] ["holder", "call", "numbers"] (defScope sAnswerTo) := ⟨rfl, rfl, rfl, by decide +kernel, rfl, by decide +kernel, by decide +kernel⟩
def spAnswerTo (z : Ads) (Tb : Addr) : Sp := fun vs H Q _ => ∃ (h na : Addr) (o : Vamvsa.Obj) (p : Int) (ns : List Int), vs = [.ref h, .int p, .ref na] ∧ IsHol z H h o ∧ 0 ≤ p ∧ p ≤ 9 ∧ H na = some (.lst (iV ns)) ∧ Ask1 p ns ∧ (¬ hasList p → ns.length = plainN p) ∧ TabS H Tb lamQ ∧
  ∀ l H', Gr h H H' → IsHol z H' h (nxt o p ns) → TabS H' Tb lamQ → NoL H l → H' l = some (.lst (iV (ans o p ns))) → Q (.ref l) H'
theorem okAnswerTo {fs : List Addr} (D : Df K mg "answer_to" sAnswerTo ["holder", "call", "numbers"]) (T : Tx P w K mg base z) (C : HlC K z) (G : GT K mg "DEEDS" (rV fs) aD) (DA : ∀ p : Int, 0 ≤ p → p ≤ 9 → ∃ f, fs[p.toNat]? = some f ∧ Held P w K mg base 8 f (spDeed z Tb p)) :
    Ok P w K mg base CX0 9 "answer_to" ["holder", "call", "numbers"] (spAnswerTo z Tb) := by
  refine D.ok fun f fd F => F.ok scAnswerTo (fun vs H Q E h => ?_) (fun cdv A outer s H vs Q E hr h => ?_)
  · obtain ⟨h, na, o, p, ns, rfl, _⟩ := h
    rfl
  obtain ⟨h, na, o, p, ns, rfl, hol, h0, h9, hna, ak, hl, hTb, hQ⟩ := h
  refine ⟨_, pss_cons (ps_if (PW.pt (pw_and (pt_cmp (pc_isN (pe_fld (pv 0) rfl))) (pw_and1 (pt_cmpR op_ne (pv 1) (pe_gi T.cst.LOAD rfl) (nomark _))))) (pss_one (ps_ret (pe_lst (pa_cons (pe_gi T.cst.NO_TABLE rfl) pa_nil)))) pss_nil)
    <| pss_cons (ps_set (i := 3) scAnswerTo.nd rfl (.inl rfl) (pe_ix ix_tup (pe_gt G rfl) (pv 1) (fun _ _ => rfl)))
    <| pss_one (ps_ret (pe_callH (k := 8) (i := 3) hr (by decide) rfl (.inl rfl) (pa_cons (pv 0) (pa_cons (pv 2) pa_nil)))), ?_⟩
  have sz := sizeLine_eq
  have rest : (o = none → p = 0) → (tSeq (tAsg (tOp (rIxT K) (tC (.ref aD)) (tVar 1)) (gName 3)) (tRet (tCallH P w K mg base 8 3 (tCons (tVar 0) (tCons (tVar 2) tNil))))) { nx := fun _ H' => Q .non H', rt := Q } (L2.start ["holder", "call", "numbers", "deed"] [.ref h, .int p, .ref na]) H := fun hn => by
    obtain ⟨f1, hf1, A1⟩ := DA p h0 h9
    refine ⟨_, rfl, aD, _, p, _, rfl, rfl, G.2 _, at_of (j := p.toNat) (by omega) (rV_at hf1), ?_⟩
    exact ⟨f1, _, rfl, A1, _, rfl, _, rfl, h, na, o, ns, rfl, hol, hn, hna, ak, hl, hTb, hQ⟩
  obtain _ | o := o
  · obtain ⟨kd, dx, h1⟩ := id hol
    refine ⟨_, rfl, h, z.H, dx, _, _, rfl, h1, C.cl, C.no _ (by simp), holTab, _, rfl, ite2 (fun _ => ?_) fun h => absurd rfl h⟩
    by_cases hp : p = 0
    · refine ⟨_, rfl, rfl, _, rfl, ite2 (fun h => absurd h (by rw [hp]; decide)) fun _ => ?_⟩
      exact rest fun _ => hp
    · refine ⟨_, rfl, rfl, _, rfl, ite2 (fun _ => ?_) fun h => absurd (by simpa using hp) h⟩
      obtain ⟨e1, e2⟩ := ans_none (p := p) (ns := ns) h0 h9 hl hp
      rw [e1, e2] at hQ
      exact ⟨by simp [sz], one_back hol hTb (ExtN.refl H) hTb hQ⟩
  · obtain ⟨tb, kd, ks, ho⟩ := id hol
    obtain ⟨dx, h1⟩ := ho.at_
    refine ⟨_, rfl, h, z.H, dx, _, _, rfl, h1, C.cl, C.no _ (by simp), holTab, _, rfl, ite2 (fun h => absurd h (by simp)) fun _ => ?_⟩
    refine ite2 (fun h => absurd h (by decide)) fun _ => ?_
    exact rest fun h => by cases h
end
end Kg
namespace Kg
open PySem PySem.Spec PyProof.Rows L2 LamX
open Vamvsa (Ask Table Group)
theorem iV_cut {l : List Int} {p q : Nat} (hp : p ≤ q) (hq : q ≤ l.length) : cutV (iV l) (some (p : Int)) (some (q : Int)) = iV ((l.drop p).take (q - p)) := by
  unfold cutV
  have e1 : HT.sIx (iV l).length 0 (some (p : Int)) = p := by
    rw [HT.sIx_nat, iV_len]
    exact Nat.min_eq_left (by omega)
  have e2 : HT.sIx (iV l).length (iV l).length (some (q : Int)) = q := by
    rw [HT.sIx_nat, iV_len]
    exact Nat.min_eq_left hq
  rw [e1, e2]
  unfold iV
  rw [List.map_take, List.map_drop]
theorem calls_nil {f : Nat} {cs : List (List (List Int))} (h : PyFlat.calls PyVamvsa.shape f [] = some cs) : cs = [] := by
  cases f <;> cases h <;> rfl
/-- one turn of the walk, at the level of lists -/
theorem turn_view {l : List Int} {p : Nat} {f : Nat} {cs : List (List (List Int))} (hp : p < l.length) (h : PyFlat.calls PyVamvsa.shape f (l.drop p) = some cs) :
    ∃ (c : Int) (ns : List Int) (f' : Nat) (cs' : List (List (List Int))) (a q : Nat), l[p]? = some c ∧ 0 ≤ c ∧ c ≤ 9 ∧ cs = callW c ns :: cs' ∧ (hasList c → l[p + 1]? = some (ns.length : Int)) ∧ (¬ hasList c → ns.length = plainN c) ∧ a = (if hasList c then p + 2 else p + 1) ∧ q = a + ns.length ∧ q ≤ l.length ∧
      (l.drop a).take ns.length = ns ∧ PyFlat.calls PyVamvsa.shape f' (l.drop q) = some cs' := by
  have hd : l.drop p = l[p] :: l.drop (p + 1) := List.drop_eq_getElem_cons hp
  rw [hd] at h
  obtain ⟨f', c1, t, cs', h1, h2, h3⟩ := calls_view h
  obtain ⟨h0, h9, ns, e1, e2⟩ := call_view h1
  have hat : l[p]? = some l[p] := List.getElem?_eq_getElem hp
  rcases e2 with ⟨hl, er⟩ | ⟨hl, en, er⟩
  · have hd2 : l.drop (p + 2) = ns ++ t := by
      have e : l.drop (p + 2) = (l.drop (p + 1)).drop 1 := by rw [List.drop_drop]
      rw [e, er]
      rfl
    have hlen : l.length - (p + 2) = ns.length + t.length := by
      have := congrArg List.length hd2
      rw [List.length_drop, List.length_append] at this
      exact this
    have hlt : p + 2 ≤ l.length := by
      have := congrArg List.length er
      rw [List.length_drop, List.length_cons] at this
      omega
    refine ⟨l[p], ns, f', cs', p + 2, p + 2 + ns.length, hat, h0, h9, by rw [h3, e1], fun _ => ?_, fun z => absurd hl z, by rw [if_pos hl], rfl, by omega, by rw [hd2, List.take_left], ?_⟩
    · have e : l[p + 1]? = (l.drop (p + 1))[0]? := by rw [List.getElem?_drop]
      rw [e, er]
      rfl
    · rw [← List.drop_drop, hd2, List.drop_left]
      exact h2
  · have hlen : l.length - (p + 1) = ns.length + t.length := by
      have := congrArg List.length er
      rw [List.length_drop, List.length_append] at this
      exact this
    refine ⟨l[p], ns, f', cs', p + 1, p + 1 + ns.length, hat, h0, h9, by rw [h3, e1], fun z => absurd z hl, fun _ => en, by rw [if_neg hl], rfl, by omega, by rw [er, List.take_left], ?_⟩
    rw [← List.drop_drop, er, List.drop_left]
    exact h2
/-! plain objects stay: nothing of the holder's stands where a frozen list is -/
def Plain (v : HO) : Prop := (∀ ps, v ≠ .tbl ps) ∧ ∀ od u, v ≠ .frz od u
def Pl (H H' : Hp) : Prop := ∀ b v, H b = some v → Plain v → H' b = some v
theorem plLst {xs : List V} : Plain (.lst xs) := ⟨fun _ z => (by cases z), fun _ _ z => (by cases z)⟩
theorem plTup {xs : List V} : Plain (.tup xs) := ⟨fun _ z => (by cases z), fun _ _ z => (by cases z)⟩
theorem plIns {C dx : Addr} {fs : List (Str × V)} : Plain (.ins C dx fs) := ⟨fun _ z => (by cases z), fun _ _ z => (by cases z)⟩
theorem plDK {kvs : List (Key × V)} : Plain (.dK kvs) := ⟨fun _ z => (by cases z), fun _ _ z => (by cases z)⟩
section
variable {z : Ads} {H H' : Hp}
theorem IsLn.pl {r : Addr} {g : Group} (s : Pl H H') (e : IsLn z H r g) : IsLn z H' r g := by
  obtain ⟨dl, tl, e1, e2⟩ := e
  exact ⟨dl, tl, s _ _ e1 plIns, s _ _ e2 plTup⟩
theorem IsAns.pl {t : Table} {r : Addr} {g : Nat} (s : Pl H H') (e : IsAns z H t r g) : IsAns z H' t r g := by
  obtain ⟨rs, e1, e2⟩ := e
  exact ⟨rs, s _ _ e1 plLst, e2.mono fun _ _ e => e.pl s⟩
theorem IsKept.pl {t : Table} {kd : Addr} {ks : List Nat} (s : Pl H H') (e : IsKept z H kd t ks) : IsKept z H' kd t ks := by
  obtain ⟨as, e1, e2⟩ := e
  exact ⟨as, s _ _ e1 plDK, e2.mono fun _ _ e => e.pl s⟩
theorem IsQu.pl {r : Addr} {q : Ask} (s : Pl H H') (e : IsQu z H r q) : IsQu z H' r q := by
  obtain ⟨dq, e1⟩ := e
  exact ⟨dq, s _ _ e1 plIns⟩
theorem IsTab.pl {tb : Addr} {t : Table} (s : Pl H H') (e : IsTab z H tb t) : IsTab z H' tb t := by
  obtain ⟨cl, rl, ql, cas, ras, qas, ⟨⟨dt, e1⟩, e2, e3, e5⟩, alc, alr, alq⟩ := e
  exact ⟨cl, rl, ql, cas, ras, qas, ⟨⟨dt, s _ _ e1 plIns⟩, s _ _ e2 plLst, s _ _ e3 plLst, s _ _ e5 plLst⟩, alc.mono (fun _ _ e => s _ _ e plLst), alr.mono fun _ _ e => e.pl s, alq.mono fun _ _ e => e.pl s⟩
theorem IsHol.pl {h : Addr} (s : Pl H H') : ∀ {o : Vamvsa.Obj}, IsHol z H h o → IsHol z H' h o
  | none, ⟨kd, dx, e⟩ => ⟨kd, dx, s _ _ e plIns⟩
  | some o, ⟨tb, kd, ks, e⟩ => by
    obtain ⟨⟨dx, e1⟩, e2, e3, e4, e5, e6⟩ := e
    exact ⟨tb, kd, ks, ⟨dx, s _ _ e1 plIns⟩, e2.pl s, e3, e4.pl s, e5, e6⟩
theorem pl_off {g : Addr} {od : Obj} {u x : HO} (h : H g = some (.frz od u)) : Pl H (L2.upd H g x) := fun b v e p => by
  by_cases c : b = g
  · rw [c, h] at e
    cases e
    exact absurd rfl (p.2 _ _)
  · rw [upd_ne c]
    exact e
theorem tab_off {Tb g : Addr} {v x : HO} (h : H g = some v) (n1 : ∀ ps, v ≠ .tbl ps) (n2 : v ≠ CodeO g lamQ) (t : TabS H Tb lamQ) : TabS (L2.upd H g x) Tb lamQ := by
  obtain ⟨ps, t1, t2, t3⟩ := t
  have n : ∀ {b : Addr} {y : HO}, H b = some y → (b = g → y ≠ v) → (L2.upd H g x) b = some y := fun {b y} e q => by
    by_cases c : b = g
    · have z := e
      rw [c, h] at z
      exact absurd (Option.some.inj z).symm (q c)
    · rw [upd_ne c]
      exact e
  refine ⟨ps, n t1 (fun _ z => n1 ps z.symm), t2, fun pos cv hc => ?_⟩
  obtain ⟨c1, e1, e2⟩ := t3 pos cv hc
  exact ⟨c1, e1, n e2 fun q z => n2 (by rw [← z, q])⟩
end
/-- the calls' list, apart from what is given -/
def ArgL (K : PySem.W.Frag) (gd : Addr) (H : Hp) (a : Addr) (l : List Int) : Prop := (∀ H' : Hp, SqL K H' a (iV l)) ∨ (a ≠ gd ∧ Rd H a (.lst (iV l)))
theorem ArgL.seq {K : PySem.W.Frag} {gd a : Addr} {H : Hp} {l : List Int} (q : ArgL K gd H a l) : SqL K H a (iV l) := by
  rcases q with q | ⟨_, q⟩
  · exact q H
  · exact .inl q
theorem ArgL.upd {K : PySem.W.Frag} {gd a : Addr} {H : Hp} {l : List Int} {x : HO} (q : ArgL K gd H a l) : ArgL K gd (L2.upd H gd x) a l := by
  rcases q with q | ⟨n, q⟩
  · exact .inl q
  · refine .inr ⟨n, ?_⟩
    unfold Rd at q ⊢
    rw [upd_ne n]
    exact q
theorem ArgL.gr {K : PySem.W.Frag} {gd a h C dx : Addr} {H H' : Hp} {l : List Int} {fs : List (Str × V)} (g : Gr h H H') (hh : H h = some (.ins C dx fs)) (q : ArgL K gd H a l) : ArgL K gd H' a l := by
  rcases q with q | ⟨n, q | ⟨o, q⟩⟩
  · exact .inl q
  · exact .inr ⟨n, .inl (g _ _ (ne_of q hh (by intro z; cases z)) q (fun _ z => by cases z))⟩
  · exact .inr ⟨n, .inr ⟨o, g _ _ (ne_of q hh (by intro z; cases z)) q (fun _ z => by cases z)⟩⟩
theorem ArgL.same {K : PySem.W.Frag} {gd a : Addr} {H H' : Hp} {l : List Int} (s : Same H H') (q : ArgL K gd H a l) : ArgL K gd H' a l := by
  rcases q with q | ⟨n, q | ⟨o, q⟩⟩
  · exact .inl q
  · exact .inr ⟨n, .inl (s _ _ q)⟩
  · exact .inr ⟨n, .inr ⟨o, s _ _ q⟩⟩
theorem ArgL.of {K : PySem.W.Frag} {gd a : Addr} {H : Hp} {l : List Int} (n : H gd = none) (q : SqL K H a (iV l)) : ArgL K gd H a l := by
  rcases q with q | q
  · refine .inr ⟨?_, q⟩
    rcases q with q | ⟨o, q⟩
    · exact ne_of_none q n
    · exact ne_of_none q n
  · exact .inl fun H' => .inr q
/-- how a holder is made -/
structure HlM (P : Program) (w : World) (K : PySem.W.Frag) (mg : Str → Option Value) (base : Heap) (z : Ads) : Prop where
  g : mg "Holder" = some (.ref z.H)
  ini : ∃ f fd, Mk K z.H f ∧ FnOk P w K mg base CX0 1 f fd ["self"] (spHolI z.H) ∧ Binds K fd ["self"] []
section
variable {P : Program} {w : World} {K : PySem.W.Frag} {mg : Str → Option Value} {base : Heap} {z : Ads} {Tb : Addr}
abbrev sAnswers : Stmt := topS 97
theorem scAnswers : FnScope ["calls", "holder", "given", "place", "first", "behind", "answered"] ["calls"] (defScope sAnswers) := ⟨rfl, rfl, rfl, by decide +kernel, rfl, by decide +kernel, by decide +kernel⟩
def spAnswers (K : PySem.W.Frag) (Tb : Addr) : Sp := fun vs H Q _ => ∃ (a : Addr) (l : List Int), vs = [.ref a] ∧ SqL K H a (iV l) ∧ TabS H Tb lamQ ∧ PyVamvsa.answers_asked l = true ∧ ∀ r H', H' r = some (.lst (iV (PyVamvsa.answers l))) → Q (.ref r) H'
theorem okAnswers (D : Df K mg "answers" sAnswers ["calls"]) (T : Tx P w K mg base z) (M : HlM P w K mg base z) (O1 : Ok P w K mg base CX0 1 "first_number" ["calls", "place"] (spFirst K)) (O2 : Ok P w K mg base CX0 1 "how_many_numbers" ["calls", "place"] (spManyNumbers K))
    (O3 : Ok P w K mg base CX0 9 "answer_to" ["holder", "call", "numbers"] (spAnswerTo z Tb)) : Ok P w K mg base CX0 10 "answers" ["calls"] (spAnswers K Tb) := by
  refine D.ok fun f fd F => F.ok scAnswers (fun vs H Q E h => ?_) (fun cdv A outer s H vs Q E hr h => ?_)
  · obtain ⟨a, l, rfl, _⟩ := h
    rfl
  obtain ⟨a, l, rfl, hA, hTb, ask, hQ⟩ := h
  obtain ⟨fI, fdI, mk, FI, bI⟩ := M.ini
  have sz := sizeLine_eq
  refine ⟨_, pss_cons (ps_set (i := 1) scAnswers.nd rfl (.inl rfl) (pe_make0 mk FI (hr.mono (by decide)) rfl M.g bI .nil pass0))
    <| pss_cons (ps_set (i := 2) scAnswers.nd rfl (.inl rfl) (pe_lst pa_nil))
    <| pss_cons (ps_set (i := 3) scAnswers.nd rfl (.inl rfl) pe_int)
    <| pss_cons (ps_while PassesOwn.never (pt_cmpR op_lt (pv 3) (pe_callB cr_len (by rfl) T.blt.len PySem.boot_len (pa_cons (pv 0) pa_nil)) (nomark _))
        (pss_cons (ps_set (i := 4) scAnswers.nd rfl (.inl rfl) (pe_ok O1 hr (by decide) rfl pass0 (pa_cons (pv 0) (pa_cons (pv 3) pa_nil))))
        <| pss_cons (ps_set (i := 5) scAnswers.nd rfl (.inl rfl) (pe_op op_add (pv 4) (pe_ok O2 hr (by decide) rfl pass0 (pa_cons (pv 0) (pa_cons (pv 3) pa_nil)))))
        <| pss_cons (ps_set (i := 6) scAnswers.nd rfl (.inl rfl) (pe_lock (pe_ok O3 hr (by decide) rfl pass0 (pa_cons (pv 1) (pa_cons (pe_ix ix_list (pv 0) (pv 3) (fun _ _ => rfl)) (pa_cons (pe_slice sl_list (pv 0) (po_some (pv 4)) (po_some (pv 5))) pa_nil))))))
        <| pss_cons (ps_expr (pe_bm PySem.F.plainAttrs_list PySem.F.slot_list_append PySem.F.type_list_append mt_append (pv 2) (pa_cons (pe_callB cr_len (by rfl) T.blt.len PySem.boot_len (pa_cons (pv 6) pa_nil)) pa_nil)))
        <| pss_cons (ps_expr (pe_bm PySem.F.plainAttrs_list PySem.F.slot_list_extend PySem.F.type_list_extend mt_extend (pv 2) (pa_cons (pv 6) pa_nil)))
        <| pss_one (ps_set (i := 3) scAnswers.nd rfl (.inl rfl) (pv 5))))
    <| pss_one (ps_ret (pv 2)), ?_⟩
  obtain ⟨cs, hcs, hask, hans, hmax⟩ := asked_view ask
  intro h dh nh nd ne
  refine ⟨h, dh, rfl, upd_same, fun H1 d but hh hd0 nd0 => ⟨rfl, ?_⟩⟩
  have s1 : Same H H1 := fun b o e => by
    have n1 := ne_of_none e nh
    refine but b o n1 ?_
    rw [upd_ne n1, upd_ne (ne_of_none e nd)]
    exact e
  refine ⟨Nat.zero_le _, fun gd hgd => ?_⟩
  have s2 := same_new (o := HO.lst []) hgd
  have gd2 : (L2.upd H1 gd (.lst [])) gd = some (.lst []) := upd_same
  generalize (L2.upd H1 gd (.lst [])) = H2 at s2 gd2
  have arg2 : ArgL K gd H2 a l := (ArgL.of hgd (s1.seq hA)).same s2
  have hol0 : ∀ x, IsHol z (L2.upd H2 gd x) h none := fun x => ⟨d, dh, by rw [upd_ne (ne_of_none hh hgd)]; exact s2 _ _ hh⟩
  refine ⟨fun m σ H' => ∃ (p : Nat) (o : Vamvsa.Obj) (cs : List (List (List Int))) (f : Nat) (gv : List Int) (v4 v5 v6 : Option V), σ = [some (.ref a), some (.ref h), some (.ref gd), some (.int (p : Int)), v4, v5, v6] ∧ m = l.length - p ∧ p ≤ l.length ∧ PyFlat.calls PyVamvsa.shape f (l.drop p) = some cs ∧
      (∀ c ∈ cs, VamvsaNeutral.asked1 c = true) ∧ PyVamvsa.answers l = gv ++ PyFlat.told (PyFlat.played VamvsaNeutral.step o cs) ∧ ArgL K gd H' a l ∧ (∀ x, IsHol z (L2.upd H' gd x) h o) ∧ TabS H' Tb lamQ ∧ H' gd = some (.lst (iV gv)),
    ⟨_, 0, none, cs, l.length, [], none, none, none, rfl, rfl, Nat.zero_le _, by rw [List.drop_zero]; exact hcs, hask, by rw [hans]; rfl, arg2, hol0, (hTb.ext s1).ext s2, gd2⟩, ?_⟩
  rintro m σ H3 ⟨p, o, cs, f, gv, v4, v5, v6, rfl, rfl, hp, hc, hak, hres, hA3, hol3, hTb3, hgd3⟩
  refine ⟨_, rfl, _, rfl, a, _, rfl, .inl (hA3.seq), _, _, rfl, rfl, _, rfl, ite2 (fun h1 => ?_) fun h1 => ?_⟩
  · have hlt : p < l.length := by
      have z := of_decide_eq_true h1
      rw [iV_len] at z
      omega
    obtain ⟨c, ns, f', cs', fa, q, g1, g2, g3, g4, g5, g6, g7, g8, g9, g10, g11⟩ := turn_view hlt hc
    subst g4
    have ak : Ask1 c ns := hak _ List.mem_cons_self
    refine ⟨fun σ' H' => ∃ m', m' < l.length - p ∧ ∃ (p : Nat) (o : Vamvsa.Obj) (cs : List (List (List Int))) (f : Nat) (gv : List Int) (v4 v5 v6 : Option V), σ' = [some (.ref a), some (.ref h), some (.ref gd), some (.int (p : Int)), v4, v5, v6] ∧ m' = l.length - p ∧ p ≤ l.length ∧ PyFlat.calls PyVamvsa.shape f (l.drop p) = some cs ∧
      (∀ c ∈ cs, VamvsaNeutral.asked1 c = true) ∧ PyVamvsa.answers l = gv ++ PyFlat.told (PyFlat.played VamvsaNeutral.step o cs) ∧ ArgL K gd H' a l ∧ (∀ x, IsHol z (L2.upd H' gd x) h o) ∧ TabS H' Tb lamQ ∧ H' gd = some (.lst (iV gv)), fun σ' H' hN => hN, ?_⟩
    refine ⟨_, rfl, _, rfl, a, l, p, c, rfl, hA3.seq, g1, ?_⟩
    rw [← g7]
    refine ⟨_, rfl, _, rfl, _, rfl, a, l, p, c, ns.length, rfl, hA3.seq, g1, g2, g3, g5, fun z => g6 z, _, _, rfl, rfl, ?_⟩
    have eq : ((fa : Int) + (ns.length : Int)) = ((q : Nat) : Int) := by omega
    refine ⟨gd, _, hgd3, True.intro, fun od => ?_⟩
    have holL := hol3 (.frz od (.lst (iV gv)))
    have tbL : TabS (L2.upd H3 gd (.frz od (.lst (iV gv)))) Tb lamQ := tab_off hgd3 (fun _ z => by cases z) (fun z => by unfold CodeO at z; cases z) hTb3
    have aL : ArgL K gd (L2.upd H3 gd (.frz od (.lst (iV gv)))) a l := hA3.upd
    have gL : (L2.upd H3 gd (.frz od (.lst (iV gv)))) gd = some (.frz od (.lst (iV gv))) := upd_same
    generalize (L2.upd H3 gd (.frz od (.lst (iV gv)))) = HL at holL tbL aL gL
    refine ⟨_, rfl, _, rfl, _, rfl, a, _, (p : Int), _, rfl, rfl, aL.seq, at_of rfl (iV_at g1), ?_⟩
    refine ⟨_, rfl, _, rfl, _, rfl, _, rfl, _, rfl, a, _, rfl, aL.seq, fun na hna => ?_⟩
    have ecut : cutV (iV l) (some (fa : Int)) (some ((fa : Int) + (ns.length : Int))) = iV ns := by
      rw [eq, iV_cut (by omega) g9]
      have e : q - fa = ns.length := by omega
      rw [e, g10]
    have s4 := same_new (o := HO.lst (iV ns)) hna
    have na4 : (L2.upd HL na (.lst (iV ns))) na = some (.lst (iV ns)) := upd_same
    rw [ecut]
    generalize (L2.upd HL na (.lst (iV ns))) = H4 at s4 na4
    refine ⟨h, na, o, c, ns, rfl, holL.ext (ExtN.of s4), g2, g3, na4, ak, g6, tbL.ext s4, fun r H5 gr5 hol5 hTb5 nl5 r5 => ?_⟩
    obtain ⟨hx, hh4, hho⟩ : ∃ x, H4 h = some x ∧ ∃ dx fs, x = .ins z.H dx fs := by
      match o, holL.ext (ExtN.of s4) with
      | none, ⟨kd, dx, q⟩ => exact ⟨_, q, _, _, rfl⟩
      | some o, ⟨tb, kd, ks, q⟩ =>
        obtain ⟨dx, q⟩ := q.at_
        exact ⟨_, q, _, _, rfl⟩
    obtain ⟨dxh, fsh, rfl⟩ := hho
    have gd4 := s4 _ _ gL
    have gd5 := gr5 _ _ (ne_of gd4 hh4 (by intro z; cases z)) gd4 (fun _ z => by cases z)
    have a5 : ArgL K gd H5 a l := (aL.same s4).gr gr5 hh4
    have rgd : r ≠ gd := ne_of r5 gd5 (by intro z; cases z)
    have hres' : PyVamvsa.answers l = (gv ++ ((ans o c ns).length : Int) :: ans o c ns) ++ PyFlat.told (PyFlat.played VamvsaNeutral.step (nxt o c ns) cs') := by
      rw [hres, played_cons, told_cons]
      show gv ++ (((ans o c ns).length : Int) :: (ans o c ns ++ _)) = _
      simp only [List.append_assoc, List.cons_append]
      rfl
    have hsum : (gv ++ ((ans o c ns).length : Int) :: ans o c ns).length ≤ 10000000 := by
      rw [hres', List.length_append] at hmax
      omega
    rw [List.length_append, List.length_cons] at hsum
    refine ⟨gd5, ?_⟩
    have r6 : (L2.upd H5 gd (.lst (iV gv))) r = some (.lst (iV (ans o c ns))) := by rw [upd_ne rgd]; exact r5
    have gd6 : (L2.upd H5 gd (.lst (iV gv))) gd = some (.lst (iV gv)) := upd_same
    refine ⟨_, rfl, .inl ⟨rfl, _, SqL.of gd6⟩, _, rfl, r, _, rfl, .inl (SqL.of r6), gd, _, _, rfl, rfl, gd6, ?_, ?_⟩
    · rw [iV_len, sz]; omega
    rw [upd_upd]
    have r7 : (L2.upd H5 gd (.lst (iV gv ++ [.int ((iV (ans o c ns)).length : Int)]))) r = some (.lst (iV (ans o c ns))) := by rw [upd_ne rgd]; exact r5
    have gd7 : (L2.upd H5 gd (.lst (iV gv ++ [.int ((iV (ans o c ns)).length : Int)]))) gd = some (.lst (iV gv ++ [.int ((iV (ans o c ns)).length : Int)])) := upd_same
    refine ⟨_, rfl, .inl ⟨rfl, _, SqL.of gd7⟩, _, rfl, gd, r, _, _, rfl, rfl, gd7, r7, ?_, ?_⟩
    · rw [List.length_append, iV_len, iV_len, sz]; show _ + 1 + _ ≤ _; omega
    rw [upd_upd]
    have ev : iV gv ++ [.int ((iV (ans o c ns)).length : Int)] ++ iV (ans o c ns) = iV (gv ++ ((ans o c ns).length : Int) :: ans o c ns) := by
      rw [iV_app, iV_len, List.append_assoc]
      rfl
    have pfa : p < fa := by
      rw [g7]
      split <;> omega
    refine ⟨_, rfl, l.length - q, by omega, q, nxt o c ns, cs', f', _, some (.int (fa : Int)), some (.int ((fa : Int) + (ns.length : Int))), some (.ref r), ?_, rfl, g9, g11, fun c hc => hak c (List.mem_cons_of_mem _ hc), hres', ?_, fun x => ?_, tab_off gd5 (fun _ z => by cases z) (fun z => by unfold CodeO at z; cases z) hTb5, ?_⟩
    · rw [← eq]
      rfl
    · exact a5.upd
    · rw [upd_upd]
      exact hol5.pl (pl_off gd5)
    · rw [upd_same, ev]
  · have e : p = l.length := by
      have z := of_decide_eq_false (Bool.eq_false_iff.mpr h1)
      rw [iV_len] at z
      omega
    rw [e, List.drop_length] at hc
    have ec := calls_nil hc
    rw [ec] at hres
    have hres : PyVamvsa.answers l = gv ++ [] := hres
    rw [List.append_nil] at hres
    exact ⟨_, rfl, hQ gd H3 (by rw [hres]; exact hgd3)⟩
end
end Kg
/-! The end of a Spec row whose program makes a lambda: one table of code objects is tracked. -/
namespace Kg
open PySem PySem.Spec PyProof.Rows L2 LamX
open PySem.W (WData Codec OpenSpec WellAll ReadsW)
/-- what is tracked: the arguments' lists, and the table -/
def trkT (K : PySem.W.Frag) (h : Heap) (A : List Addr) (Tb : Addr) : Hp := L2.upd (argH K h A) Tb (.tbl #[])
section
variable {P : Program} {w : World} {K : PySem.W.Frag} {mg mb : Str → Option Value} {k : Nat} {fa c Tb : Addr} {fd : FuncData} {ps : List Str} {sp : Sp} {h : Heap} {A : List Addr}
/-- how the tracked objects look -/
theorem trk_is (ar : ∀ a ∈ A, ArgOb h A a) (ht : h.get? Tb = some { cls := .none, data := .fields #[] }) {b : Addr} {o : Obj} {u : HO} (e : h.get? b = some o) (q : trkT K h A Tb b = some u) : (b = Tb ∧ o.data = .fields #[]) ∨ (K.lookup b = none ∧ (∃ xs n, o.data = .seq xs n) ∧ ∃ y, u = .frz o y) := by
  by_cases cb : b = Tb
  · subst cb
    rw [ht] at e
    cases e
    exact .inl ⟨rfl, rfl⟩
  · rw [show trkT K h A Tb b = argH K h A b from upd_ne cb] at q
    obtain ⟨n, vs, _, _, ⟨e2, eu⟩ | ⟨e2, eu⟩⟩ := argH_is ar q
    · rw [e2] at e
      cases e
      exact .inr ⟨n, ⟨_, _, rfl⟩, _, eu⟩
    · rw [e2] at e
      cases e
      exact .inr ⟨n, ⟨_, _, rfl⟩, _, eu⟩
theorem trk_other (ar : ∀ a ∈ A, ArgOb h A a) (ht : h.get? Tb = some { cls := .none, data := .fields #[] }) {b : Addr} {o : Obj} (e : h.get? b = some o) (n1 : o.data ≠ .fields #[]) (n2 : ∀ xs n, o.data ≠ .seq xs n) : trkT K h A Tb b = none := by
  cases q : trkT K h A Tb b with
  | none => rfl
  | some u =>
    rcases trk_is ar ht e q with ⟨_, z⟩ | ⟨_, ⟨xs, n, z⟩, _⟩
    · exact absurd z n1
    · exact absurd z (n2 xs n)
theorem trk_ok (ar : ∀ a ∈ A, ArgOb h A a) (ht : h.get? Tb = some { cls := .none, data := .fields #[] }) : HOk P w (trkT K h A Tb) h := fun b u q => by
  have nT : argH K h A Tb = none := by
    cases z : argH K h A Tb with
    | none => rfl
    | some u =>
      obtain ⟨_, vs, _, _, ⟨e2, _⟩ | ⟨e2, _⟩⟩ := argH_is ar z
      · rw [ht] at e2; cases e2
      · rw [ht] at e2; cases e2
  by_cases cb : b = Tb
  · subst cb
    rw [show trkT K h A b b = some (.tbl #[]) from upd_same] at q
    cases q
    exact ht
  · rw [show trkT K h A Tb b = argH K h A b from upd_ne cb] at q
    exact (argH_ok (P := P) (w := w) ar b u q).stay (fun _ _ _ e => e) (fun d e => by rw [show trkT K h A Tb d = argH K h A d from upd_ne (ne_of_none e nT)]; exact e) fun d xs e => by rw [show trkT K h A Tb d = argH K h A d from upd_ne (ne_of_none e nT)]; exact e
theorem trk_same (ar : ∀ a ∈ A, ArgOb h A a) (ht : h.get? Tb = some { cls := .none, data := .fields #[] }) : Same (argH K h A) (trkT K h A Tb) := fun b u q => by
  have n : b ≠ Tb := fun z => by
    obtain ⟨_, vs, _, _, ⟨e2, _⟩ | ⟨e2, _⟩⟩ := argH_is ar q
    · rw [z, ht] at e2; cases e2
    · rw [z, ht] at e2; cases e2
  exact (upd_ne n).trans q
end
/-- the call of the row's def -/
theorem callT {P : Program} {w : World} {K : PySem.W.Frag} {mg mb : Str → Option Value} {k : Nat} {fa c Tb : Addr} {nm : Str} {ps : List Str} {sp : Sp} {st : Shared} {vals : List Value} {ds : List WData} {R : PySem.W.WRecords} {cl : Str → Option Addr} {d0 : WData}
    (kin : K.In st.heap) (glob : st.heap.Ns mainGlobals mg) (blt : st.heap.Ns builtinsNs mb) (boot : ∀ x : Str, x ≠ "__name__" → mb x = bootBuiltins x) (free : st.heap.NoLimit) (still : st.gens = #[])
    (table : st.heap.get? Tb = some { cls := .none, data := .fields #[] }) (loose : K.lookup Tb = none) (code : PySem.W.CodeHd st.heap c Tb)
    (bmain : ∃ (bm : Addr) (ob : Obj), mg "__builtins__" = some (.ref bm) ∧ bm ≠ builtinsNs ∧ st.heap.get? bm = some ob ∧ ob.cls = .type "module" ∧ ob.dict = some builtinsNs ∧ ob.data = .plain)
    (well : WellAll w.params st.heap vals ds) (plain : plWs ds = true) (weight : ∀ d ∈ ds, d.weight ≤ 1048576) (room : Room k callerA)
    (F : ∀ base : Heap, K.In base → base.Ns mainGlobals mg → TabB base mg c Tb → Ok P w K mg base CX0 k nm ps sp) (named : mg nm = some (.ref fa)) (many : ds.length = ps.length)
    (told : ∀ (H0 H : Hp) (xs : List V), Same H0 H → H Tb = some (.tbl #[]) → DwAll K H0 xs ds → sp xs H (fun v H' => Dw K H' v d0) fun _ _ _ => False) :
    codeAny (model P w) callerA (.call (.ref fa) ⟨vals, []⟩) (fun r s' => ∃ u as, r = .ok (.ret u) ∧ ReadsW R cl s'.heap u d0 as ∧ OldK st.heap s'.heap ∧ s'.os = st.os ∧ AllBare s'.gens) st := by
  obtain ⟨A, inA, ar⟩ := area_all ds vals well plain weight
  have words := dw_all kin ar ds vals well plain inA
  have sm := trk_same (K := K) ar table
  have tbl : trkT K st.heap A Tb Tb = some (.tbl #[]) := upd_same
  have hold : HOk P w (trkT K st.heap A Tb) st.heap := trk_ok ar table
  have frag : ∀ b o, K.lookup b = some o → trkT K st.heap A Tb b = none := fun b o e => by
    cases q : trkT K st.heap A Tb b with
    | none => rfl
    | some u =>
      rcases trk_is ar table (kin b o e) q with ⟨z, _⟩ | ⟨z, _⟩
      · rw [z, loose] at e; cases e
      · rw [z] at e; cases e
  have bare : ∀ {b : Addr} {o : Obj}, st.heap.get? b = some o → o.data ≠ .fields #[] → (∀ xs n, o.data ≠ .seq xs n) → (hidT st.heap (trkT K st.heap A Tb)).get? b = some o := fun {b o} e n1 n2 => hidT_get e (trk_other ar table e n1 n2)
  have names : ∀ {b : Addr} {m : Str → Option Value}, st.heap.Ns b m → (hidT st.heap (trkT K st.heap A Tb)).Ns b m := fun {b m} ⟨o, es, ep, e, d, r⟩ =>
    ⟨o, es, ep, bare e (fun z => by rw [d] at z; cases z) (fun xs n z => by rw [d] at z; cases z), d, r⟩
  have kinB : K.In (hidT st.heap (trkT K st.heap A Tb)) := fun b o e => hidT_get (kin b o e) (frag b o e)
  have modB : Mod K mg (hidT st.heap (trkT K st.heap A Tb)) := ⟨kinB, names glob, ⟨mb, names blt, boot⟩, free.elim fun mc z => ⟨mc, names z.1, z.2⟩⟩
  have tabB : TabB (hidT st.heap (trkT K st.heap A Tb)) mg c Tb := by
    obtain ⟨o, us, file, tf, fl, tg, inF, text, tt, e1, q1, q2, q3, rest⟩ := code
    refine ⟨⟨o, us, file, tf, fl, tg, inF, text, tt, bare e1 (fun z => ?_) (fun xs n z => by rw [q2] at z; cases z), q1, q2, q3, rest⟩, ?_, fun z => ?_⟩
    · rw [q2] at z
      cases z
      simp at q3
    · obtain ⟨bm, ob, b1, b2, b3, b4, b5, b6⟩ := bmain
      refine ⟨bm, ob, b1, b2, fun z => ?_, fun z => ?_, bare b3 (fun z => by rw [b6] at z; cases z) (fun xs n z => by rw [b6] at z; cases z), b4, b5, b6⟩
      · obtain ⟨o2, es, ep, e2, d2, _⟩ := glob
        rw [z, e2] at b3
        cases b3
        rw [d2] at b6
        cases b6
      · rw [z, table] at b3
        cases b3
        cases b6
    · obtain ⟨o2, es, ep, e2, d2, _⟩ := glob
      rw [z, table] at e2
      cases e2
      cases d2
  have env : Env0 P w K mg (hidT st.heap (trkT K st.heap A Tb)) callerA [] st (trkT K st.heap A Tb) :=
    ⟨rfl, modB, fun _ _ e => of_hidT e, Nat.le_of_eq (hidT_size _ _), trivial, fun b z => absurd (show b ∈ ([] : List Addr) from z) (by simp), hold, .of_eq still⟩
  obtain ⟨fa', fd, FO, here, _, bind⟩ := (F _ kinB (names glob) tabB).ex
  rw [named] at here
  cases here
  have as_many : (vals ++ []).length = ps.length := by
    rw [List.append_nil]
    exact (wellAll_len well).trans many
  have bound := bind st vals kin as_many
  rw [List.append_nil] at bound
  have go := FO.run callerA [] st (trkT K st.heap A Tb) ⟨vals, []⟩ vals (vals.map toV) _ _ room env bound (vals_toV inA) (told _ _ _ sm tbl words)
  refine codeAny_mono go fun r s' x => ?_
  match r, x with
  | .error e, x => exact False.elim (show False from x)
  | .ok (.ret u), ⟨v, H', os, alive, un, hold', rel, q⟩ =>
    have old : ∀ b o, b ≠ Tb → st.heap.get? b = some o → s'.heap.get? b = some o := fun b o nb e => by
      cases z : trkT K st.heap A Tb b with
      | none => exact un.keep b o e z (fun m => absurd (show b ∈ ([] : List Addr) from m) (by simp)) (by simp)
      | some y =>
        rcases trk_is ar table e z with ⟨z2, _⟩ | ⟨_, _, y2, ey⟩
        · exact absurd z2 nb
        · subst ey
          exact (show ObjOk P w H' s'.heap b (.frz o y2) from hold' b _ (un.frzs b o y2 z)).1
    have kin' : K.In s'.heap := fun b o e => old b o (fun z => by rw [z, loose] at e; cases e) (kin b o e)
    obtain ⟨as, reads⟩ := Dw.reads (R := R) (cl := cl) hold' kin' d0 v u q rel
    obtain ⟨more, grown⟩ := un.tbls Tb #[] tbl
    have grown := hold' Tb _ grown
    refine ⟨u, as, rfl, reads, ⟨fun b o e => ?_, fun b o e => ?_⟩, os, alive⟩
    · by_cases cb : b = Tb
      · subst cb
        rw [table] at e
        cases e
        exact .inr (.inl ⟨(code.tab table).isCodeTable, rfl, #[], more, rfl, by rw [Array.empty_append]; exact (show s'.heap.get? b = some _ from grown).trans (by rw [Array.empty_append])⟩)
      · exact .inl (old b o cb e)
    · by_cases cb : b = Tb
      · subst cb
        exact ⟨_, grown⟩
      · exact ⟨o, old b o cb e⟩
  | .ok .next, x => exact False.elim x
  | .ok .brk, x => exact False.elim x
  | .ok .cont, x => exact False.elim x
end Kg
namespace Kg
open PySem PySem.Spec PyProof.Rows L2 LamX
open PySem.W (WData Codec OpenSpec WellAll ReadsW)
/-- the row, from the promise of its def, where the def named x makes a lambda -/
theorem walkT {r : OpenSpec} {k : Nat} {q : Program} {loose : List Str} {XP : (Str → Option Value) → Heap → Prop} {YP : World → Heap → Prop} {d dS : DefRec} {K : Params → PySem.W.Frag} {ps : List Str} {sp : PySem.W.Frag → Addr → Sp} {x : Str}
    (said : r.wellSaid = true) (many : r.args.length = ps.length) (room : Room k callerA) (rec : (recsOf q).find? (fun e => e.name == x) = some dS)
    (inK : ∀ (w : World) (h : Heap), YP w h → (K w.params).In h)
    (F : ∀ (w : World) (mg : Str → Option Value) (fa : Addr) (h : Heap), YP w h → (K w.params).In h → h.Ns mainGlobals mg → mg d.name = some (.ref fa) →
      ∃ (c Tb : Addr), PySem.W.tabIn (K w.params) x = some (c, Tb) ∧ (K w.params).lookup Tb = none ∧
        ∀ base : Heap, (K w.params).In base → base.Ns mainGlobals mg → TabB base mg c Tb → Ok r.prog w (K w.params) mg base CX0 k d.name ps (sp (K w.params) Tb))
    (told : ∀ (K : PySem.W.Frag) (Tb : Addr) (H0 H : Hp) (xs : List V) (a : Codec.denoteAll r.args), Same H0 H → H Tb = some (.tbl #[]) → Codec.withinAll r.args a = true → Codec.app r.args r.asked a = true → DwAll K H0 xs (Codec.encAll r.args a) →
      sp K Tb xs H (fun v H' => Dw K H' v (r.ret.enc (Codec.app r.args r.f a))) fun _ _ _ => False) :
    PySem.W.WalkOS q loose XP YP r d [] (fun f vs => PySem.call f vs) := by
  intro w s0 st mg mb G Y fa o pm cd doc dV kV _ _ _ _ hmg still args vals as pre lay _ well _
  obtain ⟨a, decs, asked⟩ := PySem.W.os_pre_some pre
  obtain ⟨e, within⟩ := Codec.encAll_of_decAll r.args args a decs
  subst e
  have kin := inK w _ Y
  obtain ⟨c, Tb, tab, non, hF⟩ := F w mg fa _ Y kin G.T.g hmg
  obtain ⟨code, table⟩ := PySem.W.tab_of G.T kin rec tab
  have go := callT (R := []) (cl := classAt s0.heap) (d0 := r.ret.enc (Codec.app r.args r.f a)) kin G.T.g G.T.b G.T.builtins G.T.nolimit still table non code G.T.bmain well (pl_encAll _ _) (layable_weight lay) room hF hmg ((encAll_len _ _).trans many)
    (fun H0 H xs sm hT hD => told _ _ H0 H xs a sm hT within asked hD)
  refine PySem.W.enter_call (codeAny_mono go fun r' s' x => ?_)
  obtain ⟨u, as', rfl, h1, h2, h3, h4⟩ := x
  exact ⟨.inl ⟨u, _, as', rfl, fun _ => rfl, h1, (OpenSpec.post_iff said within _ _).mpr rfl, fun z => Bool.noConfusion (show false = true from z)⟩, h2, h3, h4⟩
/-- the promise of answers, as the row tells it -/
theorem toldOf {K : PySem.W.Frag} {Tb : Addr} {H0 H : Hp} {xs : List V} {l : List Int} {g : VK} (sm : Same H0 H) (hT : H Tb = some (.tbl #[])) (ask : PyVamvsa.answers_asked l = true) (hD : DwAll K H0 xs [.list (l.map WData.int)]) (hg : ∀ v H', Dw K H' v (.list ((PyVamvsa.answers l).map WData.int)) → g v H') {E : XK} :
    spAnswers K Tb xs H g E := by
  cases hD with
  | cons h1 h2 =>
    cases h2
    cases h1 with
    | lst hs ha =>
      have e := ints_dw l _ ha
      subst e
      refine ⟨_, l, rfl, sm.seq hs, TabS.nil hT, ask, fun r H' hr => hg _ _ (.lst (SqL.of hr) (dw_ints _))⟩
end Kg
/-! All that the written part tells, put together. -/
namespace Kg
open PySem PySem.Spec PyProof.Rows L2 LamX
open PySem.W (nsIn findIn keepIn codeIn makesIn plainGet hasDictIn plainOver isFn typeIn subIn isClsIn tabIn)
/-- a def of the top, as the written part tells it -/
structure KDf (K : PySem.W.Frag) (x : Str) (st : Stmt) : Prop where
  ex : ∃ (f : Addr) (oc : Value) (od : Option Addr) (kV doc pm : Value) (an : Option Addr) (cdv ct : Value) (osl : Array (Option Value)), nsIn K mainGlobals x = some (some (.ref f)) ∧
    K.lookup f = some ⟨oc, od, .func (PySem.W.fnOf x x (defArgs st) (defBody st) (defScope st) .none kV doc pm an cdv ct), osl⟩ ∧ codeIn K cdv x = true ∧ keepIn K (.ref f) = true
theorem kDf {K : PySem.W.Frag} {x : Str} {st : Stmt} {f : Addr} {oc : Value} {od : Option Addr} {kV doc pm : Value} {an : Option Addr} {cdv ct : Value} {osl : Array (Option Value)} (a : nsIn K mainGlobals x = some (some (.ref f)))
    (l : K.lookup f = some ⟨oc, od, .func (PySem.W.fnOf x x (defArgs st) (defBody st) (defScope st) .none kV doc pm an cdv ct), osl⟩) (c : codeIn K cdv x = true) (k : keepIn K (.ref f) = true) : KDf K x st :=
  ⟨f, oc, od, kV, doc, pm, an, cdv, ct, osl, a, l, c, k⟩
/-- one of the ten deeds: its address is known -/
structure KDd (K : PySem.W.Frag) (x : Str) (st : Stmt) (f : Addr) : Prop where
  d : KDf K x st
  at_ : nsIn K mainGlobals x = some (some (.ref f))
theorem kDd {K : PySem.W.Frag} {x : Str} {st : Stmt} {f : Addr} {oc : Value} {od : Option Addr} {kV doc pm : Value} {an : Option Addr} {cdv ct : Value} {osl : Array (Option Value)} (a : nsIn K mainGlobals x = some (some (.ref f)))
    (l : K.lookup f = some ⟨oc, od, .func (PySem.W.fnOf x x (defArgs st) (defBody st) (defScope st) .none kV doc pm an cdv ct), osl⟩) (c : codeIn K cdv x = true) (k : keepIn K (.ref f) = true) : KDd K x st f :=
  ⟨kDf a l c k, a⟩
/-- the def that makes a lambda: its code object is known -/
structure KDc (K : PySem.W.Frag) (x : Str) (st : Stmt) (c : Addr) : Prop where
  ex : ∃ (f : Addr) (oc : Value) (od : Option Addr) (kV doc pm : Value) (an : Option Addr) (ct : Value) (osl : Array (Option Value)), nsIn K mainGlobals x = some (some (.ref f)) ∧
    K.lookup f = some ⟨oc, od, .func (PySem.W.fnOf x x (defArgs st) (defBody st) (defScope st) .none kV doc pm an (.ref c) ct), osl⟩ ∧ codeIn K (.ref c) x = true ∧ keepIn K (.ref f) = true
theorem kDc {K : PySem.W.Frag} {x : Str} {st : Stmt} {f c : Addr} {oc : Value} {od : Option Addr} {kV doc pm : Value} {an : Option Addr} {ct : Value} {osl : Array (Option Value)} (a : nsIn K mainGlobals x = some (some (.ref f)))
    (l : K.lookup f = some ⟨oc, od, .func (PySem.W.fnOf x x (defArgs st) (defBody st) (defScope st) .none kV doc pm an (.ref c) ct), osl⟩) (cd : codeIn K (.ref c) x = true) (k : keepIn K (.ref f) = true) : KDc K x st c :=
  ⟨f, oc, od, kV, doc, pm, an, ct, osl, a, l, cd, k⟩
/-- a method -/
structure KMe (K : PySem.W.Frag) (C : Addr) (m q : Str) (st : Stmt) : Prop where
  ex : ∃ (f : Addr) (oc : Value) (od : Option Addr) (kV doc pm : Value) (an : Option Addr) (cdv ct : Value) (osl : Array (Option Value)), findIn K (.ref C) m = some (some (.ref f)) ∧ isFn K (.ref f) = true ∧ typeIn K (.ref f) = some (.type "function") ∧
    K.lookup f = some ⟨oc, od, .func (PySem.W.fnOf m q (defArgs st) (defBody st) (defScope st) .none kV doc pm an cdv ct), osl⟩ ∧ codeIn K cdv q = true ∧ keepIn K (.ref f) = true
theorem kMe {K : PySem.W.Frag} {C : Addr} {m q : Str} {st : Stmt} {f : Addr} {oc : Value} {od : Option Addr} {kV doc pm : Value} {an : Option Addr} {cdv ct : Value} {osl : Array (Option Value)} (a : findIn K (.ref C) m = some (some (.ref f))) (i : isFn K (.ref f) = true) (t : typeIn K (.ref f) = some (.type "function"))
    (l : K.lookup f = some ⟨oc, od, .func (PySem.W.fnOf m q (defArgs st) (defBody st) (defScope st) .none kV doc pm an cdv ct), osl⟩) (c : codeIn K cdv q = true) (k : keepIn K (.ref f) = true) : KMe K C m q st :=
  ⟨f, oc, od, kV, doc, pm, an, cdv, ct, osl, a, i, t, l, c, k⟩
/-- a plain class -/
structure KCl (K : PySem.W.Frag) (x : Str) (C : Addr) : Prop where
  g : nsIn K mainGlobals x = some (some (.ref C))
  makes : makesIn K C = true
  kp : keepIn K (.ref C) = true
  cl : Cls K C
theorem kCl {K : PySem.W.Frag} {x : Str} {C : Addr} (a : nsIn K mainGlobals x = some (some (.ref C))) (b : makesIn K C = true) (c : keepIn K (.ref C) = true) (d : plainGet K C Str.empty = true) (e : hasDictIn K C = true) (f : plainOver K C = true)
    (g : findIn K (.ref C) "__setattr__" = some (some (.builtin "object.__setattr__"))) : KCl K x C := ⟨a, b, c, ⟨d, e, f, g⟩⟩
/-- a tuple of the top -/
structure KTu (K : PySem.W.Frag) (x : Str) (xs : List V) : Prop where
  ex : ∃ (a : Addr) (od : Option Addr) (its : Array Value) (n : Nat) (osl : Array (Option Value)), nsIn K mainGlobals x = some (some (.ref a)) ∧ K.lookup a = some ⟨.type "tuple", od, .seq its n, osl⟩ ∧ its.size ≤ sizeLine ∧ Vals xs its.toList
theorem kTu {K : PySem.W.Frag} {x : Str} {xs : List V} {a : Addr} {od : Option Addr} {its : Array Value} {n : Nat} {osl : Array (Option Value)} (e : nsIn K mainGlobals x = some (some (.ref a))) (l : K.lookup a = some ⟨.type "tuple", od, .seq its n, osl⟩) (r : Vals xs its.toList) (z : xs.length ≤ 16) : KTu K x xs :=
  ⟨a, od, its, n, osl, e, l, by
    have q := r.length
    have q2 : its.toList.length = its.size := Array.length_toList ..
    have q3 : xs.length = its.toList.length := q
    have sz := sizeLine_eq
    omega, r⟩
/-- a dict of the top -/
structure KDi (P : Program) (w : World) (K : PySem.W.Frag) (x : Str) (kvs : List (Key × V)) : Prop where
  ex : ∃ (a : Addr) (es : Array DictEntry) (ep : Nat) (vs : List (Key × Value)), nsIn K mainGlobals x = some (some (.ref a)) ∧ K.lookup a = some ⟨.type "dict", none, .dict es ep, #[]⟩ ∧ (a == sysModules) = false ∧ KV kvs vs ∧
    Paired (fun (e : DictEntry) (p : Key × Value) => (mixKind P w).is p.1 e.key = true ∧ e.hash = (mixKind P w).hash p.1 ∧ e.val = p.2) es.toList vs ∧ (vs.map (·.1)).Nodup
theorem kDi {P : Program} {w : World} {K : PySem.W.Frag} {x : Str} {kvs : List (Key × V)} {a : Addr} {es : Array DictEntry} {ep : Nat} {vs : List (Key × Value)} (e : nsIn K mainGlobals x = some (some (.ref a))) (l : K.lookup a = some ⟨.type "dict", none, .dict es ep, #[]⟩) (s : (a == sysModules) = false)
    (p : Paired (fun (e : DictEntry) (p : Key × Value) => (mixKind P w).is p.1 e.key = true ∧ e.hash = (mixKind P w).hash p.1 ∧ e.val = p.2) es.toList vs) (r : KV kvs vs) (n : (vs.map (·.1)).Nodup) : KDi P w K x kvs := ⟨a, es, ep, vs, e, l, s, r, p, n⟩
theorem kSg {P : Program} {w : World} {K : PySem.W.Frag} {a : Addr} {es : Array DictEntry} {ep : Nat} {t1 t2 t3 t4 : Tok} (e : nsIn K mainGlobals "SIGNS" = some (some (.ref a))) (l : K.lookup a = some ⟨.type "dict", none, .dict es ep, #[]⟩) (s : (a == sysModules) = false)
    (p : Paired (fun (e : DictEntry) (p : Key × Value) => (mixKind P w).is p.1 e.key = true ∧ e.hash = (mixKind P w).hash p.1 ∧ e.val = p.2) es.toList [(Sum.inl 44, .str "," t1), (Sum.inl 58, .str ":" t2), (Sum.inl 59, .str ";" t3), (Sum.inl 45, .str "-" t4)]) : KDi P w K "SIGNS" kvSigns :=
  kDi e l s p (.cons ⟨rfl, _, rfl⟩ (.cons ⟨rfl, _, rfl⟩ (.cons ⟨rfl, _, rfl⟩ (.cons ⟨rfl, _, rfl⟩ .nil)))) (by
    show [Sum.inl 44, Sum.inl 58, Sum.inl 59, (Sum.inl 45 : Key)].Nodup
    decide +kernel)
theorem ents_ok {P : Program} {w : World} {es : List DictEntry} {vs : List (Key × Value)} (p : Paired (fun (e : DictEntry) (p : Key × Value) => (mixKind P w).is p.1 e.key = true ∧ e.hash = (mixKind P w).hash p.1 ∧ e.val = p.2) es vs) :
    (∀ e ∈ es, ∃ k, (mixKind P w).is k e.key = true ∧ e.hash = (mixKind P w).hash k) ∧ PySem.Pairs (mixKind P w) es vs := by
  induction p with
  | nil => exact ⟨fun e h => (nomatch h), .nil⟩
  | cons h t ih =>
    refine ⟨fun e he => ?_, .cons h.1 h.2.2 ih.2⟩
    rcases List.mem_cons.mp he with z | z
    · rw [z]; exact ⟨_, h.1, h.2.1⟩
    · exact ih.1 e z
section
variable {P : Program} {w : World} {K : PySem.W.Frag} {mg : Str → Option Value} {base : Heap} {h : Heap}
theorem KDf.df {x : Str} {st : Stmt} {ps : List Str} (D : KDf K x st) (X : K.In h) (G : h.Ns mainGlobals mg) (b : ∀ (kV doc pm : Value) (an : Option Addr) (cdv ct : Value) (us : List Value), us.length = ps.length → bindArgs (PySem.W.fnOf x x (defArgs st) (defBody st) (defScope st) .none kV doc pm an cdv ct) ⟨us, []⟩ = pure (ps.zip us)) : Df K mg x st ps := by
  obtain ⟨f, oc, od, kV, doc, pm, an, cdv, ct, osl, a, l, c, k⟩ := D.ex
  have F := fun_mk (st := st) l c k
  exact ⟨f, _, F, PySem.W.mg_of X G a, F.binds b⟩
theorem KDc.dfc {x : Str} {st : Stmt} {ps : List Str} {cd Tb : Addr} (D : KDc K x st cd) (X : K.In h) (G : h.Ns mainGlobals mg) (b : ∀ (kV doc pm : Value) (an : Option Addr) (cdv ct : Value) (us : List Value), us.length = ps.length → bindArgs (PySem.W.fnOf x x (defArgs st) (defBody st) (defScope st) .none kV doc pm an cdv ct) ⟨us, []⟩ = pure (ps.zip us)) (tb : TabB base mg cd Tb) : DfC K mg base x st ps Tb := by
  obtain ⟨f, oc, od, kV, doc, pm, an, ct, osl, a, l, c, k⟩ := D.ex
  have F := fun_mk (st := st) l c k
  exact ⟨f, oc, od, kV, doc, pm, an, cd, ct, osl, l, c, k, PySem.W.mg_of X G a, F.binds b, tb⟩
theorem KMe.dfm {C : Addr} {m q : Str} {st : Stmt} {ps : List Str} (D : KMe K C m q st) (b : ∀ (kV doc pm : Value) (an : Option Addr) (cdv ct : Value) (us : List Value), us.length = ps.length → bindArgs (PySem.W.fnOf m q (defArgs st) (defBody st) (defScope st) .none kV doc pm an cdv ct) ⟨us, []⟩ = pure (ps.zip us)) : DfM K C m q st ps := by
  obtain ⟨f, oc, od, kV, doc, pm, an, cdv, ct, osl, a, i, t, l, c, k⟩ := D.ex
  have F := fun_mk (st := st) l c k
  exact ⟨f, _, F, ⟨a, i, k⟩, F.binds b⟩
theorem KTu.gt {x : Str} {xs : List V} (D : KTu K x xs) (X : K.In h) (G : h.Ns mainGlobals mg) : ∃ a, GT K mg x xs a := by
  obtain ⟨a, od, its, n, osl, e, l, z, r⟩ := D.ex
  exact ⟨a, PySem.W.mg_of X G e, fun H => .inr ⟨_, its, n, l, rfl, rfl, z, r⟩⟩
theorem KDi.gd {x : Str} {kvs : List (Key × V)} (D : KDi P w K x kvs) (X : K.In h) (G : h.Ns mainGlobals mg) : GD P w K mg x kvs := by
  obtain ⟨a, es, ep, vs, e, l, s, r, p, n⟩ := D.ex
  obtain ⟨q1, q2⟩ := ents_ok p
  exact ⟨a, _, vs, PySem.W.mg_of X G e, l, s, r, fun h' hh => ⟨_, es, ep, hh, ⟨rfl, rfl, rfl⟩, rfl, fun e he => q1 e (Array.mem_toList_iff.mpr he), q2, n⟩⟩
/-- a class whose __init__ stores its parameters -/
theorem KCl.mkc {x q : Str} {C : Addr} {st : Stmt} {ps names : List Str} {fs : List V → List (Str × V)} (c : KCl K x C) (m : KMe K C "__init__" q st) (X : K.In h) (G : h.Ns mainGlobals mg) (no : ∀ n ∈ names, NoAttr K C n)
    (o : ∀ f fd, Fun K "__init__" q st f fd → FnOk P w K mg base CX0 1 f fd (("self" : Str) :: ps) (spInit C fs ps.length)) (b : ∀ (kV doc pm : Value) (an : Option Addr) (cdv ct : Value) (us : List Value), us.length = (("self" : Str) :: ps).length → bindArgs (PySem.W.fnOf "__init__" q (defArgs st) (defBody st) (defScope st) .none kV doc pm an cdv ct) ⟨us, []⟩ = pure ((("self" : Str) :: ps).zip us)) : Mkc P w K mg base x C ps names fs := by
  obtain ⟨f, oc, od, kV, doc, pm, an, cdv, ct, osl, a, i, t, l, cd, k⟩ := m.ex
  have F := fun_mk (st := st) l cd k
  exact ⟨c.cl, PySem.W.mg_of X G c.g, ⟨f, _, ⟨c.makes, a, i, c.kp⟩, o f _ F, F.binds b⟩, no⟩
theorem KCl.ini {x q : Str} {C : Addr} {st : Stmt} {ps : List Str} {sp : Sp} (c : KCl K x C) (m : KMe K C "__init__" q st) (o : ∀ f fd, Fun K "__init__" q st f fd → FnOk P w K mg base CX0 1 f fd ps sp)
    (b : ∀ (kV doc pm : Value) (an : Option Addr) (cdv ct : Value) (us : List Value), us.length = ps.length → bindArgs (PySem.W.fnOf "__init__" q (defArgs st) (defBody st) (defScope st) .none kV doc pm an cdv ct) ⟨us, []⟩ = pure (ps.zip us)) : ∃ f fd, Mk K C f ∧ FnOk P w K mg base CX0 1 f fd ps sp ∧ Binds K fd ps [] := by
  obtain ⟨f, oc, od, kV, doc, pm, an, cdv, ct, osl, a, i, t, l, cd, k⟩ := m.ex
  have F := fun_mk (st := st) l cd k
  exact ⟨f, _, ⟨c.makes, a, i, c.kp⟩, o f _ F, F.binds b⟩
theorem gi_of {x : Str} {i : Int} {t : Tok} (X : K.In h) (G : h.Ns mainGlobals mg) (e : nsIn K mainGlobals x = some (some (.int i t))) : GI mg x i := ⟨t, PySem.W.mg_of X G e⟩
/-- an error of the program's class is caught by it -/
theorem caught {S : Addr} (h1 : subIn K (.ref S) (.type "BaseException") = some true) (h2 : isClsIn K S = true) (h3 : typeIn K (.ref S) = some (.type "type")) (h4 : subIn K (.ref S) (.ref S) = some true) : PySem.W.exmOne K (.ref S) (.ref S) = some true := by
  have e1 : (subIn K (.ref S) (.type "BaseException") == some true) = true := by rw [h1]; rfl
  have e2 : ((PySem.W.clsIn K S).isSome && typeIn K (.ref S) == some (.type "type")) = true := by
    have q : (PySem.W.clsIn K S).isSome = true := h2
    rw [q, h3]
    rfl
  show (if (subIn K (.ref S) (.type "BaseException") == some true) = true then (if ((PySem.W.clsIn K S).isSome && typeIn K (.ref S) == some (.type "type")) = true then subIn K (.ref S) (.ref S) else none) else none) = some true
  rw [if_pos e1, if_pos e2, h4]

theorem allOk {zF zT zC zL zQ zB zH c Tb f0 f1 f2 f3 f4 f5 f6 f7 f8 f9 : Addr} {t0 t1 t2 t3 t4 t5 t6 t7 t8 t9 t10 t11 t12 t13 t14 t15 t16 t17 t18 t19 t20 t21 t22 t23 t24 t25 t26 : Tok} {nm qn : Str} {N : Addr} {bs : List Value} {sn : List Str} {sub : List Value} {ab : Bool} {col : Option Bool} {dd : Option Addr} {k0 k1 k2 k3 k5 : Option Value} (X : K.In h) (G : h.Ns mainGlobals mg)
    (b_len : nsIn K mainGlobals "len" = some none) (b_range : nsIn K mainGlobals "range" = some none) (b_ord : nsIn K mainGlobals "ord" = some none) (b_min : nsIn K mainGlobals "min" = some none)
    (b_sum : nsIn K mainGlobals "sum" = some none) (b_all : nsIn K mainGlobals "all" = some none) (b_sorted : nsIn K mainGlobals "sorted" = some none) (b_tuple : nsIn K mainGlobals "tuple" = some none)
    (b_str : nsIn K mainGlobals "str" = some none) (b_dict : nsIn K mainGlobals "dict" = some none) (b_exc : nsIn K mainGlobals "Exception" = some none) (c_TOO_LONG : nsIn K mainGlobals "TOO_LONG" = some (some (.int 1 t0)))
    (c_NO_TOKEN : nsIn K mainGlobals "NO_TOKEN" = some (some (.int 2 t1))) (c_NOT_ALLOWED : nsIn K mainGlobals "NOT_ALLOWED" = some (some (.int 3 t2))) (c_TOO_MANY : nsIn K mainGlobals "TOO_MANY" = some (some (.int 4 t3)))
    (c_COLUMN_TWICE : nsIn K mainGlobals "COLUMN_TWICE" = some (some (.int 5 t4))) (c_ASKED_TWICE : nsIn K mainGlobals "ASKED_TWICE" = some (some (.int 6 t5))) (c_OUT_OF_BOUNDS : nsIn K mainGlobals "OUT_OF_BOUNDS" = some (some (.int 7 t6)))
    (c_NO_COLUMN : nsIn K mainGlobals "NO_COLUMN" = some (some (.int 8 t7))) (c_FROM_TABLE : nsIn K mainGlobals "FROM_TABLE" = some (some (.int (-1) t8))) (c_LINE_FEED : nsIn K mainGlobals "LINE_FEED" = some (some (.int 10 t9)))
    (c_REMARK : nsIn K mainGlobals "REMARK" = some (some (.int 35 t10))) (c_DIGIT_ZERO : nsIn K mainGlobals "DIGIT_ZERO" = some (some (.int 48 t11))) (c_LONGEST_NAME : nsIn K mainGlobals "LONGEST_NAME" = some (some (.int 16 t12)))
    (c_LONGEST_NUMBER : nsIn K mainGlobals "LONGEST_NUMBER" = some (some (.int 10 t13))) (c_GREATEST_NUMBER : nsIn K mainGlobals "GREATEST_NUMBER" = some (some (.int 1000000000 t14)))
    (c_LONGEST_TEXT : nsIn K mainGlobals "LONGEST_TEXT" = some (some (.int 4096 t15))) (c_MOST_COLUMNS : nsIn K mainGlobals "MOST_COLUMNS" = some (some (.int 4 t16))) (c_MOST_ROWS : nsIn K mainGlobals "MOST_ROWS" = some (some (.int 16 t17)))
    (c_MOST_QUESTIONS : nsIn K mainGlobals "MOST_QUESTIONS" = some (some (.int 8 t18))) (c_GREATEST_VALUE : nsIn K mainGlobals "GREATEST_VALUE" = some (some (.int 9 t19)))
    (c_GREATEST_AMOUNT : nsIn K mainGlobals "GREATEST_AMOUNT" = some (some (.int 1000 t20))) (c_MOST_TIMES : nsIn K mainGlobals "MOST_TIMES" = some (some (.int 99 t21)))
    (c_NO_TABLE : nsIn K mainGlobals "NO_TABLE" = some (some (.int (-1) t22))) (c_NO_GROUPING : nsIn K mainGlobals "NO_GROUPING" = some (some (.int (-2) t23))) (c_NO_QUESTION : nsIn K mainGlobals "NO_QUESTION" = some (some (.int (-3) t24)))
    (c_NOT_WORKED_OUT : nsIn K mainGlobals "NOT_WORKED_OUT" = some (some (.int (-5) t25))) (c_LOAD : nsIn K mainGlobals "LOAD" = some (some (.int 0 t26))) (h_is_digit : KDf K "is_digit" sIsDigit) (h_is_letter : KDf K "is_letter" sIsLetter)
    (h_behind_remark : KDf K "behind_remark" sBehindRemark) (h_behind_blanks : KDf K "behind_blanks" sBehindBlanks) (h_bytes_of : KDf K "bytes_of" sBytesOf) (h_value_of : KDf K "value_of" sValueOf)
    (h_kind_of_word : KDf K "kind_of_word" sKindOfWord) (h_word_at : KDf K "word_at" sWordAt) (h_number_at : KDf K "number_at" sNumberAt) (h_token_at : KDf K "token_at" sTokenAt) (h_tokens_of : KDf K "tokens_of" sTokensOf)
    (h_sees : KMe K zC "sees" "Cursor.sees" sSees) (h_take : KMe K zC "take" "Cursor.take" sTake) (h_skips : KMe K zC "skips" "Cursor.skips" sSkips) (h_read_number : KDf K "read_number" sReadNumber)
    (h_read_amount : KDf K "read_amount" sReadAmount) (h_read_column : KDf K "read_column" sReadColumn) (h_read_columns : KDf K "read_columns" sReadColumns) (h_read_row : KDf K "read_row" sReadRow)
    (h_read_asked : KDf K "read_asked" sReadAsked) (h_read_question : KDf K "read_question" sReadQuestion) (h_table_of : KDf K "table_of" sTableOf) (h_how_many_groupings : KDf K "how_many_groupings" sHowMany)
    (h_is_grouping : KDf K "is_grouping" sIsGrouping) (h_can_be_worked_out : KDf K "can_be_worked_out" sCanBe) (h_columns_of : KDf K "columns_of" sColumnsOf) (h_merged : KDf K "merged" sMerged)
    (h_lines_from_table : KDf K "lines_from_table" sFromTable) (h_lines_from_answer : KDf K "lines_from_answer" sFromAnswer) (h_sizes_of_all : KDf K "sizes_of_all" sSizesOfAll) (h_kept_answers : KDf K "kept_answers" sKeptAnswers)
    (h_with_one_more : KDf K "with_one_more" sOneMore) (h_lines_together : KDf K "lines_together" sTogether) (h_cost_from : KDf K "cost_from" sCostFrom) (h_source_read : KDc K "source_read" sSourceRead c)
    (h_cost_of_all : KDf K "cost_of_all" sCostAll) (h_lines_read : KDf K "lines_read" sLinesRead) (h_listed : KDf K "listed" sListed) (h_columns_line : KDf K "columns_line" sColsLine) (h_row_line : KDf K "row_line" sRowLine)
    (h_question_line : KDf K "question_line" sAskLine) (h_one_form : KDf K "one_form" sOneForm) (h_told : KDf K "told" sTold) (d_shown : KDd K "shown" sShown f1) (d_group : KDd K "group" sGroup f2) (d_roll : KDd K "roll" sRoll f3)
    (d_sizes : KDd K "sizes" sSizes f4) (h_is_question : KDf K "is_question" sIsQuestion) (d_cost : KDd K "cost" sCost f6) (d_answer : KDd K "answer" sAnswer f7) (d_total : KDd K "total" sTotal f8) (d_gain : KDd K "gain" sGain f9)
    (d_keep : KDd K "keep" sKeep f5) (d_load : KDd K "load" sLoad f0) (h_first_number : KDf K "first_number" sFirst) (h_how_many_numbers : KDf K "how_many_numbers" sManyNumbers) (h_answer_to : KDf K "answer_to" sAnswerTo)
    (h_answers : KDf K "answers" sAnswers) (h_BLANKS : KTu K "BLANKS" [.int 32, .int 9, .int 10]) (h_WORDS : KTu K "WORDS" wordsV) (h_CALLS_WITH_A_LIST : KTu K "CALLS_WITH_A_LIST" [.int 0, .int 5])
    (h_PLAIN_NUMBERS : KTu K "PLAIN_NUMBERS" [.int 0, .int 0, .int 1, .int 2, .int 0, .int 0, .int 1, .int 1, .int 0, .int 1]) (h_DEEDS : KTu K "DEEDS" (rV [f0, f1, f2, f3, f4, f5, f6, f7, f8, f9])) (h_SIGNS : KDi P w K "SIGNS" kvSigns)
    (k_Token : KCl K "Token" zT) (i_Token : KMe K zT "__init__" "Token.__init__" sTokenInit) (n_Token_kind : findIn K (.ref zT) "kind" = some none) (n_Token_said : findIn K (.ref zT) "said" = some none)
    (n_Token_place : findIn K (.ref zT) "place" = some none) (n_Token_behind : findIn K (.ref zT) "behind" = some none) (k_Cursor : KCl K "Cursor" zC) (i_Cursor : KMe K zC "__init__" "Cursor.__init__" sCursorInit)
    (n_Cursor_tokens : findIn K (.ref zC) "tokens" = some none) (n_Cursor_position : findIn K (.ref zC) "position" = some none) (k_Line : KCl K "Line" zL) (i_Line : KMe K zL "__init__" "Line.__init__" sLineInit)
    (n_Line_numbers : findIn K (.ref zL) "numbers" = some none) (n_Line_amount : findIn K (.ref zL) "amount" = some none) (n_Line_count : findIn K (.ref zL) "count" = some none) (k_Question : KCl K "Question" zQ)
    (i_Question : KMe K zQ "__init__" "Question.__init__" sQuestionInit) (n_Question_grouping : findIn K (.ref zQ) "grouping" = some none) (n_Question_times : findIn K (.ref zQ) "times" = some none) (k_Table : KCl K "Table" zB)
    (i_Table : KMe K zB "__init__" "Table.__init__" sTableInit) (n_Table_columns : findIn K (.ref zB) "columns" = some none) (n_Table_rows : findIn K (.ref zB) "rows" = some none)
    (n_Table_questions : findIn K (.ref zB) "questions" = some none) (k_Holder : KCl K "Holder" zH) (i_Holder : KMe K zH "__init__" "Holder.__init__" sHolderInit) (n_Holder_table : findIn K (.ref zH) "table" = some none)
    (n_Holder_kept : findIn K (.ref zH) "kept" = some none) (e_g : nsIn K mainGlobals "Fault" = some (some (.ref zF))) (e_l : K.lookup zF = some (excClassObj nm qn zF N bs bmE true sn sub ab col dd k0 k1 k2 k3 k5 "Exception.__new__"))
    (e_sa : findIn K (.ref zF) "__setattr__" = some (some (.builtin "object.__setattr__"))) (e_b : subIn K (.ref zF) (.type "BaseException") = some true) (e_t : typeIn K (.ref zF) = some (.type "type")) (e_k : keepIn K (.ref zF) = true)
    (e_i : isClsIn K zF = true) (e_s : subIn K (.ref zF) (.ref zF) = some true) (e_ga : findIn K (.ref zF) "__getattribute__" = some (some (.builtin "BaseException.__getattribute__"))) (e_gg : findIn K (.ref zF) "__getattr__" = some none)
    (e_hd : hasDictIn K zF = true) (e_c : findIn K (.ref zF) "code" = some none) (e_p : findIn K (.ref zF) "place" = some none)
    (e_v : PySem.W.findCls K (.type "Exception") (.type "type") "__init__" = some (.val (.builtin "Exception.__init__"))) (i_Fault : KMe K zF "__init__" "Fault.__init__" sFaultInit) (h_tab : tabIn K "source_read" = some (c, Tb))
    (h_off : K.lookup Tb = none) :
    ∃ c Tb : Addr, tabIn K "source_read" = some (c, Tb) ∧ K.lookup Tb = none ∧ ∀ base : Heap, K.In base → base.Ns mainGlobals mg → TabB base mg c Tb → Ok P w K mg base CX0 10 "answers" ["calls"] (spAnswers K Tb) := by
  refine ⟨c, Tb, h_tab, h_off, fun base _ _ tb => ?_⟩
  obtain ⟨aB, gB⟩ := h_BLANKS.gt X G
  obtain ⟨aW, gW⟩ := h_WORDS.gt X G
  obtain ⟨aL, gL⟩ := h_CALLS_WITH_A_LIST.gt X G
  obtain ⟨aP, gP⟩ := h_PLAIN_NUMBERS.gt X G
  obtain ⟨aD, gD⟩ := h_DEEDS.gt X G
  have BLT : Blt mg := { len := PySem.W.mg_none_of X G b_len, range := PySem.W.mg_none_of X G b_range, ord := PySem.W.mg_none_of X G b_ord, min := PySem.W.mg_none_of X G b_min, sum := PySem.W.mg_none_of X G b_sum, all := PySem.W.mg_none_of X G b_all, sorted := PySem.W.mg_none_of X G b_sorted, tuple := PySem.W.mg_none_of X G b_tuple, str := PySem.W.mg_none_of X G b_str, dict := PySem.W.mg_none_of X G b_dict, exc := PySem.W.mg_none_of X G b_exc }
  have CST : Cst mg := { TOO_LONG := gi_of X G c_TOO_LONG, NO_TOKEN := gi_of X G c_NO_TOKEN, NOT_ALLOWED := gi_of X G c_NOT_ALLOWED, TOO_MANY := gi_of X G c_TOO_MANY, COLUMN_TWICE := gi_of X G c_COLUMN_TWICE, ASKED_TWICE := gi_of X G c_ASKED_TWICE, OUT_OF_BOUNDS := gi_of X G c_OUT_OF_BOUNDS, NO_COLUMN := gi_of X G c_NO_COLUMN, FROM_TABLE := gi_of X G c_FROM_TABLE, LINE_FEED := gi_of X G c_LINE_FEED, REMARK := gi_of X G c_REMARK, DIGIT_ZERO := gi_of X G c_DIGIT_ZERO, LONGEST_NAME := gi_of X G c_LONGEST_NAME, LONGEST_NUMBER := gi_of X G c_LONGEST_NUMBER, GREATEST_NUMBER := gi_of X G c_GREATEST_NUMBER, LONGEST_TEXT := gi_of X G c_LONGEST_TEXT, MOST_COLUMNS := gi_of X G c_MOST_COLUMNS, MOST_ROWS := gi_of X G c_MOST_ROWS, MOST_QUESTIONS := gi_of X G c_MOST_QUESTIONS, GREATEST_VALUE := gi_of X G c_GREATEST_VALUE, GREATEST_AMOUNT := gi_of X G c_GREATEST_AMOUNT, MOST_TIMES := gi_of X G c_MOST_TIMES, NO_TABLE := gi_of X G c_NO_TABLE, NO_GROUPING := gi_of X G c_NO_GROUPING, NO_QUESTION := gi_of X G c_NO_QUESTION, NOT_WORKED_OUT := gi_of X G c_NOT_WORKED_OUT, LOAD := gi_of X G c_LOAD }
  have FT : FltC K zF := ⟨⟨nm, qn, N, bs, sn, sub, ab, col, dd, k0, k1, k2, k3, k5, e_l⟩, e_sa, e_b, e_t, e_k⟩
  have FLT : Fl P w K mg base zF := by
    obtain ⟨f, oc, od, kV, doc, pm, an, cdv, ct, osl, a, i, t, l, cd, k⟩ := i_Fault.ex
    have F := fun_mk (st := sFaultInit) l cd k
    exact ⟨FT, PySem.W.mg_of X G e_g, ⟨f, _, a, t, okFaultInit F FT BLT e_c e_p e_v, F.binds (ps := ["self", "code", "place"]) (fun _ _ _ _ _ _ us hl => match us, hl with | [_, _, _], _ => rfl)⟩, caught e_b e_i e_t e_s, ⟨e_ga, e_gg, e_b, e_hd⟩, e_c, e_p⟩
  have no_Token : ∀ n ∈ (["kind", "said", "place", "behind"] : List Str), NoAttr K zT n := fun n hn => by
    simp only [List.mem_cons, List.not_mem_nil, or_false] at hn
    rcases hn with rfl | rfl | rfl | rfl
    · exact n_Token_kind
    · exact n_Token_said
    · exact n_Token_place
    · exact n_Token_behind
  have no_Cursor : ∀ n ∈ (["tokens", "position"] : List Str), NoAttr K zC n := fun n hn => by
    simp only [List.mem_cons, List.not_mem_nil, or_false] at hn
    rcases hn with rfl | rfl
    · exact n_Cursor_tokens
    · exact n_Cursor_position
  have no_Line : ∀ n ∈ (["numbers", "amount", "count"] : List Str), NoAttr K zL n := fun n hn => by
    simp only [List.mem_cons, List.not_mem_nil, or_false] at hn
    rcases hn with rfl | rfl | rfl
    · exact n_Line_numbers
    · exact n_Line_amount
    · exact n_Line_count
  have no_Question : ∀ n ∈ (["grouping", "times"] : List Str), NoAttr K zQ n := fun n hn => by
    simp only [List.mem_cons, List.not_mem_nil, or_false] at hn
    rcases hn with rfl | rfl
    · exact n_Question_grouping
    · exact n_Question_times
  have no_Table : ∀ n ∈ (["columns", "rows", "questions"] : List Str), NoAttr K zB n := fun n hn => by
    simp only [List.mem_cons, List.not_mem_nil, or_false] at hn
    rcases hn with rfl | rfl | rfl
    · exact n_Table_columns
    · exact n_Table_rows
    · exact n_Table_questions
  have no_Holder : ∀ n ∈ (["table", "kept"] : List Str), NoAttr K zH n := fun n hn => by
    simp only [List.mem_cons, List.not_mem_nil, or_false] at hn
    rcases hn with rfl | rfl
    · exact n_Holder_table
    · exact n_Holder_kept
  let z : Ads := ⟨zF, zT, zC, zL, zQ, zB, zH, aB, aW⟩
  have MK_Token : Mkc P w K mg base "Token" zT ["kind", "said", "place", "behind"] ["kind", "said", "place", "behind"] fsTok := k_Token.mkc i_Token X G no_Token (fun f fd F => okTokenInit F k_Token.cl no_Token) (fun _ _ _ _ _ _ us hl => match us, hl with | [_, _, _, _, _], _ => rfl)
  have MK_Cursor : Mkc P w K mg base "Cursor" zC ["tokens"] ["tokens", "position"] fsCur := k_Cursor.mkc i_Cursor X G no_Cursor (fun f fd F => okCursorInit F k_Cursor.cl no_Cursor) (fun _ _ _ _ _ _ us hl => match us, hl with | [_, _], _ => rfl)
  have MK_Line : Mkc P w K mg base "Line" zL ["numbers", "amount", "count"] ["numbers", "amount", "count"] fsLine := k_Line.mkc i_Line X G no_Line (fun f fd F => okLineInit F k_Line.cl no_Line) (fun _ _ _ _ _ _ us hl => match us, hl with | [_, _, _, _], _ => rfl)
  have MK_Question : Mkc P w K mg base "Question" zQ ["grouping", "times"] ["grouping", "times"] fsQue := k_Question.mkc i_Question X G no_Question (fun f fd F => okQuestionInit F k_Question.cl no_Question) (fun _ _ _ _ _ _ us hl => match us, hl with | [_, _, _], _ => rfl)
  have T : Tx P w K mg base z := ⟨BLT, CST, FLT, MK_Token, MK_Cursor, MK_Line, MK_Question, gB, gW, h_SIGNS.gd X G⟩
  have TBM : TbM P w K mg base z := ⟨PySem.W.mg_of X G k_Table.g, k_Table.ini i_Table (fun f fd F => okTableInit F k_Table.cl no_Table) (fun _ _ _ _ _ _ us hl => match us, hl with | [_, _], _ => rfl), ⟨k_Table.cl, no_Table⟩⟩
  have HC : HlC K z := ⟨k_Holder.cl, no_Holder⟩
  have HM : HlM P w K mg base z := ⟨PySem.W.mg_of X G k_Holder.g, k_Holder.ini i_Holder (fun f fd F => okHolderInit F k_Holder.cl no_Holder) (fun _ _ _ _ _ _ us hl => match us, hl with | [_], _ => rfl)⟩
  have o_is_digit := okIsDigit (P := P) (w := w) (base := base) (KDf.df h_is_digit X G (fun _ _ _ _ _ _ us hl => match us, hl with | [_], _ => rfl))
  have o_is_letter := okIsLetter (P := P) (w := w) (base := base) (KDf.df h_is_letter X G (fun _ _ _ _ _ _ us hl => match us, hl with | [_], _ => rfl))
  have o_behind_remark := okBehindRemark (P := P) (w := w) (base := base) (KDf.df h_behind_remark X G (fun _ _ _ _ _ _ us hl => match us, hl with | [_, _], _ => rfl)) T.blt T.cst
  have o_behind_blanks := okBehindBlanks (P := P) (w := w) (base := base) (KDf.df h_behind_blanks X G (fun _ _ _ _ _ _ us hl => match us, hl with | [_, _], _ => rfl)) T.blt T.cst gB o_behind_remark
  have o_bytes_of := okBytesOf (P := P) (w := w) (base := base) (KDf.df h_bytes_of X G (fun _ _ _ _ _ _ us hl => match us, hl with | [_], _ => rfl)) T.blt
  have o_value_of := okValueOf (P := P) (w := w) (base := base) (KDf.df h_value_of X G (fun _ _ _ _ _ _ us hl => match us, hl with | [_], _ => rfl)) T.cst
  have o_kind_of_word := okKindOfWord (P := P) (w := w) (base := base) (KDf.df h_kind_of_word X G (fun _ _ _ _ _ _ us hl => match us, hl with | [_], _ => rfl)) gW o_bytes_of
  have o_word_at := okWordAt (P := P) (w := w) (base := base) (z := z) (KDf.df h_word_at X G (fun _ _ _ _ _ _ us hl => match us, hl with | [_, _], _ => rfl)) T o_is_letter o_is_digit o_kind_of_word
  have o_number_at := okNumberAt (P := P) (w := w) (base := base) (z := z) (KDf.df h_number_at X G (fun _ _ _ _ _ _ us hl => match us, hl with | [_, _], _ => rfl)) T o_is_digit o_value_of
  have o_token_at := okTokenAt (P := P) (w := w) (base := base) (z := z) (KDf.df h_token_at X G (fun _ _ _ _ _ _ us hl => match us, hl with | [_, _], _ => rfl)) T o_is_letter o_is_digit o_word_at o_number_at
  have o_tokens_of := okTokensOf (P := P) (w := w) (base := base) (z := z) (KDf.df h_tokens_of X G (fun _ _ _ _ _ _ us hl => match us, hl with | [_], _ => rfl)) T o_behind_blanks o_token_at
  have m_sees := okSees (P := P) (w := w) (base := base) (z := z) (KMe.dfm h_sees (fun _ _ _ _ _ _ us hl => match us, hl with | [_, _], _ => rfl)) T
  have m_take := okTake (P := P) (w := w) (base := base) (z := z) (KMe.dfm h_take (fun _ _ _ _ _ _ us hl => match us, hl with | [_, _], _ => rfl)) T
  have m_skips := okSkips (P := P) (w := w) (base := base) (z := z) (KMe.dfm h_skips (fun _ _ _ _ _ _ us hl => match us, hl with | [_, _], _ => rfl)) T m_sees
  have o_read_number := okReadNumber (P := P) (w := w) (base := base) (z := z) (KDf.df h_read_number X G (fun _ _ _ _ _ _ us hl => match us, hl with | [_, _, _], _ => rfl)) T m_take
  have o_read_amount := okReadAmount (P := P) (w := w) (base := base) (z := z) (KDf.df h_read_amount X G (fun _ _ _ _ _ _ us hl => match us, hl with | [_], _ => rfl)) T m_skips o_read_number
  have o_read_column := okReadColumn (P := P) (w := w) (base := base) (z := z) (KDf.df h_read_column X G (fun _ _ _ _ _ _ us hl => match us, hl with | [_, _], _ => rfl)) T m_take
  have o_read_columns := okReadColumns (P := P) (w := w) (base := base) (z := z) (KDf.df h_read_columns X G (fun _ _ _ _ _ _ us hl => match us, hl with | [_], _ => rfl)) T m_take m_skips o_read_column
  have o_read_row := okReadRow (P := P) (w := w) (base := base) (z := z) (KDf.df h_read_row X G (fun _ _ _ _ _ _ us hl => match us, hl with | [_, _], _ => rfl)) T TBM.c m_take o_read_number o_read_amount
  have o_read_asked := okReadAsked (P := P) (w := w) (base := base) (z := z) (KDf.df h_read_asked X G (fun _ _ _ _ _ _ us hl => match us, hl with | [_, _, _], _ => rfl)) T m_take
  have o_read_question := okReadQuestion (P := P) (w := w) (base := base) (z := z) (KDf.df h_read_question X G (fun _ _ _ _ _ _ us hl => match us, hl with | [_, _], _ => rfl)) T TBM.c m_sees m_take m_skips o_read_number o_read_asked
  have o_table_of := okTableOf (P := P) (w := w) (base := base) (z := z) (KDf.df h_table_of X G (fun _ _ _ _ _ _ us hl => match us, hl with | [_], _ => rfl)) T TBM m_sees o_tokens_of o_read_columns o_read_row o_read_question
  have o_how_many_groupings := okHowMany (P := P) (w := w) (base := base) (z := z) (KDf.df h_how_many_groupings X G (fun _ _ _ _ _ _ us hl => match us, hl with | [_], _ => rfl)) T TBM.c
  have o_is_grouping := okIsGrouping (P := P) (w := w) (base := base) (z := z) (KDf.df h_is_grouping X G (fun _ _ _ _ _ _ us hl => match us, hl with | [_, _], _ => rfl)) o_how_many_groupings
  have o_can_be_worked_out := okCanBe (P := P) (w := w) (base := base) (KDf.df h_can_be_worked_out X G (fun _ _ _ _ _ _ us hl => match us, hl with | [_, _], _ => rfl))
  have o_columns_of := okColumnsOf (P := P) (w := w) (base := base) (KDf.df h_columns_of X G (fun _ _ _ _ _ _ us hl => match us, hl with | [_, _], _ => rfl)) T
  have o_merged := okMerged (P := P) (w := w) (base := base) (z := z) (KDf.df h_merged X G (fun _ _ _ _ _ _ us hl => match us, hl with | [_, _], _ => rfl)) T
  have o_lines_from_table := okFromTable (P := P) (w := w) (base := base) (z := z) (KDf.df h_lines_from_table X G (fun _ _ _ _ _ _ us hl => match us, hl with | [_, _], _ => rfl)) T TBM.c o_merged o_columns_of
  have o_lines_from_answer := okFromAnswer (P := P) (w := w) (base := base) (z := z) (KDf.df h_lines_from_answer X G (fun _ _ _ _ _ _ us hl => match us, hl with | [_, _, _, _], _ => rfl)) T TBM.c o_merged o_columns_of
  have o_sizes_of_all := okSizesOfAll (P := P) (w := w) (base := base) (z := z) (KDf.df h_sizes_of_all X G (fun _ _ _ _ _ _ us hl => match us, hl with | [_], _ => rfl)) T o_how_many_groupings o_lines_from_table
  have o_kept_answers := okKeptAnswers (P := P) (w := w) (base := base) (z := z) (KDf.df h_kept_answers X G (fun _ _ _ _ _ _ us hl => match us, hl with | [_, _], _ => rfl)) T o_lines_from_table
  have o_with_one_more := okOneMore (P := P) (w := w) (base := base) (z := z) (KDf.df h_with_one_more X G (fun _ _ _ _ _ _ us hl => match us, hl with | [_, _, _], _ => rfl)) T o_lines_from_table
  have o_lines_together := okTogether (P := P) (w := w) (base := base) (z := z) (KDf.df h_lines_together X G (fun _ _ _ _ _ _ us hl => match us, hl with | [_], _ => rfl)) T
  have o_cost_from := okCostFrom (P := P) (w := w) (base := base) (z := z) (KDf.df h_cost_from X G (fun _ _ _ _ _ _ us hl => match us, hl with | [_, _, _], _ => rfl)) T TBM.c
  have o_source_read := okSourceRead (P := P) (w := w) (base := base) (z := z) (KDc.dfc h_source_read X G (fun _ _ _ _ _ _ us hl => match us, hl with | [_, _], _ => rfl) tb) T o_can_be_worked_out
  have o_cost_of_all := okCostAll (P := P) (w := w) (base := base) (z := z) (KDf.df h_cost_of_all X G (fun _ _ _ _ _ _ us hl => match us, hl with | [_, _], _ => rfl)) T TBM.c o_source_read o_cost_from
  have o_lines_read := okLinesRead (P := P) (w := w) (base := base) (z := z) (KDf.df h_lines_read X G (fun _ _ _ _ _ _ us hl => match us, hl with | [_, _, _], _ => rfl)) T o_source_read o_lines_from_table o_lines_from_answer
  have o_listed := okListed (P := P) (w := w) (base := base) (KDf.df h_listed X G (fun _ _ _ _ _ _ us hl => match us, hl with | [_], _ => rfl)) o_bytes_of
  have o_columns_line := okColsLine (P := P) (w := w) (base := base) (KDf.df h_columns_line X G (fun _ _ _ _ _ _ us hl => match us, hl with | [_], _ => rfl)) o_bytes_of o_listed
  have o_row_line := okRowLine (P := P) (w := w) (base := base) (z := z) (KDf.df h_row_line X G (fun _ _ _ _ _ _ us hl => match us, hl with | [_], _ => rfl)) T o_bytes_of
  have o_question_line := okAskLine (P := P) (w := w) (base := base) (z := z) (KDf.df h_question_line X G (fun _ _ _ _ _ _ us hl => match us, hl with | [_, _], _ => rfl)) T o_bytes_of o_listed o_columns_of
  have o_one_form := okOneForm (P := P) (w := w) (base := base) (z := z) (KDf.df h_one_form X G (fun _ _ _ _ _ _ us hl => match us, hl with | [_], _ => rfl)) T TBM.c o_columns_line o_row_line o_question_line
  have o_told := okTold (P := P) (w := w) (base := base) (z := z) (KDf.df h_told X G (fun _ _ _ _ _ _ us hl => match us, hl with | [_], _ => rfl)) T
  have o_shown := okShown (P := P) (w := w) (base := base) (z := z) (Tb := Tb) (KDf.df d_shown.d X G (fun _ _ _ _ _ _ us hl => match us, hl with | [_, _], _ => rfl)) T HC o_one_form
  have o_group := okGroup (P := P) (w := w) (base := base) (z := z) (Tb := Tb) (KDf.df d_group.d X G (fun _ _ _ _ _ _ us hl => match us, hl with | [_, _], _ => rfl)) T HC o_is_grouping o_lines_from_table o_told
  have o_roll := okRoll (P := P) (w := w) (base := base) (z := z) (Tb := Tb) (KDf.df d_roll.d X G (fun _ _ _ _ _ _ us hl => match us, hl with | [_, _], _ => rfl)) T HC o_is_grouping o_lines_from_table o_told o_can_be_worked_out o_lines_from_answer
  have o_sizes := okSizes (P := P) (w := w) (base := base) (z := z) (Tb := Tb) (KDf.df d_sizes.d X G (fun _ _ _ _ _ _ us hl => match us, hl with | [_, _], _ => rfl)) T TBM.c HC o_sizes_of_all
  have o_is_question := okIsQuestion (P := P) (w := w) (base := base) (z := z) (KDf.df h_is_question X G (fun _ _ _ _ _ _ us hl => match us, hl with | [_, _], _ => rfl)) T TBM.c
  have o_cost := okCost (P := P) (w := w) (base := base) (z := z) (KDf.df d_cost.d X G (fun _ _ _ _ _ _ us hl => match us, hl with | [_, _], _ => rfl)) T TBM.c HC o_is_question o_source_read o_cost_from
  have o_answer := okAnswer (P := P) (w := w) (base := base) (z := z) (KDf.df d_answer.d X G (fun _ _ _ _ _ _ us hl => match us, hl with | [_, _], _ => rfl)) T TBM.c HC o_is_question o_lines_read o_told
  have o_total := okTotal (P := P) (w := w) (base := base) (z := z) (KDf.df d_total.d X G (fun _ _ _ _ _ _ us hl => match us, hl with | [_, _], _ => rfl)) T HC o_cost_of_all o_lines_together
  have o_gain := okGain (P := P) (w := w) (base := base) (z := z) (KDf.df d_gain.d X G (fun _ _ _ _ _ _ us hl => match us, hl with | [_, _], _ => rfl)) T HC o_is_grouping o_cost_of_all o_with_one_more
  have o_keep := okKeep (P := P) (w := w) (base := base) (z := z) (Tb := Tb) (KDf.df d_keep.d X G (fun _ _ _ _ _ _ us hl => match us, hl with | [_, _], _ => rfl)) T HC o_is_grouping o_kept_answers o_lines_together
  have o_load := okLoad (P := P) (w := w) (base := base) (z := z) (Tb := Tb) (KDf.df d_load.d X G (fun _ _ _ _ _ _ us hl => match us, hl with | [_, _], _ => rfl)) T TBM.c HC o_table_of
  have o_first_number := okFirst (P := P) (w := w) (base := base) (KDf.df h_first_number X G (fun _ _ _ _ _ _ us hl => match us, hl with | [_, _], _ => rfl)) gL
  have o_how_many_numbers := okManyNumbers (P := P) (w := w) (base := base) (KDf.df h_how_many_numbers X G (fun _ _ _ _ _ _ us hl => match us, hl with | [_, _], _ => rfl)) gL gP
  have deeds : ∀ p : Int, 0 ≤ p → p ≤ 9 → ∃ f, [f0, f1, f2, f3, f4, f5, f6, f7, f8, f9][p.toNat]? = some f ∧ Held P w K mg base 8 f (spDeed z Tb p) := fun p h0 h9 => by
    have e : p = 0 ∨ p = 1 ∨ p = 2 ∨ p = 3 ∨ p = 4 ∨ p = 5 ∨ p = 6 ∨ p = 7 ∨ p = 8 ∨ p = 9 := by omega
    rcases e with e | e | e | e | e | e | e | e | e | e <;> subst e
    · exact ⟨f0, rfl, o_load.held (PySem.W.mg_of X G d_load.at_) (by decide)⟩
    · exact ⟨f1, rfl, o_shown.held (PySem.W.mg_of X G d_shown.at_) (by decide)⟩
    · exact ⟨f2, rfl, o_group.held (PySem.W.mg_of X G d_group.at_) (by decide)⟩
    · exact ⟨f3, rfl, o_roll.held (PySem.W.mg_of X G d_roll.at_) (by decide)⟩
    · exact ⟨f4, rfl, o_sizes.held (PySem.W.mg_of X G d_sizes.at_) (by decide)⟩
    · exact ⟨f5, rfl, o_keep.held (PySem.W.mg_of X G d_keep.at_) (by decide)⟩
    · exact ⟨f6, rfl, o_cost.held (PySem.W.mg_of X G d_cost.at_) (by decide)⟩
    · exact ⟨f7, rfl, o_answer.held (PySem.W.mg_of X G d_answer.at_) (by decide)⟩
    · exact ⟨f8, rfl, o_total.held (PySem.W.mg_of X G d_total.at_) (by decide)⟩
    · exact ⟨f9, rfl, o_gain.held (PySem.W.mg_of X G d_gain.at_) (by decide)⟩
  have o_answer_to := okAnswerTo (P := P) (w := w) (base := base) (z := z) (KDf.df h_answer_to X G (fun _ _ _ _ _ _ us hl => match us, hl with | [_, _, _], _ => rfl)) T HC gD deeds
  have o_answers := okAnswers (P := P) (w := w) (base := base) (z := z) (KDf.df h_answers X G (fun _ _ _ _ _ _ us hl => match us, hl with | [_], _ => rfl)) T HM o_first_number o_how_many_numbers o_answer_to
  exact o_answers
end
end Kg
open PySem PySem.W PyProof.Rows
set_option maxRecDepth 100000 in
set_option maxHeartbeats 16000000 in
theorem PySem.Challenge.cw_keptgroupings_s01_answers_holds : PySem.Challenge.rw_keptgroupings_s01_answers.Holds := by
  w_on; k_headS; (case hw => exact ⟨[.list [.int 1]], by decide +kernel, by decide +kernel⟩)
  k_fillS
  refine' Kg.walkT (r := PySem.Challenge.rw_keptgroupings_s01_answers) (k := 10) (x := "source_read") (ps := ["calls"]) (sp := Kg.spAnswers) (by decide +kernel) rfl ⟨rfl, by decide, by decide⟩ ?rec (fun w h Y => PySem.W.kIn_of Y) ?F ?S
  case rec => with_unfolding_all rfl
  case F =>
    intro w mg fa h Y KX G hmg
    refine' Kg.allOk KX G ?b_len ?b_range ?b_ord ?b_min ?b_sum ?b_all ?b_sorted ?b_tuple ?b_str ?b_dict ?b_exc ?c_TOO_LONG ?c_NO_TOKEN ?c_NOT_ALLOWED ?c_TOO_MANY ?c_COLUMN_TWICE ?c_ASKED_TWICE ?c_OUT_OF_BOUNDS ?c_NO_COLUMN ?c_FROM_TABLE ?c_LINE_FEED ?c_REMARK ?c_DIGIT_ZERO ?c_LONGEST_NAME ?c_LONGEST_NUMBER ?c_GREATEST_NUMBER ?c_LONGEST_TEXT ?c_MOST_COLUMNS ?c_MOST_ROWS ?c_MOST_QUESTIONS ?c_GREATEST_VALUE ?c_GREATEST_AMOUNT ?c_MOST_TIMES ?c_NO_TABLE ?c_NO_GROUPING ?c_NO_QUESTION ?c_NOT_WORKED_OUT ?c_LOAD ?h_is_digit ?h_is_letter ?h_behind_remark ?h_behind_blanks ?h_bytes_of ?h_value_of ?h_kind_of_word ?h_word_at ?h_number_at ?h_token_at ?h_tokens_of ?h_sees ?h_take ?h_skips ?h_read_number ?h_read_amount ?h_read_column ?h_read_columns ?h_read_row ?h_read_asked ?h_read_question ?h_table_of ?h_how_many_groupings ?h_is_grouping ?h_can_be_worked_out ?h_columns_of ?h_merged ?h_lines_from_table ?h_lines_from_answer ?h_sizes_of_all ?h_kept_answers ?h_with_one_more ?h_lines_together ?h_cost_from ?h_source_read ?h_cost_of_all ?h_lines_read ?h_listed ?h_columns_line ?h_row_line ?h_question_line ?h_one_form ?h_told ?d_shown ?d_group ?d_roll ?d_sizes ?h_is_question ?d_cost ?d_answer ?d_total ?d_gain ?d_keep ?d_load ?h_first_number ?h_how_many_numbers ?h_answer_to ?h_answers ?h_BLANKS ?h_WORDS ?h_CALLS_WITH_A_LIST ?h_PLAIN_NUMBERS ?h_DEEDS ?h_SIGNS ?k_Token ?i_Token ?n_Token_kind ?n_Token_said ?n_Token_place ?n_Token_behind ?k_Cursor ?i_Cursor ?n_Cursor_tokens ?n_Cursor_position ?k_Line ?i_Line ?n_Line_numbers ?n_Line_amount ?n_Line_count ?k_Question ?i_Question ?n_Question_grouping ?n_Question_times ?k_Table ?i_Table ?n_Table_columns ?n_Table_rows ?n_Table_questions ?k_Holder ?i_Holder ?n_Holder_table ?n_Holder_kept ?e_g ?e_l ?e_sa ?e_b ?e_t ?e_k ?e_i ?e_s ?e_ga ?e_gg ?e_hd ?e_c ?e_p ?e_v ?i_Fault ?h_tab ?h_off
    (case b_len => k_is)
    (case b_range => k_is)
    (case b_ord => k_is)
    (case b_min => k_is)
    (case b_sum => k_is)
    (case b_all => k_is)
    (case b_sorted => k_is)
    (case b_tuple => k_is)
    (case b_str => k_is)
    (case b_dict => k_is)
    (case b_exc => k_is)
    (case c_TOO_LONG => k_is)
    (case c_NO_TOKEN => k_is)
    (case c_NOT_ALLOWED => k_is)
    (case c_TOO_MANY => k_is)
    (case c_COLUMN_TWICE => k_is)
    (case c_ASKED_TWICE => k_is)
    (case c_OUT_OF_BOUNDS => k_is)
    (case c_NO_COLUMN => k_is)
    (case c_FROM_TABLE => k_is)
    (case c_LINE_FEED => k_is)
    (case c_REMARK => k_is)
    (case c_DIGIT_ZERO => k_is)
    (case c_LONGEST_NAME => k_is)
    (case c_LONGEST_NUMBER => k_is)
    (case c_GREATEST_NUMBER => k_is)
    (case c_LONGEST_TEXT => k_is)
    (case c_MOST_COLUMNS => k_is)
    (case c_MOST_ROWS => k_is)
    (case c_MOST_QUESTIONS => k_is)
    (case c_GREATEST_VALUE => k_is)
    (case c_GREATEST_AMOUNT => k_is)
    (case c_MOST_TIMES => k_is)
    (case c_NO_TABLE => k_is)
    (case c_NO_GROUPING => k_is)
    (case c_NO_QUESTION => k_is)
    (case c_NOT_WORKED_OUT => k_is)
    (case c_LOAD => k_is)
    (case h_is_digit => (refine' Kg.kDf ?a ?b ?c ?d; (case a => k_is); (case b => k_is); (case c => k_is); (case d => k_is)))
    (case h_is_letter => (refine' Kg.kDf ?a ?b ?c ?d; (case a => k_is); (case b => k_is); (case c => k_is); (case d => k_is)))
    (case h_behind_remark => (refine' Kg.kDf ?a ?b ?c ?d; (case a => k_is); (case b => k_is); (case c => k_is); (case d => k_is)))
    (case h_behind_blanks => (refine' Kg.kDf ?a ?b ?c ?d; (case a => k_is); (case b => k_is); (case c => k_is); (case d => k_is)))
    (case h_bytes_of => (refine' Kg.kDf ?a ?b ?c ?d; (case a => k_is); (case b => k_is); (case c => k_is); (case d => k_is)))
    (case h_value_of => (refine' Kg.kDf ?a ?b ?c ?d; (case a => k_is); (case b => k_is); (case c => k_is); (case d => k_is)))
    (case h_kind_of_word => (refine' Kg.kDf ?a ?b ?c ?d; (case a => k_is); (case b => k_is); (case c => k_is); (case d => k_is)))
    (case h_word_at => (refine' Kg.kDf ?a ?b ?c ?d; (case a => k_is); (case b => k_is); (case c => k_is); (case d => k_is)))
    (case h_number_at => (refine' Kg.kDf ?a ?b ?c ?d; (case a => k_is); (case b => k_is); (case c => k_is); (case d => k_is)))
    (case h_token_at => (refine' Kg.kDf ?a ?b ?c ?d; (case a => k_is); (case b => k_is); (case c => k_is); (case d => k_is)))
    (case h_tokens_of => (refine' Kg.kDf ?a ?b ?c ?d; (case a => k_is); (case b => k_is); (case c => k_is); (case d => k_is)))
    (case h_read_number => (refine' Kg.kDf ?a ?b ?c ?d; (case a => k_is); (case b => k_is); (case c => k_is); (case d => k_is)))
    (case h_read_amount => (refine' Kg.kDf ?a ?b ?c ?d; (case a => k_is); (case b => k_is); (case c => k_is); (case d => k_is)))
    (case h_read_column => (refine' Kg.kDf ?a ?b ?c ?d; (case a => k_is); (case b => k_is); (case c => k_is); (case d => k_is)))
    (case h_read_columns => (refine' Kg.kDf ?a ?b ?c ?d; (case a => k_is); (case b => k_is); (case c => k_is); (case d => k_is)))
    (case h_read_row => (refine' Kg.kDf ?a ?b ?c ?d; (case a => k_is); (case b => k_is); (case c => k_is); (case d => k_is)))
    (case h_read_asked => (refine' Kg.kDf ?a ?b ?c ?d; (case a => k_is); (case b => k_is); (case c => k_is); (case d => k_is)))
    (case h_read_question => (refine' Kg.kDf ?a ?b ?c ?d; (case a => k_is); (case b => k_is); (case c => k_is); (case d => k_is)))
    (case h_table_of => (refine' Kg.kDf ?a ?b ?c ?d; (case a => k_is); (case b => k_is); (case c => k_is); (case d => k_is)))
    (case h_how_many_groupings => (refine' Kg.kDf ?a ?b ?c ?d; (case a => k_is); (case b => k_is); (case c => k_is); (case d => k_is)))
    (case h_is_grouping => (refine' Kg.kDf ?a ?b ?c ?d; (case a => k_is); (case b => k_is); (case c => k_is); (case d => k_is)))
    (case h_can_be_worked_out => (refine' Kg.kDf ?a ?b ?c ?d; (case a => k_is); (case b => k_is); (case c => k_is); (case d => k_is)))
    (case h_columns_of => (refine' Kg.kDf ?a ?b ?c ?d; (case a => k_is); (case b => k_is); (case c => k_is); (case d => k_is)))
    (case h_merged => (refine' Kg.kDf ?a ?b ?c ?d; (case a => k_is); (case b => k_is); (case c => k_is); (case d => k_is)))
    (case h_lines_from_table => (refine' Kg.kDf ?a ?b ?c ?d; (case a => k_is); (case b => k_is); (case c => k_is); (case d => k_is)))
    (case h_lines_from_answer => (refine' Kg.kDf ?a ?b ?c ?d; (case a => k_is); (case b => k_is); (case c => k_is); (case d => k_is)))
    (case h_sizes_of_all => (refine' Kg.kDf ?a ?b ?c ?d; (case a => k_is); (case b => k_is); (case c => k_is); (case d => k_is)))
    (case h_kept_answers => (refine' Kg.kDf ?a ?b ?c ?d; (case a => k_is); (case b => k_is); (case c => k_is); (case d => k_is)))
    (case h_with_one_more => (refine' Kg.kDf ?a ?b ?c ?d; (case a => k_is); (case b => k_is); (case c => k_is); (case d => k_is)))
    (case h_lines_together => (refine' Kg.kDf ?a ?b ?c ?d; (case a => k_is); (case b => k_is); (case c => k_is); (case d => k_is)))
    (case h_cost_from => (refine' Kg.kDf ?a ?b ?c ?d; (case a => k_is); (case b => k_is); (case c => k_is); (case d => k_is)))
    (case h_source_read => (refine' Kg.kDc ?a ?b ?c ?d; (case a => k_is); (case b => k_is); (case c => k_is); (case d => k_is)))
    (case h_cost_of_all => (refine' Kg.kDf ?a ?b ?c ?d; (case a => k_is); (case b => k_is); (case c => k_is); (case d => k_is)))
    (case h_lines_read => (refine' Kg.kDf ?a ?b ?c ?d; (case a => k_is); (case b => k_is); (case c => k_is); (case d => k_is)))
    (case h_listed => (refine' Kg.kDf ?a ?b ?c ?d; (case a => k_is); (case b => k_is); (case c => k_is); (case d => k_is)))
    (case h_columns_line => (refine' Kg.kDf ?a ?b ?c ?d; (case a => k_is); (case b => k_is); (case c => k_is); (case d => k_is)))
    (case h_row_line => (refine' Kg.kDf ?a ?b ?c ?d; (case a => k_is); (case b => k_is); (case c => k_is); (case d => k_is)))
    (case h_question_line => (refine' Kg.kDf ?a ?b ?c ?d; (case a => k_is); (case b => k_is); (case c => k_is); (case d => k_is)))
    (case h_one_form => (refine' Kg.kDf ?a ?b ?c ?d; (case a => k_is); (case b => k_is); (case c => k_is); (case d => k_is)))
    (case h_told => (refine' Kg.kDf ?a ?b ?c ?d; (case a => k_is); (case b => k_is); (case c => k_is); (case d => k_is)))
    (case d_shown => (refine' Kg.kDd ?a ?b ?c ?d; (case a => k_is); (case b => k_is); (case c => k_is); (case d => k_is)))
    (case d_group => (refine' Kg.kDd ?a ?b ?c ?d; (case a => k_is); (case b => k_is); (case c => k_is); (case d => k_is)))
    (case d_roll => (refine' Kg.kDd ?a ?b ?c ?d; (case a => k_is); (case b => k_is); (case c => k_is); (case d => k_is)))
    (case d_sizes => (refine' Kg.kDd ?a ?b ?c ?d; (case a => k_is); (case b => k_is); (case c => k_is); (case d => k_is)))
    (case h_is_question => (refine' Kg.kDf ?a ?b ?c ?d; (case a => k_is); (case b => k_is); (case c => k_is); (case d => k_is)))
    (case d_cost => (refine' Kg.kDd ?a ?b ?c ?d; (case a => k_is); (case b => k_is); (case c => k_is); (case d => k_is)))
    (case d_answer => (refine' Kg.kDd ?a ?b ?c ?d; (case a => k_is); (case b => k_is); (case c => k_is); (case d => k_is)))
    (case d_total => (refine' Kg.kDd ?a ?b ?c ?d; (case a => k_is); (case b => k_is); (case c => k_is); (case d => k_is)))
    (case d_gain => (refine' Kg.kDd ?a ?b ?c ?d; (case a => k_is); (case b => k_is); (case c => k_is); (case d => k_is)))
    (case d_keep => (refine' Kg.kDd ?a ?b ?c ?d; (case a => k_is); (case b => k_is); (case c => k_is); (case d => k_is)))
    (case d_load => (refine' Kg.kDd ?a ?b ?c ?d; (case a => k_is); (case b => k_is); (case c => k_is); (case d => k_is)))
    (case h_first_number => (refine' Kg.kDf ?a ?b ?c ?d; (case a => k_is); (case b => k_is); (case c => k_is); (case d => k_is)))
    (case h_how_many_numbers => (refine' Kg.kDf ?a ?b ?c ?d; (case a => k_is); (case b => k_is); (case c => k_is); (case d => k_is)))
    (case h_answer_to => (refine' Kg.kDf ?a ?b ?c ?d; (case a => k_is); (case b => k_is); (case c => k_is); (case d => k_is)))
    (case h_answers => (refine' Kg.kDf ?a ?b ?c ?d; (case a => k_is); (case b => k_is); (case c => k_is); (case d => k_is)))
    (case h_BLANKS => (refine' Kg.kTu ?a ?b ?c ?d; (case a => k_is); (case b => k_is); (case c => exact .cons ⟨_, rfl⟩ (.cons ⟨_, rfl⟩ (.cons ⟨_, rfl⟩ .nil))); (case d => decide)))
    (case h_WORDS => (refine' Kg.kTu ?a ?b ?c ?d; (case a => k_is); (case b => k_is); (case c => exact .cons ⟨_, rfl⟩ (.cons ⟨_, rfl⟩ (.cons ⟨_, rfl⟩ (.cons ⟨_, rfl⟩ .nil)))); (case d => decide)))
    (case h_CALLS_WITH_A_LIST => (refine' Kg.kTu ?a ?b ?c ?d; (case a => k_is); (case b => k_is); (case c => exact .cons ⟨_, rfl⟩ (.cons ⟨_, rfl⟩ .nil)); (case d => decide)))
    (case h_PLAIN_NUMBERS => (refine' Kg.kTu ?a ?b ?c ?d; (case a => k_is); (case b => k_is); (case c => exact .cons ⟨_, rfl⟩ (.cons ⟨_, rfl⟩ (.cons ⟨_, rfl⟩ (.cons ⟨_, rfl⟩ (.cons ⟨_, rfl⟩ (.cons ⟨_, rfl⟩ (.cons ⟨_, rfl⟩ (.cons ⟨_, rfl⟩ (.cons ⟨_, rfl⟩ (.cons ⟨_, rfl⟩ .nil)))))))))); (case d => decide)))
    (case h_SIGNS => (refine' Kg.kSg ?a ?b ?c ?d; (case a => k_is); (case b => k_is); (case c => rfl); (case d => exact .cons ⟨rfl, rfl, rfl⟩ (.cons ⟨rfl, rfl, rfl⟩ (.cons ⟨rfl, rfl, rfl⟩ (.cons ⟨rfl, rfl, rfl⟩ .nil))))))
    (case k_Token => (refine' Kg.kCl ?a ?b ?c ?d ?e ?f ?g; (case a => k_is); (case b => k_is); (case c => k_is); (case d => k_is); (case e => k_is); (case f => k_is); (case g => k_is)))
    (case k_Cursor => (refine' Kg.kCl ?a ?b ?c ?d ?e ?f ?g; (case a => k_is); (case b => k_is); (case c => k_is); (case d => k_is); (case e => k_is); (case f => k_is); (case g => k_is)))
    (case k_Line => (refine' Kg.kCl ?a ?b ?c ?d ?e ?f ?g; (case a => k_is); (case b => k_is); (case c => k_is); (case d => k_is); (case e => k_is); (case f => k_is); (case g => k_is)))
    (case k_Question => (refine' Kg.kCl ?a ?b ?c ?d ?e ?f ?g; (case a => k_is); (case b => k_is); (case c => k_is); (case d => k_is); (case e => k_is); (case f => k_is); (case g => k_is)))
    (case k_Table => (refine' Kg.kCl ?a ?b ?c ?d ?e ?f ?g; (case a => k_is); (case b => k_is); (case c => k_is); (case d => k_is); (case e => k_is); (case f => k_is); (case g => k_is)))
    (case k_Holder => (refine' Kg.kCl ?a ?b ?c ?d ?e ?f ?g; (case a => k_is); (case b => k_is); (case c => k_is); (case d => k_is); (case e => k_is); (case f => k_is); (case g => k_is)))
    (case e_g => k_is)
    (case e_l => k_is)
    (case e_sa => k_is)
    (case e_b => k_is)
    (case e_t => k_is)
    (case e_k => k_is)
    (case e_i => k_is)
    (case e_s => k_is)
    (case e_ga => k_is)
    (case e_gg => k_is)
    (case e_hd => k_is)
    (case e_c => k_is)
    (case e_p => k_is)
    (case e_v => k_is)
    (case h_sees => (refine' Kg.kMe ?a ?b ?c ?d ?e ?f; (case a => k_is); (case b => k_is); (case c => k_is); (case d => k_is); (case e => k_is); (case f => k_is)))
    (case h_take => (refine' Kg.kMe ?a ?b ?c ?d ?e ?f; (case a => k_is); (case b => k_is); (case c => k_is); (case d => k_is); (case e => k_is); (case f => k_is)))
    (case h_skips => (refine' Kg.kMe ?a ?b ?c ?d ?e ?f; (case a => k_is); (case b => k_is); (case c => k_is); (case d => k_is); (case e => k_is); (case f => k_is)))
    (case h_DEEDS => (refine' Kg.kTu ?a ?b ?c ?d; (case a => k_is); (case b => k_is); (case c => exact .cons rfl (.cons rfl (.cons rfl (.cons rfl (.cons rfl (.cons rfl (.cons rfl (.cons rfl (.cons rfl (.cons rfl .nil)))))))))); (case d => decide)))
    (case i_Token => (refine' Kg.kMe ?a ?b ?c ?d ?e ?f; (case a => k_is); (case b => k_is); (case c => k_is); (case d => k_is); (case e => k_is); (case f => k_is)))
    (case n_Token_kind => k_is)
    (case n_Token_said => k_is)
    (case n_Token_place => k_is)
    (case n_Token_behind => k_is)
    (case i_Cursor => (refine' Kg.kMe ?a ?b ?c ?d ?e ?f; (case a => k_is); (case b => k_is); (case c => k_is); (case d => k_is); (case e => k_is); (case f => k_is)))
    (case n_Cursor_tokens => k_is)
    (case n_Cursor_position => k_is)
    (case i_Line => (refine' Kg.kMe ?a ?b ?c ?d ?e ?f; (case a => k_is); (case b => k_is); (case c => k_is); (case d => k_is); (case e => k_is); (case f => k_is)))
    (case n_Line_numbers => k_is)
    (case n_Line_amount => k_is)
    (case n_Line_count => k_is)
    (case i_Question => (refine' Kg.kMe ?a ?b ?c ?d ?e ?f; (case a => k_is); (case b => k_is); (case c => k_is); (case d => k_is); (case e => k_is); (case f => k_is)))
    (case n_Question_grouping => k_is)
    (case n_Question_times => k_is)
    (case i_Table => (refine' Kg.kMe ?a ?b ?c ?d ?e ?f; (case a => k_is); (case b => k_is); (case c => k_is); (case d => k_is); (case e => k_is); (case f => k_is)))
    (case n_Table_columns => k_is)
    (case n_Table_rows => k_is)
    (case n_Table_questions => k_is)
    (case i_Holder => (refine' Kg.kMe ?a ?b ?c ?d ?e ?f; (case a => k_is); (case b => k_is); (case c => k_is); (case d => k_is); (case e => k_is); (case f => k_is)))
    (case n_Holder_table => k_is)
    (case n_Holder_kept => k_is)
    (case i_Fault => (refine' Kg.kMe ?a ?b ?c ?d ?e ?f; (case a => k_is); (case b => k_is); (case c => k_is); (case d => k_is); (case e => k_is); (case f => k_is)))
    (case h_tab => with_unfolding_all rfl)
    (case h_off => rfl)
  case S =>
    intro K Tb H0 H xs a sm hT within asked hD
    exact Kg.toldOf sm hT asked hD fun v H' d => d
