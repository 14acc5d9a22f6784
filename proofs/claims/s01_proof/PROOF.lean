import PyProof.Rows.All
import Wide.All
import OpenK.AllK
import Wide.FinOn
import PyProof.EqAt
import PyProof.EqKinds
import PyProof.TupleCall
import Open.SpecLaws
import KE.OsGo
import PySem.Challenge.RW_linescriptsdesk_s01_answers
import HandS.ForSpec
import HandS.TryMany
import HandS.Iter
import HandS.Comp
import HandS.Text
import HandS.Steps
import HandS.Replace
import HandS.ReplaceList
import HandS.AnyAll
import HandS.RaiseMore
import KE.GoesEnumKw
import HandS.ExcValue
import HandS.ExcInit
import HandS.Walk
import HandS.ExcField
set_option Elab.async false
set_option linter.all false
set_option maxRecDepth 100000
set_option maxHeartbeats 4000000
namespace LD
open VasedBase Vaseda
/-- bytes as code points, as whole numbers -/
def bN (b : Bytes) : List Nat := b.map UInt8.toNat
def bI (b : Bytes) : List Int := b.map fun c => (c.toNat : Int)
theorem bI_length (b : Bytes) : (bI b).length = b.length := by unfold bI; simp
theorem bN_length (b : Bytes) : (bN b).length = b.length := by unfold bN; simp
theorem bN_inj {a b : Bytes} (h : bN a = bN b) : a = b := by
  unfold bN at h
  exact (List.map_inj_right (fun x y e => UInt8.toNat_inj.mp e)).mp h
theorem u8_lt (c : UInt8) : c.toNat < 256 := c.toNat_lt
/-! ### tokens -/
/-- how many signs from at on are so -/
def runLen (p : UInt8 → Bool) (b : Bytes) (at_ : Nat) : Nat := ((b.drop at_).takeWhile p).length
theorem runLen_step {p : UInt8 → Bool} {b : Bytes} {i : Nat} {c : UInt8} (h : b[i]? = some c) (hp : p c = true) : runLen p b i = runLen p b (i + 1) + 1 := by
  unfold runLen
  have e : b.drop i = c :: b.drop (i + 1) := by
    obtain ⟨hi, rfl⟩ := List.getElem?_eq_some_iff.mp h
    exact List.drop_eq_getElem_cons hi
  rw [e, List.takeWhile_cons, hp]
  simp
theorem runLen_stop {p : UInt8 → Bool} {b : Bytes} {i : Nat} {c : UInt8} (h : b[i]? = some c) (hp : p c = false) : runLen p b i = 0 := by
  unfold runLen
  have e : b.drop i = c :: b.drop (i + 1) := by
    obtain ⟨hi, rfl⟩ := List.getElem?_eq_some_iff.mp h
    exact List.drop_eq_getElem_cons hi
  rw [e, List.takeWhile_cons, hp]
  simp
theorem runLen_end {p : UInt8 → Bool} {b : Bytes} {i : Nat} (h : b.length ≤ i) : runLen p b i = 0 := by
  unfold runLen
  rw [List.drop_eq_nil_of_le h]
  rfl
theorem runLen_le {p : UInt8 → Bool} {b : Bytes} {i : Nat} (h : i ≤ b.length) : i + runLen p b i ≤ b.length := by
  unfold runLen
  have := (List.takeWhile_prefix p (l := b.drop i)).length_le
  rw [List.length_drop] at this
  omega
theorem drop_cons {b : Bytes} {i : Nat} {c : UInt8} (h : b[i]? = some c) : b.drop i = c :: b.drop (i + 1) := by
  obtain ⟨hi, rfl⟩ := List.getElem?_eq_some_iff.mp h
  exact List.drop_eq_getElem_cons hi
/-- the row that is so, cut out -/
theorem take_run {p : UInt8 → Bool} (b : Bytes) (i : Nat) : (b.drop i).take (runLen p b i) = (b.drop i).takeWhile p := by
  unfold runLen
  exact (List.prefix_iff_eq_take.mp (List.takeWhile_prefix p)).symm
theorem drop_len {p : UInt8 → Bool} : ∀ l : Bytes, l.drop (l.takeWhile p).length = l.dropWhile p
  | [] => rfl
  | c :: r => by
    cases h : p c
    · rw [List.takeWhile_cons, List.dropWhile_cons, h]; rfl
    · rw [List.takeWhile_cons, List.dropWhile_cons, h]
      exact drop_len r
theorem drop_run {p : UInt8 → Bool} (b : Bytes) (i : Nat) : b.drop (i + runLen p b i) = (b.drop i).dropWhile p := by
  unfold runLen
  rw [← List.drop_drop]
  exact drop_len _
/-- a token has one byte at least -/
theorem token_pos {l : Bytes} {t : Tok} {n : Nat} (h : token l = some (t, n)) : 1 ≤ n ∧ n ≤ l.length := by
  unfold token at h
  cases l with
  | nil => cases h
  | cons b r =>
    simp only at h
    by_cases c1 : isLetter b = true
    · rw [if_pos c1] at h
      split at h
      · cases h
      · cases h
        refine ⟨?_, (List.takeWhile_prefix _).length_le⟩
        rw [List.takeWhile_cons, c1]
        simp
    · rw [if_neg c1] at h
      by_cases c2 : isDigit b = true
      · rw [if_pos c2] at h
        obtain ⟨k, _, e⟩ := Option.map_eq_some_iff.mp h
        cases e
        refine ⟨?_, (List.takeWhile_prefix _).length_le⟩
        rw [List.takeWhile_cons, c2]
        simp
      · rw [if_neg c2] at h
        split at h
        · cases h
          simp
        · cases h
theorem lex_fuel : ∀ (n m a : Nat) (l : Bytes), l.length < n → l.length < m → lex n a l = lex m a l
  | 0, _, _, _, h, _ => absurd h (Nat.not_lt_zero _)
  | _, 0, _, _, _, h => absurd h (Nat.not_lt_zero _)
  | n + 1, m + 1, a, [], _, _ => rfl
  | n + 1, m + 1, a, b :: r, h1, h2 => by
    have h1' : r.length < n := by simpa using h1
    have h2' : r.length < m := by simpa using h2
    unfold lex
    by_cases c1 : isBlank b = true
    · rw [if_pos c1, if_pos c1]
      exact lex_fuel n m _ r h1' h2'
    · rw [if_neg c1, if_neg c1]
      by_cases c2 : (b == 35) = true
      · rw [if_pos c2, if_pos c2]
        have := (List.dropWhile_suffix (fun x : UInt8 => x != 10) (l := r)).length_le
        exact lex_fuel n m _ _ (by omega) (by omega)
      · rw [if_neg c2, if_neg c2]
        cases e : token (b :: r) with
        | none => rfl
        | some x =>
          obtain ⟨t, k⟩ := x
          have := token_pos e
          simp only
          rw [lex_fuel n m _ _ (by rw [List.length_drop]; simp only [List.length_cons] at *; omega) (by rw [List.length_drop]; simp only [List.length_cons] at *; omega)]
/-- the tokens from a place on -/
def toksFrom (b : Bytes) (i : Nat) : Except VasedBase.Fault Toks := lex (b.length + 1) i (b.drop i)
theorem toks_end {b : Bytes} {i : Nat} (h : b.length ≤ i) : toksFrom b i = .ok [⟨i, .last⟩] := by
  unfold toksFrom
  rw [List.drop_eq_nil_of_le h]
  rfl
theorem toks_lex {b : Bytes} {i j n : Nat} (h : b.length - j < n) : lex n i (b.drop j) = lex (b.length + 1) i (b.drop j) :=
  lex_fuel _ _ _ _ (by rw [List.length_drop]; exact h) (by rw [List.length_drop]; omega)
theorem toks_blank {b : Bytes} {i : Nat} {c : UInt8} (h : b[i]? = some c) (hc : isBlank c = true) : toksFrom b i = toksFrom b (i + 1) := by
  have hi : i < b.length := (List.getElem?_eq_some_iff.mp h).1
  conv => lhs; unfold toksFrom lex
  rw [drop_cons h]
  simp only
  rw [if_pos hc]
  exact toks_lex (by omega)
theorem toks_remark {b : Bytes} {i : Nat} {c : UInt8} (h : b[i]? = some c) (hc : c = 35) : toksFrom b i = toksFrom b (i + runLen (· != 10) b i) := by
  have hi : i < b.length := (List.getElem?_eq_some_iff.mp h).1
  have hp : (c != 10) = true := by subst hc; decide
  have hb : isBlank c = false := by subst hc; decide
  rw [runLen_step (p := (· != 10)) h hp]
  conv => lhs; unfold toksFrom lex
  rw [drop_cons h]
  simp only
  rw [if_neg (by rw [hb]; exact Bool.false_ne_true), if_pos (by subst hc; decide)]
  have e : i + (runLen (· != 10) b (i + 1) + 1) = (i + 1) + runLen (· != 10) b (i + 1) := by omega
  unfold toksFrom
  rw [e, drop_run]
  have e2 : ((b.drop (i + 1)).takeWhile (· != 10)).length = runLen (· != 10) b (i + 1) := rfl
  rw [e2]
  refine lex_fuel _ _ _ _ ?_ ?_
  · have := (List.dropWhile_suffix (fun x : UInt8 => x != 10) (l := b.drop (i + 1))).length_le
    rw [List.length_drop] at this
    omega
  · have := (List.dropWhile_suffix (fun x : UInt8 => x != 10) (l := b.drop (i + 1))).length_le
    rw [List.length_drop] at this
    omega
/-- neither a blank nor a remark stands there -/
def Front (b : Bytes) (i : Nat) : Prop := ∀ c, b[i]? = some c → isBlank c = false ∧ c ≠ 35
theorem toks_none {b : Bytes} {i : Nat} (hi : i < b.length) (hf : Front b i) (h : token (b.drop i) = none) : toksFrom b i = .error ⟨2, i⟩ := by
  obtain ⟨c, hc⟩ : ∃ c, b[i]? = some c := ⟨b[i], List.getElem?_eq_getElem hi⟩
  obtain ⟨h1, h2⟩ := hf c hc
  rw [drop_cons hc] at h
  unfold toksFrom lex
  rw [drop_cons hc]
  simp only
  rw [if_neg (by rw [h1]; exact Bool.false_ne_true), if_neg (by simpa using h2), h]
theorem toks_some {b : Bytes} {i n : Nat} {t : Tok} (hi : i < b.length) (hf : Front b i) (h : token (b.drop i) = some (t, n)) : toksFrom b i = (toksFrom b (i + n)).map fun l => ⟨i, t⟩ :: l := by
  obtain ⟨c, hc⟩ : ∃ c, b[i]? = some c := ⟨b[i], List.getElem?_eq_getElem hi⟩
  obtain ⟨h1, h2⟩ := hf c hc
  have hp := token_pos h
  rw [drop_cons hc] at h
  conv => lhs; unfold toksFrom lex
  rw [drop_cons hc]
  simp only
  rw [if_neg (by rw [h1]; exact Bool.false_ne_true), if_neg (by simpa using h2), h]
  simp only
  rw [← drop_cons hc, List.drop_drop, toks_lex (by omega)]
  rfl
end LD

namespace LD
open VasedBase Vaseda
/-- letters as they stand in a script -/
def Lw (w : Bytes) : Prop := 1 ≤ w.length ∧ w.length ≤ 8 ∧ ∀ c ∈ w, isLetter c = true
def GoodTok : Tok → Prop
  | .name b => Lw b
  | .num n => n ≤ 1000000000
  | .sign c => c = 59
  | .last => False
/-- tokens whose last one, and no other, is the end -/
def Ends : Toks → Prop
  | [] => False
  | t :: r => (t.tok = .last ∧ r = []) ∨ (GoodTok t.tok ∧ Ends r)
theorem Ends.ne {l : Toks} (h : Ends l) : ∃ t r, l = t :: r := by
  cases l with
  | nil => exact h.elim
  | cons t r => exact ⟨t, r, rfl⟩
theorem Ends.tail {t : PTok} {r : Toks} (h : Ends (t :: r)) (n : t.tok ≠ .last) : GoodTok t.tok ∧ Ends r := by
  rcases h with h | h
  · exact absurd h.1 n
  · exact h
theorem all_takeWhile {p : UInt8 → Bool} : ∀ (l : Bytes) (c : UInt8), c ∈ l.takeWhile p → p c = true
  | [], c, h => by simp at h
  | a :: r, c, h => by
    rw [List.takeWhile_cons] at h
    cases hp : p a
    · rw [hp] at h; simp at h
    · rw [hp] at h
      rcases List.mem_cons.mp h with rfl | h
      · exact hp
      · exact all_takeWhile r c h
theorem token_good {l : Bytes} {t : Tok} {n : Nat} (h : token l = some (t, n)) : GoodTok t := by
  unfold token at h
  cases l with
  | nil => cases h
  | cons b r =>
    simp only at h
    by_cases c1 : isLetter b = true
    · rw [if_pos c1] at h
      split at h
      · cases h
      · rename_i hn
        cases h
        refine ⟨?_, Nat.le_of_not_lt hn, fun c hc => all_takeWhile _ c hc⟩
        rw [List.takeWhile_cons, c1]; simp
    · rw [if_neg c1] at h
      by_cases c2 : isDigit b = true
      · rw [if_pos c2] at h
        obtain ⟨k, hk, e⟩ := Option.map_eq_some_iff.mp h
        cases e
        unfold numberOf at hk
        split at hk
        · cases hk
        · rename_i hn
          cases hk
          have : ¬ NUMBER < decimal ((b :: r).takeWhile isDigit) := fun z => hn (.inr (.inr (.inr z)))
          unfold NUMBER at this
          show decimal _ ≤ 1000000000
          omega
      · rw [if_neg c2] at h
        split at h
        · rename_i hs
          cases h
          have : b = 59 := by simpa [SIGNS] using hs
          subst this
          rfl
        · cases h
theorem lex_ends : ∀ (n a : Nat) (l : Bytes) (ts : Toks), lex n a l = .ok ts → Ends ts
  | 0, a, l, ts, h => by cases h; exact .inl ⟨rfl, rfl⟩
  | n + 1, a, [], ts, h => by cases h; exact .inl ⟨rfl, rfl⟩
  | n + 1, a, b :: r, ts, h => by
    unfold lex at h
    by_cases c1 : isBlank b = true
    · rw [if_pos c1] at h; exact lex_ends n _ _ _ h
    · rw [if_neg c1] at h
      by_cases c2 : (b == 35) = true
      · rw [if_pos c2] at h; exact lex_ends n _ _ _ h
      · rw [if_neg c2] at h
        cases e : token (b :: r) with
        | none => rw [e] at h; cases h
        | some x =>
          rw [e] at h
          simp only at h
          cases e2 : lex n (a + x.2) ((b :: r).drop x.2) with
          | error f => rw [e2] at h; cases h
          | ok l =>
            rw [e2] at h
            cases h
            exact .inr ⟨token_good (t := x.1) (n := x.2) e, lex_ends n _ _ _ e2⟩
/-! ### words -/
theorem nextWord_name {s : String} {p : Nat} {b : Bytes} {r : Toks} : nextWord s (⟨p, .name b⟩ :: r) = (b == word s) := rfl
theorem nextWord_num {s : String} {p n : Nat} {r : Toks} : nextWord s (⟨p, .num n⟩ :: r) = false := rfl
theorem nextWord_sign {s : String} {p n : Nat} {r : Toks} : nextWord s (⟨p, .sign n⟩ :: r) = false := rfl
theorem nextWord_last {s : String} {p : Nat} {r : Toks} : nextWord s (⟨p, .last⟩ :: r) = false := rfl
/-- an address without not -/
def core (l : Toks) : Except VasedBase.Fault (Addr × Toks) :=
    if nextWord "all" l = true then .ok (.all, l.drop 1)
    else if nextWord "line" l = true then (takeNum 1 LINE (l.drop 1)).map fun x => (.line x.1, x.2)
    else if nextWord "from" l = true then (takeNum 1 LINE (l.drop 1)).bind fun x => (takeWord "to" x.2).bind fun l => (takeNum x.1 LINE l).map fun y => (.span x.1 y.1, y.2)
    else if nextWord "last" l = true then .ok (.last, l.drop 1)
    else if nextWord "has" l = true then (takeLetters (l.drop 1)).map fun x => (.has x.1, x.2)
    else if nextWord "is" l = true then (takeLetters (l.drop 1)).map fun x => (.is_ x.1, x.2)
    else wrong l
theorem next_two {s s' : String} {l : Toks} (h : nextWord s l = true) (hs : (word s == word s') = false) : nextWord s' l = false := by
  cases l with
  | nil => rfl
  | cons t r =>
    obtain ⟨p, k⟩ := t
    cases k with
    | name b =>
      rw [nextWord_name] at h ⊢
      have : b = word s := by simpa using h
      rw [this]; exact hs
    | _ => rfl
theorem addr_not {f n : Nat} {l : Toks} (h : nextWord "not" l = true) : takeAddr (f + 1) n l = if NOTS ≤ n then .error ⟨4, here l⟩ else (takeAddr f (n + 1) (l.drop 1)).map fun x => (.not x.1, x.2) := by
  have e (s : String) (hs : (word "not" == word s) = false) : ¬ nextWord s l = true := by rw [next_two h hs]; exact Bool.false_ne_true
  conv => lhs; unfold takeAddr
  rw [if_neg (e "all" (by decide +kernel)), if_neg (e "line" (by decide +kernel)), if_neg (e "from" (by decide +kernel)), if_neg (e "last" (by decide +kernel)), if_neg (e "has" (by decide +kernel)), if_neg (e "is" (by decide +kernel)), if_pos h]
theorem addr_core {f n : Nat} {l : Toks} (h : nextWord "not" l = false) : takeAddr (f + 1) n l = core l := by
  conv => lhs; unfold takeAddr
  unfold core
  rw [if_neg (by rw [h]; exact Bool.false_ne_true : ¬ nextWord "not" l = true)]
/-- so many nots ahead -/
def nest : Nat → Addr → Addr
  | 0, a => a
  | n + 1, a => nest n (.not a)
theorem nest_succ (n : Nat) (a : Addr) : nest (n + 1) a = nest n (.not a) := rfl
def notsOf : Addr → Nat
  | .not a => notsOf a + 1
  | _ => 0
def coreOf : Addr → Addr
  | .not a => coreOf a
  | a => a
def isCore : Addr → Bool
  | .not _ => false
  | _ => true
theorem nest_not : ∀ (n : Nat) (a : Addr), Addr.not (nest n a) = nest n (.not a)
  | 0, _ => rfl
  | n + 1, a => nest_not n (.not a)
theorem nest_nots : ∀ (n : Nat) (a : Addr), notsOf (nest n a) = n + notsOf a
  | 0, a => by simp [nest]
  | n + 1, a => by
    rw [nest_succ, nest_nots n]
    show n + (notsOf a + 1) = _
    omega
theorem nest_core : ∀ (n : Nat) (a : Addr), coreOf (nest n a) = coreOf a
  | 0, _ => rfl
  | n + 1, a => (nest_core n (.not a)).trans rfl
theorem core_of_isCore {a : Addr} (h : isCore a = true) : coreOf a = a ∧ notsOf a = 0 := by
  cases a <;> first | exact ⟨rfl, rfl⟩ | cases h
theorem nest_of (a : Addr) : nest (notsOf a) (coreOf a) = a := by
  induction a with
  | not a ih =>
    show nest (notsOf a + 1) (coreOf a) = _
    rw [nest_succ, ← nest_not, ih]
  | _ => rfl
/-! ### what is read is within bounds -/
theorem takeNum_ok {lo hi n : Nat} {l r : Toks} (h : takeNum lo hi l = .ok (n, r)) : ∃ p, l = ⟨p, .num n⟩ :: r ∧ lo ≤ n ∧ n ≤ hi := by
  unfold takeNum at h
  split at h
  · rename_i q k rr
    split at h
    · cases h
    · rename_i hn
      cases h
      exact ⟨q, rfl, by omega, by omega⟩
  · cases h
theorem takeLetters_ok {w : Bytes} {l r : Toks} (h : takeLetters l = .ok (w, r)) : ∃ p, l = ⟨p, .name w⟩ :: r ∧ RESERVED.contains w = false := by
  unfold takeLetters takeName at h
  split at h
  · rename_i q k rr
    split at h
    · cases h
    · rename_i hn
      cases h
      exact ⟨q, rfl, by simpa using hn⟩
  · cases h
theorem Ends.num {p n : Nat} {r : Toks} (h : Ends (⟨p, .num n⟩ :: r)) : Ends r := (h.tail (by intro z; cases z)).2
theorem Ends.name {p : Nat} {b : Bytes} {r : Toks} (h : Ends (⟨p, .name b⟩ :: r)) : Lw b ∧ Ends r := h.tail (by intro z; cases z)
theorem Ends.word {s : String} {l : Toks} (h : Ends l) (n : nextWord s l = true) : ∃ p r, l = ⟨p, .name (word s)⟩ :: r ∧ Ends r := by
  cases l with
  | nil => exact h.elim
  | cons t r =>
    obtain ⟨p, k⟩ := t
    cases k with
    | name b =>
      have : b = VasedBase.word s := by simpa [nextWord_name] using n
      subst this
      exact ⟨p, r, rfl, h.name.2⟩
    | _ => cases n
theorem takeWord_ok {s : String} {l r : Toks} (h : takeWord s l = .ok r) : nextWord s l = true ∧ r = l.drop 1 := by
  unfold takeWord taken at h
  split at h
  · rename_i hn
    cases h
    exact ⟨hn, rfl⟩
  · cases h
/-- an address within bounds, no not in it -/
def CoreOk : Addr → Prop
  | .all => True
  | .line n => 1 ≤ n ∧ n ≤ 99
  | .span a b => 1 ≤ a ∧ a ≤ b ∧ b ≤ 99
  | .last => True
  | .has w => Lw w
  | .is_ w => Lw w
  | .not _ => False
def AddrOk (a : Addr) : Prop := notsOf a ≤ 3 ∧ CoreOk (coreOf a)
def DeedOk : Deed → Prop
  | .before w => Lw w
  | .after w => Lw w
  | .change w => Lw w
  | .swap a b => Lw a ∧ (b = [] ∨ Lw b)
  | .first a b => Lw a ∧ (b = [] ∨ Lw b)
  | .skip k => 1 ≤ k ∧ k ≤ 9
  | _ => True
def CmdOk (c : Cmd) : Prop := AddrOk c.a ∧ DeedOk c.d
theorem CoreOk.core {a : Addr} (h : CoreOk a) : isCore a = true := by cases a <;> first | rfl | exact h.elim
end LD

namespace LD
open VasedBase Vaseda
/-! ### texts -/
def S (l x : Bytes) : Option Text := splitBy (l.length + 1) l x
theorem S_nil (x : Bytes) : S [] x = if x.isEmpty = true then some [] else none := rfl
theorem S_cons (b : UInt8) (r x : Bytes) : S (b :: r) x = if b == 10 then (S r []).map fun t => x :: t else if isLetter b = true then S r (x ++ [b]) else none := rfl
theorem S_line : ∀ (seg r x : Bytes), (∀ c ∈ seg, c ≠ 10) → S (seg ++ 10 :: r) x = if seg.all isLetter = true then (S r []).map fun t => (x ++ seg) :: t else none
  | [], r, x, _ => by
    show S (10 :: r) x = _
    rw [S_cons]
    simp
  | c :: seg, r, x, h => by
    have hc : (c == 10) = false := by simpa using h c List.mem_cons_self
    show S (c :: (seg ++ 10 :: r)) x = _
    rw [S_cons, hc, S_line seg r (x ++ [c]) (fun c' h' => h c' (List.mem_cons_of_mem _ h'))]
    simp only [Bool.false_eq_true, if_false, List.append_assoc, List.singleton_append]
    have ha : (c :: seg).all isLetter = (isLetter c && seg.all isLetter) := rfl
    by_cases hl : isLetter c = true
    · have e : ((c :: seg).all isLetter = true) = (seg.all isLetter = true) := by rw [ha, hl, Bool.true_and]
      simp only [e]
      rw [if_pos hl]
    · have e : ¬ (c :: seg).all isLetter = true := fun z => hl (Bool.and_eq_true_iff.mp (ha ▸ z)).1
      rw [if_neg hl, if_neg e]
theorem S_end : ∀ (seg x : Bytes), (∀ c ∈ seg, c ≠ 10) → (seg ≠ [] ∨ x ≠ []) → S seg x = none
  | [], x, _, h => by
    rw [S_nil]
    rcases h with h | h
    · exact absurd rfl h
    · cases x with
      | nil => exact absurd rfl h
      | cons a b => rfl
  | c :: seg, x, h, _ => by
    have hc : (c == 10) = false := by simpa using h c List.mem_cons_self
    rw [S_cons, hc]
    simp only [Bool.false_eq_true, if_false]
    rw [S_end seg (x ++ [c]) (fun c' h' => h c' (List.mem_cons_of_mem _ h')) (.inr (by simp))]
    simp
/-- a line of letters -/
def LineOk (x : Bytes) : Prop := x.length ≤ 16 ∧ ∀ c ∈ x, isLetter c = true
def lineOk (x : Bytes) : Bool := decide (x.length ≤ 16) && x.all isLetter
theorem lineOk_iff {x : Bytes} : lineOk x = true ↔ LineOk x := by unfold lineOk LineOk; simp
/-- read so far: the lines, where the next one begins, how far it is looked -/
structure Part (b : Bytes) (ls : Text) (begin i : Nat) : Prop where
  le : begin ≤ i
  li : i ≤ b.length
  no : ∀ c ∈ (b.drop begin).take (i - begin), c ≠ 10
  eq : textOf b = (S (b.drop begin) []).map fun t => ls ++ t
  ok : ∀ x ∈ ls, LineOk x
  num : ls.length ≤ i
theorem Part.start (b : Bytes) : Part b [] 0 0 := ⟨Nat.le_refl _, Nat.zero_le _, by simp, by
  show textOf b = (S b []).map fun t => [] ++ t
  unfold textOf
  simp only [List.nil_append, Option.map_id']
  rfl, by simp, Nat.le_refl _⟩
theorem take_succ_at {b : Bytes} {begin i : Nat} {c : UInt8} (h : b[i]? = some c) (hl : begin ≤ i) : (b.drop begin).take (i + 1 - begin) = (b.drop begin).take (i - begin) ++ [c] := by
  have e : i + 1 - begin = (i - begin) + 1 := by omega
  rw [e, List.take_add_one, List.getElem?_drop]
  have : begin + (i - begin) = i := by omega
  rw [this, h]
  rfl
theorem Part.past {b : Bytes} {ls : Text} {begin i : Nat} {c : UInt8} (p : Part b ls begin i) (h : b[i]? = some c) (hc : c ≠ 10) : Part b ls begin (i + 1) := by
  have hi := (List.getElem?_eq_some_iff.mp h).1
  refine ⟨by have := p.le; omega, hi, ?_, p.eq, p.ok, by have := p.num; omega⟩
  rw [take_succ_at h p.le]
  intro d hd
  rcases List.mem_append.mp hd with hd | hd
  · exact p.no d hd
  · have : d = c := by simpa using hd
    rw [this]; exact hc
theorem Part.split {b : Bytes} {ls : Text} {begin i : Nat} {c : UInt8} (p : Part b ls begin i) (h : b[i]? = some c) (hc : c = 10) :
    textOf b = if ((b.drop begin).take (i - begin)).all isLetter = true then (S (b.drop (i + 1)) []).map fun t => ls ++ ((b.drop begin).take (i - begin) :: t) else none := by
  have hi := (List.getElem?_eq_some_iff.mp h).1
  have hb : b.drop begin = (b.drop begin).take (i - begin) ++ 10 :: b.drop (i + 1) := by
    conv => lhs; rw [← List.take_append_drop (i - begin) (b.drop begin)]
    rw [List.drop_drop]
    have : begin + (i - begin) = i := by have := p.le; omega
    rw [this, drop_cons h, hc]
  rw [p.eq, hb, S_line _ _ _ p.no]
  rw [← hb]
  split
  · rw [Option.map_map]; rfl
  · rfl
theorem Part.line {b : Bytes} {ls : Text} {begin i : Nat} {c : UInt8} (p : Part b ls begin i) (h : b[i]? = some c) (hc : c = 10) (ok : LineOk ((b.drop begin).take (i - begin))) :
    Part b (ls ++ [(b.drop begin).take (i - begin)]) (i + 1) (i + 1) := by
  have hi := (List.getElem?_eq_some_iff.mp h).1
  refine ⟨Nat.le_refl _, hi, by simp, ?_, ?_, by rw [List.length_append]; have := p.num; simp; omega⟩
  · rw [p.split h hc, if_pos (by rw [List.all_eq_true]; exact ok.2)]
    simp
  · intro x hx
    rcases List.mem_append.mp hx with hx | hx
    · exact p.ok x hx
    · have : x = (b.drop begin).take (i - begin) := by simpa using hx
      rw [this]; exact ok
theorem Part.bad {b : Bytes} {ls : Text} {begin i : Nat} {c : UInt8} (p : Part b ls begin i) (h : b[i]? = some c) (hc : c = 10) (bad : ¬ LineOk ((b.drop begin).take (i - begin))) : readText b = none := by
  unfold readText
  rw [p.split h hc]
  split
  · rename_i ha
    have hl : 16 < ((b.drop begin).take (i - begin)).length := by
      refine Nat.lt_of_not_le fun z => bad ⟨z, ?_⟩
      rw [List.all_eq_true] at ha
      exact ha
    cases S (b.drop (i + 1)) [] with
    | none => rfl
    | some t =>
      show (if LINES < _ ∨ _ then none else some _) = none
      rw [if_pos]
      refine .inr ?_
      rw [List.any_eq_true]
      exact ⟨_, List.mem_append_right _ List.mem_cons_self, by unfold LONG; exact decide_eq_true hl⟩
  · rfl
theorem Part.rest {b : Bytes} {ls : Text} {begin : Nat} (p : Part b ls begin b.length) (h : begin < b.length) : readText b = none := by
  unfold readText
  rw [p.eq, S_end (b.drop begin) [] (fun c hc => p.no c ?_) (.inl fun z => ?_)]
  · rfl
  · rw [List.take_of_length_le (by rw [List.length_drop]; exact Nat.le_refl _)]
    exact hc
  · have := congrArg List.length z
    rw [List.length_drop] at this
    simp at this
    omega
theorem Part.done {b : Bytes} {ls : Text} {begin : Nat} (p : Part b ls begin b.length) (h : ¬ begin < b.length) : readText b = if 24 < ls.length then none else some ls := by
  unfold readText
  have hb : begin = b.length := by have := p.le; omega
  rw [p.eq, hb, List.drop_length, S_nil]
  have e : ((if ([] : Bytes).isEmpty = true then some [] else none : Option Text).map fun t => ls ++ t) = some ls := by simp
  rw [e]
  show (if LINES < ls.length ∨ _ then none else some ls) = _
  have ha : ls.any (fun x => decide (LONG < x.length)) = false := by
    rw [List.any_eq_false]
    intro x hx
    have := (p.ok x hx).1
    unfold LONG
    simp; omega
  rw [ha]
  unfold LINES
  simp
theorem readText_ok {b : Bytes} {t : Text} {ls : Text} {begin : Nat} (p : Part b ls begin b.length) (h : readText b = some t) : t = ls ∧ t.length ≤ 24 ∧ ∀ x ∈ t, LineOk x := by
  by_cases c : begin < b.length
  · rw [p.rest c] at h; cases h
  · rw [p.done c] at h
    split at h
    · cases h
    · cases h
      exact ⟨rfl, by omega, p.ok⟩
end LD

namespace LD
open VasedBase Vaseda
/-! ### runs -/
/-- the line's work by the first so many commands -/
def workUpTo (s : Script) (k : Nat) (last : Bool) (x held : Line) (i : Nat) : Work := (s.zipIdx.take i).foldl (work k last) ⟨x, held, [], [], false, false, 0, [], false⟩
theorem workUpTo_zero (s : Script) (k : Nat) (last : Bool) (x held : Line) : workUpTo s k last x held 0 = ⟨x, held, [], [], false, false, 0, [], false⟩ := by unfold workUpTo; simp
theorem workUpTo_all (s : Script) (k : Nat) (last : Bool) (x held : Line) : workUpTo s k last x held s.length = lineRun s k last x held := by
  unfold workUpTo lineRun
  rw [List.take_of_length_le (by rw [List.length_zipIdx]; exact Nat.le_refl _)]
theorem workUpTo_succ {s : Script} {k : Nat} {last : Bool} {x held : Line} {i : Nat} {c : Cmd} (h : s[i]? = some c) : workUpTo s k last x held (i + 1) = work k last (workUpTo s k last x held i) (c, i) := by
  unfold workUpTo
  rw [List.take_add_one, List.getElem?_zipIdx, h]
  simp
theorem fold_stuck {k : Nat} {last : Bool} : ∀ (l : List (Cmd × Nat)) (w : Work), (w.halt || w.bad) = true → l.foldl (work k last) w = w
  | [], _, _ => rfl
  | c :: l, w, h => by
    rw [List.foldl_cons]
    have e : work k last w c = w := by unfold work; rw [if_pos h]
    rw [e]
    exact fold_stuck l w h
/-- stopped or bad: so it stays -/
theorem lineRun_stuck {s : Script} {k : Nat} {last : Bool} {x held : Line} {i : Nat} (h : ((workUpTo s k last x held i).halt || (workUpTo s k last x held i).bad) = true) : lineRun s k last x held = workUpTo s k last x held i := by
  unfold lineRun
  conv => lhs; rw [← List.take_append_drop i s.zipIdx]
  rw [List.foldl_append]
  exact fold_stuck _ _ h
/-! ### what a line's work keeps -/
/-- letters of a line by now -/
def Letters (x : Bytes) : Prop := x.length ≤ 16 ∧ ∀ c ∈ x, isLetter c = true
def OutOk (o : Out) : Prop := Letters o.x
theorem Lw.letters {w : Bytes} (h : Lw w) : Letters w := ⟨by have := h.2.1; omega, h.2.2⟩
theorem Letters.nil : Letters [] := ⟨Nat.zero_le _, fun c h => by simp at h⟩
theorem mem_swapBy {a b : Bytes} {once : Bool} : ∀ (n : Nat) (x : Bytes) (c : UInt8), c ∈ swapBy a b once n x → c ∈ b ∨ c ∈ x
  | 0, x, c, h => .inr h
  | n + 1, [], c, h => by simp [swapBy] at h
  | n + 1, d :: r, c, h => by
    unfold swapBy at h
    simp only at h
    split at h
    · rcases List.mem_append.mp h with h | h
      · exact .inl h
      · split at h
        · exact .inr (List.mem_of_mem_drop h)
        · rcases mem_swapBy n _ c h with h | h
          · exact .inl h
          · exact .inr (List.mem_of_mem_drop h)
    · rcases List.mem_cons.mp h with rfl | h
      · exact .inr List.mem_cons_self
      · rcases mem_swapBy n _ c h with h | h
        · exact .inl h
        · exact .inr (List.mem_cons_of_mem _ h)
/-- a work's state that is well -/
structure WOk (w : Work) (n : Nat) : Prop where
  x : w.bad = false → Letters w.x
  held : Letters w.held
  pre : ∀ o ∈ w.pre, Letters o.x
  post : ∀ o ∈ w.post, Letters o.x
  npre : w.pre.length ≤ n
  npost : w.post.length ≤ n
  ndid : w.did.length ≤ n
  left : w.left ≤ 9
theorem WOk.mono {w : Work} {n m : Nat} (h : WOk w n) (l : n ≤ m) : WOk w m := ⟨h.x, h.held, h.pre, h.post, Nat.le_trans h.npre l, Nat.le_trans h.npost l, Nat.le_trans h.ndid l, h.left⟩
theorem WOk.start {x held : Bytes} (hx : Letters x) (hh : Letters held) : WOk ⟨x, held, [], [], false, false, 0, [], false⟩ 0 :=
  ⟨fun _ => hx, hh, by simp, by simp, Nat.le_refl _, Nat.le_refl _, Nat.le_refl _, by simp⟩
theorem WOk.did {w : Work} {n c : Nat} (h : WOk w n) : WOk { w with did := w.did ++ [c] } (n + 1) :=
  ⟨h.x, h.held, h.pre, h.post, Nat.le_succ_of_le h.npre, Nat.le_succ_of_le h.npost, by have := h.ndid; simp; omega, h.left⟩
theorem WOk.deed {w : Work} {n k c : Nat} {d : Deed} (h : WOk w n) (hb : w.bad = false) (hd : DeedOk d) (hn : w.pre.length + 1 ≤ n ∧ w.post.length + 1 ≤ n) : WOk (Vaseda.deed k c w d) n := by
  have hx := h.x hb
  have app (l : List Out) (x : Bytes) (hl : ∀ o ∈ l, Letters o.x) (hx : Letters x) : ∀ o ∈ l ++ [⟨x, k, some c⟩], Letters o.x := by
    intro o ho
    rcases List.mem_append.mp ho with ho | ho
    · exact hl o ho
    · have : o = ⟨x, k, some c⟩ := by simpa using ho
      rw [this]; exact hx
  have sw (a b : Bytes) (once : Bool) (hb' : b = [] ∨ Lw b) : ∀ c ∈ swapIn a b once w.x, isLetter c = true := by
    intro c hc
    rcases mem_swapBy _ _ c hc with h1 | h1
    · rcases hb' with rfl | hb'
      · simp at h1
      · exact hb'.2.2 c h1
    · exact hx.2 c h1
  cases d with
  | delete => exact ⟨h.x, h.held, h.pre, h.post, h.npre, h.npost, h.ndid, h.left⟩
  | before y => exact ⟨h.x, h.held, app _ _ h.pre (Lw.letters hd), h.post, by simpa [Vaseda.deed] using hn.1, h.npost, h.ndid, h.left⟩
  | after y => exact ⟨h.x, h.held, h.pre, app _ _ h.post (Lw.letters hd), h.npre, by simpa [Vaseda.deed] using hn.2, h.ndid, h.left⟩
  | change y => exact ⟨fun _ => Lw.letters hd, h.held, h.pre, h.post, h.npre, h.npost, h.ndid, h.left⟩
  | swap a b =>
    refine ⟨fun hbad => ⟨?_, sw a b false hd.2⟩, h.held, h.pre, h.post, h.npre, h.npost, h.ndid, h.left⟩
    have : (w.bad || decide (LONG < (swapIn a b false w.x).length)) = false := hbad
    rw [hb, Bool.false_or] at this
    exact Nat.le_of_not_lt (of_decide_eq_false this)
  | first a b =>
    refine ⟨fun hbad => ⟨?_, sw a b true hd.2⟩, h.held, h.pre, h.post, h.npre, h.npost, h.ndid, h.left⟩
    have : (w.bad || decide (LONG < (swapIn a b true w.x).length)) = false := hbad
    rw [hb, Bool.false_or] at this
    exact Nat.le_of_not_lt (of_decide_eq_false this)
  | keep => exact ⟨h.x, hx, h.pre, h.post, h.npre, h.npost, h.ndid, h.left⟩
  | bring => exact ⟨h.x, h.held, h.pre, app _ _ h.post h.held, h.npre, by simpa [Vaseda.deed] using hn.2, h.ndid, h.left⟩
  | trade => exact ⟨fun _ => h.held, hx, h.pre, h.post, h.npre, h.npost, h.ndid, h.left⟩
  | skip n => exact ⟨h.x, h.held, h.pre, h.post, h.npre, h.npost, h.ndid, hd.2⟩
  | halt_ => exact ⟨h.x, h.held, h.pre, h.post, h.npre, h.npost, h.ndid, h.left⟩
theorem WOk.work {w : Work} {n k : Nat} {last : Bool} {c : Cmd × Nat} (h : WOk w n) (hc : CmdOk c.1) : WOk (Vaseda.work k last w c) (n + 1) := by
  unfold Vaseda.work
  by_cases c1 : (w.halt || w.bad) = true
  · rw [if_pos c1]; exact h.mono (Nat.le_succ _)
  · rw [if_neg c1]
    have hb : w.bad = false := by
      cases e : w.bad with
      | false => rfl
      | true => rw [e] at c1; simp at c1
    by_cases c2 : 0 < w.left
    · rw [if_pos c2]
      exact ⟨h.x, h.held, h.pre, h.post, Nat.le_succ_of_le h.npre, Nat.le_succ_of_le h.npost, Nat.le_succ_of_le h.ndid, by have := h.left; show w.left - 1 ≤ 9; omega⟩
    · rw [if_neg c2]
      split
      · exact WOk.deed h.did hb hc.2 ⟨by have := h.npre; show w.pre.length + 1 ≤ n + 1; omega, by have := h.npost; show w.post.length + 1 ≤ n + 1; omega⟩
      · exact h.mono (Nat.le_succ _)
theorem WOk.upTo {s : Script} {k : Nat} {last : Bool} {x held : Line} (hs : ∀ c ∈ s, CmdOk c) (hx : Letters x) (hh : Letters held) : ∀ i, i ≤ s.length → WOk (workUpTo s k last x held i) i
  | 0, _ => by rw [workUpTo_zero]; exact WOk.start hx hh
  | i + 1, hi => by
    have hi' : i < s.length := hi
    rw [workUpTo_succ (List.getElem?_eq_getElem hi')]
    exact (WOk.upTo hs hx hh i (Nat.le_of_lt hi')).work (hs _ (List.getElem_mem hi'))
theorem WOk.lineRun {s : Script} {k : Nat} {last : Bool} {x held : Line} (hs : ∀ c ∈ s, CmdOk c) (hx : Letters x) (hh : Letters held) : WOk (lineRun s k last x held) s.length := by
  rw [← workUpTo_all]
  exact WOk.upTo hs hx hh _ (Nat.le_refl _)
/-! ### all lines -/
/-- the lines done so far, the held one then, the lines to come -/
structure Done (s : Script) (t : Text) (i : Nat) (ws : List Work) (held : Line) : Prop where
  all : works s t = ws ++ worksBy s (i + 1) held (t.drop i)
  len : ws.length = i
  fine : ∀ w ∈ ws, w.bad = false
  ok : ∀ w ∈ ws, WOk w s.length
  hh : Letters held
  last : ((ws.getLast?).map fun w => w.held).getD [] = held
theorem Done.start (s : Script) (t : Text) : Done s t 0 [] [] := ⟨rfl, rfl, by simp, by simp, Letters.nil, rfl⟩
theorem isEmpty_drop {t : Text} {i : Nat} (hi : i < t.length) : (t.drop (i + 1)).isEmpty = decide (i + 1 = t.length) := by
  cases e : t.drop (i + 1) with
  | nil =>
    have := congrArg List.length e
    rw [List.length_drop] at this
    have : i + 1 = t.length := by simp at this; omega
    rw [decide_eq_true this]; rfl
  | cons a r =>
    have := congrArg List.length e
    rw [List.length_drop] at this
    have : ¬ i + 1 = t.length := by simp at this; omega
    rw [decide_eq_false this]; rfl
theorem worksBy_drop {s : Script} {t : Text} {i k : Nat} {held x : Line} (h : t[i]? = some x) :
    worksBy s k held (t.drop i) = lineRun s k (decide (i + 1 = t.length)) x held :: worksBy s (k + 1) (lineRun s k (decide (i + 1 = t.length)) x held).held (t.drop (i + 1)) := by
  obtain ⟨hi, rfl⟩ := List.getElem?_eq_some_iff.mp h
  rw [List.drop_eq_getElem_cons hi, ← isEmpty_drop hi]
  rfl
theorem Done.step {s : Script} {t : Text} {i : Nat} {ws : List Work} {held x : Line} (d : Done s t i ws held) (hs : ∀ c ∈ s, CmdOk c) (h : t[i]? = some x) (hx : Letters x)
    (fine : (lineRun s (i + 1) (decide (i + 1 = t.length)) x held).bad = false) :
    Done s t (i + 1) (ws ++ [lineRun s (i + 1) (decide (i + 1 = t.length)) x held]) (lineRun s (i + 1) (decide (i + 1 = t.length)) x held).held where
  all := by rw [d.all, worksBy_drop h]; simp
  len := by simp [d.len]
  fine := fun w hw => by
    rcases List.mem_append.mp hw with hw | hw
    · exact d.fine w hw
    · have : w = lineRun s (i + 1) (decide (i + 1 = t.length)) x held := by simpa using hw
      rw [this]; exact fine
  ok := fun w hw => by
    rcases List.mem_append.mp hw with hw | hw
    · exact d.ok w hw
    · have : w = lineRun s (i + 1) (decide (i + 1 = t.length)) x held := by simpa using hw
      rw [this]; exact WOk.lineRun hs hx d.hh
  hh := (WOk.lineRun hs hx d.hh).held
  last := by simp
/-- the lines that come of works -/
def outsOf (ws : List Work) : List Out := ws.zipIdx.flatMap fun w => outOf (w.2 + 1) w.1
theorem run_eq (s : Script) (t : Text) : run s t = if (works s t).any (fun w => w.bad) = true ∨ OUTS < (outsOf (works s t)).length then none else some ⟨outsOf (works s t), (((works s t).getLast?).map fun w => w.held).getD []⟩ := rfl
theorem Done.bad {s : Script} {t : Text} {i : Nat} {ws : List Work} {held x : Line} (d : Done s t i ws held) (h : t[i]? = some x) (bad : (lineRun s (i + 1) (decide (i + 1 = t.length)) x held).bad = true) : run s t = none := by
  rw [run_eq, if_pos]
  refine .inl ?_
  rw [d.all, worksBy_drop h, List.any_append, List.any_cons, bad]
  simp
theorem Done.end {s : Script} {t : Text} {ws : List Work} {held : Line} (d : Done s t t.length ws held) : works s t = ws := by
  rw [d.all, List.drop_length]
  show ws ++ [] = ws
  simp
theorem Done.run {s : Script} {t : Text} {ws : List Work} {held : Line} (d : Done s t t.length ws held) : run s t = if 60 < (outsOf ws).length then none else some ⟨outsOf ws, held⟩ := by
  have ha : ws.any (fun w => w.bad) = false := by
    rw [List.any_eq_false]
    intro w hw
    rw [d.fine w hw]
    exact Bool.false_ne_true
  rw [run_eq, d.end, ha, d.last]
  simp [OUTS]
theorem mem_outOf {k : Nat} {w : Work} {n : Nat} (h : WOk w n) (fine : w.bad = false) : ∀ o ∈ outOf k w, Letters o.x := by
  intro o ho
  unfold outOf at ho
  rcases List.mem_append.mp ho with ho | ho
  · exact h.pre o ho
  · rcases List.mem_append.mp ho with ho | ho
    · split at ho
      · simp at ho
      · have : o = ⟨w.x, k, none⟩ := by simpa using ho
        rw [this]; exact h.x fine
    · exact h.post o ho
theorem outs_letters {s : Script} {t : Text} {i : Nat} {ws : List Work} {held : Line} (d : Done s t i ws held) : ∀ o ∈ outsOf ws, Letters o.x := by
  intro o ho
  unfold outsOf at ho
  obtain ⟨⟨w, k⟩, hw, ho⟩ := List.mem_flatMap.mp ho
  have hm : w ∈ ws := by
    have := List.mem_zipIdx hw
    rw [this.2.2]
    exact List.getElem_mem _
  exact mem_outOf (d.ok w hm) (d.fine w hm) o ho
theorem outOf_len {k : Nat} {w : Work} {n : Nat} (h : WOk w n) : (outOf k w).length ≤ n + 1 + n := by
  unfold outOf
  have h1 := h.npre
  have h2 := h.npost
  rw [List.length_append, List.length_append]
  have : (if w.gone = true then [] else [⟨w.x, k, none⟩] : List Out).length ≤ 1 := by split <;> simp
  omega
theorem outsOf_nil : outsOf [] = [] := rfl
theorem outsOf_snoc (ws : List Work) (w : Work) : outsOf (ws ++ [w]) = outsOf ws ++ outOf (ws.length + 1) w := by
  unfold outsOf
  rw [List.zipIdx_append, List.flatMap_append]
  simp
theorem outsOf_len {n : Nat} : ∀ (ws : List Work), (∀ w ∈ ws, WOk w n) → (outsOf ws).length ≤ ws.length * (n + 1 + n) := by
  intro ws h
  unfold outsOf
  have : ∀ (l : List (Work × Nat)), (∀ p ∈ l, WOk p.1 n) → (l.flatMap fun w => outOf (w.2 + 1) w.1).length ≤ l.length * (n + 1 + n) := by
    intro l
    induction l with
    | nil => intro _; simp
    | cons p l ih =>
      intro hl
      rw [List.flatMap_cons, List.length_append]
      have h1 := outOf_len (k := p.2 + 1) (hl p List.mem_cons_self)
      have h2 := ih fun q hq => hl q (List.mem_cons_of_mem _ hq)
      rw [List.length_cons, Nat.succ_mul]
      omega
  have := this ws.zipIdx fun p hp => by
    have := List.mem_zipIdx hp
    rw [this.2.2]
    exact h _ (List.getElem_mem _)
  rw [List.length_zipIdx] at this
  exact this
theorem outText_letters {s : Script} {t : Text} {r : Result} (hs : ∀ c ∈ s, CmdOk c) (ht : ∀ x ∈ t, Letters x) (h : run s t = some r) : (∀ x ∈ outText r, Letters x) ∧ (outText r).length ≤ 60 ∧ Letters r.held := by
  have done : ∀ i, i ≤ t.length → (∃ ws held, Done s t i ws held) ∨ run s t = none := by
    intro i
    induction i with
    | zero => intro _; exact .inl ⟨_, _, Done.start s t⟩
    | succ i ih =>
      intro hi
      rcases ih (by omega) with ⟨ws, held, d⟩ | e
      · have hx : t[i]? = some t[i] := List.getElem?_eq_getElem hi
        cases e : (lineRun s (i + 1) (decide (i + 1 = t.length)) t[i] held).bad with
        | true => exact .inr (d.bad hx e)
        | false => exact .inl ⟨_, _, d.step hs hx (ht _ (List.getElem_mem hi)) e⟩
      · exact .inr e
  rcases done t.length (Nat.le_refl _) with ⟨ws, held, d⟩ | e
  · rw [d.run] at h
    split at h
    · cases h
    · cases h
      refine ⟨fun x hx => ?_, ?_, d.hh⟩
      · obtain ⟨o, ho, rfl⟩ := List.mem_map.mp hx
        exact outs_letters d o ho
      · show ((outsOf ws).map _).length ≤ 60
        rw [List.length_map]; omega
  · rw [e] at h; cases h
end LD

namespace LD
open VasedBase Vaseda
/-! ### one token ahead -/
def Gt (t : Tok) : Prop := GoodTok t ∨ t = .last
theorem Ends.gt {t : PTok} {r : Toks} (h : Ends (t :: r)) : Gt t.tok := by
  rcases h with h | h
  · exact .inr h.1
  · exact .inl h.1
theorem next_iff {s : String} {t : PTok} {r : Toks} : nextWord s (t :: r) = true ↔ t.tok = .name (word s) := by
  obtain ⟨p, k⟩ := t
  cases k with
  | name b =>
    rw [nextWord_name]
    constructor
    · intro h; have : b = word s := by simpa using h
      rw [this]
    · intro h; injection h with h; rw [h]; simp
  | num n => exact ⟨fun h => (by cases h), fun h => by cases h⟩
  | sign n => exact ⟨fun h => (by cases h), fun h => by cases h⟩
  | last => exact ⟨fun h => (by cases h), fun h => by cases h⟩
theorem Ends.next {s : String} {t : PTok} {r : Toks} (h : Ends (t :: r)) (n : nextWord s (t :: r) = true) : Ends r := (h.tail (by rw [next_iff.mp n]; intro z; cases z)).2
theorem no_next {s s' : String} {l : Toks} (h : nextWord s l = true) (hs : (word s == word s') = false) : ¬ nextWord s' l = true := by rw [next_two h hs]; exact Bool.false_ne_true
theorem tl_ok {t : PTok} {r : Toks} {b : Bytes} (h : t.tok = .name b) (hr : RESERVED.contains b = false) : takeLetters (t :: r) = .ok (b, r) := by
  obtain ⟨p, k⟩ := t
  cases h
  unfold takeLetters takeName
  simp only
  rw [if_neg (by rw [hr]; exact Bool.false_ne_true)]
  rfl
theorem tl_err {t : PTok} {r : Toks} (h : ¬ ∃ b, t.tok = .name b ∧ RESERVED.contains b = false) : takeLetters (t :: r) = .error ⟨3, t.place⟩ := by
  obtain ⟨p, k⟩ := t
  cases k with
  | name b =>
    have hb : RESERVED.contains b = true := by
      cases e : RESERVED.contains b with
      | true => rfl
      | false => exact absurd ⟨b, rfl, e⟩ h
    unfold takeLetters takeName
    simp only
    rw [if_pos hb]
    rfl
  | _ => rfl
theorem tn_ok {t : PTok} {r : Toks} {n lo hi : Nat} (h : t.tok = .num n) (h1 : lo ≤ n) (h2 : n ≤ hi) : takeNum lo hi (t :: r) = .ok (n, r) := by
  obtain ⟨p, k⟩ := t
  cases h
  unfold takeNum
  simp only
  rw [if_neg (by omega)]
theorem tn_out {t : PTok} {r : Toks} {n lo hi : Nat} (h : t.tok = .num n) (h1 : n < lo ∨ hi < n) : takeNum lo hi (t :: r) = .error ⟨7, t.place⟩ := by
  obtain ⟨p, k⟩ := t
  cases h
  unfold takeNum
  simp only
  rw [if_pos h1]
theorem tn_err {t : PTok} {r : Toks} {lo hi : Nat} (h : ¬ ∃ n, t.tok = .num n) : takeNum lo hi (t :: r) = .error ⟨3, t.place⟩ := by
  obtain ⟨p, k⟩ := t
  cases k with
  | num n => exact absurd ⟨n, rfl⟩ h
  | _ => rfl
theorem tw_ok {s : String} {t : PTok} {r : Toks} (h : nextWord s (t :: r) = true) : takeWord s (t :: r) = .ok r := by
  have h' : VasedBase.next (.name (word s)) (t :: r) = true := h
  unfold takeWord taken
  rw [if_pos h']
  rfl
theorem tw_err {s : String} {t : PTok} {r : Toks} (h : ¬ nextWord s (t :: r) = true) : takeWord s (t :: r) = .error ⟨3, t.place⟩ := by
  have h' : ¬ VasedBase.next (.name (word s)) (t :: r) = true := h
  unfold takeWord taken
  rw [if_neg h']
  rfl
theorem ti_none {t : PTok} {r : Toks} (h : nextWord "none" (t :: r) = true) : takeInstead (t :: r) = .ok ([], r) := by
  unfold takeInstead
  rw [if_pos h]
  rfl
theorem ti_else {t : PTok} {r : Toks} (h : ¬ nextWord "none" (t :: r) = true) : takeInstead (t :: r) = takeLetters (t :: r) := by
  unfold takeInstead
  rw [if_neg h]
theorem core_all {t : PTok} {r : Toks} (h : nextWord "all" (t :: r) = true) : core (t :: r) = .ok (.all, r) := by
  unfold core
  rw [if_pos h]
  rfl
theorem core_line {t : PTok} {r : Toks} (h : nextWord "line" (t :: r) = true) : core (t :: r) = (takeNum 1 LINE r).map fun x => (.line x.1, x.2) := by
  unfold core
  rw [if_neg (no_next h (by decide +kernel : (word "line" == word "all") = false)), if_pos h]
  rfl
theorem core_from {t : PTok} {r : Toks} (h : nextWord "from" (t :: r) = true) : core (t :: r) = (takeNum 1 LINE r).bind fun x => (takeWord "to" x.2).bind fun l => (takeNum x.1 LINE l).map fun y => (.span x.1 y.1, y.2) := by
  unfold core
  rw [if_neg (no_next h (by decide +kernel : (word "from" == word "all") = false)), if_neg (no_next h (by decide +kernel : (word "from" == word "line") = false)), if_pos h]
  rfl
theorem core_last {t : PTok} {r : Toks} (h : nextWord "last" (t :: r) = true) : core (t :: r) = .ok (.last, r) := by
  unfold core
  rw [if_neg (no_next h (by decide +kernel : (word "last" == word "all") = false)), if_neg (no_next h (by decide +kernel : (word "last" == word "line") = false)), if_neg (no_next h (by decide +kernel : (word "last" == word "from") = false)), if_pos h]
  rfl
theorem core_has {t : PTok} {r : Toks} (h : nextWord "has" (t :: r) = true) : core (t :: r) = (takeLetters r).map fun x => (.has x.1, x.2) := by
  unfold core
  rw [if_neg (no_next h (by decide +kernel : (word "has" == word "all") = false)), if_neg (no_next h (by decide +kernel : (word "has" == word "line") = false)), if_neg (no_next h (by decide +kernel : (word "has" == word "from") = false)), if_neg (no_next h (by decide +kernel : (word "has" == word "last") = false)), if_pos h]
  rfl
theorem core_is {t : PTok} {r : Toks} (h : nextWord "is" (t :: r) = true) : core (t :: r) = (takeLetters r).map fun x => (.is_ x.1, x.2) := by
  unfold core
  rw [if_neg (no_next h (by decide +kernel : (word "is" == word "all") = false)), if_neg (no_next h (by decide +kernel : (word "is" == word "line") = false)), if_neg (no_next h (by decide +kernel : (word "is" == word "from") = false)), if_neg (no_next h (by decide +kernel : (word "is" == word "last") = false)), if_neg (no_next h (by decide +kernel : (word "is" == word "has") = false)), if_pos h]
  rfl
theorem core_wrong {t : PTok} {r : Toks} (h0 : ¬ nextWord "all" (t :: r) = true) (h1 : ¬ nextWord "line" (t :: r) = true) (h2 : ¬ nextWord "from" (t :: r) = true) (h3 : ¬ nextWord "last" (t :: r) = true) (h4 : ¬ nextWord "has" (t :: r) = true) (h5 : ¬ nextWord "is" (t :: r) = true) : core (t :: r) = .error ⟨3, t.place⟩ := by
  unfold core
  rw [if_neg h0, if_neg h1, if_neg h2, if_neg h3, if_neg h4, if_neg h5]
  rfl
theorem deed_delete {t : PTok} {r : Toks} (h : nextWord "delete" (t :: r) = true) : takeDeed (t :: r) = .ok (.delete, r) := by
  unfold takeDeed
  simp only
  rw [if_pos h]
  rfl
theorem deed_before {t : PTok} {r : Toks} (h : nextWord "before" (t :: r) = true) : takeDeed (t :: r) = (takeLetters r).map fun x => (.before x.1, x.2) := by
  unfold takeDeed
  simp only
  rw [if_neg (no_next h (by decide +kernel : (word "before" == word "delete") = false)), if_pos h]
  rfl
theorem deed_after {t : PTok} {r : Toks} (h : nextWord "after" (t :: r) = true) : takeDeed (t :: r) = (takeLetters r).map fun x => (.after x.1, x.2) := by
  unfold takeDeed
  simp only
  rw [if_neg (no_next h (by decide +kernel : (word "after" == word "delete") = false)), if_neg (no_next h (by decide +kernel : (word "after" == word "before") = false)), if_pos h]
  rfl
theorem deed_change {t : PTok} {r : Toks} (h : nextWord "change" (t :: r) = true) : takeDeed (t :: r) = (takeLetters r).map fun x => (.change x.1, x.2) := by
  unfold takeDeed
  simp only
  rw [if_neg (no_next h (by decide +kernel : (word "change" == word "delete") = false)), if_neg (no_next h (by decide +kernel : (word "change" == word "before") = false)), if_neg (no_next h (by decide +kernel : (word "change" == word "after") = false)), if_pos h]
  rfl
theorem deed_swap {t : PTok} {r : Toks} (h : nextWord "swap" (t :: r) = true) : takeDeed (t :: r) = takeTwo .swap r := by
  unfold takeDeed
  simp only
  rw [if_neg (no_next h (by decide +kernel : (word "swap" == word "delete") = false)), if_neg (no_next h (by decide +kernel : (word "swap" == word "before") = false)), if_neg (no_next h (by decide +kernel : (word "swap" == word "after") = false)), if_neg (no_next h (by decide +kernel : (word "swap" == word "change") = false)), if_pos h]
  rfl
theorem deed_first {t : PTok} {r : Toks} (h : nextWord "first" (t :: r) = true) : takeDeed (t :: r) = takeTwo .first r := by
  unfold takeDeed
  simp only
  rw [if_neg (no_next h (by decide +kernel : (word "first" == word "delete") = false)), if_neg (no_next h (by decide +kernel : (word "first" == word "before") = false)), if_neg (no_next h (by decide +kernel : (word "first" == word "after") = false)), if_neg (no_next h (by decide +kernel : (word "first" == word "change") = false)), if_neg (no_next h (by decide +kernel : (word "first" == word "swap") = false)), if_pos h]
  rfl
theorem deed_keep {t : PTok} {r : Toks} (h : nextWord "keep" (t :: r) = true) : takeDeed (t :: r) = .ok (.keep, r) := by
  unfold takeDeed
  simp only
  rw [if_neg (no_next h (by decide +kernel : (word "keep" == word "delete") = false)), if_neg (no_next h (by decide +kernel : (word "keep" == word "before") = false)), if_neg (no_next h (by decide +kernel : (word "keep" == word "after") = false)), if_neg (no_next h (by decide +kernel : (word "keep" == word "change") = false)), if_neg (no_next h (by decide +kernel : (word "keep" == word "swap") = false)), if_neg (no_next h (by decide +kernel : (word "keep" == word "first") = false)), if_pos h]
  rfl
theorem deed_bring {t : PTok} {r : Toks} (h : nextWord "bring" (t :: r) = true) : takeDeed (t :: r) = .ok (.bring, r) := by
  unfold takeDeed
  simp only
  rw [if_neg (no_next h (by decide +kernel : (word "bring" == word "delete") = false)), if_neg (no_next h (by decide +kernel : (word "bring" == word "before") = false)), if_neg (no_next h (by decide +kernel : (word "bring" == word "after") = false)), if_neg (no_next h (by decide +kernel : (word "bring" == word "change") = false)), if_neg (no_next h (by decide +kernel : (word "bring" == word "swap") = false)), if_neg (no_next h (by decide +kernel : (word "bring" == word "first") = false)), if_neg (no_next h (by decide +kernel : (word "bring" == word "keep") = false)), if_pos h]
  rfl
theorem deed_trade {t : PTok} {r : Toks} (h : nextWord "trade" (t :: r) = true) : takeDeed (t :: r) = .ok (.trade, r) := by
  unfold takeDeed
  simp only
  rw [if_neg (no_next h (by decide +kernel : (word "trade" == word "delete") = false)), if_neg (no_next h (by decide +kernel : (word "trade" == word "before") = false)), if_neg (no_next h (by decide +kernel : (word "trade" == word "after") = false)), if_neg (no_next h (by decide +kernel : (word "trade" == word "change") = false)), if_neg (no_next h (by decide +kernel : (word "trade" == word "swap") = false)), if_neg (no_next h (by decide +kernel : (word "trade" == word "first") = false)), if_neg (no_next h (by decide +kernel : (word "trade" == word "keep") = false)), if_neg (no_next h (by decide +kernel : (word "trade" == word "bring") = false)), if_pos h]
  rfl
theorem deed_skip {t : PTok} {r : Toks} (h : nextWord "skip" (t :: r) = true) : takeDeed (t :: r) = (takeNum 1 SKIPS r).map fun x => (.skip x.1, x.2) := by
  unfold takeDeed
  simp only
  rw [if_neg (no_next h (by decide +kernel : (word "skip" == word "delete") = false)), if_neg (no_next h (by decide +kernel : (word "skip" == word "before") = false)), if_neg (no_next h (by decide +kernel : (word "skip" == word "after") = false)), if_neg (no_next h (by decide +kernel : (word "skip" == word "change") = false)), if_neg (no_next h (by decide +kernel : (word "skip" == word "swap") = false)), if_neg (no_next h (by decide +kernel : (word "skip" == word "first") = false)), if_neg (no_next h (by decide +kernel : (word "skip" == word "keep") = false)), if_neg (no_next h (by decide +kernel : (word "skip" == word "bring") = false)), if_neg (no_next h (by decide +kernel : (word "skip" == word "trade") = false)), if_pos h]
  rfl
theorem deed_stop {t : PTok} {r : Toks} (h : nextWord "stop" (t :: r) = true) : takeDeed (t :: r) = .ok (.halt_, r) := by
  unfold takeDeed
  simp only
  rw [if_neg (no_next h (by decide +kernel : (word "stop" == word "delete") = false)), if_neg (no_next h (by decide +kernel : (word "stop" == word "before") = false)), if_neg (no_next h (by decide +kernel : (word "stop" == word "after") = false)), if_neg (no_next h (by decide +kernel : (word "stop" == word "change") = false)), if_neg (no_next h (by decide +kernel : (word "stop" == word "swap") = false)), if_neg (no_next h (by decide +kernel : (word "stop" == word "first") = false)), if_neg (no_next h (by decide +kernel : (word "stop" == word "keep") = false)), if_neg (no_next h (by decide +kernel : (word "stop" == word "bring") = false)), if_neg (no_next h (by decide +kernel : (word "stop" == word "trade") = false)), if_neg (no_next h (by decide +kernel : (word "stop" == word "skip") = false)), if_pos h]
  rfl
theorem deed_wrong {t : PTok} {r : Toks} (h0 : ¬ nextWord "delete" (t :: r) = true) (h1 : ¬ nextWord "before" (t :: r) = true) (h2 : ¬ nextWord "after" (t :: r) = true) (h3 : ¬ nextWord "change" (t :: r) = true) (h4 : ¬ nextWord "swap" (t :: r) = true) (h5 : ¬ nextWord "first" (t :: r) = true) (h6 : ¬ nextWord "keep" (t :: r) = true) (h7 : ¬ nextWord "bring" (t :: r) = true) (h8 : ¬ nextWord "trade" (t :: r) = true) (h9 : ¬ nextWord "skip" (t :: r) = true) (h10 : ¬ nextWord "stop" (t :: r) = true) : takeDeed (t :: r) = .error ⟨3, t.place⟩ := by
  unfold takeDeed
  simp only
  rw [if_neg h0, if_neg h1, if_neg h2, if_neg h3, if_neg h4, if_neg h5, if_neg h6, if_neg h7, if_neg h8, if_neg h9, if_neg h10]
  rfl
/-! ### a command, the commands -/
theorem sign_ok {t : PTok} {r : Toks} (h : t.tok = .sign 59) : takeSign 59 (t :: r) = .ok r := by
  obtain ⟨p, k⟩ := t
  cases h
  rfl
theorem sign_err {t : PTok} {r : Toks} (h : ¬ t.tok = .sign 59) : takeSign 59 (t :: r) = .error ⟨3, t.place⟩ := by
  obtain ⟨p, k⟩ := t
  unfold takeSign taken
  rw [if_neg]
  · rfl
  · intro z
    cases k with
    | sign c =>
      have : c = 59 := by
        have z : (c == 59) = true := z
        simpa using z
      exact h (by rw [this])
    | _ => cases z
end LD

namespace LD
open VasedBase Vaseda
/-! ### the one form -/
def jnP (s : Bytes) : List Bytes → Bytes
  | [] => []
  | [x] => x
  | x :: y :: r => x ++ s ++ jnP s (y :: r)
theorem jnP_cons {s x : Bytes} {l : List Bytes} (h : l ≠ []) : jnP s (x :: l) = x ++ s ++ jnP s l := by
  cases l with
  | nil => exact absurd rfl h
  | cons y r => rfl
theorem jnP_append {s : Bytes} : ∀ {a b : List Bytes}, a ≠ [] → b ≠ [] → jnP s (a ++ b) = jnP s a ++ s ++ jnP s b
  | [], _, h, _ => absurd rfl h
  | [x], b, _, hb => by
    show jnP s (x :: b) = x ++ s ++ jnP s b
    exact jnP_cons hb
  | x :: y :: r, b, _, hb => by
    have ih := jnP_append (s := s) (a := y :: r) (b := b) (by simp) hb
    show x ++ s ++ jnP s ((y :: r) ++ b) = (x ++ s ++ jnP s (y :: r)) ++ s ++ jnP s b
    rw [ih]
    simp [List.append_assoc]
/-- an address's, a deed's words -/
def addrW : Addr → List Bytes
  | .all => [word "all"]
  | .line n => [word "line", showNat n]
  | .span a b => [word "from", showNat a, word "to", showNat b]
  | .last => [word "last"]
  | .has w => [word "has", w]
  | .is_ w => [word "is", w]
  | .not _ => []
def deedW : Deed → List Bytes
  | .delete => [word "delete"]
  | .before w => [word "before", w]
  | .after w => [word "after", w]
  | .change w => [word "change", w]
  | .swap a b => [word "swap", a, instead b]
  | .first a b => [word "first", a, instead b]
  | .keep => [word "keep"]
  | .bring => [word "bring"]
  | .trade => [word "trade"]
  | .skip k => [word "skip", showNat k]
  | .halt_ => [word "stop"]
theorem w2 (s t : String) (x : Bytes) (h : word t = word s ++ [32]) : word s ++ [32] ++ x = word t ++ x := by rw [h]
theorem addrW_show {a : Addr} (h : isCore a = true) : jnP [32] (addrW a) = showAddr a := by
  cases a with
  | all => rfl
  | line n => exact w2 "line" "line " _ (by decide +kernel)
  | span a b =>
    show word "from" ++ [32] ++ (showNat a ++ [32] ++ (word "to" ++ [32] ++ showNat b)) = word "from " ++ (showNat a ++ (word " to " ++ showNat b))
    have e1 : word "from " = word "from" ++ [32] := by decide +kernel
    have e2 : word " to " = [32] ++ word "to" ++ [32] := by decide +kernel
    rw [e1, e2]
    simp [List.append_assoc]
  | last => rfl
  | has w => exact w2 "has" "has " _ (by decide +kernel)
  | is_ w => exact w2 "is" "is " _ (by decide +kernel)
  | not a => cases h
theorem addrW_ne {a : Addr} (h : isCore a = true) : addrW a ≠ [] := by cases a <;> first | (intro z; cases z; done) | (cases h; done)
theorem deedW_ne (d : Deed) : deedW d ≠ [] := by cases d <;> (intro z; cases z)
theorem deedW_show (d : Deed) : jnP [32] (deedW d) = showDeed d := by
  cases d with
  | before w => exact w2 "before" "before " _ (by decide +kernel)
  | after w => exact w2 "after" "after " _ (by decide +kernel)
  | change w => exact w2 "change" "change " _ (by decide +kernel)
  | skip k => exact w2 "skip" "skip " _ (by decide +kernel)
  | swap a b =>
    show word "swap" ++ [32] ++ (a ++ [32] ++ instead b) = word "swap " ++ (a ++ (word " " ++ instead b))
    have e1 : word "swap " = word "swap" ++ [32] := by decide +kernel
    have e2 : word " " = [32] := by decide +kernel
    rw [e1, e2]; simp [List.append_assoc]
  | first a b =>
    show word "first" ++ [32] ++ (a ++ [32] ++ instead b) = word "first " ++ (a ++ (word " " ++ instead b))
    have e1 : word "first " = word "first" ++ [32] := by decide +kernel
    have e2 : word " " = [32] := by decide +kernel
    rw [e1, e2]; simp [List.append_assoc]
  | _ => rfl
theorem nots_show {a : Addr} (h : isCore a = true) : ∀ k, jnP [32] (List.replicate k (word "not") ++ addrW a) = showAddr (nest k a) := by
  intro k
  induction k with
  | zero => exact addrW_show h
  | succ k ih =>
    rw [List.replicate_succ, List.cons_append, jnP_cons (by
      intro z
      exact addrW_ne h (List.append_eq_nil_iff.mp z).2), ih]
    have : nest (k + 1) a = .not (nest k a) := (nest_not k a).symm ▸ rfl
    rw [this]
    show word "not" ++ [32] ++ showAddr (nest k a) = word "not " ++ showAddr (nest k a)
    exact w2 "not" "not " _ (by decide +kernel)
/-- the words of a condition: none where it is all lines -/
def condW (c : Cmd) : List Bytes := if c.a = .all then [] else word "if" :: (List.replicate (notsOf c.a) (word "not") ++ addrW (coreOf c.a))
theorem isCore_coreOf : ∀ a : Addr, isCore (coreOf a) = true := by
  intro a
  induction a with
  | not a ih => exact ih
  | _ => rfl
theorem cmd_show (c : Cmd) : jnP [32] (condW c ++ deedW c.d ++ [word ";"]) ++ [10] = showCmd c := by
  have e1 : word " ;" = [32] ++ word ";" := by decide +kernel
  have e2 : word " " = [32] := by decide +kernel
  have e3 : word "if " = word "if" ++ [32] := by decide +kernel
  have tail : jnP [32] (deedW c.d ++ [word ";"]) = showDeed c.d ++ word " ;" := by
    rw [jnP_append (deedW_ne _) (by simp), deedW_show, e1]
    show showDeed c.d ++ [32] ++ word ";" = _
    simp [List.append_assoc]
  unfold condW showCmd
  by_cases h : c.a = .all
  · rw [if_pos h, if_pos h, List.nil_append, List.nil_append, tail, List.append_assoc]
  · rw [if_neg h, if_neg h, List.append_assoc, jnP_append (by simp) (by simp), tail, jnP_cons (by
      intro z
      exact addrW_ne (isCore_coreOf _) (List.append_eq_nil_iff.mp z).2), nots_show (isCore_coreOf _), nest_of, e2, e3]
    simp [List.append_assoc]
theorem all_iff (a : Addr) : a = .all ↔ notsOf a = 0 ∧ coreOf a = .all := by
  constructor
  · rintro rfl; exact ⟨rfl, rfl⟩
  · rintro ⟨h1, h2⟩
    have := nest_of a
    rw [h1, h2] at this
    exact this.symm
end LD

/-! blocks and argument lists, written as lists -/
namespace LD
open PySem PySem.Spec PyProof.Rows L2
open PySem.W (Codec)
open VasedBase (Bytes)
/-- a text of bytes -/
def bS (b : Bytes) : Str := ⟨(bN b).toArray⟩
def bV (b : Bytes) : List V := (bI b).map V.int
theorem bV_length (b : Bytes) : (bV b).length = b.length := by unfold bV; rw [List.length_map, bI_length]
theorem bS_length (b : Bytes) : (bS b).length = b.length := by
  show (bN b).toArray.size = b.length
  rw [List.size_toArray, bN_length]
theorem bS_inj {a b : Bytes} (h : bS a = bS b) : a = b := by
  have : (bS a).cps.toList = (bS b).cps.toList := by rw [h]
  exact bN_inj (by simpa [bS] using this)
theorem bV_get {b : Bytes} {i : Nat} {c : UInt8} (h : b[i]? = some c) : (bV b)[i]? = some (.int (c.toNat : Int)) := by
  unfold bV bI
  rw [List.map_map, List.getElem?_map, h]
  rfl
theorem get_bV {b : Bytes} {i : Nat} {v : V} (h : (bV b)[i]? = some v) : ∃ c, b[i]? = some c ∧ v = .int (c.toNat : Int) := by
  unfold bV bI at h
  rw [List.map_map, List.getElem?_map] at h
  cases e : b[i]? with
  | none => rw [e] at h; cases h
  | some c => rw [e] at h; exact ⟨c, rfl, (Option.some.inj h).symm⟩
theorem if_true_of {c : Bool} {A B : Prop} (hc : c = true) (h : A) : if c = true then A else B := by
  rw [if_pos hc]
  exact h
theorem if_false_of {c : Bool} {A B : Prop} (hc : c = false) (h : B) : if c = true then A else B := by
  rw [hc, if_neg Bool.false_ne_true]
  exact h
/-- an if by its condition -/
theorem if_iff {c : Bool} {p : Prop} {A B : Prop} (e : c = true ↔ p) (h1 : p → A) (h2 : ¬ p → B) : if c = true then A else B := by
  by_cases h : c = true
  · rw [if_pos h]; exact h1 (e.mp h)
  · rw [if_neg h]; exact h2 fun z => h (e.mpr z)
/-- the i-th statement of the program -/
def top (i : Nat) : Stmt := PySem.Challenge.pw_linescriptsdesk_s01_answers.main.body.getD i (.Pass ⟨0, 0, 0, 0⟩)
/-- a def that keeps its promise, by its name -/
def Gd (P : Program) (w : World) (K : PySem.W.Frag) (mg : Str → Option Value) (base : Heap) (CX : CXT) (k : Nat) (x : Str) (ps : List Str) (sp : Sp) : Prop :=
  ∃ f fd, mg x = some (.ref f) ∧ PySem.W.keepIn K (.ref f) = true ∧ Binds K fd ps [] ∧ FnOk P w K mg base CX k f fd ps sp
/-- a def's place in the text -/
def Dn (K : PySem.W.Frag) (mg : Str → Option Value) (x : Str) (s : Stmt) : Prop := ∃ f fd, mg x = some (.ref f) ∧ Fun K x x s f fd
/-- .. a method's -/
def Gm (P : Program) (w : World) (K : PySem.W.Frag) (mg : Str → Option Value) (base : Heap) (CX : CXT) (k : Nat) (C : Addr) (m : Str) (ps : List Str) (sp : Sp) : Prop :=
  ∃ f fd, Meth K C m f ∧ Binds K fd ps [] ∧ FnOk P w K mg base CX k f fd ps sp
def Dm (K : PySem.W.Frag) (C : Addr) (m qual : Str) (s : Stmt) : Prop := ∃ f fd, Meth K C m f ∧ Fun K m qual s f fd
/-- .. an __init__'s -/
def Gi (P : Program) (w : World) (K : PySem.W.Frag) (mg : Str → Option Value) (base : Heap) (k : Nat) (C : Addr) (ps : List Str) (sp : Sp) : Prop :=
  ∃ f fd, Mk K C f ∧ Binds K fd ps [] ∧ FnOk P w K mg base CX0 k f fd ps sp
def Di (K : PySem.W.Frag) (C : Addr) (qual : Str) (s : Stmt) : Prop := ∃ f fd, Mk K C f ∧ Fun K "__init__" qual s f fd
/-- the heap but for one place -/
def But (a : Addr) (H H' : Hp) : Prop := ∀ b o, H b = some o → b ≠ a → H' b = some o
theorem Same.but {a : Addr} {H H' : Hp} (s : Same H H') : But a H H' := fun b o h _ => s b o h
theorem But.trans {a : Addr} {H H1 H2 : Hp} (s : But a H H1) (t : But a H1 H2) : But a H H2 := fun b o h n => t b o (s b o h n) n
theorem But.same {a : Addr} {H H' : Hp} (s : But a H H') (n : H a = none) : Same H H' := fun b o h => s b o h (ne_of_none h n)
theorem But.upd {a : Addr} {H : Hp} {o : HO} : But a H (upd H a o) := fun b u h n => by rw [upd_ne n]; exact h
theorem same_new {a : Addr} {H : Hp} {o : HO} (n : H a = none) : Same H (upd H a o) := fun b u h => by rw [upd_ne (ne_of_none h n)]; exact h
theorem one_le : (1 : Nat) ≤ sizeLine := by decide
/-- a constant of the top -/
def Kc (mg : Str → Option Value) (x : Str) (v : V) : Prop := ∃ u, mg x = some u ∧ RelV v u
theorem pe_k {X : Cx} {x : Str} {v : V} {pos : Pos} (h : Kc X.mg x v) (hg : Gl X x := by rfl) (hd : (x == ("__debug__" : Str)) = false := by decide) : PE X (.Name x pos) (tC v) := by
  obtain ⟨u, m, r⟩ := h
  exact pe_glob hg m r hd
/-- a written tuple -/
def Kt (K : PySem.W.Frag) (mg : Str → Option Value) (x : Str) (vs : List V) : Prop := ∃ a, mg x = some (.ref a) ∧ ∀ H, SqT K H a vs
/-- the constants of the top -/
structure Txt (K : PySem.W.Frag) (mg : Str → Option Value) : Prop where
  kFIRST_LETTER : Kc mg "FIRST_LETTER" (.int 97)
  kLAST_LETTER : Kc mg "LAST_LETTER" (.int 122)
  kLINE_END : Kc mg "LINE_END" (.int 10)
  kREMARK : Kc mg "REMARK" (.int 35)
  kSEMICOLON : Kc mg "SEMICOLON" (.int 59)
  kZERO : Kc mg "ZERO" (.int 48)
  kNINE : Kc mg "NINE" (.int 57)
  kMOST_BYTES : Kc mg "MOST_BYTES" (.int 4096)
  kMOST_WORD_LETTERS : Kc mg "MOST_WORD_LETTERS" (.int 8)
  kGREATEST_NUMBER : Kc mg "GREATEST_NUMBER" (.int 1000000000)
  kMOST_DIGITS : Kc mg "MOST_DIGITS" (.int 10)
  kSCRIPT_TOO_LONG : Kc mg "SCRIPT_TOO_LONG" (.int 1)
  kNO_TOKEN : Kc mg "NO_TOKEN" (.int 2)
  kMOST_COMMANDS : Kc mg "MOST_COMMANDS" (.int 16)
  kMOST_NOTS : Kc mg "MOST_NOTS" (.int 3)
  kLAST_LINE_NUMBER : Kc mg "LAST_LINE_NUMBER" (.int 99)
  kMOST_LEFT_OUT : Kc mg "MOST_LEFT_OUT" (.int 9)
  kNOT_ALLOWED : Kc mg "NOT_ALLOWED" (.int 3)
  kTOO_MANY : Kc mg "TOO_MANY" (.int 4)
  kOUT_OF_BOUNDS : Kc mg "OUT_OF_BOUNDS" (.int 7)
  kMOST_LINE_LETTERS : Kc mg "MOST_LINE_LETTERS" (.int 16)
  kMOST_TEXT_LINES : Kc mg "MOST_TEXT_LINES" (.int 24)
  kMOST_COMING_LINES : Kc mg "MOST_COMING_LINES" (.int 60)
  kMOST_RUNS : Kc mg "MOST_RUNS" (.int 10)
  kCOMES_AS_IT_WAS : Kc mg "COMES_AS_IT_WAS" (.int 0)
  kCOMES_OTHERWISE : Kc mg "COMES_OTHERWISE" (.int 1)
  kDOES_NOT_COME : Kc mg "DOES_NOT_COME" (.int 2)
  kLOAD : Kc mg "LOAD" (.int 0)
  kSHOWN : Kc mg "SHOWN" (.int 1)
  kRUN : Kc mg "RUN" (.int 2)
  kORIGINS : Kc mg "ORIGINS" (.int 3)
  kTRACE : Kc mg "TRACE" (.int 4)
  kHELD : Kc mg "HELD" (.int 5)
  kTOUCHED : Kc mg "TOUCHED" (.int 6)
  kAGAIN : Kc mg "AGAIN" (.int 7)
  kREST : Kc mg "REST" (.int 8)
  kLETTERS : Kc mg "LETTERS" (.str "abcdefghijklmnopqrstuvwxyz")
  kOWN_WORD : Kc mg "OWN_WORD" (.str "own word")
  kLETTERS_WORD : Kc mg "LETTERS_WORD" (.str "letters")
  kNUMBER : Kc mg "NUMBER" (.str "number")
  kSIGN : Kc mg "SIGN" (.str "sign")
  kEND : Kc mg "END" (.str "end")
  tOWN_WORDS : Kt K mg "OWN_WORDS" [.str "if", .str "all", .str "line", .str "from", .str "to", .str "last", .str "has", .str "is", .str "not", .str "delete", .str "before", .str "after", .str "change", .str "swap", .str "first", .str "keep", .str "bring", .str "trade", .str "skip", .str "stop", .str "none"]
  tBLANKS : Kt K mg "BLANKS" [.int 32, .int 9, .int 10]
  tBARE_ADDRESSES : Kt K mg "BARE_ADDRESSES" [.str "all", .str "last"]
  tLETTERS_ADDRESSES : Kt K mg "LETTERS_ADDRESSES" [.str "has", .str "is"]
  tBARE_DEEDS : Kt K mg "BARE_DEEDS" [.str "delete", .str "keep", .str "bring", .str "trade", .str "stop"]
  tLETTERS_DEEDS : Kt K mg "LETTERS_DEEDS" [.str "before", .str "after", .str "change"]
  tEXCHANGE_DEEDS : Kt K mg "EXCHANGE_DEEDS" [.str "swap", .str "first"]
  len : mg "len" = none
  ord : mg "ord" = none
  range : mg "range" = none
  enumerate : mg "enumerate" = none
  all : mg "all" = none
  str : mg "str" = none
abbrev s_is_letter : Stmt := top 12
abbrev s_bytes_of : Stmt := top 14
abbrev s_past_letters : Stmt := top 39
section
variable {P : Program} {w : World} {K : PySem.W.Frag} {mg : Str → Option Value} {base : Heap}
/-! ### letters -/
theorem sc_is_letter : FnScope ["byte"] ["byte"] (defScope s_is_letter) := ⟨rfl, rfl, rfl, by decide +kernel, rfl, by decide +kernel, by decide +kernel⟩
def sp_is_letter : Sp := fun vs H Q _ => ∃ i : Int, vs = [.int i] ∧ Q (.bl (decide (97 ≤ i ∧ i ≤ 122))) H
theorem g_is_letter (D : Dn K mg "is_letter" s_is_letter) (T : Txt K mg) : Gd P w K mg base CX0 5 "is_letter" ["byte"] sp_is_letter := by
  obtain ⟨f, fd, m, F⟩ := D
  refine ⟨f, fd, m, F.kp, F.binds (fun _ _ _ _ _ _ us hl => match us, hl with | [_], _ => rfl), F.ok sc_is_letter (fun vs H Q E h => ?_) (fun cdv A outer s H vs Q E hr h => ?_)⟩
  · obtain ⟨i, rfl, _⟩ := h; rfl
  · refine ⟨_, pss_one (ps_ret (pe_chain op_le op_le (pe_k T.kFIRST_LETTER) (pv 0) (pe_k T.kLAST_LETTER))), ?_⟩
    obtain ⟨i, rfl, q⟩ := h
    refine ⟨_, rfl, 97, i, rfl, rfl, _, rfl, ?_⟩
    by_cases c : 97 ≤ i
    · refine if_true_of (decide_eq_true c) ⟨i, 122, rfl, rfl, ?_⟩
      have e : decide (97 ≤ i ∧ i ≤ 122) = decide (i ≤ 122) := by simp [c]
      rw [e] at q
      exact q
    · refine if_false_of (decide_eq_false c) ?_
      have e : decide (97 ≤ i ∧ i ≤ 122) = false := by simp [c]
      rw [e] at q
      exact q
end
end LD

namespace LD
open PySem PySem.Spec PyProof.Rows L2
open PySem.W (Codec)
open VasedBase (Bytes)
abbrev s_past_remark : Stmt := top 36
abbrev s_past_digits : Stmt := top 41
abbrev s_is_digit : Stmt := top 42
abbrev s_number_of : Stmt := top 43
abbrev s_past_gaps : Stmt := top 35
section
variable {P : Program} {w : World} {K : PySem.W.Frag} {mg : Str → Option Value} {base : Heap}
/-- the run of so many: where it ends -/
def sp_past (K : PySem.W.Frag) (p : UInt8 → Bool) : Sp := fun vs H Q _ => ∃ (a : Addr) (b : Bytes) (i : Nat), vs = [.ref a, .int i] ∧ SqL K H a (bV b) ∧ i ≤ b.length ∧ Q (.int ((i + runLen p b i : Nat) : Int)) H
theorem is_letter_int (c : UInt8) : decide (97 ≤ (c.toNat : Int) ∧ (c.toNat : Int) ≤ 122) = VasedBase.isLetter c := by
  unfold VasedBase.isLetter
  rw [decide_eq_decide]
  omega
theorem sc_past_letters : FnScope ["script", "at"] ["script", "at"] (defScope s_past_letters) := ⟨rfl, rfl, rfl, by decide +kernel, rfl, by decide +kernel, by decide +kernel⟩
theorem g_past_letters (D : Dn K mg "past_letters" s_past_letters) (T : Txt K mg) (G : Gd P w K mg base CX0 5 "is_letter" ["byte"] sp_is_letter) : Gd P w K mg base CX0 10 "past_letters" ["script", "at"] (sp_past K VasedBase.isLetter) := by
  obtain ⟨f, fd, m, F⟩ := D
  obtain ⟨fL, fdL, mL, kL, bL, FL⟩ := G
  refine ⟨f, fd, m, F.kp, F.binds (fun _ _ _ _ _ _ us hl => match us, hl with | [_, _], _ => rfl), F.ok sc_past_letters (fun vs H Q E h => ?_) (fun cdv A outer s H vs Q E hr h => ?_)⟩
  · obtain ⟨a, b, i, rfl, _⟩ := h; rfl
  · refine ⟨_, pss_cons (ps_while PassesOwn.never (PW.pt (pw_and (pt_cmpR op_lt (pv 1) ((pe_callB call_len_seq (by rfl) T.len PySem.boot_len (pa_cons (pv 0) pa_nil))) (nomark _)) (pw_and1 (pt_val (pe_call FL (hr.mono (by decide)) rfl mL kL bL .nil pass0 (pa_cons (pe_ix ix_list (pv 0) (pv 1) (fun _ _ => rfl)) pa_nil))))))
      (pss_one (ps_aug (i := 1) sc_past_letters.nd rfl (.inl rfl) pe_int ip_add))) (pss_one (ps_ret (pv 1))), ?_⟩
    obtain ⟨a, b, i, rfl, hS, hi, q⟩ := h
    refine ⟨fun m σ H' => ∃ j : Nat, m = b.length - j ∧ j ≤ b.length ∧ j + runLen VasedBase.isLetter b j = i + runLen VasedBase.isLetter b i ∧ σ = [some (.ref a), some (.int j)] ∧ H' = H, ⟨_, i, rfl, hi, rfl, rfl, rfl⟩, ?_⟩
    rintro n σ H' ⟨j, rfl, hj, e, rfl, rfl⟩
    refine ⟨_, rfl, _, rfl, a, _, rfl, .inl hS, _, _, rfl, rfl, _, rfl, ?_⟩
    rw [bV_length]
    by_cases c : j < b.length
    · refine if_true_of (decide_eq_true (by omega)) ?_
      obtain ⟨y, hy⟩ : ∃ y, b[j]? = some y := ⟨b[j], List.getElem?_eq_getElem c⟩
      refine ⟨_, rfl, _, rfl, a, _, _, _, rfl, rfl, hS, atI_nat (bV_get hy), _, rfl, ?_⟩
      rw [is_letter_int]
      refine ⟨_, rfl, ?_⟩
      by_cases cl : VasedBase.isLetter y = true
      · refine if_true_of cl ?_
        refine ⟨fun σ' H'' => σ' = [some (.ref a), some (.int ((j + 1 : Nat) : Int))] ∧ H'' = H', fun σ' H'' hh => ⟨b.length - (j + 1), by omega, j + 1, rfl, c, ?_, hh.1, hh.2⟩, ?_⟩
        · rw [← e, runLen_step hy cl]; omega
        · exact ⟨_, rfl, j, 1, rfl, rfl, rfl, rfl⟩
      · refine if_false_of (by simpa using cl) ⟨_, rfl, ?_⟩
        rw [← e, runLen_stop hy (by simpa using cl)] at q
        exact q
    · refine if_false_of (decide_eq_false (by omega)) ⟨_, rfl, ?_⟩
      rw [← e, runLen_end (by omega)] at q
      exact q
/-! ### the other rows of one kind -/
def sp_is_digit : Sp := fun vs H Q _ => ∃ i : Int, vs = [.int i] ∧ Q (.bl (decide (48 ≤ i ∧ i ≤ 57))) H
theorem is_digit_int (c : UInt8) : decide (48 ≤ (c.toNat : Int) ∧ (c.toNat : Int) ≤ 57) = VasedBase.isDigit c := by
  unfold VasedBase.isDigit
  rw [decide_eq_decide]
  omega
theorem sc_is_digit : FnScope ["byte"] ["byte"] (defScope s_is_digit) := ⟨rfl, rfl, rfl, by decide +kernel, rfl, by decide +kernel, by decide +kernel⟩
theorem g_is_digit (D : Dn K mg "is_digit" s_is_digit) (T : Txt K mg) : Gd P w K mg base CX0 5 "is_digit" ["byte"] sp_is_digit := by
  obtain ⟨f, fd, m, F⟩ := D
  refine ⟨f, fd, m, F.kp, F.binds (fun _ _ _ _ _ _ us hl => match us, hl with | [_], _ => rfl), F.ok sc_is_digit (fun vs H Q E h => ?_) (fun cdv A outer s H vs Q E hr h => ?_)⟩
  · obtain ⟨i, rfl, _⟩ := h; rfl
  · refine ⟨_, pss_one (ps_ret (pe_chain op_le op_le (pe_k T.kZERO) (pv 0) (pe_k T.kNINE))), ?_⟩
    obtain ⟨i, rfl, q⟩ := h
    refine ⟨_, rfl, 48, i, rfl, rfl, _, rfl, ?_⟩
    by_cases c : 48 ≤ i
    · refine if_true_of (decide_eq_true c) ⟨i, 57, rfl, rfl, ?_⟩
      have e : decide (48 ≤ i ∧ i ≤ 57) = decide (i ≤ 57) := by simp [c]
      rw [e] at q
      exact q
    · refine if_false_of (decide_eq_false c) ?_
      have e : decide (48 ≤ i ∧ i ≤ 57) = false := by simp [c]
      rw [e] at q
      exact q
theorem sc_past_digits : FnScope ["script", "at"] ["script", "at"] (defScope s_past_digits) := ⟨rfl, rfl, rfl, by decide +kernel, rfl, by decide +kernel, by decide +kernel⟩
theorem g_past_digits (D : Dn K mg "past_digits" s_past_digits) (T : Txt K mg) (G : Gd P w K mg base CX0 5 "is_digit" ["byte"] sp_is_digit) : Gd P w K mg base CX0 10 "past_digits" ["script", "at"] (sp_past K VasedBase.isDigit) := by
  obtain ⟨f, fd, m, F⟩ := D
  obtain ⟨fL, fdL, mL, kL, bL, FL⟩ := G
  refine ⟨f, fd, m, F.kp, F.binds (fun _ _ _ _ _ _ us hl => match us, hl with | [_, _], _ => rfl), F.ok sc_past_digits (fun vs H Q E h => ?_) (fun cdv A outer s H vs Q E hr h => ?_)⟩
  · obtain ⟨a, b, i, rfl, _⟩ := h; rfl
  · refine ⟨_, pss_cons (ps_while PassesOwn.never (PW.pt (pw_and (pt_cmpR op_lt (pv 1) ((pe_callB call_len_seq (by rfl) T.len PySem.boot_len (pa_cons (pv 0) pa_nil))) (nomark _)) (pw_and1 (pt_val (pe_call FL (hr.mono (by decide)) rfl mL kL bL .nil pass0 (pa_cons (pe_ix ix_list (pv 0) (pv 1) (fun _ _ => rfl)) pa_nil))))))
      (pss_one (ps_aug (i := 1) sc_past_digits.nd rfl (.inl rfl) pe_int ip_add))) (pss_one (ps_ret (pv 1))), ?_⟩
    obtain ⟨a, b, i, rfl, hS, hi, q⟩ := h
    refine ⟨fun m σ H' => ∃ j : Nat, m = b.length - j ∧ j ≤ b.length ∧ j + runLen VasedBase.isDigit b j = i + runLen VasedBase.isDigit b i ∧ σ = [some (.ref a), some (.int j)] ∧ H' = H, ⟨_, i, rfl, hi, rfl, rfl, rfl⟩, ?_⟩
    rintro n σ H' ⟨j, rfl, hj, e, rfl, rfl⟩
    refine ⟨_, rfl, _, rfl, a, _, rfl, .inl hS, _, _, rfl, rfl, _, rfl, ?_⟩
    rw [bV_length]
    by_cases c : j < b.length
    · refine if_true_of (decide_eq_true (by omega)) ?_
      obtain ⟨y, hy⟩ : ∃ y, b[j]? = some y := ⟨b[j], List.getElem?_eq_getElem c⟩
      refine ⟨_, rfl, _, rfl, a, _, _, _, rfl, rfl, hS, atI_nat (bV_get hy), _, rfl, ?_⟩
      rw [is_digit_int]
      refine ⟨_, rfl, ?_⟩
      by_cases cl : VasedBase.isDigit y = true
      · refine if_true_of cl ?_
        refine ⟨fun σ' H'' => σ' = [some (.ref a), some (.int ((j + 1 : Nat) : Int))] ∧ H'' = H', fun σ' H'' hh => ⟨b.length - (j + 1), by omega, j + 1, rfl, c, ?_, hh.1, hh.2⟩, ?_⟩
        · rw [← e, runLen_step hy cl]; omega
        · exact ⟨_, rfl, j, 1, rfl, rfl, rfl, rfl⟩
      · refine if_false_of (by simpa using cl) ⟨_, rfl, ?_⟩
        rw [← e, runLen_stop hy (by simpa using cl)] at q
        exact q
    · refine if_false_of (decide_eq_false (by omega)) ⟨_, rfl, ?_⟩
      rw [← e, runLen_end (by omega)] at q
      exact q
theorem sc_past_remark : FnScope ["script", "at"] ["script", "at"] (defScope s_past_remark) := ⟨rfl, rfl, rfl, by decide +kernel, rfl, by decide +kernel, by decide +kernel⟩
theorem ne_int (c : UInt8) (k : Nat) (hk : k < 256) : (!decide (V.int (c.toNat : Int) = V.int (k : Int))) = (c != UInt8.ofNat k) := by
  have e1 : (V.int (c.toNat : Int) = V.int (k : Int)) ↔ c = UInt8.ofNat k := by
    constructor
    · intro h
      have h2 : (c.toNat : Int) = k := by injection h
      have h3 : c.toNat = k := by omega
      rw [← h3]; exact UInt8.ofNat_toNat.symm
    · intro h
      subst h
      have : (UInt8.ofNat k).toNat = k := UInt8.toNat_ofNat_of_lt' hk
      rw [this]
  by_cases h : c = UInt8.ofNat k
  · rw [decide_eq_true (e1.mpr h)]; simp [h]
  · rw [decide_eq_false (fun z => h (e1.mp z))]; simp [h]
theorem eq_int (c : UInt8) (k : Nat) (hk : k < 256) : decide (V.int (c.toNat : Int) = V.int (k : Int)) = (c == UInt8.ofNat k) := by
  have := ne_int c k hk
  have e : (c != UInt8.ofNat k) = !(c == UInt8.ofNat k) := rfl
  rw [e] at this
  exact Bool.not_inj this
theorem g_past_remark (D : Dn K mg "past_remark" s_past_remark) (T : Txt K mg) : Gd P w K mg base CX0 10 "past_remark" ["script", "at"] (sp_past K (· != 10)) := by
  obtain ⟨f, fd, m, F⟩ := D
  refine ⟨f, fd, m, F.kp, F.binds (fun _ _ _ _ _ _ us hl => match us, hl with | [_, _], _ => rfl), F.ok sc_past_remark (fun vs H Q E h => ?_) (fun cdv A outer s H vs Q E hr h => ?_)⟩
  · obtain ⟨a, b, i, rfl, _⟩ := h; rfl
  · refine ⟨_, pss_cons (ps_while PassesOwn.never (PW.pt (pw_and (pt_cmpR op_lt (pv 1) ((pe_callB call_len_seq (by rfl) T.len PySem.boot_len (pa_cons (pv 0) pa_nil))) (nomark _)) (pw_and1 (pt_cmpR op_ne (pe_ix ix_list (pv 0) (pv 1) (fun _ _ => rfl)) (pe_k T.kLINE_END) (nomark _)))))
      (pss_one (ps_aug (i := 1) sc_past_remark.nd rfl (.inl rfl) pe_int ip_add))) (pss_one (ps_ret (pv 1))), ?_⟩
    obtain ⟨a, b, i, rfl, hS, hi, q⟩ := h
    refine ⟨fun m σ H' => ∃ j : Nat, m = b.length - j ∧ j ≤ b.length ∧ j + runLen (· != 10) b j = i + runLen (· != 10) b i ∧ σ = [some (.ref a), some (.int j)] ∧ H' = H, ⟨_, i, rfl, hi, rfl, rfl, rfl⟩, ?_⟩
    rintro n σ H' ⟨j, rfl, hj, e, rfl, rfl⟩
    refine ⟨_, rfl, _, rfl, a, _, rfl, .inl hS, _, _, rfl, rfl, _, rfl, ?_⟩
    rw [bV_length]
    by_cases c : j < b.length
    · refine if_true_of (decide_eq_true (by omega)) ?_
      obtain ⟨y, hy⟩ : ∃ y, b[j]? = some y := ⟨b[j], List.getElem?_eq_getElem c⟩
      refine ⟨_, rfl, _, rfl, a, _, _, _, rfl, rfl, hS, atI_nat (bV_get hy), rfl, _, rfl, ?_⟩
      have ee := ne_int y 10 (by decide)
      have ee : (!decide (V.int (y.toNat : Int) = V.int 10)) = (y != 10) := ee
      rw [ee]
      by_cases cl : (y != 10) = true
      · refine if_true_of cl ?_
        refine ⟨fun σ' H'' => σ' = [some (.ref a), some (.int ((j + 1 : Nat) : Int))] ∧ H'' = H', fun σ' H'' hh => ⟨b.length - (j + 1), by omega, j + 1, rfl, c, ?_, hh.1, hh.2⟩, ?_⟩
        · rw [← e, runLen_step (p := (· != 10)) hy cl]; omega
        · exact ⟨_, rfl, j, 1, rfl, rfl, rfl, rfl⟩
      · refine if_false_of (Bool.eq_false_iff.mpr cl) ⟨_, rfl, ?_⟩
        rw [← e, runLen_stop (p := (· != 10)) hy (Bool.eq_false_iff.mpr cl)] at q
        exact q
    · refine if_false_of (decide_eq_false (by omega)) ⟨_, rfl, ?_⟩
      rw [← e, runLen_end (by omega)] at q
      exact q
/-! ### past blanks and remarks -/
def sp_past_gaps (K : PySem.W.Frag) : Sp := fun vs H Q _ => ∃ (a : Addr) (b : Bytes) (i : Nat), vs = [.ref a, .int i] ∧ SqL K H a (bV b) ∧ i ≤ b.length ∧ ∀ j : Nat, i ≤ j → j ≤ b.length → toksFrom b j = toksFrom b i → Front b j → Q (.int j) H
theorem sc_past_gaps : FnScope ["script", "at"] ["script", "at"] (defScope s_past_gaps) := ⟨rfl, rfl, rfl, by decide +kernel, rfl, by decide +kernel, by decide +kernel⟩
theorem blank_in (c : UInt8) : inV (.int (c.toNat : Int)) [.int 32, .int 9, .int 10] = VasedBase.isBlank c := by
  have e1 := eq_int c 32 (by decide)
  have e2 := eq_int c 9 (by decide)
  have e3 := eq_int c 10 (by decide)
  have z (i j : Int) : decide (V.int i = V.int j) = (j == i) := by
    rw [Bool.eq_iff_iff, decide_eq_true_iff, beq_iff_eq]
    exact ⟨fun h => by injection h with h; exact h.symm, fun h => by rw [h]⟩
  rw [z] at e1 e2 e3
  show ((32 : Int) == (c.toNat : Int) || ((9 : Int) == (c.toNat : Int) || ((10 : Int) == (c.toNat : Int) || false))) = (c == 32 || (c == 9 || c == 10))
  rw [Bool.or_false]
  exact congr (congrArg or e1) (congr (congrArg or e2) e3)
theorem g_past_gaps (D : Dn K mg "past_gaps" s_past_gaps) (T : Txt K mg) (G : Gd P w K mg base CX0 10 "past_remark" ["script", "at"] (sp_past K (· != 10))) : Gd P w K mg base CX0 15 "past_gaps" ["script", "at"] (sp_past_gaps K) := by
  obtain ⟨f, fd, m, F⟩ := D
  obtain ⟨fL, fdL, mL, kL, bL, FL⟩ := G
  obtain ⟨ta, mB, hB⟩ := T.tBLANKS
  refine ⟨f, fd, m, F.kp, F.binds (fun _ _ _ _ _ _ us hl => match us, hl with | [_, _], _ => rfl), F.ok sc_past_gaps (fun vs H Q E h => ?_) (fun cdv A outer s H vs Q E hr h => ?_)⟩
  · obtain ⟨a, b, i, rfl, _⟩ := h; rfl
  · refine ⟨_, pss_cons (ps_while PassesOwn.never (pt_cmpR op_lt (pv 1) ((pe_callB call_len_seq (by rfl) T.len PySem.boot_len (pa_cons (pv 0) pa_nil))) (nomark _))
      (pss_one (ps_if (pt_cmpR op_eq (pe_ix ix_list (pv 0) (pv 1) (fun _ _ => rfl)) (pe_k T.kREMARK) (nomark _))
        (pss_one (ps_set (i := 1) sc_past_gaps.nd rfl (.inl rfl) (pe_call FL (hr.mono (by decide)) rfl mL kL bL .nil pass0 (pa_cons (pv 0) (pa_cons (pv 1) pa_nil)))))
        (pss_one (ps_if (pt_cmpR op_in_seq (pe_ix ix_list (pv 0) (pv 1) (fun _ _ => rfl)) (pe_glob (v := .ref ta) rfl mB rfl) (by rfl))
          (pss_one (ps_aug (i := 1) sc_past_gaps.nd rfl (.inl rfl) pe_int ip_add)) (pss_one (ps_ret (pv 1)))))))) (pss_one (ps_ret (pv 1))), ?_⟩
    obtain ⟨a, b, i, rfl, hS, hi, q⟩ := h
    refine ⟨fun m σ H' => ∃ j : Nat, m = b.length - j ∧ i ≤ j ∧ j ≤ b.length ∧ toksFrom b j = toksFrom b i ∧ σ = [some (.ref a), some (.int j)] ∧ H' = H, ⟨_, i, rfl, Nat.le_refl _, hi, rfl, rfl, rfl⟩, ?_⟩
    rintro n σ H' ⟨j, rfl, hij, hj, e, rfl, rfl⟩
    refine ⟨_, rfl, _, rfl, a, _, rfl, .inl hS, _, _, rfl, rfl, _, rfl, ?_⟩
    rw [bV_length]
    by_cases c : j < b.length
    · refine if_true_of (decide_eq_true (by omega)) ?_
      obtain ⟨y, hy⟩ : ∃ y, b[j]? = some y := ⟨b[j], List.getElem?_eq_getElem c⟩
      refine ⟨fun σ' H'' => ∃ j' : Nat, j < j' ∧ j' ≤ b.length ∧ toksFrom b j' = toksFrom b i ∧ σ' = [some (.ref a), some (.int j')] ∧ H'' = H', fun σ' H'' ⟨j', h1, h2, h3, h4, h5⟩ => ⟨b.length - j', by omega, j', rfl, by omega, h2, h3, h4, h5⟩, ?_⟩
      refine ⟨_, rfl, _, rfl, a, _, _, _, rfl, rfl, hS, atI_nat (bV_get hy), rfl, _, rfl, ?_⟩
      have ee : decide (V.int (y.toNat : Int) = V.int 35) = (y == 35) := eq_int y 35 (by decide)
      rw [ee]
      by_cases c1 : y = 35
      · refine if_true_of (by simp [c1]) ⟨_, rfl, _, rfl, a, b, j, rfl, hS, hj, ?_⟩
        refine ⟨j + runLen (· != 10) b j, ?_, runLen_le hj, ?_, rfl, rfl⟩
        · rw [runLen_step (p := (· != 10)) hy (by subst c1; decide)]; omega
        · rw [← toks_remark hy c1]; exact e
      · refine if_false_of (by simp [c1]) ⟨_, rfl, _, rfl, a, _, _, _, rfl, rfl, hS, atI_nat (bV_get hy), ta, _, rfl, .inr (hB H'), rfl, rfl, _, rfl, ?_⟩
        have eb : inV (.int (y.toNat : Int)) [.int 32, .int 9, .int 10] = VasedBase.isBlank y := blank_in y
        rw [if_neg Bool.false_ne_true, eb]
        by_cases c2 : VasedBase.isBlank y = true
        · refine if_true_of c2 ⟨_, rfl, j, 1, rfl, rfl, j + 1, Nat.lt_succ_self _, c, ?_, rfl, rfl⟩
          rw [← toks_blank hy c2]; exact e
        · refine if_false_of (Bool.eq_false_iff.mpr c2) ⟨_, rfl, q j hij hj e fun z hz => ?_⟩
          rw [hy] at hz; cases hz
          exact ⟨Bool.eq_false_iff.mpr c2, c1⟩
    · refine if_false_of (decide_eq_false (by omega)) ⟨_, rfl, q j hij hj e fun z hz => ?_⟩
      have := (List.getElem?_eq_some_iff.mp hz).1
      omega
end
end LD

/-! A second reading beside the layer's: the value as it stands in the machine (its token with it), and a number that the tokens given out so far have reached. -/
namespace LN
open PySem PySem.Spec PyProof.Rows L2
/-- a wish of a value: the machine's value, the reached number, the value, the heap -/
abbrev NK := Value → Nat → V → Hp → Prop
abbrev TEN := L2.St → Nat → Hp → NK → Prop
abbrev TAN := L2.St → Nat → Hp → (List Value → Nat → List V → Hp → Prop) → Prop
structure Ends where
  nx : L2.St → Nat → Hp → Prop
  rt : NK
abbrev TSN := Ends → L2.St → Nat → Hp → Prop
def EPN (X : Cx) (pins : List (Addr × Obj)) (σ : L2.St) (Q : NK) (u : Value) (s' : Shared) : Prop :=
  ∃ v H' n, Inv X pins σ H' s' ∧ RelV v u ∧ n ≤ s'.toks ∧ Q u n v H'
def APN (X : Cx) (pins : List (Addr × Obj)) (σ : L2.St) (Q : List Value → Nat → List V → Hp → Prop) (us : List Value) (s' : Shared) : Prop :=
  ∃ vs H' n, Inv X pins σ H' s' ∧ Vals vs us ∧ n ≤ s'.toks ∧ Q us n vs H'
def SPN (X : Cx) (pins : List (Addr × Obj)) (D : Ends) (f : Flow) (s' : Shared) : Prop :=
  match f with
  | .next => ∃ σ' H' n, Inv X pins σ' H' s' ∧ n ≤ s'.toks ∧ D.nx σ' n H'
  | .ret u => ∃ v σ' H' n, Inv X pins σ' H' s' ∧ RelV v u ∧ n ≤ s'.toks ∧ D.rt u n v H'
  | .brk => False
  | .cont => False
structure PEN (X : Cx) (e : Expr) (t : TEN) : Prop where
  run : ∀ (pins : List (Addr × Obj)) (s : Shared) (σ : L2.St) (n : Nat) (H : Hp) (Q : NK), n ≤ s.toks → Inv X pins σ H s → t σ n H Q →
    wpAny (model X.prog X.w) X.A (eval e X.env) (EPN X pins σ Q) X.xe s
structure PAN (X : Cx) (es : List Expr) (t : TAN) : Prop where
  run : ∀ (pos : Pos) (pins : List (Addr × Obj)) (s : Shared) (σ : L2.St) (n : Nat) (H : Hp) (Q : List Value → Nat → List V → Hp → Prop), n ≤ s.toks → Inv X pins σ H s → t σ n H Q →
    wpAny (model X.prog X.w) X.A (spliced (backTo pos (starEach es X.env))) (APN X pins σ Q) X.xe s
structure PSN (X : Cx) (st : Stmt) (t : TSN) : Prop where
  run : ∀ (pins : List (Addr × Obj)) (s : Shared) (σ : L2.St) (n : Nat) (H : Hp) (D : Ends), n ≤ s.toks → Inv X pins σ H s → t D σ n H →
    wpAny (model X.prog X.w) X.A (exec st X.env) (SPN X pins D) X.xe s
structure PSsN (X : Cx) (sts : List Stmt) (t : TSN) : Prop where
  run : ∀ (pins : List (Addr × Obj)) (s : Shared) (σ : L2.St) (n : Nat) (H : Hp) (D : Ends), n ≤ s.toks → Inv X pins σ H s → t D σ n H →
    wpAny (model X.prog X.w) X.A (execs sts X.env) (SPN X pins D) X.xe s
/-- with the reached number carried past a plain piece -/
theorem past {α : Type} {M : Model} {A : Around} {t : Sem α} {Q Q' : α → Shared → Prop} {E : Value → Shared → Prop} {s : Shared} {n : Nat} (hn : n ≤ s.toks) (h : wpAny M A t Q E s) (f : ∀ a s', n ≤ s'.toks → Q a s' → Q' a s') : wpAny M A t Q' E s :=
  wpAny_mono (wpAny_toks_of hn h) (fun a s' x => f a s' x.1 x.2) fun _ _ x => x.2
section
variable {X : Cx} {e : Expr} {es : List Expr} {te : TE} {ta : TA} {ten : TEN} {tan : TAN} {st : Stmt} {sts rest : List Stmt} {t u : TSN} {pos : Pos}
/-- a plain expression here -/
def nE (te : TE) : TEN := fun σ n H Q => te σ H fun v H' => ∀ w, RelV v w → Q w n v H'
theorem pen_of (h : PE X e te) : PEN X e (nE te) := ⟨fun pins s σ n H Q hn I q =>
  past hn (h.run pins s σ H _ I q) fun w s' hn' ⟨v, H', I', r, q'⟩ => ⟨v, H', n, I', r, hn', q' w r⟩⟩
/-- .. a plain argument list -/
def nA (ta : TA) : TAN := fun σ n H Q => ta σ H fun vs H' => ∀ us, Vals vs us → Q us n vs H'
theorem pan_of (h : PA X es ta) : PAN X es (nA ta) := ⟨fun pos pins s σ n H Q hn I q =>
  past hn (h.run pos pins s σ H _ I q) fun us s' hn' ⟨vs, H', I', r, q'⟩ => ⟨vs, H', n, I', r, hn', q' us r⟩⟩
/-- .. a plain statement (no break, no continue leaves it) -/
def nS (ts : TS) : TSN := fun D σ n H => ts { nx := fun σ' H' => D.nx σ' n H', rt := fun v H' => ∀ w, RelV v w → D.rt w n v H' } σ H
theorem psn_of {ts : TS} (h : PS X st ts) : PSN X st (nS ts) := ⟨fun pins s σ n H D hn I q =>
  past hn (h.run pins s σ H _ I q) fun f s' hn' q' => match f, q' with
  | .next, ⟨σ', H', I', q⟩ => ⟨σ', H', n, I', hn', q⟩
  | .ret w, ⟨v, σ', H', I', r, q⟩ => ⟨v, σ', H', n, I', r, hn', q w r⟩
  | .brk, ⟨_, _, _, q⟩ => q
  | .cont, ⟨_, _, _, q⟩ => q⟩
theorem pssn_of {ts : TS} (h : PSs X sts ts) : PSsN X sts (nS ts) := ⟨fun pins s σ n H D hn I q =>
  past hn (h.run pins s σ H _ I q) fun f s' hn' q' => match f, q' with
  | .next, ⟨σ', H', I', q⟩ => ⟨σ', H', n, I', hn', q⟩
  | .ret w, ⟨v, σ', H', I', r, q⟩ => ⟨v, σ', H', n, I', r, hn', q w r⟩
  | .brk, ⟨_, _, _, q⟩ => q
  | .cont, ⟨_, _, _, q⟩ => q⟩
def nNext : TSN := fun D σ n H => D.nx σ n H
def nSeq (t u : TSN) : TSN := fun D σ n H => t ⟨u D, D.rt⟩ σ n H
theorem pssn_nil : PSsN X [] nNext := ⟨fun _ _ σ n H _ hn I h => wpAny_execs_nil ⟨σ, H, n, I, hn, h⟩⟩
theorem pssn_cons (h1 : PSN X st t) (h2 : PSsN X rest u) : PSsN X (st :: rest) (nSeq t u) := ⟨fun pins s σ n H D hn I h => by
  refine wpAny_execs_cons (thn (h1.run pins s σ n H ⟨u D, D.rt⟩ hn I h) fun f s1 q => ?_)
  cases f with
  | next =>
    obtain ⟨σ', H', n', I', hn', q⟩ := q
    exact h2.run pins s1 σ' n' H' D hn' I' q
  | ret v => exact q
  | brk => exact q
  | cont => exact q⟩
theorem pssn_one (h1 : PSN X st t) : PSsN X [st] t := ⟨fun pins s σ n H D hn I h => by
  refine wpAny_execs_cons (thn (h1.run pins s σ n H D hn I h) fun f s1 q => ?_)
  cases f with
  | next => exact wpAny_execs_nil q
  | ret v => exact q
  | brk => exact q
  | cont => exact q⟩
def nRet (te : TEN) : TSN := fun D σ n H => te σ n H D.rt
theorem psn_ret (he : PEN X e ten) : PSN X (.Return (some e) pos) (nRet ten) := ⟨fun pins s σ n H D hn I h =>
  wpAny_Return_some (thn (he.run pins s σ n H _ hn I h) fun v s1 ⟨x, H1, n1, I1, r1, hn1, q1⟩ => ⟨x, σ, H1, n1, I1, r1, hn1, q1⟩)⟩
def nIf (c : TT) (t u : TSN) : TSN := fun D σ n H => c σ H fun b H1 => if b = true then t D σ n H1 else u D σ n H1
theorem psn_if {c : Expr} {a b : List Stmt} {tc : TT} (hc : PT X c tc) (ha : PSsN X a t) (hb : PSsN X b u) : PSN X (.If c a b pos) (nIf tc t u) := ⟨fun pins s σ n H D hn I h => by
  refine wpAny_If (past hn (hc.run pins s σ H _ I h) fun d s1 hn1 ⟨H1, I1, q1⟩ => ?_)
  cases d with
  | true => exact ha.run pins s1 σ n H1 D hn1 I1 q1
  | false => exact hb.run pins s1 σ n H1 D hn1 I1 q1⟩
def nSet (te : TEN) (i : Nat) : TSN := fun D σ n H => te σ n H fun _ n' v H' => D.nx (σ.set i (some v)) n' H'
theorem psn_set {i : Nat} {x : Str} {pos' : Pos} (hN : X.N.Nodup) (hi : X.N[i]? = some x) (hx : Loc X.env.scope x) (he : PEN X e ten) (hs : swapsWith e (some (.Name x pos')) pos.line X.env = pure false := by rfl)
    (hf : X.fn x = true ∨ X.env.scope.names.lookup x = some .local := by first | exact .inl rfl | exact .inr rfl | assumption) : PSN X (.Assign [.Name x pos'] e pos) (nSet ten i) := ⟨fun pins s σ n H D hn I h => by
  refine wpAny_Assign_Name (thn (he.run pins s σ n H _ hn I h) fun v s1 ⟨y, H1, n1, I1, r1, hn1, q1⟩ => ?_) hs
  exact past hn1 (store_ok (Q := fun _ s2 => Inv X pins (σ.set i (some y)) H1 s2) I1 hN hi hx r1 (fun s2 I2 => I2) hf) fun _ s2 hn2 I2 => ⟨_, H1, n1, I2, hn2, q1⟩⟩
def nDrop (te : TEN) : TSN := fun D σ n H => te σ n H fun _ n' _ H' => D.nx σ n' H'
theorem psn_expr (he : PEN X e ten) (hs : swapsWith e none pos.line X.env = pure false := by rfl) : PSN X (.Expr e pos) (nDrop ten) := ⟨fun pins s σ n H D hn I h =>
  wpAny_Expr_any (thn (he.run pins s σ n H _ hn I h) fun v s1 ⟨x, H1, n1, I1, r1, hn1, q1⟩ => ⟨σ, H1, n1, I1, hn1, q1⟩) I.quiet hs⟩
def nWhile (c : TT) (tb : TSN) : TSN := fun D σ n H => ∃ W : Nat → L2.St → Nat → Hp → Prop, (∃ m, W m σ n H) ∧ ∀ m σ n H, W m σ n H →
  c σ H fun b H1 => if b = true then tb ⟨fun σ' n' H' => ∃ m', m' < m ∧ W m' σ' n' H', D.rt⟩ σ n H1 else D.nx σ n H1
theorem psn_while {c : Expr} {body : List Stmt} {tc : TT} (hp : PassesOwn (model X.prog X.w) X.A X.env X.xe) (hc : PT X c tc) (hb : PSsN X body t) : PSN X (.While c body [] pos) (nWhile tc t) := ⟨fun pins s σ n H D hn I h => by
  obtain ⟨W, ⟨m0, w0⟩, turn⟩ := h
  refine wpAny_While (codeAny_whileLoop (fun m s' => ∃ σ' H' n', Inv X pins σ' H' s' ∧ n' ≤ s'.toks ∧ W m σ' n' H') ?_ m0 ⟨σ, H, n, I, hn, w0⟩)
  rintro m s1 ⟨σ1, H1, n1, I1, hn1, w1⟩
  refine wpAny_passesOwn hp (past hn1 (hc.run pins s1 σ1 H1 _ I1 (turn m σ1 n1 H1 w1)) fun b s2 hn2 ⟨H2, I2, q2⟩ => ?_)
  cases b with
  | false => exact wpAny_execs_nil ⟨σ1, H2, n1, I2, hn2, q2⟩
  | true =>
    refine wpAny_passesOwn hp (thn (hb.run pins s2 σ1 n1 H2 _ hn2 I2 q2) fun f s3 q3 => ?_)
    cases f with
    | next =>
      obtain ⟨σ3, H3, n3, I3, hn3, m', hm, w3⟩ := q3
      exact ⟨m', hm, σ3, H3, n3, I3, hn3, w3⟩
    | ret v => exact q3
    | brk => exact q3.elim
    | cont => exact q3.elim⟩
def nNil : TAN := fun _ n H Q => Q [] n [] H
def nCons (te : TEN) (tr : TAN) : TAN := fun σ n H Q => te σ n H fun u n1 v H1 => tr σ n1 H1 fun us n2 vs H2 => Q (u :: us) n2 (v :: vs) H2
theorem pan_nil : PAN X [] nNil := ⟨fun _ _ _ _ n H Q hn I h => Calls.spliced_nil ⟨[], H, n, I, .nil, hn, h⟩⟩
theorem pan_cons (ha : PEN X e ten) (hr : PAN X es tan) (hs : starEach (e :: es) X.env = (false, eval e X.env) :: starEach es X.env := by rfl) : PAN X (e :: es) (nCons ten tan) := ⟨fun pos pins s σ n H Q hn I h => by
  rw [hs]
  show wpAny _ _ (spliced ((false, eval e X.env) :: backTo pos (starEach es X.env))) _ _ s
  refine Calls.spliced_cons (thn (ha.run pins s σ n H _ hn I h) fun u s1 ⟨x, H1, n1, I1, r1, hn1, q1⟩ => ?_)
  exact thn (hr.run pos pins s1 σ n1 H1 _ hn1 I1 q1) fun us s2 ⟨xs, H2, n2, I2, r2, hn2, q2⟩ => ⟨x :: xs, H2, n2, I2, .cons r1 r2, hn2, q2⟩⟩
end
/-! ### what a def promises, so told -/
abbrev SpN := List V → Nat → Hp → NK → XK → Prop
def CEN (outer : List Env) (P : Program) (w : World) (H : Hp) (s : Shared) (Q : NK) (u : Value) (s' : Shared) : Prop :=
  ∃ v H' n, s'.os = s.os ∧ AllBare s'.gens ∧ Un (frs outer) [] H H' s.heap s'.heap ∧ HOk P w H' s'.heap ∧ RelV v u ∧ n ≤ s'.toks ∧ Q u n v H'
def CRN (CX : CXT) (outer : List Env) (P : Program) (w : World) (H : Hp) (s : Shared) (Q : NK) (E : XK) (r : Result) (s' : Shared) : Prop :=
  match r with
  | .ok (.ret u) => CEN outer P w H s Q u s'
  | .ok _ => False
  | .error e => CX outer H s E e s'
structure FnN (P : Program) (w : World) (K : PySem.W.Frag) (mg : Str → Option Value) (base : Heap) (CX : CXT) (k : Nat) (f : Addr) (fd : FuncData) (ps : List Str) (sp : SpN) : Prop where
  len : ∀ vs n H Q E, sp vs n H Q E → vs.length = ps.length
  run : ∀ (A : Around) (outer : List Env) (s : Shared) (n : Nat) (H : Hp) (args : Args) (us : List Value) (vs : List V) (Q : NK) (E : XK), n ≤ s.toks → Room k A → Env0 P w K mg base A outer s H → BindsTo s fd args (ps.zip us) → Vals vs us → sp vs n H Q E →
    codeAny (model P w) A (.call (.ref f) args) (CRN CX outer P w H s Q E) s
/-- a promise without the machine's values and the number -/
def plainSp (sp : SpN) : Sp := fun vs H Q E => sp vs 0 H (fun _ _ v H' => Q v H') E
theorem FnN.plain {P : Program} {w : World} {K : PySem.W.Frag} {mg : Str → Option Value} {base : Heap} {CX : CXT} {k : Nat} {f : Addr} {fd : FuncData} {ps : List Str} {sp : SpN} (F : FnN P w K mg base CX k f fd ps sp) : FnOk P w K mg base CX k f fd ps (plainSp sp) :=
  ⟨fun vs H Q E h => F.len vs 0 H _ E h, fun A outer s H args us vs Q E hr e0 hb r h => codeAny_mono (F.run A outer s 0 H args us vs _ E (Nat.zero_le _) hr e0 hb r h) fun r s' q => by
    cases r with
    | error e => exact q
    | ok fl =>
      cases fl with
      | ret u =>
        obtain ⟨v, H', n, a, b, c, d, e, _, q⟩ := q
        exact ⟨v, H', a, b, c, d, e, q⟩
      | next => exact q
      | brk => exact q
      | cont => exact q⟩
section
variable {P : Program} {w : World} {K : PySem.W.Frag} {mg : Str → Option Value} {base : Heap}
/-- a def by its body -/
theorem fnN_of {CX : CXT} {k : Nat} {f : Addr} {x qual : Str} {st : Stmt} {fd : FuncData} {N ps : List Str} {sp : SpN} (F : Fun K x qual st f fd) (S : FnScope N ps (defScope st))
    (len : ∀ vs n H Q E, sp vs n H Q E → vs.length = ps.length)
    (body : ∀ (cdv : Value) (A : Around) (outer : List Env) (s : Shared) (n : Nat) (H : Hp) (vs : List V) (Q : NK) (E : XK), Room k (A.deeper (envOfC qual (defScope st) s.heap.objs.size f cdv)) → sp vs n H Q E →
      ∃ t, PSsN (cxOf CX P w K mg base N qual (defScope st) f cdv A outer s H E) (defBody st) t ∧ t ⟨fun _ _ _ => False, Q⟩ (start N vs) n H) : FnN P w K mg base CX (k + 1) f fd ps sp := by
  obtain ⟨oc, od, kV, doc, pm, an, cdv, ct, osl, rfl, lk, hcd⟩ := F.ex
  refine ⟨len, fun A outer s n H args us vs Q E hn hr e0 hb r hsp => ?_⟩
  have KX : K.In s.heap := e0.mod.kin.keeps fun b o e => (e0.bs b o e).1
  have lim : s.heap.NoLimit := e0.mod.nolimit.keeps fun b o e => (e0.bs b o e).1
  refine codeAny_call_function hr.depth (KX _ _ lk) rfl S.co S.gen rfl (PySem.W.codeRec_of KX hcd) (hb _ _ _ _ (past hn (wpAny_newFunctionEnv_cells (Q := fun env s1 => env = envOfC qual (defScope st) s.heap.objs.size f cdv ∧ InCallC s env.locals (bindL env.kindOf (ps.zip us) fun _ => none) env.cells (bindC env.kindOf (ps.zip us) fun _ => none) s1) S.kind ?kinds fun env he s1 x => ⟨he, x⟩) fun env s1 hn1 x => ?_))
  case kinds =>
    rintro ⟨y, v⟩ hy
    rcases S.par y (List.of_mem_zip hy).1 with q | q
    · exact .inl q
    · exact .inr ⟨q, PySem.W.cellsFrom_some _ _ _ (.inl q)⟩
  obtain ⟨he, x⟩ := x
  subst he
  obtain ⟨t, ht, hq⟩ := body cdv A outer s n H vs Q E (hr.deeper _) hsp
  have I := inv_start (CX := CX) (P := P) (w := w) (mg := mg) (base := base) (E := E) S hr.hd e0 (len _ _ _ _ _ hsp) r x
  refine ⟨lim.keeps x.toInCall.keep, codeAny_func (wpAny_mono (ht.run [] s1 (start N vs) n H _ hn1 I hq) (fun fl s' hs => ?_) fun e s' hs => hs)⟩
  cases fl with
  | ret u =>
    obtain ⟨v, σ', H', n', J, rv, hn', q⟩ := hs
    exact ⟨v, H', n', J.os, J.bare, J.base, J.hok, rv, hn', q⟩
  | next => obtain ⟨_, _, _, _, _, q⟩ := hs; exact q.elim
  | brk => exact hs.elim
  | cont => exact hs.elim
end
end LN

namespace LN
open PySem PySem.Spec PyProof.Rows L2
section
variable {X : Cx} {CX : CXT} {k : Nat} {f C : Addr} {fd : FuncData} {ps : List Str} {sp : SpN} {E : XK} {x m : Str} {p pos apos : Pos} {e o : Expr} {es : List Expr} {to : TE} {tan : TAN}
/-- the callee runs -/
theorem run_fnN {pins : List (Addr × Obj)} {σ : L2.St} {n : Nat} {H : Hp} {s : Shared} {Q : NK} {us : List Value} {vs : List V} (F : FnN X.prog X.w X.K X.mg X.base CX k f fd ps sp) (hr : Room k X.A) (hb : Binds X.K fd ps []) (hx : Passes CX X E)
    (hn : n ≤ s.toks) (I : Inv X pins σ H s) (r : Vals vs us) (h : sp vs n H Q E) : wpAny (model X.prog X.w) X.A (call (.ref f) us) (EPN X pins σ Q) X.xe s := by
  have hl : us.length = ps.length := by rw [← r.length]; exact F.len _ _ _ _ _ h
  have b := hb s us I.kIn (by rw [List.append_nil]; exact hl)
  rw [List.append_nil] at b
  refine wpAny_call (codeAny_mono (F.run X.A X.stack s n H ⟨us, []⟩ us vs Q E hn hr I.env0 b r h) fun r s' hq => ?_)
  cases r with
  | error e => exact hx pins σ H s e s' I hq
  | ok fl =>
    cases fl with
    | ret u =>
      obtain ⟨v, H', n', a, b, c, d, rv, hn', q⟩ := hq
      obtain ⟨v2, H2, J, rv2, e2, eH⟩ := I.after (Q := fun v2 H2 => v2 = v ∧ H2 = H') ⟨v, H', a, b, c, d, rv, rfl, rfl⟩
      subst e2 eH
      exact ⟨_, _, n', J, rv2, hn', q⟩
    | next => exact False.elim hq
    | brk => exact False.elim hq
    | cont => exact False.elim hq
def nCall (sp : SpN) (E : XK) (t : TAN) : TEN := fun σ n H Q => t σ n H fun _ n' vs H1 => sp vs n' H1 Q E
theorem pen_call (F : FnN X.prog X.w X.K X.mg X.base CX k f fd ps sp) (hr : Room k X.A) (hg : Gl X x) (hm : X.mg x = some (.ref f)) (hk : PySem.W.keepIn X.K (.ref f) = true) (hb : Binds X.K fd ps []) (hx : Passes CX X E)
    (ha : PAN X (e :: es) tan) (hdb : (x == ("__debug__" : Str)) = false := by decide) (he : starEach (e :: es) X.env = (false, eval e X.env) :: starEach es X.env := by rfl) (hpl : (backTo pos (starEach es X.env)).any (·.1) = false := by rfl) :
    PEN X (.Call (.Name x p) (e :: es) [] pos) (nCall sp E tan) := ⟨fun pins s σ n H Q hn I h => by
  refine wpAny_Call_Name_kw (ld_glob I hg hm ?_ hdb)
  refine PySem.W.callWith_K (h₀ := X.base) I.ok.mod.kin hk (thn (ha.run pos pins s σ n H _ hn I h) fun us s1 ⟨vs, H1, n1, I1, r, hn1, q⟩ => ⟨I1.kIn, ?_⟩) he hpl
  exact run_fnN F hr hb hx hn1 I1 r q⟩
def nMeth0 (C : Addr) (m : Str) (sp : SpN) (E : XK) (to : TE) : TEN := fun σ n H Q => to σ H fun x H1 => ∃ a dx fs, x = .ref a ∧ H1 a = some (.ins C dx fs) ∧ fs.lookup m = none ∧ sp [x] n H1 Q E
theorem pen_meth0 {pl : Sem Bool} (he : PE X o to) (c : Cls X.K C) (hm : Meth X.K C m f) (F : FnN X.prog X.w X.K X.mg X.base CX k f fd ps sp) (hr : Room k X.A) (hb : Binds X.K fd ps []) (hx : Passes CX X E)
    (ht : eval (.Call (.Attribute o m apos) [] [] pos) X.env = (do
      let ov ← eval o X.env
      standAt apos.atName
      let (f, first) ← holding [ov] (getMethod ov m pl)
      callWith pos f first (backTo pos (starEach [] X.env)) (backToKw pos (keywordEach [] X.env))) := by rfl) :
    PEN X (.Call (.Attribute o m apos) [] [] pos) (nMeth0 C m sp E to) := ⟨fun pins s σ n H Q hn I h => by
  refine PySem.W.methodCall_KW (pl := pl) (past hn (he.run pins s σ H _ I h) fun u s1 hn1 ⟨x, H1, I1, rx, a, dx, fs, ex, ea, l, q⟩ => ?_) ht
  subst ex
  obtain rfl : u = Value.ref a := rx
  refine getmeth_ok I1 ea c hm l ?_
  exact PySem.W.callWith_K0 (first := [.ref a]) I1.kIn hm.kp (run_fnN (us := [.ref a]) (vs := [.ref a]) F hr hb hx hn1 I1 (.cons rfl .nil) q)⟩
/-- C(..) by a plain __init__, the arguments told so -/
def nMake (C : Addr) (sp : Sp) (t : TAN) : TEN := fun σ n H Q => t σ n H fun _ n' vs H1 => ∀ x dx, H1 x = none → H1 dx = none → dx ≠ x →
  sp (.ref x :: vs) (upd (upd H1 dx (.own x)) x (.ins C dx [])) (fun v H2 => v = .non ∧ Q (.ref x) n' (.ref x) H2) E0
theorem pen_make {sp : Sp} (M : Mk X.K C f) (F : FnOk X.prog X.w X.K X.mg X.base CX0 k f fd ps sp) (hr : Room (k + 1) X.A) (hg : Gl X x) (hm : X.mg x = some (.ref C)) (hb : Binds X.K fd ps [])
    (ha : PAN X (e :: es) tan) (hdb : (x == ("__debug__" : Str)) = false := by decide) (he : starEach (e :: es) X.env = (false, eval e X.env) :: starEach es X.env := by rfl) (hpl : (backTo pos (starEach es X.env)).any (·.1) = false := by rfl) :
    PEN X (.Call (.Name x p) (e :: es) [] pos) (nMake C sp tan) := ⟨fun pins s σ n H Q hn I h => by
  refine wpAny_Call_Name_kw (ld_glob I hg hm ?_ hdb)
  refine PySem.W.callWith_K (h₀ := X.base) I.ok.mod.kin M.kp (thn (ha.run pos pins s σ n H _ hn I h) fun us s1 ⟨vs, H1, n1, I1, r, hn1, q⟩ => ⟨I1.kIn, ?_⟩) he hpl
  refine past hn1 (run_make (E := E0) (Q := fun v H2 => ∃ x, v = .ref x ∧ Q (.ref x) n1 (.ref x) H2) (dvs := []) M F hr hb .nil pass0 I1 r fun x dx a b c => ?_) fun u s2 hn2 ⟨v, H2, I2, rv, y, ev, q2⟩ => ?_
  · rw [List.append_nil]
    have z := q x dx a b c
    exact (by
      have e : (fun (v : V) (H2 : Hp) => v = .non ∧ ∃ y, V.ref x = .ref y ∧ Q (.ref y) n1 (.ref y) H2) = fun v H2 => v = .non ∧ Q (.ref x) n1 (.ref x) H2 := by
        funext v H2
        exact propext ⟨fun ⟨h1, y, h2, h3⟩ => ⟨h1, by cases h2; exact h3⟩, fun ⟨h1, h3⟩ => ⟨h1, x, rfl, h3⟩⟩
      rw [e]
      exact z)
  · subst ev
    cases rv
    exact ⟨V.ref y, H2, n1, I2, rfl, hn2, q2⟩⟩
/-- a built-in's method, the arguments told so -/
def nBM (K : PySem.W.Frag) (T : String) (r : V → List V → Hp → VK → Prop) (to : TE) (t : TAN) : TEN := fun σ n H Q => to σ H fun x H1 => tyV K T x H1 ∧ t σ n H1 fun _ n' vs H2 => r x vs H2 fun v H3 => ∀ w, RelV v w → Q w n' v H3
theorem pen_bm {T id : String} {name : Str} {cpos : Pos} {r : V → List V → Hp → VK → Prop} (pa : PlainAttrs T) (slot : Slot T name id) (hty : typeOf (.builtin id) = pure (.type "method_descriptor")) (hm : MtR X id r) (ho : PE X o to) (ha : PAN X (e :: es) tan)
    (hbase : attributeBase o name X.env (eval o X.env) = eval o X.env := by rfl)
    (hfew : ((backTo cpos (starEach (e :: es) X.env)).all (fun x => !x.1) && (backToKw cpos (keywordEach [] X.env)).all (fun x => x.1.isSome)
      && decide ((e :: es).length + ([] : List Keyword).length + (if ([] : List Keyword).isEmpty then 0 else 1) < 30)) = true := by rfl)
    (hline : (apos.endLine == cpos.line) = true := by rfl) (hs : starEach (e :: es) X.env = (false, eval e X.env) :: starEach es X.env := by rfl) (hplain : (backTo cpos (starEach es X.env)).any (·.1) = false := by rfl) :
    PEN X (.Call (.Attribute o name apos) (e :: es) [] cpos) (nBM X.K T r to tan) := ⟨fun pins s σ n H Q hn I h => by
  refine wpAny_Call_method_late hbase hfew hline rfl (past hn (ho.run pins s σ H _ I h) fun v s1 hn1 ⟨x, H1, I1, r1, ty, q1⟩ => ?_)
  obtain ⟨h1, h2⟩ := tyV_is I1 r1 ty
  refine ⟨T, id, pa, slot, hty, h1, h2, ?_⟩
  have hA := ha.run cpos pins s1 σ n H1 _ hn1 I1 q1
  rw [hs] at hA ⊢
  refine Calls.callWith_builtin (by show (false || (backTo cpos (starEach es X.env)).any (·.1)) = false; rw [hplain] <;> rfl) (Calls.evalArgs_plain ?_)
  exact thn hA fun us s2 ⟨vs, H2, n2, I2, r2, hn2, q2⟩ => past hn2 (hm pins s2 σ H2 x vs v us _ I2 r1 r2 q2) fun w s3 hn3 ⟨v3, H3, I3, r3, q3⟩ => ⟨v3, H3, n2, I3, r3, hn3, q3 w r3⟩⟩
end
end LN

namespace LN
open PySem PySem.Spec PyProof.Rows L2
/-! ### an instance that stays as it is made, one of its fields known as the machine has it -/
/-- what its dict says -/
def dictSays (dx : Addr) (fs : List (Str × V)) (f0 : Str) (u0 : Value) (h : Heap) : Prop := ∃ mA, h.Ns1 dx mA ∧ mA f0 = some u0 ∧ ∀ f v, fs.lookup f = some v → ∃ u, mA f = some u ∧ RelV v u
def Still (C : Addr) (H : Hp) (a : Addr) (fs : List (Str × V)) (f0 : Str) (u0 : Value) : Prop :=
  ∃ dx, dx ≠ a ∧ H a = some (.frz (PySem.W.instObj C dx) (.own a)) ∧ H dx = some (.ext (dictSays dx fs f0 u0))
theorem Still.same {C : Addr} {H H' : Hp} {a : Addr} {fs : List (Str × V)} {f0 : Str} {u0 : Value} (h : Still C H a fs f0 u0) (s : Same H H') : Still C H' a fs f0 u0 := by
  obtain ⟨dx, n, e1, e2⟩ := h
  exact ⟨dx, n, s _ _ e1, s _ _ e2⟩
section
variable {X : Cx} {pins : List (Addr × Obj)} {σ : L2.St} {H : Hp} {s : Shared} {C a : Addr} {fs : List (Str × V)} {f0 : Str} {u0 : Value}
theorem Still.get {A : Around} {E : Value → Shared → Prop} {f : Str} {v : V} {b : Bool} {Q : Value → Shared → Prop} (I : Inv X pins σ H s) (h : Still C H a fs f0 u0) (c : Cls X.K C) (n : NoAttr X.K C f) (l : fs.lookup f = some v)
    (k : ∀ u, (f = f0 → u = u0) → RelV v u → Inv X pins σ H { s with toks := s.toks + 1 } → Q u { s with toks := s.toks + 1 }) : wpAny (model X.prog X.w) A (getAttr (.ref a) f b) Q E s := by
  obtain ⟨dx, ne, e1, e2⟩ := h
  obtain ⟨ho, _⟩ : s.heap.get? a = some (PySem.W.instObj C dx) ∧ _ := I.hok a _ e1
  obtain ⟨⟨mA, hns, h0, hf⟩, _, _⟩ : dictSays dx fs f0 u0 s.heap ∧ _ := I.hok dx _ e2
  obtain ⟨u, hu, ru⟩ := hf f v l
  exact get_map I.kIn ⟨ho, hns, ne⟩ (c.get f) c.hd n hu (handed_of ru) (k u (fun e => by subst e; rw [hu] at h0; exact Option.some.inj h0) ru (I.tok _))
end
/-- o.f, o such an instance -/
def tStill (K : PySem.W.Frag) (to : TE) (f : Str) : TE := fun σ H Q => to σ H fun x H1 => ∃ a C fs f0 u0 v, x = .ref a ∧ Still C H1 a fs f0 u0 ∧ Cls K C ∧ NoAttr K C f ∧ fs.lookup f = some v ∧ Q v H1
/-- .. the known field -/
def nStill (K : PySem.W.Frag) (to : TE) (f : Str) : TEN := fun σ n H Q => to σ H fun x H1 => ∃ a C fs u0 v, x = .ref a ∧ Still C H1 a fs f u0 ∧ Cls K C ∧ NoAttr K C f ∧ fs.lookup f = some v ∧ Q u0 n v H1
section
variable {X : Cx} {o : Expr} {f : Str} {pos : Pos} {to : TE}
theorem pe_still (he : PE X o to) (hb : attributeBase o f X.env (eval o X.env) = eval o X.env := by rfl) : PE X (.Attribute o f pos) (tStill X.K to f) := ⟨fun pins s σ H Q I h => by
  refine attr_of hb (thn (he.run pins s σ H _ I h) fun u s1 ⟨x, H1, I1, rx, a, C, fs, f0, u0, v, ex, st, c, n, l, q⟩ => ?_)
  subst ex
  obtain rfl : u = Value.ref a := rx
  exact st.get I1 c n l fun u' _ ru I2 => ⟨v, H1, I2, ru, q⟩⟩
theorem pen_still (he : PE X o to) (hb : attributeBase o f X.env (eval o X.env) = eval o X.env := by rfl) : PEN X (.Attribute o f pos) (nStill X.K to f) := ⟨fun pins s σ n H Q hn I h => by
  refine attr_of hb (past hn (he.run pins s σ H _ I h) fun u s1 hn1 ⟨x, H1, I1, rx, a, C, fs, u0, v, ex, st, c, na, l, q⟩ => ?_)
  subst ex
  obtain rfl : u = Value.ref a := rx
  refine st.get I1 c na l fun u' e ru I2 => ?_
  obtain rfl := e rfl
  exact ⟨v, H1, n, I2, ru, Nat.le_succ_of_le hn1, q⟩⟩
end
/-! ### __init__ of four fields, each its argument -/
theorem ldL {M : Model} {s : Shared} {name : Str} {scope : Scope} {L a : Addr} {cd : Value} {m : Str → Option Value} {x : Str} {pos : Pos} {v : Value} {Q : Value → Shared → Prop} {A : Around} {E : Value → Shared → Prop} (hn : s.heap.Ns L m) (hv : m x = some v) (h : Q v s)
    (hk : scope.kind = .function) (hl : (envOfC name scope L a cd).kindOf x = some .local) (hd : (x == ("__debug__" : Str)) = false) : wpAny M A (eval (.Name x pos) (envOfC name scope L a cd)) Q E s :=
  wpAny_Name (wpAny_loadName_local hk hl hn hv h) hd
section
variable {prog : Program} {w : World} {A : Around} {E : Value → Shared → Prop} {s : Shared} {K : PySem.W.Frag} {C x dx L fa : Addr} {nm : Str} {scope : Scope} {cd u : Value} {m mA : Str → Option Value} {p f : Str}
/-- self.f = p -/
theorem set_one {p1 p2 p3 p4 : Pos} {Q : Flow → Shared → Prop} (c : Cls K C) (X : K.In s.heap) (hn : s.heap.Ns L m) (hL : L ≠ dx) (O : ObjM s.heap x dx C mA) (ns : NoAttr K C f) (fields : List Str) (wi : PySem.Within mA fields) (few : fields.length ≤ 1000)
    (hs : m "self" = some (.ref x)) (hp : m p = some u) (hk : scope.kind = .function) (ls : (envOfC nm scope L fa cd).kindOf "self" = some .local) (lp : (envOfC nm scope L fa cd).kindOf p = some .local) (hd : (p == ("__debug__" : Str)) = false)
    (h : ∀ h', ObjM h' x dx C (fun y => if y = f then some u else mA y) → Heap.SameBut dx s.heap h' → Q .next { s with heap := h', toks := s.toks + 2 })
    (hsw : swapsWith (.Name p p3) (some (.Attribute (.Name "self" p1) f p2)) p4.line (envOfC nm scope L fa cd) = pure false := by rfl) :
    wpAny (model prog w) A (exec (.Assign [.Attribute (.Name "self" p1) f p2] (.Name p p3) p4) (envOfC nm scope L fa cd)) Q E s := by
  refine plainObj_wpAny_Assign_Attribute (ldL hn hp (ldL hn hs ?_ hk ls (by decide)) hk lp hd) hsw
  exact set_map X O c.sa c.po ns.taker c.hd wi (by rw [sizeLine_eq]; omega) h
end
abbrev s_Token_init : Stmt := inClass (LD.top 33) 0
theorem sc_Token_init : FnScope ["self", "kind", "value", "place", "end"] ["self", "kind", "value", "place", "end"] (defScope s_Token_init) := ⟨rfl, rfl, rfl, by decide +kernel, rfl, by decide +kernel, by decide +kernel⟩
/-- what the text says of Token -/
structure TokTxt (K : PySem.W.Frag) (mg : Str → Option Value) (C : Addr) : Prop where
  g : mg "Token" = some (.ref C)
  cl : Cls K C
  n1 : NoAttr K C "kind"
  n2 : NoAttr K C "value"
  n3 : NoAttr K C "place"
  n4 : NoAttr K C "end"
  make : ∃ f fd, Mk K C f ∧ Fun K "__init__" "Token.__init__" s_Token_init f fd
/-- the fields of a token -/
def tokF (k v p e : V) : List (Str × V) := [("kind", k), ("value", v), ("place", p), ("end", e)]
/-- Token(..): told as it stands -/
def nTok (C : Addr) (t : TAN) : TEN := fun σ n H Q => t σ n H fun us n' vs H1 => ∃ k v p e uk uv up ue, vs = [k, v, p, e] ∧ us = [uk, uv, up, ue] ∧
  ∀ a H2, Same H1 H2 → H1 a = none → Still C H2 a (tokF k v p e) "value" uv → Q (.ref a) n' (.ref a) H2
theorem lookup_if {f g : Str} {x : V} {r : List (Str × V)} : List.lookup f ((g, x) :: r) = if f = g then some x else List.lookup f r := by
  by_cases h : f = g
  · subst h; rw [if_pos rfl, List.lookup_cons, beq_self_eq_true]
  · rw [if_neg h, List.lookup_cons, beq_eq_false_iff_ne.mpr h]
theorem within_put {mA : Str → Option Value} {ns : List Str} {f : Str} {u : Value} (h : PySem.Within mA ns) : PySem.Within (fun y => if y = f then some u else mA y) (f :: ns) := fun g hg => by
  by_cases q : g = f
  · rw [q]; exact List.mem_cons_self
  · refine List.mem_cons_of_mem _ (h g fun z => hg ?_)
    show (if g = f then some u else mA g) = none
    rw [if_neg q]; exact z
section
variable {X : Cx} {pins : List (Addr × Obj)} {σ : L2.St} {H : Hp} {s : Shared} {C : Addr}
theorem run_tok {k v p e : V} {uk uv up ue : Value} {Q : Value → Shared → Prop} (T : TokTxt X.K X.mg C) (hr : Room 3 X.A) (I : Inv X pins σ H s) (r : Vals [k, v, p, e] [uk, uv, up, ue])
    (h : ∀ a H2 s', Same H H2 → H a = none → Still C H2 a (tokF k v p e) "value" uv → Inv X pins σ H2 s' → Q (.ref a) s') : wpAny (model X.prog X.w) X.A (call (.ref C) [uk, uv, up, ue]) Q X.xe s := by
  obtain ⟨fi, fd, M, F⟩ := T.make
  obtain ⟨oc, od, kV, doc, pm, an, cdv, ct, osl, rfl, lk, hcd⟩ := F.ex
  have X0 := I.kIn
  have hlim := I.nolimit
  generalize hx : s.heap.objs.size + 1 = x
  generalize hdx : s.heap.objs.size = dx
  have I2 := Inv.made (C := C) I
  rw [hx, hdx] at I2
  refine wpAny_call (make_map (f := fi) X0 M.makes M.init (beq_iff_eq.mp M.fn) ?_)
  rw [hx, hdx]
  have lx : ∀ b o, s.heap.get? b = some o → b ≠ dx ∧ b ≠ x := fun b o e => by
    have h1 := Heap.lt_size e
    exact ⟨Nat.ne_of_lt (by rw [← hdx]; exact h1), Nat.ne_of_lt (by rw [← hx]; exact Nat.lt_succ_of_lt h1)⟩
  have kdx : X.K.lookup dx = none := by
    cases e : X.K.lookup dx with
    | none => rfl
    | some o => exact absurd rfl (lx _ _ (X0 _ _ e)).1
  have k2 : ∀ b o, s.heap.get? b = some o → ((s.heap.push PySem.W.emptyDict).push (PySem.W.instObj C dx)).get? b = some o := fun b o e => Heap.get?_push_of_some _ (Heap.get?_push_of_some _ e)
  obtain ⟨m0, O0, r0, w0, _, _⟩ := ins_get I2.hok upd_same
  have nx : dx ≠ x := by rw [← hx, ← hdx]; exact Nat.ne_of_lt (Nat.lt_succ_self _)
  generalize hh2 : (s.heap.push PySem.W.emptyDict).push (PySem.W.instObj C dx) = h2 at I2 O0 k2
  have sz2 : dx < h2.objs.size := by
    obtain ⟨_, _, _, e, _⟩ := O0.ns
    exact Heap.lt_size e
  have hX2 : X.K.In h2 := I2.kIn
  refine Att.call_fn (s := { s with heap := h2 }) (binds := [("self", .ref x), ("kind", uk), ("value", uv), ("place", up), ("end", ue)]) hX2 I2.nolimit lk hcd ?_ (BindsTo.of_eq rfl) (by first | rfl | with_unfolding_all rfl) (fun s₁ IC => ?_) rfl rfl rfl
  · have := hr.dp
    rw [make_depth]
    omega
  obtain ⟨h1, tk1, rfl⟩ := IC.toInCall.same
  have k1 : ∀ b o, h2.get? b = some o → h1.get? b = some o := IC.toInCall.keep
  have hn := IC.toInCall.ns
  have O1 : ObjM h1 x dx C m0 := ⟨k1 _ _ O0.obj, O0.ns.at (k1 _), O0.ne⟩
  have X1 : X.K.In h1 := hX2.keeps k1
  have Lne : h2.objs.size ≠ dx := Nat.ne_of_gt sz2
  have kb : ∀ {h h' : Heap}, Heap.SameBut dx h h' → X.K.In h → X.K.In h' := fun {h h'} sb hX b o e => (sb.2 b (fun z => by rw [z, kdx] at e; cases e)).trans (hX b o e)
  refine wpAny_execs_cons (set_one (p := "kind") (u := uk) T.cl X1 hn Lne O1 T.n1 _ w0 (by decide) (by first | rfl | with_unfolding_all rfl) (by first | rfl | with_unfolding_all rfl) rfl rfl rfl (by decide) fun h3 O3 sb3 => ?_)
  have X3 := kb sb3 X1
  have hn3 := hn.sameBut sb3 Lne
  refine wpAny_execs_cons (set_one (p := "value") (u := uv) T.cl X3 hn3 Lne O3 T.n2 ["kind"] (within_put w0) (by decide) (by first | rfl | with_unfolding_all rfl) (by first | rfl | with_unfolding_all rfl) rfl rfl rfl (by decide) fun h4 O4 sb4 => ?_)
  have X4 := kb sb4 X3
  have hn4 := hn3.sameBut sb4 Lne
  refine wpAny_execs_cons (set_one (p := "place") (u := up) T.cl X4 hn4 Lne O4 T.n3 ["value", "kind"] (within_put (within_put w0)) (by decide) (by first | rfl | with_unfolding_all rfl) (by first | rfl | with_unfolding_all rfl) rfl rfl rfl (by decide) fun h5 O5 sb5 => ?_)
  have X5 := kb sb5 X4
  have hn5 := hn4.sameBut sb5 Lne
  refine wpAny_execs_cons (set_one (p := "end") (u := ue) T.cl X5 hn5 Lne O5 T.n4 ["place", "value", "kind"] (within_put (within_put (within_put w0))) (by decide) (by first | rfl | with_unfolding_all rfl) (by first | rfl | with_unfolding_all rfl) rfl rfl rfl (by decide) fun h6 O6 sb6 => ?_)
  refine wpAny_execs_nil ?_
  refine ⟨rfl, ?_⟩
  have kp : ∀ b o, s.heap.get? b = some o → h6.get? b = some o := fun b o e =>
    have n := (lx b o e).1
    (sb6.2 b n).trans ((sb5.2 b n).trans ((sb4.2 b n).trans ((sb3.2 b n).trans (k1 _ _ (k2 _ _ e)))))
  obtain ⟨G, g1, g2⟩ := restrict h6 fun b => decide (b ≠ x)
  have gk : ∀ b, b ≠ x → G.get? b = h6.get? b := fun b hb => g1 b (decide_eq_true hb)
  have gx : G.get? x = none := g2 x (by simp)
  have gs : ∀ b o, G.get? b = some o → h6.get? b = some o := fun b o e => by
    by_cases hb : b = x
    · rw [hb, gx] at e; cases e
    · rw [← gk b hb]; exact e
  have says : ∀ {h : Heap}, (∀ o, h6.get? dx = some o → h.get? dx = some o) → dictSays dx (tokF k v p e) "value" uv h := fun {h} hh => by
    have d1 : ¬ ("kind" : Str) = "end" := by decide +kernel
    have d2 : ¬ ("kind" : Str) = "place" := by decide +kernel
    have d3 : ¬ ("kind" : Str) = "value" := by decide +kernel
    have d4 : ¬ ("value" : Str) = "end" := by decide +kernel
    have d5 : ¬ ("value" : Str) = "place" := by decide +kernel
    have d6 : ¬ ("place" : Str) = "end" := by decide +kernel
    refine ⟨_, O6.ns.at hh, (if_neg d4).trans ((if_neg d5).trans (if_pos rfl)), fun f y l => ?_⟩
    obtain ⟨rk, rv, rp, re⟩ : RelV k uk ∧ RelV v uv ∧ RelV p up ∧ RelV e ue := by
      cases r with
      | cons a r => cases r with
        | cons b r => cases r with
          | cons c r => cases r with
            | cons d r => exact ⟨a, b, c, d⟩
    unfold tokF at l
    rw [lookup_if, lookup_if, lookup_if, lookup_if] at l
    split at l
    · rename_i hf
      subst hf
      cases l
      exact ⟨uk, (if_neg d1).trans ((if_neg d2).trans ((if_neg d3).trans (if_pos rfl))), rk⟩
    split at l
    · rename_i hf
      subst hf
      cases l
      exact ⟨uv, (if_neg d4).trans ((if_neg d5).trans (if_pos rfl)), rv⟩
    split at l
    · rename_i hf
      subst hf
      cases l
      exact ⟨up, (if_neg d6).trans (if_pos rfl), rp⟩
    split at l
    · rename_i hf
      subst hf
      cases l
      exact ⟨ue, if_pos rfl, re⟩
    · cases l
  have dH : H dx = none := I.hok.fresh (Nat.le_of_eq hdx)
  have J1 : Inv X pins σ (upd H dx (.ext (dictSays dx (tokF k v p e) "value" uv))) { s with heap := G, toks := s.toks } := by
    refine I.laid (fun b o e => ?_) (Nat.le_of_eq hdx) ⟨says fun o e => by rw [gk dx nx]; exact e, ?_, ?_⟩
    · rw [gk b (lx b o e).2]; exact kp b o e
    · obtain ⟨o, es, ep, e, _⟩ := O6.ns
      exact ⟨o, by rw [gk dx nx]; exact e⟩
    · rintro h h' ⟨mA, a, b, c⟩ q
      exact ⟨mA, a.at q, b, c⟩
  have xH : upd H dx (.ext (dictSays dx (tokF k v p e) "value" uv)) x = none := by
    rw [upd_ne (Ne.symm nx)]
    exact I.hok.fresh (by rw [← hx]; exact Nat.le_succ _)
  have J2 := J1.laidN (h' := h6) (a := x) (o := .frz (PySem.W.instObj C dx) (.own x)) (t' := s.toks) gs gx xH ⟨O6.obj, _, O6.obj⟩
  refine h x (upd (upd H dx (.ext (dictSays dx (tokF k v p e) "value" uv))) x (.frz (PySem.W.instObj C dx) (.own x))) _ ?_ (by rw [← xH, upd_ne (Ne.symm nx)]) ⟨dx, nx, upd_same, by rw [upd_ne nx, upd_same]⟩ ?_
  · exact (LD.same_new dH).trans (LD.same_new xH)
  · exact J2.tok _
end
section
variable {X : Cx} {C : Addr} {e : Expr} {es : List Expr} {p pos : Pos} {tan : TAN} {ta : TA}
theorem pen_tok (T : TokTxt X.K X.mg C) (hr : Room 3 X.A) (ha : PAN X (e :: es) tan) (hg : Gl X "Token" := by rfl) (he : starEach (e :: es) X.env = (false, eval e X.env) :: starEach es X.env := by rfl) (hpl : (backTo pos (starEach es X.env)).any (·.1) = false := by rfl) :
    PEN X (.Call (.Name "Token" p) (e :: es) [] pos) (nTok C tan) := ⟨fun pins s σ n H Q hn I h => by
  refine wpAny_Call_Name_kw (ld_glob I hg T.g ?_ (by decide))
  obtain ⟨fi, fd, M, _⟩ := T.make
  refine PySem.W.callWith_K (h₀ := X.base) I.ok.mod.kin M.kp (thn (ha.run pos pins s σ n H _ hn I h) fun us s1 ⟨vs, H1, n1, I1, r, hn1, q⟩ => ⟨I1.kIn, ?_⟩) he hpl
  obtain ⟨k, v, pl, en, uk, uv, up, ue, rfl, rfl, q⟩ := q
  exact past hn1 (run_tok (Q := fun u s' => ∃ a H2, u = .ref a ∧ Inv X pins σ H2 s' ∧ Q (.ref a) n1 (.ref a) H2) T hr I1 r fun a H2 s' sm na st J => ⟨a, H2, rfl, J, q a H2 sm na st⟩) fun u s2 hn2 ⟨a, H2, eu, J, q2⟩ => by
    subst eu
    exact ⟨V.ref a, H2, n1, J, rfl, hn2, q2⟩⟩
def tTok (C : Addr) (t : TA) : TE := fun σ H Q => t σ H fun vs H1 => ∃ k v p e, vs = [k, v, p, e] ∧ ∀ a H2 uv, RelV v uv → Same H1 H2 → H1 a = none → Still C H2 a (tokF k v p e) "value" uv → Q (.ref a) H2
theorem pe_tok (T : TokTxt X.K X.mg C) (hr : Room 3 X.A) (ha : PA X (e :: es) ta) (hg : Gl X "Token" := by rfl) (he : starEach (e :: es) X.env = (false, eval e X.env) :: starEach es X.env := by rfl) (hpl : (backTo pos (starEach es X.env)).any (·.1) = false := by rfl) :
    PE X (.Call (.Name "Token" p) (e :: es) [] pos) (tTok C ta) := ⟨fun pins s σ H Q I h => by
  refine wpAny_Call_Name_kw (ld_glob I hg T.g ?_ (by decide))
  obtain ⟨fi, fd, M, _⟩ := T.make
  refine PySem.W.callWith_K (h₀ := X.base) I.ok.mod.kin M.kp (thn (ha.run pos pins s σ H _ I h) fun us s1 ⟨vs, H1, I1, r, q⟩ => ⟨I1.kIn, ?_⟩) he hpl
  obtain ⟨k, v, pl, en, rfl, q⟩ := q
  obtain ⟨uk, uv, up, ue, rfl, rv⟩ : ∃ uk uv up ue, us = [uk, uv, up, ue] ∧ RelV v uv := by
    cases r with
    | cons a r => cases r with
      | cons b r => cases r with
        | cons c r => cases r with
          | cons d r => cases r; exact ⟨_, _, _, _, rfl, b⟩
  exact run_tok T hr I1 r fun a H2 s' sm na st J => ⟨V.ref a, H2, J, rfl, q a H2 uv rv sm na st⟩⟩
end
end LN

namespace LN
open PySem PySem.Spec PyProof.Rows L2
section
variable {X : Cx} {pins : List (Addr × Obj)} {σ : L2.St} {H : Hp} {s : Shared}
/-- what a local of the frame holds, as the machine has it -/
def Holds (X : Cx) (s : Shared) (x : Str) (u : Value) : Prop := ∃ m, s.heap.Ns X.env.locals m ∧ m x = some u
theorem store_raw {M : Model} {A : Around} {E : Value → Shared → Prop} {i : Nat} {x : Str} {v : V} {u : Value} {Q : Unit → Shared → Prop} (I : Inv X pins σ H s) (hN : X.N.Nodup) (hi : X.N[i]? = some x) (hk : X.env.scope.names.lookup x = some .local) (r : RelV v u)
    (h : ∀ s', s.toks ≤ s'.toks → Inv X pins (σ.set i (some v)) H s' → Holds X s' x u → (∀ y w, y ≠ x → Holds X s y w → Holds X s' y w) → Q () s') : wpAny M A (storeName X.env x u) Q E s := by
  obtain ⟨m, hn, hl⟩ := id I.loc
  obtain ⟨oL, _, _, hoL, _⟩ := id hn
  have hlt : i < σ.length := by rw [I.len]; exact (List.getElem?_eq_some_iff.mp hi).1
  refine wpAny_storeName_local hk hn (fun h' hn' hs => ?_) (by rw [I.ok.kind]; rfl)
  have old : ∀ {b o}, X.s_0.heap.get? b = some o → h'.get? b = s.heap.get? b := fun {b o} e =>
    hs.2 b (Nat.ne_of_lt (Nat.lt_of_lt_of_le (Heap.lt_size e) I.ok.above))
  have J : Inv X pins (σ.set i (some v)) H { s with heap := h' } := by
    constructor
    case ok => exact I.ok
    case os => exact I.os
    case bare => exact I.bare
    case base =>
      constructor
      case keep => intro b o e n hb hx; exact (old e).trans (I.base.keep b o e n hb hx)
      case slot => intro b o e n hb hx; obtain ⟨sl, z⟩ := I.base.slot b o e n hb hx; exact ⟨sl, (old e).trans z⟩
      case free => exact I.base.free
      case there => intro b o e hx; obtain ⟨o', z⟩ := I.base.there b o e hx; exact ⟨o', (old e).trans z⟩
      case tups => exact I.base.tups
      case frzs => exact I.base.frzs
      case tbls => exact I.base.tbls
    case loc =>
      refine ⟨_, hn', fun j y v' e1 e2 e3 => ?_⟩
      by_cases hj : j = i
      · subst hj
        rw [hi] at e1
        cases e1
        rw [List.getElem?_set_self hlt] at e2
        cases e2
        exact ⟨u, r, .inl ⟨hk, by simp⟩⟩
      · rw [List.getElem?_set_ne (Ne.symm hj)] at e2
        obtain ⟨u', r', q⟩ := hl j y v' e1 e2 e3
        have yx : y ≠ x := fun z => hj (nodup_ix hN e1 (z ▸ hi))
        rcases q with ⟨k, z⟩ | ⟨k, c, z, t⟩
        · exact ⟨u', r', .inl ⟨k, by simp [yx, z]⟩⟩
        · exact ⟨u', r', .inr ⟨k, c, z, t.sameBut hs (I.cne y c z)⟩⟩
    case cell => intro y c e; obtain ⟨w', z⟩ := I.cell y c e; exact ⟨w', z.sameBut hs (I.cne y c e)⟩
    case free => exact I.free
    case freeC => exact I.freeC
    case pin => intro p hp; obtain ⟨e, n, ne, nf, d⟩ := I.pin p hp; exact ⟨(hs.2 p.1 ne).trans e, n, ne, nf, d⟩
    case hok =>
      intro b ob e
      refine (I.hok b ob e).stay (fun c w' hc q => (hs.2 c fun z => ?_).trans q) (fun _ q => q) fun _ _ q => q
      subst z
      have free := I.free
      rcases hc with z | z
      · rw [z] at free; rw [free] at e; cases e
      · rw [free] at z; cases z
    case len => rw [List.length_set]; exact I.len
  refine h _ (Nat.le_succ _) (J.tok _) ⟨_, hn', by simp⟩ fun y w hy ⟨m2, hn2, e2⟩ => ⟨_, hn', ?_⟩
  have : m2 y = m y := hn2.agree hn y
  simp [hy, ← this, e2]
theorem load_raw {E : Value → Shared → Prop} {i : Nat} {x : Str} {v : V} {u : Value} {pos : Pos} {Q : Value → Shared → Prop} (I : Inv X pins σ H s) (hN : X.N[i]? = some x) (hk : X.env.scope.names.lookup x = some .local) (hσ : σ[i]? = some (some v))
    (hu : Holds X s x u) (h : RelV v u → Q u s) (hd : (x == ("__debug__" : Str)) = false := by decide) : wpAny (model X.prog X.w) X.A (eval (.Name x pos) X.env) Q E s := by
  obtain ⟨m, hn, e⟩ := hu
  obtain ⟨m2, hn2, hl⟩ := I.loc
  obtain ⟨u', r, q⟩ := hl i x v hN hσ (.inl hk)
  rcases q with ⟨_, z⟩ | ⟨k, _⟩
  · rw [hn2.agree hn x, e] at z
    cases z
    exact wpAny_Name (wpAny_loadName_local I.ok.kind hk hn e (h r)) hd
  · have hk' : X.env.kindOf x = some .local := hk
    rw [hk'] at k
    rcases k with k | k <;> cases k
end
/-! ### old = e1; return (name, old, e2): the tuple as the machine has it -/
def nTrip (te1 te2 : TEN) (i j : Nat) : TSN := fun D σ n H => te1 σ n H fun u1 n1 v1 H1 => ∃ vn, (σ.set i (some v1))[j]? = some (some vn) ∧ te2 (σ.set i (some v1)) n1 H1 fun u2 n2 v2 H2 =>
  ∀ p un, H2 p = none → RelV vn un → D.rt (.ref p) n2 (.ref p) (upd H2 p (.frz { cls := .type "tuple", data := .seq #[un, u1, u2] 0 } (.tup [vn, v1, v2])))
section
variable {X : Cx} {c1 c2 : Expr} {te1 te2 : TEN} {i j : Nat} {x y : Str} {p1 p2 p3 p4 p5 p6 : Pos} {k_is}
theorem pssn_trip (hN : X.N.Nodup) (hi : X.N[i]? = some x) (hj : X.N[j]? = some y) (hx : X.env.scope.names.lookup x = some .local) (hy : X.env.scope.names.lookup y = some .local) (h1 : PEN X c1 te1) (h2 : PEN X c2 te2)
    (hs : swapsWith c1 (some (.Name x p1)) p2.line X.env = pure false := by rfl) (hd : (x == ("__debug__" : Str)) = false := by decide) (hd2 : (y == ("__debug__" : Str)) = false := by decide)
    (e1 : starEach [.Name y p3, .Name x p4, c2] X.env = [(false, eval (.Name y p3) X.env), (false, eval (.Name x p4) X.env), (false, eval c2 X.env)] := by rfl) :
    PSsN X [.Assign [.Name x p1] c1 p2, .Return (some (.Tuple [.Name y p3, .Name x p4, c2] k_is p5)) p6] (nTrip te1 te2 i j) := ⟨fun pins s σ n H D hn I h => by
  refine wpAny_execs_cons (wpAny_Assign_Name (thn (h1.run pins s σ n H _ hn I h) fun u1 s1 ⟨v1, H1, n1, I1, r1, hn1, vn, hvn, q1⟩ => ?_) hs)
  refine store_raw I1 hN hi hx r1 fun s2 t2 I2 raw _ => ?_
  have hn2 := Nat.le_trans hn1 t2
  refine wpAny_execs_cons (wpAny_Return_some (wpAny_Tuple_spliced ?_))
  rw [e1]
  obtain ⟨m, hm, hl⟩ := I2.loc
  obtain ⟨un, rn, look⟩ := hl j y vn hj hvn (.inl hy)
  have hold : Holds X s2 y un := by
    rcases look with ⟨_, z⟩ | ⟨k, _⟩
    · exact ⟨m, hm, z⟩
    · have hk' : X.env.kindOf y = some .local := hy
      rw [hk'] at k
      rcases k with k | k <;> cases k
  refine Calls.spliced_cons (load_raw I2 hj hy hvn hold (fun _ => ?_) hd2)
  have hl1 : i < σ.length := by rw [I1.len]; exact (List.getElem?_eq_some_iff.mp hi).1
  refine Calls.spliced_cons (load_raw I2 hi hx (List.getElem?_set_self hl1) raw (fun _ => ?_) hd)
  refine Calls.spliced_cons (thn (h2.run pins s2 _ n1 H1 _ hn2 I2 q1) fun u2 s3 ⟨v2, H2, n2, I3, r3, hn3, q3⟩ => Calls.spliced_nil ?_)
  have h3 : (3 : Nat) ≤ sizeLine := by decide
  have hf : H2 s3.heap.objs.size = none := I3.hok.fresh (Nat.le_refl _)
  refine ⟨h3, V.ref s3.heap.objs.size, _, _, n2, I3.laid (a := s3.heap.objs.size) (o := .frz { cls := .type "tuple", data := .seq #[un, u1, u2] 0 } (.tup [vn, v1, v2])) (t' := s3.toks) (fun b u e => Heap.get?_push_of_some _ e) (Nat.le_refl _) ⟨Heap.get?_push_size _ rfl, h3, [un, u1, u2], .cons rn (.cons r1 (.cons r3 .nil)), ⟨_, Heap.get?_push_size _ rfl, rfl, _, rfl⟩⟩, rfl, hn3, q3 _ un hf rn⟩⟩
end
end LN

namespace LN
open PySem PySem.Spec PyProof.Rows L2
theorem holds_of {X : Cx} {pins : List (Addr × Obj)} {σ : L2.St} {H : Hp} {s : Shared} {i : Nat} {x : Str} {v : V} (I : Inv X pins σ H s) (hN : X.N[i]? = some x) (hk : X.env.scope.names.lookup x = some .local) (hσ : σ[i]? = some (some v)) : ∃ u, RelV v u ∧ Holds X s x u := by
  obtain ⟨m, hm, hl⟩ := I.loc
  obtain ⟨u, r, q⟩ := hl i x v hN hσ (.inl hk)
  rcases q with ⟨_, z⟩ | ⟨k, _⟩
  · exact ⟨u, r, m, hm, z⟩
  · have hk' : X.env.kindOf x = some .local := hk
    rw [hk'] at k
    rcases k with k | k <;> cases k
/-- word = e; kind = A if word in T else B; return Token(kind, word, at, end): the word as the machine has it -/
def nWord (C : Addr) (te : TEN) (ia ib : Nat) (ws : List V) (kA kB : V) : TSN := fun D σ n H => te σ n H fun u1 n1 v1 H1 => ∃ z va vb, v1 = .str z ∧ σ[ia]? = some (some va) ∧ σ[ib]? = some (some vb) ∧
  ∀ a H2, Same H1 H2 → H1 a = none → Still C H2 a (tokF (if inV (.str z) ws = true then kA else kB) v1 va vb) "value" u1 → D.rt (.ref a) n1 (.ref a) H2
section
variable {X : Cx} {C tp : Addr} {c1 : Expr} {te : TEN} {i l ia ib : Nat} {ws : List V} {kA kB : V} {p1 p2 p3 p4 p5 p6 p7 p8 p9 q1 q2 q3 q4 q5 q6 q7 pos : Pos}
theorem pssn_word (T : TokTxt X.K X.mg C) (hr : Room 3 X.A) (hN : X.N.Nodup) (hi : X.N[i]? = some "word") (hl : X.N[l]? = some "kind") (ha : X.N[ia]? = some "at") (hb : X.N[ib]? = some "end")
    (ki : X.env.scope.names.lookup ("word" : Str) = some .local) (kl : X.env.scope.names.lookup ("kind" : Str) = some .local) (ka : X.env.scope.names.lookup ("at" : Str) = some .local) (kb : X.env.scope.names.lookup ("end" : Str) = some .local)
    (n1 : i ≠ ia) (n2 : i ≠ ib) (n3 : l ≠ i) (n4 : l ≠ ia) (n5 : l ≠ ib) (h1 : PEN X c1 te)
    (mT : X.mg "OWN_WORDS" = some (.ref tp)) (sT : ∀ H, SqT X.K H tp ws) (fl : ws.all flatV = true) (mA : LD.Kc X.mg "OWN_WORD" kA) (mB : LD.Kc X.mg "LETTERS_WORD" kB)
    (gT : Gl X "OWN_WORDS" := by rfl) (gA : Gl X "OWN_WORD" := by rfl) (gB : Gl X "LETTERS_WORD" := by rfl) (gC : Gl X "Token" := by rfl)
    (hs : swapsWith c1 (some (.Name "word" p1)) p2.line X.env = pure false := by rfl)
    (hm : behindInMarks .In (.Name "OWN_WORDS" p4) = false := by rfl)
    (hs2 : swapsWith (.IfExp (.Compare (.Name "word" p3) [.In] [.Name "OWN_WORDS" p4] p5) (.Name "OWN_WORD" p6) (.Name "LETTERS_WORD" p7) p8) (some (.Name "kind" p9)) q1.line X.env = pure false := by rfl)
    (he : starEach [.Name "kind" q3, .Name "word" q4, .Name "at" q5, .Name "end" q6] X.env = [(false, eval (.Name "kind" q3) X.env), (false, eval (.Name "word" q4) X.env), (false, eval (.Name "at" q5) X.env), (false, eval (.Name "end" q6) X.env)] := by rfl)
    (hpl : (backTo pos (starEach [.Name "word" q4, .Name "at" q5, .Name "end" q6] X.env)).any (·.1) = false := by rfl) :
    PSsN X [.Assign [.Name "word" p1] c1 p2,
      .Assign [.Name "kind" p9] (.IfExp (.Compare (.Name "word" p3) [.In] [.Name "OWN_WORDS" p4] p5) (.Name "OWN_WORD" p6) (.Name "LETTERS_WORD" p7) p8) q1,
      .Return (some (.Call (.Name "Token" q2) [.Name "kind" q3, .Name "word" q4, .Name "at" q5, .Name "end" q6] [] pos)) q7] (nWord C te ia ib ws kA kB) := ⟨fun pins s σ n H D hn I h => by
  refine wpAny_execs_cons (wpAny_Assign_Name (thn (h1.run pins s σ n H _ hn I h) fun u1 s1 ⟨v1, H1, m1, I1, r1, hn1, z, va, vb, ev, hva, hvb, q⟩ => ?_) hs)
  subst ev
  have li : i < σ.length := by rw [I1.len]; exact (List.getElem?_eq_some_iff.mp hi).1
  have ll : l < σ.length := by rw [I1.len]; exact (List.getElem?_eq_some_iff.mp hl).1
  refine store_raw I1 hN hi ki r1 fun s2 t2 I2 raw2 _ => ?_
  have hσi : (σ.set i (some (V.str z)))[i]? = some (some (V.str z)) := List.getElem?_set_self li
  obtain ⟨uA, gmA, rA⟩ := mA
  obtain ⟨uB, gmB, rB⟩ := mB
  -- kind = ..
  refine wpAny_execs_cons (wpAny_Assign_Name (wpAny_IfExp (wpAny_isTrue_Compare1 (load_raw I2 hi ki hσi raw2 fun _ => ld_glob I2 gT mT ?_) hm)) hs2)
  obtain ⟨its, rv, pl, hz⟩ := I2.tuple (sT H1)
  refine SeqAt.in_tupleAt (eqU (V.str z)) pl (fun w hw => mem_eqAt r1 rfl rv fl w (by simpa using hw)) (wpAny_truthy_bool ?_)
  rw [show its.toArray.any (eqU (V.str z)) = its.any (eqU (V.str z)) by simp, any_eqU rv fl]
  have tail : ∀ (kv : V) (ku : Value), RelV kv ku → (kv = if inV (V.str z) ws = true then kA else kB) →
      wpAny (model X.prog X.w) X.A (storeName X.env "kind" ku) (fun _ s' => wpAny (model X.prog X.w) X.A (execs [.Return (some (.Call (.Name "Token" q2) [.Name "kind" q3, .Name "word" q4, .Name "at" q5, .Name "end" q6] [] pos)) q7] X.env) (SPN X pins D) X.xe s') X.xe s2 := fun kv ku rk ek => by
    refine store_raw I2 hN hl kl rk fun s3 t3 I3 raw3 keep => ?_
    have raw3w : Holds X s3 "word" u1 := keep _ _ (by decide +kernel) raw2
    have e1 : ((σ.set i (some (V.str z))).set l (some kv))[l]? = some (some kv) := List.getElem?_set_self (by rw [List.length_set]; exact ll)
    have e2 : ((σ.set i (some (V.str z))).set l (some kv))[i]? = some (some (V.str z)) := by rw [List.getElem?_set_ne n3]; exact hσi
    have e3 : ((σ.set i (some (V.str z))).set l (some kv))[ia]? = some (some va) := by rw [List.getElem?_set_ne n4, List.getElem?_set_ne n1]; exact hva
    have e4 : ((σ.set i (some (V.str z))).set l (some kv))[ib]? = some (some vb) := by rw [List.getElem?_set_ne n5, List.getElem?_set_ne n2]; exact hvb
    obtain ⟨ua, ra, hua⟩ := holds_of I3 ha ka e3
    obtain ⟨ub, rb, hub⟩ := holds_of I3 hb kb e4
    have hn3 : m1 ≤ s3.toks := Nat.le_trans hn1 (Nat.le_trans t2 t3)
    refine wpAny_execs_cons (wpAny_Return_some (wpAny_Call_Name_kw (ld_glob I3 gC T.g ?_ (by decide))))
    obtain ⟨fi, fd, M, _⟩ := T.make
    refine PySem.W.callWith_K (h₀ := X.base) I3.ok.mod.kin M.kp ?_ (by rw [he]; rfl) hpl
    rw [he]
    refine Calls.spliced_cons (load_raw I3 hl kl e1 raw3 fun _ => ?_)
    refine Calls.spliced_cons (load_raw I3 hi ki e2 raw3w fun _ => ?_)
    refine Calls.spliced_cons (load_raw I3 ha ka e3 hua fun _ => ?_)
    refine Calls.spliced_cons (load_raw I3 hb kb e4 hub fun _ => Calls.spliced_nil ?_)
    refine ⟨I3.kIn, ?_⟩
    refine past hn3 (run_tok (Q := fun u s' => ∃ a H2, u = .ref a ∧ Inv X pins _ H2 s' ∧ D.rt (.ref a) m1 (.ref a) H2) T hr I3 (.cons rk (.cons r1 (.cons ra (.cons rb .nil)))) fun a H2 s' sm na st J => ⟨a, H2, rfl, J, q a H2 sm na (by rw [← ek]; exact st)⟩) fun u s4 hn4 ⟨a, H2, eu, J, q2⟩ => by
      subst eu
      exact ⟨V.ref a, _, H2, m1, J, rfl, hn4, q2⟩
  split
  · rename_i hin
    have hin' : inV (V.str z) ws = true := hin
    exact ld_glob I2 gA gmA (tail kA uA rA (by rw [if_pos hin']))
  · rename_i hin
    have hin' : ¬ inV (V.str z) ws = true := hin
    exact ld_glob I2 gB gmB (tail kB uB rB (by rw [if_neg hin']))⟩
end
end LN

namespace LN
open PySem PySem.Spec PyProof.Rows L2
/-- a list as the machine has it -/
def lstO (us : List Value) (k : Nat) : Obj := { cls := .type "list", data := .seq us.toArray k }
section
variable {X : Cx} {pins : List (Addr × Obj)} {σ : L2.St} {H : Hp} {s : Shared}
/-- a tracked list, known from here on -/
theorem know_list {D : Addr} {us : List Value} {k : Nat} {xs : List V} (I : Inv X pins σ H s) (hD : H D = some (.lst xs)) (e : s.heap.get? D = some (lstO us k)) : Inv X pins σ (upd H D (.frz (lstO us k) (.lst xs))) s := by
  obtain ⟨od, J⟩ := I.lock hD True.intro
  obtain ⟨q, _⟩ : s.heap.get? D = some od ∧ _ := J.hok D _ upd_same
  rw [e] at q
  cases q
  exact J
/-- .. gets one more -/
theorem app_raw {E : Value → Shared → Prop} {D : Addr} {us : List Value} {k : Nat} {xs : List V} {y : V} {v : Value} {Q : Value → Shared → Prop} (I : Inv X pins σ H s)
    (hD : H D = some (.frz (lstO us k) (.lst xs))) (hn : ∀ o' u', X.H_0 D ≠ some (.frz o' u')) (hz : xs.length < sizeLine) (r : Vals xs us) (ry : RelV y v)
    (h : ∀ s', s'.toks = s.toks → Inv X pins σ (upd H D (.frz (lstO (us ++ [v]) (k + 1)) (.lst (xs ++ [y])))) s' → Q .none s') : wpAny (model X.prog X.w) X.A (call (.builtin "list.append") [.ref D, v]) Q E s := by
  obtain ⟨e, _⟩ : s.heap.get? D = some (lstO us k) ∧ _ := I.hok D _ hD
  have I1 := I.unlock hD hn
  have hl := r.length
  refine append_at (hsz := by rw [List.size_toArray]; omega) e fun h' sb ho => ?_
  have ho' : h'.get? D = some (lstO (us ++ [v]) (k + 1)) := by rw [ho]; simp [lstO]
  have I2 : Inv X pins σ (upd (upd H D (.lst xs)) D (.lst (xs ++ [y]))) { s with heap := h' } := I1.write (t' := s.toks) (by rw [upd_same]; trivial) (.inl rfl) (fun b u hb q => (sb.2 b hb).trans q) ⟨_, ho'⟩
    ⟨by rw [List.length_append]; exact hz, us ++ [v], k + 1, r.append (.cons ry .nil), ho'⟩
  rw [upd_upd] at I2
  have I3 := know_list I2 upd_same ho'
  rw [upd_upd] at I3
  exact h _ rfl I3
end
/-- the step from one turn to the next, and what is wanted at the end -/
def nLc (wi : TI) (g : TG) (te : TEN) (vs : List Nat) : TEN := fun σ n H Q => wi σ H fun J H1 => ∀ D, H1 D = none → ∃ W : Nat → Nat → Nat → Hp → Prop, (∃ m, W 0 m n (upd H1 D (.frz (lstO [] 0) (.lst [])))) ∧ ∀ i m n H, W i m n H →
  (J.stop i H ∧ Q (.ref D) n (.ref D) H) ∨ (J.go i H ∧ ∃ Nx : Nat → Hp → Prop, (∀ n' H', Nx n' H' → ∃ m', m' < m ∧ W (i + 1) m' n' H') ∧ ∀ x H', J.yld i H x H' → g x (wipe σ vs) H' fun σ2 H2 => wipe σ2 vs = wipe σ vs ∧
    te σ2 n H2 fun u n3 y H4 => ∃ us k acc, H4 D = some (.frz (lstO us k) (.lst acc)) ∧ Vals acc us ∧ acc.length < sizeLine ∧ Nx n3 (upd H4 D (.frz (lstO (us ++ [u]) (k + 1)) (.lst (acc ++ [y])))))
section
variable {X : Cx} {elt tg iter : Expr} {scope : Scope} {own : List (Str × Nat)} {pos : Pos} {wi : TI} {g : TG} {te : TEN}
theorem pen_lc (hc : X.calm = true) (hN : X.N.Nodup) (hi : PI X tg iter wi) (ok : BlkOk X.N X.env.scope scope own)
    (hg : ∀ (s : Shared) (H : Hp) (C : Addr) (cl : List (Str × Addr)) (fp : List Addr), PG (X.blk s H scope (compEnvC scope cl C X.env) fp) tg g)
    (he : ∀ (s : Shared) (H : Hp) (C : Addr) (cl : List (Str × Addr)) (fp : List Addr), PEN (X.blk s H scope (compEnvC scope cl C X.env) fp) elt te) (hs : ∀ x, foldedSetIterable iter X.env x = pure x := by intro _; rfl) :
    PEN X (.ListComp elt [⟨tg, iter, [], 0⟩] scope pos) (nLc wi g te (own.map (·.2))) := ⟨fun pins s σ n H Q hn I h => by
  rw [eval_ListComp]
  have known : ∀ y ∈ scope.names, y.2 = .free → ∃ c, X.env.cells.lookup y.1 = some c := by
    intro y hy e
    exact (ok.free y hy e).elim (fun k => I.ok.has _ (.inl k)) (fun k => I.ok.has _ (.inr k))
  refine wpAny_comprehension_free (use := none) rfl hs (closure_ok known) ok.kind (fun y hy e => by rw [ok.uniq y hy, e])
    (past hn (hi.run pins s σ H _ I h) fun xv s1 hn1 hx => past hn1 hx fun itv s2 hn2 h2 => ?_)
  obtain ⟨it, fp, tn, J, H2, e, I2, T, st2, f2, q⟩ := h2
  subst e
  refine wpAny_newObj_type (newEnv_comp ?_) (by show 0 ≤ sizeLine; decide)
  obtain ⟨D, hD⟩ : ∃ D, D = s2.heap.objs.size := ⟨_, rfl⟩
  rw [← hD]
  have freshD : H2 D = none := I2.hok.fresh (Nat.le_of_eq hD.symm)
  obtain ⟨W, ⟨m0, w0⟩, turn⟩ := q D freshD
  obtain ⟨s3, hs3⟩ : ∃ s3 : Shared, s3 = { s2 with heap := s2.heap.push { cls := .type "list", data := .seq ([] : List Value).toArray } } := ⟨_, rfl⟩
  have gD : s3.heap.get? D = some (lstO [] 0) := by rw [hs3, hD]; exact Heap.get?_push_size _ rfl
  have h3 : s3.heap = s2.heap.push { cls := .type "list", data := .seq ([] : List Value).toArray } := by rw [hs3]
  have hn3 : n ≤ s3.toks := by rw [hs3]; exact hn2
  have I3 : Inv X pins σ (upd H2 D (.lst [])) s3 := by
    rw [hs3]
    exact I2.laid (t' := s2.toks) (fun b o e => Heap.get?_push_of_some _ e) (Nat.le_of_eq hD.symm) ⟨Nat.zero_le _, [], 0, .nil, by rw [← h3]; exact gD⟩
  have below : ∀ b ∈ fp, b < s2.heap.objs.size := fun b hb => let ⟨o, e, _⟩ := T.obj _ _ st2 b hb; Heap.lt_size e
  have f3 : ∀ b ∈ fp, FpOk X pins (upd H2 D (.lst [])) b ∧ b < s3.heap.objs.size := by
    intro b hb
    have lt := below b hb
    constructor
    · refine ⟨?_, (f2 b hb).2⟩
      rw [upd_ne (by rw [hD]; exact Nat.ne_of_lt lt)]
      exact (f2 b hb).1
    · rw [h3, Heap.size_push]; exact Nat.lt_succ_of_lt lt
  have st3 : tn 0 s3.heap := T.keep _ _ _ st2 fun b _ o e => by rw [h3]; exact Heap.get?_push_of_some _ e
  have I4 := block_start I3 ok hN f3
  rw [← hs3]
  show codeAny _ _ (.compStart (.ListComp elt [⟨tg, iter, [], 0⟩] scope pos) 0 (.ref it) (.ref D) (compEnvC scope (cellsFrom (s3.heap.objs.size + 1) scope.names (cloFrom X.env.cells scope.names [])) s3.heap.objs.size X.env)) (compPost (model X.prog X.w) X.A X.xe none (EPN X pins σ Q) (.ref D) s3.heap.objs.size) { s3 with heap := pushCells (s3.heap.push { cls := .type "dict", data := .dict #[] }) scope.names }
  have pg := hg s3 (upd H2 D (.lst [])) s3.heap.objs.size (cellsFrom (s3.heap.objs.size + 1) scope.names (cloFrom X.env.cells scope.names [])) fp
  have pe := he s3 (upd H2 D (.lst [])) s3.heap.objs.size (cellsFrom (s3.heap.objs.size + 1) scope.names (cloFrom X.env.cells scope.names [])) fp
  obtain ⟨ce, hce⟩ : ∃ ce, ce = compEnvC scope (cellsFrom (s3.heap.objs.size + 1) scope.names (cloFrom X.env.cells scope.names [])) s3.heap.objs.size X.env := ⟨_, rfl⟩
  rw [← hce] at I4 pg pe ⊢
  have cL : ce.locals = s3.heap.objs.size := by rw [hce]; rfl
  obtain ⟨H3, hH3⟩ : ∃ H3, H3 = upd H2 D (.lst []) := ⟨_, rfl⟩
  have notD : ∀ b ∈ fp, b ≠ D := fun b hb => by rw [hD]; exact Nat.ne_of_lt (below b hb)
  have nofrz : ∀ o' u', (X.blk s3 H3 scope ce fp).H_0 D ≠ some (.frz o' u') := fun o' u' e => by
    have e : H3 D = some (.frz o' u') := e
    rw [hH3, upd_same] at e; cases e
  rw [← hH3] at I3 I4 pg pe f3
  obtain ⟨s4, hs4⟩ : ∃ s4 : Shared, s4 = { s3 with heap := pushCells (s3.heap.push { cls := .type "dict", data := .dict #[] }) scope.names } := ⟨_, rfl⟩
  have kp4 : ∀ b o, s3.heap.get? b = some o → s4.heap.get? b = some o := fun b o e => by rw [hs4]; exact pushCells_keeps _ _ _ _ (Heap.get?_push_of_some _ e)
  rw [← hs4] at I4 ⊢
  have hn4 : n ≤ s4.toks := by rw [hs4]; exact hn3
  have st4 : tn 0 s4.heap := T.keep _ _ _ st3 fun b _ o e => kp4 b o e
  have I5 := know_list I4 (by rw [hH3]; exact upd_same) (kp4 _ _ gD)
  have w5 : W 0 m0 n (upd H3 D (.frz (lstO [] 0) (.lst []))) := by rw [hH3, upd_upd]; exact w0
  have n5 : ∀ b ∈ fp, (upd H3 D (.frz (lstO [] 0) (.lst []))) b = none := fun b hb => by rw [upd_ne (notD b hb)]; exact (f3 b hb).1.1
  have stat : ∀ {σ' : L2.St} {H' : Hp} {s' : Shared}, Inv (X.blk s3 H3 scope ce fp) [] σ' H' s' → (∀ b ∈ fp, H' b = none) → ∀ b ∈ fp, FpOk (X.blk s3 H3 scope ce fp) [] H' b := by
    intro σ' H' s' I' nb b hb
    exact ⟨nb b hb, (I'.ok.exf b hb).1, I'.ok.exfs b hb, .inl hb, fun x c e => (I'.ok.exf b hb).2 x c e, fun p hp => absurd (show p ∈ ([] : List (Addr × Obj)) ++ [] from hp) (by simp)⟩
  have loop : codeAny (model X.prog X.w) X.A (.compLoop (.ListComp elt [⟨tg, iter, [], 0⟩] scope pos) 0 (.ref it) (.ref D) ce) (compPost (model X.prog X.w) X.A X.xe none (EPN X pins σ Q) (.ref D) s3.heap.objs.size) s4 := by
    refine compLoop_any (fun m s' => ∃ i n' H', Inv (X.blk s3 H3 scope ce fp) [] (wipe σ (own.map (·.2))) H' s' ∧ n' ≤ s'.toks ∧ tn i s'.heap ∧ (∀ b ∈ fp, H' b = none) ∧ W i m n' H') ?_ m0 ⟨0, n, _, I5, hn4, st4, n5, w5⟩
    rintro m s5 ⟨i, n6, H6, I6, hn6, st6, fr6, w6⟩
    rcases turn i m n6 H6 w6 with ⟨stop, qq⟩ | ⟨go, Nx, hNx, step⟩
    · refine past hn6 (thnF (T.done (X.blk s3 H3 scope ce fp) rfl rfl rfl hc i [] s5 _ H6 (fun _ _ => False) I6 (stat I6 fr6) st6 stop) fun r s7 z => z) fun r s7 hn7 ⟨hr, I7⟩ => ?_
      subst hr
      have back : Inv X pins σ H6 s7 := I3.call' (ch := fp) I7.os I7.base I7.hok I7.bare fun b hb => ⟨(f3 b hb).1.2.2.2.1, (f3 b hb).1.2.1, (f3 b hb).1.2.2.2.2.1, (f3 b hb).1.2.2.2.2.2⟩
      have nC : H6 s3.heap.objs.size = none := by rw [← cL]; exact I7.free
      obtain ⟨mm, hmm, _⟩ := I7.loc
      refine ⟨mm, by rw [← cL]; exact hmm, fun h'' sb => ?_⟩
      obtain ⟨f0, f1, f2, f3', f4, f5⟩ := I3.fpOk (Nat.le_refl _) nC
      exact ⟨.ref D, H6, n6, back.turned (t' := s7.toks) (fun b o hb e => (sb.2 b hb).trans e) f0 f1 f3' f4 f5, rfl, hn7, qq⟩
    · refine past hn6 (thnF (T.item (X.blk s3 H3 scope ce fp) rfl rfl rfl hc i [] s5 _ H6 (fun _ _ => False) I6 (stat I6 fr6) st6 go) fun r s7 z => z) fun r s7 hn7 ⟨u, hr, h7⟩ => ?_
      subst hr
      refine past hn7 (thnF h7 fun _ s8 z => z) fun _ s8 hn8 ⟨x, H8, I8, r8, y8, st8, fr8⟩ => ?_
      have I8' := I8.pinned (stat I8 fr8) (T.obj _ _ st8)
      refine past hn8 (thnF (pg.run _ s8 _ H8 x u _ I8' r8 (step x H8 y8)) fun _ s9 z => z) fun _ s9 hn9 ⟨σ9, H9, I9, hw9, q9⟩ => ?_
      refine wpAny_tests_nil ?_
      rw [if_pos rfl]
      refine thnF (pe.run _ s9 σ9 n6 H9 _ hn9 I9 q9) fun z s10 ⟨yv, H10, n10, I10, r10, hn10, us, k, acc, hD10, rv, hz, nx⟩ => ?_
      refine app_raw (X := X.blk s3 H3 scope ce fp) I10 hD10 nofrz hz rv r10 fun s11 t11 I11 => ?_
      obtain ⟨m', hm', w'⟩ := hNx _ _ nx
      have pin' : ∀ b ∈ fp, ∀ o, s8.heap.get? b = some o → s11.heap.get? b = some o ∧ (upd H10 D (.frz (lstO (us ++ [z]) (k + 1)) (.lst (acc ++ [yv])))) b = none := fun b hb o e =>
        have t := I11.pin (b, o) (List.mem_append_right _ (List.mem_append_right _ (mem_pinsAt hb e)))
        ⟨t.1, t.2.1⟩
      have hl : (wipe σ (own.map (·.2))).length = σ9.length := by rw [← hw9, wipe_length]
      refine ⟨m', hm', i + 1, n10, _, (I11.unpinned (pins := [])).weak hl (fun j v e => ?_), by rw [t11]; exact hn10, T.keep _ _ _ st8 fun b hb o e => (pin' b hb o e).1, fun b hb => ?_, w'⟩
      · rw [← hw9] at e
        exact (wipe_some e).1
      · obtain ⟨o, e, _⟩ := T.obj _ _ st8 b hb
        exact (pin' b hb o e).2
  exact codeAny_compStart_list loop (T.self X.A 0 _ _ _ st4 loop)⟩
end
end LN

namespace LN
open PySem PySem.Spec PyProof.Rows L2
section
variable {X : Cx} {a b e : Expr} {ta tb : TE} {te : TEN} {pos apos : Pos}
/-- s[i], the sign with its token -/
def nSign (ta tb : TE) : TEN := fun σ n H Q => ta σ H fun x H1 => tb σ H1 fun y H2 => ∃ z i c, x = .str z ∧ y = .int i ∧ 0 ≤ i ∧ i < 2 ^ 63 ∧ i < z.length ∧ z.cps[i.toNat]? = some c ∧
  ∀ t, n ≤ t → Q (.str ⟨#[c]⟩ t) (t + 1) (.str ⟨#[c]⟩) H2
theorem pen_sign (ha : PE X a ta) (hb : PE X b tb) (hs : PlainIxT b) : PEN X (.Subscript a b pos) (nSign ta tb) := ⟨fun pins s σ n H Q hn I h => by
  refine Subscript_ (past hn (ha.run pins s σ H _ I h) fun v s1 hn1 ⟨x, H1, I1, rx, q1⟩ => past hn1 (hb.run pins s1 σ H1 _ I1 q1) fun u s2 hn2 ⟨y, H2, I2, ry, q⟩ => ?_)
  obtain ⟨z, i, c, rfl, rfl, h0, h63, h1, hc, q⟩ := q
  obtain ⟨t, rfl⟩ := rx
  obtain ⟨t', rfl⟩ := ry
  have e : seqIndex? i z.length = some i.toNat := PySem.StrLaws.seqIndex_nonneg h0 h1
  have b1 : (decide (i < -(2 ^ 63 : Int)) || decide (i ≥ 2 ^ 63)) = false := by
    rw [decide_eq_false (by omega), decide_eq_false (by omega)]; rfl
  exact tail_any (typeIs_str s2 z t) slot_str_getitem.lookup (getItem_str (c := c) b1 (by rw [e]; exact hc) ⟨.str ⟨#[c]⟩, H2, s2.toks + 1, I2.tok _, ⟨_, rfl⟩, Nat.le_refl _, q _ hn2⟩) (hs _ _)⟩
/-- "".join(e), e a new list that is known -/
def nJoin (sep : Str) (te : TEN) : TEN := fun σ n H Q => te σ n H fun _ n1 v H1 => ∃ D l k, v = .ref D ∧ H1 D = some (.frz (lstO (strValues l) k) (.lst ((l.map (·.1)).map V.str))) ∧
  ((l.map (·.1)).map (·.length)).sum + (l.map (·.1)).length * sep.length ≤ 16777216 ∧ (∀ p, l = [p] → Q (.str (Txt.join sep [p.1]) p.2) n1 (.str (Txt.join sep [p.1])) H1) ∧
  (l.length ≠ 1 → ∀ t, n1 ≤ t → Q (.str (Txt.join sep (l.map (·.1))) t) (t + 1) (.str (Txt.join sep (l.map (·.1)))) H1)
theorem pen_join {sep : Str} {j : Nat} {cp : Pos} (he : PEN X e te) (hs : starEach [e] X.env = [(false, eval e X.env)] := by rfl)
    (hbase : attributeBase (.Constant (.str sep) j cp) "join" X.env (eval (.Constant (.str sep) j cp) X.env) = eval (.Constant (.str sep) j cp) X.env := by rfl) (hline : (apos.endLine == pos.line) = true := by rfl) :
    PEN X (.Call (.Attribute (.Constant (.str sep) j cp) "join" apos) [e] [] pos) (nJoin sep te) := ⟨fun pins s σ n H Q hn I h => by
  refine PySem.Call_method1 hbase hs hline (Calls.Constant_str ?_)
  have I0 := I.tok (s.toks + 1)
  refine ⟨"str", _, F.plainAttrs_str, F.slot_str_join, F.type_str_join, typeIs_str _ _ _, (fun _ e => nomatch e), Calls.callWith_builtin rfl (Calls.evalArgs_plain (Calls.spliced_cons ?_))⟩
  refine thn (he.run pins _ σ n H _ (Nat.le_succ_of_le hn) I0 h) fun u s2 ⟨v, H2, n2, I2, r2, hn2, D, l, k, ev, hD, hz, q1, q2⟩ => Calls.spliced_nil ?_
  subst ev
  cases r2
  obtain ⟨ho, _⟩ : s2.heap.get? D = some (lstO (strValues l) k) ∧ _ := I2.hok D _ hD
  have hl : s2.heap.IsList D (strValues l).toArray := ⟨_, ho, rfl, k, rfl⟩
  have hok := joinOk_of hz
  unfold JoinOk at hok
  rw [Bool.not_eq_true'] at hok
  refine call_meets F.slot_str_join (typeIs_str _ _ _) F.entry_str_join (F.args_str_join_2 _ _) (meets_str_join_list sep _ D l hok) ⟨hl, ?_⟩
  have fits := joinFit_length hok
  match l, fits, q1, q2 with
  | [], fits, _, q2 => exact ⟨fits, ⟨V.str (Txt.join sep []), H2, s2.toks + 1, I2.tok _, ⟨_, rfl⟩, Nat.le_refl _, q2 (by simp) _ hn2⟩⟩
  | [p], _, q1, _ => exact ⟨V.str (Txt.join sep [p.1]), H2, n2, I2.tok _, ⟨_, rfl⟩, hn2, q1 p rfl⟩
  | p :: p2 :: l, fits, _, q2 => exact ⟨fits, ⟨V.str (Txt.join sep ((p :: p2 :: l).map (·.1))), H2, s2.toks + 1, I2.tok _, ⟨_, rfl⟩, Nat.le_refl _, q2 (by simp) _ hn2⟩⟩⟩
end
end LN

namespace LD
open PySem PySem.Spec PyProof.Rows L2 LN
open VasedBase (Bytes)
/-! ### texts that are joined -/
def jn (sep : Bytes) : List Bytes → Bytes
  | [] => []
  | [x] => x
  | x :: y :: r => x ++ sep ++ jn sep (y :: r)
theorem bN_append (a b : Bytes) : bN (a ++ b) = bN a ++ bN b := by unfold bN; rw [List.map_append]
theorem bS_append (a b : Bytes) : bS a ++ bS b = bS (a ++ b) := by
  show (⟨(bN a).toArray ++ (bN b).toArray⟩ : Str) = ⟨(bN (a ++ b)).toArray⟩
  rw [bN_append]
  simp
theorem join_bS (sep : Bytes) : ∀ ws : List Bytes, Txt.join (bS sep) (ws.map bS) = bS (jn sep ws) := by
  intro ws
  show Builtin.Str.glued _ _ = _
  rw [StrLaws.glued_eq_join]
  induction ws with
  | nil => rfl
  | cons x r ih =>
    cases r with
    | nil => rfl
    | cons y r =>
      show bS x ++ bS sep ++ Str.join (bS sep) ((y :: r).map bS) = bS (x ++ sep ++ jn sep (y :: r))
      rw [ih, bS_append, bS_append]
theorem bS_nil : ("" : Str) = bS [] := by decide +kernel
theorem jn_nil : ∀ ws : List Bytes, jn [] ws = ws.flatten
  | [] => rfl
  | [x] => by simp [jn]
  | x :: y :: r => by
    show x ++ [] ++ jn [] (y :: r) = x ++ (y :: r).flatten
    rw [jn_nil (y :: r)]; simp
theorem join_empty (ws : List Bytes) : Txt.join "" (ws.map bS) = bS ws.flatten := by rw [bS_nil, join_bS, jn_nil]
theorem bS_one (c : UInt8) : (⟨#[c.toNat]⟩ : Str) = bS [c] := rfl
theorem letter_at (c : UInt8) (h : VasedBase.isLetter c = true) : ("abcdefghijklmnopqrstuvwxyz" : Str).cps[((c.toNat : Int) - 97).toNat]? = some c.toNat ∧ 0 ≤ (c.toNat : Int) - 97 ∧ (c.toNat : Int) - 97 < (("abcdefghijklmnopqrstuvwxyz" : Str).length : Int) := by
  unfold VasedBase.isLetter at h
  have h' := of_decide_eq_true h
  have e : (("abcdefghijklmnopqrstuvwxyz" : Str).length : Int) = 26 := by decide +kernel
  refine ⟨?_, by omega, by rw [e]; omega⟩
  have all : ∀ k : Fin 26, ("abcdefghijklmnopqrstuvwxyz" : Str).cps[k.val]? = some (k.val + 97) := by decide +kernel
  have hk : ((c.toNat : Int) - 97).toNat < 26 := by omega
  have := all ⟨_, hk⟩
  rw [this]
  congr 1
  show ((c.toNat : Int) - 97).toNat + 97 = c.toNat
  omega
abbrev s_letters_of : Stmt := top 13
section
variable {P : Program} {w : World} {K : PySem.W.Frag} {mg : Str → Option Value} {base : Heap}
/-- so told: the text's token is new -/
def sp_letters_of (K : PySem.W.Frag) : SpN := fun vs n H Q _ => ∃ (a : Addr) (b : Bytes), vs = [.ref a] ∧ SqL K H a (bV b) ∧ (∀ c ∈ b, VasedBase.isLetter c = true) ∧ b.length ≤ 8192 ∧
  ∀ H' t n', Same H H' → n ≤ t → t < n' → Q (.str (bS b) t) n' (.str (bS b)) H'
theorem sc_letters_of : FnScope ["row", "byte"] ["row"] (defScope s_letters_of) := ⟨rfl, rfl, rfl, by decide +kernel, rfl, by decide +kernel, by decide +kernel⟩
/-- a def whose promise is so told -/
def GdN (P : Program) (w : World) (K : PySem.W.Frag) (mg : Str → Option Value) (base : Heap) (CX : CXT) (k : Nat) (x : Str) (ps : List Str) (sp : SpN) : Prop :=
  ∃ f fd, mg x = some (.ref f) ∧ PySem.W.keepIn K (.ref f) = true ∧ Binds K fd ps [] ∧ FnN P w K mg base CX k f fd ps sp
theorem GdN.plain {CX : CXT} {k : Nat} {x : Str} {ps : List Str} {sp : SpN} (G : GdN P w K mg base CX k x ps sp) : Gd P w K mg base CX k x ps (plainSp sp) := by
  obtain ⟨f, fd, a, b, c, d⟩ := G
  exact ⟨f, fd, a, b, c, d.plain⟩
theorem flatten_one (l : Bytes) : (l.map fun c => [c]).flatten = l := by
  induction l with
  | nil => rfl
  | cons a r ih => simp [ih]
theorem sum_ones : ∀ l : Bytes, ((l.map fun c => bS [c]).map (·.length)).sum = l.length
  | [] => rfl
  | c :: r => by
    rw [List.map_cons, List.map_cons, List.sum_cons, sum_ones r, bS_length, List.length_cons, List.length_cons, List.length_nil]
    omega
theorem g_letters_of (D : Dn K mg "letters_of" s_letters_of) (T : Txt K mg) : GdN P w K mg base CX0 5 "letters_of" ["row"] (sp_letters_of K) := by
  obtain ⟨f, fd, m, F⟩ := D
  refine ⟨f, fd, m, F.kp, F.binds (fun _ _ _ _ _ _ us hl => match us, hl with | [_], _ => rfl), fnN_of F sc_letters_of (fun vs n H Q E h => ?_) (fun cdv A outer s n H vs Q E hr h => ?_)⟩
  · obtain ⟨a, b, rfl, _⟩ := h; rfl
  · refine ⟨_, pssn_one (psn_ret (pen_join (pen_lc (own := [("byte", 1)]) (g := gName 1) rfl sc_letters_of.nd (pi_list (pv 0)) (blkOk_by (N := ["row", "byte"]) (sc := defScope s_letters_of) (by decide +kernel)) (fun _ _ _ _ _ => pg_name (i := 1) sc_letters_of.nd rfl (Or.inl rfl))
      (fun _ _ _ _ _ => pen_sign (pe_k T.kLETTERS) (pe_op op_sub (pv 1) (pe_k T.kFIRST_LETTER)) (fun _ _ => rfl))))), ?_⟩
    obtain ⟨a, b, rfl, hS, hb, hl, q⟩ := h
    refine ⟨_, rfl, a, rfl, ⟨_, hS⟩, fun D hD => ⟨fun i m n' H' => m = b.length - i ∧ i ≤ b.length ∧ n ≤ n' ∧ Same H H' ∧ ∃ l k, H' D = some (.frz (lstO (strValues l) k) (.lst ((l.map (·.1)).map V.str))) ∧ l.map (·.1) = (b.take i).map (fun c => bS [c]) ∧ ∀ p ∈ l, n ≤ p.2 ∧ p.2 < n',
      ⟨_, rfl, Nat.zero_le _, Nat.le_refl _, same_new hD, [], 0, upd_same, by simp, by simp⟩, ?_⟩⟩
    rintro i mm n' H' ⟨rfl, hi, hn', sm, l, k, hk, hm, hp⟩
    by_cases c : i < b.length
    · obtain ⟨y, hy⟩ : ∃ y, b[i]? = some y := ⟨b[i], List.getElem?_eq_getElem c⟩
      refine .inr ⟨⟨_, _, sm.seq hS, bV_get hy⟩, fun n2 H2 => n ≤ n2 ∧ Same H H2 ∧ ∃ l k, H2 D = some (.frz (lstO (strValues l) k) (.lst ((l.map (·.1)).map V.str))) ∧ l.map (·.1) = (b.take (i + 1)).map (fun c => bS [c]) ∧ ∀ p ∈ l, n ≤ p.2 ∧ p.2 < n2,
        fun n2 H2 hh => ⟨b.length - (i + 1), by omega, rfl, c, hh⟩, fun x H2 hx => ?_⟩
      obtain ⟨rfl, hx⟩ := hx
      have hx := hx _ (sm.seq hS)
      rw [bV_get hy] at hx
      cases hx
      have L := hb y (List.mem_of_getElem? hy)
      obtain ⟨z1, z2, z3⟩ := letter_at y L
      have l26 : (("abcdefghijklmnopqrstuvwxyz" : Str).length : Int) = 26 := by decide +kernel
      refine ⟨rfl, _, rfl, _, _, rfl, rfl, _, _, _, rfl, rfl, z2, by omega, z3, z1, fun t ht => ?_⟩
      refine ⟨strValues l, k, (l.map (·.1)).map V.str, hk, ?_, ?_, by omega, ?_⟩
      · unfold strValues
        rw [List.map_map]
        have : ∀ l : List (Str × Tok), Vals (l.map (V.str ∘ fun p => p.1)) (l.map fun p => Value.str p.1 p.2) := by
          intro l
          induction l with
          | nil => exact .nil
          | cons p r ih => exact .cons ⟨_, rfl⟩ ih
        exact this l
      · have := congrArg List.length hm
        rw [List.length_map, List.length_map, List.length_take] at this
        rw [List.length_map, List.length_map, sizeLine_eq]
        omega
      · refine ⟨fun d o e => ?_, l ++ [(⟨#[y.toNat]⟩, t)], k + 1, ?_, ?_, ?_⟩
        · by_cases hd : d = D
          · subst hd
            rw [hD] at e; cases e
          · rw [upd_ne hd]; exact sm _ _ e
        · rw [upd_same]; simp [strValues]
        · rw [List.map_append, hm, List.take_add_one, hy]
          simp [bS_one]
        · intro p hp'
          rcases List.mem_append.mp hp' with h1 | h1
          · obtain ⟨a1, a2⟩ := hp p h1
            exact ⟨a1, Nat.lt_succ_of_lt (Nat.lt_of_lt_of_le a2 ht)⟩
          · have : p = (⟨#[y.toNat]⟩, t) := by simpa using h1
            subst this
            exact ⟨Nat.le_trans hn' ht, Nat.lt_succ_self t⟩
    · have hall : b.take i = b := List.take_of_length_le (by omega)
      rw [hall] at hm
      have hj : Txt.join "" (l.map (·.1)) = bS b := by
        have e : (b.map fun c => bS [c]) = (b.map fun c => [c]).map bS := by rw [List.map_map]; rfl
        rw [hm, e, join_empty, flatten_one]
      refine .inl ⟨⟨_, sm.seq hS, by rw [bV_length]; omega⟩, D, l, k, rfl, hk, ?_, fun p e => ?_, fun hne t ht => ?_⟩
      · have e0 : ("" : Str).length = 0 := by decide +kernel
        rw [hm, sum_ones, e0]
        omega
      · subst e
        obtain ⟨a1, a2⟩ := hp p List.mem_cons_self
        have hj' : Txt.join "" [p.1] = bS b := hj
        rw [hj']
        exact q H' p.2 n' sm a1 a2
      · rw [hj]
        exact q H' t (t + 1) sm (Nat.le_trans hn' ht) (Nat.lt_succ_self _)
end
end LD

namespace PySem
namespace FaX
open PySem.W PySem.Calls PyProof.Rows PySem.HandSPX
open Builtin Builtin.ObjectAttr in
section
abbrev eTail : List Value := [.type "Exception", .type "BaseException", .type "object"]
variable {prog : Program} {w : World} {A : Around} {R : Result → Shared → Prop} {hp : Heap} {g : Array GenState} {d : Drawn} {t : Nat} {os : OsState} {K : Frag} {name : Str} {tk : Tok} {v : Value} {x C dx : Addr} {fv : Array Value} {cd : ClassData} {od : Option Obj} {odx : Option Addr}
open Builtin Builtin.ObjectAttr
/-- x.name = v, x an exception of an own class right under Exception: up to the dict -/
theorem eE_core (X : K.In hp) (hx : hp.get? x = some { cls := .ref C, dict := odx, data := .fields fv }) (I : W.InstAt hp x { cls := .ref C, dict := odx, data := .fields fv } C od) (hcd : W.clsIn K C = some cd) (hm : cd.mro = .ref C :: eTail)
    (ha : W.findIn K (.ref C) name = some none)
    (hq : wpAny (model prog w) A.in1 (storeInOwnDict (.ref x) (.ref C) (.str name tk) name v false) (fun fin s' => match fin with | .done f => R (.ok f) s' | .again c' => c'.quiet = true ∧ codeAny (model prog w) A c' R s') (fun e s' => R (.error e) s') ⟨hp, g, d, t, os⟩) :
    codeAny (model prog w) A (.call (.builtin "object.__setattr__") ⟨[.ref x, .str name tk, v], []⟩) R ⟨hp, g, d, t, os⟩ := by
  have SF := F.store_object
  have hob : cd.mro.contains (.type "object") = true := by rw [hm, List.contains_cons]; exact (by rw [show eTail.contains (.type "object") = true from by decide +kernel, Bool.or_true])
  have sub : W.Looks (model prog w) hp (isInstance (.ref x) (.type "object")) true := I.type.andThen (W.looks_mroIn X (by unfold W.mroIn; rw [hcd, Option.bind_some, if_neg (by rw [hm]; exact Bool.false_ne_true), hob]))
  refine codeAny_call_builtin SF.slot.plain SF.entry (@W.check_slot (model prog w) _ _ ⟨hp, g, d, t, os⟩ "object.__setattr__" "object" "__setattr__" (.ref x) [.str name tk, v] [] _ SF.kind SF.split sub (SF.args (.ref x) (.str name tk) v) ?_)
  have chain : W.Looks (model prog w) hp (mroOf (.ref C)) cd.mro := (W.looks_clsIn X hcd).andThen .now
  have no : W.Looks (model prog w) hp (storeTaker? none) none := .now
  rw [W.osa_eq, refuse_eq]
  refine wpAny_bind (wpAny_bind (I.type.at (wpAny_bind (chain.at ?_))))
  rw [hm, refuseLoop_ref, F.store_Exception.passes]
  exact wpAny_pure (wpAny_bind (I.type.at (wpAny_bind ((W.looks_findIn X ha).at (wpAny_bind (no.at hq))))))
theorem eE_new (X : K.In hp) (hx : hp.get? x = some { cls := .ref C, data := .fields fv }) (hcd : W.clsIn K C = some cd) (hm : cd.mro = .ref C :: eTail) (hh : cd.hasDict = true) (ha : W.findIn K (.ref C) name = some none)
    (hq : ∀ h' tk' dx, (∀ b o, b ≠ x → hp.get? b = some o → h'.get? b = some o) → hp.objs.size ≤ dx → dx ≠ x → h'.get? x = some { cls := .ref C, dict := some dx, data := .fields fv } →
      h'.Ns1 dx (fun y => if y = name then some v else none) → R (.ok (.ret .none)) ⟨h', g, d, tk', os⟩) :
    codeAny (model prog w) A (.call (.builtin "object.__setattr__") ⟨[.ref x, .str name tk, v], []⟩) R ⟨hp, g, d, t, os⟩ := by
  have I : W.InstAt hp x { cls := .ref C, data := .fields fv } C none := ⟨hx, rfl, rfl, trivial⟩
  have hxs : x ≠ hp.objs.size := Nat.ne_of_lt (Heap.lt_size hx)
  have cls : W.Looks (model prog w) hp (classData C) cd := W.looks_clsIn X hcd
  refine eE_core X hx I hcd hm ha ?_
  obtain ⟨nm, bs, mro, ns, qn, hd, sn, sb, ab, col, del⟩ := cd
  dsimp only at hh
  subst hh
  unfold storeInOwnDict ownDictForStores
  repeat (first | with_reducible refine store_in_new ?_ ?_ | with_reducible refine wpAny_loadPart_at hx ?_ | with_reducible refine cls.at ?_ | wp_step)
  · exact ⟨_, #[], _, (Heap.get?_update_ne _ _ _ _ hxs.symm).trans (Heap.get?_push_at rfl rfl), rfl, fun e he => absurd he (by simp), fun _ => rfl⟩
  · intro h' tk' hn' hs
    refine hq h' tk' hp.objs.size (fun b o hb ho => ?_) (Nat.le_refl _) hxs.symm ?_ hn'
    · exact (hs.2 b (Nat.ne_of_lt (Heap.lt_size ho))).trans ((Heap.get?_update_ne _ _ _ _ hb).trans (Heap.get?_push_of_some _ ho))
    · exact (hs.2 x hxs).trans (Heap.get?_update_self _ (Heap.get?_push_of_some _ hx) rfl)
theorem eE_old {m0 : Str → Option Value} {nl : List Str} (X : K.In hp) (hx : hp.get? x = some { cls := .ref C, dict := some dx, data := .fields fv }) (hns : hp.Ns1 dx m0) (hw : Within m0 nl) (hz : nl.length ≤ 1000) (hcd : W.clsIn K C = some cd) (hm : cd.mro = .ref C :: eTail) (hh : cd.hasDict = true)
    (ha : W.findIn K (.ref C) name = some none)
    (hq : ∀ h' tk', (∀ b o, b ≠ dx → hp.get? b = some o → h'.get? b = some o) → h'.Ns1 dx (fun y => if y = name then some v else m0 y) → R (.ok (.ret .none)) ⟨h', g, d, tk', os⟩) :
    codeAny (model prog w) A (.call (.builtin "object.__setattr__") ⟨[.ref x, .str name tk, v], []⟩) R ⟨hp, g, d, t, os⟩ := by
  obtain ⟨oD, _, _, hoD, _, _⟩ := hns.count hw
  have I : W.InstAt hp x { cls := .ref C, dict := some dx, data := .fields fv } C (some oD) := ⟨hx, rfl, rfl, hoD⟩
  have cls : W.Looks (model prog w) hp (classData C) cd := W.looks_clsIn X hcd
  refine eE_core X hx I hcd hm ha ?_
  obtain ⟨nm, bs, mro, ns, qn, hd, sn, sb, ab, col, del⟩ := cd
  dsimp only at hh
  subst hh
  unfold storeInOwnDict ownDictForStores
  repeat (first | with_reducible refine OEX.store_in_old hns hw hz ?_ | with_reducible refine wpAny_loadPart_at hx ?_ | with_reducible refine cls.at ?_ | wp_step)
  intro h' tk' hn' hs
  exact hq h' tk' (fun b o hb ho => (hs.2 b hb).trans ho) hn'
end
abbrev s_Fault_init : Stmt := L2.inClass (LD.top 1) 0
/-- what the written part says of Fault, at C, and of its __init__, at fI -/
structure FaTxt (K : Frag) (mg : Str → Option Value) (C fI : Addr) : Prop where
  gC : mg "Fault" = some (.ref C)
  cls : ∃ nm q N bs sn sub ab col dd k0 k1 k2 k3 k5, K.lookup C = some (excClassObj nm q C N bs eTail true sn sub ab col dd k0 k1 k2 k3 k5 "Exception.__new__")
  sa : findIn K (.ref C) "__setattr__" = some (some (.builtin "object.__setattr__"))
  ga : findIn K (.ref C) "__getattribute__" = some (some (.builtin "BaseException.__getattribute__"))
  gg : findIn K (.ref C) "__getattr__" = some none
  no1 : findIn K (.ref C) "code" = some none
  no2 : findIn K (.ref C) "place" = some none
  iC : findIn K (.ref C) "__init__" = some (some (.ref fI))
  tC : typeIn K (.ref fI) = some (.type "function")
  kC : keepIn K (.ref C) = true
  exC : subIn K (.ref C) (.type "BaseException") = some true
  tyC : typeIn K (.ref C) = some (.type "type")
  hdC : hasDictIn K C = true
  te : exmOne K (.ref C) (.ref C) = some true
  fn : ∃ fd, L2.Fun K "__init__" "Fault.__init__" s_Fault_init fI fd
theorem two_size (v u : Value) : [v, u].length ≤ sizeLine := by
  rw [sizeLine_eq]
  exact (by decide : 2 ≤ 16777216)
/-- what __init__ leaves of a fresh exception at x -/
structure InitEnd (h h' : Heap) (x C dx t1 : Addr) (v u : Value) : Prop where
  keep : ∀ b o, b ≠ x → h.get? b = some o → h'.get? b = some o
  obj : h'.get? x = some { cls := .ref C, dict := some dx, data := .fields #[.ref t1, .none, .none, .none, .bool false, .none] }
  dbig : h.objs.size ≤ dx
  dne : dx ≠ x
  ns : h'.Ns1 dx (fun y => if y = "place" then some u else if y = "code" then some v else none)
/-- a made Fault -/
structure Made2 (h h' : Heap) (e C d : Addr) (v u : Value) : Prop where
  keep : ∀ b o, h.get? b = some o → h'.get? b = some o
  new : h.objs.size ≤ e
  obj : ∃ oe vs, h'.get? e = some oe ∧ oe.cls = .ref C ∧ oe.dict = some d ∧ oe.data = .fields vs ∧ vs[1]? = some .none
  dbig : h.objs.size ≤ d
  dne : d ≠ e
  ns : h'.Ns1 d (fun y => if y = "place" then some u else if y = "code" then some v else none)
section
variable {prog : Program} {w : World} {A : Around} {E : Value → Shared → Prop} {R : Result → Shared → Prop} {s : Shared} {K : Frag} {mg : Str → Option Value} {C fI : Addr}
theorem fa_init (T : FaTxt K mg C fI) {x t0 : Addr} {v u : Value} (X : K.In s.heap) (hlim : s.heap.NoLimit) (hx : s.heap.get? x = some (excO C t0)) (hnx : K.lookup x = none) (hroom : A.depth < recursionLimit)
    (hq : ∀ h' tk dx, InitEnd s.heap h' x C dx t0 v u → R (.ok (.ret .none)) { s with heap := h', toks := tk }) :
    codeAny (model prog w) A (.call (.ref fI) ⟨[.ref x, v, u], []⟩) R s := by
  obtain ⟨fd, F⟩ := T.fn
  obtain ⟨oc, od, kV, doc, pm, an, cdv, ct, osl, rfl, lk, hcd⟩ := F.ex
  obtain ⟨nm, q, N, bs, sn, sub, ab, col, dd, k0, k1, k2, k3, k5, hC⟩ := T.cls
  have hcl : clsIn K C = some { name := nm, bases := bs, mro := .ref C :: eTail, ns := N, qualname := q, hasDict := true, slotNames := sn, subclasses := sub, abstract := ab, collection := col, hasDel := false } := by unfold clsIn; rw [hC] <;> rfl
  refine Att.call_fn (binds := [("self", .ref x), ("code", v), ("place", u)]) X hlim lk hcd hroom (BindsTo.of_eq (by first | rfl | with_unfolding_all rfl)) (by first | rfl | with_unfolding_all rfl) (fun s₁ IC => ?_) rfl rfl rfl
  obtain ⟨h₁, tk₁, rfl⟩ := IC.toInCall.same
  have k : ∀ b o, s.heap.get? b = some o → h₁.get? b = some o := IC.toInCall.keep
  have hn := IC.toInCall.ns
  have hxL : s.heap.objs.size ≠ x := Nat.ne_of_gt (Heap.lt_size hx)
  have X₁ : K.In h₁ := X.keeps k
  have hx₁ := k _ _ hx
  refine wpAny_execs_cons (plainObj_wpAny_Assign_Attribute ?_)
  refine LN.ldL (v := v) hn (by first | rfl | with_unfolding_all rfl) (LN.ldL (v := .ref x) hn (by first | rfl | with_unfolding_all rfl) ?_ rfl rfl (by decide)) rfl rfl (by decide)
  refine set_plain X₁ (ox := excO C t0) (od := none) ⟨hx₁, rfl, rfl, trivial⟩ T.sa ?_
  refine eE_new X₁ hx₁ hcl rfl rfl T.no1 (fun h₃ tk₃ dx k₃ dn dne hx₃ hn₃ => ?_)
  have z : s.heap.objs.size < h₁.objs.size := hn.lt
  have X₃ : K.In h₃ := fun b o e => k₃ b o (fun w => by rw [w, hnx] at e; cases e) (X₁ b o e)
  have hL₃ : h₃.Ns s.heap.objs.size _ := hn.at' fun o e => k₃ _ _ hxL e
  have hw : Within (fun y => if y = ("code" : Str) then some v else none) ["code"] := fun y hy => by
    by_cases e : y = ("code" : Str)
    · rw [e]; exact List.mem_cons_self
    · exact absurd (if_neg e) hy
  obtain ⟨oD, _, _, hoD, _, _⟩ := hn₃.count hw
  refine wpAny_execs_cons (plainObj_wpAny_Assign_Attribute ?_)
  refine LN.ldL (v := u) hL₃ (by first | rfl | with_unfolding_all rfl) (LN.ldL (v := .ref x) hL₃ (by first | rfl | with_unfolding_all rfl) ?_ rfl rfl (by decide)) rfl rfl (by decide)
  refine set_plain X₃ (ox := { cls := .ref C, dict := some dx, data := .fields #[.ref t0, .none, .none, .none, .bool false, .none] }) (od := some oD) ⟨hx₃, rfl, rfl, hoD⟩ T.sa ?_
  refine eE_old X₃ hx₃ hn₃ hw (by decide) hcl rfl rfl T.no2 (fun h₄ tk₄ k₄ hn₄ => ?_)
  refine wpAny_execs_nil (hq h₄ tk₄ dx ⟨fun b o hb e => ?_, k₄ _ _ (Ne.symm dne) hx₃, Nat.le_of_lt (Nat.lt_of_lt_of_le z dn), dne, hn₄⟩)
  exact k₄ b o (Nat.ne_of_lt (Nat.lt_of_lt_of_le (Heap.lt_size (k b o e)) dn)) (k₃ b o hb (k b o e))
theorem fa_made (T : FaTxt K mg C fI) {v u : Value} (X : K.In s.heap) (hlim : s.heap.NoLimit) (hroom : A.depth + 1 < recursionLimit)
    (hq : ∀ h' tk e d, Made2 s.heap h' e C d v u → R (.ok (.ret (.ref e))) { s with heap := h', toks := tk }) :
    codeAny (model prog w) A (.call (.ref C) ⟨[v, u], []⟩) R s := by
  obtain ⟨nm, q, N, bs, sn, sub, ab, col, dd, k0, k1, k2, k3, k5, hC⟩ := T.cls
  obtain ⟨hp, g, dr, tk, os⟩ := s
  have k : ∀ b o, hp.get? b = some o → ((hp.push (kdv_tup [v, u])).push (excO C hp.objs.size)).get? b = some o := fun b o e => Heap.get?_push_of_some _ (Heap.get?_push_of_some _ e)
  have hget : ((hp.push (kdv_tup [v, u])).push (excO C hp.objs.size)).get? (hp.objs.size + 1) = some (excO C hp.objs.size) := by heap_get
  have hnx : K.lookup (hp.objs.size + 1) = none := by
    cases e : K.lookup (hp.objs.size + 1) with
    | none => rfl
    | some o =>
      have z : hp.get? (hp.objs.size + 1) = some o := X _ _ e
      exact absurd (Nat.lt_of_succ_lt (Heap.lt_size z)) (Nat.lt_irrefl _)
  refine call_own F.excBase_Exception (fun X => rfl) (X _ _ hC) (looks_findIn X T.iC) (fun self => bind_fn X self T.tC) (two_size v u) ?_
  refine fa_init (s := ⟨(hp.push (kdv_tup [v, u])).push (excO C hp.objs.size), g, dr, tk, os⟩) T (X.keeps k) (hlim.keeps k) hget hnx ?_ fun h' tk' dx ⟨k', hx, dn, dne, hns⟩ => ?_
  · show A.depth + 1 < recursionLimit
    exact hroom
  · have old : ∀ b o, hp.get? b = some o → h'.get? b = some o := fun b o e => k' b o (Nat.ne_of_lt (Nat.lt_succ_of_lt (Heap.lt_size e))) (k b o e)
    have z : hp.objs.size + 1 + 1 ≤ dx := by
      first
        | (simpa only [Heap.size_push] using dn)
        | exact dn
        | (have q := dn; rw [Heap.size_push, Heap.size_push] at q; exact q)
    exact ⟨rfl, hq h' tk' (hp.objs.size + 1) dx ⟨old, Nat.le_succ _, ⟨_, _, hx, rfl, rfl, rfl, rfl⟩, Nat.le_trans (Nat.le_trans (Nat.le_succ _) (Nat.le_succ _)) z, dne, hns⟩⟩
end
end FaX
end PySem
namespace L2
open PySem PySem.Spec PyProof.Rows
/-- the fields of a fault -/
def faF (v u : V) : List (Str × V) := [("place", u), ("code", v)]
theorem relO_fa {v u : V} {v' u' : Value} (rv : RelV v v') (ru : RelV u u') (f : Str) : RelO (List.lookup f (faF v u)) (if f = "place" then some u' else if f = "code" then some v' else none) := by
  unfold faF
  rw [LN.lookup_if, LN.lookup_if]
  split
  · exact ru
  · split
    · exact rv
    · exact True.intro
section
variable {X : Cx} {C fI : Addr}
/-- Fault(code, place) -/
def tMkFa (C : Addr) (ta : TA) : St → Hp → XK → Prop := fun σ H Q => ta σ H fun vs H1 => ∃ v u, vs = [v, u] ∧ ∀ d, H1 d = none → Q (.ref C) (some d) (upd H1 d (.xd (faF v u)))
theorem pmk_fa {a : Expr} {es : List Expr} {ta : TA} {p pos : Pos} {k : Nat} (T : PySem.FaX.FaTxt X.K X.mg C fI) (hr : Room k X.A) (ha : PA X (a :: es) ta) (hg : Gl X "Fault" := by rfl)
    (he : starEach (a :: es) X.env = (false, eval a X.env) :: starEach es X.env := by rfl) (hpl : (backTo pos (starEach es X.env)).any (·.1) = false := by rfl) :
    PMk X (.Call (.Name "Fault" p) (a :: es) [] pos) (tMkFa C ta) := by
  intro pins s σ H Q I h
  refine wpAny_Call_Name_kw (ld_glob I hg T.gC ?_)
  refine PySem.W.callWith_K (h₀ := X.base) I.ok.mod.kin T.kC (thn (ha.run pos pins s σ H _ I h) fun us s1 hh => ?_) he hpl
  obtain ⟨vs, H1, I1, r1, v, u, ev, q1⟩ := hh
  subst ev
  refine ⟨I1.kIn, ?_⟩
  obtain ⟨v', u', rfl, rv, ru⟩ : ∃ v' u', us = [v', u'] ∧ RelV v v' ∧ RelV u u' := by
    cases r1 with
    | cons rv rn => cases rn with
      | cons ru rn => cases rn; exact ⟨_, _, rfl, rv, ru⟩
  · show wpAny _ _ (call (.ref C) [v', u']) _ _ _
    have hlim := I1.nolimit
    obtain ⟨hp, g, dr, tk, os⟩ := s1
    refine wpAny_call (PySem.FaX.fa_made T I1.kIn hlim (by have := hr.dp; omega) fun h' tk' e d M => ?_)
    show MkP X pins σ Q (.ref e) ⟨h', g, dr, tk', os⟩
    obtain ⟨oe, fv, hoe, hc, hd, hdat, h1⟩ := M.obj
    have hns := M.ns
    obtain ⟨G', g1, g2⟩ := restrict h' fun b => decide (b ≠ e)
    have gk : ∀ b, b ≠ e → G'.get? b = h'.get? b := fun b hb => g1 b (decide_eq_true hb)
    have ge : G'.get? e = none := g2 e (by simp)
    have old : ∀ b o, hp.get? b = some o → G'.get? b = some o := fun b o q => (gk b (Nat.ne_of_lt (Nat.lt_of_lt_of_le (Heap.lt_size q) M.new))).trans (M.keep b o q)
    have ob : ObjOk X.prog X.w (upd H1 d (.xd (faF v u))) G' d (.xd (faF v u)) :=
      ⟨_, hns.at (fun o q => (gk d M.dne).trans q), fun f => relO_fa rv ru f⟩
    have J : Inv X pins σ (upd H1 d (.xd (faF v u))) ⟨G', g, dr, tk', os⟩ := I1.laid (t' := tk') old M.dbig ob
    refine ⟨e, oe, fv, ⟨G', g, dr, tk', os⟩, _, .ref C, some d, rfl, J, fun b o q => ?_, ge, hoe, ⟨hc, hd⟩, hdat, h1, ?_, rfl, I1.bare, raises_own T.exC T.tyC, q1 d (I1.hok.fresh M.dbig)⟩
    · by_cases hb : b = e
      · have q' : G'.get? b = some o := q
        rw [hb, ge] at q'; cases q'
      · exact (gk b hb).symm.trans q
    · rw [upd_ne (Ne.symm M.dne)]
      exact I1.hok.fresh M.new
/-- raise Fault(code, place) -/
def tRaiseFa (C : Addr) (W : WX) (ta : TA) : TS := fun _ σ H => tMkFa C ta σ H fun cls d H' => W cls d σ H'
theorem ps_raiseFa {a : Expr} {es : List Expr} {ta : TA} {W : WX} {p pos pos2 : Pos} {k : Nat} (hc : X.calm = true) (T : PySem.FaX.FaTxt X.K X.mg C fI) (hr : Room k X.A) (tk : Takes X W) (ha : PA X (a :: es) ta) (hg : Gl X "Fault" := by rfl)
    (he : starEach (a :: es) X.env = (false, eval a X.env) :: starEach es X.env := by rfl) (hpl : (backTo pos (starEach es X.env)).any (·.1) = false := by rfl) :
    PS X (.Raise (some (.Call (.Name "Fault" p) (a :: es) [] pos)) none pos2) (tRaiseFa C W ta) := ps_raise hc tk (pmk_fa T hr ha hg he hpl)
end
end L2

namespace LD
open PySem PySem.Spec PyProof.Rows L2 LN
open VasedBase (Bytes)
/-- a fault that leaves: S says how the heap stands to the one at the call -/
def FE (C : Addr) (E : XK) (S : Hp → Prop) (code place : Nat) : Prop := ∀ d H', S H' → H' d = some (.xd (faF (.int code) (.int place))) → E (.ref C) (some d) H'
theorem cut_bV (b : Bytes) (i j : Nat) (h : i ≤ j) (hj : j ≤ b.length) : cutV (bV b) (some (i : Int)) (some (j : Int)) = bV ((b.drop i).take (j - i)) := by
  have e (k : Nat) (d : Nat) (hk : k ≤ b.length) : HT.sIx (bV b).length d (some (k : Int)) = k := by
    rw [bV_length, HT.sIx_nat]
    omega
  unfold cutV
  rw [e i 0 (by omega), e j _ hj]
  unfold bV bI
  simp [List.map_take, List.map_drop]
section
variable {P : Program} {w : World} {K : PySem.W.Frag} {mg : Str → Option Value} {base : Heap}
/-! ### numbers -/
theorem decimal_snoc (l : Bytes) (c : UInt8) : VasedBase.decimal (l ++ [c]) = 10 * VasedBase.decimal l + (c.toNat - 48) := by
  unfold VasedBase.decimal
  rw [List.foldl_append]
  rfl
theorem decimal_lt : ∀ (n : Nat) (l : Bytes), l.length = n → (∀ c ∈ l, VasedBase.isDigit c = true) → VasedBase.decimal l < 10 ^ n := by
  intro n
  induction n with
  | zero => intro l hl _; rw [List.length_eq_zero_iff.mp hl]; decide
  | succ n ih =>
    intro l hl hd
    obtain ⟨l', c, rfl⟩ : ∃ l' c, l = l' ++ [c] := ⟨l.dropLast, l.getLast (by intro z; rw [z] at hl; simp at hl), (List.dropLast_concat_getLast _).symm⟩
    have h1 := ih l' (by simpa using hl) fun c hc => hd c (List.mem_append_left _ hc)
    have h2 := hd c (List.mem_append_right _ List.mem_cons_self)
    unfold VasedBase.isDigit at h2
    have h2 := of_decide_eq_true h2
    rw [decimal_snoc, Nat.pow_succ]
    omega
def sp_number_of (K : PySem.W.Frag) : Sp := fun vs H Q _ => ∃ (a : Addr) (b : Bytes), vs = [.ref a] ∧ SqL K H a (bV b) ∧ (∀ c ∈ b, VasedBase.isDigit c = true) ∧ b.length ≤ 10 ∧ Q (.int (VasedBase.decimal b)) H
theorem sc_number_of : FnScope ["digits", "number", "digit"] ["digits"] (defScope s_number_of) := ⟨rfl, rfl, rfl, by decide +kernel, rfl, by decide +kernel, by decide +kernel⟩
theorem g_number_of (D : Dn K mg "number_of" s_number_of) (T : Txt K mg) : Gd P w K mg base CX0 5 "number_of" ["digits"] (sp_number_of K) := by
  obtain ⟨f, fd, m, F⟩ := D
  refine ⟨f, fd, m, F.kp, F.binds (fun _ _ _ _ _ _ us hl => match us, hl with | [_], _ => rfl), F.ok sc_number_of (fun vs H Q E h => ?_) (fun cdv A outer s H vs Q E hr h => ?_)⟩
  · obtain ⟨a, b, rfl, _⟩ := h; rfl
  · refine ⟨_, pss_cons (ps_set (i := 1) sc_number_of.nd rfl (.inl rfl) pe_int) (pss_cons (ps_for PassesOwn.never rfl (pi_list (pv 0)) (pg_name (i := 2) sc_number_of.nd rfl (Or.inl rfl))
      (pss_one (ps_set (i := 1) sc_number_of.nd rfl (.inl rfl) (pe_op op_sub (pe_op op_add (pe_op op_mul (pv 1) pe_int) (pv 2)) (pe_k T.kZERO))))) (pss_one (ps_ret (pv 1)))), ?_⟩
    obtain ⟨a, b, rfl, hS, hd, hl, q⟩ := h
    refine ⟨_, rfl, a, rfl, ⟨_, hS⟩, for_list (K := K) (a := a) (xs := bV b) (fun i σ H' => ∃ v : Option V, σ = [some (.ref a), some (.int (VasedBase.decimal (b.take i))), v] ∧ H' = H) ⟨none, rfl, rfl⟩ (fun i σ H' _ ⟨_, _, e⟩ => by rw [e]; exact hS) ?_ ?_⟩
    · rintro i y σ H' hi ⟨v, rfl, rfl⟩
      obtain ⟨c, hc, rfl⟩ := get_bV hi
      have hil := (List.getElem?_eq_some_iff.mp hc).1
      have hlt := decimal_lt i (b.take i) (by rw [List.length_take]; omega) fun c h => hd c (List.mem_of_mem_take h)
      have hlt2 : VasedBase.decimal (b.take i) < 10 ^ 10 := Nat.lt_of_lt_of_le hlt (Nat.pow_le_pow_right (by decide) (by omega))
      have hdc := hd c (List.mem_of_getElem? hc)
      unfold VasedBase.isDigit at hdc
      have hdc := of_decide_eq_true hdc
      refine ⟨_, rfl, _, _, rfl, rfl, .inl ⟨by omega, by omega⟩, _, rfl, _, _, rfl, rfl, _, _, rfl, rfl, some (.int (c.toNat : Int)), ?_, rfl⟩
      have e : b.take (i + 1) = b.take i ++ [c] := by rw [List.take_add_one, hc]; rfl
      rw [e, decimal_snoc]
      show [some (V.ref a), some (V.int ((VasedBase.decimal (b.take i) : Int) * 10 + (c.toNat : Int) - 48)), some (V.int (c.toNat : Int))] = _
      congr 3
      · congr 1; omega
    · rintro σ H' ⟨v, rfl, rfl⟩
      rw [bV_length, List.take_length]
      exact ⟨_, rfl, q⟩
/-! ### tokens -/
def kindV : VasedBase.Tok → V
  | .name b => if VasedBase.RESERVED.contains b = true then .str "own word" else .str "letters"
  | .num _ => .str "number"
  | .sign _ => .str "sign"
  | .last => .str "end"
def valV : VasedBase.Tok → V
  | .name b => .str (bS b)
  | .num n => .int n
  | .sign c => .str (bS [UInt8.ofNat c])
  | .last => .str ""
def TokAt (C : Addr) (H : Hp) (a : Addr) (t : VasedBase.PTok) (e : Nat) (u : Value) : Prop := Still C H a (tokF (kindV t.tok) (valV t.tok) (.int t.place) (.int e)) "value" u ∧ RelV (valV t.tok) u
theorem TokAt.same {C : Addr} {H H' : Hp} {a : Addr} {t : VasedBase.PTok} {e : Nat} {u : Value} (h : TokAt C H a t e u) (s : Same H H') : TokAt C H' a t e u := ⟨h.1.same s, h.2⟩
/-- what the machine's value of a new token is: new itself where it is letters -/
def NewTok (n : Nat) (u : Value) (n' : Nat) (t : VasedBase.Tok) : Prop := n ≤ n' ∧ ∀ w, t = .name w → ∃ tk : Tok, u = .str (bS w) tk ∧ n ≤ tk ∧ tk < n'

/-- the addresses of the classes -/
structure Ad where
  (tok rd cmd com line run desk call fa faI nS nT tM nL nO : Addr)
variable {A : Ad}
abbrev s_read_word : Stmt := top 38
abbrev s_read_number : Stmt := top 40
abbrev s_read_token : Stmt := top 37
abbrev s_read_tokens : Stmt := top 34
theorem same_xd {H H1 : Hp} {d : Addr} {o : HO} (s : Same H H1) (n : H1 d = none) : Same H (upd H1 d o) := s.trans (same_new n)
/-! ### a word -/
theorem run_letters {b : Bytes} {i : Nat} {c : UInt8} (h : b[i]? = some c) (hc : VasedBase.isLetter c = true) : VasedBase.token (b.drop i) = if 8 < runLen VasedBase.isLetter b i then none else some (.name ((b.drop i).takeWhile VasedBase.isLetter), runLen VasedBase.isLetter b i) := by
  rw [drop_cons h]
  unfold VasedBase.token
  simp only
  rw [if_pos hc, ← drop_cons h]
  rfl
def sp_read_word (K : PySem.W.Frag) (A : Ad) : SpN := fun vs n H Q E => ∃ (a : Addr) (b : Bytes) (i : Nat) (c : UInt8), vs = [.ref a, .int i] ∧ SqL K H a (bV b) ∧ b.length ≤ 4096 ∧ b[i]? = some c ∧ VasedBase.isLetter c = true ∧
  (VasedBase.token (b.drop i) = none → FE A.fa E (Same H) 2 i) ∧ (∀ t k, VasedBase.token (b.drop i) = some (t, k) → ∀ p H' u n', Same H H' → TokAt A.tok H' p ⟨i, t⟩ (i + k) u → NewTok n u n' t → Q (.ref p) n' (.ref p) H')
theorem sc_read_word : FnScope ["script", "at", "end", "word", "kind"] ["script", "at"] (defScope s_read_word) := ⟨rfl, rfl, rfl, by decide +kernel, rfl, by decide +kernel, by decide +kernel⟩
theorem reserved_in (w : Bytes) : inV (.str (bS w)) [.str "if", .str "all", .str "line", .str "from", .str "to", .str "last", .str "has", .str "is", .str "not", .str "delete", .str "before", .str "after", .str "change", .str "swap", .str "first", .str "keep", .str "bring", .str "trade", .str "skip", .str "stop", .str "none"] = VasedBase.RESERVED.contains w := by
  have e : ([.str "if", .str "all", .str "line", .str "from", .str "to", .str "last", .str "has", .str "is", .str "not", .str "delete", .str "before", .str "after", .str "change", .str "swap", .str "first", .str "keep", .str "bring", .str "trade", .str "skip", .str "stop", .str "none"] : List V) = VasedBase.RESERVED.map fun b => V.str (bS b) := by decide +kernel
  rw [e]
  unfold inV
  rw [List.any_map]
  induction VasedBase.RESERVED with
  | nil => rfl
  | cons x r ih =>
    rw [List.any_cons, List.contains_cons, ih]
    congr 1
    show (bS x == bS w) = (w == x)
    rw [Bool.eq_iff_iff, beq_iff_eq, beq_iff_eq]
    exact ⟨fun h => (bS_inj h).symm, fun h => by rw [h]⟩
theorem g_read_word (D : Dn K mg "read_word" s_read_word) (T : Txt K mg) (TF : PySem.FaX.FaTxt K mg A.fa A.faI) (TT : TokTxt K mg A.tok) (G1 : Gd P w K mg base CX0 10 "past_letters" ["script", "at"] (sp_past K VasedBase.isLetter))
    (G2 : GdN P w K mg base CX0 5 "letters_of" ["row"] (sp_letters_of K)) : GdN P w K mg base (L2.CX P w) 20 "read_word" ["script", "at"] (sp_read_word K A) := by
  obtain ⟨f, fd, m, F⟩ := D
  obtain ⟨f1, fd1, m1, k1, b1, F1⟩ := G1
  obtain ⟨f2, fd2, m2, k2, b2, F2⟩ := G2
  obtain ⟨ta, mB, hB⟩ := T.tOWN_WORDS
  refine ⟨f, fd, m, F.kp, F.binds (fun _ _ _ _ _ _ us hl => match us, hl with | [_, _], _ => rfl), fnN_of F sc_read_word (fun vs n H Q E h => ?_) (fun cdv A' outer s n H vs Q E hr h => ?_)⟩
  · obtain ⟨a, b, i, c, rfl, _⟩ := h; rfl
  · refine ⟨_, pssn_cons (psn_of (ps_set (i := 2) sc_read_word.nd rfl (.inl rfl) (pe_call F1 (hr.mono (by decide)) rfl m1 k1 b1 .nil pass0 (pa_cons (pv 0) (pa_cons (pv 1) pa_nil)))))
      (pssn_cons (psn_of (ps_if (pt_cmpR op_gt (pe_op op_sub (pv 2) (pv 1)) (pe_k T.kMOST_WORD_LETTERS) (nomark _)) (pss_one (ps_raiseFa rfl TF (k := 3) (hr.mono (by decide)) (takes_of rfl rfl rfl rfl) (pa_cons (pe_k T.kNO_TOKEN) (pa_cons (pv 1) pa_nil)))) pss_nil))
      (pssn_word (i := 3) (l := 4) (ia := 1) (ib := 2) TT (hr.mono (by decide)) sc_read_word.nd rfl rfl rfl rfl rfl rfl rfl rfl (by decide) (by decide) (by decide) (by decide) (by decide)
        (pen_call F2 (hr.mono (by decide)) rfl m2 k2 b2 pass0 (pan_of (pa_cons (pe_slice sl_list (pv 0) (po_some (pv 1)) (po_some (pv 2))) pa_nil))) mB hB rfl T.kOWN_WORD T.kLETTERS_WORD)), ?_⟩
    obtain ⟨a, b, i, c, rfl, hS, hl, hc, cl, qE, qQ⟩ := h
    have hi := (List.getElem?_eq_some_iff.mp hc).1
    have htok := run_letters hc cl
    refine ⟨_, rfl, _, rfl, a, b, i, rfl, hS, by omega, ?_⟩
    refine ⟨_, rfl, _, rfl, _, _, rfl, rfl, _, _, rfl, rfl, _, rfl, ?_⟩
    by_cases c8 : 8 < runLen VasedBase.isLetter b i
    · refine if_true_of (decide_eq_true (by omega)) ⟨_, rfl, _, _, rfl, fun d hd => ?_⟩
      rw [if_pos c8] at htok
      exact qE htok d _ (same_new hd) upd_same
    · refine if_false_of (decide_eq_false (by omega)) ?_
      rw [if_neg c8] at htok
      have hle : i + runLen VasedBase.isLetter b i ≤ b.length := runLen_le (by omega)
      refine ⟨_, rfl, _, rfl, _, rfl, _, rfl, _, rfl, a, _, rfl, hS, fun p hp us hus => ?_⟩
      have ecut : cutV (bV b) (some (i : Int)) (some ((i + runLen VasedBase.isLetter b i : Nat) : Int)) = bV ((b.drop i).takeWhile VasedBase.isLetter) := by
        rw [cut_bV b i _ (by omega) hle, ← take_run]
        congr 2; omega
      refine ⟨p, (b.drop i).takeWhile VasedBase.isLetter, rfl, ?_, fun c h => all_takeWhile _ c h, ?_, fun H' t n' sm ht ht' => ?_⟩
      · rw [← ecut]; exact .of upd_same
      · have := (List.takeWhile_prefix VasedBase.isLetter (l := b.drop i)).length_le
        rw [List.length_drop] at this
        omega
      · refine ⟨_, _, _, rfl, rfl, rfl, fun q H2 s2 hq st => ?_⟩
        rw [reserved_in] at st
        refine qQ _ _ htok q H2 _ n' ((same_new hp).trans (sm.trans s2)) ⟨st, ⟨t, rfl⟩⟩ ⟨by omega, fun w' e => ?_⟩
        cases e
        exact ⟨t, rfl, ht, ht'⟩
end
end LD

namespace LD
open PySem PySem.Spec PyProof.Rows L2 LN
open VasedBase (Bytes)
section
variable {P : Program} {w : World} {K : PySem.W.Frag} {mg : Str → Option Value} {base : Heap} {A : Ad}
/-! ### a number -/
theorem run_digits {b : Bytes} {i : Nat} {c : UInt8} (h : b[i]? = some c) (hc : VasedBase.isDigit c = true) : VasedBase.token (b.drop i) = (VasedBase.numberOf ((b.drop i).takeWhile VasedBase.isDigit)).map fun n => (.num n, runLen VasedBase.isDigit b i) := by
  have nl : ¬ VasedBase.isLetter c = true := by
    unfold VasedBase.isDigit at hc
    unfold VasedBase.isLetter
    have := of_decide_eq_true hc
    intro z
    have := of_decide_eq_true z
    omega
  rw [drop_cons h]
  unfold VasedBase.token
  simp only
  rw [if_neg nl, if_pos hc, ← drop_cons h]
  rfl
theorem digits_head {b : Bytes} {i : Nat} {c : UInt8} (h : b[i]? = some c) (hc : VasedBase.isDigit c = true) : ((b.drop i).takeWhile VasedBase.isDigit).head? = some c := by
  rw [drop_cons h, List.takeWhile_cons, hc]
  rfl
theorem number_none {b : Bytes} {i : Nat} {c : UInt8} (h : b[i]? = some c) (hc : VasedBase.isDigit c = true) (bad : (c = 48 ∧ 1 < runLen VasedBase.isDigit b i) ∨ 10 < runLen VasedBase.isDigit b i ∨ 1000000000 < VasedBase.decimal ((b.drop i).takeWhile VasedBase.isDigit)) : VasedBase.token (b.drop i) = none := by
  rw [run_digits h hc]
  unfold VasedBase.numberOf
  rw [if_pos]
  · rfl
  · rcases bad with ⟨e, l⟩ | l | l
    · exact .inr (.inr (.inl ⟨l, by rw [digits_head h hc, e]⟩))
    · exact .inr (.inl l)
    · exact .inr (.inr (.inr l))
theorem number_some {b : Bytes} {i : Nat} {c : UInt8} (h : b[i]? = some c) (hc : VasedBase.isDigit c = true) (n1 : ¬ (c = 48 ∧ 1 < runLen VasedBase.isDigit b i)) (n2 : ¬ 10 < runLen VasedBase.isDigit b i) (n3 : ¬ 1000000000 < VasedBase.decimal ((b.drop i).takeWhile VasedBase.isDigit)) :
    VasedBase.token (b.drop i) = some (.num (VasedBase.decimal ((b.drop i).takeWhile VasedBase.isDigit)), runLen VasedBase.isDigit b i) := by
  rw [run_digits h hc]
  unfold VasedBase.numberOf
  rw [if_neg]
  · rfl
  · rintro (e | l | ⟨l, e⟩ | l)
    · have := digits_head h hc
      rw [e] at this; cases this
    · exact n2 l
    · rw [digits_head h hc] at e
      exact n1 ⟨Option.some.inj e, l⟩
    · exact n3 l
def sp_read_number (K : PySem.W.Frag) (A : Ad) : Sp := fun vs H Q E => ∃ (a : Addr) (b : Bytes) (i : Nat) (c : UInt8), vs = [.ref a, .int i] ∧ SqL K H a (bV b) ∧ b.length ≤ 4096 ∧ b[i]? = some c ∧ VasedBase.isDigit c = true ∧
  (VasedBase.token (b.drop i) = none → FE A.fa E (Same H) 2 i) ∧ (∀ t k, VasedBase.token (b.drop i) = some (t, k) → ∀ p H' u, Same H H' → TokAt A.tok H' p ⟨i, t⟩ (i + k) u → Q (.ref p) H')
theorem sc_read_number : FnScope ["script", "at", "end", "has_needless_zero", "number"] ["script", "at"] (defScope s_read_number) := ⟨rfl, rfl, rfl, by decide +kernel, rfl, by decide +kernel, by decide +kernel⟩
theorem g_read_number (D : Dn K mg "read_number" s_read_number) (T : Txt K mg) (TF : PySem.FaX.FaTxt K mg A.fa A.faI) (TT : TokTxt K mg A.tok) (G1 : Gd P w K mg base CX0 10 "past_digits" ["script", "at"] (sp_past K VasedBase.isDigit))
    (G2 : Gd P w K mg base CX0 5 "number_of" ["digits"] (sp_number_of K)) : Gd P w K mg base (L2.CX P w) 20 "read_number" ["script", "at"] (sp_read_number K A) := by
  obtain ⟨f, fd, m, F⟩ := D
  obtain ⟨f1, fd1, m1, k1, b1, F1⟩ := G1
  obtain ⟨f2, fd2, m2, k2, b2, F2⟩ := G2
  refine ⟨f, fd, m, F.kp, F.binds (fun _ _ _ _ _ _ us hl => match us, hl with | [_, _], _ => rfl), F.okX sc_read_number (fun vs H Q E h => ?_) (fun cdv A' outer s H vs Q E hr h => ?_)⟩
  · obtain ⟨a, b, i, c, rfl, _⟩ := h; rfl
  · refine ⟨_, (L2.pss_cons (ps_set (i := 2) sc_read_number.nd rfl (.inl rfl) (pe_call F1 (hr.mono (by decide)) rfl m1 k1 b1 .nil pass0 (L2.pa_cons (pv 0) (L2.pa_cons (pv 1) L2.pa_nil)))) (L2.pss_cons (ps_set (i := 3) sc_read_number.nd rfl (.inl rfl) (pe_and (pe_cmpR op_eq (pe_ix ix_list (pv 0) (pv 1) (fun _ _ => rfl)) (pe_k T.kZERO) (nomark _)) (pe_one (pe_cmpR op_gt (pe_op op_sub (pv 2) (pv 1)) pe_int (nomark _))))) (L2.pss_cons (ps_if (PW.pt (pw_or (pt_val (pv 3)) (pw_or1 (pt_cmpR op_gt (pe_op op_sub (pv 2) (pv 1)) (pe_k T.kMOST_DIGITS) (nomark _))))) (L2.pss_one (ps_raiseFa rfl TF (k := 3) (hr.mono (by decide)) (takes_of rfl rfl rfl rfl) (L2.pa_cons (pe_k T.kNO_TOKEN) (L2.pa_cons (pv 1) L2.pa_nil)))) L2.pss_nil) (L2.pss_cons (ps_set (i := 4) sc_read_number.nd rfl (.inl rfl) (pe_call F2 (hr.mono (by decide)) rfl m2 k2 b2 .nil pass0 (L2.pa_cons (pe_slice sl_list (pv 0) (po_some (pv 1)) (po_some (pv 2))) L2.pa_nil))) (L2.pss_cons (ps_if (pt_cmpR op_gt (pv 4) (pe_k T.kGREATEST_NUMBER) (nomark _)) (L2.pss_one (ps_raiseFa rfl TF (k := 3) (hr.mono (by decide)) (takes_of rfl rfl rfl rfl) (L2.pa_cons (pe_k T.kNO_TOKEN) (L2.pa_cons (pv 1) L2.pa_nil)))) L2.pss_nil) (L2.pss_one (ps_ret (pe_tok TT (hr.mono (by decide)) (L2.pa_cons (pe_k T.kNUMBER) (L2.pa_cons (pv 4) (L2.pa_cons (pv 1) (L2.pa_cons (pv 2) L2.pa_nil)))))))))))), ?_⟩
    obtain ⟨a, b, i, c, rfl, hS, hl, hc, cl, qE, qQ⟩ := h
    have hi := (List.getElem?_eq_some_iff.mp hc).1
    have hle : i + runLen VasedBase.isDigit b i ≤ b.length := runLen_le (by omega)
    refine ⟨_, rfl, _, rfl, a, b, i, rfl, hS, by omega, ?_⟩
    refine ⟨_, rfl, _, rfl, a, _, _, _, rfl, rfl, hS, atI_nat (bV_get hc), rfl, _, rfl, ?_⟩
    have ee : decide (V.int (c.toNat : Int) = V.int 48) = (c == 48) := eq_int c 48 (by decide)
    rw [ee]
    have bad : ∀ {H1 : Hp}, Same H H1 → VasedBase.token (b.drop i) = none → ∀ d, H1 d = none → E (.ref A.fa) (some d) (upd H1 d (.xd (faF (.int 2) (.int i)))) := fun sm ht d hd => qE ht d _ (same_xd sm hd) upd_same
    refine if_iff (p := c = 48) (by simp) (fun h48 => ⟨_, rfl, _, rfl, _, _, rfl, rfl, _, _, rfl, rfl, ?_⟩) fun h48 => ?_
    all_goals
      refine ⟨_, rfl, _, rfl, if_iff (p := c = 48 ∧ 1 < runLen VasedBase.isDigit b i) (by simp [h48]; try omega) (fun hb => if_true_of rfl ?_) fun hb1 => ⟨_, rfl, _, rfl, _, _, rfl, rfl, _, _, rfl, rfl, _, rfl, if_iff (p := 10 < runLen VasedBase.isDigit b i) (by simp; omega) (fun hb => ?_) fun hb2 => ?_⟩⟩
    all_goals first
      | exact ⟨_, rfl, _, _, rfl, bad (Same.refl _) (number_none hc cl (.inl hb))⟩
      | exact ⟨_, rfl, _, _, rfl, bad (Same.refl _) (number_none hc cl (.inr (.inl hb)))⟩
      | skip
    all_goals
      have hb : ¬ ((c = 48 ∧ 1 < runLen VasedBase.isDigit b i) ∨ 10 < runLen VasedBase.isDigit b i) := fun z => z.elim hb1 hb2
      have ecut : cutV (bV b) (some (i : Int)) (some ((i + runLen VasedBase.isDigit b i : Nat) : Int)) = bV ((b.drop i).takeWhile VasedBase.isDigit) := by
        rw [cut_bV b i _ (by omega) hle, ← take_run]
        congr 2; omega
      have hlen : ((b.drop i).takeWhile VasedBase.isDigit).length ≤ 10 := Nat.le_of_not_lt fun z => hb (.inr z)
      refine ⟨_, rfl, _, rfl, _, rfl, _, rfl, _, rfl, a, _, rfl, hS, fun p hp => ?_⟩
      refine ⟨p, (b.drop i).takeWhile VasedBase.isDigit, rfl, by rw [← ecut]; exact .of upd_same, fun c h => all_takeWhile _ c h, hlen, ?_⟩
      refine ⟨_, rfl, _, _, rfl, rfl, _, rfl, ?_⟩
      refine if_iff (p := 1000000000 < VasedBase.decimal ((b.drop i).takeWhile VasedBase.isDigit)) (by simp; omega) (fun h3 => ?_) fun h3 => ?_
      · exact ⟨_, rfl, _, _, rfl, bad (same_new hp) (number_none hc cl (.inr (.inr h3)))⟩
      · refine ⟨_, rfl, _, rfl, _, rfl, _, _, _, _, rfl, fun q H2 uv ruv sm _ st => ?_⟩
        exact qQ _ _ (number_some hc cl (fun z => hb (.inl z)) (fun z => hb (.inr z)) h3) q H2 uv ((same_new hp).trans sm) ⟨st, ruv⟩
end
end LD

namespace LN
open PySem PySem.Spec PyProof.Rows L2
section
variable {X : Cx} {CX : CXT} {k : Nat} {f : Addr} {fd : FuncData} {ps : List Str} {sp : Sp} {E : XK} {x : Str} {p pos : Pos} {e : Expr} {es : List Expr} {tan : TAN}
/-- a plain def, called with arguments so told -/
def nCallP (sp : Sp) (E : XK) (t : TAN) : TEN := fun σ n H Q => t σ n H fun _ n' vs H1 => sp vs H1 (fun v H2 => ∀ w, RelV v w → Q w n' v H2) E
theorem pen_callP (F : FnOk X.prog X.w X.K X.mg X.base CX k f fd ps sp) (hr : Room k X.A) (hg : Gl X x) (hm : X.mg x = some (.ref f)) (hk : PySem.W.keepIn X.K (.ref f) = true) (hb : Binds X.K fd ps []) (hx : Passes CX X E)
    (ha : PAN X (e :: es) tan) (hdb : (x == ("__debug__" : Str)) = false := by decide) (he : starEach (e :: es) X.env = (false, eval e X.env) :: starEach es X.env := by rfl) (hpl : (backTo pos (starEach es X.env)).any (·.1) = false := by rfl) :
    PEN X (.Call (.Name x p) (e :: es) [] pos) (nCallP sp E tan) := ⟨fun pins s σ n H Q hn I h => by
  refine wpAny_Call_Name_kw (ld_glob I hg hm ?_ hdb)
  refine PySem.W.callWith_K (h₀ := X.base) I.ok.mod.kin hk (thn (ha.run pos pins s σ n H _ hn I h) fun us s1 ⟨vs, H1, n1, I1, r, hn1, q⟩ => ⟨I1.kIn, ?_⟩) he hpl
  exact past hn1 (run_fn (dvs := []) (E := E) (Q := fun v H2 => ∀ w, RelV v w → Q w n1 v H2) F hr hb .nil hx I1 r (by rw [List.append_nil]; exact q)) fun w s2 hn2 ⟨v, H2, I2, rv, q2⟩ => ⟨v, H2, n1, I2, rv, hn2, q2 w rv⟩⟩
/-- a written whole number: one token more -/
def nInt (i : Int) : TEN := fun _ n H Q => ∀ t, Q (.int i t) (n + 1) (.int i) H
theorem pen_int {i : Int} {j : Nat} : PEN X (.Constant (.int i) j pos) (nInt i) := ⟨fun pins s σ n H Q hn I h => wpAny_Constant_int ⟨.int i, H, n + 1, I.tok _, ⟨_, rfl⟩, Nat.succ_le_succ hn, h _⟩⟩
end
/-- what is neither frozen nor told by words -/
def Loose : HO → Prop
  | .lst _ => True
  | .ins _ _ _ => True
  | _ => False
theorem Still.but {C : Addr} {H H' : Hp} {a p : Addr} {fs : List (Str × V)} {f0 : Str} {u0 : Value} {o : HO} (h : Still C H a fs f0 u0) (hp : H p = some o) (lo : Loose o) (s : LD.But p H H') : Still C H' a fs f0 u0 := by
  obtain ⟨dx, n, e1, e2⟩ := h
  exact ⟨dx, n, s _ _ e1 (ne_of e1 hp fun z => by rw [← z] at lo; exact lo), s _ _ e2 (ne_of e2 hp fun z => by rw [← z] at lo; exact lo)⟩
end LN
namespace LD
open PySem PySem.Spec PyProof.Rows L2 LN
open VasedBase (Bytes)
theorem TokAt.but {C : Addr} {H H' : Hp} {a p : Addr} {t : VasedBase.PTok} {e : Nat} {u : Value} {o : HO} (h : TokAt C H a t e u) (hp : H p = some o) (lo : Loose o) (s : But p H H') : TokAt C H' a t e u := ⟨h.1.but hp lo s, h.2⟩
/-- a token of the program: where it is, what it is, where it ends, its value in the machine -/
structure TR where
  a : Addr
  t : VasedBase.PTok
  e : Nat
  u : Value
def AllTok (C : Addr) (H : Hp) (l : List TR) : Prop := ∀ r ∈ l, TokAt C H r.a r.t r.e r.u
/-- the letters' machine values are told apart by their tokens, which rise -/
def Rise : Nat → List TR → Nat → Prop
  | n, [], m => n ≤ m
  | n, r :: l, m => ∃ k, NewTok n r.u k r.t.tok ∧ Rise k l m
theorem Rise.le : ∀ {l : List TR} {n m : Nat}, Rise n l m → n ≤ m
  | [], _, _, h => h
  | _ :: _, _, _, ⟨_, h1, h2⟩ => Nat.le_trans h1.1 (Rise.le h2)
theorem Rise.snoc : ∀ {l : List TR} {n k m : Nat} {r : TR}, Rise n l k → NewTok k r.u m r.t.tok → Rise n (l ++ [r]) m
  | [], n, k, m, r, h, h2 => ⟨m, ⟨Nat.le_trans h h2.1, fun w e => by
      obtain ⟨tk, e1, e2, e3⟩ := h2.2 w e
      exact ⟨tk, e1, Nat.le_trans h e2, e3⟩⟩, Nat.le_refl _⟩
  | _ :: _, _, _, _, _, ⟨j, h1, h⟩, h2 => ⟨j, h1, Rise.snoc h h2⟩
section
variable {P : Program} {w : World} {K : PySem.W.Frag} {mg : Str → Option Value} {base : Heap} {A : Ad}
/-! ### one token -/
def sp_read_token (K : PySem.W.Frag) (A : Ad) : SpN := fun vs n H Q E => ∃ (a : Addr) (b : Bytes) (i : Nat), vs = [.ref a, .int i] ∧ SqL K H a (bV b) ∧ b.length ≤ 4096 ∧ i < b.length ∧
  (VasedBase.token (b.drop i) = none → FE A.fa E (Same H) 2 i) ∧ (∀ t k, VasedBase.token (b.drop i) = some (t, k) → ∀ p H' u n', Same H H' → TokAt A.tok H' p ⟨i, t⟩ (i + k) u → NewTok n u n' t → Q (.ref p) n' (.ref p) H')
theorem sc_read_token : FnScope ["script", "at"] ["script", "at"] (defScope s_read_token) := ⟨rfl, rfl, rfl, by decide +kernel, rfl, by decide +kernel, by decide +kernel⟩
theorem sign_tok {b : Bytes} {i : Nat} {c : UInt8} (h : b[i]? = some c) (h1 : ¬ VasedBase.isLetter c = true) (h2 : ¬ VasedBase.isDigit c = true) : VasedBase.token (b.drop i) = if c = 59 then some (.sign 59, 1) else none := by
  rw [drop_cons h]
  unfold VasedBase.token
  simp only
  rw [if_neg h1, if_neg h2]
  by_cases e : c = 59
  · subst e
    rfl
  · rw [if_neg e, if_neg]
    simp [VasedBase.SIGNS, e]
theorem g_read_token (D : Dn K mg "read_token" s_read_token) (T : Txt K mg) (TF : PySem.FaX.FaTxt K mg A.fa A.faI) (TT : TokTxt K mg A.tok) (G1 : Gd P w K mg base CX0 5 "is_letter" ["byte"] sp_is_letter) (G2 : Gd P w K mg base CX0 5 "is_digit" ["byte"] sp_is_digit)
    (G3 : GdN P w K mg base (L2.CX P w) 20 "read_word" ["script", "at"] (sp_read_word K A)) (G4 : Gd P w K mg base (L2.CX P w) 20 "read_number" ["script", "at"] (sp_read_number K A)) : GdN P w K mg base (L2.CX P w) 25 "read_token" ["script", "at"] (sp_read_token K A) := by
  obtain ⟨f, fd, m, F⟩ := D
  obtain ⟨f1, fd1, m1, k1, b1, F1⟩ := G1
  obtain ⟨f2, fd2, m2, k2, b2, F2⟩ := G2
  obtain ⟨f3, fd3, m3, k3, b3, F3⟩ := G3
  obtain ⟨f4, fd4, m4, k4, b4, F4⟩ := G4
  refine ⟨f, fd, m, F.kp, F.binds (fun _ _ _ _ _ _ us hl => match us, hl with | [_, _], _ => rfl), fnN_of F sc_read_token (fun vs n H Q E h => ?_) (fun cdv A' outer s n H vs Q E hr h => ?_)⟩
  · obtain ⟨a, b, i, rfl, _⟩ := h; rfl
  · refine ⟨_, (LN.pssn_cons (psn_if (pt_val (pe_call F1 (hr.mono (by decide)) rfl m1 k1 b1 .nil pass0 (L2.pa_cons (pe_ix ix_list (pv 0) (pv 1) (fun _ _ => rfl)) L2.pa_nil))) (LN.pssn_one (psn_ret (pen_call F3 (hr.mono (by decide)) rfl m3 k3 b3 (passes_call (takes_of rfl rfl rfl rfl) (fun _ _ _ _ h => h)) (pan_of (L2.pa_cons (pv 0) (L2.pa_cons (pv 1) L2.pa_nil)))))) LN.pssn_nil) (LN.pssn_cons (psn_if (pt_val (pe_call F2 (hr.mono (by decide)) rfl m2 k2 b2 .nil pass0 (L2.pa_cons (pe_ix ix_list (pv 0) (pv 1) (fun _ _ => rfl)) L2.pa_nil))) (LN.pssn_one (psn_ret (pen_of (pe_call F4 (hr.mono (by decide)) rfl m4 k4 b4 .nil (passes_call (takes_of rfl rfl rfl rfl) (fun _ _ _ _ h => h)) (L2.pa_cons (pv 0) (L2.pa_cons (pv 1) L2.pa_nil)))))) LN.pssn_nil) (LN.pssn_cons (psn_if (pt_cmpR op_eq (pe_ix ix_list (pv 0) (pv 1) (fun _ _ => rfl)) (pe_k T.kSEMICOLON) (nomark _)) (LN.pssn_one (psn_ret (pen_of (pe_tok TT (hr.mono (by decide)) (L2.pa_cons (pe_k T.kSIGN) (L2.pa_cons (pe_str) (L2.pa_cons (pv 1) (L2.pa_cons (pe_op op_add (pv 1) pe_int) L2.pa_nil)))))))) LN.pssn_nil) (LN.pssn_one (psn_of (ps_raiseFa rfl TF (k := 3) (hr.mono (by decide)) (takes_of rfl rfl rfl rfl) (L2.pa_cons (pe_k T.kNO_TOKEN) (L2.pa_cons (pv 1) L2.pa_nil)))))))), ?_⟩
    obtain ⟨a, b, i, rfl, hS, hl, hi, qE, qQ⟩ := h
    obtain ⟨c, hc⟩ : ∃ c, b[i]? = some c := ⟨b[i], List.getElem?_eq_getElem hi⟩
    refine ⟨_, rfl, _, rfl, a, _, _, _, rfl, rfl, hS, atI_nat (bV_get hc), _, rfl, ?_⟩
    rw [is_letter_int]
    refine ⟨_, rfl, if_iff Iff.rfl (fun h1 => ?_) fun h1 => ?_⟩
    · exact ⟨_, rfl, _, rfl, fun us _ => ⟨a, b, i, c, rfl, hS, hl, hc, h1, qE, qQ⟩⟩
    refine ⟨_, rfl, _, rfl, a, _, _, _, rfl, rfl, hS, atI_nat (bV_get hc), _, rfl, ?_⟩
    rw [is_digit_int]
    refine ⟨_, rfl, if_iff Iff.rfl (fun h2 => ?_) fun h2 => ?_⟩
    · refine ⟨_, rfl, _, rfl, a, b, i, c, rfl, hS, hl, hc, h2, qE, fun t k e p H' u sm st w rw' => ?_⟩
      cases rw'
      refine qQ t k e p H' u n sm st ⟨Nat.le_refl _, fun w' e' => ?_⟩
      rw [run_digits hc h2, e'] at e
      obtain ⟨_, _, z⟩ := Option.map_eq_some_iff.mp e
      cases z
    have ht := sign_tok hc h1 h2
    refine ⟨_, rfl, _, rfl, a, _, _, _, rfl, rfl, hS, atI_nat (bV_get hc), rfl, _, rfl, ?_⟩
    have ee : decide (V.int (c.toNat : Int) = V.int 59) = (c == 59) := eq_int c 59 (by decide)
    rw [ee]
    refine if_iff (p := c = 59) (by simp) (fun h3 => ?_) fun h3 => ?_
    · rw [if_pos h3] at ht
      refine ⟨_, rfl, _, rfl, _, _, rfl, rfl, _, _, _, _, rfl, fun p H2 uv ruv sm _ st w rw' => ?_⟩
      cases rw'
      exact qQ _ _ ht p H2 uv n sm ⟨st, ruv⟩ ⟨Nat.le_refl _, fun w' e' => by cases e'⟩
    · rw [if_neg h3] at ht
      exact ⟨_, rfl, _, _, rfl, fun d hd => qE ht d _ (same_new hd) upd_same⟩
end
end LD

namespace LD
open PySem PySem.Spec PyProof.Rows L2 LN
open VasedBase (Bytes)
section
variable {P : Program} {w : World} {K : PySem.W.Frag} {mg : Str → Option Value} {base : Heap} {A : Ad}
theorem AllTok.same {C : Addr} {H H' : Hp} {l : List TR} (h : AllTok C H l) (s : Same H H') : AllTok C H' l := fun r hr => (h r hr).same s
theorem AllTok.but {C : Addr} {H H' : Hp} {l : List TR} {p : Addr} {o : HO} (h : AllTok C H l) (hp : H p = some o) (lo : Loose o) (s : But p H H') : AllTok C H' l := fun r hr => (h r hr).but hp lo s
theorem AllTok.snoc {C : Addr} {H : Hp} {l : List TR} {r : TR} (h : AllTok C H l) (hr : TokAt C H r.a r.t r.e r.u) : AllTok C H (l ++ [r]) := fun q hq => by
  rcases List.mem_append.mp hq with hq | hq
  · exact h q hq
  · have : q = r := by simpa using hq
    rw [this]; exact hr
theorem lookup_end {k v p e : V} : (tokF k v p e).lookup ("end" : Str) = some e := by
  unfold tokF
  rw [lookup_if, if_neg (by decide +kernel), lookup_if, if_neg (by decide +kernel), lookup_if, if_neg (by decide +kernel), lookup_if, if_pos rfl]
theorem lookup_place {k v p e : V} : (tokF k v p e).lookup ("place" : Str) = some p := by
  unfold tokF
  rw [lookup_if, if_neg (by decide +kernel), lookup_if, if_neg (by decide +kernel), lookup_if, if_pos rfl]
theorem lookup_value {k v p e : V} : (tokF k v p e).lookup ("value" : Str) = some v := by
  unfold tokF
  rw [lookup_if, if_neg (by decide +kernel), lookup_if, if_pos rfl]
theorem lookup_kind {k v p e : V} : (tokF k v p e).lookup ("kind" : Str) = some k := by
  unfold tokF
  rw [lookup_if, if_pos rfl]
def sp_read_tokens (K : PySem.W.Frag) (A : Ad) : SpN := fun vs n H Q E => ∃ (a : Addr) (b : Bytes), vs = [.ref a] ∧ SqL K H a (bV b) ∧
  (∀ f, VasedBase.tokens b = .error f → FE A.fa E (Same H) f.code f.place) ∧
  (∀ (l : List TR) p H' n', VasedBase.tokens b = .ok (l.map TR.t) → Same H H' → H' p = some (.lst (l.map fun r => V.ref r.a)) → AllTok A.tok H' l → Rise 1 l n' → Q (.ref p) n' (.ref p) H')
theorem sc_read_tokens : FnScope ["script", "tokens", "at", "token"] ["script"] (defScope s_read_tokens) := ⟨rfl, rfl, rfl, by decide +kernel, rfl, by decide +kernel, by decide +kernel⟩
theorem toks_start {b : Bytes} (h : ¬ 4096 < b.length) : VasedBase.tokens b = toksFrom b 0 := by
  unfold VasedBase.tokens toksFrom VasedBase.TEXT
  rw [if_neg h]
  rfl
theorem g_read_tokens (D : Dn K mg "read_tokens" s_read_tokens) (T : Txt K mg) (TF : PySem.FaX.FaTxt K mg A.fa A.faI) (TT : TokTxt K mg A.tok) (G1 : Gd P w K mg base CX0 15 "past_gaps" ["script", "at"] (sp_past_gaps K))
    (G2 : GdN P w K mg base (L2.CX P w) 25 "read_token" ["script", "at"] (sp_read_token K A)) : GdN P w K mg base (L2.CX P w) 30 "read_tokens" ["script"] (sp_read_tokens K A) := by
  obtain ⟨f, fd, m, F⟩ := D
  obtain ⟨f1, fd1, m1, k1, b1, F1⟩ := G1
  obtain ⟨f2, fd2, m2, k2, b2, F2⟩ := G2
  refine ⟨f, fd, m, F.kp, F.binds (fun _ _ _ _ _ _ us hl => match us, hl with | [_], _ => rfl), fnN_of F sc_read_tokens (fun vs n H Q E h => ?_) (fun cdv A' outer s n H vs Q E hr h => ?_)⟩
  · obtain ⟨a, b, rfl, _⟩ := h; rfl
  · refine ⟨_, (LN.pssn_cons (psn_of (ps_if (pt_cmpR op_gt ((pe_callB call_len_seq (by rfl) T.len PySem.boot_len (pa_cons (pv 0) pa_nil))) (pe_k T.kMOST_BYTES) (nomark _)) (L2.pss_one (ps_raiseFa rfl TF (k := 3) (hr.mono (by decide)) (takes_of rfl rfl rfl rfl) (L2.pa_cons (pe_k T.kSCRIPT_TOO_LONG) (L2.pa_cons (pe_k T.kMOST_BYTES) L2.pa_nil)))) L2.pss_nil)) (LN.pssn_cons (psn_of (ps_set (i := 1) sc_read_tokens.nd rfl (.inl rfl) (pe_lst pa_nil))) (LN.pssn_cons (psn_set (i := 2) sc_read_tokens.nd rfl (.inl rfl) (pen_callP F1 (hr.mono (by decide)) rfl m1 k1 b1 pass0 (pan_cons (pen_of (pv 0)) (pan_cons pen_int pan_nil)))) (LN.pssn_cons (psn_while (passes_of rfl) (pt_cmpR op_lt (pv 2) ((pe_callB call_len_seq (by rfl) T.len PySem.boot_len (pa_cons (pv 0) pa_nil))) (nomark _)) (LN.pssn_cons (psn_set (i := 3) sc_read_tokens.nd rfl (.inl rfl) (pen_call F2 (hr.mono (by decide)) rfl m2 k2 b2 (passes_call (takes_of rfl rfl rfl rfl) (fun _ _ _ _ h => h)) (pan_of (L2.pa_cons (pv 0) (L2.pa_cons (pv 2) L2.pa_nil))))) (LN.pssn_cons (psn_of ((ps_expr (pe_bm PySem.F.plainAttrs_list PySem.F.slot_list_append PySem.F.type_list_append mt_append (pv 1) (pa_cons (pv 3) pa_nil))))) (LN.pssn_one (psn_of (ps_set (i := 2) sc_read_tokens.nd rfl (.inl rfl) (pe_call F1 (hr.mono (by decide)) rfl m1 k1 b1 .nil pass0 (L2.pa_cons (pv 0) (L2.pa_cons (pe_still (pv 3)) L2.pa_nil))))))))) (LN.pssn_cons (psn_of ((ps_expr (pe_bm PySem.F.plainAttrs_list PySem.F.slot_list_append PySem.F.type_list_append mt_append (pv 1) (pa_cons (pe_tok TT (hr.mono (by decide)) (L2.pa_cons (pe_k T.kEND) (L2.pa_cons (pe_str) (L2.pa_cons (pv 2) (L2.pa_cons (pv 2) L2.pa_nil))))) pa_nil))))) (LN.pssn_one (psn_of (ps_ret (pv 1))))))))), ?_⟩
    obtain ⟨a, b, rfl, hS, qE, qQ⟩ := h
    refine ⟨_, rfl, a, _, rfl, .inl hS, _, _, rfl, rfl, _, rfl, ?_⟩
    rw [bV_length]
    refine if_iff (p := 4096 < b.length) (by simp; omega) (fun hl => ?_) fun hl => ?_
    · exact ⟨_, _, rfl, fun d hd => qE ⟨1, 4096⟩ (by unfold VasedBase.tokens VasedBase.TEXT; rw [if_pos hl]) d _ (same_new hd) upd_same⟩
    refine ⟨by decide, fun p hp => ?_⟩
    refine ⟨_, rfl, fun w0 rw0 t0 => ?_⟩
    have sm0 : Same H (upd H p (.lst [])) := same_new hp
    refine ⟨a, b, 0, rfl, sm0.seq hS, Nat.zero_le _, fun j _ hj ej fj w1 rw1 => ?_⟩
    refine ⟨fun m σ n' H' => ∃ (l : List TR) (i : Nat) (v : Option V), m = b.length - i ∧ i ≤ b.length ∧ Front b i ∧ σ = [some (.ref a), some (.ref p), some (.int i), v] ∧ Same H H' ∧ H' p = some (.lst (l.map fun r => V.ref r.a)) ∧
      AllTok A.tok H' l ∧ Rise 1 l n' ∧ VasedBase.tokens b = (toksFrom b i).map (fun t => l.map TR.t ++ t) ∧ l.length ≤ i, ⟨_, [], j, none, rfl, hj, fj, rfl, sm0, upd_same, fun r hr => absurd hr (by simp), Nat.le_add_left _ _, ?_, Nat.zero_le _⟩, ?_⟩
    · rw [toks_start hl, ej]
      cases toksFrom b 0 <;> rfl
    rintro m' σ n' H' ⟨l, i, v, rfl, hi, fi, rfl, sm, hpl, al, ri, te, len⟩
    refine ⟨_, rfl, _, rfl, a, _, rfl, .inl (sm.seq hS), _, _, rfl, rfl, _, rfl, ?_⟩
    rw [bV_length]
    refine if_iff (p := i < b.length) (by simp) (fun c => ?_) fun c => ?_
    · -- one token more
      refine ⟨_, rfl, _, rfl, fun us _ => ⟨a, b, i, rfl, sm.seq hS, by omega, c, fun ht d H2 s2 e2 => ?_, fun t k ht q H2 u n2 s2 tk nt => ?_⟩⟩
      · refine qE ⟨2, i⟩ ?_ d H2 (sm.trans s2) e2
        rw [te, toks_none c fi ht]; rfl
      · have hp2 := token_pos ht
        rw [List.length_drop] at hp2
        have e1 := s2 _ _ hpl
        refine ⟨_, rfl, .inl ⟨rfl, _, SqL.of e1⟩, _, rfl, p, _, _, rfl, rfl, e1, by rw [List.length_map, sizeLine_eq]; omega, ?_⟩
        have bt : But p H2 (upd H2 p (.lst ((l.map fun r => V.ref r.a) ++ [V.ref q]))) := But.upd
        have tk' := tk.but (o := .lst (l.map fun r => V.ref r.a)) e1 True.intro bt
        have sm3 : Same H (upd H2 p (.lst ((l.map fun r => V.ref r.a) ++ [V.ref q]))) := fun d o e => by
          rw [upd_ne (ne_of_none e hp)]; exact s2 _ _ (sm _ _ e)
        refine ⟨_, rfl, _, rfl, q, A.tok, _, _, _, _, rfl, tk'.1, TT.cl, TT.n4, lookup_end, a, b, i + k, rfl, sm3.seq hS, by omega, fun j2 hj1 hj2 ej2 fj2 => ?_⟩
        refine ⟨b.length - j2, by omega, l ++ [⟨q, ⟨i, t⟩, i + k, u⟩], j2, _, rfl, hj2, fj2, rfl, sm3, ?_, ?_, ri.snoc nt, ?_, ?_⟩
        · rw [upd_same, List.map_append]; rfl
        · refine (AllTok.but (al.same s2) e1 True.intro bt).snoc tk'
        · rw [te, toks_some c fi ht, ej2]
          cases toksFrom b (i + k) with
          | error z => rfl
          | ok z => show Except.ok _ = Except.ok _; simp
        · rw [List.length_append, List.length_singleton]; omega
    · -- the end
      have hib : b.length ≤ i := by omega
      refine ⟨_, rfl, .inl ⟨rfl, _, SqL.of hpl⟩, _, rfl, _, rfl, _, _, _, _, rfl, fun q H2 uv ruv s2 _ st => ?_⟩
      have e1 := s2 _ _ hpl
      refine ⟨p, _, _, rfl, rfl, e1, by rw [List.length_map, sizeLine_eq]; omega, ?_⟩
      have bt : But p H2 (upd H2 p (.lst ((l.map fun r => V.ref r.a) ++ [V.ref q]))) := But.upd
      refine ⟨_, rfl, fun w2 rw2 => ?_⟩
      cases rw2
      refine qQ (l ++ [⟨q, ⟨i, .last⟩, i, uv⟩]) p _ n' ?_ ?_ ?_ ?_ ?_
      · rw [te, toks_end hib]
        show Except.ok _ = Except.ok _
        simp
      · exact fun d o e => by rw [upd_ne (ne_of_none e hp)]; exact s2 _ _ (sm _ _ e)
      · rw [upd_same, List.map_append]; rfl
      · exact (AllTok.but (al.same s2) e1 True.intro bt).snoc (TokAt.but ⟨st, ruv⟩ (o := .lst (l.map fun r => V.ref r.a)) e1 True.intro bt)
      · exact ri.snoc ⟨Nat.le_refl _, fun w' e' => by cases e'⟩
end
end LD

namespace LD
open PySem PySem.Spec PyProof.Rows L2 LN
open VasedBase (Bytes)
/-! ### fields -/
theorem lk_here {k : Str} {v : V} {r : List (Str × V)} : List.lookup k ((k, v) :: r) = some v := by rw [lookup_if, if_pos rfl]
theorem lk_past {k g : Str} {v : V} {r : List (Str × V)} {o : Option V} (h : ¬ k = g) (n : List.lookup k r = o) : List.lookup k ((g, v) :: r) = o := by rw [lookup_if, if_neg h]; exact n
theorem put_here {f : Str} {v x : V} {r : List (Str × V)} : putF f v ((f, x) :: r) = (f, v) :: r := if_pos rfl
theorem put_past {f g : Str} {v x : V} {r s : List (Str × V)} (h : ¬ g = f) (n : putF f v r = s) : putF f v ((g, x) :: r) = (g, x) :: s := by rw [← n]; exact if_neg h
/-- what the text says of a class -/
structure CT (K : PySem.W.Frag) (mg : Str → Option Value) (x : Str) (C : Addr) (fs : List Str) : Prop where
  g : mg x = some (.ref C)
  cl : Cls K C
  no : ∀ f ∈ fs, NoAttr K C f
/-- an instance's store at its place -/
theorem ins_put {H : Hp} {a C dx : Addr} {fs fs' : List (Str × V)} (e : fs = fs') : upd H a (.ins C dx fs) a = some (.ins C dx fs') := by rw [upd_same, e]
/-! ### the reader of tokens -/
def rdF (tl : Addr) (i : Nat) : List (Str × V) := [("tokens", .ref tl), ("at", .int i)]
def refs (l : List TR) : List V := l.map fun r => V.ref r.a
def RdAt (A : Ad) (H : Hp) (r : Addr) (l : List TR) : Prop := ∃ dx tl l0 i, H r = some (.ins A.rd dx (rdF tl i)) ∧ H tl = some (.lst (refs l0)) ∧ AllTok A.tok H l0 ∧ l = l0.drop i
abbrev s_rd_init : Stmt := inClass (top 58) 0
abbrev s_front : Stmt := inClass (top 58) 1
abbrev s_stands : Stmt := inClass (top 58) 2
abbrev s_take : Stmt := inClass (top 58) 3
abbrev s_take_given : Stmt := inClass (top 58) 4
abbrev s_take_letters : Stmt := inClass (top 58) 5
abbrev s_take_letters_or_none : Stmt := inClass (top 58) 6
abbrev s_take_number : Stmt := inClass (top 58) 7
section
variable {P : Program} {w : World} {K : PySem.W.Frag} {mg : Str → Option Value} {base : Heap} {A : Ad}
abbrev RdT (K : PySem.W.Frag) (mg : Str → Option Value) (A : Ad) : Prop := CT K mg "TokenReader" A.rd ["tokens", "at"]
theorem drop_head {l0 l : List TR} {x : TR} {i : Nat} (h : x :: l = l0.drop i) : l0[i]? = some x ∧ l = l0.drop (i + 1) := by
  have hi : i < l0.length := by
    refine Nat.lt_of_not_le fun z => ?_
    rw [List.drop_eq_nil_of_le z] at h
    cases h
  rw [List.drop_eq_getElem_cons hi] at h
  injection h with h1 h2
  exact ⟨by rw [h1, List.getElem?_eq_getElem hi], h2⟩
theorem RdAt.head {H : Hp} {r : Addr} {x : TR} {l : List TR} (h : RdAt A H r (x :: l)) : TokAt A.tok H x.a x.t x.e x.u := by
  obtain ⟨dx, tl, l0, i, e1, e2, al, el⟩ := h
  exact al x (List.mem_of_getElem? (drop_head el).1)
def sp_rd_init (A : Ad) : Sp := fun vs H Q _ => ∃ (r dx tl : Addr) (l : List TR), vs = [.ref r, .ref tl] ∧ H r = some (.ins A.rd dx []) ∧ H tl = some (.lst (refs l)) ∧ AllTok A.tok H l ∧ ∀ H', But r H H' → RdAt A H' r l → Q .non H'
theorem sc_rd_init : FnScope ["self", "tokens"] ["self", "tokens"] (defScope s_rd_init) := ⟨rfl, rfl, rfl, by decide +kernel, rfl, by decide +kernel, by decide +kernel⟩
theorem g_rd_init (D : Di K A.rd "TokenReader.__init__" s_rd_init) (T : RdT K mg A) : Gi P w K mg base 5 A.rd ["self", "tokens"] (sp_rd_init A) := by
  obtain ⟨f, fd, m, F⟩ := D
  refine ⟨f, fd, m, F.binds (fun _ _ _ _ _ _ us hl => match us, hl with | [_, _], _ => rfl), F.ok sc_rd_init (fun vs H Q E h => ?_) (fun cdv A' outer s H vs Q E hr h => ?_)⟩
  · obtain ⟨r, dx, tl, l, rfl, _⟩ := h; rfl
  · refine ⟨_, (L2.pss_cons (ps_fld (pv 0) (pv 1) rfl) (L2.pss_one (ps_fld (pv 0) pe_int rfl))), ?_⟩
    obtain ⟨r, dx, tl, l, rfl, h1, h2, al, q⟩ := h
    refine ⟨_, rfl, _, rfl, r, A.rd, dx, [], rfl, h1, T.cl, T.no _ (by simp), (by show 0 < 1000; decide), ?_⟩
    refine ⟨_, rfl, r, A.rd, dx, _, rfl, upd_same, T.cl, T.no _ (by simp), (by show 1 < 1000; decide), ?_⟩
    have b : But r H (upd (upd H r (.ins A.rd dx (putF "tokens" (.ref tl) []))) r (.ins A.rd dx (putF "at" (.int 0) (putF "tokens" (.ref tl) [])))) := But.trans But.upd But.upd
    have ne : tl ≠ r := ne_of h2 h1 (by intro z; cases z)
    exact q _ b ⟨dx, tl, l, 0, ins_put (by ((repeat (first | exact put_here | refine put_past (by decide +kernel) ?_)); first | done | rfl)), b _ _ h2 ne, AllTok.but al h1 True.intro b, rfl⟩
def sp_front (A : Ad) : Sp := fun vs H Q _ => ∃ (r : Addr) (x : TR) (l : List TR), vs = [.ref r] ∧ RdAt A H r (x :: l) ∧ Q (.ref x.a) H
theorem sc_front : FnScope ["self"] ["self"] (defScope s_front) := ⟨rfl, rfl, rfl, by decide +kernel, rfl, by decide +kernel, by decide +kernel⟩
theorem refs_get {l : List TR} {i : Nat} {x : TR} (h : l[i]? = some x) : (refs l)[i]? = some (.ref x.a) := by
  unfold refs; rw [List.getElem?_map, h]; rfl
theorem g_front (D : Dm K A.rd "front" "TokenReader.front" s_front) (T : RdT K mg A) : Gm P w K mg base CX0 5 A.rd "front" ["self"] (sp_front A) := by
  obtain ⟨f, fd, m, F⟩ := D
  refine ⟨f, fd, m, F.binds (fun _ _ _ _ _ _ us hl => match us, hl with | [_], _ => rfl), F.ok sc_front (fun vs H Q E h => ?_) (fun cdv A' outer s H vs Q E hr h => ?_)⟩
  · obtain ⟨r, x, l, rfl, _⟩ := h; rfl
  · refine ⟨_, (L2.pss_one (ps_ret (pe_ix ix_list (pe_fld (pv 0) rfl) (pe_fld (pv 0) rfl) (fun _ _ => rfl)))), ?_⟩
    obtain ⟨r, x, l, rfl, ⟨dx, tl, l0, i, e1, e2, al, el⟩, q⟩ := h
    refine ⟨_, rfl, r, A.rd, dx, _, _, rfl, e1, T.cl, T.no _ (by simp), by unfold rdF; ((repeat (first | exact lk_here | refine lk_past (by decide +kernel) ?_)); first | done | rfl), _, rfl, r, A.rd, dx, _, _, rfl, e1, T.cl, T.no _ (by simp), by unfold rdF; ((repeat (first | exact lk_here | refine lk_past (by decide +kernel) ?_)); first | done | rfl), tl, _, _, _, rfl, rfl, SqL.of e2, atI_nat (refs_get (drop_head el).1), q⟩
def sp_stands (A : Ad) : Sp := fun vs H Q _ => ∃ (r : Addr) (x : TR) (l : List TR) (z : Str), vs = [.ref r, .str z] ∧ RdAt A H r (x :: l) ∧ Q (.bl (decide (valV x.t.tok = .str z))) H
theorem sc_stands : FnScope ["self", "value"] ["self", "value"] (defScope s_stands) := ⟨rfl, rfl, rfl, by decide +kernel, rfl, by decide +kernel, by decide +kernel⟩
theorem scal_val (t : VasedBase.Tok) (z : Str) : scal (valV t) (.str z) = true := by cases t <;> rfl
theorem rd_no {tl : Addr} {i : Nat} : ∀ m ∈ (["front", "stands", "take", "take_given", "take_letters", "take_letters_or_none", "take_number"] : List Str), (rdF tl i).lookup m = none := by
  intro m hm
  unfold rdF
  rw [lookup_if, lookup_if]
  have h1 : ¬ m = "tokens" := by rintro rfl; revert hm; decide +kernel
  have h2 : ¬ m = "at" := by rintro rfl; revert hm; decide +kernel
  rw [if_neg h1, if_neg h2]
  rfl
theorem g_stands (D : Dm K A.rd "stands" "TokenReader.stands" s_stands) (T : RdT K mg A) (TT : TokTxt K mg A.tok) (G1 : Gm P w K mg base CX0 5 A.rd "front" ["self"] (sp_front A)) : Gm P w K mg base CX0 10 A.rd "stands" ["self", "value"] (sp_stands A) := by
  obtain ⟨f, fd, m, F⟩ := D
  obtain ⟨f1, fd1, m1, b1, F1⟩ := G1
  refine ⟨f, fd, m, F.binds (fun _ _ _ _ _ _ us hl => match us, hl with | [_, _], _ => rfl), F.ok sc_stands (fun vs H Q E h => ?_) (fun cdv A' outer s H vs Q E hr h => ?_)⟩
  · obtain ⟨r, x, l, z, rfl, _⟩ := h; rfl
  · refine ⟨_, (L2.pss_one (ps_ret (pe_cmpR op_eq (pe_still (pe_meth0 (pv 0) T.cl m1 F1 (hr.mono (by decide)) b1 .nil pass0)) (pv 1) (nomark _)))), ?_⟩
    obtain ⟨r, x, l, z, rfl, hR, q⟩ := h
    have hR' := hR
    obtain ⟨dx, tl, l0, i, e1, e2, al, el⟩ := hR'
    refine ⟨_, rfl, r, dx, _, rfl, e1, rd_no _ (by simp), r, x, l, rfl, hR, x.a, A.tok, _, _, _, _, rfl, hR.head.1, TT.cl, TT.n2, lookup_value, _, rfl, scal_val _ _, q⟩
end
end LD

namespace LN
open PySem PySem.Spec PyProof.Rows L2
section
variable {X : Cx} {pos : Pos}
/-- a written text: its token is new -/
def nStr (z : Str) : TEN := fun _ n H Q => ∀ t, n ≤ t → Q (.str z t) (t + 1) (.str z) H
theorem pen_str {z : Str} {j : Nat} : PEN X (.Constant (.str z) j pos) (nStr z) := ⟨fun pins s σ n H Q hn I h => Calls.Constant_str ⟨.str z, H, s.toks + 1, I.tok _, ⟨_, rfl⟩, Nat.le_refl _, h _ hn⟩⟩
end
end LN
namespace LD
open PySem PySem.Spec PyProof.Rows L2 LN
open VasedBase (Bytes)
/-- a method so told -/
def GmN (P : Program) (w : World) (K : PySem.W.Frag) (mg : Str → Option Value) (base : Heap) (CX : CXT) (k : Nat) (C : Addr) (m : Str) (ps : List Str) (sp : SpN) : Prop :=
  ∃ f fd, Meth K C m f ∧ Binds K fd ps [] ∧ FnN P w K mg base CX k f fd ps sp
section
variable {P : Program} {w : World} {K : PySem.W.Frag} {mg : Str → Option Value} {base : Heap} {A : Ad}
theorem GmN.plain {CX : CXT} {k : Nat} {C : Addr} {x : Str} {ps : List Str} {sp : SpN} (G : GmN P w K mg base CX k C x ps sp) : Gm P w K mg base CX k C x ps (plainSp sp) := by
  obtain ⟨f, fd, a, b, d⟩ := G
  exact ⟨f, fd, a, b, d.plain⟩
def sp_take (A : Ad) : Sp := fun vs H Q _ => ∃ (r : Addr) (x : TR) (l : List TR), vs = [.ref r] ∧ RdAt A H r (x :: l) ∧ ∀ H', But r H H' → RdAt A H' r l → TokAt A.tok H' x.a x.t x.e x.u → Q (.ref x.a) H'
theorem sc_take : FnScope ["self", "token"] ["self"] (defScope s_take) := ⟨rfl, rfl, rfl, by decide +kernel, rfl, by decide +kernel, by decide +kernel⟩
theorem g_take (D : Dm K A.rd "take" "TokenReader.take" s_take) (T : RdT K mg A) (G1 : Gm P w K mg base CX0 5 A.rd "front" ["self"] (sp_front A)) : Gm P w K mg base CX0 10 A.rd "take" ["self"] (sp_take A) := by
  obtain ⟨f, fd, m, F⟩ := D
  obtain ⟨f1, fd1, m1, b1, F1⟩ := G1
  refine ⟨f, fd, m, F.binds (fun _ _ _ _ _ _ us hl => match us, hl with | [_], _ => rfl), F.ok sc_take (fun vs H Q E h => ?_) (fun cdv A' outer s H vs Q E hr h => ?_)⟩
  · obtain ⟨r, x, l, rfl, _⟩ := h; rfl
  · refine ⟨_, (L2.pss_cons (ps_set (i := 1) sc_take.nd rfl (.inl rfl) (pe_meth0 (pv 0) T.cl m1 F1 (hr.mono (by decide)) b1 .nil pass0)) (L2.pss_cons (ps_fldaug (pv 0) pe_int in_add) (L2.pss_one (ps_ret (pv 1))))), ?_⟩
    obtain ⟨r, x, l, rfl, hR, q⟩ := h
    have hR' := hR
    obtain ⟨dx, tl, l0, i, e1, e2, al, el⟩ := hR'
    refine ⟨_, rfl, r, dx, _, rfl, e1, rd_no _ (by simp), r, x, l, rfl, hR, ?_⟩
    refine ⟨_, rfl, r, A.rd, dx, _, _, rfl, e1, T.cl, T.no _ (by simp), by unfold rdF; ((repeat (first | exact lk_here | refine lk_past (by decide +kernel) ?_)); first | done | rfl), _, _, rfl, rfl, dx, _, e1, (by show 2 < 1000; decide), _, rfl, ?_⟩
    have b : But r H (upd H r (.ins A.rd dx (putF "at" (.int ((i : Int) + 1)) (rdF tl i)))) := But.upd
    have ne : tl ≠ r := ne_of e2 e1 (by intro z; cases z)
    refine q _ b ⟨dx, tl, l0, i + 1, ins_put ?_, b _ _ e2 ne, AllTok.but al e1 True.intro b, (drop_head el).2⟩ (hR.head.but e1 True.intro b)
    show putF "at" (.int ((i : Int) + 1)) [("tokens", .ref tl), ("at", .int i)] = rdF tl (i + 1)
    refine (put_past (by decide +kernel) put_here).trans ?_
    rfl
def sp_take_given (A : Ad) : Sp := fun vs H Q E => ∃ (r : Addr) (x : TR) (l : List TR) (z : Str), vs = [.ref r, .str z] ∧ RdAt A H r (x :: l) ∧
  (valV x.t.tok = .str z → ∀ H', But r H H' → RdAt A H' r l → Q .non H') ∧ (¬ valV x.t.tok = .str z → FE A.fa E (But r H) 3 x.t.place)
theorem sc_take_given : FnScope ["self", "value", "token"] ["self", "value"] (defScope s_take_given) := ⟨rfl, rfl, rfl, by decide +kernel, rfl, by decide +kernel, by decide +kernel⟩
theorem but_xd {r : Addr} {H H1 : Hp} {d : Addr} {o : HO} (s : But r H H1) (n : H1 d = none) : But r H (upd H1 d o) := s.trans (Same.but (same_new n))
theorem g_take_given (D : Dm K A.rd "take_given" "TokenReader.take_given" s_take_given) (T : RdT K mg A) (TX : Txt K mg) (TF : PySem.FaX.FaTxt K mg A.fa A.faI) (TT : TokTxt K mg A.tok) (G1 : Gm P w K mg base CX0 10 A.rd "take" ["self"] (sp_take A)) :
    Gm P w K mg base (L2.CX P w) 15 A.rd "take_given" ["self", "value"] (sp_take_given A) := by
  obtain ⟨f, fd, m, F⟩ := D
  obtain ⟨f1, fd1, m1, b1, F1⟩ := G1
  refine ⟨f, fd, m, F.binds (fun _ _ _ _ _ _ us hl => match us, hl with | [_, _], _ => rfl), F.okX sc_take_given (fun vs H Q E h => ?_) (fun cdv A' outer s H vs Q E hr h => ?_)⟩
  · obtain ⟨r, x, l, z, rfl, _⟩ := h; rfl
  · refine ⟨_, (L2.pss_cons (ps_set (i := 2) sc_take_given.nd rfl (.inl rfl) (pe_meth0 (pv 0) T.cl m1 F1 (hr.mono (by decide)) b1 .nil pass0)) (L2.pss_one (ps_if (pt_cmpR op_ne (pe_still (pv 2)) (pv 1) (nomark _)) (L2.pss_one (ps_raiseFa rfl TF (k := 3) (hr.mono (by decide)) (takes_of rfl rfl rfl rfl) (L2.pa_cons (pe_k TX.kNOT_ALLOWED) (L2.pa_cons (pe_still (pv 2)) L2.pa_nil)))) L2.pss_nil))), ?_⟩
    obtain ⟨r, x, l, z, rfl, hR, q1, q2⟩ := h
    have hR' := hR
    obtain ⟨dx, tl, l0, i, e1, e2, al, el⟩ := hR'
    refine ⟨_, rfl, r, dx, _, rfl, e1, rd_no _ (by simp), r, x, l, rfl, hR, fun H1 bt R1 tk => ?_⟩
    refine ⟨_, rfl, x.a, A.tok, _, _, _, _, rfl, tk.1, TT.cl, TT.n2, lookup_value, _, rfl, scal_val _ _, _, rfl, ?_⟩
    refine if_iff (p := ¬ valV x.t.tok = .str z) (by simp) (fun hn => ?_) fun hn => ?_
    · exact ⟨_, rfl, x.a, A.tok, _, _, _, _, rfl, tk.1, TT.cl, TT.n3, lookup_place, _, _, rfl, fun d hd => q2 hn d _ (but_xd bt hd) upd_same⟩
    · exact q1 (Decidable.of_not_not hn) H1 bt R1
/-! ### letters -/
theorem kind_letters (t : VasedBase.Tok) : (kindV t = .str "letters") ↔ ∃ b, t = .name b ∧ VasedBase.RESERVED.contains b = false := by
  have h1 : ¬ V.str "own word" = V.str "letters" := by decide +kernel
  have h2 : ¬ V.str "number" = V.str "letters" := by decide +kernel
  have h3 : ¬ V.str "sign" = V.str "letters" := by decide +kernel
  have h4 : ¬ V.str "end" = V.str "letters" := by decide +kernel
  cases t with
  | name b =>
    show ((if VasedBase.RESERVED.contains b = true then V.str "own word" else V.str "letters") = _) ↔ _
    cases e : VasedBase.RESERVED.contains b
    · rw [if_neg Bool.false_ne_true]; exact ⟨fun _ => ⟨b, rfl, e⟩, fun _ => rfl⟩
    · rw [if_pos rfl]
      refine ⟨fun z => absurd z h1, fun ⟨b', e1, e2⟩ => ?_⟩
      cases e1; rw [e] at e2; cases e2
  | num n => exact ⟨fun z => absurd z h2, fun ⟨_, e, _⟩ => by cases e⟩
  | sign n => exact ⟨fun z => absurd z h3, fun ⟨_, e, _⟩ => by cases e⟩
  | last => exact ⟨fun z => absurd z h4, fun ⟨_, e, _⟩ => by cases e⟩
def sp_take_letters (A : Ad) : SpN := fun vs n H Q E => ∃ (r : Addr) (x : TR) (l : List TR), vs = [.ref r] ∧ RdAt A H r (x :: l) ∧
  (∀ b, x.t.tok = .name b → VasedBase.RESERVED.contains b = false → ∀ H', But r H H' → RdAt A H' r l → Q x.u n (.str (bS b)) H') ∧ ((¬ ∃ b, x.t.tok = .name b ∧ VasedBase.RESERVED.contains b = false) → FE A.fa E (But r H) 3 x.t.place)
theorem sc_take_letters : FnScope ["self", "token"] ["self"] (defScope s_take_letters) := ⟨rfl, rfl, rfl, by decide +kernel, rfl, by decide +kernel, by decide +kernel⟩
theorem scal_kind (t : VasedBase.Tok) (z : Str) : scal (kindV t) (.str z) = true := by
  cases t with
  | name b =>
    show scal (if VasedBase.RESERVED.contains b = true then V.str "own word" else V.str "letters") _ = true
    split <;> rfl
  | _ => rfl
theorem g_take_letters (D : Dm K A.rd "take_letters" "TokenReader.take_letters" s_take_letters) (T : RdT K mg A) (TX : Txt K mg) (TF : PySem.FaX.FaTxt K mg A.fa A.faI) (TT : TokTxt K mg A.tok) (G1 : Gm P w K mg base CX0 10 A.rd "take" ["self"] (sp_take A)) :
    GmN P w K mg base (L2.CX P w) 15 A.rd "take_letters" ["self"] (sp_take_letters A) := by
  obtain ⟨f, fd, m, F⟩ := D
  obtain ⟨f1, fd1, m1, b1, F1⟩ := G1
  refine ⟨f, fd, m, F.binds (fun _ _ _ _ _ _ us hl => match us, hl with | [_], _ => rfl), fnN_of F sc_take_letters (fun vs n H Q E h => ?_) (fun cdv A' outer s n H vs Q E hr h => ?_)⟩
  · obtain ⟨r, x, l, rfl, _⟩ := h; rfl
  · refine ⟨_, (LN.pssn_cons (psn_of (ps_set (i := 1) sc_take_letters.nd rfl (.inl rfl) (pe_meth0 (pv 0) T.cl m1 F1 (hr.mono (by decide)) b1 .nil pass0))) (LN.pssn_cons (psn_of (ps_if (pt_cmpR op_ne (pe_still (pv 1)) (pe_k TX.kLETTERS_WORD) (nomark _)) (L2.pss_one (ps_raiseFa rfl TF (k := 3) (hr.mono (by decide)) (takes_of rfl rfl rfl rfl) (L2.pa_cons (pe_k TX.kNOT_ALLOWED) (L2.pa_cons (pe_still (pv 1)) L2.pa_nil)))) L2.pss_nil)) (LN.pssn_one (psn_ret (pen_still (pv 1)))))), ?_⟩
    obtain ⟨r, x, l, rfl, hR, q1, q2⟩ := h
    have hR' := hR
    obtain ⟨dx, tl, l0, i, e1, e2, al, el⟩ := hR'
    refine ⟨_, rfl, r, dx, _, rfl, e1, rd_no _ (by simp), r, x, l, rfl, hR, fun H1 bt R1 tk => ?_⟩
    refine ⟨_, rfl, x.a, A.tok, _, _, _, _, rfl, tk.1, TT.cl, TT.n1, lookup_kind, scal_kind _ _, _, rfl, ?_⟩
    refine if_iff (p := ¬ kindV x.t.tok = .str "letters") (by simp) (fun hn => ?_) fun hn => ?_
    · exact ⟨_, rfl, x.a, A.tok, _, _, _, _, rfl, tk.1, TT.cl, TT.n3, lookup_place, _, _, rfl, fun d hd => q2 (fun z => hn ((kind_letters _).mpr z)) d _ (but_xd bt hd) upd_same⟩
    · obtain ⟨b, eb, er⟩ := (kind_letters _).mp (Decidable.of_not_not hn)
      have ev : valV x.t.tok = .str (bS b) := by rw [eb]; rfl
      refine ⟨_, rfl, x.a, A.tok, _, _, _, rfl, tk.1, TT.cl, TT.n2, lookup_value, ?_⟩
      rw [ev]
      exact q1 b eb er H1 bt R1
def sp_take_letters_or_none (A : Ad) : SpN := fun vs n H Q E => ∃ (r : Addr) (x : TR) (l : List TR), vs = [.ref r] ∧ RdAt A H r (x :: l) ∧
  (valV x.t.tok = .str "none" → ∀ H' t, But r H H' → RdAt A H' r l → n ≤ t → Q (.str "" t) (t + 1) (.str "") H') ∧
  (¬ valV x.t.tok = .str "none" → (∀ b, x.t.tok = .name b → VasedBase.RESERVED.contains b = false → ∀ H', But r H H' → RdAt A H' r l → Q x.u n (.str (bS b)) H') ∧ ((¬ ∃ b, x.t.tok = .name b ∧ VasedBase.RESERVED.contains b = false) → FE A.fa E (But r H) 3 x.t.place))
theorem sc_take_letters_or_none : FnScope ["self"] ["self"] (defScope s_take_letters_or_none) := ⟨rfl, rfl, rfl, by decide +kernel, rfl, by decide +kernel, by decide +kernel⟩
theorem g_take_letters_or_none (D : Dm K A.rd "take_letters_or_none" "TokenReader.take_letters_or_none" s_take_letters_or_none) (T : RdT K mg A) (G1 : Gm P w K mg base CX0 10 A.rd "take" ["self"] (sp_take A)) (G2 : Gm P w K mg base CX0 10 A.rd "stands" ["self", "value"] (sp_stands A))
    (G3 : GmN P w K mg base (L2.CX P w) 15 A.rd "take_letters" ["self"] (sp_take_letters A)) : GmN P w K mg base (L2.CX P w) 20 A.rd "take_letters_or_none" ["self"] (sp_take_letters_or_none A) := by
  obtain ⟨f, fd, m, F⟩ := D
  obtain ⟨f1, fd1, m1, b1, F1⟩ := G1
  obtain ⟨f2, fd2, m2, b2, F2⟩ := G2
  obtain ⟨f3, fd3, m3, b3, F3⟩ := G3
  refine ⟨f, fd, m, F.binds (fun _ _ _ _ _ _ us hl => match us, hl with | [_], _ => rfl), fnN_of F sc_take_letters_or_none (fun vs n H Q E h => ?_) (fun cdv A' outer s n H vs Q E hr h => ?_)⟩
  · obtain ⟨r, x, l, rfl, _⟩ := h; rfl
  · refine ⟨_, (LN.pssn_cons (psn_if (pt_val (pe_meth (pv 0) T.cl m2 F2 (hr.mono (by decide)) b2 .nil pass0 (L2.pa_cons (pe_str) L2.pa_nil))) (LN.pssn_cons (psn_of (ps_expr (pe_meth0 (pv 0) T.cl m1 F1 (hr.mono (by decide)) b1 .nil pass0))) (LN.pssn_one (psn_ret pen_str))) LN.pssn_nil) (LN.pssn_one (psn_ret (pen_meth0 (pv 0) T.cl m3 F3 (hr.mono (by decide)) b3 (passes_call (takes_of rfl rfl rfl rfl) (fun _ _ _ _ h => h)))))), ?_⟩
    obtain ⟨r, x, l, rfl, hR, q1, q2⟩ := h
    have hR' := hR
    obtain ⟨dx, tl, l0, i, e1, e2, al, el⟩ := hR'
    refine ⟨_, rfl, r, dx, _, rfl, e1, rd_no _ (by simp), r, x, l, _, rfl, hR, _, rfl, ?_⟩
    refine if_iff (p := valV x.t.tok = .str "none") (by simp) (fun hn => ?_) fun hn => ?_
    · exact ⟨_, rfl, r, dx, _, rfl, e1, rd_no _ (by simp), r, x, l, rfl, hR, fun H1 bt R1 _ t ht => q1 hn H1 t bt R1 ht⟩
    · exact ⟨_, rfl, r, dx, _, rfl, e1, rd_no _ (by simp), r, x, l, rfl, hR, (q2 hn).1, (q2 hn).2⟩
/-! ### a number -/
def sp_take_number (A : Ad) : Sp := fun vs H Q E => ∃ (r : Addr) (x : TR) (l : List TR) (lo hi : Nat), vs = [.ref r, .int lo, .int hi] ∧ RdAt A H r (x :: l) ∧
  (∀ n, x.t.tok = .num n → lo ≤ n → n ≤ hi → ∀ H', But r H H' → RdAt A H' r l → Q (.int n) H') ∧ (∀ n, x.t.tok = .num n → (n < lo ∨ hi < n) → FE A.fa E (But r H) 7 x.t.place) ∧ ((¬ ∃ n, x.t.tok = .num n) → FE A.fa E (But r H) 3 x.t.place)
theorem sc_take_number : FnScope ["self", "least", "most", "token"] ["self", "least", "most"] (defScope s_take_number) := ⟨rfl, rfl, rfl, by decide +kernel, rfl, by decide +kernel, by decide +kernel⟩
theorem kind_number (t : VasedBase.Tok) : (kindV t = .str "number") ↔ ∃ n, t = .num n := by
  have h1 : ¬ V.str "own word" = V.str "number" := by decide +kernel
  have h2 : ¬ V.str "letters" = V.str "number" := by decide +kernel
  have h3 : ¬ V.str "sign" = V.str "number" := by decide +kernel
  have h4 : ¬ V.str "end" = V.str "number" := by decide +kernel
  cases t with
  | name b =>
    show ((if VasedBase.RESERVED.contains b = true then V.str "own word" else V.str "letters") = _) ↔ _
    split
    · exact ⟨fun z => absurd z h1, fun ⟨_, e⟩ => by cases e⟩
    · exact ⟨fun z => absurd z h2, fun ⟨_, e⟩ => by cases e⟩
  | num n => exact ⟨fun _ => ⟨n, rfl⟩, fun _ => rfl⟩
  | sign n => exact ⟨fun z => absurd z h3, fun ⟨_, e⟩ => by cases e⟩
  | last => exact ⟨fun z => absurd z h4, fun ⟨_, e⟩ => by cases e⟩
theorem g_take_number (D : Dm K A.rd "take_number" "TokenReader.take_number" s_take_number) (T : RdT K mg A) (TX : Txt K mg) (TF : PySem.FaX.FaTxt K mg A.fa A.faI) (TT : TokTxt K mg A.tok) (G1 : Gm P w K mg base CX0 10 A.rd "take" ["self"] (sp_take A)) :
    Gm P w K mg base (L2.CX P w) 15 A.rd "take_number" ["self", "least", "most"] (sp_take_number A) := by
  obtain ⟨f, fd, m, F⟩ := D
  obtain ⟨f1, fd1, m1, b1, F1⟩ := G1
  refine ⟨f, fd, m, F.binds (fun _ _ _ _ _ _ us hl => match us, hl with | [_, _, _], _ => rfl), F.okX sc_take_number (fun vs H Q E h => ?_) (fun cdv A' outer s H vs Q E hr h => ?_)⟩
  · obtain ⟨r, x, l, lo, hi, rfl, _⟩ := h; rfl
  · refine ⟨_, (L2.pss_cons (ps_set (i := 3) sc_take_number.nd rfl (.inl rfl) (pe_meth0 (pv 0) T.cl m1 F1 (hr.mono (by decide)) b1 .nil pass0)) (L2.pss_cons (ps_if (pt_cmpR op_ne (pe_still (pv 3)) (pe_k TX.kNUMBER) (nomark _)) (L2.pss_one (ps_raiseFa rfl TF (k := 3) (hr.mono (by decide)) (takes_of rfl rfl rfl rfl) (L2.pa_cons (pe_k TX.kNOT_ALLOWED) (L2.pa_cons (pe_still (pv 3)) L2.pa_nil)))) L2.pss_nil) (L2.pss_cons (ps_if (PW.pt (pw_or (pt_cmpR op_lt (pe_still (pv 3)) (pv 1) (nomark _)) (pw_or1 (pt_cmpR op_gt (pe_still (pv 3)) (pv 2) (nomark _))))) (L2.pss_one (ps_raiseFa rfl TF (k := 3) (hr.mono (by decide)) (takes_of rfl rfl rfl rfl) (L2.pa_cons (pe_k TX.kOUT_OF_BOUNDS) (L2.pa_cons (pe_still (pv 3)) L2.pa_nil)))) L2.pss_nil) (L2.pss_one (ps_ret (pe_still (pv 3))))))), ?_⟩
    obtain ⟨r, x, l, lo, hi, rfl, hR, q1, q2, q3⟩ := h
    have hR' := hR
    obtain ⟨dx, tl, l0, i, e1, e2, al, el⟩ := hR'
    refine ⟨_, rfl, r, dx, _, rfl, e1, rd_no _ (by simp), r, x, l, rfl, hR, fun H1 bt R1 tk => ?_⟩
    refine ⟨_, rfl, x.a, A.tok, _, _, _, _, rfl, tk.1, TT.cl, TT.n1, lookup_kind, scal_kind _ _, _, rfl, ?_⟩
    refine if_iff (p := ¬ kindV x.t.tok = .str "number") (by simp) (fun hn => ?_) fun hn => ?_
    · exact ⟨_, rfl, x.a, A.tok, _, _, _, _, rfl, tk.1, TT.cl, TT.n3, lookup_place, _, _, rfl, fun d hd => q3 (fun z => hn ((kind_number _).mpr z)) d _ (but_xd bt hd) upd_same⟩
    · obtain ⟨n, en⟩ := (kind_number _).mp (Decidable.of_not_not hn)
      have ev : valV x.t.tok = .int n := by rw [en]; rfl
      have st := tk.1
      rw [ev] at st
      have bad : (n < lo ∨ hi < n) → ∀ d, H1 d = none → E (.ref A.fa) (some d) (upd H1 d (.xd (faF (.int 7) (.int x.t.place)))) := fun h d hd => q2 n en h d _ (but_xd bt hd) upd_same
      refine ⟨_, rfl, x.a, A.tok, _, _, _, _, rfl, st, TT.cl, TT.n2, lookup_value, _, rfl, _, _, rfl, rfl, _, rfl, ?_⟩
      refine if_iff (p := n < lo) (by simp) (fun h1 => if_true_of rfl ?_) fun h1 => ⟨_, rfl, x.a, A.tok, _, _, _, _, rfl, st, TT.cl, TT.n2, lookup_value, _, rfl, _, _, rfl, rfl, _, rfl, if_iff (p := hi < n) (by simp) (fun h2 => ?_) fun h2 => ?_⟩
      · exact ⟨_, rfl, x.a, A.tok, _, _, _, _, rfl, st, TT.cl, TT.n3, lookup_place, _, _, rfl, bad (.inl h1)⟩
      · exact ⟨_, rfl, x.a, A.tok, _, _, _, _, rfl, st, TT.cl, TT.n3, lookup_place, _, _, rfl, bad (.inr h2)⟩
      · exact ⟨_, rfl, x.a, A.tok, _, _, _, _, rfl, st, TT.cl, TT.n2, lookup_value, q1 n en (by omega) (by omega) H1 bt R1⟩
end
end LD

namespace LD
open PySem PySem.Spec PyProof.Rows L2 LN
open VasedBase (Bytes PTok Toks nextWord word)
open Vaseda (takeAddr takeLetters takeNum takeDeed takeInstead)
abbrev s_read_nots : Stmt := top 61
abbrev s_read_address : Stmt := top 62
/-- the tokens as the specification has them -/
abbrev ts (l : List TR) : Toks := l.map TR.t
/-- a word that is neither the sign nor nothing -/
theorem val_word {t : PTok} {r : Toks} (g : Gt t.tok) (s : String) (h0 : word s ≠ []) (h1 : word s ≠ [59]) : valV t.tok = .str (bS (word s)) ↔ nextWord s (t :: r) = true := by
  rw [next_iff]
  cases e : t.tok with
  | name b =>
    show V.str (bS b) = _ ↔ _
    constructor
    · intro h; injection h with h; rw [bS_inj h]
    · intro h; injection h with h; rw [h]
  | num n => exact ⟨fun h => (by cases h), fun h => (by cases h)⟩
  | sign c =>
    have hc : c = 59 := by
      rw [e] at g
      rcases g with g | g
      · exact g
      · cases g
    subst hc
    constructor
    · intro h
      have h : V.str (bS [59]) = .str (bS (word s)) := h
      injection h with h
      exact absurd (bS_inj h).symm h1
    · intro h; cases h
  | last =>
    constructor
    · intro h
      have h : V.str "" = .str (bS (word s)) := h
      injection h with h
      rw [bS_nil] at h
      exact absurd (bS_inj h).symm h0
    · intro h; cases h
theorem in_words {t : PTok} {r : Toks} (g : Gt t.tok) : ∀ (ws : List String), (∀ s ∈ ws, word s ≠ [] ∧ word s ≠ [59]) → inV (valV t.tok) (ws.map fun s => V.str (bS (word s))) = ws.any fun s => nextWord s (t :: r)
  | [], _ => rfl
  | s :: ws, h => by
    have ih := in_words (r := r) g ws fun s' hs => h s' (List.mem_cons_of_mem _ hs)
    unfold inV at ih ⊢
    rw [List.map_cons, List.any_cons, List.any_cons, ih]
    congr 1
    have e : eqV (V.str (bS (word s))) (valV t.tok) = decide (valV t.tok = V.str (bS (word s))) := by
      cases e : valV t.tok with
      | str z =>
        show (bS (word s) == z) = _
        rw [Bool.eq_iff_iff, beq_iff_eq, decide_eq_true_iff]
        exact ⟨fun h => by rw [h], fun h => by injection h with h; exact h.symm⟩
      | _ => rfl
    rw [e, Bool.eq_iff_iff, decide_eq_true_iff]
    exact val_word g s (h s List.mem_cons_self).1 (h s List.mem_cons_self).2
section
variable {P : Program} {w : World} {K : PySem.W.Frag} {mg : Str → Option Value} {base : Heap} {A : Ad}
/-! ### nots -/
def sp_read_nots (A : Ad) : Sp := fun vs H Q E => ∃ (r : Addr) (l : List TR) (F : Nat), vs = [.ref r] ∧ RdAt A H r l ∧ Ends (ts l) ∧ l.length < F ∧
  (∀ pl, takeAddr F 0 (ts l) = .error ⟨4, pl⟩ → FE A.fa E (But r H) 4 pl) ∧
  (∀ (k : Nat) (l' : List TR) H', But r H H' → RdAt A H' r l' → Ends (ts l') → l'.length ≤ l.length → takeAddr F 0 (ts l) = (core (ts l')).map (fun x => (nest k x.1, x.2)) → k ≤ 3 → (∃ pre, l = pre ++ l') → Q (.int k) H')
theorem sc_read_nots : FnScope ["reader", "nots"] ["reader"] (defScope s_read_nots) := ⟨rfl, rfl, rfl, by decide +kernel, rfl, by decide +kernel, by decide +kernel⟩
theorem map_nest {x : Except VasedBase.Fault (Vaseda.Addr × Toks)} {k : Nat} : (x.map fun y => (Vaseda.Addr.not y.1, y.2)).map (fun y => (nest k y.1, y.2)) = x.map fun y => (nest (k + 1) y.1, y.2) := by cases x <;> rfl
theorem map_id0 {x : Except VasedBase.Fault (Vaseda.Addr × Toks)} : x = x.map (fun y => (nest 0 y.1, y.2)) := by cases x <;> rfl
theorem ends_cons {l : List TR} (h : Ends (ts l)) : ∃ x l', l = x :: l' := by
  cases l with
  | nil => exact h.elim
  | cons x l' => exact ⟨x, l', rfl⟩
theorem g_read_nots (D : Dn K mg "read_nots" s_read_nots) (T : RdT K mg A) (TX : Txt K mg) (TF : PySem.FaX.FaTxt K mg A.fa A.faI) (TT : TokTxt K mg A.tok) (G1 : Gm P w K mg base CX0 5 A.rd "front" ["self"] (sp_front A)) (G2 : Gm P w K mg base CX0 10 A.rd "stands" ["self", "value"] (sp_stands A))
    (G3 : Gm P w K mg base CX0 10 A.rd "take" ["self"] (sp_take A)) : Gd P w K mg base (L2.CX P w) 25 "read_nots" ["reader"] (sp_read_nots A) := by
  obtain ⟨f, fd, m, F⟩ := D
  obtain ⟨f1, fd1, m1, b1, F1⟩ := G1
  obtain ⟨f2, fd2, m2, b2, F2⟩ := G2
  obtain ⟨f3, fd3, m3, b3, F3⟩ := G3
  refine ⟨f, fd, m, F.kp, F.binds (fun _ _ _ _ _ _ us hl => match us, hl with | [_], _ => rfl), F.okX sc_read_nots (fun vs H Q E h => ?_) (fun cdv A' outer s H vs Q E hr h => ?_)⟩
  · obtain ⟨r, l, F0, rfl, _⟩ := h; rfl
  · refine ⟨_, (L2.pss_cons (ps_set (i := 1) sc_read_nots.nd rfl (.inl rfl) pe_int) (L2.pss_cons (ps_while (passes_of rfl) (pt_val (pe_meth (pv 0) T.cl m2 F2 (hr.mono (by decide)) b2 .nil pass0 (L2.pa_cons (pe_str) L2.pa_nil))) (L2.pss_cons (ps_if (pt_cmpR op_eq (pv 1) (pe_k TX.kMOST_NOTS) (nomark _)) (L2.pss_one (ps_raiseFa rfl TF (k := 3) (hr.mono (by decide)) (takes_of rfl rfl rfl rfl) (L2.pa_cons (pe_k TX.kTOO_MANY) (L2.pa_cons (pe_still (pe_meth0 (pv 0) T.cl m1 F1 (hr.mono (by decide)) b1 .nil pass0)) L2.pa_nil)))) L2.pss_nil) (L2.pss_cons (ps_expr (pe_meth0 (pv 0) T.cl m3 F3 (hr.mono (by decide)) b3 .nil pass0)) (L2.pss_one (ps_aug (i := 1) sc_read_nots.nd rfl (.inl rfl) pe_int ip_add))))) (L2.pss_one (ps_ret (pv 1))))), ?_⟩
    obtain ⟨r, l, F0, rfl, hR, hE, hF, qE, qQ⟩ := h
    refine ⟨fun mm σ H' => ∃ (k : Nat) (l' : List TR) (F' : Nat), mm = l'.length ∧ σ = [some (.ref r), some (.int k)] ∧ But r H H' ∧ RdAt A H' r l' ∧ Ends (ts l') ∧ l'.length < F' ∧ l'.length ≤ l.length ∧ k ≤ 3 ∧ (∃ pre, l = pre ++ l') ∧
      takeAddr F0 0 (ts l) = (takeAddr F' k (ts l')).map (fun x => (nest k x.1, x.2)), ⟨_, 0, l, F0, rfl, rfl, fun _ _ e _ => e, hR, hE, hF, Nat.le_refl _, by decide, ⟨[], rfl⟩, map_id0⟩, ?_⟩
    rintro mm σ H' ⟨k, l', F', rfl, rfl, bt, R', E', hF', hl', hk, ⟨pre, hpre⟩, te⟩
    obtain ⟨x, l2, rfl⟩ := ends_cons E'
    have RR := R'
    obtain ⟨dx, tl, l0, i, e1, e2, al, el⟩ := RR
    obtain ⟨F2, rfl⟩ : ∃ F2, F' = F2 + 1 := ⟨F' - 1, by have := hF'; simp at this; omega⟩
    have hnot : valV x.t.tok = .str "not" ↔ nextWord "not" (ts (x :: l2)) = true := by
      have e : ("not" : Str) = bS (word "not") := by decide +kernel
      rw [e]
      exact val_word E'.gt "not" (by decide +kernel) (by decide +kernel)
    refine ⟨_, rfl, r, dx, _, rfl, e1, rd_no _ (by simp), r, x, l2, _, rfl, R', _, rfl, ?_⟩
    refine if_iff (p := nextWord "not" (ts (x :: l2)) = true) (by rw [decide_eq_true_iff]; exact hnot) (fun hn => ?_) fun hn => ?_
    · have step := addr_not (f := F2) (n := k) hn
      refine ⟨fun σ' H'' => ∃ (k' : Nat) (l'' : List TR) (F'' : Nat), l''.length < (x :: l2).length ∧ σ' = [some (.ref r), some (.int k')] ∧ But r H H'' ∧ RdAt A H'' r l'' ∧ Ends (ts l'') ∧ l''.length < F'' ∧ l''.length ≤ l.length ∧ k' ≤ 3 ∧ (∃ pre, l = pre ++ l'') ∧
        takeAddr F0 0 (ts l) = (takeAddr F'' k' (ts l'')).map (fun x => (nest k' x.1, x.2)), fun σ' H'' ⟨k', l'', F'', h1, h2⟩ => ⟨l''.length, h1, k', l'', F'', rfl, h2⟩, ?_⟩
      refine ⟨_, rfl, rfl, _, rfl, ?_⟩
      refine if_iff (p := k = 3) (by rw [decide_eq_true_iff]; exact ⟨fun z => by injection z with z; omega, fun z => by rw [z]; rfl⟩) (fun h3 => ?_) fun h3 => ?_
      · rw [if_pos (by unfold Vaseda.NOTS; omega)] at step
        refine ⟨_, rfl, r, dx, _, rfl, e1, rd_no _ (by simp), r, x, l2, rfl, R', x.a, A.tok, _, _, _, _, rfl, R'.head.1, TT.cl, TT.n3, lookup_place, _, _, rfl, fun d hd => ?_⟩
        exact qE x.t.place (by rw [te, step]; rfl) d _ (but_xd bt hd) upd_same
      · rw [if_neg (by unfold Vaseda.NOTS; omega)] at step
        refine ⟨_, rfl, r, dx, _, rfl, e1, rd_no _ (by simp), r, x, l2, rfl, R', fun H1 bt1 R1 _ => ?_⟩
        refine ⟨_, rfl, _, _, rfl, rfl, k + 1, l2, F2, by simp, rfl, bt.trans bt1, R1, E'.next hn, by have := hF'; simp at this; omega, by simp at hl'; omega, by omega, ⟨pre ++ [x], by rw [hpre]; simp⟩, ?_⟩
        rw [te, step]
        exact map_nest
    · have hn' : nextWord "not" (ts (x :: l2)) = false := Bool.eq_false_iff.mpr hn
      refine ⟨_, rfl, qQ k (x :: l2) H' bt R' E' hl' ?_ hk ⟨pre, hpre⟩⟩
      rw [te, addr_core hn']
/-! ### an address -/
def addrV : Vaseda.Addr → List V
  | .all => [.str "all"]
  | .line n => [.str "line", .int n]
  | .span a b => [.str "from", .int a, .int b]
  | .last => [.str "last"]
  | .has w => [.str "has", .str (bS w)]
  | .is_ w => [.str "is", .str (bS w)]
  | .not _ => []
def sp_read_address (A : Ad) : Sp := fun vs H Q E => ∃ (r : Addr) (l : List TR), vs = [.ref r] ∧ RdAt A H r l ∧ Ends (ts l) ∧
  (∀ f, core (ts l) = .error f → FE A.fa E (But r H) f.code f.place) ∧
  (∀ a l' p H', core (ts l) = .ok (a, ts l') → But r H H' → RdAt A H' r l' → Ends (ts l') → l'.length < l.length → CoreOk a → (∃ pre, l = pre ++ l') → H' p = some (.tup (addrV a)) → Q (.ref p) H')
theorem sc_read_address : FnScope ["reader", "token", "name", "begin"] ["reader"] (defScope s_read_address) := ⟨rfl, rfl, rfl, by decide +kernel, rfl, by decide +kernel, by decide +kernel⟩
theorem flat_val (t : VasedBase.Tok) : flatV (valV t) = true := by cases t <;> rfl
theorem val_of {t : PTok} {r : Toks} {s : String} {z : Str} (h : nextWord s (t :: r) = true) (hz : z = bS (word s)) : valV t.tok = .str z := by rw [next_iff.mp h, hz]; rfl
theorem take_more {l : List TR} {x : TR} {l2 l' : List TR} (h : l = x :: l2) (k : ∃ pre, l2 = pre ++ l') : ∃ pre, l = pre ++ l' := by
  obtain ⟨pre, e⟩ := k
  exact ⟨x :: pre, by rw [h, e]; rfl⟩
theorem word_eq {t : PTok} {r : Toks} (g : Gt t.tok) (s : String) (z : Str) (hz : z = bS (word s)) (h0 : word s ≠ []) (h1 : word s ≠ [59]) : decide (valV t.tok = .str z) = true ↔ nextWord s (t :: r) = true := by
  rw [decide_eq_true_iff, hz]
  exact val_word g s h0 h1
theorem g_read_address (D : Dn K mg "read_address" s_read_address) (T : RdT K mg A) (TX : Txt K mg) (TF : PySem.FaX.FaTxt K mg A.fa A.faI) (TT : TokTxt K mg A.tok) (G1 : Gm P w K mg base CX0 10 A.rd "take" ["self"] (sp_take A)) (G2 : GmN P w K mg base (L2.CX P w) 15 A.rd "take_letters" ["self"] (sp_take_letters A))
    (G3 : Gm P w K mg base (L2.CX P w) 15 A.rd "take_number" ["self", "least", "most"] (sp_take_number A)) (G4 : Gm P w K mg base (L2.CX P w) 15 A.rd "take_given" ["self", "value"] (sp_take_given A)) : Gd P w K mg base (L2.CX P w) 25 "read_address" ["reader"] (sp_read_address A) := by
  obtain ⟨f, fd, m, F⟩ := D
  obtain ⟨f1, fd1, m1, b1, F1⟩ := G1
  obtain ⟨f2, fd2, m2, b2, F2⟩ := G2.plain
  obtain ⟨f3, fd3, m3, b3, F3⟩ := G3
  obtain ⟨f4, fd4, m4, b4, F4⟩ := G4
  obtain ⟨tB, mB, hB⟩ := TX.tBARE_ADDRESSES
  obtain ⟨tL, mL, hL⟩ := TX.tLETTERS_ADDRESSES
  rw [show ([.str "all", .str "last"] : List V) = ["all", "last"].map fun s => V.str (bS (word s)) from by decide +kernel] at hB
  rw [show ([.str "has", .str "is"] : List V) = ["has", "is"].map fun s => V.str (bS (word s)) from by decide +kernel] at hL
  refine ⟨f, fd, m, F.kp, F.binds (fun _ _ _ _ _ _ us hl => match us, hl with | [_], _ => rfl), F.okX sc_read_address (fun vs H Q E h => ?_) (fun cdv A' outer s H vs Q E hr h => ?_)⟩
  · obtain ⟨r, l, rfl, _⟩ := h; rfl
  · refine ⟨_, (L2.pss_cons (ps_set (i := 1) sc_read_address.nd rfl (.inl rfl) (pe_meth0 (pv 0) T.cl m1 F1 (hr.mono (by decide)) b1 .nil pass0)) (L2.pss_cons (ps_set (i := 2) sc_read_address.nd rfl (.inl rfl) (pe_still (pv 1))) (L2.pss_cons (ps_if (pt_cmpR op_in_seq (pv 2) (pe_glob (v := .ref tB) rfl mB rfl) (by rfl)) (L2.pss_one (ps_ret (pe_tup (L2.pa_cons (pv 2) L2.pa_nil)))) L2.pss_nil) (L2.pss_cons (ps_if (pt_cmpR op_in_seq (pv 2) (pe_glob (v := .ref tL) rfl mL rfl) (by rfl)) (L2.pss_one (ps_ret (pe_tup (L2.pa_cons (pv 2) (L2.pa_cons (pe_meth0 (pv 0) T.cl m2 F2 (hr.mono (by decide)) b2 .nil (passes_call (takes_of rfl rfl rfl rfl) (fun _ _ _ _ h => h))) L2.pa_nil))))) L2.pss_nil) (L2.pss_cons (ps_if (pt_cmpR op_eq (pv 2) pe_str (nomark _)) (L2.pss_one (ps_ret (pe_tup (L2.pa_cons (pv 2) (L2.pa_cons (pe_meth (pv 0) T.cl m3 F3 (hr.mono (by decide)) b3 .nil (passes_call (takes_of rfl rfl rfl rfl) (fun _ _ _ _ h => h)) (L2.pa_cons (pe_int) (L2.pa_cons (pe_k TX.kLAST_LINE_NUMBER) L2.pa_nil))) L2.pa_nil))))) L2.pss_nil) (L2.pss_cons (ps_if (pt_cmpR op_eq (pv 2) pe_str (nomark _)) (L2.pss_cons (ps_set (i := 3) sc_read_address.nd rfl (.inl rfl) (pe_meth (pv 0) T.cl m3 F3 (hr.mono (by decide)) b3 .nil (passes_call (takes_of rfl rfl rfl rfl) (fun _ _ _ _ h => h)) (L2.pa_cons (pe_int) (L2.pa_cons (pe_k TX.kLAST_LINE_NUMBER) L2.pa_nil)))) (L2.pss_cons (ps_expr (pe_meth (pv 0) T.cl m4 F4 (hr.mono (by decide)) b4 .nil (passes_call (takes_of rfl rfl rfl rfl) (fun _ _ _ _ h => h)) (L2.pa_cons (pe_str) L2.pa_nil))) (L2.pss_one (ps_ret (pe_tup (L2.pa_cons (pv 2) (L2.pa_cons (pv 3) (L2.pa_cons (pe_meth (pv 0) T.cl m3 F3 (hr.mono (by decide)) b3 .nil (passes_call (takes_of rfl rfl rfl rfl) (fun _ _ _ _ h => h)) (L2.pa_cons (pv 3) (L2.pa_cons (pe_k TX.kLAST_LINE_NUMBER) L2.pa_nil))) L2.pa_nil)))))))) L2.pss_nil) (L2.pss_one (ps_raiseFa rfl TF (k := 3) (hr.mono (by decide)) (takes_of rfl rfl rfl rfl) (L2.pa_cons (pe_k TX.kNOT_ALLOWED) (L2.pa_cons (pe_still (pv 1)) L2.pa_nil)))))))))), ?_⟩
    obtain ⟨r, l, rfl, hR, hE, qE, qQ⟩ := h
    obtain ⟨x, l2, rfl⟩ := ends_cons hE
    have RR := hR
    obtain ⟨dx, tl, l0, i, e1, e2, al, el⟩ := RR
    have g := hE.gt
    refine ⟨_, rfl, r, dx, _, rfl, e1, rd_no _ (by simp), r, x, l2, rfl, hR, fun H1 bt R1 tk => ?_⟩
    have R1' := R1
    obtain ⟨dx1, tl1, l1, i1, e11, e21, al1, el1⟩ := R1'
    refine ⟨_, rfl, x.a, A.tok, _, _, _, _, rfl, tk.1, TT.cl, TT.n2, lookup_value, ?_⟩
    refine ⟨_, rfl, tB, _, rfl, .inr (hB H1), flat_val _, by decide +kernel, _, rfl, ?_⟩
    rw [if_neg Bool.false_ne_true, in_words (r := ts l2) g _ (by decide +kernel)]
    refine if_iff (p := nextWord "all" (ts (x :: l2)) = true ∨ nextWord "last" (ts (x :: l2)) = true) (by simp) (fun hn => ?_) fun hn => ?_
    · refine ⟨_, rfl, by show 1 ≤ sizeLine; decide, fun p hp => ?_⟩
      have sm : Same H1 (upd H1 p (.tup [valV x.t.tok])) := same_new hp
      have rd : RdAt A (upd H1 p (.tup [valV x.t.tok])) r l2 := ⟨dx1, tl1, l1, i1, sm _ _ e11, sm _ _ e21, al1.same sm, el1⟩
      rcases hn with hn | hn
      · exact qQ .all l2 p _ (core_all hn) (bt.trans (Same.but sm)) rd (hE.next hn) (by simp) True.intro ⟨[x], rfl⟩ (by rw [upd_same, val_of (z := "all") hn (by decide +kernel)]; rfl)
      · exact qQ .last l2 p _ (core_last hn) (bt.trans (Same.but sm)) rd (hE.next hn) (by simp) True.intro ⟨[x], rfl⟩ (by rw [upd_same, val_of (z := "last") hn (by decide +kernel)]; rfl)
    have na : ¬ nextWord "all" (ts (x :: l2)) = true := fun z => hn (.inl z)
    have nl : ¬ nextWord "last" (ts (x :: l2)) = true := fun z => hn (.inr z)
    refine ⟨_, rfl, tL, _, rfl, .inr (hL H1), flat_val _, by decide +kernel, _, rfl, ?_⟩
    rw [if_neg Bool.false_ne_true, in_words (r := ts l2) g _ (by decide +kernel)]
    -- what a rest is, and what follows a name
    have sameRd : ∀ {H2 : Hp} {l' : List TR} {p : Addr} {o : HO}, RdAt A H2 r l' → H2 p = none → RdAt A (upd H2 p o) r l' := fun {H2 l' p o} R2 hp => by
      obtain ⟨dx2, tl2, l2', i2, a1, a2, a3, a4⟩ := R2
      have sm : Same H2 (upd H2 p o) := same_new hp
      exact ⟨dx2, tl2, l2', i2, sm _ _ a1, sm _ _ a2, a3.same sm, a4⟩
    refine if_iff (p := nextWord "has" (ts (x :: l2)) = true ∨ nextWord "is" (ts (x :: l2)) = true) (by simp) (fun hn => ?_) fun hn2 => ?_
    · have E2 : Ends (ts l2) := hn.elim hE.next hE.next
      obtain ⟨y, l3, rfl⟩ := ends_cons E2
      refine ⟨_, rfl, _, rfl, r, dx1, _, rfl, e11, rd_no _ (by simp), r, y, l3, rfl, R1, fun b eb er H2 bt2 R2 => ?_, fun hbad d H2 s2 e2 => ?_⟩
      · have tl' := tl_ok (r := ts l3) eb er
        have lw : Lw b ∧ Ends (ts l3) := by
          have E2 : Ends (y.t :: ts l3) := E2
          have := E2.tail (by rw [eb]; intro z; cases z)
          rw [eb] at this
          exact this
        refine ⟨by show 2 ≤ sizeLine; decide, fun p hp => ?_⟩
        have bb := bt.trans (bt2.trans (Same.but (same_new (o := .tup [valV x.t.tok, .str (bS b)]) hp)))
        rcases hn with hn | hn
        · exact qQ (.has b) l3 p _ (by rw [show core (ts (x :: y :: l3)) = (takeLetters (y.t :: ts l3)).map fun x => (.has x.1, x.2) from core_has hn, tl']; rfl) bb (sameRd R2 hp) lw.2 (by simp; omega) lw.1 ⟨[x, y], rfl⟩ (by rw [upd_same, val_of (z := "has") hn (by decide +kernel)]; rfl)
        · exact qQ (.is_ b) l3 p _ (by rw [show core (ts (x :: y :: l3)) = (takeLetters (y.t :: ts l3)).map fun x => (.is_ x.1, x.2) from core_is hn, tl']; rfl) bb (sameRd R2 hp) lw.2 (by simp; omega) lw.1 ⟨[x, y], rfl⟩ (by rw [upd_same, val_of (z := "is") hn (by decide +kernel)]; rfl)
      · have tl' := tl_err (r := ts l3) hbad
        refine qE ⟨3, y.t.place⟩ ?_ d H2 (bt.trans s2) e2
        rcases hn with hn | hn
        · rw [show core (ts (x :: y :: l3)) = (takeLetters (y.t :: ts l3)).map fun x => (.has x.1, x.2) from core_has hn, tl']; rfl
        · rw [show core (ts (x :: y :: l3)) = (takeLetters (y.t :: ts l3)).map fun x => (.is_ x.1, x.2) from core_is hn, tl']; rfl
    have nh : ¬ nextWord "has" (ts (x :: l2)) = true := fun z => hn2 (.inl z)
    have ni : ¬ nextWord "is" (ts (x :: l2)) = true := fun z => hn2 (.inr z)
    refine ⟨_, rfl, scal_val _ _, _, rfl, ?_⟩
    refine if_iff (p := nextWord "line" (ts (x :: l2)) = true) (word_eq g "line" _ (by decide +kernel) (by decide +kernel) (by decide +kernel)) (fun hn => ?_) fun hn3 => ?_
    · have E2 : Ends (ts l2) := hE.next hn
      obtain ⟨y, l3, rfl⟩ := ends_cons E2
      have hc : core (ts (x :: y :: l3)) = (takeNum 1 99 (y.t :: ts l3)).map fun x => (.line x.1, x.2) := core_line hn
      refine ⟨_, rfl, _, rfl, r, dx1, _, rfl, e11, rd_no _ (by simp), r, y, l3, 1, 99, rfl, R1, fun n en h1 h2 H2 bt2 R2 => ?_, fun n en hb d H2 s2 e2 => ?_, fun hbad d H2 s2 e2 => ?_⟩
      · have e3 : Ends (ts l3) := by
          have E2 : Ends (y.t :: ts l3) := E2
          exact (E2.tail (by rw [en]; intro z; cases z)).2
        refine ⟨by show 2 ≤ sizeLine; decide, fun p hp => ?_⟩
        exact qQ (.line n) l3 p _ (by rw [hc, tn_ok en h1 h2]; rfl) (bt.trans (bt2.trans (Same.but (same_new hp)))) (sameRd R2 hp) e3 (by simp; omega) ⟨h1, h2⟩ ⟨[x, y], rfl⟩ (by rw [upd_same, val_of (z := "line") hn (by decide +kernel)]; rfl)
      · exact qE ⟨7, y.t.place⟩ (by rw [hc, tn_out en hb]; rfl) d H2 (bt.trans s2) e2
      · exact qE ⟨3, y.t.place⟩ (by rw [hc, tn_err hbad]; rfl) d H2 (bt.trans s2) e2
    refine ⟨_, rfl, scal_val _ _, _, rfl, ?_⟩
    refine if_iff (p := nextWord "from" (ts (x :: l2)) = true) (word_eq g "from" _ (by decide +kernel) (by decide +kernel) (by decide +kernel)) (fun hn => ?_) fun hn4 => ?_
    · have E2 : Ends (ts l2) := hE.next hn
      obtain ⟨y, l3, rfl⟩ := ends_cons E2
      have hc : core (ts (x :: y :: l3)) = (takeNum 1 99 (y.t :: ts l3)).bind fun x => (VasedBase.takeWord "to" x.2).bind fun l => (takeNum x.1 99 l).map fun y => (.span x.1 y.1, y.2) := core_from hn
      refine ⟨_, rfl, r, dx1, _, rfl, e11, rd_no _ (by simp), r, y, l3, 1, 99, rfl, R1, fun n en h1 h2 H2 bt2 R2 => ?_, fun n en hb d H2 s2 e2 => ?_, fun hbad d H2 s2 e2 => ?_⟩
      · have E3 : Ends (ts l3) := by
          have E2 : Ends (y.t :: ts l3) := E2
          exact (E2.tail (by rw [en]; intro z; cases z)).2
        obtain ⟨z, l4, rfl⟩ := ends_cons E3
        rw [tn_ok en h1 h2] at hc
        have hc : core (ts (x :: y :: z :: l4)) = (VasedBase.takeWord "to" (z.t :: ts l4)).bind fun l => (takeNum n 99 l).map fun y => (.span n y.1, y.2) := hc
        have R2' := R2
        obtain ⟨dx2, tl2, l2', i2, a1, a2, a3, a4⟩ := R2'
        refine ⟨_, rfl, r, dx2, _, rfl, a1, rd_no _ (by simp), r, z, l4, _, rfl, R2, fun hto H3 bt3 R3 => ?_, fun hto d H3 s3 e3 => ?_⟩
        · have hto' := (val_word (r := ts l4) (Ends.gt (r := ts l4) E3) "to" (by decide +kernel) (by decide +kernel)).mp (hto.trans (by decide +kernel))
          have E4 : Ends (ts l4) := Ends.next (t := z.t) E3 hto'
          obtain ⟨u, l5, rfl⟩ := ends_cons E4
          rw [tw_ok hto'] at hc
          have hc : core (ts (x :: y :: z :: u :: l5)) = (takeNum n 99 (u.t :: ts l5)).map fun y => (.span n y.1, y.2) := hc
          have R3' := R3
          obtain ⟨dx3, tl3, l3', i3, c1, c2, c3, c4⟩ := R3'
          refine ⟨_, rfl, _, rfl, _, rfl, r, dx3, _, rfl, c1, rd_no _ (by simp), _, rfl, r, u, l5, n, 99, rfl, R3, fun n2 en2 h3 h4 H4 bt4 R4 => ?_, fun n2 en2 hb d H4 s4 e4 => ?_, fun hbad d H4 s4 e4 => ?_⟩
          · have E5 : Ends (ts l5) := by
              have E4 : Ends (u.t :: ts l5) := E4
              exact (E4.tail (by rw [en2]; intro z; cases z)).2
            refine ⟨by show 3 ≤ sizeLine; decide, fun p hp => ?_⟩
            exact qQ (.span n n2) l5 p _ (by rw [hc, tn_ok en2 h3 h4]; rfl) (bt.trans (bt2.trans (bt3.trans (bt4.trans (Same.but (same_new hp)))))) (sameRd R4 hp) E5 (by simp; omega) ⟨h1, h3, h4⟩ ⟨[x, y, z, u], rfl⟩ (by rw [upd_same, val_of (z := "from") hn (by decide +kernel)]; rfl)
          · exact qE ⟨7, u.t.place⟩ (by rw [hc, tn_out en2 hb]; rfl) d H4 (bt.trans (bt2.trans (bt3.trans s4))) e4
          · exact qE ⟨3, u.t.place⟩ (by rw [hc, tn_err hbad]; rfl) d H4 (bt.trans (bt2.trans (bt3.trans s4))) e4
        · have hto' : ¬ nextWord "to" (z.t :: ts l4) = true := fun q => hto ((val_word (r := ts l4) (Ends.gt (r := ts l4) E3) "to" (by decide +kernel) (by decide +kernel)).mpr q |>.trans (by decide +kernel))
          exact qE ⟨3, z.t.place⟩ (by rw [hc, tw_err hto']; rfl) d H3 (bt.trans (bt2.trans s3)) e3
      · exact qE ⟨7, y.t.place⟩ (by rw [hc, tn_out en hb]; rfl) d H2 (bt.trans s2) e2
      · exact qE ⟨3, y.t.place⟩ (by rw [hc, tn_err hbad]; rfl) d H2 (bt.trans s2) e2
    · refine ⟨_, rfl, x.a, A.tok, _, _, _, _, rfl, tk.1, TT.cl, TT.n3, lookup_place, _, _, rfl, fun d hd => ?_⟩
      exact qE ⟨3, x.t.place⟩ (core_wrong na hn3 hn4 nl nh ni) d _ (but_xd bt hd) upd_same
end
end LD

namespace LD
open PySem PySem.Spec PyProof.Rows L2 LN
open VasedBase (Bytes PTok Toks nextWord word)
open Vaseda (takeAddr takeLetters takeNum takeDeed takeInstead Deed)
abbrev s_read_deed : Stmt := top 63
/-- two texts of a deed, told apart in the machine -/
def Trip (H : Hp) (p : Addr) (z : Str) (a b : Bytes) : Prop :=
  ∃ (un : Value) (t1 t2 : Tok), H p = some (.frz { cls := .type "tuple", data := .seq #[un, .str (bS a) t1, .str (bS b) t2] 0 } (.tup [.str z, .str (bS a), .str (bS b)])) ∧ t1 ≠ 0 ∧ t2 ≠ 0 ∧ t1 ≠ t2
def DeedAt (H : Hp) (p : Addr) : Deed → Prop
  | .delete => H p = some (.tup [.str "delete"])
  | .before w => H p = some (.tup [.str "before", .str (bS w)])
  | .after w => H p = some (.tup [.str "after", .str (bS w)])
  | .change w => H p = some (.tup [.str "change", .str (bS w)])
  | .swap a b => Trip H p "swap" a b
  | .first a b => Trip H p "first" a b
  | .keep => H p = some (.tup [.str "keep"])
  | .bring => H p = some (.tup [.str "bring"])
  | .trade => H p = some (.tup [.str "trade"])
  | .skip k => H p = some (.tup [.str "skip", .int k])
  | .halt_ => H p = some (.tup [.str "stop"])
section
variable {P : Program} {w : World} {K : PySem.W.Frag} {mg : Str → Option Value} {base : Heap} {A : Ad}
def sp_read_deed (A : Ad) : SpN := fun vs n H Q E => ∃ (r : Addr) (l : List TR) (m : Nat), vs = [.ref r] ∧ RdAt A H r l ∧ Ends (ts l) ∧ 1 ≤ m ∧ Rise m l n ∧
  (∀ f, takeDeed (ts l) = .error f → FE A.fa E (But r H) f.code f.place) ∧
  (∀ d l' p H' n', takeDeed (ts l) = .ok (d, ts l') → But r H H' → RdAt A H' r l' → Ends (ts l') → l'.length < l.length → DeedOk d → (∃ pre, l = pre ++ l') → DeedAt H' p d → n ≤ n' → Q (.ref p) n' (.ref p) H')
theorem sc_read_deed : FnScope ["reader", "token", "name", "old"] ["reader"] (defScope s_read_deed) := ⟨rfl, rfl, rfl, by decide +kernel, rfl, by decide +kernel, by decide +kernel⟩
theorem RdAt.same {H H' : Hp} {r : Addr} {l : List TR} (h : RdAt A H r l) (s : Same H H') : RdAt A H' r l := by
  obtain ⟨dx, tl, l0, i, a1, a2, a3, a4⟩ := h
  exact ⟨dx, tl, l0, i, s _ _ a1, s _ _ a2, a3.same s, a4⟩
theorem Rise.tail {n m : Nat} {r : TR} {l : List TR} (h : Rise n (r :: l) m) : ∃ k, n ≤ k ∧ Rise k l m ∧ (∀ w, r.t.tok = .name w → ∃ tk : Tok, r.u = .str (bS w) tk ∧ n ≤ tk ∧ tk < k) := by
  obtain ⟨k, h1, h2⟩ := h
  exact ⟨k, h1.1, h2, h1.2⟩
theorem ends_name {y : TR} {l : List TR} {b : Bytes} (h : Ends (ts (y :: l))) (eb : y.t.tok = .name b) : Lw b ∧ Ends (ts l) := by
  have h : Ends (y.t :: ts l) := h
  have := h.tail (by rw [eb]; intro z; cases z)
  rw [eb] at this
  exact this
theorem ends_num {y : TR} {l : List TR} {n : Nat} (h : Ends (ts (y :: l))) (eb : y.t.tok = .num n) : Ends (ts l) := by
  have h : Ends (y.t :: ts l) := h
  exact (h.tail (by rw [eb]; intro z; cases z)).2
theorem g_read_deed (D : Dn K mg "read_deed" s_read_deed) (T : RdT K mg A) (TX : Txt K mg) (TF : PySem.FaX.FaTxt K mg A.fa A.faI) (TT : TokTxt K mg A.tok) (G1 : Gm P w K mg base CX0 10 A.rd "take" ["self"] (sp_take A)) (G2 : GmN P w K mg base (L2.CX P w) 15 A.rd "take_letters" ["self"] (sp_take_letters A))
    (G3 : Gm P w K mg base (L2.CX P w) 15 A.rd "take_number" ["self", "least", "most"] (sp_take_number A)) (G4 : GmN P w K mg base (L2.CX P w) 20 A.rd "take_letters_or_none" ["self"] (sp_take_letters_or_none A)) : GdN P w K mg base (L2.CX P w) 25 "read_deed" ["reader"] (sp_read_deed A) := by
  obtain ⟨f, fd, m, F⟩ := D
  obtain ⟨f1, fd1, m1, b1, F1⟩ := G1
  obtain ⟨f2, fd2, m2, b2, F2⟩ := G2
  obtain ⟨f3, fd3, m3, b3, F3⟩ := G3
  obtain ⟨f4, fd4, m4, b4, F4⟩ := G4
  obtain ⟨tB, mB, hB⟩ := TX.tBARE_DEEDS
  obtain ⟨tL, mL, hL⟩ := TX.tLETTERS_DEEDS
  obtain ⟨tX, mX, hX⟩ := TX.tEXCHANGE_DEEDS
  rw [show ([.str "delete", .str "keep", .str "bring", .str "trade", .str "stop"] : List V) = ["delete", "keep", "bring", "trade", "stop"].map fun s => V.str (bS (word s)) from by decide +kernel] at hB
  rw [show ([.str "before", .str "after", .str "change"] : List V) = ["before", "after", "change"].map fun s => V.str (bS (word s)) from by decide +kernel] at hL
  rw [show ([.str "swap", .str "first"] : List V) = ["swap", "first"].map fun s => V.str (bS (word s)) from by decide +kernel] at hX
  refine ⟨f, fd, m, F.kp, F.binds (fun _ _ _ _ _ _ us hl => match us, hl with | [_], _ => rfl), fnN_of F sc_read_deed (fun vs n H Q E h => ?_) (fun cdv A' outer s n H vs Q E hr h => ?_)⟩
  · obtain ⟨r, l, m, rfl, _⟩ := h; rfl
  · refine ⟨_, (LN.pssn_cons (psn_of (ps_set (i := 1) sc_read_deed.nd rfl (.inl rfl) (pe_meth0 (pv 0) T.cl m1 F1 (hr.mono (by decide)) b1 .nil pass0))) (LN.pssn_cons (psn_of (ps_set (i := 2) sc_read_deed.nd rfl (.inl rfl) (pe_still (pv 1)))) (LN.pssn_cons (psn_if (pt_cmpR op_in_seq (pv 2) (pe_glob (v := .ref tB) rfl mB rfl) (by rfl)) (LN.pssn_one (psn_of (ps_ret (pe_tup (L2.pa_cons (pv 2) L2.pa_nil))))) LN.pssn_nil) (LN.pssn_cons (psn_if (pt_cmpR op_in_seq (pv 2) (pe_glob (v := .ref tL) rfl mL rfl) (by rfl)) (LN.pssn_one (psn_of (ps_ret (pe_tup (L2.pa_cons (pv 2) (L2.pa_cons (pe_meth0 (pv 0) T.cl m2 F2.plain (hr.mono (by decide)) b2 .nil (passes_call (takes_of rfl rfl rfl rfl) (fun _ _ _ _ h => h))) L2.pa_nil)))))) LN.pssn_nil) (LN.pssn_cons (psn_if (pt_cmpR op_in_seq (pv 2) (pe_glob (v := .ref tX) rfl mX rfl) (by rfl)) (pssn_trip (i := 3) (j := 2) sc_read_deed.nd rfl rfl rfl rfl
        (pen_meth0 (pv 0) T.cl m2 F2 (hr.mono (by decide)) b2 (passes_call (takes_of rfl rfl rfl rfl) (fun _ _ _ _ h => h))) (pen_meth0 (pv 0) T.cl m4 F4 (hr.mono (by decide)) b4 (passes_call (takes_of rfl rfl rfl rfl) (fun _ _ _ _ h => h)))) LN.pssn_nil) (LN.pssn_cons (psn_if (pt_cmpR op_eq (pv 2) pe_str (nomark _)) (LN.pssn_one (psn_of (ps_ret (pe_tup (L2.pa_cons (pv 2) (L2.pa_cons (pe_meth (pv 0) T.cl m3 F3 (hr.mono (by decide)) b3 .nil (passes_call (takes_of rfl rfl rfl rfl) (fun _ _ _ _ h => h)) (L2.pa_cons (pe_int) (L2.pa_cons (pe_k TX.kMOST_LEFT_OUT) L2.pa_nil))) L2.pa_nil)))))) LN.pssn_nil) (LN.pssn_one (psn_of (ps_raiseFa rfl TF (k := 3) (hr.mono (by decide)) (takes_of rfl rfl rfl rfl) (L2.pa_cons (pe_k TX.kNOT_ALLOWED) (L2.pa_cons (pe_still (pv 1)) L2.pa_nil))))))))))), ?_⟩
    obtain ⟨r, l, mm, rfl, hR, hE, hmm, ri, qE, qQ⟩ := h
    obtain ⟨x, l2, rfl⟩ := ends_cons hE
    have RR := hR
    obtain ⟨dx, tl, l0, i, e1, e2, al, el⟩ := RR
    have g := hE.gt
    obtain ⟨k1, hk1, ri1, _⟩ := ri.tail
    refine ⟨_, rfl, r, dx, _, rfl, e1, rd_no _ (by simp), r, x, l2, rfl, hR, fun H1 bt R1 tk => ?_⟩
    have R1' := R1
    obtain ⟨dx1, tl1, l1, i1, e11, e21, al1, el1⟩ := R1'
    refine ⟨_, rfl, x.a, A.tok, _, _, _, _, rfl, tk.1, TT.cl, TT.n2, lookup_value, ?_⟩
    refine ⟨_, rfl, tB, _, rfl, .inr (hB H1), flat_val _, by decide +kernel, _, rfl, ?_⟩
    rw [if_neg Bool.false_ne_true, in_words (r := ts l2) g _ (by decide +kernel)]
    refine if_iff (p := nextWord "delete" (ts (x :: l2)) = true ∨ nextWord "keep" (ts (x :: l2)) = true ∨ nextWord "bring" (ts (x :: l2)) = true ∨ nextWord "trade" (ts (x :: l2)) = true ∨ nextWord "stop" (ts (x :: l2)) = true) (by simp) (fun hn => ?_) fun hn => ?_
    · refine ⟨_, rfl, by show 1 ≤ sizeLine; decide, fun p hp wv rv => ?_⟩
      cases rv
      have sm : Same H1 (upd H1 p (.tup [valV x.t.tok])) := same_new hp
      have bb := bt.trans (Same.but sm)
      have rd := R1.same sm
      rcases hn with hn | hn | hn | hn | hn
      · exact qQ .delete l2 p _ n (deed_delete hn) bb rd (hE.next hn) (by simp) True.intro ⟨[x], rfl⟩ (by show _ = _; rw [upd_same, val_of (z := "delete") hn (by decide +kernel)]) (Nat.le_refl _)
      · exact qQ .keep l2 p _ n (deed_keep hn) bb rd (hE.next hn) (by simp) True.intro ⟨[x], rfl⟩ (by show _ = _; rw [upd_same, val_of (z := "keep") hn (by decide +kernel)]) (Nat.le_refl _)
      · exact qQ .bring l2 p _ n (deed_bring hn) bb rd (hE.next hn) (by simp) True.intro ⟨[x], rfl⟩ (by show _ = _; rw [upd_same, val_of (z := "bring") hn (by decide +kernel)]) (Nat.le_refl _)
      · exact qQ .trade l2 p _ n (deed_trade hn) bb rd (hE.next hn) (by simp) True.intro ⟨[x], rfl⟩ (by show _ = _; rw [upd_same, val_of (z := "trade") hn (by decide +kernel)]) (Nat.le_refl _)
      · exact qQ .halt_ l2 p _ n (deed_stop hn) bb rd (hE.next hn) (by simp) True.intro ⟨[x], rfl⟩ (by show _ = _; rw [upd_same, val_of (z := "stop") hn (by decide +kernel)]) (Nat.le_refl _)
    have nb := hn
    refine ⟨_, rfl, tL, _, rfl, .inr (hL H1), flat_val _, by decide +kernel, _, rfl, ?_⟩
    rw [if_neg Bool.false_ne_true, in_words (r := ts l2) g _ (by decide +kernel)]
    refine if_iff (p := nextWord "before" (ts (x :: l2)) = true ∨ nextWord "after" (ts (x :: l2)) = true ∨ nextWord "change" (ts (x :: l2)) = true) (by simp) (fun hn => ?_) fun hn2 => ?_
    · have E2 : Ends (ts l2) := hn.elim hE.next fun h => h.elim hE.next hE.next
      obtain ⟨y, l3, rfl⟩ := ends_cons E2
      have hd : ∃ D : Bytes → Deed, (takeDeed (ts (x :: y :: l3)) = (takeLetters (y.t :: ts l3)).map fun x => (D x.1, x.2)) ∧ (∀ b, Lw b → DeedOk (D b)) ∧ ∀ b H p, H p = some (.tup [valV x.t.tok, .str (bS b)]) → DeedAt H p (D b) := by
        rcases hn with hn | hn | hn
        · exact ⟨.before, deed_before hn, fun b h => h, fun b H p h => by show _ = _; rw [h, val_of (z := "before") hn (by decide +kernel)]⟩
        · exact ⟨.after, deed_after hn, fun b h => h, fun b H p h => by show _ = _; rw [h, val_of (z := "after") hn (by decide +kernel)]⟩
        · exact ⟨.change, deed_change hn, fun b h => h, fun b H p h => by show _ = _; rw [h, val_of (z := "change") hn (by decide +kernel)]⟩
      obtain ⟨D, hD, okD, atD⟩ := hd
      refine ⟨_, rfl, _, rfl, r, dx1, _, rfl, e11, rd_no _ (by simp), r, y, l3, rfl, R1, fun b eb er H2 bt2 R2 => ?_, fun hbad d H2 s2 e2 => ?_⟩
      · have lw := ends_name E2 eb
        refine ⟨by show 2 ≤ sizeLine; decide, fun p hp wv rv => ?_⟩
        cases rv
        exact qQ (D b) l3 p _ n (by rw [hD, tl_ok eb er]; rfl) (bt.trans (bt2.trans (Same.but (same_new hp)))) (R2.same (same_new hp)) lw.2 (by simp; omega) (okD b lw.1) ⟨[x, y], rfl⟩ (atD b _ p upd_same) (Nat.le_refl _)
      · exact qE ⟨3, y.t.place⟩ (by rw [hD, tl_err hbad]; rfl) d H2 (bt.trans s2) e2
    refine ⟨_, rfl, tX, _, rfl, .inr (hX H1), flat_val _, by decide +kernel, _, rfl, ?_⟩
    rw [if_neg Bool.false_ne_true, in_words (r := ts l2) g _ (by decide +kernel)]
    refine if_iff (p := nextWord "swap" (ts (x :: l2)) = true ∨ nextWord "first" (ts (x :: l2)) = true) (by simp) (fun hn => ?_) fun hn3 => ?_
    · have E2 : Ends (ts l2) := hn.elim hE.next hE.next
      obtain ⟨y, l3, rfl⟩ := ends_cons E2
      have hd : ∃ D : Bytes → Bytes → Deed, (takeDeed (ts (x :: y :: l3)) = Vaseda.takeTwo D (y.t :: ts l3)) ∧ (∀ a b, Lw a → (b = [] ∨ Lw b) → DeedOk (D a b)) ∧ ∀ a b H p un (t1 t2 : Tok), H p = some (.frz { cls := .type "tuple", data := .seq #[un, .str (bS a) t1, .str (bS b) t2] 0 } (.tup [valV x.t.tok, .str (bS a), .str (bS b)])) → t1 ≠ 0 → t2 ≠ 0 → t1 ≠ t2 → DeedAt H p (D a b) := by
        rcases hn with hn | hn
        · exact ⟨.swap, deed_swap hn, fun a b h1 h2 => ⟨h1, h2⟩, fun a b H p un t1 t2 h z1 z2 z3 => ⟨un, t1, t2, by rw [h, val_of (z := "swap") hn (by decide +kernel)], z1, z2, z3⟩⟩
        · exact ⟨.first, deed_first hn, fun a b h1 h2 => ⟨h1, h2⟩, fun a b H p un t1 t2 h z1 z2 z3 => ⟨un, t1, t2, by rw [h, val_of (z := "first") hn (by decide +kernel)], z1, z2, z3⟩⟩
      obtain ⟨D, hD, okD, atD⟩ := hd
      obtain ⟨k2, hk2, ri2, ny⟩ := ri1.tail
      refine ⟨_, rfl, r, dx1, _, rfl, e11, rd_no _ (by simp), r, y, l3, rfl, R1, fun b eb er H2 bt2 R2 => ?_, fun hbad d H2 s2 e2 => ?_⟩
      · have lw := ends_name E2 eb
        obtain ⟨z, l4, rfl⟩ := ends_cons lw.2
        have R2' := R2
        obtain ⟨dx2, tl2, l2', i2, a1, a2, a3, a4⟩ := R2'
        obtain ⟨t1, eu1, ht1, ht1'⟩ := ny b eb
        have hD2 : takeDeed (ts (x :: y :: z :: l4)) = (takeInstead (z.t :: ts l4)).map fun w => (D b w.1, w.2) := by
          rw [hD]
          unfold Vaseda.takeTwo
          rw [tl_ok eb er]
          rfl
        have gz : Gt z.t.tok := Ends.gt (r := ts l4) lw.2
        have hno : valV z.t.tok = .str "none" ↔ nextWord "none" (z.t :: ts l4) = true := by
          have e : ("none" : Str) = bS (word "none") := by decide +kernel
          rw [e]
          exact val_word gz "none" (by decide +kernel) (by decide +kernel)
        obtain ⟨k3, hk3, ri3, nz⟩ := ri2.tail
        refine ⟨valV x.t.tok, rfl, _, rfl, r, dx2, _, rfl, a1, rd_no _ (by simp), r, z, l4, rfl, R2, fun hn3 H3 t bt3 R3 ht => ?_, fun hn3 => ⟨fun b2 eb2 er2 H3 bt3 R3 => ?_, fun hbad d H3 s3 e3 => ?_⟩⟩
        · intro p un hp run
          have hx := hno.mp hn3
          have t1t : t1 < t := Nat.lt_of_lt_of_le ht1' (Nat.le_trans (Rise.le ri2) ht)
          have h1 : t1 ≠ 0 := fun z => by rw [z] at ht1; exact absurd (Nat.le_trans hmm (Nat.le_trans hk1 ht1)) (by decide)
          have h2 : t ≠ 0 := fun z => by rw [z] at t1t; exact absurd t1t (Nat.not_lt_zero _)
          exact qQ (D b []) l4 p _ (t + 1) (by rw [hD2, ti_none hx]; rfl) (bt.trans (bt2.trans (bt3.trans (Same.but (same_new hp))))) (R3.same (same_new hp)) (Ends.next (t := z.t) lw.2 hx) (by simp; omega) (okD b [] lw.1 (.inl rfl)) ⟨[x, y, z], rfl⟩
            (atD b [] _ p un t1 t (by rw [upd_same, eu1, bS_nil]) h1 h2 (Nat.ne_of_lt t1t)) (Nat.le_succ_of_le ht)
        · intro p un hp run
          have hx := fun q => hn3 (hno.mpr q)
          have lw2 := ends_name lw.2 eb2
          obtain ⟨t2, eu2, ht2, _⟩ := nz b2 eb2
          have t12 : t1 < t2 := Nat.lt_of_lt_of_le ht1' ht2
          have h1 : t1 ≠ 0 := fun z => by rw [z] at ht1; exact absurd (Nat.le_trans hmm (Nat.le_trans hk1 ht1)) (by decide)
          have h2 : t2 ≠ 0 := fun z => by rw [z] at t12; exact absurd t12 (Nat.not_lt_zero _)
          exact qQ (D b b2) l4 p _ n (by rw [hD2, ti_else hx, tl_ok eb2 er2]; rfl) (bt.trans (bt2.trans (bt3.trans (Same.but (same_new hp))))) (R3.same (same_new hp)) lw2.2 (by simp; omega) (okD b b2 lw.1 (.inr lw2.1)) ⟨[x, y, z], rfl⟩
            (atD b b2 _ p un t1 t2 (by rw [upd_same, eu1, eu2]) h1 h2 (Nat.ne_of_lt t12)) (Nat.le_refl _)
        · have hx := fun q => hn3 (hno.mpr q)
          exact qE ⟨3, z.t.place⟩ (by rw [hD2, ti_else hx, tl_err hbad]; rfl) d H3 (bt.trans (bt2.trans s3)) e3
      · refine qE ⟨3, y.t.place⟩ ?_ d H2 (bt.trans s2) e2
        rw [hD]
        unfold Vaseda.takeTwo
        rw [tl_err hbad]; rfl
    refine ⟨_, rfl, scal_val _ _, _, rfl, ?_⟩
    refine if_iff (p := nextWord "skip" (ts (x :: l2)) = true) (word_eq g "skip" _ (by decide +kernel) (by decide +kernel) (by decide +kernel)) (fun hn => ?_) fun hn4 => ?_
    · have E2 : Ends (ts l2) := hE.next hn
      obtain ⟨y, l3, rfl⟩ := ends_cons E2
      have hc : takeDeed (ts (x :: y :: l3)) = (takeNum 1 9 (y.t :: ts l3)).map fun x => (.skip x.1, x.2) := deed_skip hn
      refine ⟨_, rfl, _, rfl, r, dx1, _, rfl, e11, rd_no _ (by simp), r, y, l3, 1, 9, rfl, R1, fun n' en h1 h2 H2 bt2 R2 => ?_, fun n' en hb d H2 s2 e2 => ?_, fun hbad d H2 s2 e2 => ?_⟩
      · refine ⟨by show 2 ≤ sizeLine; decide, fun p hp wv rv => ?_⟩
        cases rv
        exact qQ (.skip n') l3 p _ n (by rw [hc, tn_ok en h1 h2]; rfl) (bt.trans (bt2.trans (Same.but (same_new hp)))) (R2.same (same_new hp)) (ends_num E2 en) (by simp; omega) ⟨h1, h2⟩ ⟨[x, y], rfl⟩ (by show _ = _; rw [upd_same, val_of (z := "skip") hn (by decide +kernel)]) (Nat.le_refl _)
      · exact qE ⟨7, y.t.place⟩ (by rw [hc, tn_out en hb]; rfl) d H2 (bt.trans s2) e2
      · exact qE ⟨3, y.t.place⟩ (by rw [hc, tn_err hbad]; rfl) d H2 (bt.trans s2) e2
    · refine ⟨_, rfl, x.a, A.tok, _, _, _, _, rfl, tk.1, TT.cl, TT.n3, lookup_place, _, _, rfl, fun d hd => ?_⟩
      refine qE ⟨3, x.t.place⟩ (deed_wrong ?_ ?_ ?_ ?_ ?_ ?_ ?_ ?_ ?_ ?_ ?_) d _ (but_xd bt hd) upd_same
      · exact fun z => nb (.inl z)
      · exact fun z => hn2 (.inl z)
      · exact fun z => hn2 (.inr (.inl z))
      · exact fun z => hn2 (.inr (.inr z))
      · exact fun z => hn3 (.inl z)
      · exact fun z => hn3 (.inr z)
      · exact fun z => nb (.inr (.inl z))
      · exact fun z => nb (.inr (.inr (.inl z)))
      · exact fun z => nb (.inr (.inr (.inr (.inl z))))
      · exact hn4
      · exact fun z => nb (.inr (.inr (.inr (.inr z))))
end
end LD

namespace LD
open PySem PySem.Spec PyProof.Rows L2 LN
open VasedBase (Bytes PTok Toks nextWord word)
open Vaseda (takeAddr takeLetters takeNum takeDeed takeInstead Deed Cmd takeCmd takeCmds)
abbrev s_cmd_init : Stmt := inClass (top 57) 0
abbrev s_read_commands : Stmt := top 59
abbrev s_read_command : Stmt := top 60
def cmdF (k : Nat) (ta td : Addr) : List (Str × V) := [("nots", .int k), ("address", .ref ta), ("deed", .ref td)]
theorem DeedAt.but {H H' : Hp} {p r : Addr} {d : Deed} {o : HO} (h : DeedAt H p d) (hr : H r = some o) (lo : Loose o) (s : But r H H') : DeedAt H' p d := by
  have tup : ∀ xs, H p = some (.tup xs) → H' p = some (.tup xs) := fun xs e => s _ _ e (ne_of e hr fun z => by rw [← z] at lo; exact lo)
  have frz : ∀ z a b, Trip H p z a b → Trip H' p z a b := fun z a b ⟨un, t1, t2, e, r1⟩ => ⟨un, t1, t2, s _ _ e (ne_of e hr fun z => by rw [← z] at lo; exact lo), r1⟩
  cases d <;> first | exact tup _ h | exact frz _ _ _ h
theorem DeedAt.same {H H' : Hp} {p : Addr} {d : Deed} (h : DeedAt H p d) (s : Same H H') : DeedAt H' p d := by
  have tup : ∀ xs, H p = some (.tup xs) → H' p = some (.tup xs) := fun xs e => s _ _ e
  have frz : ∀ z a b, Trip H p z a b → Trip H' p z a b := fun z a b ⟨un, t1, t2, e, r1⟩ => ⟨un, t1, t2, s _ _ e, r1⟩
  cases d <;> first | exact tup _ h | exact frz _ _ _ h
/-- a command of the program -/
def CmdAt (A : Ad) (H : Hp) (c : Addr) (x : Cmd) : Prop := ∃ dx ta td, H c = some (.ins A.cmd dx (cmdF (notsOf x.a) ta td)) ∧ H ta = some (.tup (addrV (coreOf x.a))) ∧ DeedAt H td x.d
theorem CmdAt.same {A : Ad} {H H' : Hp} {c : Addr} {x : Cmd} (h : CmdAt A H c x) (s : Same H H') : CmdAt A H' c x := by
  obtain ⟨dx, ta, td, a, b, d⟩ := h
  exact ⟨dx, ta, td, s _ _ a, s _ _ b, d.same s⟩
theorem CmdAt.but {A : Ad} {H H' : Hp} {c r : Addr} {x : Cmd} {o : HO} (h : CmdAt A H c x) (hr : H r = some o) (lo : Loose o) (nc : ∀ dx fs, o ≠ .ins A.cmd dx fs) (s : But r H H') : CmdAt A H' c x := by
  obtain ⟨dx, ta, td, a, b, d⟩ := h
  exact ⟨dx, ta, td, s _ _ a (ne_of a hr (fun z => nc _ _ z.symm)), s _ _ b (ne_of b hr fun z => by rw [← z] at lo; exact lo), d.but hr lo s⟩
section
variable {P : Program} {w : World} {K : PySem.W.Frag} {mg : Str → Option Value} {base : Heap} {A : Ad}
abbrev CmdT (K : PySem.W.Frag) (mg : Str → Option Value) (A : Ad) : Prop := CT K mg "Command" A.cmd ["nots", "address", "deed"]
def sp_cmd_init (A : Ad) : Sp := fun vs H Q _ => ∃ (p dx ta td : Addr) (k : Nat), vs = [.ref p, .int k, .ref ta, .ref td] ∧ H p = some (.ins A.cmd dx []) ∧ ∀ H', But p H H' → H' p = some (.ins A.cmd dx (cmdF k ta td)) → Q .non H'
theorem sc_cmd_init : FnScope ["self", "nots", "address", "deed"] ["self", "nots", "address", "deed"] (defScope s_cmd_init) := ⟨rfl, rfl, rfl, by decide +kernel, rfl, by decide +kernel, by decide +kernel⟩
theorem g_cmd_init (D : Di K A.cmd "Command.__init__" s_cmd_init) (T : CmdT K mg A) : Gi P w K mg base 5 A.cmd ["self", "nots", "address", "deed"] (sp_cmd_init A) := by
  obtain ⟨f, fd, m, F⟩ := D
  refine ⟨f, fd, m, F.binds (fun _ _ _ _ _ _ us hl => match us, hl with | [_, _, _, _], _ => rfl), F.ok sc_cmd_init (fun vs H Q E h => ?_) (fun cdv A' outer s H vs Q E hr h => ?_)⟩
  · obtain ⟨p, dx, ta, td, k, rfl, _⟩ := h; rfl
  · refine ⟨_, (L2.pss_cons (ps_fld (pv 0) (pv 1) rfl) (L2.pss_cons (ps_fld (pv 0) (pv 2) rfl) (L2.pss_one (ps_fld (pv 0) (pv 3) rfl)))), ?_⟩
    obtain ⟨p, dx, ta, td, k, rfl, h1, q⟩ := h
    refine ⟨_, rfl, _, rfl, p, A.cmd, dx, [], rfl, h1, T.cl, T.no _ (by simp), (by show 0 < 1000; decide), ?_⟩
    refine ⟨_, rfl, _, rfl, p, A.cmd, dx, _, rfl, upd_same, T.cl, T.no _ (by simp), (by show 1 < 1000; decide), ?_⟩
    refine ⟨_, rfl, _, rfl, p, A.cmd, dx, _, rfl, upd_same, T.cl, T.no _ (by simp), (by show 2 < 1000; decide), ?_⟩
    have e1 : putF ("nots" : Str) (V.int k) [] = [(("nots" : Str), V.int k)] := rfl
    have e2 : putF ("address" : Str) (V.ref ta) [(("nots" : Str), V.int k)] = [(("nots" : Str), V.int k), ("address", V.ref ta)] := by ((repeat (first | exact put_here | refine put_past (by decide +kernel) ?_)); first | done | rfl)
    have e3 : putF ("deed" : Str) (V.ref td) [(("nots" : Str), V.int k), ("address", V.ref ta)] = cmdF k ta td := by unfold cmdF; ((repeat (first | exact put_here | refine put_past (by decide +kernel) ?_)); first | done | rfl)
    exact q _ (But.upd.trans (But.upd.trans But.upd)) (ins_put ((congrArg (putF ("deed" : Str) (V.ref td)) ((congrArg (putF ("address" : Str) (V.ref ta)) e1).trans e2)).trans e3))
/-! ### a command -/
theorem Rise.mono : ∀ {l : List TR} {n k m : Nat}, Rise n l k → k ≤ m → Rise n l m
  | [], _, _, _, h, l => Nat.le_trans h l
  | _ :: _, _, _, _, ⟨j, h1, h⟩, l => ⟨j, h1, Rise.mono h l⟩
theorem Rise.after : ∀ {pre l : List TR} {n m : Nat}, Rise n (pre ++ l) m → ∃ k, n ≤ k ∧ Rise k l m
  | [], _, n, _, h => ⟨n, Nat.le_refl _, h⟩
  | _ :: pre, l, n, m, ⟨j, h1, h⟩ => by
    obtain ⟨k, h2, h3⟩ := Rise.after (pre := pre) h
    exact ⟨k, Nat.le_trans h1.1 h2, h3⟩
theorem semi_iff {t : PTok} (g : Gt t.tok) : valV t.tok = .str ";" ↔ t.tok = .sign 59 := by
  have e : (";" : Str) = bS [59] := by decide +kernel
  rw [e]
  constructor
  · intro h
    cases ht : t.tok with
    | name b =>
      rw [ht] at h g
      have h : V.str (bS b) = .str (bS [59]) := h
      injection h with h
      have := bS_inj h
      subst this
      rcases g with g | g
      · exact absurd (g.2.2 59 List.mem_cons_self) (by decide)
      · cases g
    | num n => rw [ht] at h; cases h
    | sign c =>
      rw [ht] at g
      rcases g with g | g
      · have g : c = 59 := g
        rw [g]
      · cases g
    | last =>
      rw [ht] at h
      have h : V.str "" = .str (bS [59]) := h
      injection h with h
      rw [bS_nil] at h
      have := bS_inj h
      cases this
  · intro h; rw [h]; rfl
/-- behind the address -/
def AfterAddr (A : Ad) (r : Addr) (H H9 : Hp) (l : List TR) (k : Nat) (ta : Addr) : Prop := ∃ a0 l1, But r H H9 ∧ RdAt A H9 r l1 ∧ Ends (ts l1) ∧ l1.length ≤ l.length ∧ (∃ pre, l = pre ++ l1) ∧
  takeCmd (ts l) = ((takeDeed (ts l1)).bind fun d => (VasedBase.takeSign 59 d.2).map fun m => (⟨nest k a0, d.1⟩, m)) ∧ k ≤ 3 ∧ CoreOk a0 ∧ H9 ta = some (.tup (addrV a0))
def sp_read_command (A : Ad) : SpN := fun vs n H Q E => ∃ (r : Addr) (l : List TR) (m : Nat), vs = [.ref r] ∧ RdAt A H r l ∧ Ends (ts l) ∧ 1 ≤ m ∧ Rise m l n ∧
  (∀ f, takeCmd (ts l) = .error f → FE A.fa E (But r H) f.code f.place) ∧
  (∀ c l' p H' n', takeCmd (ts l) = .ok (c, ts l') → But r H H' → RdAt A H' r l' → Ends (ts l') → l'.length < l.length → CmdOk c → (∃ pre, l = pre ++ l') → CmdAt A H' p c → n ≤ n' → Q (.ref p) n' (.ref p) H')
theorem sc_read_command : FnScope ["reader", "nots", "address", "deed"] ["reader"] (defScope s_read_command) := ⟨rfl, rfl, rfl, by decide +kernel, rfl, by decide +kernel, by decide +kernel⟩
theorem cmd_if {l : Toks} (h : nextWord "if" l = true) : takeCmd l = (takeAddr (l.length + 1) 0 (l.drop 1)).bind fun a => (takeDeed a.2).bind fun d => (VasedBase.takeSign 59 d.2).map fun m => (⟨a.1, d.1⟩, m) := by
  unfold takeCmd
  rw [if_pos h]
theorem cmd_no {l : Toks} (h : ¬ nextWord "if" l = true) : takeCmd l = (takeDeed l).bind fun d => (VasedBase.takeSign 59 d.2).map fun m => (⟨.all, d.1⟩, m) := by
  unfold takeCmd
  rw [if_neg h]
  rfl
theorem g_read_command (D : Dn K mg "read_command" s_read_command) (T : RdT K mg A) (TC : CmdT K mg A) (G1 : Gm P w K mg base CX0 10 A.rd "take" ["self"] (sp_take A)) (G2 : Gm P w K mg base CX0 10 A.rd "stands" ["self", "value"] (sp_stands A))
    (G3 : Gd P w K mg base (L2.CX P w) 25 "read_nots" ["reader"] (sp_read_nots A)) (G4 : Gd P w K mg base (L2.CX P w) 25 "read_address" ["reader"] (sp_read_address A)) (G5 : GdN P w K mg base (L2.CX P w) 25 "read_deed" ["reader"] (sp_read_deed A))
    (G6 : Gm P w K mg base (L2.CX P w) 15 A.rd "take_given" ["self", "value"] (sp_take_given A)) (G7 : Gi P w K mg base 5 A.cmd ["self", "nots", "address", "deed"] (sp_cmd_init A)) : GdN P w K mg base (L2.CX P w) 30 "read_command" ["reader"] (sp_read_command A) := by
  obtain ⟨f, fd, m, F⟩ := D
  obtain ⟨f1, fd1, m1, b1, F1⟩ := G1
  obtain ⟨f2, fd2, m2, b2, F2⟩ := G2
  obtain ⟨f3, fd3, m3, k3, b3, F3⟩ := G3
  obtain ⟨f4, fd4, m4, k4, b4, F4⟩ := G4
  obtain ⟨f5, fd5, m5, k5, b5, F5⟩ := G5
  obtain ⟨f6, fd6, m6, b6, F6⟩ := G6
  obtain ⟨f7, fd7, m7, b7, F7⟩ := G7
  refine ⟨f, fd, m, F.kp, F.binds (fun _ _ _ _ _ _ us hl => match us, hl with | [_], _ => rfl), fnN_of F sc_read_command (fun vs n H Q E h => ?_) (fun cdv A' outer s n H vs Q E hr h => ?_)⟩
  · obtain ⟨r, l, m, rfl, _⟩ := h; rfl
  · refine ⟨_, (LN.pssn_cons (psn_of (ps_set (i := 1) sc_read_command.nd rfl (.inl rfl) pe_int)) (LN.pssn_cons (psn_of (ps_set (i := 2) sc_read_command.nd rfl (.inl rfl) (pe_tup (L2.pa_cons (pe_str) L2.pa_nil)))) (LN.pssn_cons (psn_of (ps_if (pt_val (pe_meth (pv 0) T.cl m2 F2 (hr.mono (by decide)) b2 .nil pass0 (L2.pa_cons (pe_str) L2.pa_nil))) (L2.pss_cons (ps_expr (pe_meth0 (pv 0) T.cl m1 F1 (hr.mono (by decide)) b1 .nil pass0)) (L2.pss_cons (ps_set (i := 1) sc_read_command.nd rfl (.inl rfl) (pe_call F3 (hr.mono (by decide)) rfl m3 k3 b3 .nil (passes_call (takes_of rfl rfl rfl rfl) (fun _ _ _ _ h => h)) (L2.pa_cons (pv 0) L2.pa_nil))) (L2.pss_one (ps_set (i := 2) sc_read_command.nd rfl (.inl rfl) (pe_call F4 (hr.mono (by decide)) rfl m4 k4 b4 .nil (passes_call (takes_of rfl rfl rfl rfl) (fun _ _ _ _ h => h)) (L2.pa_cons (pv 0) L2.pa_nil)))))) L2.pss_nil)) (LN.pssn_cons (psn_set (i := 3) sc_read_command.nd rfl (.inl rfl) (pen_call F5 (hr.mono (by decide)) rfl m5 k5 b5 (passes_call (takes_of rfl rfl rfl rfl) (fun _ _ _ _ h => h)) (pan_of (L2.pa_cons (pv 0) L2.pa_nil)))) (LN.pssn_cons (psn_of (ps_expr (pe_meth (pv 0) T.cl m6 F6 (hr.mono (by decide)) b6 .nil (passes_call (takes_of rfl rfl rfl rfl) (fun _ _ _ _ h => h)) (L2.pa_cons (pe_str) L2.pa_nil)))) (LN.pssn_one (psn_of (ps_ret (pe_make m7 F7 (hr.mono (by decide)) rfl TC.g b7 .nil pass0 (L2.pa_cons (pv 1) (L2.pa_cons (pv 2) (L2.pa_cons (pv 3) L2.pa_nil)))))))))))), ?_⟩
    obtain ⟨r, l, mm, rfl, hR, hE, hmm, ri, qE, qQ⟩ := h
    refine ⟨by show 1 ≤ sizeLine; decide, fun ta0 hta0 => ?_⟩
    have sm0 : Same H (upd H ta0 (.tup [.str "all"])) := same_new hta0
    have h0 : upd H ta0 (.tup [.str "all"]) ta0 = some (.tup [.str "all"]) := upd_same
    generalize upd H ta0 (.tup [.str "all"]) = H0 at sm0 h0 ⊢
    have R0 := hR.same sm0
    obtain ⟨x, l2, rfl⟩ := ends_cons hE
    have R0' := R0
    obtain ⟨dx, tl, l0, i, e1, e2, al, el⟩ := R0'
    have g := hE.gt
    refine ⟨_, rfl, r, dx, _, rfl, e1, rd_no _ (by simp), r, x, l2, _, rfl, R0, _, rfl, ?_⟩
    refine if_iff (p := nextWord "if" (ts (x :: l2)) = true) (word_eq g "if" _ (by decide +kernel) (by decide +kernel) (by decide +kernel)) (fun hn => ⟨_, rfl, r, dx, _, rfl, e1, rd_no _ (by simp), r, x, l2, rfl, R0, fun H1 bt1 R1 _ => ?ga⟩) fun hn => ?gb
    case' ga =>
      have te : takeCmd (ts (x :: l2)) = (takeAddr ((ts (x :: l2)).length + 1) 0 (ts l2)).bind fun a => (takeDeed a.2).bind fun d => (VasedBase.takeSign 59 d.2).map fun m => (⟨a.1, d.1⟩, m) := cmd_if hn
      have hlen : (ts (x :: l2)).length = l2.length + 1 := by simp
      refine ⟨_, rfl, r, l2, (ts (x :: l2)).length + 1, rfl, R1, hE.next hn, by rw [hlen]; omega, fun pl ht d H2 s2 e2 => ?_, fun k l3 H2 bt2 R2 E2 len2 te2 hk pre2 => ?_⟩
      · exact qE ⟨4, pl⟩ (by rw [te, ht]; rfl) d H2 ((Same.but sm0).trans (bt1.trans s2)) e2
      rw [te2] at te
      refine ⟨_, rfl, r, l3, rfl, R2, E2, fun fa ht d H3 s3 e3 => ?_, fun a0 l4 ta H3 tc bt3 R3 E3 len3 okc pre3 hta => ?_⟩
      · exact qE fa (by rw [te, ht]; rfl) d H3 ((Same.but sm0).trans (bt1.trans (bt2.trans s3))) e3
      have AA : AfterAddr A r H H3 (x :: l2) k ta := by
        obtain ⟨p2, q2⟩ := pre2
        obtain ⟨p3, q3⟩ := pre3
        exact ⟨a0, l4, (Same.but sm0).trans (bt1.trans (bt2.trans bt3)), R3, E3, by simp; omega, ⟨x :: p2 ++ p3, by rw [q2, q3]; simp⟩, by rw [te, tc]; rfl, hk, okc, hta⟩
    case' gb =>
      have AA : AfterAddr A r H H0 (x :: l2) 0 ta0 := ⟨.all, x :: l2, Same.but sm0, R0, hE, Nat.le_refl _, ⟨[], rfl⟩, cmd_no hn, by decide, True.intro, h0⟩
    all_goals
      obtain ⟨a0, l5, bt, R5, E5, len5, pre5, te5, hk5, ok5, hta5⟩ := AA
      obtain ⟨p5, q5⟩ := pre5
      rw [q5] at ri
      obtain ⟨k5, hk5', ri5⟩ := Rise.after ri
      refine ⟨_, rfl, fun us _ => ⟨r, l5, k5, rfl, R5, E5, Nat.le_trans hmm hk5', ri5, fun fa ht d H6 s6 e6 => ?_, fun dd l6 td H6 n6 td6 bt6 R6 E6 len6 okd pre6 hd hn6 => ?_⟩⟩
      · exact qE fa (by rw [te5, ht]; rfl) d H6 (bt.trans s6) e6
      rw [td6] at te5
      obtain ⟨y, l7, rfl⟩ := ends_cons E6
      change takeCmd (ts (x :: l2)) = Except.map _ (VasedBase.takeSign 59 (y.t :: ts l7)) at te5
      have R6' := R6
      obtain ⟨dx6, tl6, l60, i6, c1, c2, c3, c4⟩ := R6'
      have gy : Gt y.t.tok := Ends.gt (r := ts l7) E6
      refine ⟨_, rfl, r, dx6, _, rfl, c1, rd_no _ (by simp), r, y, l7, _, rfl, R6, fun hs H7 bt7 R7 => ?_, fun hs d H7 s7 e7 => ?_⟩
      · have hs' := (semi_iff gy).mp hs
        rw [sign_ok hs'] at te5
        have E7 : Ends (ts l7) := by
          have E6 : Ends (y.t :: ts l7) := E6
          exact (E6.tail (by rw [hs']; intro z; cases z)).2
        refine ⟨_, rfl, _, rfl, _, rfl, fun p dp hp hdp nep => ⟨p, dp, _, td, _, rfl, upd_same, fun H8 bt8 h8 => ⟨rfl, fun wv rv => ?_⟩⟩⟩
        cases rv
        have R5' := R5
        obtain ⟨dx5, tl5, l50, i5, d1, d2, d3, d4⟩ := R5'
        have sm8 : Same H7 H8 := Same.made hp hdp bt8
        have hta7 := bt7 _ _ (bt6 _ _ hta5 (ne_of hta5 d1 (by intro z; cases z))) (ne_of (bt6 _ _ hta5 (ne_of hta5 d1 (by intro z; cases z))) c1 (by intro z; cases z))
        have hcmd : ∀ k9 ta9, H8 p = some (.ins A.cmd dp (cmdF k9 ta9 td)) → H8 ta9 = some (.tup (addrV a0)) → CmdAt A H8 p ⟨nest k9 a0, dd⟩ := fun k9 ta9 e1 e2 =>
          ⟨dp, ta9, td, by rw [nest_nots, (core_of_isCore ok5.core).2]; exact e1, by rw [nest_core, (core_of_isCore ok5.core).1]; exact e2, (hd.but c1 True.intro bt7).same sm8⟩
        have hok : ∀ k9, k9 ≤ 3 → CmdOk ⟨nest k9 a0, dd⟩ := fun k9 h9 => ⟨⟨by rw [nest_nots, (core_of_isCore ok5.core).2]; exact h9, by rw [nest_core, (core_of_isCore ok5.core).1]; exact ok5⟩, okd⟩
        refine qQ _ l7 p H8 n6 te5 (bt.trans (bt6.trans (bt7.trans (Same.but sm8)))) (R7.same sm8) E7 ?_ (hok _ hk5) ?_ (hcmd _ _ h8 (sm8 _ _ hta7)) hn6
        · simp at len6 len5; simp; omega
        · obtain ⟨p6, q6⟩ := pre6
          exact ⟨p5 ++ p6 ++ [y], by rw [q5, q6]; simp⟩
      · have hs' := fun z => hs ((semi_iff gy).mpr z)
        exact qE ⟨3, y.t.place⟩ (by rw [te5, sign_err hs']; rfl) d H7 (bt.trans (bt6.trans s7)) e7
end
end LD

namespace LD
open PySem PySem.Spec PyProof.Rows L2 LN
open VasedBase (Bytes PTok Toks nextWord word)
open Vaseda (takeAddr takeLetters takeNum takeDeed takeInstead Deed Cmd takeCmd takeCmds)
/-- the commands as a list of the program -/
def CmdsAt (A : Ad) (H : Hp) (p : Addr) (s : Vaseda.Script) : Prop := ∃ l : List (Addr × Cmd), H p = some (.lst (l.map fun q => V.ref q.1)) ∧ s = l.map (·.2) ∧ ∀ q ∈ l, CmdAt A H q.1 q.2
theorem CmdsAt.same {A : Ad} {H H' : Hp} {p : Addr} {s : Vaseda.Script} (h : CmdsAt A H p s) (sm : Same H H') : CmdsAt A H' p s := by
  obtain ⟨l, a, b, c⟩ := h
  exact ⟨l, sm _ _ a, b, fun q hq => (c q hq).same sm⟩
theorem CmdsAt.but {A : Ad} {H H' : Hp} {p r : Addr} {s : Vaseda.Script} {o : HO} (h : CmdsAt A H p s) (hr : H r = some o) (lo : Loose o) (nc : ∀ dx fs, o ≠ .ins A.cmd dx fs) (nl : ∀ xs, o ≠ .lst xs) (sm : But r H H') : CmdsAt A H' p s := by
  obtain ⟨l, a, b, c⟩ := h
  exact ⟨l, sm _ _ a (ne_of a hr fun z => nl _ z.symm), b, fun q hq => (c q hq).but hr lo nc sm⟩
section
variable {P : Program} {w : World} {K : PySem.W.Frag} {mg : Str → Option Value} {base : Heap} {A : Ad}
/-- the classes are different ones -/
structure Apart (A : Ad) : Prop where
  rc : A.rd ≠ A.cmd
  lc : A.line ≠ A.cmd
  uc : A.run ≠ A.cmd
  dc : A.desk ≠ A.cmd
  kc : A.call ≠ A.cmd
  lr : A.line ≠ A.run
  lo : A.line ≠ A.com
  uo : A.run ≠ A.com
  ko : A.call ≠ A.desk
def sp_read_commands (K : PySem.W.Frag) (A : Ad) : Sp := fun vs H Q E => ∃ (a : Addr) (b : Bytes), vs = [.ref a] ∧ SqL K H a (bV b) ∧
  (∀ f, Vaseda.read b = .error f → FE A.fa E (Same H) f.code f.place) ∧
  (∀ s p H', Vaseda.read b = .ok s → Same H H' → H p = none → CmdsAt A H' p s → (∀ c ∈ s, CmdOk c) → s.length ≤ 16 → Q (.ref p) H')
theorem sc_read_commands : FnScope ["script", "reader", "commands"] ["script"] (defScope s_read_commands) := ⟨rfl, rfl, rfl, by decide +kernel, rfl, by decide +kernel, by decide +kernel⟩
theorem kind_end (t : VasedBase.Tok) : (kindV t = .str "end") ↔ t = .last := by
  have h1 : ¬ V.str "own word" = V.str "end" := by decide +kernel
  have h2 : ¬ V.str "letters" = V.str "end" := by decide +kernel
  have h3 : ¬ V.str "sign" = V.str "end" := by decide +kernel
  have h4 : ¬ V.str "number" = V.str "end" := by decide +kernel
  cases t with
  | name b =>
    show ((if VasedBase.RESERVED.contains b = true then V.str "own word" else V.str "letters") = _) ↔ _
    split
    · exact ⟨fun z => absurd z h1, fun e => by cases e⟩
    · exact ⟨fun z => absurd z h2, fun e => by cases e⟩
  | num n => exact ⟨fun z => absurd z h4, fun e => by cases e⟩
  | sign n => exact ⟨fun z => absurd z h3, fun e => by cases e⟩
  | last => exact ⟨fun _ => rfl, fun _ => rfl⟩
theorem next_last {t : PTok} {r : Toks} : VasedBase.next .last (t :: r) = true ↔ t.tok = .last := by
  obtain ⟨p, k⟩ := t
  cases k <;> exact ⟨fun h => (by first | rfl | cases h), fun h => (by first | rfl | cases h)⟩
theorem cmds_step {n : Nat} {cs : Vaseda.Script} {t : PTok} {r : Toks} : takeCmds (n + 1) cs (t :: r) = if VasedBase.next .last (t :: r) = true then .ok cs else if Vaseda.CMDS ≤ cs.length then .error ⟨4, t.place⟩ else (takeCmd (t :: r)).bind fun x => takeCmds n (cs ++ [x.1]) x.2 := rfl
theorem lex_all (l : Toks) (h : Ends l) : l ≠ [] := by rintro rfl; exact h
theorem tokens_ends {b : Bytes} {l : Toks} (h : VasedBase.tokens b = .ok l) : Ends l := by
  unfold VasedBase.tokens at h
  split at h
  · cases h
  · exact lex_ends _ _ _ _ h
theorem g_read_commands (D : Dn K mg "read_commands" s_read_commands) (T : RdT K mg A) (TX : Txt K mg) (TF : PySem.FaX.FaTxt K mg A.fa A.faI) (TT : TokTxt K mg A.tok) (ap : Apart A) (G1 : Gm P w K mg base CX0 5 A.rd "front" ["self"] (sp_front A))
    (G2 : GdN P w K mg base (L2.CX P w) 30 "read_tokens" ["script"] (sp_read_tokens K A)) (G3 : Gi P w K mg base 5 A.rd ["self", "tokens"] (sp_rd_init A)) (G4 : GdN P w K mg base (L2.CX P w) 30 "read_command" ["reader"] (sp_read_command A)) :
    Gd P w K mg base (L2.CX P w) 35 "read_commands" ["script"] (sp_read_commands K A) := by
  obtain ⟨f, fd, m, F⟩ := D
  obtain ⟨f1, fd1, m1, b1, F1⟩ := G1
  obtain ⟨f2, fd2, m2, k2, b2, F2⟩ := G2
  obtain ⟨f3, fd3, m3, b3, F3⟩ := G3
  obtain ⟨f4, fd4, m4, k4, b4, F4⟩ := G4
  have G : FnN P w K mg base (L2.CX P w) 35 f fd ["script"] (fun vs _ H Q E => sp_read_commands K A vs H (fun v H' => ∀ u n, RelV v u → Q u n v H') E) := by
    refine fnN_of F sc_read_commands (fun vs n H Q E h => ?_) (fun cdv A' outer s n H vs Q E hr h => ?_)
    · obtain ⟨a, b, rfl, _⟩ := h; rfl
    refine ⟨_, (LN.pssn_cons (psn_set (i := 1) sc_read_commands.nd rfl (.inl rfl) (pen_make m3 F3 (hr.mono (by decide)) rfl T.g b3 (pan_cons (pen_call F2 (hr.mono (by decide)) rfl m2 k2 b2 (passes_call (takes_of rfl rfl rfl rfl) (fun _ _ _ _ h => h)) (pan_of (L2.pa_cons (pv 0) L2.pa_nil))) pan_nil))) (LN.pssn_cons (psn_of (ps_set (i := 2) sc_read_commands.nd rfl (.inl rfl) (pe_lst pa_nil))) (LN.pssn_cons (psn_while (passes_of rfl) (pt_cmpR op_ne (pe_still (pe_meth0 (pv 1) T.cl m1 F1 (hr.mono (by decide)) b1 .nil pass0)) (pe_k TX.kEND) (nomark _)) (LN.pssn_cons (psn_of (ps_if (pt_cmpR op_eq ((pe_callB call_len_seq (by rfl) TX.len PySem.boot_len (pa_cons (pv 2) pa_nil))) (pe_k TX.kMOST_COMMANDS) (nomark _)) (L2.pss_one (ps_raiseFa rfl TF (k := 3) (hr.mono (by decide)) (takes_of rfl rfl rfl rfl) (L2.pa_cons (pe_k TX.kTOO_MANY) (L2.pa_cons (pe_still (pe_meth0 (pv 1) T.cl m1 F1 (hr.mono (by decide)) b1 .nil pass0)) L2.pa_nil)))) L2.pss_nil)) (LN.pssn_one (psn_expr (pen_bm PySem.F.plainAttrs_list PySem.F.slot_list_append PySem.F.type_list_append mt_append (pv 2) (pan_cons (pen_call F4 (hr.mono (by decide)) rfl m4 k4 b4 (passes_call (takes_of rfl rfl rfl rfl) (fun _ _ _ _ h => h)) (pan_of (L2.pa_cons (pv 1) L2.pa_nil))) pan_nil)))))) (LN.pssn_one (psn_of (ps_ret (pv 2))))))), ?_⟩
    obtain ⟨a, b, rfl, hS, qE, qQ⟩ := h
    refine ⟨_, rfl, fun us _ => ⟨a, b, rfl, hS, fun fa ht d H1 s1 e1 => ?_, fun l p H1 n1 tk s1 e1 al ri => ?_⟩⟩
    · exact qE fa (by unfold Vaseda.read; rw [ht]; rfl) d H1 s1 e1
    intro r dr hr1 hdr ner
    have sm2 : Same H1 (upd (upd H1 dr (.own r)) r (.ins A.rd dr [])) := fun d o e => by rw [upd_ne (ne_of_none e hr1), upd_ne (ne_of_none e hdr)]; exact e
    refine ⟨r, dr, p, l, rfl, upd_same, sm2 _ _ e1, al.same sm2, fun H2 bt2 R2 => ⟨rfl, ?_⟩⟩
    have s2 : Same H1 H2 := Same.made hr1 hdr bt2
    refine ⟨by decide, fun q hq => ?_⟩
    have s3 : Same H2 (upd H2 q (.lst [])) := same_new hq
    have h3 : upd H2 q (.lst []) q = some (.lst []) := upd_same
    generalize upd H2 q (.lst []) = H3 at s3 h3 ⊢
    have E0 : Ends (ts l) := tokens_ends tk
    have hread : Vaseda.read b = takeCmds ((ts l).length + 1) [] (ts l) := by unfold Vaseda.read; rw [tk]; rfl
    have hrH : H r = none := by
      cases e : H r with
      | none => rfl
      | some o => rw [s1 _ _ e] at hr1; cases hr1
    have hqH : H q = none := by
      cases e : H q with
      | none => rfl
      | some o => rw [s2 _ _ (s1 _ _ e)] at hq; cases hq
    refine ⟨fun mm σ n' H' => ∃ (lc : List (Addr × Cmd)) (l' : List TR) (F' k : Nat), mm = l'.length ∧ σ = [some (.ref a), some (.ref r), some (.ref q)] ∧ Same H H' ∧ RdAt A H' r l' ∧ Ends (ts l') ∧ l'.length < F' ∧ 1 ≤ k ∧ Rise k l' n' ∧
      H' q = some (.lst (lc.map fun x => V.ref x.1)) ∧ (∀ x ∈ lc, CmdAt A H' x.1 x.2 ∧ CmdOk x.2) ∧ lc.length ≤ 16 ∧ Vaseda.read b = takeCmds F' (lc.map (·.2)) (ts l'),
      ⟨_, [], l, (ts l).length + 1, 1, rfl, rfl, s1.trans (s2.trans s3), R2.same s3, E0, by simp, Nat.le_refl _, ri, h3, by simp, by decide, hread⟩, ?_⟩
    rintro mm σ n' H' ⟨lc, l', F', k, rfl, rfl, sm, R', E', hF', hk, ri', hq', hc', len', rd'⟩
    obtain ⟨x, l2, rfl⟩ := ends_cons E'
    have RR := R'
    obtain ⟨dx, tl, l0, i, c1, c2, c3, c4⟩ := RR
    obtain ⟨F2, rfl⟩ : ∃ F2, F' = F2 + 1 := ⟨F' - 1, by have := hF'; simp at this; omega⟩
    rw [show ts (x :: l2) = x.t :: ts l2 from rfl, cmds_step] at rd'
    refine ⟨_, rfl, r, dx, _, rfl, c1, rd_no _ (by simp), r, x, l2, rfl, R', x.a, A.tok, _, _, _, _, rfl, R'.head.1, TT.cl, TT.n1, lookup_kind, scal_kind _ _, _, rfl, ?_⟩
    refine if_iff (p := ¬ x.t.tok = .last) (by simp [kind_end]) (fun hn => ?_) fun hn => ?_
    · rw [if_neg (fun z => hn (next_last.mp z))] at rd'
      refine ⟨_, rfl, q, _, rfl, .inl (SqL.of hq'), rfl, _, rfl, ?_⟩
      rw [List.length_map]
      refine if_iff (p := lc.length = 16) (by rw [decide_eq_true_iff]; exact ⟨fun z => by injection z with z; omega, fun z => by rw [z]; rfl⟩) (fun h16 => ?_) fun h16 => ?_
      · rw [if_pos (by unfold Vaseda.CMDS; rw [List.length_map]; omega)] at rd'
        refine ⟨_, rfl, r, dx, _, rfl, c1, rd_no _ (by simp), r, x, l2, rfl, R', x.a, A.tok, _, _, _, _, rfl, R'.head.1, TT.cl, TT.n3, lookup_place, _, _, rfl, fun d hd => ?_⟩
        exact qE ⟨4, x.t.place⟩ rd' d _ (same_xd sm hd) upd_same
      · rw [if_neg (by unfold Vaseda.CMDS; rw [List.length_map]; omega)] at rd'
        refine ⟨_, rfl, .inl ⟨rfl, _, SqL.of hq'⟩, _, rfl, fun us2 _ => ⟨r, x :: l2, k, rfl, R', E', hk, ri', fun fa ht d H5 s5 e5 => ?_, fun c l3 p5 H5 n5 tc bt5 R5 E5 len5 okc pre5 hc5 hn5 => ?_⟩⟩
        · refine qE fa (by rw [rd', show x.t :: ts l2 = ts (x :: l2) from rfl, ht]; rfl) d H5 (fun b' o e => s5 _ _ (sm _ _ e) (ne_of_none e hrH)) e5
        · have nqr : q ≠ r := ne_of hq' c1 (by intro z; cases z)
          have hq5 := bt5 _ _ hq' nqr
          refine ⟨q, _, _, rfl, rfl, hq5, by rw [List.length_map, sizeLine_eq]; omega, fun wv rv => ?_⟩
          have bt6 : But q H5 (upd H5 q (.lst ((lc.map fun x => V.ref x.1) ++ [V.ref p5]))) := But.upd
          obtain ⟨p6, q6⟩ := pre5
          rw [q6] at ri'
          obtain ⟨k6, hk6, ri6⟩ := Rise.after ri'
          have R5' := R5
          obtain ⟨dx5, tl5, l05, i5, d1, d2, d3, d4⟩ := R5'
          refine ⟨l3.length, by simp at len5; omega, lc ++ [(p5, c)], l3, F2, k6, rfl, rfl, fun b' o e => ?_, ?_, E5, by have := hF'; simp at this len5; omega, Nat.le_trans hk hk6, ri6.mono hn5, ?_, fun y hy => ?_, by rw [List.length_append, List.length_singleton]; omega, ?_⟩
          · rw [upd_ne (ne_of_none e hqH)]
            exact bt5 _ _ (sm _ _ e) (ne_of_none e hrH)
          · have nt : tl5 ≠ q := fun z => by
              rw [z, hq5] at d2
              injection d2 with d2
              injection d2 with d2
              obtain ⟨y0, l9, e9⟩ := ends_cons E5
              rw [e9] at d4
              have hm := List.mem_of_getElem? (drop_head d4).1
              have hm2 : V.ref y0.a ∈ refs l05 := List.mem_map.mpr ⟨y0, hm, rfl⟩
              rw [← d2] at hm2
              obtain ⟨y1, hy1, ey1⟩ := List.mem_map.mp hm2
              injection ey1 with ey1
              obtain ⟨dxx, _, f1, _⟩ := (d3 y0 hm).1
              obtain ⟨dxc, _, _, f2, _⟩ := ((hc' y1 hy1).1.but c1 True.intro (fun _ _ z => by injection z with z; exact ap.rc z) bt5)
              rw [ey1, f1] at f2
              cases f2
            exact ⟨dx5, tl5, l05, i5, bt6 _ _ d1 (fun z => nqr z.symm), bt6 _ _ d2 nt, AllTok.but d3 hq5 True.intro bt6, d4⟩
          · rw [upd_same, List.map_append]; rfl
          · rcases List.mem_append.mp hy with hy | hy
            · obtain ⟨y1, y2⟩ := hc' y hy
              exact ⟨(y1.but c1 True.intro (fun _ _ z => by injection z with z; exact ap.rc z) bt5).but hq5 True.intro (fun _ _ z => by cases z) bt6, y2⟩
            · have : y = (p5, c) := by simpa using hy
              rw [this]
              exact ⟨hc5.but hq5 True.intro (fun _ _ z => by cases z) bt6, okc⟩
          · rw [rd', show x.t :: ts l2 = ts (x :: l2) from rfl, tc, List.map_append]; rfl
    · have hlast : x.t.tok = .last := Classical.byContradiction hn
      rw [if_pos (next_last.mpr hlast)] at rd'
      refine ⟨_, rfl, fun wv rv => ?_⟩
      exact qQ (lc.map (·.2)) q H' rd' sm hqH ⟨lc, hq', rfl, fun y hy => (hc' y hy).1⟩ (fun c hc => by
        obtain ⟨y, hy, rfl⟩ := List.mem_map.mp hc
        exact (hc' y hy).2) (by rw [List.length_map]; exact len') wv _ rv
  refine ⟨f, fd, m, F.kp, F.binds (fun _ _ _ _ _ _ us hl => match us, hl with | [_], _ => rfl), G.plain.imp fun vs H Q E h => ?_⟩
  obtain ⟨a, b, e, hS, qE, qQ⟩ := h
  exact ⟨a, b, e, hS, qE, fun s p H' h1 h2 h2' h3 h4 h5 u n _ => qQ s p H' h1 h2 h2' h3 h4 h5⟩
end
end LD

namespace LD
open PySem PySem.Spec PyProof.Rows L2 LN
open VasedBase (Bytes PTok Toks nextWord word)
open Vaseda (Deed Cmd)
/-! ### a list made item by item -/
section
variable {K : PySem.W.Frag} {a D : Addr} {xs ys : List V} {te : TE} {σ : L2.St} {k : Nat} {H1 : Hp} {Qd : Hp → Prop}
theorem step_maps (hD : H1 D = none) (len : ys.length = xs.length) (big : xs.length < sizeLine)
    (turn : ∀ (i : Nat) (x y : V) (H : Hp) (Q : VK), xs[i]? = some x → ys[i]? = some y → Same H1 H → (∀ H2, Same H H2 → Q y H2) → te ((wipe σ [k]).set k (some x)) H Q)
    (i : Nat) (x : V) (H : Hp) (hx : xs[i]? = some x) (p : Same H1 H ∧ H D = some (.lst (ys.take i))) :
    gName k x (wipe σ [k]) H fun σ2 H2 => wipe σ2 [k] = wipe σ [k] ∧ tYes σ2 H2 fun b H3 =>
      if b = true then te σ2 H3 fun y H4 => ∃ acc, H4 D = some (.lst acc) ∧ acc.length < sizeLine ∧ (Same H1 (upd H4 D (.lst (acc ++ [y]))) ∧ upd H4 D (.lst (acc ++ [y])) D = some (.lst (ys.take (i + 1)))) else (Same H1 H3 ∧ H3 D = some (.lst (ys.take (i + 1)))) := by
  have hi := (List.getElem?_eq_some_iff.mp hx).1
  obtain ⟨y, hy⟩ : ∃ y, ys[i]? = some y := ⟨ys[i]'(by rw [len]; exact hi), List.getElem?_eq_getElem _⟩
  refine ⟨by show ((σ.set k none).set k (some x)).set k none = σ.set k none; rw [List.set_set, List.set_set], ?_⟩
  refine turn i x y H _ hx hy p.1 fun H2 s2 => ⟨_, s2 _ _ p.2, by rw [List.length_take]; omega, fun b o e => ?_, ?_⟩
  · by_cases hb : b = D
    · subst hb; rw [hD] at e; cases e
    · rw [upd_ne hb]; exact s2 _ _ (p.1 _ _ e)
  · rw [upd_same, List.take_add_one, hy]; rfl
theorem lc_mapsL (hD : H1 D = none) (hS : SqL K H1 a xs) (len : ys.length = xs.length) (big : xs.length < sizeLine)
    (turn : ∀ (i : Nat) (x y : V) (H : Hp) (Q : VK), xs[i]? = some x → ys[i]? = some y → Same H1 H → (∀ H2, Same H H2 → Q y H2) → te ((wipe σ [k]).set k (some x)) H Q)
    (fin : ∀ H, Same H1 H → H D = some (.lst ys) → Qd H) :
    ∃ W : Nat → Nat → Hp → Prop, (∃ m, W 0 m (upd H1 D (.lst []))) ∧ ∀ i m H, W i m H →
      ((Itl K a).stop i H ∧ Qd H) ∨ ((Itl K a).go i H ∧ ∃ Nx : Hp → Prop, (∀ H', Nx H' → ∃ m', m' < m ∧ W (i + 1) m' H') ∧ ∀ x H', (Itl K a).yld i H x H' → gName k x (wipe σ [k]) H' fun σ2 H2 => wipe σ2 [k] = wipe σ [k] ∧ tYes σ2 H2 fun b H3 =>
        if b = true then te σ2 H3 fun y H4 => ∃ acc, H4 D = some (.lst acc) ∧ acc.length < sizeLine ∧ Nx (upd H4 D (.lst (acc ++ [y]))) else Nx H3) :=
  lc_list (K := K) (a := a) (xs := xs) (fun i H => Same H1 H ∧ H D = some (.lst (ys.take i))) ⟨same_new hD, by rw [upd_same]; rfl⟩ (fun i H _ p => p.1.seq hS) (fun i x H hx p => step_maps hD len big turn i x H hx p)
    (fun H p => fin H p.1 (by rw [p.2, ← len, List.take_length]))
theorem Same.tupS {H H' : Hp} (e : Same H H') (h : SqT K H a xs) : SqT K H' a xs := by
  rcases h with (h | ⟨o, h⟩) | h
  · exact .inl (.inl (e _ _ h))
  · exact .inl (.inr ⟨o, e _ _ h⟩)
  · exact .inr h
theorem lc_mapsT (hD : H1 D = none) (hS : SqT K H1 a xs) (len : ys.length = xs.length) (big : xs.length < sizeLine)
    (turn : ∀ (i : Nat) (x y : V) (H : Hp) (Q : VK), xs[i]? = some x → ys[i]? = some y → Same H1 H → (∀ H2, Same H H2 → Q y H2) → te ((wipe σ [k]).set k (some x)) H Q)
    (fin : ∀ H, Same H1 H → H D = some (.lst ys) → Qd H) :
    ∃ W : Nat → Nat → Hp → Prop, (∃ m, W 0 m (upd H1 D (.lst []))) ∧ ∀ i m H, W i m H →
      ((Itt K a).stop i H ∧ Qd H) ∨ ((Itt K a).go i H ∧ ∃ Nx : Hp → Prop, (∀ H', Nx H' → ∃ m', m' < m ∧ W (i + 1) m' H') ∧ ∀ x H', (Itt K a).yld i H x H' → gName k x (wipe σ [k]) H' fun σ2 H2 => wipe σ2 [k] = wipe σ [k] ∧ tYes σ2 H2 fun b H3 =>
        if b = true then te σ2 H3 fun y H4 => ∃ acc, H4 D = some (.lst acc) ∧ acc.length < sizeLine ∧ Nx (upd H4 D (.lst (acc ++ [y]))) else Nx H3) :=
  lc_tup (K := K) (a := a) (xs := xs) (fun i H => Same H1 H ∧ H D = some (.lst (ys.take i))) ⟨same_new hD, by rw [upd_same]; rfl⟩ (fun i H _ p => Same.tupS p.1 hS) (fun i x H hx p => step_maps hD len big turn i x H hx p)
    (fun H p => fin H p.1 (by rw [p.2, ← len, List.take_length]))
end
theorem call_str_any {X : Cx} : CallR X (.type "str") (fun xs H Q => (∃ i, xs = [.int i] ∧ i.natAbs.log2 < 1920 ∧ Q (.str (toString i)) H) ∨ (∃ a, xs = [.str a] ∧ Q (.str a) H)) :=
  fun pins s σ H xs us Q I r h => h.elim (call_str_int pins s σ H xs us Q I r) (SkE.call_str_str pins s σ H xs us Q I r)
/-! ### the parts of addresses and deeds -/
abbrev Pt := Sum Nat Bytes
def pV : Pt → V
  | .inl n => .int n
  | .inr b => .str (bS b)
def pB : Pt → Bytes
  | .inl n => VasedBase.showNat n
  | .inr b => b
def addrP : Vaseda.Addr → List Pt
  | .all => [.inr (word "all")]
  | .line n => [.inr (word "line"), .inl n]
  | .span a b => [.inr (word "from"), .inl a, .inl b]
  | .last => [.inr (word "last")]
  | .has w => [.inr (word "has"), .inr w]
  | .is_ w => [.inr (word "is"), .inr w]
  | .not _ => []
def deedP : Deed → List Pt
  | .delete => [.inr (word "delete")]
  | .before w => [.inr (word "before"), .inr w]
  | .after w => [.inr (word "after"), .inr w]
  | .change w => [.inr (word "change"), .inr w]
  | .swap a b => [.inr (word "swap"), .inr a, .inr b]
  | .first a b => [.inr (word "first"), .inr a, .inr b]
  | .keep => [.inr (word "keep")]
  | .bring => [.inr (word "bring")]
  | .trade => [.inr (word "trade")]
  | .skip k => [.inr (word "skip"), .inl k]
  | .halt_ => [.inr (word "stop")]
theorem wS (s : String) (z : Str) (h : z = bS (word s)) : V.str z = pV (.inr (word s)) := by rw [h]; rfl
theorem addrV_P (a : Vaseda.Addr) : addrV a = (addrP a).map pV := by
  cases a with
  | all => show [V.str "all"] = [pV _]; rw [wS "all" "all" (by decide +kernel)]
  | line n => show [V.str "line", V.int n] = [pV _, pV _]; rw [wS "line" "line" (by decide +kernel)]; rfl
  | span a b => show [V.str "from", V.int a, V.int b] = [pV _, pV _, pV _]; rw [wS "from" "from" (by decide +kernel)]; rfl
  | last => show [V.str "last"] = [pV _]; rw [wS "last" "last" (by decide +kernel)]
  | has w => show [V.str "has", _] = [pV _, pV _]; rw [wS "has" "has" (by decide +kernel)]; rfl
  | is_ w => show [V.str "is", _] = [pV _, pV _]; rw [wS "is" "is" (by decide +kernel)]; rfl
  | not a => rfl
theorem DeedAt.seq {K : PySem.W.Frag} {H : Hp} {p : Addr} {d : Deed} (h : DeedAt H p d) : SqT K H p ((deedP d).map pV) := by
  have tup : ∀ xs, H p = some (.tup xs) → ∀ ys, xs = ys → SqT K H p ys := fun xs e ys q => by rw [← q]; exact .of e
  have frz : ∀ z a b, Trip H p z a b → ∀ ys, [V.str z, V.str (bS a), V.str (bS b)] = ys → SqT K H p ys := fun z a b ⟨un, t1, t2, e, _⟩ ys q => by rw [← q]; exact .inl (.inr ⟨_, e⟩)
  cases d with
  | delete => exact tup _ h _ (by show [V.str "delete"] = [pV _]; rw [wS "delete" "delete" (by decide +kernel)])
  | before w => exact tup _ h _ (by show [V.str "before", _] = [pV _, pV _]; rw [wS "before" "before" (by decide +kernel)]; rfl)
  | after w => exact tup _ h _ (by show [V.str "after", _] = [pV _, pV _]; rw [wS "after" "after" (by decide +kernel)]; rfl)
  | change w => exact tup _ h _ (by show [V.str "change", _] = [pV _, pV _]; rw [wS "change" "change" (by decide +kernel)]; rfl)
  | swap a b => exact frz _ _ _ h _ (by show [V.str "swap", _, _] = [pV _, pV _, pV _]; rw [wS "swap" "swap" (by decide +kernel)]; rfl)
  | first a b => exact frz _ _ _ h _ (by show [V.str "first", _, _] = [pV _, pV _, pV _]; rw [wS "first" "first" (by decide +kernel)]; rfl)
  | keep => exact tup _ h _ (by show [V.str "keep"] = [pV _]; rw [wS "keep" "keep" (by decide +kernel)])
  | bring => exact tup _ h _ (by show [V.str "bring"] = [pV _]; rw [wS "bring" "bring" (by decide +kernel)])
  | trade => exact tup _ h _ (by show [V.str "trade"] = [pV _]; rw [wS "trade" "trade" (by decide +kernel)])
  | skip k => exact tup _ h _ (by show [V.str "skip", _] = [pV _, pV _]; rw [wS "skip" "skip" (by decide +kernel)]; rfl)
  | halt_ => exact tup _ h _ (by show [V.str "stop"] = [pV _]; rw [wS "stop" "stop" (by decide +kernel)])
theorem str_nat (n : Nat) (h : n < 100) : (toString (n : Int) : String) = (toString (n : Int) : String) ∧ (Str.ofString (toString (n : Int))) = bS (VasedBase.showNat n) := by
  refine ⟨rfl, ?_⟩
  have all : ∀ k : Fin 100, Str.ofString (toString (k.val : Int)) = bS (VasedBase.showNat k.val) := by decide +kernel
  exact all ⟨n, h⟩
abbrev s_address_words : Stmt := top 68
abbrev s_deed_words : Stmt := top 69
abbrev s_condition_words : Stmt := top 67
abbrev s_command_form : Stmt := top 66
abbrev s_one_form : Stmt := top 65
section
variable {P : Program} {w : World} {K : PySem.W.Frag} {mg : Str → Option Value} {base : Heap} {A : Ad}
/-- parts whose numbers are small -/
def Small (l : List Pt) : Prop := ∀ p ∈ l, match p with | .inl n => n < 100 | .inr _ => True
theorem log_small (n : Nat) (h : n < 100) : ((n : Int).natAbs).log2 < 1920 := by
  have : ∀ k : Fin 100, (k.val).log2 < 1920 := by decide +kernel
  rw [Int.natAbs_natCast]
  exact this ⟨n, h⟩
/-! ### deeds -/
def sp_deed_words (A : Ad) : Sp := fun vs H Q _ => ∃ (p : Addr) (d : Deed), vs = [.ref p] ∧ DeedAt H p d ∧ DeedOk d ∧ ∀ q H', Same H H' → H' q = some (.lst ((deedW d).map fun b => V.str (bS b))) → Q (.ref q) H'
theorem sc_deed_words : FnScope ["deed", "part"] ["deed"] (defScope s_deed_words) := ⟨rfl, rfl, rfl, by decide +kernel, rfl, by decide +kernel, by decide +kernel⟩
def noneOr (p : Pt) : Bytes := match p with
  | .inl n => VasedBase.showNat n
  | .inr b => Vaseda.instead b
theorem instead_ne {b : Bytes} (h : b ≠ []) : Vaseda.instead b = b := by
  unfold Vaseda.instead
  cases b with
  | nil => exact absurd rfl h
  | cons x r => rfl
theorem Lw.ne {w : Bytes} (h : Lw w) : w ≠ [] := by rintro rfl; exact absurd h.1 (by decide)
theorem deedW_P {d : Deed} (h : DeedOk d) : deedW d = (deedP d).map noneOr := by
  have n (s : String) (hs : word s ≠ []) : noneOr (.inr (word s)) = word s := instead_ne hs
  cases d with
  | delete => show [_] = [noneOr _]; rw [n _ (by decide +kernel)]
  | before w => show [_, _] = [noneOr _, Vaseda.instead w]; rw [n _ (by decide +kernel), instead_ne (Lw.ne h)]
  | after w => show [_, _] = [noneOr _, Vaseda.instead w]; rw [n _ (by decide +kernel), instead_ne (Lw.ne h)]
  | change w => show [_, _] = [noneOr _, Vaseda.instead w]; rw [n _ (by decide +kernel), instead_ne (Lw.ne h)]
  | swap a b => show [_, _, _] = [noneOr _, Vaseda.instead a, Vaseda.instead b]; rw [n _ (by decide +kernel), instead_ne (Lw.ne h.1)]
  | first a b => show [_, _, _] = [noneOr _, Vaseda.instead a, Vaseda.instead b]; rw [n _ (by decide +kernel), instead_ne (Lw.ne h.1)]
  | keep => show [_] = [noneOr _]; rw [n _ (by decide +kernel)]
  | bring => show [_] = [noneOr _]; rw [n _ (by decide +kernel)]
  | trade => show [_] = [noneOr _]; rw [n _ (by decide +kernel)]
  | skip k => show [_, _] = [noneOr _, _]; rw [n _ (by decide +kernel)]; rfl
  | halt_ => show [_] = [noneOr _]; rw [n _ (by decide +kernel)]
theorem deed_small {d : Deed} (h : DeedOk d) : Small (deedP d) := by
  intro p hp
  cases d with
  | skip k =>
    have hp : p ∈ [Sum.inr (word "skip"), Sum.inl k] := hp
    rcases List.mem_cons.mp hp with rfl | hp
    · exact True.intro
    · have : p = .inl k := by simpa using hp
      rw [this]
      have := h.2
      show k < 100
      omega
  | _ =>
    cases p with
    | inl n => simp [deedP] at hp
    | inr b => exact True.intro
theorem deedP_len (d : Deed) : (deedP d).length ≤ 3 := by cases d <;> simp [deedP]
theorem addrP_len (a : Vaseda.Addr) : (addrP a).length ≤ 3 := by cases a <;> simp [addrP]
theorem nV_get {l : List Pt} {i : Nat} {x : V} (h : (l.map pV)[i]? = some x) : ∃ p, l[i]? = some p ∧ x = pV p := by
  rw [List.getElem?_map] at h
  cases e : l[i]? with
  | none => rw [e] at h; cases h
  | some p => rw [e] at h; exact ⟨p, rfl, (Option.some.inj h).symm⟩
theorem g_deed_words (D : Dn K mg "deed_words" s_deed_words) (TX : Txt K mg) : Gd P w K mg base CX0 5 "deed_words" ["deed"] (sp_deed_words A) := by
  obtain ⟨f, fd, m, F⟩ := D
  refine ⟨f, fd, m, F.kp, F.binds (fun _ _ _ _ _ _ us hl => match us, hl with | [_], _ => rfl), F.ok sc_deed_words (fun vs H Q E h => ?_) (fun cdv A' outer s H vs Q E hr h => ?_)⟩
  · obtain ⟨p, d, rfl, _⟩ := h; rfl
  · refine ⟨_, (L2.pss_one (ps_ret (pe_lc (own := [("part", 1)]) (g := gName 1) (tt := tYes) rfl sc_deed_words.nd (pi_tup (pv 0)) (blkOk_by (N := ["deed", "part"]) (sc := defScope s_deed_words) (by decide +kernel)) (fun _ _ _ _ _ => pg_name (i := 1) sc_deed_words.nd rfl (Or.inl rfl)) (fun _ _ _ _ _ => pts_nil)
      (fun _ _ _ _ _ => pe_ifExp (pt_cmpR op_eq (pv 1) pe_str (nomark _)) pe_str (pe_callTy call_str_any (by rfl) TX.str (by decide +kernel) (L2.pa_cons (pv 1) L2.pa_nil)))))), ?_⟩
    obtain ⟨p, d, rfl, hd, ok, q⟩ := h
    refine ⟨_, rfl, p, rfl, ⟨_, hd.seq⟩, fun q' hq' => lc_mapsT (ys := (deedW d).map fun b => V.str (bS b)) hq' hd.seq (by rw [deedW_P ok]; simp) (by rw [List.length_map, sizeLine_eq]; have := deedP_len d; omega) (fun i x y H2 Q2 hx hy s2 fin => ?_) fun H2 s2 e2 => q q' H2 s2 e2⟩
    obtain ⟨pt, hp, rfl⟩ := nV_get hx
    have hy' : y = V.str (bS (noneOr pt)) := by
      rw [deedW_P ok, List.map_map, List.getElem?_map, hp] at hy
      exact (Option.some.inj hy).symm
    have sm := deed_small ok pt (List.mem_of_getElem? hp)
    cases pt with
    | inl n =>
      refine ⟨_, rfl, rfl, _, rfl, if_false_of (decide_eq_false (fun z : V.int n = V.str "" => by cases z)) ⟨_, rfl, .inl ⟨n, rfl, log_small n sm, ?_⟩⟩⟩
      have e := fin H2 (Same.refl _)
      rw [hy'] at e
      have e2 : (noneOr (.inl n)) = VasedBase.showNat n := rfl
      rw [e2, ← (str_nat n sm).2] at e
      exact e
    | inr b =>
      have e := fin H2 (Same.refl _)
      rw [hy'] at e
      refine ⟨_, rfl, rfl, _, rfl, if_iff (p := b = []) (by rw [decide_eq_true_iff]; exact ⟨fun h => by injection h with h; rw [bS_nil] at h; exact bS_inj h, fun h => by rw [h]; show V.str _ = V.str _; rw [bS_nil]⟩) (fun hb => ?_) fun hb => ⟨_, rfl, .inr ⟨_, rfl, ?_⟩⟩⟩
      · subst hb
        have e3 : bS (noneOr (.inr [])) = "none" := by decide +kernel
        rw [e3] at e
        exact e
      · have e3 : noneOr (.inr b) = b := instead_ne hb
        rw [e3] at e
        exact e
end
end LD

namespace LD
open PySem PySem.Spec PyProof.Rows L2 LN
open VasedBase (Bytes PTok Toks nextWord word)
open Vaseda (Deed Cmd)
section
variable {P : Program} {w : World} {K : PySem.W.Frag} {mg : Str → Option Value} {base : Heap} {A : Ad}
/-! ### addresses -/
def sp_address_words (A : Ad) : Sp := fun vs H Q _ => ∃ (p : Addr) (a : Vaseda.Addr), vs = [.ref p] ∧ H p = some (.tup (addrV a)) ∧ CoreOk a ∧ ∀ q H', Same H H' → H' q = some (.lst ((addrW a).map fun b => V.str (bS b))) → Q (.ref q) H'
theorem sc_address_words : FnScope ["address", "part"] ["address"] (defScope s_address_words) := ⟨rfl, rfl, rfl, by decide +kernel, rfl, by decide +kernel, by decide +kernel⟩
theorem addr_small {a : Vaseda.Addr} (h : CoreOk a) : Small (addrP a) := by
  intro p hp
  cases a with
  | line k =>
    have hp : p ∈ [Sum.inr (word "line"), Sum.inl k] := hp
    rcases List.mem_cons.mp hp with rfl | hp
    · exact True.intro
    · have : p = .inl k := by simpa using hp
      rw [this]
      have := h.2
      show k < 100
      omega
  | span j k =>
    have hp : p ∈ [Sum.inr (word "from"), Sum.inl j, Sum.inl k] := hp
    have := h.2
    rcases List.mem_cons.mp hp with rfl | hp
    · exact True.intro
    rcases List.mem_cons.mp hp with rfl | hp
    · show j < 100; omega
    · have e : p = .inl k := by simpa using hp
      rw [e]
      show k < 100
      omega
  | _ =>
    cases p with
    | inl n => simp [addrP] at hp
    | inr b => exact True.intro
theorem addrW_P {a : Vaseda.Addr} (h : ∀ j k, a ≠ .span j k) : addrW a = (addrP a).map pB := by
  cases a with
  | span j k => exact absurd rfl (h j k)
  | _ => rfl
theorem addr_head {a : Vaseda.Addr} (h : CoreOk a) : ∃ z r, addrV a = .str z :: r ∧ (z = "from" ↔ ∃ j k, a = .span j k) := by
  cases a with
  | all => exact ⟨_, _, rfl, fun z => absurd z (by decide +kernel), fun ⟨_, _, z⟩ => by cases z⟩
  | line n => exact ⟨_, _, rfl, fun z => absurd z (by decide +kernel), fun ⟨_, _, z⟩ => by cases z⟩
  | span j k => exact ⟨_, _, rfl, fun _ => ⟨j, k, rfl⟩, fun _ => rfl⟩
  | last => exact ⟨_, _, rfl, fun z => absurd z (by decide +kernel), fun ⟨_, _, z⟩ => by cases z⟩
  | has w => exact ⟨_, _, rfl, fun z => absurd z (by decide +kernel), fun ⟨_, _, z⟩ => by cases z⟩
  | is_ w => exact ⟨_, _, rfl, fun z => absurd z (by decide +kernel), fun ⟨_, _, z⟩ => by cases z⟩
  | not a => exact h.elim
theorem g_address_words (D : Dn K mg "address_words" s_address_words) (TX : Txt K mg) : Gd P w K mg base CX0 5 "address_words" ["address"] (sp_address_words A) := by
  obtain ⟨f, fd, m, F⟩ := D
  refine ⟨f, fd, m, F.kp, F.binds (fun _ _ _ _ _ _ us hl => match us, hl with | [_], _ => rfl), F.ok sc_address_words (fun vs H Q E h => ?_) (fun cdv A' outer s H vs Q E hr h => ?_)⟩
  · obtain ⟨p, d, rfl, _⟩ := h; rfl
  · refine ⟨_, (L2.pss_cons (ps_if (pt_cmpR op_eq (pe_ix ix_tup (pv 0) pe_int (fun _ _ => rfl)) pe_str (nomark _)) (L2.pss_one (ps_ret (pe_lst (L2.pa_cons (pe_str) (L2.pa_cons (pe_callTy call_str_any (by rfl) TX.str (by decide +kernel) (L2.pa_cons (pe_ix ix_tup (pv 0) pe_int (fun _ _ => rfl)) L2.pa_nil)) (L2.pa_cons (pe_str) (L2.pa_cons (pe_callTy call_str_any (by rfl) TX.str (by decide +kernel) (L2.pa_cons (pe_ix ix_tup (pv 0) pe_int (fun _ _ => rfl)) L2.pa_nil)) L2.pa_nil))))))) L2.pss_nil) (L2.pss_one (ps_ret (pe_lc (own := [("part", 1)]) (g := gName 1) (tt := tYes) rfl sc_address_words.nd (pi_tup (pv 0)) (blkOk_by (N := ["address", "part"]) (sc := defScope s_address_words) (by decide +kernel)) (fun _ _ _ _ _ => pg_name (i := 1) sc_address_words.nd rfl (Or.inl rfl)) (fun _ _ _ _ _ => pts_nil)
      (fun _ _ _ _ _ => pe_callTy call_str_any (by rfl) TX.str (by decide +kernel) (L2.pa_cons (pv 1) L2.pa_nil)))))), ?_⟩
    obtain ⟨p, a, rfl, hd, ok, q⟩ := h
    obtain ⟨z, r, ez, iz⟩ := addr_head ok
    have hS : SqT K H p (addrV a) := .of hd
    refine ⟨_, rfl, p, _, _, _, rfl, rfl, hS, atI_nat (j := 0) (by rw [ez]; rfl), rfl, _, rfl, if_iff (p := ∃ j k, a = .span j k) (by rw [decide_eq_true_iff, ← iz]; exact ⟨fun h => by injection h, fun h => by rw [h]⟩) (fun hj => ?_) fun hj => ?_⟩
    · obtain ⟨j, k, rfl⟩ := hj
      have s1 := addr_small ok (.inl j) (by simp [addrP])
      have s2 := addr_small ok (.inl k) (by simp [addrP])
      refine ⟨_, rfl, p, _, _, _, rfl, rfl, hS, atI_nat (j := 1) rfl, .inl ⟨j, rfl, log_small j s1, ?_⟩⟩
      refine ⟨_, rfl, p, _, _, _, rfl, rfl, hS, atI_nat (j := 2) rfl, .inl ⟨k, rfl, log_small k s2, ?_⟩⟩
      refine ⟨by show 4 ≤ sizeLine; decide, fun q' hq' => q q' _ (same_new hq') ?_⟩
      rw [upd_same]
      show _ = some (HO.lst [V.str (bS (word "from")), V.str (bS (VasedBase.showNat j)), V.str (bS (word "to")), V.str (bS (VasedBase.showNat k))])
      rw [← (str_nat j s1).2, ← (str_nat k s2).2, show ("from" : Str) = bS (word "from") from by decide +kernel, show ("to" : Str) = bS (word "to") from by decide +kernel]
    · have eW := addrW_P (a := a) fun j k z => hj ⟨j, k, z⟩
      rw [addrV_P] at hS
      refine ⟨_, rfl, p, rfl, ⟨_, hS⟩, fun q' hq' => lc_mapsT (ys := (addrW a).map fun b => V.str (bS b)) hq' hS (by rw [eW]; simp) (by rw [List.length_map, sizeLine_eq]; have := addrP_len a; omega) (fun i x y H2 Q2 hx hy s2 fin => ?_) fun H2 s2 e2 => q q' H2 s2 e2⟩
      obtain ⟨pt, hp, rfl⟩ := nV_get hx
      have hy' : y = V.str (bS (pB pt)) := by
        rw [eW, List.map_map, List.getElem?_map, hp] at hy
        exact (Option.some.inj hy).symm
      have sm := addr_small ok pt (List.mem_of_getElem? hp)
      have e := fin H2 (Same.refl _)
      rw [hy'] at e
      cases pt with
      | inl n =>
        refine ⟨_, rfl, .inl ⟨n, rfl, log_small n sm, ?_⟩⟩
        rw [← show _ = bS (pB (.inl n)) from (str_nat n sm).2] at e
        exact e
      | inr b => exact ⟨_, rfl, .inr ⟨_, rfl, e⟩⟩
/-! ### a condition -/
def sp_condition_words (A : Ad) : Sp := fun vs H Q _ => ∃ (p : Addr) (c : Cmd), vs = [.ref p] ∧ CmdAt A H p c ∧ CmdOk c ∧ ∀ q H', Same H H' → H' q = some (.lst ((condW c).map fun b => V.str (bS b))) → Q (.ref q) H'
theorem sc_condition_words : FnScope ["command"] ["command"] (defScope s_condition_words) := ⟨rfl, rfl, rfl, by decide +kernel, rfl, by decide +kernel, by decide +kernel⟩
theorem strOk_bS (w : Bytes) : PyData.strOk (bS w) = true := by
  show (bN w).toArray.all (· < 0x110000) = true
  rw [Array.all_eq_true_iff_forall_mem]
  intro x hx
  have hx : x ∈ bN w := by simpa using hx
  obtain ⟨c, _, rfl⟩ := List.mem_map.mp hx
  have := u8_lt c
  simp; omega
theorem shaped_two {z : Str} {w : Bytes} (hz : PyData.strOk z = true) : SeqAt.shaped (.tuple [.str z, .str (bS w)]) = true := by
  unfold SeqAt.shaped
  rw [Bool.and_eq_true]
  refine ⟨?_, by with_unfolding_all rfl⟩
  simp only [PyData.canLay0, PyData.canLayAll0, strOk_bS, hz, Bool.and_self]
theorem addr_data {a : Vaseda.Addr} (h : CoreOk a) {H : Hp} {p : Addr} (hp : H p = some (.tup (addrV a))) : ∃ d, Dp K H (.ref p) d ∧ SeqAt.shaped d = true ∧ (PyData.eqv d (.tuple [.str "all"]) = true ↔ a = .all) := by
  have hS : SqT K H p (addrV a) := .of hp
  cases a with
  | all => exact ⟨.tuple [.str "all"], .tup hS (.cons (.str _) .nil), (by first | with_unfolding_all rfl | kernel_rfl), fun _ => rfl, fun _ => by decide +kernel⟩
  | line n => exact ⟨.tuple [.str "line", .int n], .tup hS (.cons (.str _) (.cons (.int _) .nil)), (by first | with_unfolding_all rfl | kernel_rfl), fun z => absurd z (by simp [PyData.eqv, PyData.eqvAll]), fun z => by cases z⟩
  | span j k => exact ⟨.tuple [.str "from", .int j, .int k], .tup hS (.cons (.str _) (.cons (.int _) (.cons (.int _) .nil))), (by first | with_unfolding_all rfl | kernel_rfl), fun z => absurd z (by simp [PyData.eqv, PyData.eqvAll]), fun z => by cases z⟩
  | last => exact ⟨.tuple [.str "last"], .tup hS (.cons (.str _) .nil), (by first | with_unfolding_all rfl | kernel_rfl), fun z => absurd z (by decide +kernel), fun z => by cases z⟩
  | has w => exact ⟨.tuple [.str "has", .str (bS w)], .tup hS (.cons (.str _) (.cons (.str _) .nil)), shaped_two (by decide +kernel), fun z => absurd z (by simp [PyData.eqv, PyData.eqvAll]), fun z => by cases z⟩
  | is_ w => exact ⟨.tuple [.str "is", .str (bS w)], .tup hS (.cons (.str _) (.cons (.str _) .nil)), shaped_two (by decide +kernel), fun z => absurd z (by simp [PyData.eqv, PyData.eqvAll]), fun z => by cases z⟩
  | not a => exact h.elim
theorem flat_one (k : Nat) (x : V) : (List.replicate k [x]).flatten = List.replicate k x := by
  induction k with
  | zero => rfl
  | succ k ih => rw [List.replicate_succ, List.flatten_cons, ih]; rfl
theorem cmd_lk {k : Nat} {ta td : Addr} : (cmdF k ta td).lookup ("nots" : Str) = some (.int k) ∧ (cmdF k ta td).lookup ("address" : Str) = some (.ref ta) ∧ (cmdF k ta td).lookup ("deed" : Str) = some (.ref td) := by
  unfold cmdF
  exact ⟨by ((repeat (first | exact lk_here | refine lk_past (by decide +kernel) ?_)); first | done | rfl), by ((repeat (first | exact lk_here | refine lk_past (by decide +kernel) ?_)); first | done | rfl), by ((repeat (first | exact lk_here | refine lk_past (by decide +kernel) ?_)); first | done | rfl)⟩
theorem g_condition_words (D : Dn K mg "condition_words" s_condition_words) (T : CmdT K mg A) (G1 : Gd P w K mg base CX0 5 "address_words" ["address"] (sp_address_words A)) : Gd P w K mg base CX0 10 "condition_words" ["command"] (sp_condition_words A) := by
  obtain ⟨f, fd, m, F⟩ := D
  obtain ⟨f1, fd1, m1, k1, b1, F1⟩ := G1
  refine ⟨f, fd, m, F.kp, F.binds (fun _ _ _ _ _ _ us hl => match us, hl with | [_], _ => rfl), F.ok sc_condition_words (fun vs H Q E h => ?_) (fun cdv A' outer s H vs Q E hr h => ?_)⟩
  · obtain ⟨p, d, rfl, _⟩ := h; rfl
  · refine ⟨_, (L2.pss_cons (ps_if (PW.pt (pw_and (pt_cmpR op_eq (pe_fld (pv 0) rfl) pe_int (nomark _)) (pw_and1 (pt_cmpR (op_eqD hr.units) (pe_fld (pv 0) rfl) (pe_tup (L2.pa_cons (pe_str) L2.pa_nil)) (nomark _))))) (L2.pss_one (ps_ret (pe_lst pa_nil))) L2.pss_nil) (L2.pss_one (ps_ret (pe_op op_cat (pe_op op_cat (pe_lst (L2.pa_cons (pe_str) L2.pa_nil)) (pe_op op_rep (pe_lst (L2.pa_cons (pe_str) L2.pa_nil)) (pe_fld (pv 0) rfl))) (pe_call F1 (hr.mono (by decide)) rfl m1 k1 b1 .nil pass0 (L2.pa_cons (pe_fld (pv 0) rfl) L2.pa_nil)))))), ?_⟩
    obtain ⟨p, c, rfl, ⟨dx, ta, td, e1, e2, e3⟩, ok, q⟩ := h
    have lkk := cmd_lk (k := notsOf c.a) (ta := ta) (td := td)
    have two : (word "if" :: (List.replicate (notsOf c.a) (word "not") ++ addrW (coreOf c.a))).map (fun b => V.str (bS b)) = [V.str "if"] ++ List.replicate (notsOf c.a) (V.str "not") ++ (addrW (coreOf c.a)).map fun b => V.str (bS b) := by
      rw [List.map_cons, List.map_append, List.map_replicate, show ("if" : Str) = bS (word "if") from by decide +kernel, show ("not" : Str) = bS (word "not") from by decide +kernel]
      rfl
    have h3 := ok.1.1
    refine ⟨_, rfl, p, A.cmd, dx, _, _, rfl, e1, T.cl, T.no _ (by simp), lkk.1, rfl, _, rfl, if_iff (p := notsOf c.a = 0) (by rw [decide_eq_true_iff]; exact ⟨fun z => by injection z with z; omega, fun z => by rw [z]; rfl⟩) (fun h0 => ?r0) fun h0 => if_false_of rfl ?r1⟩
    case' r0 =>
      refine ⟨_, rfl, p, A.cmd, dx, _, _, rfl, e1, T.cl, T.no _ (by simp), lkk.2.1, (by show 1 ≤ sizeLine; decide), fun t ht => ?_⟩
      have sm : Same H (upd H t (.tup [.str "all"])) := same_new ht
      obtain ⟨d, dp, sh, eq⟩ := addr_data (K := K) ok.1.2 (sm _ _ e2)
      refine ⟨d, .tuple [.str "all"], dp, .tup (.of upd_same) (.cons (.str _) .nil), sh, (by first | with_unfolding_all rfl | kernel_rfl), _, rfl, if_iff (p := c.a = .all) ?_ (fun ha => ?_) fun ha => ?r2⟩
      · exact eq.trans ⟨fun h => (all_iff _).mpr ⟨h0, h⟩, fun h => ((all_iff _).mp h).2⟩
      · refine ⟨by decide, fun l hl => q l _ (sm.trans (same_new hl)) ?_⟩
        rw [upd_same]
        unfold condW
        rw [if_pos ha]
        rfl
    case' r1 =>
      have ha : c.a ≠ .all := fun z => h0 ((all_iff _).mp z).1
      have sm : Same H H := Same.refl _
    all_goals
      have e1' := sm _ _ e1
      have e2' := sm _ _ e2
      refine ⟨by show 1 ≤ sizeLine; decide, fun l1 hl1 => ⟨by show 1 ≤ sizeLine; decide, fun l2 hl2 => ?_⟩⟩
      have s1 : Same _ (upd _ l1 (.lst [V.str "if"])) := same_new hl1
      have s2 : Same _ (upd _ l2 (.lst [V.str "not"])) := same_new hl2
      refine ⟨_, rfl, p, A.cmd, dx, _, _, rfl, s2 _ _ (s1 _ _ e1'), T.cl, T.no _ (by simp), lkk.1, l2, _, _, rfl, rfl, upd_same, by omega, by omega, by simp [sizeLine_eq]; omega, fun l3 hl3 => ?_⟩
      have s3 : Same _ (upd _ l3 (.lst (List.replicate ((notsOf c.a : Nat) : Int).toNat [V.str "not"]).flatten)) := same_new hl3
      refine ⟨l1, l3, _, _, rfl, rfl, s3 _ _ (s2 _ _ upd_same), upd_same, by rw [flat_one]; simp [sizeLine_eq]; omega, fun l4 hl4 => ?_⟩
      have s4 : Same _ (upd _ l4 (.lst ([V.str "if"] ++ (List.replicate ((notsOf c.a : Nat) : Int).toNat [V.str "not"]).flatten))) := same_new hl4
      refine ⟨_, rfl, p, A.cmd, dx, _, _, rfl, s4 _ _ (s3 _ _ (s2 _ _ (s1 _ _ e1'))), T.cl, T.no _ (by simp), lkk.2.1, ta, coreOf c.a, rfl, s4 _ _ (s3 _ _ (s2 _ _ (s1 _ _ e2'))), ok.1.2, fun q5 H5 s5 e5 => ?_⟩
      refine ⟨l4, q5, _, _, rfl, rfl, s5 _ _ upd_same, e5, ?_, fun l6 hl6 => q l6 _ (sm.trans (s1.trans (s2.trans (s3.trans (s4.trans (s5.trans (same_new hl6))))))) ?_⟩
      · have := addrP_len (coreOf c.a)
        rw [flat_one]
        have : (addrW (coreOf c.a)).length ≤ 4 := by cases coreOf c.a <;> simp [addrW]
        simp [sizeLine_eq]; omega
      · rw [upd_same]
        unfold condW
        rw [if_neg ha, two, flat_one]
        rfl
/-! ### a command's form, the script's -/
def sp_command_form (A : Ad) : Sp := fun vs H Q _ => ∃ (p : Addr) (c : Cmd), vs = [.ref p] ∧ CmdAt A H p c ∧ CmdOk c ∧ ∀ H', Same H H' → Q (.str (bS (Vaseda.showCmd c))) H'
theorem sc_command_form : FnScope ["command", "words"] ["command"] (defScope s_command_form) := ⟨rfl, rfl, rfl, by decide +kernel, rfl, by decide +kernel, by decide +kernel⟩
end
end LD

namespace LD
open PySem PySem.Spec PyProof.Rows L2 LN
open VasedBase (Bytes PTok Toks nextWord word)
open Vaseda (Deed Cmd)
section
variable {P : Program} {w : World} {K : PySem.W.Frag} {mg : Str → Option Value} {base : Heap} {A : Ad}
theorem showNat_len (n : Nat) (h : n < 100) : (VasedBase.showNat n).length ≤ 8 := by
  have all : ∀ k : Fin 100, (VasedBase.showNat k.val).length ≤ 8 := by decide +kernel
  exact all ⟨n, h⟩
/-- the words of a command -/
def cmdW (c : Cmd) : List Bytes := condW c ++ deedW c.d ++ [word ";"]
theorem instead_len {b : Bytes} (h : b = [] ∨ Lw b) : (Vaseda.instead b).length ≤ 8 := by
  rcases h with rfl | h
  · decide +kernel
  · rw [instead_ne h.ne]; exact h.2.1
theorem addrW_len {a : Vaseda.Addr} (ok : CoreOk a) : ∀ b ∈ addrW a, b.length ≤ 8 := by
  have e (s : String) (h : (word s).length ≤ 8) : ∀ b ∈ ([word s] : List Bytes), b.length ≤ 8 := fun b hb => by
    have : b = word s := by simpa using hb
    rw [this]; exact h
  have c {x : Bytes} {l : List Bytes} (h : x.length ≤ 8) (k : ∀ b ∈ l, b.length ≤ 8) : ∀ b ∈ x :: l, b.length ≤ 8 := fun b hb => by
    rcases List.mem_cons.mp hb with rfl | hb
    · exact h
    · exact k b hb
  have n0 : ∀ b ∈ ([] : List Bytes), b.length ≤ 8 := by simp
  cases a with
  | all => exact c (by decide +kernel) n0
  | line n => exact c (by decide +kernel) (c (showNat_len n (by have := ok.2; omega)) n0)
  | span j k => exact c (by decide +kernel) (c (showNat_len j (by have := ok.2; omega)) (c (by decide +kernel) (c (showNat_len k (by have := ok.2; omega)) n0)))
  | last => exact c (by decide +kernel) n0
  | has w => exact c (by decide +kernel) (c ok.2.1 n0)
  | is_ w => exact c (by decide +kernel) (c ok.2.1 n0)
  | not a => exact n0
theorem deedW_len {d : Deed} (ok : DeedOk d) : ∀ b ∈ deedW d, b.length ≤ 8 := by
  have c {x : Bytes} {l : List Bytes} (h : x.length ≤ 8) (k : ∀ b ∈ l, b.length ≤ 8) : ∀ b ∈ x :: l, b.length ≤ 8 := fun b hb => by
    rcases List.mem_cons.mp hb with rfl | hb
    · exact h
    · exact k b hb
  have n0 : ∀ b ∈ ([] : List Bytes), b.length ≤ 8 := by simp
  cases d with
  | before w => exact c (by decide +kernel) (c ok.2.1 n0)
  | after w => exact c (by decide +kernel) (c ok.2.1 n0)
  | change w => exact c (by decide +kernel) (c ok.2.1 n0)
  | swap a b => exact c (by decide +kernel) (c ok.1.2.1 (c (instead_len ok.2) n0))
  | first a b => exact c (by decide +kernel) (c ok.1.2.1 (c (instead_len ok.2) n0))
  | skip k => exact c (by decide +kernel) (c (showNat_len k (by have := ok.2; omega)) n0)
  | delete => exact c (by decide +kernel) n0
  | keep => exact c (by decide +kernel) n0
  | bring => exact c (by decide +kernel) n0
  | trade => exact c (by decide +kernel) n0
  | halt_ => exact c (by decide +kernel) n0
theorem cmdW_len {c : Cmd} (ok : CmdOk c) : (∀ b ∈ cmdW c, b.length ≤ 8) ∧ (cmdW c).length ≤ 12 ∧ (condW c).length ≤ 8 ∧ (deedW c.d).length ≤ 3 := by
  have a1 : (addrW (coreOf c.a)).length ≤ 4 := by cases coreOf c.a <;> simp [addrW]
  have d1 : (deedW c.d).length ≤ 3 := by cases c.d <;> simp [deedW]
  have n1 := ok.1.1
  have c1 : (condW c).length ≤ 8 := by
    unfold condW
    split
    · exact Nat.zero_le _
    · rw [List.length_cons, List.length_append, List.length_replicate]; omega
  refine ⟨fun b hb => ?_, ?_, c1, d1⟩
  · unfold cmdW at hb
    rcases List.mem_append.mp hb with hb | hb
    · rcases List.mem_append.mp hb with hb | hb
      · unfold condW at hb
        split at hb
        · simp at hb
        · rcases List.mem_cons.mp hb with rfl | hb
          · decide +kernel
          · rcases List.mem_append.mp hb with hb | hb
            · rw [(List.mem_replicate.mp hb).2]; decide +kernel
            · exact addrW_len ok.1.2 b hb
      · exact deedW_len ok.2 b hb
    · have : b = word ";" := by simpa using hb
      rw [this]; decide +kernel
  · unfold cmdW
    rw [List.length_append, List.length_append, List.length_singleton]; omega
theorem sum_le8 : ∀ {l : List Bytes}, (∀ b ∈ l, b.length ≤ 8) → ((l.map bS).map (·.length)).sum ≤ 8 * l.length
  | [], _ => Nat.le_refl _
  | b :: l, h => by
    have ih := sum_le8 (l := l) fun b hb => h b (List.mem_cons_of_mem _ hb)
    have := h b List.mem_cons_self
    rw [List.map_cons, List.map_cons, List.sum_cons, bS_length, List.length_cons]
    omega
theorem jn_eq : ∀ (s : Bytes) (l : List Bytes), jn s l = jnP s l
  | _, [] => rfl
  | _, [_] => rfl
  | s, x :: y :: r => by
    show x ++ s ++ jn s (y :: r) = x ++ s ++ jnP s (y :: r)
    rw [jn_eq s (y :: r)]
theorem jn_len : ∀ {l : List Bytes}, (∀ b ∈ l, b.length ≤ 8) → (jn [32] l).length ≤ 9 * l.length
  | [], _ => Nat.le_refl _
  | [x], h => by
    have := h x List.mem_cons_self
    show x.length ≤ 9 * 1
    omega
  | x :: y :: r, h => by
    have ih := jn_len (l := y :: r) fun b hb => h b (List.mem_cons_of_mem _ hb)
    have := h x List.mem_cons_self
    show (x ++ [32] ++ jn [32] (y :: r)).length ≤ 9 * (r.length + 2)
    rw [List.length_append, List.length_append, List.length_singleton]
    rw [List.length_cons] at ih
    omega
theorem showCmd_len {c : Cmd} (ok : CmdOk c) : (Vaseda.showCmd c).length ≤ 120 := by
  rw [← cmd_show, ← jn_eq]
  have h := cmdW_len ok
  have := jn_len h.1
  rw [List.length_append, List.length_singleton]
  have e : jn [32] (condW c ++ deedW c.d ++ [word ";"]) = jn [32] (cmdW c) := rfl
  rw [e]
  have := h.2.1
  omega
theorem g_command_form (D : Dn K mg "command_form" s_command_form) (T : CmdT K mg A) (G1 : Gd P w K mg base CX0 10 "condition_words" ["command"] (sp_condition_words A)) (G2 : Gd P w K mg base CX0 5 "deed_words" ["deed"] (sp_deed_words A)) :
    Gd P w K mg base CX0 15 "command_form" ["command"] (sp_command_form A) := by
  obtain ⟨f, fd, m, F⟩ := D
  obtain ⟨f1, fd1, m1, k1, b1, F1⟩ := G1
  obtain ⟨f2, fd2, m2, k2, b2, F2⟩ := G2
  refine ⟨f, fd, m, F.kp, F.binds (fun _ _ _ _ _ _ us hl => match us, hl with | [_], _ => rfl), F.ok sc_command_form (fun vs H Q E h => ?_) (fun cdv A' outer s H vs Q E hr h => ?_)⟩
  · obtain ⟨p, d, rfl, _⟩ := h; rfl
  · refine ⟨_, (L2.pss_cons (ps_set (i := 1) sc_command_form.nd rfl (.inl rfl) (pe_op op_cat (pe_op op_cat (pe_call F1 (hr.mono (by decide)) rfl m1 k1 b1 .nil pass0 (L2.pa_cons (pv 0) L2.pa_nil)) (pe_call F2 (hr.mono (by decide)) rfl m2 k2 b2 .nil pass0 (L2.pa_cons (pe_fld (pv 0) rfl) L2.pa_nil))) (pe_lst (L2.pa_cons (pe_str) L2.pa_nil)))) (L2.pss_one (ps_ret (pe_op op_add_str (pe_join pe_str (pv 1)) pe_str)))), ?_⟩
    obtain ⟨p, c, rfl, hc, ok, q⟩ := h
    have len := cmdW_len ok
    refine ⟨_, rfl, p, c, rfl, hc, ok, fun l1 H1 s1 e1 => ?_⟩
    have hc1 := hc.same s1
    obtain ⟨dx, ta, td, a1, a2, a3⟩ := hc1
    refine ⟨_, rfl, p, A.cmd, dx, _, _, rfl, a1, T.cl, T.no _ (by simp), cmd_lk.2.2, td, c.d, rfl, a3, ok.2, fun l2 H2 s2 e2 => ?_⟩
    refine ⟨l1, l2, _, _, rfl, rfl, s2 _ _ e1, e2, by simp [sizeLine_eq]; omega, fun l3 hl3 => ⟨by show 1 ≤ sizeLine; decide, fun l4 hl4 => ?_⟩⟩
    have s3 : Same H2 (upd H2 l3 (.lst ((condW c).map (fun b => V.str (bS b)) ++ (deedW c.d).map (fun b => V.str (bS b))))) := same_new hl3
    have s4 := same_new (o := .lst [V.str ";"]) hl4
    refine ⟨l3, l4, _, _, rfl, rfl, s4 _ _ upd_same, upd_same, by simp [sizeLine_eq]; omega, fun l5 hl5 => ?_⟩
    have s5 := same_new (o := .lst ((condW c).map (fun b => V.str (bS b)) ++ (deedW c.d).map (fun b => V.str (bS b)) ++ [V.str ";"])) hl5
    have ew : (condW c).map (fun b => V.str (bS b)) ++ (deedW c.d).map (fun b => V.str (bS b)) ++ [V.str ";"] = ((cmdW c).map bS).map V.str := by
      unfold cmdW
      rw [show (";" : Str) = bS (word ";") from by decide +kernel, List.map_map, List.map_append, List.map_append]
      rfl
    have sum := sum_le8 len.1
    have e32 : (" " : Str) = bS [32] := by decide +kernel
    have e10 : ("\n" : Str) = bS [10] := by decide +kernel
    refine ⟨⟨_, rfl⟩, _, rfl, _, l5, (cmdW c).map bS, rfl, rfl, .inl (.of (by rw [← ew]; exact upd_same)), ?_, ?_⟩
    · have : (" " : Str).length = 1 := by decide +kernel
      rw [this, List.length_map]
      have := len.2.1
      omega
    · rw [e32, join_bS]
      refine ⟨_, _, rfl, rfl, ?_, ?_⟩
      · have := jn_len len.1
        have h10 : ("\n" : Str).length = 1 := by decide +kernel
        rw [bS_length, h10, sizeLine_eq]
        have := len.2.1
        omega
      · have e : bS (jn [32] (cmdW c)) ++ "\n" = bS (Vaseda.showCmd c) := by
          rw [e10, bS_append, jn_eq, ← cmd_show]; rfl
        rw [e]
        exact q _ (s1.trans (s2.trans (s3.trans (s4.trans s5))))
def sp_one_form (A : Ad) : Sp := fun vs H Q _ => ∃ (p : Addr) (s : Vaseda.Script), vs = [.ref p] ∧ CmdsAt A H p s ∧ (∀ c ∈ s, CmdOk c) ∧ s.length ≤ 16 ∧ ∀ H', Same H H' → Q (.str (bS (Vaseda.shown s))) H'
theorem sc_one_form : FnScope ["commands", "command"] ["commands"] (defScope s_one_form) := ⟨rfl, rfl, rfl, by decide +kernel, rfl, by decide +kernel, by decide +kernel⟩
theorem shown_len {s : Vaseda.Script} (ok : ∀ c ∈ s, CmdOk c) : (((s.map Vaseda.showCmd).map bS).map (·.length)).sum ≤ 120 * s.length := by
  induction s with
  | nil => exact Nat.le_refl _
  | cons c r ih =>
    have ih := ih fun c hc => ok c (List.mem_cons_of_mem _ hc)
    have := showCmd_len (ok c List.mem_cons_self)
    rw [List.map_cons, List.map_cons, List.map_cons, List.sum_cons, bS_length, List.length_cons]
    omega
theorem shown_flat (s : Vaseda.Script) : (s.map Vaseda.showCmd).flatten = Vaseda.shown s := by unfold Vaseda.shown; rw [List.flatMap_def]
theorem g_one_form (D : Dn K mg "one_form" s_one_form) (G1 : Gd P w K mg base CX0 15 "command_form" ["command"] (sp_command_form A)) : Gd P w K mg base CX0 20 "one_form" ["commands"] (sp_one_form A) := by
  obtain ⟨f, fd, m, F⟩ := D
  obtain ⟨f1, fd1, m1, k1, b1, F1⟩ := G1
  refine ⟨f, fd, m, F.kp, F.binds (fun _ _ _ _ _ _ us hl => match us, hl with | [_], _ => rfl), F.ok sc_one_form (fun vs H Q E h => ?_) (fun cdv A' outer s H vs Q E hr h => ?_)⟩
  · obtain ⟨p, d, rfl, _⟩ := h; rfl
  · refine ⟨_, (L2.pss_one (ps_ret (pe_join pe_str (pe_lc (own := [("command", 1)]) (g := gName 1) (tt := tYes) rfl sc_one_form.nd (pi_list (pv 0)) (blkOk_by (N := ["commands", "command"]) (sc := defScope s_one_form) (by decide +kernel)) (fun _ _ _ _ _ => pg_name (i := 1) sc_one_form.nd rfl (Or.inl rfl)) (fun _ _ _ _ _ => pts_nil)
      (fun _ _ _ _ _ => pe_call F1 (hr.mono (by decide)) rfl m1 k1 b1 .nil pass0 (L2.pa_cons (pv 1) L2.pa_nil)))))), ?_⟩
    obtain ⟨p, sc, rfl, ⟨l, h1, rfl, h3⟩, ok, len, q⟩ := h
    rw [List.length_map] at len
    refine ⟨⟨_, rfl⟩, _, rfl, p, rfl, ⟨_, SqL.of h1⟩, fun D hD => lc_mapsL (ys := (((l.map (·.2)).map Vaseda.showCmd).map bS).map V.str) hD (.of h1) (by simp) (by rw [List.length_map, sizeLine_eq]; omega) (fun i x y H2 Q2 hx hy s2 fin => ?_) fun H2 s2 e2 => ?_⟩
    · rw [List.getElem?_map] at hx
      cases e : l[i]? with
      | none => rw [e] at hx; cases hx
      | some c =>
        rw [e] at hx
        have hx : V.ref c.1 = x := Option.some.inj hx
        subst hx
        rw [List.map_map, List.map_map, List.map_map, List.getElem?_map, e] at hy
        have hy : V.str (bS (Vaseda.showCmd c.2)) = y := Option.some.inj hy
        subst hy
        have hm := List.mem_of_getElem? e
        exact ⟨_, rfl, c.1, c.2, rfl, (h3 c hm).same s2, ok _ (List.mem_map.mpr ⟨c, hm, rfl⟩), fun H3 s3 => fin H3 s3⟩
    · have sum := shown_len ok
      rw [List.length_map] at sum
      refine ⟨_, D, _, rfl, rfl, .inl (.of e2), ?_, ?_⟩
      · have : ("" : Str).length = 0 := by decide +kernel
        rw [this]
        omega
      · rw [join_empty, shown_flat]
        exact q H2 s2
end
end LD

namespace L2
open PySem PySem.Spec PyProof.Rows
section
variable {X : Cx}
/-- what the text says of an own error without words, at C -/
structure XTxt (K : PySem.W.Frag) (mg : Str → Option Value) (x : Str) (C : Addr) : Prop where
  g : mg x = some (.ref C)
  q : PySem.W.excIn K C [.type "Exception", .type "BaseException", .type "object"] "Exception.__new__" = true
  k : PySem.W.keepIn K (.ref C) = true
  exC : PySem.W.subIn K (.ref C) (.type "BaseException") = some true
  tyC : PySem.W.typeIn K (.ref C) = some (.type "type")
/-- X() -/
theorem pmk_own0 {C : Addr} {x : Str} {p pos : Pos} (T : XTxt X.K X.mg x C) (hg : Gl X x) (hdb : (x == ("__debug__" : Str)) = false := by decide) :
    PMk X (.Call (.Name x p) [] [] pos) (fun _ H Q => Q (.ref C) none H) := by
  intro pins s σ H Q I h
  refine wpAny_Call_Name_kw (ld_glob I hg T.g ?_ hdb)
  refine PySem.W.callWith_K0 (first := []) I.kIn T.k ?_
  show wpAny _ _ (call (.ref C) []) _ _ _
  obtain ⟨bm, N, nm, qn, bs, hdct, sn, sub, ab, col, dd, k0, k1, k2, k3, k5, mN, hC, hN, hni, Tm⟩ := exc_obj I.kIn T.q
  refine wpAny_call_exc_subT PySem.F.excBase_Exception Tm hC hN hni (fun h' e hm => ?_) (by show 0 ≤ sizeLine; exact Nat.zero_le _)
  exact mk_of I hm (raises_own T.exC T.tyC) h (I.hok.gone hm.new)
/-- raise X() -/
def tRaise0 (C : Addr) (W : WX) : TS := fun _ σ H => W (.ref C) none σ H
theorem ps_raise0 {C : Addr} {x : Str} {W : WX} {p pos pos2 : Pos} (hc : X.calm = true) (T : XTxt X.K X.mg x C) (tk : Takes X W) (hg : Gl X x := by rfl) (hdb : (x == ("__debug__" : Str)) = false := by decide) :
    PS X (.Raise (some (.Call (.Name x p) [] [] pos)) none pos2) (tRaise0 C W) := ps_raise hc tk (pmk_own0 T hg hdb)
end
end L2
namespace LD
open PySem PySem.Spec PyProof.Rows L2 LN
open VasedBase (Bytes PTok Toks nextWord word)
open Vaseda (Deed Cmd)
/-- an error without words is wanted -/
def XE (C : Addr) (E : XK) (S : Hp → Prop) : Prop := ∀ H', S H' → E (.ref C) none H'
abbrev s_read_text : Stmt := top 73
abbrev s_read_line : Stmt := top 74
abbrev s_text_bytes : Stmt := top 75
section
variable {P : Program} {w : World} {K : PySem.W.Frag} {mg : Str → Option Value} {base : Heap} {A : Ad}
/-! ### bytes_of -/
def sp_bytes_of : Sp := fun vs H Q _ => ∃ b : Bytes, vs = [.str (bS b)] ∧ b.length < sizeLine ∧ ∀ D H', Same H H' → H' D = some (.lst (bV b)) → Q (.ref D) H'
theorem sc_bytes_of : FnScope ["signs", "sign"] ["signs"] (defScope s_bytes_of) := ⟨rfl, rfl, rfl, by decide +kernel, rfl, by decide +kernel, by decide +kernel⟩
theorem bS_at {b : Bytes} {i c : Nat} (h : (bS b).cps[i]? = some c) : ∃ y, b[i]? = some y ∧ c = y.toNat := by
  have h : (bN b).toArray[i]? = some c := h
  rw [List.getElem?_toArray] at h
  unfold bN at h
  rw [List.getElem?_map] at h
  obtain ⟨y, h1, h2⟩ := Option.map_eq_some_iff.mp h
  exact ⟨y, h1, h2.symm⟩
theorem take_bV {b : Bytes} {i : Nat} {y : UInt8} (h : b[i]? = some y) : bV (b.take (i + 1)) = bV (b.take i) ++ [.int (y.toNat : Int)] := by
  rw [List.take_add_one, h]
  unfold bV bI
  simp
theorem g_bytes_of (D : Dn K mg "bytes_of" s_bytes_of) (T : Txt K mg) : Gd P w K mg base CX0 5 "bytes_of" ["signs"] sp_bytes_of := by
  obtain ⟨f, fd, m, F⟩ := D
  refine ⟨f, fd, m, F.kp, F.binds (fun _ _ _ _ _ _ us hl => match us, hl with | [_], _ => rfl), F.ok sc_bytes_of (fun vs H Q E h => ?_) (fun cdv A' outer s H vs Q E hr h => ?_)⟩
  · obtain ⟨b, rfl, _⟩ := h; rfl
  · refine ⟨_, (L2.pss_one (ps_ret (pe_lc (own := [("sign", 1)]) (g := gName 1) (tt := tYes) rfl sc_bytes_of.nd (pi_str (pv 0)) (blkOk_by (N := ["signs", "sign"]) (sc := defScope s_bytes_of) (by decide +kernel)) (fun _ _ _ _ _ => pg_name (i := 1) sc_bytes_of.nd rfl (Or.inl rfl)) (fun _ _ _ _ _ => pts_nil)
      (fun _ _ _ _ _ => pe_callB call_ord (by rfl) T.ord rfl (L2.pa_cons (pv 1) L2.pa_nil))))), ?_⟩
    obtain ⟨b, rfl, hb, q⟩ := h
    refine ⟨_, rfl, _, rfl, fun D hD => lc_it walk_str (fun i H' => Same H H' ∧ H' D = some (.lst (bV (b.take i)))) ⟨same_new hD, by rw [upd_same]; rfl⟩ (fun _ _ _ _ => True.intro) (fun i x H1 H2 hi p y => ?_) fun H' p => ?_⟩
    · obtain ⟨rfl, c, hc, rfl⟩ := y
      obtain ⟨y, hy, rfl⟩ := bS_at hc
      refine ⟨rfl, _, rfl, _, rfl, rfl, _, p.2, ?_, fun d o e => ?_, ?_⟩
      · have := (List.getElem?_eq_some_iff.mp hy).1
        rw [bV_length, List.length_take]; omega
      · by_cases hd : d = D
        · subst hd; rw [hD] at e; cases e
        · rw [upd_ne hd]; exact p.1 _ _ e
      · rw [upd_same, take_bV hy]; rfl
    · refine q D H' p.1 ?_
      have e : (bS b).cps.size = b.length := bS_length b
      rw [p.2, e, List.take_length]
/-! ### a line is read -/
def sp_read_line (K : PySem.W.Frag) (A : Ad) : Sp := fun vs H Q E => ∃ (a : Addr) (b : Bytes), vs = [.ref a] ∧ SqL K H a (bV b) ∧ b.length < sizeLine ∧ (¬ LineOk b → XE A.nT E (Same H)) ∧ (LineOk b → ∀ H', Same H H' → Q (.str (bS b)) H')
theorem sc_read_line : FnScope ["row", "byte"] ["row"] (defScope s_read_line) := ⟨rfl, rfl, rfl, by decide +kernel, rfl, by decide +kernel, by decide +kernel⟩
theorem g_read_line (D : Dn K mg "read_line" s_read_line) (TX : Txt K mg) (TN : XTxt K mg "NotAText" A.nT) (G1 : Gd P w K mg base CX0 5 "is_letter" ["byte"] sp_is_letter) (G2 : GdN P w K mg base CX0 5 "letters_of" ["row"] (sp_letters_of K)) :
    Gd P w K mg base (L2.CX P w) 10 "read_line" ["row"] (sp_read_line K A) := by
  obtain ⟨f, fd, m, F⟩ := D
  obtain ⟨f1, fd1, m1, k1, b1, F1⟩ := G1
  obtain ⟨f2, fd2, m2, k2, b2, F2⟩ := G2.plain
  refine ⟨f, fd, m, F.kp, F.binds (fun _ _ _ _ _ _ us hl => match us, hl with | [_], _ => rfl), F.okX sc_read_line (fun vs H Q E h => ?_) (fun cdv A' outer s H vs Q E hr h => ?_)⟩
  · obtain ⟨a, b, rfl, _⟩ := h; rfl
  · refine ⟨_, (L2.pss_cons (ps_if (PW.pt (pw_or (pt_cmpR op_gt ((pe_callB call_len_seq (by rfl) TX.len PySem.boot_len (pa_cons (pv 0) pa_nil))) (pe_k TX.kMOST_LINE_LETTERS) (nomark _)) (pw_or1 (pt_not (pt_val (pe_callB (cr_all rfl) (by rfl) TX.all rfl (L2.pa_cons (pe_lc (own := [("byte", 1)]) (g := gName 1) (tt := tYes) rfl sc_read_line.nd (pi_list (pv 0)) (blkOk_by (N := ["row", "byte"]) (sc := defScope s_read_line) (by decide +kernel)) (fun _ _ _ _ _ => pg_name (i := 1) sc_read_line.nd rfl (Or.inl rfl)) (fun _ _ _ _ _ => pts_nil)
        (fun _ _ _ _ _ => pe_call F1 (hr.mono (by decide)) rfl m1 k1 b1 .nil pass0 (L2.pa_cons (pv 1) L2.pa_nil))) L2.pa_nil))))))) (L2.pss_one (ps_raise0 rfl TN (takes_of rfl rfl rfl rfl))) L2.pss_nil) (L2.pss_one (ps_ret (pe_call F2 (hr.mono (by decide)) rfl m2 k2 b2 .nil pass0 (L2.pa_cons (pv 0) L2.pa_nil))))), ?_⟩
    obtain ⟨a, b, rfl, hS, big, qE, qQ⟩ := h
    refine ⟨_, rfl, a, _, rfl, .inl hS, _, _, rfl, rfl, _, rfl, ?_⟩
    rw [bV_length]
    refine if_iff (p := 16 < b.length) (by rw [decide_eq_true_iff]; omega) (fun h16 => ?_) fun h16 => ?_
    · exact qE (fun z => by have := z.1; omega) H (Same.refl _)
    · refine ⟨_, rfl, a, rfl, ⟨_, hS⟩, fun D hD => lc_mapsL (ys := (b.map fun c => VasedBase.isLetter c).map V.bl) hD hS (by rw [List.length_map, List.length_map, bV_length]) (by rw [bV_length]; exact big) (fun i x y H2 Q2 hx hy s2 fin => ?_) fun H2 s2 e2 => ?_⟩
      · obtain ⟨c, hc, rfl⟩ := get_bV hx
        rw [List.map_map, List.getElem?_map, hc] at hy
        cases hy
        refine ⟨_, rfl, _, rfl, ?_⟩
        rw [is_letter_int]
        exact fin H2 (Same.refl _)
      · refine ⟨D, _, rfl, .of e2, _, rfl, ?_⟩
        have eal : (b.map fun c => VasedBase.isLetter c).all id = b.all VasedBase.isLetter := by rw [List.all_map]; rfl
        rw [eal]
        refine if_iff (p := ¬ LineOk b) ?_ (fun hn => qE hn H2 s2) fun hn => ?_
        · rw [← lineOk_iff]; unfold lineOk
          rw [decide_eq_true (by omega), Bool.true_and]
          simp
        · have ok : LineOk b := Classical.byContradiction hn
          exact ⟨_, rfl, a, b, rfl, s2.seq hS, ok.2, by have := ok.1; omega, fun H' t n' s3 _ _ => qQ ok H' (s2.trans s3)⟩
end
end LD

namespace LD
open PySem PySem.Spec PyProof.Rows L2 LN
open VasedBase (Bytes PTok Toks nextWord word)
open Vaseda (Deed Cmd Text)
/-- lines as texts of the program -/
def lV (t : Text) : List V := t.map fun x => V.str (bS x)
theorem lV_length (t : Text) : (lV t).length = t.length := by unfold lV; rw [List.length_map]
section
variable {P : Program} {w : World} {K : PySem.W.Frag} {mg : Str → Option Value} {base : Heap} {A : Ad}
def sp_read_text (K : PySem.W.Frag) (A : Ad) : Sp := fun vs H Q E => ∃ (a : Addr) (b : Bytes), vs = [.ref a] ∧ SqL K H a (bV b) ∧ b.length ≤ 8192 ∧ (Vaseda.readText b = none → XE A.nT E (Same H)) ∧
  (∀ t p H', Vaseda.readText b = some t → Same H H' → H' p = some (.lst (lV t)) → (∀ x ∈ t, LineOk x) → t.length ≤ 24 → Q (.ref p) H')
theorem sc_read_text : FnScope ["row", "lines", "begin", "at", "byte"] ["row"] (defScope s_read_text) := ⟨rfl, rfl, rfl, by decide +kernel, rfl, by decide +kernel, by decide +kernel⟩
theorem Same.write {H H1 : Hp} {l : Addr} {o : HO} (n : H l = none) (s : Same H H1) : Same H (upd H1 l o) := fun d u e => by
  rw [upd_ne (ne_of_none e n)]; exact s _ _ e
theorem g_read_text (D : Dn K mg "read_text" s_read_text) (TX : Txt K mg) (TN : XTxt K mg "NotAText" A.nT) (G1 : Gd P w K mg base (L2.CX P w) 10 "read_line" ["row"] (sp_read_line K A)) :
    Gd P w K mg base (L2.CX P w) 15 "read_text" ["row"] (sp_read_text K A) := by
  obtain ⟨f, fd, m, F⟩ := D
  obtain ⟨f1, fd1, m1, k1, b1, F1⟩ := G1
  refine ⟨f, fd, m, F.kp, F.binds (fun _ _ _ _ _ _ us hl => match us, hl with | [_], _ => rfl), F.okX sc_read_text (fun vs H Q E h => ?_) (fun cdv A' outer s H vs Q E hr h => ?_)⟩
  · obtain ⟨a, b, rfl, _⟩ := h; rfl
  · refine ⟨_, (L2.pss_cons (ps_set (i := 1) sc_read_text.nd rfl (.inl rfl) (pe_lst pa_nil)) (L2.pss_cons (ps_set (i := 2) sc_read_text.nd rfl (.inl rfl) pe_int) (L2.pss_cons (ps_for (passes_of rfl) rfl (pi_enum (by rfl) TX.enumerate (L2.pa_cons (pv 0) L2.pa_nil)) (pg_tup (n := 2) rfl (pgs_cons (pg_name (i := 3) sc_read_text.nd rfl (.inl rfl)) (pgs_cons (pg_name (i := 4) sc_read_text.nd rfl (.inl rfl)) pgs_nil)))
        (L2.pss_one (ps_if (pt_cmpR op_eq (pv 4) (pe_k TX.kLINE_END) (nomark _)) (L2.pss_cons (ps_expr (pe_bm PySem.F.plainAttrs_list PySem.F.slot_list_append PySem.F.type_list_append mt_append (pv 1) (L2.pa_cons (pe_call F1 (hr.mono (by decide)) rfl m1 k1 b1 .nil (passes_call (takes_of rfl rfl rfl rfl) (fun _ _ _ _ h => h)) (L2.pa_cons (pe_slice sl_list (pv 0) (po_some (pv 2)) (po_some (pv 3))) L2.pa_nil)) L2.pa_nil))) (L2.pss_one (ps_set (i := 2) sc_read_text.nd rfl (.inl rfl) (pe_op op_add (pv 3) pe_int)))) L2.pss_nil))) (L2.pss_cons (ps_if (PW.pt (pw_or (pt_cmpR op_lt (pv 2) ((pe_callB call_len_seq (by rfl) TX.len PySem.boot_len (pa_cons (pv 0) pa_nil))) (nomark _)) (pw_or1 (pt_cmpR op_gt ((pe_callB call_len_seq (by rfl) TX.len PySem.boot_len (pa_cons (pv 1) pa_nil))) (pe_k TX.kMOST_TEXT_LINES) (nomark _))))) (L2.pss_one (ps_raise0 rfl TN (takes_of rfl rfl rfl rfl))) L2.pss_nil) (L2.pss_one (ps_ret (pv 1))))))), ?_⟩
    obtain ⟨a, b, rfl, hS, big, qE, qQ⟩ := h
    refine ⟨by decide, fun l hl => ?_⟩
    have s0 : Same H (upd H l (.lst [])) := same_new hl
    refine ⟨_, rfl, a, _, rfl, s0.seq hS, for_it (walk_enum (xs := bV b)) (fun i σ H' => ∃ (ls : Text) (begin : Nat) (x3 x4 : Option V), Part b ls begin i ∧ σ = [some (.ref a), some (.ref l), some (.int begin), x3, x4] ∧ Same H H' ∧ H' l = some (.lst (lV ls)))
      ⟨[], 0, _, _, Part.start b, rfl, s0, upd_same⟩ (fun i σ H' _ p => ?_) (fun i x σ H1 H2 hi p y => ?_) (fun σ H' p => ?_)⟩
    · obtain ⟨_, _, _, _, _, _, sm, _⟩ := p
      exact sm.seq hS
    · obtain ⟨ls, begin, x3, x4, pt, rfl, sm, e⟩ := p
      obtain ⟨T, x0, y0, rfl, hT, rfl, ex, ey⟩ := y
      cases ex
      obtain ⟨c, hc, rfl⟩ := get_bV ey
      have s1 : Same H1 (upd H1 T (.tup [.int (i : Nat), .int (c.toNat : Int)])) := same_new hT
      have e1 := s1 _ _ e
      have sm1 := sm.trans s1
      refine ⟨T, _, rfl, .of upd_same, rfl, ?_⟩
      generalize upd H1 T (.tup [.int (i : Nat), .int (c.toNat : Int)]) = H2 at s1 e1 sm1 ⊢
      refine ⟨_, _, rfl, _, _, rfl, rfl, ?_⟩
      refine ⟨_, rfl, rfl, _, rfl, ?_⟩
      have ee : decide (V.int (c.toNat : Int) = V.int 10) = (c == 10) := eq_int c 10 (by decide)
      rw [ee]
      refine if_iff (p := c = 10) (by simp) (fun h10 => ?_) fun h10 => ?_
      · refine ⟨_, rfl, .inl ⟨rfl, _, .of e1⟩, _, rfl, _, rfl, _, rfl, _, rfl, _, rfl, a, _, rfl, sm1.seq hS, fun p hp => ?_⟩
        have hi' := (List.getElem?_eq_some_iff.mp hc).1
        have ecut : cutV (bV b) (some (begin : Int)) (some (i : Int)) = bV ((b.drop begin).take (i - begin)) := cut_bV b begin i pt.le (by omega)
        have s2 : Same H2 (upd H2 p (.lst (cutV (bV b) (some (begin : Int)) (some (i : Int))))) := same_new hp
        refine ⟨p, (b.drop begin).take (i - begin), rfl, ?_, ?_, fun bad => fun H3 s3 => ?_, fun ok H3 s3 => ?_⟩
        · rw [← ecut]; exact .of upd_same
        · rw [List.length_take, List.length_drop, sizeLine_eq]; omega
        · exact qE (pt.bad hc h10 bad) H3 (sm1.trans (s2.trans s3))
        · have e3 := s3 _ _ (s2 _ _ e1)
          refine ⟨l, _, _, rfl, rfl, e3, ?_, ?_⟩
          · have := pt.num
            rw [lV_length, sizeLine_eq]; omega
          · refine ⟨_, rfl, _, _, rfl, rfl, ls ++ [(b.drop begin).take (i - begin)], i + 1, _, _, pt.line hc h10 ok, rfl, Same.write hl (sm1.trans (s2.trans s3)), ?_⟩
            rw [upd_same]
            unfold lV
            rw [List.map_append]; rfl
      · exact ⟨ls, begin, _, _, pt.past hc h10, rfl, sm1, e1⟩
    · obtain ⟨ls, begin, x3, x4, pt, rfl, sm, e⟩ := p
      rw [bV_length] at pt
      refine ⟨_, rfl, _, rfl, a, _, rfl, .inl (sm.seq hS), _, _, rfl, rfl, _, rfl, ?_⟩
      rw [bV_length]
      refine if_iff (p := begin < b.length) (by rw [decide_eq_true_iff]; omega) (fun hb => qE (pt.rest hb) H' sm) fun hb => ?_
      refine ⟨_, rfl, l, _, rfl, .inl (.of e), _, _, rfl, rfl, _, rfl, ?_⟩
      rw [lV_length]
      have hd := pt.done hb
      refine if_iff (p := 24 < ls.length) (by rw [decide_eq_true_iff]; omega) (fun h24 => ?_) fun h24 => ?_
      · rw [if_pos h24] at hd
        exact qE hd H' sm
      · rw [if_neg h24] at hd
        exact ⟨_, rfl, qQ ls l H' hd sm e pt.ok (by omega)⟩
end
end LD

namespace LD
open PySem PySem.Spec PyProof.Rows L2 LN
open VasedBase (Bytes PTok Toks nextWord word)
open Vaseda (Deed Cmd Text)
abbrev s_com_init : Stmt := inClass (top 78) 0
abbrev s_line_init : Stmt := inClass (top 79) 0
abbrev s_run_init : Stmt := inClass (top 80) 0
section
variable {P : Program} {w : World} {K : PySem.W.Frag} {mg : Str → Option Value} {base : Heap} {A : Ad}
theorem bV_append (a b : Bytes) : bV (a ++ b) = bV a ++ bV b := by unfold bV bI; simp
theorem showText_take {t : Text} {i : Nat} {x : Bytes} (h : t[i]? = some x) : Vaseda.showText (t.take (i + 1)) = Vaseda.showText (t.take i) ++ x ++ [10] := by
  unfold Vaseda.showText
  rw [List.take_add_one, h]
  simp
theorem showText_len : ∀ {t : Text}, (∀ x ∈ t, Letters x) → (Vaseda.showText t).length ≤ 17 * t.length
  | [], _ => Nat.le_refl _
  | x :: r, h => by
    have ih := showText_len (t := r) fun y hy => h y (List.mem_cons_of_mem _ hy)
    have := (h x List.mem_cons_self).1
    have e : Vaseda.showText (x :: r) = x ++ [10] ++ Vaseda.showText r := rfl
    simp only [e, List.length_append, List.length_cons, List.length_nil]
    omega
theorem get_lV {t : Text} {i : Nat} {v : V} (h : (lV t)[i]? = some v) : ∃ x, t[i]? = some x ∧ v = .str (bS x) := by
  unfold lV at h
  rw [List.getElem?_map] at h
  obtain ⟨x, h1, h2⟩ := Option.map_eq_some_iff.mp h
  exact ⟨x, h1, h2.symm⟩
def sp_text_bytes : Sp := fun vs H Q _ => ∃ (p : Addr) (t : Text), vs = [.ref p] ∧ H p = some (.lst (lV t)) ∧ (∀ x ∈ t, Letters x) ∧ t.length ≤ 60 ∧ ∀ D H', Same H H' → H' D = some (.lst (bV (Vaseda.showText t))) → Q (.ref D) H'
theorem sc_text_bytes : FnScope ["lines", "row", "letters"] ["lines"] (defScope s_text_bytes) := ⟨rfl, rfl, rfl, by decide +kernel, rfl, by decide +kernel, by decide +kernel⟩
theorem g_text_bytes (D : Dn K mg "text_bytes" s_text_bytes) (TX : Txt K mg) (G1 : Gd P w K mg base CX0 5 "bytes_of" ["signs"] sp_bytes_of) : Gd P w K mg base CX0 10 "text_bytes" ["lines"] sp_text_bytes := by
  obtain ⟨f, fd, m, F⟩ := D
  obtain ⟨f1, fd1, m1, k1, b1, F1⟩ := G1
  refine ⟨f, fd, m, F.kp, F.binds (fun _ _ _ _ _ _ us hl => match us, hl with | [_], _ => rfl), F.ok sc_text_bytes (fun vs H Q E h => ?_) (fun cdv A' outer s H vs Q E hr h => ?_)⟩
  · obtain ⟨p, t, rfl, _⟩ := h; rfl
  · refine ⟨_, (L2.pss_cons (ps_set (i := 1) sc_text_bytes.nd rfl (.inl rfl) (pe_lst pa_nil)) (L2.pss_cons (ps_for PassesOwn.never rfl (pi_list (pv 0)) (pg_name (i := 2) sc_text_bytes.nd rfl (.inl rfl)) (L2.pss_cons (ps_expr (pe_bm PySem.F.plainAttrs_list PySem.F.slot_list_extend PySem.F.type_list_extend mt_extend (pv 1) (L2.pa_cons (pe_call F1 (hr.mono (by decide)) rfl m1 k1 b1 .nil pass0 (L2.pa_cons (pv 2) L2.pa_nil)) L2.pa_nil))) (L2.pss_one (ps_expr (pe_bm PySem.F.plainAttrs_list PySem.F.slot_list_append PySem.F.type_list_append mt_append (pv 1) (L2.pa_cons (pe_k TX.kLINE_END) L2.pa_nil)))))) (L2.pss_one (ps_ret (pv 1))))), ?_⟩
    obtain ⟨p, t, rfl, hp, ok, len, q⟩ := h
    refine ⟨by decide, fun l hl => ?_⟩
    have s0 : Same H (upd H l (.lst [])) := same_new hl
    have big : ∀ i, (Vaseda.showText (t.take i)).length ≤ 1020 := fun i => by
      have := showText_len (t := t.take i) fun x hx => ok x (List.mem_of_mem_take hx)
      rw [List.length_take] at this
      omega
    refine ⟨_, rfl, p, rfl, ⟨_, .of (s0 _ _ hp)⟩, for_it (walk_list (xs := lV t)) (fun i σ H' => ∃ x2 : Option V, σ = [some (.ref p), some (.ref l), x2] ∧ Same H H' ∧ H' l = some (.lst (bV (Vaseda.showText (t.take i)))))
      ⟨_, rfl, s0, upd_same⟩ (fun i σ H' _ z => ?_) (fun i x σ H1 H2 hi z y => ?_) (fun σ H' z => ?_)⟩
    · obtain ⟨_, _, sm, _⟩ := z
      exact .of (sm _ _ hp)
    · obtain ⟨x2, rfl, sm, e⟩ := z
      obtain ⟨rfl, hx⟩ := y
      obtain ⟨x, hx2, rfl⟩ := get_lV hx
      have lx := ok x (List.mem_of_getElem? hx2)
      refine ⟨_, rfl, .inl ⟨rfl, _, .of e⟩, _, rfl, x, rfl, by have := lx.1; rw [sizeLine_eq]; omega, fun b H3 s3 e3 => ?_⟩
      have el := s3 _ _ e
      have := big i
      have l16 := lx.1
      refine ⟨l, b, _, _, rfl, rfl, el, e3, by rw [bV_length, bV_length, sizeLine_eq]; omega, ?_⟩
      refine ⟨_, rfl, .inl ⟨rfl, _, .of upd_same⟩, l, _, _, rfl, rfl, upd_same, by rw [List.length_append, bV_length, bV_length, sizeLine_eq]; omega, _, rfl, ?_, ?_⟩
      · exact Same.write hl (Same.write hl (sm.trans s3))
      · rw [upd_same, showText_take hx2, bV_append, bV_append]; rfl
    · obtain ⟨x2, rfl, sm, e⟩ := z
      refine ⟨_, rfl, q l H' sm ?_⟩
      rw [e, lV_length, List.take_length]
/-! ### what a run makes -/
/-- a line that comes -/
def comF (x : Bytes) (k : Nat) (c : Int) : List (Str × V) := [("letters", .str (bS x)), ("line_number", .int k), ("command_number", .int c)]
def cOf (c : Option Nat) : Int := match c with
  | some c => c
  | none => -1
def ComAt (A : Ad) (H : Hp) (p : Addr) (o : Vaseda.Out) : Prop := ∃ dx, H p = some (.ins A.com dx (comF o.x o.k (cOf o.c)))
theorem ComAt.same {H H' : Hp} {p : Addr} {o : Vaseda.Out} (h : ComAt A H p o) (s : Same H H') : ComAt A H' p o := by
  obtain ⟨dx, e⟩ := h
  exact ⟨dx, s _ _ e⟩
abbrev ComT (K : PySem.W.Frag) (mg : Str → Option Value) (A : Ad) : Prop := CT K mg "Coming" A.com ["letters", "line_number", "command_number"]
def sp_com_init (A : Ad) : Sp := fun vs H Q _ => ∃ (p dx : Addr) (x : Bytes) (k : Nat) (c : Int), vs = [.ref p, .str (bS x), .int k, .int c] ∧ H p = some (.ins A.com dx []) ∧ ∀ H', But p H H' → H' p = some (.ins A.com dx (comF x k c)) → Q .non H'
theorem sc_com_init : FnScope ["self", "letters", "line_number", "command_number"] ["self", "letters", "line_number", "command_number"] (defScope s_com_init) := ⟨rfl, rfl, rfl, by decide +kernel, rfl, by decide +kernel, by decide +kernel⟩
theorem g_com_init (D : Di K A.com "Coming.__init__" s_com_init) (T : ComT K mg A) : Gi P w K mg base 5 A.com ["self", "letters", "line_number", "command_number"] (sp_com_init A) := by
  obtain ⟨f, fd, m, F⟩ := D
  refine ⟨f, fd, m, F.binds (fun _ _ _ _ _ _ us hl => match us, hl with | [_, _, _, _], _ => rfl), F.ok sc_com_init (fun vs H Q E h => ?_) (fun cdv A' outer s H vs Q E hr h => ?_)⟩
  · obtain ⟨p, dx, x, k, c, rfl, _⟩ := h; rfl
  · refine ⟨_, (L2.pss_cons (ps_fld (pv 0) (pv 1) rfl) (L2.pss_cons (ps_fld (pv 0) (pv 2) rfl) (L2.pss_one (ps_fld (pv 0) (pv 3) rfl)))), ?_⟩
    obtain ⟨p, dx, x, k, c, rfl, h1, q⟩ := h
    refine ⟨_, rfl, _, rfl, p, A.com, dx, [], rfl, h1, T.cl, T.no _ (by simp), (by show 0 < 1000; decide), ?_⟩
    refine ⟨_, rfl, _, rfl, p, A.com, dx, _, rfl, upd_same, T.cl, T.no _ (by simp), (by show 1 < 1000; decide), ?_⟩
    refine ⟨_, rfl, _, rfl, p, A.com, dx, _, rfl, upd_same, T.cl, T.no _ (by simp), (by show 2 < 1000; decide), ?_⟩
    have e1 : putF ("letters" : Str) (V.str (bS x)) [] = [(("letters" : Str), V.str (bS x))] := rfl
    have e2 : putF ("line_number" : Str) (V.int k) [(("letters" : Str), V.str (bS x))] = [(("letters" : Str), V.str (bS x)), ("line_number", V.int k)] := by ((repeat (first | exact put_here | refine put_past (by decide +kernel) ?_)); first | done | rfl)
    have e3 : putF ("command_number" : Str) (V.int c) [(("letters" : Str), V.str (bS x)), ("line_number", V.int k)] = comF x k c := by unfold comF; ((repeat (first | exact put_here | refine put_past (by decide +kernel) ?_)); first | done | rfl)
    exact q _ (But.upd.trans (But.upd.trans But.upd)) (ins_put ((congrArg (putF ("command_number" : Str) (V.int c)) ((congrArg (putF ("line_number" : Str) (V.int k)) e1).trans e2)).trans e3))
end
end LD

namespace LD
open PySem PySem.Spec PyProof.Rows L2 LN
open Builtin Builtin.Str
open VasedBase (Bytes)
open Vaseda (begins swapBy swapIn hasIn)
/-! ### a text's letters by others -/
/-- the places where they stand, at most so many, from the left -/
def cuts (a : Bytes) : Nat → Nat → Nat → Bytes → List Nat
  | 0, _, _, _ => []
  | _ + 1, _, _, [] => []
  | n + 1, lim, p, c :: r => if lim = 0 then [] else if begins a (c :: r) = true then p :: cuts a n (lim - 1) (p + a.length) ((c :: r).drop a.length) else cuts a n lim (p + 1) r
/-- .. by others -/
def swapG (a b : Bytes) : Nat → Nat → Bytes → Bytes
  | 0, _, l => l
  | _ + 1, _, [] => []
  | n + 1, lim, c :: r => if lim = 0 then c :: r else if begins a (c :: r) = true then b ++ swapG a b n (lim - 1) ((c :: r).drop a.length) else c :: swapG a b n lim r
theorem cuts_zero (a : Bytes) : ∀ (n p : Nat) (l : Bytes), cuts a n 0 p l = []
  | 0, _, _ => rfl
  | _ + 1, _, [] => rfl
  | _ + 1, _, _ :: _ => if_pos rfl
theorem swapG_zero (a b : Bytes) : ∀ (n : Nat) (l : Bytes), swapG a b n 0 l = l
  | 0, _ => rfl
  | _ + 1, [] => rfl
  | _ + 1, _ :: _ => if_pos rfl
theorem swapG_once (a b : Bytes) : ∀ (n : Nat) (l : Bytes), swapG a b n 1 l = swapBy a b true n l
  | 0, _ => rfl
  | _ + 1, [] => rfl
  | n + 1, c :: r => by
    show (if 1 = 0 then _ else _) = if _ then b ++ (if true = true then _ else _) else _
    rw [if_neg (by decide), if_pos rfl, show (1 : Nat) - 1 = 0 from rfl, swapG_zero, swapG_once a b n r]
theorem swapG_all (a b : Bytes) (ha : 1 ≤ a.length) : ∀ (n lim : Nat) (l : Bytes), l.length < lim → swapG a b n lim l = swapBy a b false n l
  | 0, _, _, _ => rfl
  | _ + 1, _, [], _ => rfl
  | n + 1, lim, c :: r, h => by
    have h' : r.length + 1 < lim := h
    show (if lim = 0 then _ else _) = if _ then b ++ (if false = true then _ else _) else _
    rw [if_neg (by omega), if_neg Bool.false_ne_true, swapG_all a b ha n (lim - 1) ((c :: r).drop a.length) (by rw [List.length_drop, List.length_cons]; omega), swapG_all a b ha n lim r (by omega)]
theorem begins_iff {a l : Bytes} : begins a l = true ↔ l.take a.length = a := by unfold begins; exact beq_iff_eq
theorem begins_len {a l : Bytes} (h : begins a l = true) : a.length ≤ l.length := by
  have e := congrArg List.length (begins_iff.mp h)
  rw [List.length_take] at e
  omega
theorem bS_toList (x : Bytes) : (bS x).cps.toList = bN x := rfl
theorem subAt_bS {x a : Bytes} {i : Nat} : subAt (bS x) (bS a) i = begins a (x.drop i) := by
  rw [StrLaws.subAt_eq, bS_toList, bS_toList, bS_length, Bool.eq_iff_iff, beq_iff_eq, begins_iff]
  have e : ((bN x).drop i).take a.length = bN ((x.drop i).take a.length) := by unfold bN; rw [List.map_take, List.map_drop]
  rw [e]
  exact ⟨bN_inj, fun h => by rw [h]⟩
theorem skip_to (s sub : Str) (hi lim : Nat) (acc : Array Nat) (m : Nat) : ∀ (k i : Nat), (forIn (List.range' i (k + m)) (acc, i + k) (StrLaws.occBody s sub hi lim)).run = (forIn (List.range' (i + k) m) (acc, i + k) (StrLaws.occBody s sub hi lim)).run
  | 0, i => by rw [Nat.zero_add, Nat.add_zero]
  | k + 1, i => by
    have e : k + 1 + m = (k + m) + 1 := by omega
    rw [e, List.range'_succ, List.forIn_cons]
    unfold StrLaws.occBody
    rw [if_neg (fun h => by have := h.1.1.2; simp only at this; omega)]
    have ih := skip_to s sub hi lim acc m k (i + 1)
    rw [show i + 1 + k = i + (k + 1) by omega] at ih
    exact ih
theorem occ_cuts (x a : Bytes) (lim : Nat) (ha : 1 ≤ a.length) : ∀ (n i : Nat) (acc : Array Nat) (free : Nat), i ≤ x.length → free ≤ i → x.length - i < n →
    (forIn (List.range' i (x.length + 1 - i)) (acc, free) (StrLaws.occBody (bS x) (bS a) x.length lim)).run.fst.toList = acc.toList ++ cuts a n (lim - acc.size) i (x.drop i) := by
  intro n
  induction n with
  | zero => intro i acc free _ _ h; omega
  | succ n ih =>
    intro i acc free hi hf hn
    have e1 : x.length + 1 - i = (x.length - i) + 1 := by omega
    rw [e1, List.range'_succ, List.forIn_cons]
    unfold StrLaws.occBody
    by_cases hi' : i < x.length
    · obtain ⟨c, hc⟩ : ∃ c, x[i]? = some c := ⟨x[i], List.getElem?_eq_getElem hi'⟩
      have hd := drop_cons hc
      have es : (x.length - i) = x.length + 1 - (i + 1) := by omega
      by_cases hz : lim - acc.size = 0
      · rw [if_neg (fun h => by have := h.1.1.1; simp only at this; omega)]
        have := ih (i + 1) acc free (by omega) (by omega) (by omega)
        rw [← es, hz, cuts_zero] at this
        rw [hz, cuts_zero]
        exact this
      · by_cases hb : begins a (x.drop i) = true
        · have hl := begins_len hb
          rw [List.length_drop] at hl
          rw [if_pos ⟨⟨⟨by simp only; omega, hf⟩, by rw [bS_length]; omega⟩, by rw [subAt_bS]; exact hb⟩]
          have sk := skip_to (bS x) (bS a) x.length lim (acc.push i) (x.length + 1 - (i + a.length)) (a.length - 1) (i + 1)
          rw [show a.length - 1 + (x.length + 1 - (i + a.length)) = x.length - i by omega, show i + 1 + (a.length - 1) = i + a.length by omega] at sk
          have := ih (i + a.length) (acc.push i) (i + a.length) (by omega) (Nat.le_refl _) (by omega)
          show (forIn (m := Id) (List.range' (i + 1) (x.length - i)) (acc.push i, i + (bS a).length) (StrLaws.occBody (bS x) (bS a) x.length lim)).run.fst.toList = _
          rw [bS_length]
          refine (congrArg (fun z => z.fst.toList) sk).trans (this.trans ?_)
          conv => rhs; rw [hd]
          rw [hd] at hb
          show _ = acc.toList ++ (if lim - acc.size = 0 then _ else _)
          rw [if_neg hz, if_pos hb, ← hd, List.drop_drop]
          simp only [Array.toList_push, Array.size_push, List.append_assoc, List.singleton_append]
          rw [show lim - (acc.size + 1) = lim - acc.size - 1 by omega]
        · rw [if_neg (fun h => hb (by have := h.2; rw [subAt_bS] at this; exact this))]
          have := ih (i + 1) acc free (by omega) (by omega) (by omega)
          rw [← es] at this
          refine this.trans ?_
          conv => rhs; rw [hd]
          rw [hd] at hb
          show _ = acc.toList ++ (if lim - acc.size = 0 then _ else _)
          rw [if_neg hz, if_neg hb]
    · have ei : i = x.length := by omega
      subst ei
      rw [if_neg (fun h => by have := h.1.2; rw [bS_length] at this; omega), Nat.sub_self, List.drop_length]
      show acc.toList = acc.toList ++ cuts a (n + 1) _ _ []
      rw [show cuts a (n + 1) (lim - acc.size) x.length [] = [] from rfl, List.append_nil]
theorem occ_bS (x a : Bytes) (lim : Nat) (ha : 1 ≤ a.length) : occurrences (bS x) (bS a) 0 (bS x).length lim = cuts a (x.length + 1) lim 0 x := by
  rw [StrLaws.occ_eq, bS_length]
  exact (occ_cuts x a lim ha (x.length + 1) 0 #[] 0 (Nat.zero_le _) (Nat.le_refl _) (by omega)).trans (by simp)
theorem sub_bS (x : Bytes) (i j : Nat) : strSub (bS x) i j = bS ((x.drop i).take (j - i)) := by
  apply Str.ext'
  apply Array.toList_inj.mp
  rw [StrLaws.strSub_toList, bS_toList, bS_toList]
  unfold bN
  rw [List.map_take, List.map_drop]
theorem join_cons2 (z s : Str) (x : Str) (w q : Nat) (cs : List Nat) : Str.join z (s :: StrLaws.partsFrom x w q cs) = s ++ z ++ Str.join z (StrLaws.partsFrom x w q cs) := by
  obtain ⟨p, r, e⟩ := StrLaws.partsFrom_ne x w q cs
  rw [e]
  rfl
theorem join_cuts (x a b : Bytes) (ha : 1 ≤ a.length) : ∀ (n lim q p : Nat), q ≤ p → p ≤ x.length → x.length - p < n →
    Str.join (bS b) (StrLaws.partsFrom (bS x) a.length q (cuts a n lim p (x.drop p))) = bS ((x.drop q).take (p - q) ++ swapG a b n lim (x.drop p)) := by
  intro n
  induction n with
  | zero => intro lim q p _ _ h; omega
  | succ n ih =>
    intro lim q p hq hp hn
    by_cases hp' : p < x.length
    · obtain ⟨c, hc⟩ : ∃ c, x[p]? = some c := ⟨x[p], List.getElem?_eq_getElem hp'⟩
      have hd := drop_cons hc
      have whole : (x.drop q).take (p - q) ++ x.drop p = x.drop q := by
        conv => rhs; rw [← List.take_append_drop (p - q) (x.drop q), List.drop_drop, show q + (p - q) = p by omega]
      conv => lhs; rw [hd]
      conv => rhs; rw [hd]
      show Str.join (bS b) (StrLaws.partsFrom (bS x) a.length q (if lim = 0 then [] else if begins a (c :: x.drop (p + 1)) = true then _ else _)) = bS (_ ++ (if lim = 0 then _ else if begins a (c :: x.drop (p + 1)) = true then _ else _))
      by_cases hz : lim = 0
      · rw [if_pos hz, if_pos hz]
        show strSub (bS x) q (bS x).length = _
        rw [sub_bS, bS_length, List.take_of_length_le (by rw [List.length_drop]; exact Nat.le_refl _), ← hd, whole]
      · rw [if_neg hz, if_neg hz]
        by_cases hb : begins a (c :: x.drop (p + 1)) = true
        · rw [if_pos hb, if_pos hb]
          have hl := begins_len hb
          rw [← hd, List.length_drop] at hl
          rw [← hd, List.drop_drop]
          show Str.join (bS b) (strSub (bS x) q p :: StrLaws.partsFrom (bS x) a.length (p + a.length) _) = _
          rw [join_cons2, ih (lim - 1) (p + a.length) (p + a.length) (Nat.le_refl _) (by omega) (by omega), sub_bS, Nat.sub_self, List.take_zero, List.nil_append, bS_append, bS_append, List.append_assoc]
        · rw [if_neg hb, if_neg hb, ih lim q (p + 1) (by omega) (by omega) (by omega), take_succ_at hc hq, List.append_assoc]
          rfl
    · have ep : p = x.length := by omega
      subst ep
      rw [List.drop_length]
      show Str.join (bS b) [strSub (bS x) q (bS x).length] = bS (_ ++ [])
      show strSub (bS x) q (bS x).length = _
      rw [sub_bS, bS_length, List.append_nil]
/-- what a text is with so many of them by others -/
def replN (lim : Nat) (x y z : Str) : Str := if ((occurrences x y 0 x.length lim).isEmpty || (y.length == 0 && z.length == 0)) = true then x else glued z (partsBetween x (occurrences x y 0 x.length lim) y.length)
theorem repl_bS (x a b : Bytes) (lim : Nat) (ha : 1 ≤ a.length) : replN lim (bS x) (bS a) (bS b) = bS (swapG a b (x.length + 1) lim x) := by
  have key : glued (bS b) (partsBetween (bS x) (occurrences (bS x) (bS a) 0 (bS x).length lim) (bS a).length) = bS (swapG a b (x.length + 1) lim x) := by
    rw [StrLaws.glued_eq_join, StrLaws.partsBetween_eq, occ_bS x a lim ha, bS_length]
    exact join_cuts x a b ha (x.length + 1) lim 0 0 (Nat.le_refl _) (Nat.zero_le _) (by omega)
  unfold replN
  have e : ((bS a).length == 0 && (bS b).length == 0) = false := by
    rw [bS_length]
    have : (a.length == 0) = false := by rw [beq_eq_false_iff_ne]; omega
    rw [this]; rfl
  rw [e, Bool.or_false]
  split
  · rename_i h
    have h0 : occurrences (bS x) (bS a) 0 (bS x).length lim = [] := List.isEmpty_iff.mp h
    rw [h0] at key
    rw [← key, StrLaws.glued_eq_join, StrLaws.partsBetween_eq]
    show _ = strSub (bS x) 0 (bS x).length
    rw [StrLaws.sub_whole]
  · exact key
theorem repl_all (x a b : Bytes) (ha : 1 ≤ a.length) : replN (x.length + 1) (bS x) (bS a) (bS b) = bS (swapIn a b false x) := by
  rw [repl_bS x a b _ ha, swapG_all a b ha _ _ _ (Nat.lt_succ_self _)]; rfl
theorem repl_one (x a b : Bytes) (ha : 1 ≤ a.length) : replN 1 (bS x) (bS a) (bS b) = bS (swapIn a b true x) := by
  rw [repl_bS x a b _ ha, swapG_once]; rfl
/-- whether they stand in it -/
theorem found_bS (x a : Bytes) : (!(occurrences (bS x) (bS a) 0 (bS x).length 1).isEmpty) = hasIn a x := by
  rw [Bool.eq_iff_iff, StrLaws.found_iff]
  unfold hasIn
  rw [List.any_eq_true]
  constructor
  · rintro ⟨i, h1, h2⟩
    rw [bS_length, bS_length] at h1
    rw [subAt_bS] at h2
    exact ⟨i, List.mem_range.mpr (by omega), by rw [h2, decide_eq_true h1]; rfl⟩
  · rintro ⟨i, h1, h2⟩
    rw [Bool.and_eq_true] at h2
    exact ⟨i, by rw [bS_length, bS_length]; exact of_decide_eq_true h2.2, by rw [subAt_bS]; exact h2.1⟩
end LD

namespace LD
open PySem PySem.Spec PyProof.Rows L2 LN
open Builtin Builtin.Str
/-- the state in which it is not booked who shares what -/
def Unbooked (K : PySem.W.Frag) : Prop := PySem.W.nsOkIn K cStatics = true ∧ PySem.W.nsIn K cStatics sharingNotToldKey = some none
theorem Unbooked.none {K : PySem.W.Frag} {h : Heap} (u : Unbooked K) (X : K.In h) : NoneBooked h := ⟨h.nsMap cStatics, .of_isNs (PySem.W.isNs_of_in X u.1), PySem.W.nsMap_none_of_in X u.1 u.2⟩
/-- what replace does, so many of them -/
def replBody (n : Nat) (x y z : Str) (t u v : Tok) : Sem Fin :=
  if ((occurrences x y 0 x.length n).isEmpty || (y.length == 0 && z.length == 0)) = true then (do rule "str.replace.nothing"; ret (.str x t)) else do
    let b ← isSame (.str y u) (.str z v)
    if b = true then (do rule "str.replace.old-is-new"; ret (.str x t))
    else if tooLong (x.length + (occurrences x y 0 x.length n).length * z.length) = true then unsupported "str.replace:memory"
    else retStr (glued z (partsBetween x (occurrences x y 0 x.length n) y.length))
theorem gives_replN (n : Nat) (x y z : Str) (t u v : Tok) (h0 : (u == 0 || v == 0) = false) (huv : (u == v) = false) (hl : tooLong (x.length + (occurrences x y 0 x.length n).length * z.length) = false) :
    GivesAt (fun s => NoneBooked s.heap) (replBody n x y z t u v)
      (if ((occurrences x y 0 x.length n).isEmpty || (y.length == 0 && z.length == 0)) = true then .val (.str x t)
       else if (y == z) = true then .either (.val (.str x t)) (.str (glued z (partsBetween x (occurrences x y 0 x.length n) y.length)))
       else .str (glued z (partsBetween x (occurrences x y 0 x.length n) y.length))) := by
  unfold replBody
  cases hc : ((occurrences x y 0 x.length n).isEmpty || (y.length == 0 && z.length == 0))
  · rw [if_neg Bool.false_ne_true, if_neg Bool.false_ne_true]
    cases hyz : (y == z)
    · rw [isSame_str_other y z u v h0 huv hyz, hl]
      exact Gives.at (.of_eq rfl)
    · intro prog w A R s hb hq
      show wpAny _ _ (isSame (.str y u) (.str z v) >>= _) _ _ _
      refine wpAny_bind (wpAny_isSame_str h0 hb fun b => ?_)
      cases b
      · show wpAny _ _ (if tooLong (x.length + (occurrences x y 0 x.length n).length * z.length) = true then _ else _) _ _ _
        rw [hl]
        exact wpAny_bind (wpAny_mkStr (wpAny_pure hq.2.2) hq.2.1)
      · exact wpAny_bind (wpAny_rule (wpAny_pure hq.1))
  · exact Gives.at (.rule (.of_eq rfl))
section
variable {prog : Program} {w : World} {A : Around} {E : Value → Shared → Prop} {s : Shared} {x y z : Str} {t u v : Tok} {Q : Value → Shared → Prop}
theorem call_replN (n : Nat) {rest : List Value} (hB : Builtin.«str.replace» ⟨.str x t :: rest, []⟩ = replBody n x y z t u v) (ha : argsOk "str.replace" ⟨.str x t :: rest, []⟩) (hu : u ≠ 0) (hv : v ≠ 0) (huv : u ≠ v)
    (hx : x.length ≤ 100) (hn : n ≤ 101) (hz : z.length ≤ 100) (fit : (glued z (partsBetween x (occurrences x y 0 x.length n) y.length)).length ≤ sizeLine) (hnb : NoneBooked s.heap) (hq : ∀ t' k, Q (.str (replN n x y z) t') { s with toks := k }) :
    wpAny (model prog w) A (call (.builtin "str.replace") (.str x t :: rest)) Q E s := by
  have hl : tooLong (x.length + (occurrences x y 0 x.length n).length * z.length) = false := by
    have h1 := StrLaws.occ_length_le x y 0 x.length n
    have h2 : (occurrences x y 0 x.length n).length * z.length ≤ 101 * 100 := Nat.mul_le_mul (by omega) hz
    unfold tooLong sizeLine
    exact decide_eq_false (by omega)
  refine call_givesAt F.slot_str_replace (typeIs_str _ _ _) F.entry_str_replace ha (by rw [hB]; exact gives_replN n x y z t u v (by simp [hu, hv]) (by simp [huv]) hl) hnb ?_
  have hq' := hq
  unfold replN at hq'
  cases hc : ((occurrences x y 0 x.length n).isEmpty || (y.length == 0 && z.length == 0))
  · rw [hc, if_neg Bool.false_ne_true] at hq'
    rw [if_neg Bool.false_ne_true]
    cases hyz : (y == z)
    · rw [if_neg Bool.false_ne_true]
      exact ⟨fit, hq' _ _⟩
    · rw [if_pos rfl]
      have e : y = z := eq_of_beq hyz
      subst e
      rw [StrLaws.glued_between_self] at hq' ⊢
      exact ⟨hq' t s.toks, by rw [sizeLine_eq]; omega, hq' _ _⟩
  · rw [hc, if_pos rfl] at hq'
    rw [if_pos rfl]
    exact hq' t s.toks
theorem body_all : Builtin.«str.replace» ⟨[.str x t, .str y u, .str z v], []⟩ = replBody (x.length + 1) x y z t u v := by
  rfl
theorem body_one {k : Tok} : Builtin.«str.replace» ⟨[.str x t, .str y u, .str z v, .int 1 k], []⟩ = replBody 1 x y z t u v := by
  rfl
end
end LD

namespace LD
open PySem PySem.Spec PyProof.Rows L2 LN
open Builtin Builtin.Str
open VasedBase (Bytes)
open Vaseda (begins swapBy swapIn hasIn)
theorem swapG_len {a b : Bytes} (ha : 1 ≤ a.length) (hb : b.length ≤ 8) : ∀ (n lim : Nat) (l : Bytes), (swapG a b n lim l).length ≤ 9 * l.length
  | 0, _, l => by show l.length ≤ _; omega
  | _ + 1, _, [] => Nat.le_refl _
  | n + 1, lim, c :: r => by
    show (if lim = 0 then c :: r else if begins a (c :: r) = true then b ++ swapG a b n (lim - 1) ((c :: r).drop a.length) else c :: swapG a b n lim r).length ≤ _
    split
    · omega
    · split
      · have := swapG_len ha hb n (lim - 1) ((c :: r).drop a.length)
        rw [List.length_drop] at this
        rw [List.length_append]
        simp only [List.length_cons] at this ⊢
        omega
      · have := swapG_len ha hb n lim r
        simp only [List.length_cons]
        omega
theorem glued_bS (x a b : Bytes) (lim : Nat) (ha : 1 ≤ a.length) : glued (bS b) (partsBetween (bS x) (occurrences (bS x) (bS a) 0 (bS x).length lim) (bS a).length) = bS (swapG a b (x.length + 1) lim x) := by
  rw [StrLaws.glued_eq_join, StrLaws.partsBetween_eq, occ_bS x a lim ha, bS_length]
  exact join_cuts x a b ha (x.length + 1) lim 0 0 (Nat.le_refl _) (Nat.zero_le _) (by omega)
section
variable {X : Cx} {pins : List (Addr × Obj)} {σ : L2.St} {H : Hp} {s : Shared}
theorem Trip.isTup {p : Addr} {z : Str} {a b : Bytes} (h : Trip H p z a b) : ∃ (un : Value) (t1 t2 : Tok), t1 ≠ 0 ∧ t2 ≠ 0 ∧ t1 ≠ t2 ∧ ∀ {X : Cx} {pins : List (Addr × Obj)} {σ : L2.St} {s : Shared}, Inv X pins σ H s → IsTup s.heap p #[un, .str (bS a) t1, .str (bS b) t2] := by
  obtain ⟨un, t1, t2, e, h1, h2, h3⟩ := h
  refine ⟨un, t1, t2, h1, h2, h3, fun I => ?_⟩
  obtain ⟨g, _⟩ := I.hok p _ e
  exact ⟨_, g, rfl, _, rfl⟩
theorem raw_ixT {i : Nat} {x : Str} {a : Addr} {its : Array Value} {k : Int} {j : Nat} {w : Value} {p1 cp pos : Pos} {Q E : Value → Shared → Prop} (hN : X.N[i]? = some x) (hv : Vis X.env.scope x) (I : Inv X pins σ H s)
    (hσ : σ[i]? = some (some (.ref a))) (hl : IsTup s.heap a its) (h0 : 0 ≤ k) (hfit : k < 2 ^ 63) (hk : seqIndex? k its.size = some k.toNat) (hx : its[k.toNat]? = some w) (fin : ∀ tk, Q w { s with toks := tk })
    (hd : (x == ("__debug__" : Str)) = false := by decide) (hcd : (x == ("__classdict__" : Str)) = false := by decide) :
    wpAny (model X.prog X.w) X.A (eval (.Subscript (.Name x p1) (.Constant (.int k) j cp) pos) X.env) Q E s := by
  refine Subscript_ (raw_name hN hv I hσ (fun v r => ?_) hd hcd)
  have e : v = Value.ref a := r
  subst e
  refine wpAny_Constant_int ?_
  exact item_tuple (s := { s with toks := s.toks + 1 }) hl (by omega) hfit hk hx (fin _)
/-- the letters at i, the deed at j: others for all or for one -/
def tRepl (once : Bool) (i j : Nat) : TE := fun σ H Q => ∃ x p z a b, σ[i]? = some (some (.str (bS x))) ∧ σ[j]? = some (some (.ref p)) ∧ Trip H p z a b ∧ 1 ≤ a.length ∧ a.length ≤ 8 ∧ b.length ≤ 8 ∧ x.length ≤ 16 ∧ Q (.str (bS (swapIn a b once x))) H
theorem pe_repl_all {i j : Nat} {xl xd : Str} {j0 j1 : Nat} {p1 p2 p3 c0 c1 q0 q1 apos pos : Pos} (U : Unbooked X.K) (hNl : X.N[i]? = some xl) (hvl : Vis X.env.scope xl) (hNd : X.N[j]? = some xd) (hvd : Vis X.env.scope xd)
    (hdl : (xl == ("__debug__" : Str)) = false := by decide) (hcl : (xl == ("__classdict__" : Str)) = false := by decide) (hdd : (xd == ("__debug__" : Str)) = false := by decide) (hcd : (xd == ("__classdict__" : Str)) = false := by decide)
    (hst : starEach [.Subscript (.Name xd p2) (.Constant (.int 1) j0 c0) q0, .Subscript (.Name xd p3) (.Constant (.int 2) j1 c1) q1] X.env =
      [(false, eval (.Subscript (.Name xd p2) (.Constant (.int 1) j0 c0) q0) X.env), (false, eval (.Subscript (.Name xd p3) (.Constant (.int 2) j1 c1) q1) X.env)] := by rfl)
    (hbase : attributeBase (.Name xl p1) "replace" X.env (eval (.Name xl p1) X.env) = eval (.Name xl p1) X.env := by rfl) (hline : (apos.endLine == pos.line) = true := by rfl) :
    PE X (.Call (.Attribute (.Name xl p1) "replace" apos) [.Subscript (.Name xd p2) (.Constant (.int 1) j0 c0) q0, .Subscript (.Name xd p3) (.Constant (.int 2) j1 c1) q1] [] pos) (tRepl false i j) := by
  refine ⟨fun pins s σ H Q I h => ?_⟩
  obtain ⟨x, p, z, a, b, hx, hp, ht, ha, ha8, hb, h16, q⟩ := h
  obtain ⟨un, t1, t2, n1, n2, n3, it⟩ := ht.isTup
  refine PySem.Call_method2 hbase hst hline (raw_name hNl hvl I hx (fun v r => ?_) hdl hcl)
  obtain ⟨tx, e⟩ := r
  subst e
  refine ⟨"str", _, F.plainAttrs_str, F.slot_str_replace, F.type_str_replace, typeIs_str _ _ _, (fun _ e => nomatch e), Calls.callWith_builtin rfl (Calls.evalArgs_plain (Calls.spliced_cons ?_))⟩
  refine raw_ixT hNd hvd I hp (it I) (by omega) (by omega) rfl rfl (fun k1 => ?_) hdd hcd
  refine Calls.spliced_cons (raw_ixT hNd hvd (I.tok k1) hp (it (I.tok k1)) (by omega) (by omega) rfl rfl (fun k2 => ?_) hdd hcd)
  refine Calls.spliced_nil ?_
  have I2 : Inv X pins σ H { s with toks := k2 } := I.tok k2
  refine call_replN (x.length + 1) (by rw [← bS_length x]; exact body_all) (F.args_str_replace_3 _ _ _) n1 n2 n3 (by rw [bS_length]; omega) (by omega) (by rw [bS_length]; omega) ?_ (U.none I2.kIn) fun t' k => ?_
  · rw [glued_bS x a b _ ha, bS_length]
    have := swapG_len ha hb (x.length + 1) (x.length + 1) x
    rw [sizeLine_eq]; omega
  · rw [repl_all x a b ha]
    exact ⟨.str (bS (swapIn a b false x)), H, I2.tok k, ⟨t', rfl⟩, q⟩
theorem pe_repl_one {i j : Nat} {xl xd : Str} {j0 j1 j2 : Nat} {p1 p2 p3 c0 c1 c2 q0 q1 apos pos : Pos} (U : Unbooked X.K) (hNl : X.N[i]? = some xl) (hvl : Vis X.env.scope xl) (hNd : X.N[j]? = some xd) (hvd : Vis X.env.scope xd)
    (hdl : (xl == ("__debug__" : Str)) = false := by decide) (hcl : (xl == ("__classdict__" : Str)) = false := by decide) (hdd : (xd == ("__debug__" : Str)) = false := by decide) (hcd : (xd == ("__classdict__" : Str)) = false := by decide)
    (hst : starEach [.Subscript (.Name xd p2) (.Constant (.int 1) j0 c0) q0, .Subscript (.Name xd p3) (.Constant (.int 2) j1 c1) q1, .Constant (.int 1) j2 c2] X.env =
      [(false, eval (.Subscript (.Name xd p2) (.Constant (.int 1) j0 c0) q0) X.env), (false, eval (.Subscript (.Name xd p3) (.Constant (.int 2) j1 c1) q1) X.env), (false, eval (.Constant (.int 1) j2 c2) X.env)] := by rfl)
    (hbase : attributeBase (.Name xl p1) "replace" X.env (eval (.Name xl p1) X.env) = eval (.Name xl p1) X.env := by rfl) (hline : (apos.endLine == pos.line) = true := by rfl) :
    PE X (.Call (.Attribute (.Name xl p1) "replace" apos) [.Subscript (.Name xd p2) (.Constant (.int 1) j0 c0) q0, .Subscript (.Name xd p3) (.Constant (.int 2) j1 c1) q1, .Constant (.int 1) j2 c2] [] pos) (tRepl true i j) := by
  refine ⟨fun pins s σ H Q I h => ?_⟩
  obtain ⟨x, p, z, a, b, hx, hp, ht, ha, ha8, hb, h16, q⟩ := h
  obtain ⟨un, t1, t2, n1, n2, n3, it⟩ := ht.isTup
  refine wpAny_Call_method_lateS hbase (by rw [hst]; rfl) hline ?_
  rw [hst]
  refine raw_name hNl hvl I hx (fun v r => ?_) hdl hcl
  obtain ⟨tx, e⟩ := r
  subst e
  refine ⟨"str", _, F.plainAttrs_str, F.slot_str_replace, F.type_str_replace, typeIs_str _ _ _, (fun _ e => nomatch e), Calls.callWith_builtin rfl (Calls.evalArgs_plain (Calls.spliced_cons ?_))⟩
  refine raw_ixT hNd hvd I hp (it I) (by omega) (by omega) rfl rfl (fun k1 => ?_) hdd hcd
  refine Calls.spliced_cons (raw_ixT hNd hvd (I.tok k1) hp (it (I.tok k1)) (by omega) (by omega) rfl rfl (fun k2 => ?_) hdd hcd)
  refine Calls.spliced_cons (wpAny_Constant_int (k := j2) (pos := c2) ?_)
  refine Calls.spliced_nil ?_
  have I2 : Inv X pins σ H { s with toks := k2 + 1 } := I.tok _
  refine call_replN 1 body_one (F.args_str_replace_4 _ _ _ _) n1 n2 n3 (by rw [bS_length]; omega) (by omega) (by rw [bS_length]; omega) ?_ (U.none I2.kIn) fun t' k => ?_
  · rw [glued_bS x a b _ ha, bS_length]
    have := swapG_len ha hb (x.length + 1) 1 x
    rw [sizeLine_eq]; omega
  · rw [repl_one x a b ha]
    exact ⟨.str (bS (swapIn a b true x)), H, I2.tok k, ⟨t', rfl⟩, q⟩
end
end LD

namespace LD
open PySem PySem.Spec PyProof.Rows L2 LN
open VasedBase (Bytes)
open Vaseda (Deed Cmd Text Work Out)
abbrev s_trade_letters : Stmt := top 88
abbrev s_changed_letters : Stmt := top 89
/-- the heap but for so many places -/
def Keep (L : List Addr) (H H' : Hp) : Prop := ∀ b o, H b = some o → b ∉ L → H' b = some o
theorem Keep.refl (L : List Addr) (H : Hp) : Keep L H H := fun _ _ h _ => h
theorem Keep.trans {L : List Addr} {H H1 H2 : Hp} (s : Keep L H H1) (t : Keep L H1 H2) : Keep L H H2 := fun b o h n => t b o (s b o h n) n
theorem Keep.mono {L M : List Addr} {H H' : Hp} (s : Keep L H H') (h : ∀ a ∈ L, a ∈ M) : Keep M H H' := fun b o e n => s b o e fun z => n (h b z)
theorem Same.keep {L : List Addr} {H H' : Hp} (s : Same H H') : Keep L H H' := fun b o h _ => s b o h
theorem Keep.set {L : List Addr} {H : Hp} {a : Addr} {o : HO} (h : a ∈ L) : Keep L H (upd H a o) := fun b u e n => by
  rw [upd_ne (fun z => n (by rw [z]; exact h))]; exact e
/-! ### a run, a line -/
def runF (held : Bytes) (ll : Addr) : List (Str × V) := [("held", .str (bS held)), ("lines", .ref ll)]
def RunAt (A : Ad) (H : Hp) (p : Addr) (held : Bytes) (dx ll : Addr) : Prop := H p = some (.ins A.run dx (runF held ll))
def lineF (k : Nat) (last : Bool) (x0 x : Bytes) (la lb : Addr) (gone halt : Bool) (left : Nat) (ld : Addr) : List (Str × V) :=
  [("number", .int k), ("is_last", .bl last), ("told_letters", .str (bS x0)), ("letters", .str (bS x)), ("ahead", .ref la), ("behind", .ref lb), ("is_deleted", .bl gone), ("is_ended", .bl halt), ("left_out", .int left), ("done", .ref ld)]
def OutsAt (A : Ad) (H : Hp) (p : Addr) (outs : List Out) : Prop := ∃ ps : List (Addr × Out), H p = some (.lst (ps.map fun q => V.ref q.1)) ∧ outs = ps.map (·.2) ∧ ∀ q ∈ ps, ComAt A H q.1 q.2
theorem OutsAt.keep {A : Ad} {H H' : Hp} {p : Addr} {outs : List Out} (h : OutsAt A H p outs) (s : H' p = H p) (t : ∀ b dx fs, H b = some (.ins A.com dx fs) → H' b = H b) : OutsAt A H' p outs := by
  obtain ⟨ps, a, b, c⟩ := h
  refine ⟨ps, by rw [s]; exact a, b, fun q hq => ?_⟩
  obtain ⟨dx, e⟩ := c q hq
  exact ⟨dx, by rw [t _ _ _ e]; exact e⟩
theorem OutsAt.same {A : Ad} {H H' : Hp} {p : Addr} {outs : List Out} (h : OutsAt A H p outs) (s : Same H H') : OutsAt A H' p outs := by
  obtain ⟨ps, a, b, c⟩ := h
  exact ⟨ps, s _ _ a, b, fun q hq => (c q hq).same s⟩
theorem OutsAt.push {A : Ad} {H : Hp} {p c : Addr} {outs : List Out} {o : Out} {xs : List V} (h : OutsAt A H p outs) (hc : ComAt A H c o) (hx : H p = some (.lst xs)) : OutsAt A (upd H p (.lst (xs ++ [.ref c]))) p (outs ++ [o]) := by
  obtain ⟨ps, a, b, k⟩ := h
  rw [a] at hx
  injection hx with hx
  injection hx with hx
  have ne : ∀ q u, ComAt A H q u → ComAt A (upd H p (.lst (xs ++ [.ref c]))) q u := fun q u ⟨dx, e⟩ => ⟨dx, by rw [upd_ne (ne_of e a (by intro z; cases z))]; exact e⟩
  refine ⟨ps ++ [(c, o)], by rw [upd_same, ← hx, List.map_append]; rfl, by rw [b, List.map_append]; rfl, fun q hq => ?_⟩
  rcases List.mem_append.mp hq with hq | hq
  · exact ne _ _ (k q hq)
  · have : q = (c, o) := by simpa using hq
    rw [this]; exact ne _ _ hc
theorem OutsAt.len {A : Ad} {H : Hp} {p : Addr} {outs : List Out} (h : OutsAt A H p outs) : ∃ xs, H p = some (.lst xs) ∧ xs.length = outs.length := by
  obtain ⟨ps, a, b, _⟩ := h
  exact ⟨_, a, by rw [b, List.length_map, List.length_map]⟩
structure LineAt (A : Ad) (H : Hp) (p : Addr) (k : Nat) (last : Bool) (x0 : Bytes) (w : Work) (dx la lb ld : Addr) : Prop where
  obj : H p = some (.ins A.line dx (lineF k last x0 w.x la lb w.gone w.halt w.left ld))
  pre : OutsAt A H la w.pre
  post : OutsAt A H lb w.post
  did : H ld = some (.lst (w.did.map fun n : Nat => V.int n))
  ab : la ≠ lb
  ad : la ≠ ld
  bd : lb ≠ ld
section
variable {A : Ad} {H H' : Hp} {p : Addr} {k : Nat} {last : Bool} {x0 : Bytes} {w w' : Work} {dx la lb ld : Addr}
theorem LineAt.same (h : LineAt A H p k last x0 w dx la lb ld) (s : Same H H') : LineAt A H' p k last x0 w dx la lb ld :=
  ⟨s _ _ h.obj, h.pre.same s, h.post.same s, s _ _ h.did, h.ab, h.ad, h.bd⟩
theorem LineAt.but {r : Addr} {o : HO} (h : LineAt A H p k last x0 w dx la lb ld) (hr : H r = some o) (n1 : ∀ dx fs, o ≠ .ins A.line dx fs) (n2 : ∀ dx fs, o ≠ .ins A.com dx fs) (n3 : ∀ xs, o ≠ .lst xs) (s : But r H H') : LineAt A H' p k last x0 w dx la lb ld := by
  have eq : ∀ b u, H b = some u → b ≠ r → H' b = H b := fun b u e n => by rw [e]; exact s b u e n
  have com : ∀ b dx fs, H b = some (.ins A.com dx fs) → H' b = H b := fun b dx fs e => eq b _ e (ne_of e hr fun z => n2 _ _ z.symm)
  have lst : ∀ {b xs}, H b = some (.lst xs) → b ≠ r := fun e => ne_of e hr fun z => n3 _ z.symm
  obtain ⟨xa, ea, _⟩ := h.pre.len
  obtain ⟨xb, eb, _⟩ := h.post.len
  exact ⟨s _ _ h.obj (ne_of h.obj hr fun z => n1 _ _ z.symm), h.pre.keep (eq _ _ ea (lst ea)) com, h.post.keep (eq _ _ eb (lst eb)) com, s _ _ h.did (lst h.did), h.ab, h.ad, h.bd⟩
theorem LineAt.put {fs' : List (Str × V)} (h : LineAt A H p k last x0 w dx la lb ld) (ap : A.line ≠ A.com) (e : fs' = lineF k last x0 w'.x la lb w'.gone w'.halt w'.left ld) (h1 : w'.pre = w.pre) (h2 : w'.post = w.post) (h3 : w'.did = w.did) :
    LineAt A (upd H p (.ins A.line dx fs')) p k last x0 w' dx la lb ld := by
  obtain ⟨xa, ea, _⟩ := h.pre.len
  obtain ⟨xb, eb, _⟩ := h.post.len
  have lst : ∀ {b xs}, H b = some (.lst xs) → upd H p (.ins A.line dx fs') b = H b := fun e => upd_ne (ne_of e h.obj (by intro z; cases z))
  have com : ∀ b dx1 fs, H b = some (.ins A.com dx1 fs) → upd H p (.ins A.line dx fs') b = H b := fun b dx1 fs e => upd_ne (ne_of e h.obj (by intro z; injection z with z; exact ap z.symm))
  exact ⟨by rw [upd_same, e], by rw [h1]; exact h.pre.keep (lst ea) com, by rw [h2]; exact h.post.keep (lst eb) com, by rw [h3, lst h.did]; exact h.did, h.ab, h.ad, h.bd⟩
theorem LineAt.pushA {c : Addr} {o : Out} {xs : List V} (h : LineAt A H p k last x0 w dx la lb ld) (hc : ComAt A H c o) (hx : H la = some (.lst xs)) : LineAt A (upd H la (.lst (xs ++ [.ref c]))) p k last x0 { w with pre := w.pre ++ [o] } dx la lb ld := by
  have ins : ∀ {b C dx1 fs}, H b = some (.ins C dx1 fs) → upd H la (.lst (xs ++ [.ref c])) b = H b := fun e => upd_ne (ne_of e hx (by intro z; cases z))
  exact ⟨by rw [ins h.obj]; exact h.obj, h.pre.push hc hx, h.post.keep (upd_ne h.ab.symm) (fun b dx1 fs e => ins e), by rw [upd_ne h.ad.symm]; exact h.did, h.ab, h.ad, h.bd⟩
theorem LineAt.pushB {c : Addr} {o : Out} {xs : List V} (h : LineAt A H p k last x0 w dx la lb ld) (hc : ComAt A H c o) (hx : H lb = some (.lst xs)) : LineAt A (upd H lb (.lst (xs ++ [.ref c]))) p k last x0 { w with post := w.post ++ [o] } dx la lb ld := by
  have ins : ∀ {b C dx1 fs}, H b = some (.ins C dx1 fs) → upd H lb (.lst (xs ++ [.ref c])) b = H b := fun e => upd_ne (ne_of e hx (by intro z; cases z))
  exact ⟨by rw [ins h.obj]; exact h.obj, h.pre.keep (upd_ne h.ab) (fun b dx1 fs e => ins e), h.post.push hc hx, by rw [upd_ne h.bd.symm]; exact h.did, h.ab, h.ad, h.bd⟩
theorem LineAt.pushD {n : Nat} {xs : List V} (h : LineAt A H p k last x0 w dx la lb ld) (hx : H ld = some (.lst xs)) : LineAt A (upd H ld (.lst (xs ++ [.int n]))) p k last x0 { w with did := w.did ++ [n] } dx la lb ld := by
  have ins : ∀ {b C dx1 fs}, H b = some (.ins C dx1 fs) → upd H ld (.lst (xs ++ [.int n])) b = H b := fun e => upd_ne (ne_of e hx (by intro z; cases z))
  refine ⟨by rw [ins h.obj]; exact h.obj, h.pre.keep (upd_ne h.ad) (fun b dx1 fs e => ins e), h.post.keep (upd_ne h.bd) (fun b dx1 fs e => ins e), ?_, h.ab, h.ad, h.bd⟩
  have e := h.did
  rw [hx] at e
  injection e with e
  injection e with e
  rw [upd_same, e, List.map_append]; rfl
end
section
variable {P : Program} {w : World} {K : PySem.W.Frag} {mg : Str → Option Value} {base : Heap} {A : Ad}
abbrev LineT (K : PySem.W.Frag) (mg : Str → Option Value) (A : Ad) : Prop := CT K mg "Line" A.line ["number", "is_last", "told_letters", "letters", "ahead", "behind", "is_deleted", "is_ended", "left_out", "done"]
abbrev RunT (K : PySem.W.Frag) (mg : Str → Option Value) (A : Ad) : Prop := CT K mg "Run" A.run ["held", "lines"]
theorem run_lk {held : Bytes} {ll : Addr} : List.lookup ("held" : Str) (runF held ll) = some (.str (bS held)) ∧ List.lookup ("lines" : Str) (runF held ll) = some (.ref ll) := by
  unfold runF
  exact ⟨by ((repeat (first | exact lk_here | refine lk_past (by decide +kernel) ?_)); first | done | rfl), by ((repeat (first | exact lk_here | refine lk_past (by decide +kernel) ?_)); first | done | rfl)⟩
structure LineLk (fs : List (Str × V)) (k : Nat) (last : Bool) (x0 x : Bytes) (la lb : Addr) (gone halt : Bool) (left : Nat) (ld : Addr) : Prop where
  number : List.lookup ("number" : Str) fs = some (.int k)
  is_last : List.lookup ("is_last" : Str) fs = some (.bl last)
  told : List.lookup ("told_letters" : Str) fs = some (.str (bS x0))
  letters : List.lookup ("letters" : Str) fs = some (.str (bS x))
  ahead : List.lookup ("ahead" : Str) fs = some (.ref la)
  behind : List.lookup ("behind" : Str) fs = some (.ref lb)
  gone : List.lookup ("is_deleted" : Str) fs = some (.bl gone)
  halt : List.lookup ("is_ended" : Str) fs = some (.bl halt)
  left : List.lookup ("left_out" : Str) fs = some (.int left)
  done : List.lookup ("done" : Str) fs = some (.ref ld)
theorem line_lk {k : Nat} {last : Bool} {x0 x : Bytes} {la lb : Addr} {gone halt : Bool} {left : Nat} {ld : Addr} : LineLk (lineF k last x0 x la lb gone halt left ld) k last x0 x la lb gone halt left ld := by
  unfold lineF
  exact ⟨by ((repeat (first | exact lk_here | refine lk_past (by decide +kernel) ?_)); first | done | rfl), by ((repeat (first | exact lk_here | refine lk_past (by decide +kernel) ?_)); first | done | rfl), by ((repeat (first | exact lk_here | refine lk_past (by decide +kernel) ?_)); first | done | rfl), by ((repeat (first | exact lk_here | refine lk_past (by decide +kernel) ?_)); first | done | rfl), by ((repeat (first | exact lk_here | refine lk_past (by decide +kernel) ?_)); first | done | rfl), by ((repeat (first | exact lk_here | refine lk_past (by decide +kernel) ?_)); first | done | rfl), by ((repeat (first | exact lk_here | refine lk_past (by decide +kernel) ?_)); first | done | rfl), by ((repeat (first | exact lk_here | refine lk_past (by decide +kernel) ?_)); first | done | rfl), by ((repeat (first | exact lk_here | refine lk_past (by decide +kernel) ?_)); first | done | rfl), by ((repeat (first | exact lk_here | refine lk_past (by decide +kernel) ?_)); first | done | rfl)⟩
structure LinePut (k : Nat) (last : Bool) (x0 x : Bytes) (la lb : Addr) (gone halt : Bool) (left : Nat) (ld : Addr) : Prop where
  pLetters : ∀ y : Bytes, putF "letters" (.str (bS y)) (lineF k last x0 x la lb gone halt left ld) = lineF k last x0 y la lb gone halt left ld
  pGone : ∀ b : Bool, putF "is_deleted" (.bl b) (lineF k last x0 x la lb gone halt left ld) = lineF k last x0 x la lb b halt left ld
  pHalt : ∀ b : Bool, putF "is_ended" (.bl b) (lineF k last x0 x la lb gone halt left ld) = lineF k last x0 x la lb gone b left ld
  pLeft : ∀ n : Nat, putF "left_out" (.int n) (lineF k last x0 x la lb gone halt left ld) = lineF k last x0 x la lb gone halt n ld
theorem line_put {k : Nat} {last : Bool} {x0 x : Bytes} {la lb : Addr} {gone halt : Bool} {left : Nat} {ld : Addr} : LinePut k last x0 x la lb gone halt left ld := by
  constructor
  · intro y; unfold lineF; ((repeat (first | exact put_here | refine put_past (by decide +kernel) ?_)); first | done | rfl)
  · intro y; unfold lineF; ((repeat (first | exact put_here | refine put_past (by decide +kernel) ?_)); first | done | rfl)
  · intro y; unfold lineF; ((repeat (first | exact put_here | refine put_past (by decide +kernel) ?_)); first | done | rfl)
  · intro y; unfold lineF; ((repeat (first | exact put_here | refine put_past (by decide +kernel) ?_)); first | done | rfl)
def sp_run_init (A : Ad) : Sp := fun vs H Q _ => ∃ (p dx : Addr), vs = [.ref p] ∧ H p = some (.ins A.run dx []) ∧ ∀ H' ll, But p H H' → H ll = none → H' p = some (.ins A.run dx (runF [] ll)) → H' ll = some (.lst []) → Q .non H'
theorem sc_run_init : FnScope ["self"] ["self"] (defScope s_run_init) := ⟨rfl, rfl, rfl, by decide +kernel, rfl, by decide +kernel, by decide +kernel⟩
theorem g_run_init (D : Di K A.run "Run.__init__" s_run_init) (T : RunT K mg A) : Gi P w K mg base 5 A.run ["self"] (sp_run_init A) := by
  obtain ⟨f, fd, m, F⟩ := D
  refine ⟨f, fd, m, F.binds (fun _ _ _ _ _ _ us hl => match us, hl with | [_], _ => rfl), F.ok sc_run_init (fun vs H Q E h => ?_) (fun cdv A' outer s H vs Q E hr h => ?_)⟩
  · obtain ⟨p, dx, rfl, _⟩ := h; rfl
  · refine ⟨_, (L2.pss_cons (ps_fld (pv 0) pe_str rfl) (L2.pss_one (ps_fld (pv 0) (pe_lst pa_nil) rfl))), ?_⟩
    obtain ⟨p, dx, rfl, h1, q⟩ := h
    refine ⟨_, rfl, p, A.run, dx, [], rfl, h1, T.cl, T.no _ (by simp), (by show 0 < 1000; decide), ?_⟩
    refine ⟨by decide, fun l hl => ?_⟩
    have np : p ≠ l := fun z => by rw [← z, upd_same] at hl; cases hl
    have hl0 : H l = none := by rw [upd_ne np.symm] at hl; exact hl
    refine ⟨_, rfl, p, A.run, dx, _, rfl, by rw [upd_ne np]; exact upd_same, T.cl, T.no _ (by simp), (by show 1 < 1000; decide), ?_⟩
    have e1 : putF ("held" : Str) (V.str "") [] = [(("held" : Str), V.str (bS []))] := by rw [← bS_nil]; rfl
    have e2 : putF ("lines" : Str) (V.ref l) [(("held" : Str), V.str (bS []))] = runF [] l := by unfold runF; ((repeat (first | exact put_here | refine put_past (by decide +kernel) ?_)); first | done | rfl)
    refine q _ l (But.upd.trans ((Same.but (same_new hl)).trans But.upd)) hl0 (ins_put ((congrArg (putF ("lines" : Str) (V.ref l)) e1).trans e2)) ?_
    rw [upd_ne np.symm, upd_same]
end
end LD

namespace LD
open PySem PySem.Spec PyProof.Rows L2 LN
open VasedBase (Bytes)
open Vaseda (Deed Cmd Text Work Out swapIn)
section
variable {P : Program} {w : World} {K : PySem.W.Frag} {mg : Str → Option Value} {base : Heap} {A : Ad}
def work0 (x held : Bytes) : Work := ⟨x, held, [], [], false, false, 0, [], false⟩
def sp_line_init (A : Ad) : Sp := fun vs H Q _ => ∃ (p dx : Addr) (k : Nat) (last : Bool) (x : Bytes), vs = [.ref p, .int k, .bl last, .str (bS x)] ∧ H p = some (.ins A.line dx []) ∧
  ∀ H' la lb ld, But p H H' → H la = none → H lb = none → H ld = none → LineAt A H' p k last x (work0 x []) dx la lb ld → Q .non H'
theorem sc_line_init : FnScope ["self", "number", "is_last", "letters"] ["self", "number", "is_last", "letters"] (defScope s_line_init) := ⟨rfl, rfl, rfl, by decide +kernel, rfl, by decide +kernel, by decide +kernel⟩
theorem g_line_init (D : Di K A.line "Line.__init__" s_line_init) (T : LineT K mg A) : Gi P w K mg base 5 A.line ["self", "number", "is_last", "letters"] (sp_line_init A) := by
  obtain ⟨f, fd, m, F⟩ := D
  refine ⟨f, fd, m, F.binds (fun _ _ _ _ _ _ us hl => match us, hl with | [_, _, _, _], _ => rfl), F.ok sc_line_init (fun vs H Q E h => ?_) (fun cdv A' outer s H vs Q E hr h => ?_)⟩
  · obtain ⟨p, dx, k, last, x, rfl, _⟩ := h; rfl
  · refine ⟨_, (L2.pss_cons (ps_fld (pv 0) (pv 1) rfl) (L2.pss_cons (ps_fld (pv 0) (pv 2) rfl) (L2.pss_cons (ps_fld (pv 0) (pv 3) rfl) (L2.pss_cons (ps_fld (pv 0) (pv 3) rfl) (L2.pss_cons (ps_fld (pv 0) (pe_lst pa_nil) rfl) (L2.pss_cons (ps_fld (pv 0) (pe_lst pa_nil) rfl) (L2.pss_cons (ps_fld (pv 0) pe_bl rfl) (L2.pss_cons (ps_fld (pv 0) pe_bl rfl) (L2.pss_cons (ps_fld (pv 0) pe_int rfl) (L2.pss_one (ps_fld (pv 0) (pe_lst pa_nil) rfl))))))))))), ?_⟩
    obtain ⟨p, dx, k, last, x, rfl, h1, q⟩ := h
    refine ⟨_, rfl, _, rfl, p, A.line, dx, [], rfl, h1, T.cl, T.no _ (by simp), (by show 0 < 1000; decide), ?_⟩
    refine ⟨_, rfl, _, rfl, p, A.line, dx, _, rfl, upd_same, T.cl, T.no _ (by simp), (by show 1 < 1000; decide), ?_⟩
    refine ⟨_, rfl, _, rfl, p, A.line, dx, _, rfl, upd_same, T.cl, T.no _ (by simp), (by show 2 < 1000; decide), ?_⟩
    refine ⟨_, rfl, _, rfl, p, A.line, dx, _, rfl, upd_same, T.cl, T.no _ (by simp), (by show 3 < 1000; decide), ?_⟩
    have E4 : putF ("letters" : Str) (V.str (bS x)) (putF ("told_letters" : Str) (V.str (bS x)) (putF ("is_last" : Str) (V.bl last) (putF ("number" : Str) (V.int k) []))) =
      [(("number" : Str), V.int k), ("is_last", V.bl last), ("told_letters", V.str (bS x)), ("letters", V.str (bS x))] := by
      have e1 : putF ("number" : Str) (V.int k) [] = [(("number" : Str), V.int k)] := rfl
      have e2 : putF ("is_last" : Str) (V.bl last) [(("number" : Str), V.int k)] = [(("number" : Str), V.int k), ("is_last", V.bl last)] := by ((repeat (first | exact put_here | refine put_past (by decide +kernel) ?_)); first | done | rfl)
      have e3 : putF ("told_letters" : Str) (V.str (bS x)) [(("number" : Str), V.int k), ("is_last", V.bl last)] = [(("number" : Str), V.int k), ("is_last", V.bl last), ("told_letters", V.str (bS x))] := by ((repeat (first | exact put_here | refine put_past (by decide +kernel) ?_)); first | done | rfl)
      rw [e1, e2, e3]; ((repeat (first | exact put_here | refine put_past (by decide +kernel) ?_)); first | done | rfl)
    have B4 : But p H (upd (upd (upd (upd H p (.ins A.line dx (putF ("number" : Str) (V.int k) []))) p (.ins A.line dx (putF ("is_last" : Str) (V.bl last) (putF ("number" : Str) (V.int k) [])))) p (.ins A.line dx (putF ("told_letters" : Str) (V.str (bS x)) (putF ("is_last" : Str) (V.bl last) (putF ("number" : Str) (V.int k) []))))) p (.ins A.line dx (putF ("letters" : Str) (V.str (bS x)) (putF ("told_letters" : Str) (V.str (bS x)) (putF ("is_last" : Str) (V.bl last) (putF ("number" : Str) (V.int k) [])))))) :=
      But.upd.trans (But.upd.trans (But.upd.trans But.upd))
    have N4 : ∀ b, b ≠ p → (upd (upd (upd (upd H p (.ins A.line dx (putF ("number" : Str) (V.int k) []))) p (.ins A.line dx (putF ("is_last" : Str) (V.bl last) (putF ("number" : Str) (V.int k) [])))) p (.ins A.line dx (putF ("told_letters" : Str) (V.str (bS x)) (putF ("is_last" : Str) (V.bl last) (putF ("number" : Str) (V.int k) []))))) p (.ins A.line dx (putF ("letters" : Str) (V.str (bS x)) (putF ("told_letters" : Str) (V.str (bS x)) (putF ("is_last" : Str) (V.bl last) (putF ("number" : Str) (V.int k) [])))))) b = H b := fun b hb => by
      rw [upd_ne hb, upd_ne hb, upd_ne hb, upd_ne hb]
    have F4 : (upd (upd (upd (upd H p (.ins A.line dx (putF ("number" : Str) (V.int k) []))) p (.ins A.line dx (putF ("is_last" : Str) (V.bl last) (putF ("number" : Str) (V.int k) [])))) p (.ins A.line dx (putF ("told_letters" : Str) (V.str (bS x)) (putF ("is_last" : Str) (V.bl last) (putF ("number" : Str) (V.int k) []))))) p (.ins A.line dx (putF ("letters" : Str) (V.str (bS x)) (putF ("told_letters" : Str) (V.str (bS x)) (putF ("is_last" : Str) (V.bl last) (putF ("number" : Str) (V.int k) [])))))) p = some (.ins A.line dx [(("number" : Str), V.int k), ("is_last", V.bl last), ("told_letters", V.str (bS x)), ("letters", V.str (bS x))]) := ins_put E4
    rw [E4] at B4 N4 F4 ⊢
    generalize upd (upd (upd (upd H p (.ins A.line dx (putF ("number" : Str) (V.int k) []))) p (.ins A.line dx (putF ("is_last" : Str) (V.bl last) (putF ("number" : Str) (V.int k) [])))) p (.ins A.line dx (putF ("told_letters" : Str) (V.str (bS x)) (putF ("is_last" : Str) (V.bl last) (putF ("number" : Str) (V.int k) []))))) p (.ins A.line dx [(("number" : Str), V.int k), ("is_last", V.bl last), ("told_letters", V.str (bS x)), ("letters", V.str (bS x))]) = H4 at B4 N4 F4 ⊢
    -- ahead
    refine ⟨by decide, fun la hla => ?_⟩
    have na : p ≠ la := fun z => by rw [← z, F4] at hla; cases hla
    have ga : H la = none := by rw [← N4 la na.symm]; exact hla
    have E5 : putF ("ahead" : Str) (V.ref la) [(("number" : Str), V.int k), ("is_last", V.bl last), ("told_letters", V.str (bS x)), ("letters", V.str (bS x))] = [(("number" : Str), V.int k), ("is_last", V.bl last), ("told_letters", V.str (bS x)), ("letters", V.str (bS x)), ("ahead", V.ref la)] := by ((repeat (first | exact put_here | refine put_past (by decide +kernel) ?_)); first | done | rfl)
    refine ⟨_, rfl, p, A.line, dx, _, rfl, by rw [upd_ne na]; exact F4, T.cl, T.no _ (by simp), (by show 4 < 1000; decide), ?_⟩
    rw [E5]
    have B5 : But p H (upd (upd H4 la (.lst [])) p (.ins A.line dx [(("number" : Str), V.int k), ("is_last", V.bl last), ("told_letters", V.str (bS x)), ("letters", V.str (bS x)), ("ahead", V.ref la)])) := B4.trans ((Same.but (same_new hla)).trans But.upd)
    have N5 : ∀ b, b ≠ p → b ≠ la → (upd (upd H4 la (.lst [])) p (.ins A.line dx [(("number" : Str), V.int k), ("is_last", V.bl last), ("told_letters", V.str (bS x)), ("letters", V.str (bS x)), ("ahead", V.ref la)])) b = H b := fun b h1 h2 => by rw [upd_ne h1, upd_ne h2, N4 b h1]
    have F5 := upd_same (H := upd H4 la (.lst [])) (a := p) (o := HO.ins A.line dx [(("number" : Str), V.int k), ("is_last", V.bl last), ("told_letters", V.str (bS x)), ("letters", V.str (bS x)), ("ahead", V.ref la)])
    have A5 : (upd (upd H4 la (.lst [])) p (.ins A.line dx [(("number" : Str), V.int k), ("is_last", V.bl last), ("told_letters", V.str (bS x)), ("letters", V.str (bS x)), ("ahead", V.ref la)])) la = some (.lst []) := by rw [upd_ne na.symm, upd_same]
    generalize upd (upd H4 la (.lst [])) p (.ins A.line dx [(("number" : Str), V.int k), ("is_last", V.bl last), ("told_letters", V.str (bS x)), ("letters", V.str (bS x)), ("ahead", V.ref la)]) = H5 at B5 N5 F5 A5 ⊢
    -- behind
    refine ⟨by decide, fun lb hlb => ?_⟩
    have nb : p ≠ lb := fun z => by rw [← z, F5] at hlb; cases hlb
    have nab : la ≠ lb := fun z => by rw [← z, A5] at hlb; cases hlb
    have gb : H lb = none := by rw [← N5 lb nb.symm nab.symm]; exact hlb
    have E6 : putF ("behind" : Str) (V.ref lb) [(("number" : Str), V.int k), ("is_last", V.bl last), ("told_letters", V.str (bS x)), ("letters", V.str (bS x)), ("ahead", V.ref la)] = [(("number" : Str), V.int k), ("is_last", V.bl last), ("told_letters", V.str (bS x)), ("letters", V.str (bS x)), ("ahead", V.ref la), ("behind", V.ref lb)] := by ((repeat (first | exact put_here | refine put_past (by decide +kernel) ?_)); first | done | rfl)
    refine ⟨_, rfl, p, A.line, dx, _, rfl, by rw [upd_ne nb]; exact F5, T.cl, T.no _ (by simp), (by show 5 < 1000; decide), ?_⟩
    rw [E6]
    refine ⟨_, rfl, p, A.line, dx, _, rfl, upd_same, T.cl, T.no _ (by simp), (by show 6 < 1000; decide), ?_⟩
    refine ⟨_, rfl, p, A.line, dx, _, rfl, upd_same, T.cl, T.no _ (by simp), (by show 7 < 1000; decide), ?_⟩
    refine ⟨_, rfl, p, A.line, dx, _, rfl, upd_same, T.cl, T.no _ (by simp), (by show 8 < 1000; decide), ?_⟩
    have E9 : putF ("left_out" : Str) (V.int 0) (putF ("is_ended" : Str) (V.bl false) (putF ("is_deleted" : Str) (V.bl false) [(("number" : Str), V.int k), ("is_last", V.bl last), ("told_letters", V.str (bS x)), ("letters", V.str (bS x)), ("ahead", V.ref la), ("behind", V.ref lb)])) =
      [(("number" : Str), V.int k), ("is_last", V.bl last), ("told_letters", V.str (bS x)), ("letters", V.str (bS x)), ("ahead", V.ref la), ("behind", V.ref lb), ("is_deleted", V.bl false), ("is_ended", V.bl false), ("left_out", V.int 0)] := by
      have e1 : putF ("is_deleted" : Str) (V.bl false) [(("number" : Str), V.int k), ("is_last", V.bl last), ("told_letters", V.str (bS x)), ("letters", V.str (bS x)), ("ahead", V.ref la), ("behind", V.ref lb)] = [(("number" : Str), V.int k), ("is_last", V.bl last), ("told_letters", V.str (bS x)), ("letters", V.str (bS x)), ("ahead", V.ref la), ("behind", V.ref lb), ("is_deleted", V.bl false)] := by ((repeat (first | exact put_here | refine put_past (by decide +kernel) ?_)); first | done | rfl)
      have e2 : putF ("is_ended" : Str) (V.bl false) [(("number" : Str), V.int k), ("is_last", V.bl last), ("told_letters", V.str (bS x)), ("letters", V.str (bS x)), ("ahead", V.ref la), ("behind", V.ref lb), ("is_deleted", V.bl false)] = [(("number" : Str), V.int k), ("is_last", V.bl last), ("told_letters", V.str (bS x)), ("letters", V.str (bS x)), ("ahead", V.ref la), ("behind", V.ref lb), ("is_deleted", V.bl false), ("is_ended", V.bl false)] := by ((repeat (first | exact put_here | refine put_past (by decide +kernel) ?_)); first | done | rfl)
      rw [e1, e2]; ((repeat (first | exact put_here | refine put_past (by decide +kernel) ?_)); first | done | rfl)
    rw [E9]
    refine ⟨by decide, fun ld hld => ?_⟩
    rw [upd_upd, upd_upd, upd_upd] at hld
    have nd : p ≠ ld := fun z => by rw [← z, upd_same] at hld; cases hld
    rw [upd_ne nd.symm] at hld
    have nbd : lb ≠ ld := fun z => by rw [← z, upd_same] at hld; cases hld
    rw [upd_ne nbd.symm] at hld
    have nad : la ≠ ld := fun z => by rw [← z, A5] at hld; cases hld
    have gd : H ld = none := by rw [← N5 ld nd.symm nad.symm]; exact hld
    rw [upd_upd, upd_upd, upd_upd]
    refine ⟨_, rfl, p, A.line, dx, _, rfl, by rw [upd_ne nd]; exact upd_same, T.cl, T.no _ (by simp), (by show 9 < 1000; decide), ?_⟩
    have E10 : putF ("done" : Str) (V.ref ld) [(("number" : Str), V.int k), ("is_last", V.bl last), ("told_letters", V.str (bS x)), ("letters", V.str (bS x)), ("ahead", V.ref la), ("behind", V.ref lb), ("is_deleted", V.bl false), ("is_ended", V.bl false), ("left_out", V.int 0)] = lineF k last x x la lb false false 0 ld := by unfold lineF; ((repeat (first | exact put_here | refine put_past (by decide +kernel) ?_)); first | done | rfl)
    rw [E10]
    refine q _ la lb ld (B5.trans ((Same.but (same_new hlb)).trans (But.upd.trans ((Same.but (same_new (by rw [upd_ne nd.symm, upd_ne nbd.symm]; exact hld))).trans But.upd)))) ga gb gd ⟨upd_same, ?_, ?_, ?_, nab, nad, nbd⟩
    · exact ⟨[], by rw [upd_ne na.symm, upd_ne nad, upd_ne na.symm, upd_ne nab]; exact A5, rfl, by simp⟩
    · exact ⟨[], by rw [upd_ne nb.symm, upd_ne nbd, upd_ne nb.symm, upd_same]; rfl, rfl, by simp⟩
    · rw [upd_ne nd.symm, upd_same]; rfl
end
end LD

namespace LD
open PySem PySem.Spec PyProof.Rows L2 LN
open VasedBase (Bytes word)
open Vaseda (Deed Cmd Text Work Out swapIn)
section
variable {P : Program} {w : World} {K : PySem.W.Frag} {mg : Str → Option Value} {base : Heap} {A : Ad}
def sp_trade (A : Ad) : Sp := fun vs H Q _ => ∃ (pr pl : Addr) (k : Nat) (last : Bool) (x0 : Bytes) (w : Work) (dx la lb ld dr ll : Addr), vs = [.ref pr, .ref pl] ∧ RunAt A H pr w.held dr ll ∧ LineAt A H pl k last x0 w dx la lb ld ∧
  ∀ H', Keep [pr, pl] H H' → RunAt A H' pr w.x dr ll → LineAt A H' pl k last x0 { w with x := w.held, held := w.x } dx la lb ld → Q .non H'
theorem sc_trade : FnScope ["run", "line", "letters"] ["run", "line"] (defScope s_trade_letters) := ⟨rfl, rfl, rfl, by decide +kernel, rfl, by decide +kernel, by decide +kernel⟩
theorem RunAt.set {H : Hp} {p dx ll : Addr} {held y : Bytes} (h : RunAt A H p held dx ll) : RunAt A (upd H p (.ins A.run dx (putF ("held" : Str) (.str (bS y)) (runF held ll)))) p y dx ll := by
  show _ = _
  rw [upd_same]
  have e : putF ("held" : Str) (.str (bS y)) (runF held ll) = runF y ll := by unfold runF; ((repeat (first | exact put_here | refine put_past (by decide +kernel) ?_)); first | done | rfl)
  rw [e]
theorem g_trade (D : Dn K mg "trade_letters" s_trade_letters) (T : LineT K mg A) (TR : RunT K mg A) (ap : Apart A) : Gd P w K mg base CX0 5 "trade_letters" ["run", "line"] (sp_trade A) := by
  obtain ⟨f, fd, m, F⟩ := D
  refine ⟨f, fd, m, F.kp, F.binds (fun _ _ _ _ _ _ us hl => match us, hl with | [_, _], _ => rfl), F.ok sc_trade (fun vs H Q E h => ?_) (fun cdv A' outer s H vs Q E hr h => ?_)⟩
  · obtain ⟨pr, pl, k, last, x0, w, dx, la, lb, ld, dr, ll, rfl, _⟩ := h; rfl
  · refine ⟨_, (L2.pss_cons (ps_set (i := 2) sc_trade.nd rfl (.inl rfl) (pe_fld (pv 1) rfl)) (L2.pss_cons (ps_fld (pv 1) (pe_fld (pv 0) rfl) rfl) (L2.pss_one (ps_fld (pv 0) (pv 2) rfl)))), ?_⟩
    obtain ⟨pr, pl, k, last, x0, w, dx, la, lb, ld, dr, ll, rfl, hR, hL, q⟩ := h
    have n0 : pr ≠ pl := ne_of hR hL.obj (by intro z; injection z with z; exact ap.lr z.symm)
    refine ⟨_, rfl, pl, A.line, dx, _, _, rfl, hL.obj, T.cl, T.no _ (by simp), line_lk.letters, ?_⟩
    refine ⟨_, rfl, pr, A.run, dr, _, _, rfl, hR, TR.cl, TR.no _ (by simp), run_lk.1, _, rfl, pl, A.line, dx, _, rfl, hL.obj, T.cl, T.no _ (by simp), (by show 10 < 1000; decide), ?_⟩
    have hL1 := hL.put (w' := { w with x := w.held, held := w.x }) ap.lo ((line_put (x := w.x)).pLetters w.held) rfl rfl rfl
    have hR1 : RunAt A (upd H pl (.ins A.line dx (putF ("letters" : Str) (.str (bS w.held)) (lineF k last x0 w.x la lb w.gone w.halt w.left ld)))) pr w.held dr ll := by
      show _ = _
      rw [upd_ne n0]; exact hR
    have K1 : Keep [pr, pl] H (upd H pl (.ins A.line dx (putF ("letters" : Str) (.str (bS w.held)) (lineF k last x0 w.x la lb w.gone w.halt w.left ld)))) := Keep.set (by simp)
    generalize upd H pl (.ins A.line dx (putF ("letters" : Str) (.str (bS w.held)) (lineF k last x0 w.x la lb w.gone w.halt w.left ld))) = H1 at hL1 hR1 K1 ⊢
    refine ⟨_, rfl, _, rfl, pr, A.run, dr, _, rfl, hR1, TR.cl, TR.no _ (by simp), (by show 2 < 1000; decide), ?_⟩
    exact q _ (K1.trans (Keep.set (by simp))) hR1.set (hL1.but hR1 (fun _ _ z => by injection z with z; exact ap.lr z.symm) (fun _ _ z => by injection z with z; exact ap.uo z) (fun _ z => by cases z) But.upd)
/-- a line's letters by such a deed -/
def newX : Deed → Bytes → Option Bytes
  | .change y, _ => some y
  | .swap a b, x => some (swapIn a b false x)
  | .first a b, x => some (swapIn a b true x)
  | _, _ => none
def sp_changed (A : Ad) : Sp := fun vs H Q E => ∃ (x : Bytes) (td : Addr) (d : Deed) (y : Bytes), vs = [.str (bS x), .ref td] ∧ DeedAt H td d ∧ DeedOk d ∧ x.length ≤ 16 ∧ newX d x = some y ∧ (16 < y.length → XE A.tM E (Same H)) ∧ (y.length ≤ 16 → Q (.str (bS y)) H)
theorem sc_changed : FnScope ["letters", "deed", "changed"] ["letters", "deed"] (defScope s_changed_letters) := ⟨rfl, rfl, rfl, by decide +kernel, rfl, by decide +kernel, by decide +kernel⟩
theorem swapIn_len {a b x : Bytes} {once : Bool} (ha : 1 ≤ a.length) (hb : b.length ≤ 8) (hx : x.length ≤ 16) : (swapIn a b once x).length ≤ 200 := by
  cases once with
  | false =>
    have e : swapIn a b false x = swapG a b (x.length + 1) (x.length + 1) x := by rw [swapG_all a b ha _ _ _ (Nat.lt_succ_self _)]; rfl
    rw [e]
    have := swapG_len ha hb (x.length + 1) (x.length + 1) x
    omega
  | true =>
    have e : swapIn a b true x = swapG a b (x.length + 1) 1 x := by rw [swapG_once]; rfl
    rw [e]
    have := swapG_len ha hb (x.length + 1) 1 x
    omega
theorem inst_len {b : Bytes} (h : b = [] ∨ Lw b) : b.length ≤ 8 := by
  rcases h with rfl | h
  · exact Nat.zero_le _
  · exact h.2.1
theorem lw_pos {a : Bytes} (h : Lw a) : 1 ≤ a.length := by
  have := h.1
  cases a with
  | nil => first | exact absurd rfl this | (simp at this)
  | cons c r => simp
theorem g_changed (D : Dn K mg "changed_letters" s_changed_letters) (TX : Txt K mg) (TM : XTxt K mg "TooMuch" A.tM) (U : Unbooked K) : Gd P w K mg base (L2.CX P w) 5 "changed_letters" ["letters", "deed"] (sp_changed A) := by
  obtain ⟨f, fd, m, F⟩ := D
  refine ⟨f, fd, m, F.kp, F.binds (fun _ _ _ _ _ _ us hl => match us, hl with | [_, _], _ => rfl), F.okX sc_changed (fun vs H Q E h => ?_) (fun cdv A' outer s H vs Q E hr h => ?_)⟩
  · obtain ⟨x, td, d, y, rfl, _⟩ := h; rfl
  · refine ⟨_, (L2.pss_cons (ps_if (pt_cmpR op_eq (pe_ix ix_tup (pv 1) pe_int (fun _ _ => rfl)) pe_str (nomark _)) (L2.pss_one (ps_ret (pe_ix ix_tup (pv 1) pe_int (fun _ _ => rfl)))) L2.pss_nil) (L2.pss_cons (ps_if (pt_cmpR op_eq (pe_ix ix_tup (pv 1) pe_int (fun _ _ => rfl)) pe_str (nomark _)) (L2.pss_one (ps_set (i := 2) sc_changed.nd rfl (.inl rfl) (pe_repl_all (i := 0) (j := 1) U rfl (.inl rfl) rfl (.inl rfl))))
        (L2.pss_one (ps_set (i := 2) sc_changed.nd rfl (.inl rfl) (pe_repl_one (i := 0) (j := 1) U rfl (.inl rfl) rfl (.inl rfl))))) (L2.pss_cons (ps_if (pt_cmpR op_gt ((pe_callB call_len (by rfl) TX.len PySem.boot_len (pa_cons (pv 2) pa_nil))) (pe_k TX.kMOST_LINE_LETTERS) (nomark _)) (L2.pss_one (ps_raise0 rfl TM (takes_of rfl rfl rfl rfl))) L2.pss_nil) (L2.pss_one (ps_ret (pv 2)))))), ?_⟩
    obtain ⟨x, td, d, y, rfl, hD, ok, hx, hy, qE, qQ⟩ := h
    have hS := hD.seq (K := K)
    cases d with
    | change z =>
      injection hy with hy
      subst hy
      refine ⟨_, rfl, td, _, _, _, rfl, rfl, hS, rfl, rfl, _, rfl, if_true_of (by decide +kernel) ⟨_, rfl, td, _, _, _, rfl, rfl, hS, rfl, ?_⟩⟩
      exact qQ (by have := ok.2.1; omega)
    | swap a b =>
      injection hy with hy
      refine ⟨_, rfl, td, _, _, _, rfl, rfl, hS, rfl, rfl, _, rfl, if_false_of (by decide +kernel) ⟨_, rfl, td, _, _, _, rfl, rfl, hS, rfl, rfl, _, rfl, if_true_of (by decide +kernel) ?_⟩⟩
      refine ⟨x, td, _, a, b, rfl, rfl, hD, lw_pos ok.1, ok.1.2.1, inst_len ok.2, hx, ?_⟩
      have hl := swapIn_len (once := false) (lw_pos ok.1) (inst_len ok.2) hx
      rw [hy] at hl ⊢
      refine ⟨_, rfl, _, _, rfl, ⟨by rw [bS_length, sizeLine_eq]; omega, rfl⟩, _, _, rfl, rfl, _, rfl, ?_⟩
      rw [bS_length]
      refine if_iff (p := 16 < y.length) (by rw [decide_eq_true_iff]; omega) (fun h => qE h H (Same.refl _)) fun h => ⟨_, rfl, qQ (by omega)⟩
    | first a b =>
      injection hy with hy
      refine ⟨_, rfl, td, _, _, _, rfl, rfl, hS, rfl, rfl, _, rfl, if_false_of (by decide +kernel) ⟨_, rfl, td, _, _, _, rfl, rfl, hS, rfl, rfl, _, rfl, if_false_of (by decide +kernel) ?_⟩⟩
      refine ⟨x, td, _, a, b, rfl, rfl, hD, lw_pos ok.1, ok.1.2.1, inst_len ok.2, hx, ?_⟩
      have hl := swapIn_len (once := true) (lw_pos ok.1) (inst_len ok.2) hx
      rw [hy] at hl ⊢
      refine ⟨_, rfl, _, _, rfl, ⟨by rw [bS_length, sizeLine_eq]; omega, rfl⟩, _, _, rfl, rfl, _, rfl, ?_⟩
      rw [bS_length]
      refine if_iff (p := 16 < y.length) (by rw [decide_eq_true_iff]; omega) (fun h => qE h H (Same.refl _)) fun h => ⟨_, rfl, qQ (by omega)⟩
    | _ => cases hy
end
end LD

namespace LD
open PySem PySem.Spec PyProof.Rows L2 LN
open VasedBase (Bytes word)
open Vaseda (Deed Cmd Text Work Out swapIn)
abbrev s_do_deed : Stmt := top 87
section
variable {P : Program} {w : World} {K : PySem.W.Frag} {mg : Str → Option Value} {base : Heap} {A : Ad}
def sp_do_deed (A : Ad) : Sp := fun vs H Q E => ∃ (pr pl td : Addr) (c k : Nat) (last : Bool) (x0 : Bytes) (w : Work) (d : Deed) (dx la lb ld dr ll : Addr), vs = [.ref pr, .ref pl, .int c, .ref td] ∧ RunAt A H pr w.held dr ll ∧ LineAt A H pl k last x0 w dx la lb ld ∧ DeedAt H td d ∧ DeedOk d ∧
  w.bad = false ∧ w.x.length ≤ 16 ∧ w.pre.length ≤ 16 ∧ w.post.length ≤ 16 ∧
  ((Vaseda.deed k c w d).bad = true → XE A.tM E (Keep [pr, pl, la, lb] H)) ∧
  ((Vaseda.deed k c w d).bad = false → ∀ H', Keep [pr, pl, la, lb] H H' → RunAt A H' pr (Vaseda.deed k c w d).held dr ll → LineAt A H' pl k last x0 (Vaseda.deed k c w d) dx la lb ld → Q .non H')
theorem sc_do_deed : FnScope ["run", "line", "number", "deed", "name"] ["run", "line", "number", "deed"] (defScope s_do_deed) := ⟨rfl, rfl, rfl, by decide +kernel, rfl, by decide +kernel, by decide +kernel⟩
theorem RunAt.keep {H H' : Hp} {p dx ll : Addr} {held : Bytes} (h : RunAt A H p held dx ll) (e : H' p = H p) : RunAt A H' p held dx ll := by
  show _ = _
  rw [e]; exact h
theorem LineAt.hold {H : Hp} {p : Addr} {k : Nat} {last : Bool} {x0 y : Bytes} {w : Work} {dx la lb ld : Addr} (h : LineAt A H p k last x0 w dx la lb ld) : LineAt A H p k last x0 { w with held := y } dx la lb ld := ⟨h.obj, h.pre, h.post, h.did, h.ab, h.ad, h.bd⟩
theorem g_do_deed (D : Dn K mg "do_deed" s_do_deed) (T : LineT K mg A) (TR : RunT K mg A) (TC : ComT K mg A) (ap : Apart A) (G1 : Gd P w K mg base CX0 5 "trade_letters" ["run", "line"] (sp_trade A)) (G2 : Gd P w K mg base (L2.CX P w) 5 "changed_letters" ["letters", "deed"] (sp_changed A))
    (G3 : Gi P w K mg base 5 A.com ["self", "letters", "line_number", "command_number"] (sp_com_init A)) : Gd P w K mg base (L2.CX P w) 10 "do_deed" ["run", "line", "number", "deed"] (sp_do_deed A) := by
  obtain ⟨f, fd, m, F⟩ := D
  obtain ⟨f1, fd1, m1, k1, b1, F1⟩ := G1
  obtain ⟨f2, fd2, m2, k2, b2, F2⟩ := G2
  obtain ⟨f3, fd3, m3, b3, F3⟩ := G3
  refine ⟨f, fd, m, F.kp, F.binds (fun _ _ _ _ _ _ us hl => match us, hl with | [_, _, _, _], _ => rfl), F.okX sc_do_deed (fun vs H Q E h => ?_) (fun cdv A' outer s H vs Q E hr h => ?_)⟩
  · obtain ⟨pr, pl, td, c, k, last, x0, w, d, dx, la, lb, ld, dr, ll, rfl, _⟩ := h; rfl
  · refine ⟨_, (L2.pss_cons (ps_set (i := 4) sc_do_deed.nd rfl (.inl rfl) (pe_ix ix_tup (pv 3) pe_int (fun _ _ => rfl))) (L2.pss_one (ps_if (pt_cmpR op_eq (pv 4) pe_str (nomark _)) (L2.pss_cons (ps_fld (pv 1) pe_bl rfl) (L2.pss_one (ps_fld (pv 1) pe_bl rfl))) (L2.pss_one (ps_if (pt_cmpR op_eq (pv 4) pe_str (nomark _)) (L2.pss_one (ps_fld (pv 1) pe_bl rfl)) (L2.pss_one (ps_if (pt_cmpR op_eq (pv 4) pe_str (nomark _)) (L2.pss_one (ps_expr (pe_bm PySem.F.plainAttrs_list PySem.F.slot_list_append PySem.F.type_list_append mt_append (pe_fld (pv 1) rfl) (L2.pa_cons (pe_make m3 F3 (hr.mono (by decide)) rfl TC.g b3 .nil pass0 (L2.pa_cons (pe_ix ix_tup (pv 3) pe_int (fun _ _ => rfl)) (L2.pa_cons (pe_fld (pv 1) rfl) (L2.pa_cons (pv 2) L2.pa_nil)))) L2.pa_nil)))) (L2.pss_one (ps_if (pt_cmpR op_eq (pv 4) pe_str (nomark _)) (L2.pss_one (ps_expr (pe_bm PySem.F.plainAttrs_list PySem.F.slot_list_append PySem.F.type_list_append mt_append (pe_fld (pv 1) rfl) (L2.pa_cons (pe_make m3 F3 (hr.mono (by decide)) rfl TC.g b3 .nil pass0 (L2.pa_cons (pe_ix ix_tup (pv 3) pe_int (fun _ _ => rfl)) (L2.pa_cons (pe_fld (pv 1) rfl) (L2.pa_cons (pv 2) L2.pa_nil)))) L2.pa_nil)))) (L2.pss_one (ps_if (pt_cmpR op_eq (pv 4) pe_str (nomark _)) (L2.pss_one (ps_expr (pe_bm PySem.F.plainAttrs_list PySem.F.slot_list_append PySem.F.type_list_append mt_append (pe_fld (pv 1) rfl) (L2.pa_cons (pe_make m3 F3 (hr.mono (by decide)) rfl TC.g b3 .nil pass0 (L2.pa_cons (pe_fld (pv 0) rfl) (L2.pa_cons (pe_fld (pv 1) rfl) (L2.pa_cons (pv 2) L2.pa_nil)))) L2.pa_nil)))) (L2.pss_one (ps_if (pt_cmpR op_eq (pv 4) pe_str (nomark _)) (L2.pss_one (ps_fld (pv 0) (pe_fld (pv 1) rfl) rfl)) (L2.pss_one (ps_if (pt_cmpR op_eq (pv 4) pe_str (nomark _)) (L2.pss_one (ps_expr (pe_call F1 (hr.mono (by decide)) rfl m1 k1 b1 .nil pass0 (L2.pa_cons (pv 0) (L2.pa_cons (pv 1) L2.pa_nil))))) (L2.pss_one (ps_if (pt_cmpR op_eq (pv 4) pe_str (nomark _)) (L2.pss_one (ps_fld (pv 1) (pe_ix ix_tup (pv 3) pe_int (fun _ _ => rfl)) rfl))
        (L2.pss_one (ps_fld (pv 1) (pe_call F2 (hr.mono (by decide)) rfl m2 k2 b2 .nil (passes_call (takes_of rfl rfl rfl rfl) (fun _ _ _ _ h => h)) (L2.pa_cons (pe_fld (pv 1) rfl) (L2.pa_cons (pv 3) L2.pa_nil))) rfl))))))))))))))))))), ?_⟩
    obtain ⟨pr, pl, td, c, k, last, x0, w, d, dx, la, lb, ld, dr, ll, rfl, hR, hL, hD, ok, hb, hx, hp, hq, qE, qQ⟩ := h
    have hS := hD.seq (K := K)
    have n0 : pr ≠ pl := ne_of hR hL.obj (by intro z; injection z with z; exact ap.lr z.symm)
    -- the line's field is set
    have put : ∀ (w' : Work) fs', fs' = lineF k last x0 w'.x la lb w'.gone w'.halt w'.left ld → w'.pre = w.pre → w'.post = w.post → w'.did = w.did → w'.held = w.held → w'.bad = false → Vaseda.deed k c w d = w' → Q .non (upd H pl (.ins A.line dx fs')) := fun w' fs' e e1 e2 e3 e4 e5 e6 => by
      refine qQ (by rw [e6]; exact e5) _ (Keep.set (by simp)) ?_ (by rw [e6]; exact hL.put ap.lo e e1 e2 e3)
      rw [e6, e4]
      exact hR.keep (upd_ne n0)
    -- a line that comes, ahead or behind
    have made : ∀ {p1 dp : Addr} {H2 : Hp} {y : Bytes}, H p1 = none → H dp = none → dp ≠ p1 → But p1 (upd (upd H dp (.own p1)) p1 (.ins A.com dp [])) H2 → H2 p1 = some (.ins A.com dp (comF y k c)) → Same H H2 ∧ ComAt A H2 p1 ⟨y, k, some c⟩ := fun h1 h2 h3 h4 h5 => ⟨Same.made h1 h2 h4, _, h5⟩
    obtain ⟨xa, ea, la_len⟩ := hL.pre.len
    obtain ⟨xb, eb, lb_len⟩ := hL.post.len
    have goA : ∀ {H2 : Hp} {p1 : Addr} {y : Bytes}, Same H H2 → ComAt A H2 p1 ⟨y, k, some c⟩ → Vaseda.deed k c w d = { w with pre := w.pre ++ [⟨y, k, some c⟩] } → Q .non (upd H2 la (.lst (xa ++ [.ref p1]))) := fun sm hc e => by
      have hL2 := (hL.same sm).pushA hc (sm _ _ ea)
      rw [← e] at hL2
      refine qQ (by rw [e]; exact hb) _ ((Same.keep sm).trans (Keep.set (by simp))) ?_ hL2
      rw [e]
      have hR2 : RunAt A _ pr w.held dr ll := sm _ _ hR
      exact hR2.keep (upd_ne (ne_of hR ea (by intro z; cases z)))
    have goB : ∀ {H2 : Hp} {p1 : Addr} {y : Bytes}, Same H H2 → ComAt A H2 p1 ⟨y, k, some c⟩ → Vaseda.deed k c w d = { w with post := w.post ++ [⟨y, k, some c⟩] } → Q .non (upd H2 lb (.lst (xb ++ [.ref p1]))) := fun sm hc e => by
      have hL2 := (hL.same sm).pushB hc (sm _ _ eb)
      rw [← e] at hL2
      refine qQ (by rw [e]; exact hb) _ ((Same.keep sm).trans (Keep.set (by simp))) ?_ hL2
      rw [e]
      have hR2 : RunAt A _ pr w.held dr ll := sm _ _ hR
      exact hR2.keep (upd_ne (ne_of hR eb (by intro z; cases z)))
    cases d with
    | delete =>
      refine ⟨_, rfl, td, _, _, _, rfl, rfl, hS, rfl, ?_⟩; refine ⟨_, rfl, rfl, _, rfl, if_true_of (by decide +kernel) ?_⟩
      refine ⟨_, rfl, pl, A.line, dx, _, rfl, hL.obj, T.cl, T.no _ (by simp), (by show 10 < 1000; decide), ?_⟩
      rw [(line_put (x := w.x)).pGone true]
      refine ⟨_, rfl, pl, A.line, dx, _, rfl, upd_same, T.cl, T.no _ (by simp), (by show 10 < 1000; decide), ?_⟩
      rw [(line_put (x := w.x)).pHalt true, upd_upd]
      exact put { w with gone := true, halt := true } _ rfl rfl rfl rfl rfl hb rfl
    | halt_ =>
      refine ⟨_, rfl, td, _, _, _, rfl, rfl, hS, rfl, ?_⟩; refine ⟨_, rfl, rfl, _, rfl, if_false_of (by decide +kernel) ?_⟩; refine ⟨_, rfl, rfl, _, rfl, if_true_of (by decide +kernel) ?_⟩
      refine ⟨_, rfl, pl, A.line, dx, _, rfl, hL.obj, T.cl, T.no _ (by simp), (by show 10 < 1000; decide), ?_⟩
      rw [(line_put (x := w.x)).pHalt true]
      exact put { w with halt := true } _ rfl rfl rfl rfl rfl hb rfl
    | before y =>
      refine ⟨_, rfl, td, _, _, _, rfl, rfl, hS, rfl, ?_⟩; refine ⟨_, rfl, rfl, _, rfl, if_false_of (by decide +kernel) ?_⟩; refine ⟨_, rfl, rfl, _, rfl, if_false_of (by decide +kernel) ?_⟩; refine ⟨_, rfl, rfl, _, rfl, if_true_of (by decide +kernel) ?_⟩
      refine ⟨_, rfl, pl, A.line, dx, _, _, rfl, hL.obj, T.cl, T.no _ (by simp), line_lk.ahead, .inl ⟨rfl, _, .of ea⟩, _, rfl, td, _, _, _, rfl, rfl, hS, rfl, _, rfl, pl, A.line, dx, _, _, rfl, hL.obj, T.cl, T.no _ (by simp), line_lk.number, _, rfl, fun p1 dp h1 h2 h3 => ?_⟩
      refine ⟨p1, dp, y, k, c, rfl, upd_same, fun H2 bt h5 => ⟨rfl, ?_⟩⟩
      obtain ⟨sm, hc⟩ := made h1 h2 h3 bt h5
      exact ⟨la, _, _, rfl, rfl, sm _ _ ea, by rw [sizeLine_eq]; omega, goA sm hc rfl⟩
    | after y =>
      refine ⟨_, rfl, td, _, _, _, rfl, rfl, hS, rfl, ?_⟩; refine ⟨_, rfl, rfl, _, rfl, if_false_of (by decide +kernel) ?_⟩; refine ⟨_, rfl, rfl, _, rfl, if_false_of (by decide +kernel) ?_⟩; refine ⟨_, rfl, rfl, _, rfl, if_false_of (by decide +kernel) ?_⟩; refine ⟨_, rfl, rfl, _, rfl, if_true_of (by decide +kernel) ?_⟩
      refine ⟨_, rfl, pl, A.line, dx, _, _, rfl, hL.obj, T.cl, T.no _ (by simp), line_lk.behind, .inl ⟨rfl, _, .of eb⟩, _, rfl, td, _, _, _, rfl, rfl, hS, rfl, _, rfl, pl, A.line, dx, _, _, rfl, hL.obj, T.cl, T.no _ (by simp), line_lk.number, _, rfl, fun p1 dp h1 h2 h3 => ?_⟩
      refine ⟨p1, dp, y, k, c, rfl, upd_same, fun H2 bt h5 => ⟨rfl, ?_⟩⟩
      obtain ⟨sm, hc⟩ := made h1 h2 h3 bt h5
      exact ⟨lb, _, _, rfl, rfl, sm _ _ eb, by rw [sizeLine_eq]; omega, goB sm hc rfl⟩
    | bring =>
      refine ⟨_, rfl, td, _, _, _, rfl, rfl, hS, rfl, ?_⟩; refine ⟨_, rfl, rfl, _, rfl, if_false_of (by decide +kernel) ?_⟩; refine ⟨_, rfl, rfl, _, rfl, if_false_of (by decide +kernel) ?_⟩; refine ⟨_, rfl, rfl, _, rfl, if_false_of (by decide +kernel) ?_⟩; refine ⟨_, rfl, rfl, _, rfl, if_false_of (by decide +kernel) ?_⟩; refine ⟨_, rfl, rfl, _, rfl, if_true_of (by decide +kernel) ?_⟩
      refine ⟨_, rfl, pl, A.line, dx, _, _, rfl, hL.obj, T.cl, T.no _ (by simp), line_lk.behind, .inl ⟨rfl, _, .of eb⟩, _, rfl, pr, A.run, dr, _, _, rfl, hR, TR.cl, TR.no _ (by simp), run_lk.1, _, rfl, pl, A.line, dx, _, _, rfl, hL.obj, T.cl, T.no _ (by simp), line_lk.number, _, rfl, fun p1 dp h1 h2 h3 => ?_⟩
      refine ⟨p1, dp, w.held, k, c, rfl, upd_same, fun H2 bt h5 => ⟨rfl, ?_⟩⟩
      obtain ⟨sm, hc⟩ := made h1 h2 h3 bt h5
      exact ⟨lb, _, _, rfl, rfl, sm _ _ eb, by rw [sizeLine_eq]; omega, goB sm hc rfl⟩
    | keep =>
      refine ⟨_, rfl, td, _, _, _, rfl, rfl, hS, rfl, ?_⟩; refine ⟨_, rfl, rfl, _, rfl, if_false_of (by decide +kernel) ?_⟩; refine ⟨_, rfl, rfl, _, rfl, if_false_of (by decide +kernel) ?_⟩; refine ⟨_, rfl, rfl, _, rfl, if_false_of (by decide +kernel) ?_⟩; refine ⟨_, rfl, rfl, _, rfl, if_false_of (by decide +kernel) ?_⟩; refine ⟨_, rfl, rfl, _, rfl, if_false_of (by decide +kernel) ?_⟩; refine ⟨_, rfl, rfl, _, rfl, if_true_of (by decide +kernel) ?_⟩
      refine ⟨_, rfl, pl, A.line, dx, _, _, rfl, hL.obj, T.cl, T.no _ (by simp), line_lk.letters, _, rfl, pr, A.run, dr, _, rfl, hR, TR.cl, TR.no _ (by simp), (by show 2 < 1000; decide), ?_⟩
      refine qQ hb _ (Keep.set (by simp)) hR.set ?_
      exact (hL.but hR (fun _ _ z => by injection z with z; exact ap.lr z.symm) (fun _ _ z => by injection z with z; exact ap.uo z) (fun _ z => by cases z) But.upd).hold
    | trade =>
      refine ⟨_, rfl, td, _, _, _, rfl, rfl, hS, rfl, ?_⟩; refine ⟨_, rfl, rfl, _, rfl, if_false_of (by decide +kernel) ?_⟩; refine ⟨_, rfl, rfl, _, rfl, if_false_of (by decide +kernel) ?_⟩; refine ⟨_, rfl, rfl, _, rfl, if_false_of (by decide +kernel) ?_⟩; refine ⟨_, rfl, rfl, _, rfl, if_false_of (by decide +kernel) ?_⟩; refine ⟨_, rfl, rfl, _, rfl, if_false_of (by decide +kernel) ?_⟩; refine ⟨_, rfl, rfl, _, rfl, if_false_of (by decide +kernel) ?_⟩; refine ⟨_, rfl, rfl, _, rfl, if_true_of (by decide +kernel) ?_⟩
      refine ⟨_, rfl, _, rfl, pr, pl, k, last, x0, w, dx, la, lb, ld, dr, ll, rfl, hR, hL, fun H' kp hR' hL' => ?_⟩
      exact qQ hb H' (kp.mono (by simp)) hR' hL'
    | skip n =>
      refine ⟨_, rfl, td, _, _, _, rfl, rfl, hS, rfl, ?_⟩; refine ⟨_, rfl, rfl, _, rfl, if_false_of (by decide +kernel) ?_⟩; refine ⟨_, rfl, rfl, _, rfl, if_false_of (by decide +kernel) ?_⟩; refine ⟨_, rfl, rfl, _, rfl, if_false_of (by decide +kernel) ?_⟩; refine ⟨_, rfl, rfl, _, rfl, if_false_of (by decide +kernel) ?_⟩; refine ⟨_, rfl, rfl, _, rfl, if_false_of (by decide +kernel) ?_⟩; refine ⟨_, rfl, rfl, _, rfl, if_false_of (by decide +kernel) ?_⟩; refine ⟨_, rfl, rfl, _, rfl, if_false_of (by decide +kernel) ?_⟩; refine ⟨_, rfl, rfl, _, rfl, if_true_of (by decide +kernel) ?_⟩
      refine ⟨_, rfl, td, _, _, _, rfl, rfl, hS, rfl, _, rfl, pl, A.line, dx, _, rfl, hL.obj, T.cl, T.no _ (by simp), (by show 10 < 1000; decide), ?_⟩
      show Q .non (upd H pl (.ins A.line dx (putF _ (.int n) _)))
      rw [(line_put (x := w.x)).pLeft n]
      exact put { w with left := n } _ rfl rfl rfl rfl rfl hb rfl
    | change y =>
      refine ⟨_, rfl, td, _, _, _, rfl, rfl, hS, rfl, ?_⟩; refine ⟨_, rfl, rfl, _, rfl, if_false_of (by decide +kernel) ?_⟩; refine ⟨_, rfl, rfl, _, rfl, if_false_of (by decide +kernel) ?_⟩; refine ⟨_, rfl, rfl, _, rfl, if_false_of (by decide +kernel) ?_⟩; refine ⟨_, rfl, rfl, _, rfl, if_false_of (by decide +kernel) ?_⟩; refine ⟨_, rfl, rfl, _, rfl, if_false_of (by decide +kernel) ?_⟩; refine ⟨_, rfl, rfl, _, rfl, if_false_of (by decide +kernel) ?_⟩; refine ⟨_, rfl, rfl, _, rfl, if_false_of (by decide +kernel) ?_⟩; refine ⟨_, rfl, rfl, _, rfl, if_false_of (by decide +kernel) ?_⟩
      refine ⟨_, rfl, pl, A.line, dx, _, _, rfl, hL.obj, T.cl, T.no _ (by simp), line_lk.letters, _, rfl, w.x, td, .change y, y, rfl, hD, ok, hx, rfl, fun h => by have := ok.2.1; omega, fun _ => ?_⟩
      refine ⟨_, rfl, pl, A.line, dx, _, rfl, hL.obj, T.cl, T.no _ (by simp), (by show 10 < 1000; decide), ?_⟩
      rw [(line_put (x := w.x)).pLetters y]
      exact put { w with x := y } _ rfl rfl rfl rfl rfl hb rfl
    | swap a b =>
      refine ⟨_, rfl, td, _, _, _, rfl, rfl, hS, rfl, ?_⟩; refine ⟨_, rfl, rfl, _, rfl, if_false_of (by decide +kernel) ?_⟩; refine ⟨_, rfl, rfl, _, rfl, if_false_of (by decide +kernel) ?_⟩; refine ⟨_, rfl, rfl, _, rfl, if_false_of (by decide +kernel) ?_⟩; refine ⟨_, rfl, rfl, _, rfl, if_false_of (by decide +kernel) ?_⟩; refine ⟨_, rfl, rfl, _, rfl, if_false_of (by decide +kernel) ?_⟩; refine ⟨_, rfl, rfl, _, rfl, if_false_of (by decide +kernel) ?_⟩; refine ⟨_, rfl, rfl, _, rfl, if_false_of (by decide +kernel) ?_⟩; refine ⟨_, rfl, rfl, _, rfl, if_false_of (by decide +kernel) ?_⟩
      have eb' : (Vaseda.deed k c w (.swap a b)).bad = decide (16 < (swapIn a b false w.x).length) := by
        show (w.bad || _) = _
        rw [hb]; rfl
      refine ⟨_, rfl, pl, A.line, dx, _, _, rfl, hL.obj, T.cl, T.no _ (by simp), line_lk.letters, _, rfl, w.x, td, .swap a b, _, rfl, hD, ok, hx, rfl, fun h H' sm => qE (by rw [eb', decide_eq_true h]) H' (Same.keep sm), fun h => ?_⟩
      refine ⟨_, rfl, pl, A.line, dx, _, rfl, hL.obj, T.cl, T.no _ (by simp), (by show 10 < 1000; decide), ?_⟩
      rw [(line_put (x := w.x)).pLetters (swapIn a b false w.x)]
      exact put (Vaseda.deed k c w (.swap a b)) _ rfl rfl rfl rfl rfl (by rw [eb', decide_eq_false (by omega)]) rfl
    | first a b =>
      refine ⟨_, rfl, td, _, _, _, rfl, rfl, hS, rfl, ?_⟩; refine ⟨_, rfl, rfl, _, rfl, if_false_of (by decide +kernel) ?_⟩; refine ⟨_, rfl, rfl, _, rfl, if_false_of (by decide +kernel) ?_⟩; refine ⟨_, rfl, rfl, _, rfl, if_false_of (by decide +kernel) ?_⟩; refine ⟨_, rfl, rfl, _, rfl, if_false_of (by decide +kernel) ?_⟩; refine ⟨_, rfl, rfl, _, rfl, if_false_of (by decide +kernel) ?_⟩; refine ⟨_, rfl, rfl, _, rfl, if_false_of (by decide +kernel) ?_⟩; refine ⟨_, rfl, rfl, _, rfl, if_false_of (by decide +kernel) ?_⟩; refine ⟨_, rfl, rfl, _, rfl, if_false_of (by decide +kernel) ?_⟩
      have eb' : (Vaseda.deed k c w (.first a b)).bad = decide (16 < (swapIn a b true w.x).length) := by
        show (w.bad || _) = _
        rw [hb]; rfl
      refine ⟨_, rfl, pl, A.line, dx, _, _, rfl, hL.obj, T.cl, T.no _ (by simp), line_lk.letters, _, rfl, w.x, td, .first a b, _, rfl, hD, ok, hx, rfl, fun h H' sm => qE (by rw [eb', decide_eq_true h]) H' (Same.keep sm), fun h => ?_⟩
      refine ⟨_, rfl, pl, A.line, dx, _, rfl, hL.obj, T.cl, T.no _ (by simp), (by show 10 < 1000; decide), ?_⟩
      rw [(line_put (x := w.x)).pLetters (swapIn a b true w.x)]
      exact put (Vaseda.deed k c w (.first a b)) _ rfl rfl rfl rfl rfl (by rw [eb', decide_eq_false (by omega)]) rfl
end
end LD

namespace LD
open PySem PySem.Spec PyProof.Rows L2 LN
open VasedBase (Bytes word)
open Vaseda (Deed Cmd Text Work Out swapIn)
abbrev s_command_holds : Stmt := top 85
abbrev s_address_holds : Stmt := top 86
section
variable {P : Program} {w : World} {K : PySem.W.Frag} {mg : Str → Option Value} {base : Heap} {A : Ad}
def sp_addr_holds (A : Ad) : Sp := fun vs H Q _ => ∃ (ta pl : Addr) (a : Vaseda.Addr) (k : Nat) (last : Bool) (x0 x : Bytes) (dx la lb : Addr) (gone halt : Bool) (left : Nat) (ld : Addr), vs = [.ref ta, .ref pl] ∧ H ta = some (.tup (addrV a)) ∧ CoreOk a ∧ H pl = some (.ins A.line dx (lineF k last x0 x la lb gone halt left ld)) ∧ Q (.bl (Vaseda.holds k last x a)) H
theorem sc_addr_holds : FnScope ["address", "line", "name"] ["address", "line"] (defScope s_address_holds) := ⟨rfl, rfl, rfl, by decide +kernel, rfl, by decide +kernel, by decide +kernel⟩
theorem beq_int (k n : Nat) : decide (V.int (k : Int) = V.int (n : Int)) = (k == n) := by
  rw [Bool.eq_iff_iff, decide_eq_true_iff, beq_iff_eq]
  exact ⟨fun z => by injection z with z; omega, fun z => by rw [z]⟩
theorem beq_str (x y : Bytes) : decide (V.str (bS x) = V.str (bS y)) = (x == y) := by
  rw [Bool.eq_iff_iff, decide_eq_true_iff, beq_iff_eq]
  exact ⟨fun z => by injection z with z; exact bS_inj z, fun z => by rw [z]⟩
theorem g_addr_holds (D : Dn K mg "address_holds" s_address_holds) (T : LineT K mg A) : Gd P w K mg base CX0 5 "address_holds" ["address", "line"] (sp_addr_holds A) := by
  obtain ⟨f, fd, m, F⟩ := D
  refine ⟨f, fd, m, F.kp, F.binds (fun _ _ _ _ _ _ us hl => match us, hl with | [_, _], _ => rfl), F.ok sc_addr_holds (fun vs H Q E h => ?_) (fun cdv A' outer s H vs Q E hr h => ?_)⟩
  · obtain ⟨ta, pl, a, k, last, x0, x, dx, la, lb, gone, halt, left, ld, rfl, _⟩ := h; rfl
  · refine ⟨_, (L2.pss_cons (ps_set (i := 2) sc_addr_holds.nd rfl (.inl rfl) (pe_ix ix_tup (pv 0) pe_int (fun _ _ => rfl))) (L2.pss_cons (ps_if (pt_cmpR op_eq (pv 2) pe_str (nomark _)) (L2.pss_one (ps_ret (pe_cmpR op_eq (pe_fld (pv 1) rfl) (pe_ix ix_tup (pv 0) pe_int (fun _ _ => rfl)) (nomark _)))) L2.pss_nil) (L2.pss_cons (ps_if (pt_cmpR op_eq (pv 2) pe_str (nomark _)) (L2.pss_one (ps_ret (pe_chain op_le op_le (pe_ix ix_tup (pv 0) pe_int (fun _ _ => rfl)) (pe_fld (pv 1) rfl) (pe_ix ix_tup (pv 0) pe_int (fun _ _ => rfl))))) L2.pss_nil) (L2.pss_cons (ps_if (pt_cmpR op_eq (pv 2) pe_str (nomark _)) (L2.pss_one (ps_ret (pe_fld (pv 1) rfl))) L2.pss_nil) (L2.pss_cons (ps_if (pt_cmpR op_eq (pv 2) pe_str (nomark _)) (L2.pss_one (ps_ret (pe_cmpR op_in_str (pe_ix ix_tup (pv 0) pe_int (fun _ _ => rfl)) (pe_fld (pv 1) rfl) (by rfl)))) L2.pss_nil) (L2.pss_cons (ps_if (pt_cmpR op_eq (pv 2) pe_str (nomark _)) (L2.pss_one (ps_ret (pe_cmpR op_eq (pe_fld (pv 1) rfl) (pe_ix ix_tup (pv 0) pe_int (fun _ _ => rfl)) (nomark _)))) L2.pss_nil) (L2.pss_one (ps_ret pe_bl)))))))), ?_⟩
    obtain ⟨ta, pl, a, k, last, x0, x, dx, la, lb, gone, halt, left, ld, rfl, hT, ok, hL, q⟩ := h
    have hS : SqT K H ta (addrV a) := .of hT
    cases a with
    | all =>
      refine ⟨_, rfl, ta, _, _, _, rfl, rfl, hS, rfl, ?_⟩; refine ⟨_, rfl, rfl, _, rfl, if_false_of (by decide +kernel) ?_⟩; refine ⟨_, rfl, rfl, _, rfl, if_false_of (by decide +kernel) ?_⟩; refine ⟨_, rfl, rfl, _, rfl, if_false_of (by decide +kernel) ?_⟩; refine ⟨_, rfl, rfl, _, rfl, if_false_of (by decide +kernel) ?_⟩; refine ⟨_, rfl, rfl, _, rfl, if_false_of (by decide +kernel) ?_⟩
      exact q
    | line n =>
      refine ⟨_, rfl, ta, _, _, _, rfl, rfl, hS, rfl, ?_⟩; refine ⟨_, rfl, rfl, _, rfl, if_true_of (by decide +kernel) ?_⟩
      refine ⟨_, rfl, pl, A.line, dx, _, _, rfl, hL, T.cl, T.no _ (by simp), line_lk.number, _, rfl, ta, _, _, _, rfl, rfl, hS, rfl, rfl, ?_⟩
      rw [beq_int]; exact q
    | span j n =>
      refine ⟨_, rfl, ta, _, _, _, rfl, rfl, hS, rfl, ?_⟩; refine ⟨_, rfl, rfl, _, rfl, if_false_of (by decide +kernel) ?_⟩; refine ⟨_, rfl, rfl, _, rfl, if_true_of (by decide +kernel) ?_⟩
      refine ⟨_, rfl, ta, _, _, _, rfl, rfl, hS, rfl, _, rfl, pl, A.line, dx, _, _, rfl, hL, T.cl, T.no _ (by simp), line_lk.number, _, _, rfl, rfl, _, rfl, ?_⟩
      have e : Vaseda.holds k last x (.span j n) = decide (j ≤ k ∧ k ≤ n) := rfl
      rw [e] at q
      by_cases c : j ≤ k
      · refine if_true_of (decide_eq_true (by omega)) ⟨_, rfl, ta, _, _, _, rfl, rfl, hS, rfl, _, _, rfl, rfl, ?_⟩
        have e2 : decide ((k : Int) ≤ (n : Int)) = decide (j ≤ k ∧ k ≤ n) := by rw [decide_eq_decide]; omega
        have q2 : Q (.bl (decide ((k : Int) ≤ (n : Int)))) H := by rw [e2]; exact q
        exact q2
      · refine if_false_of (decide_eq_false (by omega)) ?_
        rw [decide_eq_false (by omega)] at q
        exact q
    | last =>
      refine ⟨_, rfl, ta, _, _, _, rfl, rfl, hS, rfl, ?_⟩; refine ⟨_, rfl, rfl, _, rfl, if_false_of (by decide +kernel) ?_⟩; refine ⟨_, rfl, rfl, _, rfl, if_false_of (by decide +kernel) ?_⟩; refine ⟨_, rfl, rfl, _, rfl, if_true_of (by decide +kernel) ?_⟩
      exact ⟨_, rfl, pl, A.line, dx, _, _, rfl, hL, T.cl, T.no _ (by simp), line_lk.is_last, q⟩
    | has z =>
      refine ⟨_, rfl, ta, _, _, _, rfl, rfl, hS, rfl, ?_⟩; refine ⟨_, rfl, rfl, _, rfl, if_false_of (by decide +kernel) ?_⟩; refine ⟨_, rfl, rfl, _, rfl, if_false_of (by decide +kernel) ?_⟩; refine ⟨_, rfl, rfl, _, rfl, if_false_of (by decide +kernel) ?_⟩; refine ⟨_, rfl, rfl, _, rfl, if_true_of (by decide +kernel) ?_⟩
      refine ⟨_, rfl, ta, _, _, _, rfl, rfl, hS, rfl, _, rfl, pl, A.line, dx, _, _, rfl, hL, T.cl, T.no _ (by simp), line_lk.letters, bS z, bS x, rfl, rfl, ?_⟩
      rw [found_bS]; exact q
    | is_ z =>
      refine ⟨_, rfl, ta, _, _, _, rfl, rfl, hS, rfl, ?_⟩; refine ⟨_, rfl, rfl, _, rfl, if_false_of (by decide +kernel) ?_⟩; refine ⟨_, rfl, rfl, _, rfl, if_false_of (by decide +kernel) ?_⟩; refine ⟨_, rfl, rfl, _, rfl, if_false_of (by decide +kernel) ?_⟩; refine ⟨_, rfl, rfl, _, rfl, if_false_of (by decide +kernel) ?_⟩; refine ⟨_, rfl, rfl, _, rfl, if_true_of (by decide +kernel) ?_⟩
      refine ⟨_, rfl, pl, A.line, dx, _, _, rfl, hL, T.cl, T.no _ (by simp), line_lk.letters, _, rfl, ta, _, _, _, rfl, rfl, hS, rfl, rfl, ?_⟩
      rw [beq_str]; exact q
    | not a => exact ok.elim
theorem holds_nots (k : Nat) (last : Bool) (x : Bytes) : ∀ a : Vaseda.Addr, Vaseda.holds k last x a = if notsOf a % 2 = 0 then Vaseda.holds k last x (coreOf a) else !(Vaseda.holds k last x (coreOf a))
  | .not a => by
    show (!(Vaseda.holds k last x a)) = if (notsOf a + 1) % 2 = 0 then Vaseda.holds k last x (coreOf a) else _
    rw [holds_nots k last x a]
    by_cases h : notsOf a % 2 = 0
    · rw [if_pos h, if_neg (by omega)]; rfl
    · rw [if_neg h, if_pos (by omega), Bool.not_not]
  | .all => rfl
  | .line _ => rfl
  | .span _ _ => rfl
  | .last => rfl
  | .has _ => rfl
  | .is_ _ => rfl
def sp_cmd_holds (A : Ad) : Sp := fun vs H Q _ => ∃ (p pl : Addr) (c : Cmd) (k : Nat) (last : Bool) (x0 x : Bytes) (dx la lb : Addr) (gone halt : Bool) (left : Nat) (ld : Addr), vs = [.ref p, .ref pl] ∧ CmdAt A H p c ∧ CmdOk c ∧ H pl = some (.ins A.line dx (lineF k last x0 x la lb gone halt left ld)) ∧ Q (.bl (Vaseda.holds k last x c.a)) H
theorem sc_cmd_holds : FnScope ["command", "line", "holds"] ["command", "line"] (defScope s_command_holds) := ⟨rfl, rfl, rfl, by decide +kernel, rfl, by decide +kernel, by decide +kernel⟩
theorem g_cmd_holds (D : Dn K mg "command_holds" s_command_holds) (T : CmdT K mg A) (G1 : Gd P w K mg base CX0 5 "address_holds" ["address", "line"] (sp_addr_holds A)) : Gd P w K mg base CX0 10 "command_holds" ["command", "line"] (sp_cmd_holds A) := by
  obtain ⟨f, fd, m, F⟩ := D
  obtain ⟨f1, fd1, m1, k1, b1, F1⟩ := G1
  refine ⟨f, fd, m, F.kp, F.binds (fun _ _ _ _ _ _ us hl => match us, hl with | [_, _], _ => rfl), F.ok sc_cmd_holds (fun vs H Q E h => ?_) (fun cdv A' outer s H vs Q E hr h => ?_)⟩
  · obtain ⟨p, pl, c, k, last, x0, x, dx, la, lb, gone, halt, left, ld, rfl, _⟩ := h; rfl
  · refine ⟨_, (L2.pss_cons (ps_set (i := 2) sc_cmd_holds.nd rfl (.inl rfl) (pe_call F1 (hr.mono (by decide)) rfl m1 k1 b1 .nil pass0 (L2.pa_cons (pe_fld (pv 0) rfl) (L2.pa_cons (pv 1) L2.pa_nil)))) (L2.pss_one (ps_ret (pe_ifExp (pt_cmpR op_eq (pe_op op_mod (pe_fld (pv 0) rfl) pe_int) pe_int (nomark _)) (pv 2) (pe_not (pv 2)))))), ?_⟩
    obtain ⟨p, pl, c, k, last, x0, x, dx, la, lb, gone, halt, left, ld, rfl, hC, ok, hL, q⟩ := h
    obtain ⟨dc, ta, td, e1, e2, e3⟩ := hC
    refine ⟨_, rfl, p, A.cmd, dc, _, _, rfl, e1, T.cl, T.no _ (by simp), cmd_lk.2.1, _, rfl, ta, pl, coreOf c.a, k, last, x0, x, dx, la, lb, gone, halt, left, ld, rfl, e2, ok.1.2, hL, ?_⟩
    refine ⟨_, rfl, p, A.cmd, dc, _, _, rfl, e1, T.cl, T.no _ (by simp), cmd_lk.1, _, _, rfl, rfl, (by show (0 : Int) < 2; decide), rfl, _, rfl, ?_⟩
    have e := holds_nots k last x c.a
    rw [e] at q
    refine if_iff (p := notsOf c.a % 2 = 0) (by rw [decide_eq_true_iff]; exact ⟨fun z => by injection z with z; omega, fun z => congrArg V.int (show ((notsOf c.a : Nat) : Int) % 2 = 0 by omega)⟩) (fun h => ?_) fun h => ?_
    · rw [if_pos h] at q
      exact ⟨_, rfl, q⟩
    · rw [if_neg h] at q
      exact ⟨_, rfl, _, rfl, q⟩
end
end LD

namespace LD
open PySem PySem.Spec PyProof.Rows L2 LN
open VasedBase (Bytes word)
open Vaseda (Deed Cmd Text Work Out swapIn lineRun)
abbrev s_run_line : Stmt := top 84
section
variable {P : Program} {w : World} {K : PySem.W.Frag} {mg : Str → Option Value} {base : Heap} {A : Ad}
theorem DeedAt.hard {H : Hp} {p : Addr} {d : Deed} (h : DeedAt H p d) : ∃ o, H p = some o ∧ ¬ Loose o := by
  have tup : ∀ xs, H p = some (.tup xs) → ∃ o, H p = some o ∧ ¬ Loose o := fun xs e => ⟨_, e, fun z => z⟩
  have frz : ∀ z a b, Trip H p z a b → ∃ o, H p = some o ∧ ¬ Loose o := fun z a b ⟨un, t1, t2, e, _⟩ => ⟨_, e, fun z => z⟩
  cases d <;> first | exact tup _ h | exact frz _ _ _ h
theorem DeedAt.eq {H H' : Hp} {p : Addr} {d : Deed} (h : DeedAt H p d) (e : H' p = H p) : DeedAt H' p d := by
  have tup : ∀ xs, H p = some (.tup xs) → H' p = some (.tup xs) := fun xs a => by rw [e]; exact a
  have frz : ∀ z a b, Trip H p z a b → Trip H' p z a b := fun z a b ⟨un, t1, t2, a1, r⟩ => ⟨un, t1, t2, by rw [e]; exact a1, r⟩
  cases d <;> first | exact tup _ h | exact frz _ _ _ h
/-- places that are no part of the commands -/
def Apt (A : Ad) (H : Hp) (L : List Addr) : Prop := ∀ r ∈ L, ∃ o, H r = some o ∧ Loose o ∧ ∀ dx fs, o ≠ .ins A.cmd dx fs
theorem CmdAt.keep {H H' : Hp} {c : Addr} {x : Cmd} {L : List Addr} (h : CmdAt A H c x) (kp : Keep L H H') (hL : Apt A H L) : CmdAt A H' c x := by
  obtain ⟨dx, ta, td, a, b, d⟩ := h
  have n1 : c ∉ L := fun z => by
    obtain ⟨o, e, _, n⟩ := hL c z
    rw [a] at e
    exact n _ _ (Option.some.inj e).symm
  have n2 : ta ∉ L := fun z => by
    obtain ⟨o, e, lo, _⟩ := hL ta z
    rw [b] at e
    cases e
    exact lo
  obtain ⟨o, e, lo⟩ := d.hard
  have n3 : td ∉ L := fun z => by
    obtain ⟨o', e', lo', _⟩ := hL td z
    rw [e] at e'
    cases e'
    exact lo lo'
  exact ⟨dx, ta, td, kp _ _ a n1, kp _ _ b n2, d.eq (by rw [e]; exact kp _ _ e n3)⟩
theorem CmdsAt.keep {H H' : Hp} {p : Addr} {s : Vaseda.Script} {L : List Addr} (h : CmdsAt A H p s) (kp : Keep L H H') (hp : p ∉ L) (hL : Apt A H L) : CmdsAt A H' p s := by
  obtain ⟨l, a, b, c⟩ := h
  exact ⟨l, kp _ _ a hp, b, fun q hq => (c q hq).keep kp hL⟩
def sp_run_line (A : Ad) : Sp := fun vs H Q E => ∃ (pr pl cs : Addr) (s : Vaseda.Script) (k : Nat) (last : Bool) (x held : Bytes) (dx la lb ld dr ll : Addr), vs = [.ref pr, .ref pl, .ref cs] ∧ RunAt A H pr held dr ll ∧ LineAt A H pl k last x (work0 x held) dx la lb ld ∧
  CmdsAt A H cs s ∧ (∀ c ∈ s, CmdOk c) ∧ s.length ≤ 16 ∧ Letters x ∧ Letters held ∧ cs ≠ la ∧ cs ≠ lb ∧ cs ≠ ld ∧
  ((lineRun s k last x held).bad = true → XE A.tM E (Keep [pr, pl, la, lb, ld] H)) ∧
  ((lineRun s k last x held).bad = false → ∀ H', Keep [pr, pl, la, lb, ld] H H' → RunAt A H' pr (lineRun s k last x held).held dr ll → LineAt A H' pl k last x (lineRun s k last x held) dx la lb ld → Q .non H')
theorem sc_run_line : FnScope ["run", "line", "commands", "number", "command"] ["run", "line", "commands"] (defScope s_run_line) := ⟨rfl, rfl, rfl, by decide +kernel, rfl, by decide +kernel, by decide +kernel⟩
theorem g_run_line (D : Dn K mg "run_line" s_run_line) (TX : Txt K mg) (T : LineT K mg A) (TR : RunT K mg A) (TC : CmdT K mg A) (ap : Apart A) (G1 : Gd P w K mg base CX0 10 "command_holds" ["command", "line"] (sp_cmd_holds A))
    (G2 : Gd P w K mg base (L2.CX P w) 10 "do_deed" ["run", "line", "number", "deed"] (sp_do_deed A)) : Gd P w K mg base (L2.CX P w) 15 "run_line" ["run", "line", "commands"] (sp_run_line A) := by
  obtain ⟨f, fd, m, F⟩ := D
  obtain ⟨f1, fd1, m1, k1, b1, F1⟩ := G1
  obtain ⟨f2, fd2, m2, k2, b2, F2⟩ := G2
  refine ⟨f, fd, m, F.kp, F.binds (fun _ _ _ _ _ _ us hl => match us, hl with | [_, _, _], _ => rfl), F.okX sc_run_line (fun vs H Q E h => ?_) (fun cdv A' outer s H vs Q E hr h => ?_)⟩
  · obtain ⟨pr, pl, cs, s, k, last, x, held, dx, la, lb, ld, dr, ll, rfl, _⟩ := h; rfl
  · refine ⟨_, (L2.pss_one (ps_for (passes_of rfl) rfl (pi_enum (by rfl) TX.enumerate (L2.pa_cons (pv 2) L2.pa_nil)) (pg_tup (n := 2) rfl (pgs_cons (pg_name (i := 3) sc_run_line.nd rfl (.inl rfl)) (pgs_cons (pg_name (i := 4) sc_run_line.nd rfl (.inl rfl)) pgs_nil)))
      (L2.pss_cons (ps_if (pt_val (pe_fld (pv 1) rfl)) (L2.pss_one (ps_retN)) L2.pss_nil) (L2.pss_one (ps_if (pt_cmpR op_gt (pe_fld (pv 1) rfl) pe_int (nomark _)) (L2.pss_one (ps_fldaug (pv 1) pe_int in_sub))
          (L2.pss_one (ps_if (pt_val (pe_call F1 (hr.mono (by decide)) rfl m1 k1 b1 .nil pass0 (L2.pa_cons (pv 4) (L2.pa_cons (pv 1) L2.pa_nil))))
            (L2.pss_cons (ps_expr (pe_bm PySem.F.plainAttrs_list PySem.F.slot_list_append PySem.F.type_list_append mt_append (pe_fld (pv 1) rfl) (L2.pa_cons (pv 3) L2.pa_nil))) (L2.pss_one (ps_expr (pe_call F2 (hr.mono (by decide)) rfl m2 k2 b2 .nil (passes_call (takes_of rfl rfl rfl rfl) (fun _ _ _ _ h => h)) (L2.pa_cons (pv 0) (L2.pa_cons (pv 1) (L2.pa_cons (pv 3) (L2.pa_cons (pe_fld (pv 4) rfl) L2.pa_nil)))))))) L2.pss_nil))))))), ?_⟩
    obtain ⟨pr, pl, cs, sc, k, last, x, held, dx, la, lb, ld, dr, ll, rfl, hR, hL, hC, ok, len, hx, hh, na, nb, nd, qE, qQ⟩ := h
    have hC0 := hC
    obtain ⟨l, hl, rfl, hcs⟩ := hC0
    rw [List.length_map] at len
    -- the places that change, and what stands at them
    obtain ⟨xa, ea, _⟩ := hL.pre.len
    obtain ⟨xb, eb, _⟩ := hL.post.len
    have apt : Apt A H [pr, pl, la, lb, ld] := fun r hr => by
      simp only [List.mem_cons, List.not_mem_nil, or_false] at hr
      rcases hr with rfl | rfl | rfl | rfl | rfl
      · exact ⟨_, hR, True.intro, fun _ _ z => by injection z with z; exact ap.uc z⟩
      · exact ⟨_, hL.obj, True.intro, fun _ _ z => by injection z with z; exact ap.lc z⟩
      · exact ⟨_, ea, True.intro, fun _ _ z => by cases z⟩
      · exact ⟨_, eb, True.intro, fun _ _ z => by cases z⟩
      · exact ⟨_, hL.did, True.intro, fun _ _ z => by cases z⟩
    have ncs : cs ∉ [pr, pl, la, lb, ld] := by
      simp only [List.mem_cons, List.not_mem_nil, or_false]
      rintro (rfl | rfl | rfl | rfl | rfl)
      · rw [hR] at hl; cases hl
      · rw [hL.obj] at hl; cases hl
      · exact na rfl
      · exact nb rfl
      · exact nd rfl
    have wok := fun i (hi : i ≤ l.length) => WOk.upTo (s := l.map (·.2)) (k := k) (last := last) ok hx hh i (by rw [List.length_map]; exact hi)
    refine ⟨_, rfl, cs, _, rfl, .of hl, for_it (walk_enum (xs := l.map fun q => V.ref q.1)) (fun i σ H' => ∃ x3 x4 : Option V, σ = [some (.ref pr), some (.ref pl), some (.ref cs), x3, x4] ∧ Keep [pr, pl, la, lb, ld] H H' ∧
      RunAt A H' pr (workUpTo (l.map (·.2)) k last x held i).held dr ll ∧ LineAt A H' pl k last x (workUpTo (l.map (·.2)) k last x held i) dx la lb ld ∧ (workUpTo (l.map (·.2)) k last x held i).bad = false)
      ⟨_, _, rfl, Keep.refl _ _, by rw [workUpTo_zero]; exact hR, by rw [workUpTo_zero]; exact hL, by rw [workUpTo_zero]⟩ (fun i σ H' _ p => ?_) (fun i v σ H1 H2 hi p y => ?_) (fun σ H' p => ?_)⟩
    · obtain ⟨_, _, _, kp, _⟩ := p
      exact .of (kp _ _ hl ncs)
    · obtain ⟨x3, x4, rfl, kp, hR1, hL1, hb⟩ := p
      obtain ⟨Ta, x0, y0, rfl, hT, rfl, ex, ey⟩ := y
      cases ex
      rw [List.length_map] at hi
      obtain ⟨c, hc⟩ : ∃ c, l[i]? = some c := ⟨l[i], List.getElem?_eq_getElem hi⟩
      have ey : (l.map fun q => V.ref q.1)[i]? = some y0 := ey
      rw [List.getElem?_map, hc] at ey
      cases ey
      have s1 : Same H1 (upd H1 Ta (.tup [.int (i : Nat), .ref c.1])) := same_new hT
      have hR2 : RunAt A _ pr _ dr ll := s1 _ _ hR1
      have hL2 := hL1.same s1
      have kp2 := kp.trans (Same.keep (L := [pr, pl, la, lb, ld]) s1)
      refine ⟨Ta, _, rfl, .of upd_same, rfl, ?_⟩
      generalize upd H1 Ta (.tup [.int (i : Nat), .ref c.1]) = H2 at s1 hR2 hL2 kp2 ⊢
      refine ⟨_, _, rfl, _, _, rfl, rfl, ?_⟩
      have hw := wok i (by omega)
      have su : workUpTo (l.map (·.2)) k last x held (i + 1) = Vaseda.work k last (workUpTo (l.map (·.2)) k last x held i) (c.2, i) := workUpTo_succ (by rw [List.getElem?_map, hc]; rfl)
      have stuck := @lineRun_stuck (l.map (·.2)) k last x held i
      have stuck1 := @lineRun_stuck (l.map (·.2)) k last x held (i + 1)
      rw [su] at stuck1 ⊢
      generalize workUpTo (l.map (·.2)) k last x held i = wi at hR2 hL2 hb hw stuck stuck1 ⊢
      have hcm := hcs c (List.mem_of_getElem? hc)
      have okc := ok c.2 (List.mem_map.mpr ⟨c, List.mem_of_getElem? hc, rfl⟩)
      refine ⟨_, rfl, pl, A.line, dx, _, _, rfl, hL2.obj, T.cl, T.no _ (by simp), line_lk.halt, _, rfl, ?_⟩
      refine if_iff (p := wi.halt = true) Iff.rfl (fun hh1 => ?_) fun hh1 => ?_
      · -- stopped
        have e := stuck (by rw [hh1]; rfl)
        exact qQ (by rw [e]; exact hb) H2 kp2 (by rw [e]; exact hR2) (by rw [e]; exact hL2)
      · have hh0 : wi.halt = false := by cases h : wi.halt <;> first | rfl | exact absurd h hh1
        have ew : Vaseda.work k last wi (c.2, i) = if 0 < wi.left then { wi with left := wi.left - 1 } else if Vaseda.holds k last wi.x c.2.a = true then Vaseda.deed k i { wi with did := wi.did ++ [i] } c.2.d else wi := by
          unfold Vaseda.work
          rw [if_neg (by rw [hh0, hb]; exact Bool.false_ne_true)]
        refine ⟨_, rfl, pl, A.line, dx, _, _, rfl, hL2.obj, T.cl, T.no _ (by simp), line_lk.left, _, _, rfl, rfl, _, rfl, ?_⟩
        refine if_iff (p := 0 < wi.left) (by rw [decide_eq_true_iff]; omega) (fun hl1 => ?_) fun hl1 => ?_
        · rw [if_pos hl1] at ew
          rw [ew]
          refine ⟨_, rfl, pl, A.line, dx, _, _, rfl, hL2.obj, T.cl, T.no _ (by simp), line_lk.left, _, _, rfl, rfl, dx, _, hL2.obj, (by show 10 < 1000; decide), ?_⟩
          have e1 : ((wi.left : Nat) : Int) - 1 = ((wi.left - 1 : Nat) : Int) := by omega
          have e2 : putF ("left_out" : Str) (V.int (((wi.left : Nat) : Int) - 1)) (lineF k last x wi.x la lb wi.gone wi.halt wi.left ld) = lineF k last x wi.x la lb wi.gone wi.halt (wi.left - 1) ld := by
            rw [e1]; exact (line_put (x := wi.x)).pLeft (wi.left - 1)
          refine ⟨_, _, rfl, kp2.trans (Keep.set (by simp)), ?_, hL2.put (w' := { wi with left := wi.left - 1 }) ap.lo e2 rfl rfl rfl, hb⟩
          exact hR2.keep (upd_ne (ne_of hR2 hL2.obj (by intro z; injection z with z; exact ap.lr z.symm)))
        · rw [if_neg hl1] at ew
          refine ⟨_, rfl, _, rfl, c.1, pl, c.2, k, last, x, wi.x, dx, la, lb, wi.gone, wi.halt, wi.left, ld, rfl, hcm.keep kp2 apt, okc, hL2.obj, _, rfl, ?_⟩
          refine if_iff (p := Vaseda.holds k last wi.x c.2.a = true) Iff.rfl (fun hh2 => ?_) fun hh2 => ?_
          · rw [if_pos hh2] at ew
            rw [ew] at stuck1 ⊢
            refine ⟨_, rfl, pl, A.line, dx, _, _, rfl, hL2.obj, T.cl, T.no _ (by simp), line_lk.done, .inl ⟨rfl, _, .of hL2.did⟩, _, rfl, ld, _, _, rfl, rfl, hL2.did, by rw [List.length_map, sizeLine_eq]; have := hw.ndid; omega, ?_⟩
            have hL3 := hL2.pushD (n := i) hL2.did
            have hR3 : RunAt A (upd H2 ld (.lst (wi.did.map (fun n : Nat => V.int n) ++ [.int i]))) pr wi.held dr ll := hR2.keep (upd_ne (ne_of hR2 hL2.did (by intro z; cases z)))
            have kp3 := kp2.trans (Keep.set (H := H2) (o := .lst (wi.did.map (fun n : Nat => V.int n) ++ [.int i])) (a := ld) (by simp))
            generalize upd H2 ld (.lst (wi.did.map (fun n : Nat => V.int n) ++ [.int i])) = H3 at hL3 hR3 kp3 ⊢
            obtain ⟨dc, ta, td, c1, c2, c3⟩ := hcm.keep kp3 apt
            refine ⟨_, rfl, _, rfl, _, rfl, _, rfl, c.1, A.cmd, dc, _, _, rfl, c1, TC.cl, TC.no _ (by simp), cmd_lk.2.2, ?_⟩
            refine ⟨pr, pl, td, i, k, last, x, { wi with did := wi.did ++ [i] }, c.2.d, dx, la, lb, ld, dr, ll, rfl, hR3, hL3, c3, okc.2, hb, (hw.x hb).1, by have := hw.npre; show wi.pre.length ≤ 16; omega, by have := hw.npost; show wi.post.length ≤ 16; omega, fun hbad H4 k4 => ?_, fun hgood H4 k4 hR4 hL4 => ?_⟩
            · exact qE (by rw [stuck1 (by rw [hbad, Bool.or_true])]; exact hbad) H4 (kp3.trans (k4.mono (by simp)))
            · exact ⟨_, _, rfl, kp3.trans (k4.mono (by simp)), hR4, hL4, hgood⟩
          · rw [if_neg hh2] at ew
            rw [ew]
            exact ⟨_, _, rfl, kp2, hR2, hL2, hb⟩
    · obtain ⟨x3, x4, rfl, kp, hR1, hL1, hb⟩ := p
      have e : workUpTo (l.map (·.2)) k last x held (l.map fun q => V.ref q.1).length = lineRun (l.map (·.2)) k last x held := by
        rw [← workUpTo_all, List.length_map, List.length_map]
      rw [e] at hR1 hL1 hb
      exact qQ hb H' kp hR1 hL1
end
end LD

namespace L2
open PySem PySem.Spec PyProof.Rows
/-! ### enumerate(list, start=1) -/
/-- the list at a, each item with its number from 1 on in a new pair -/
def ItN (K : PySem.W.Frag) (a : Addr) : It :=
  ⟨fun i H => ∃ (xs : List V) (x : V), SqL K H a xs ∧ xs[i]? = some x, fun i H v H' => ∃ T x, v = .ref T ∧ H T = none ∧ H' = upd H T (.tup [.int ((i + 1 : Nat) : Int), x]) ∧ ∀ xs, SqL K H a xs → xs[i]? = some x,
    fun i H => ∃ xs : List V, SqL K H a xs ∧ xs.length = i⟩
theorem apart_list {h : Heap} {a b : Addr} {its : Array Value} {it : Addr} {c : Int} {old : Value} (hl : h.IsList a its) (he : IsEnum h b it c old) : b ≠ a := fun z => by
  obtain ⟨o, ho, hc, _⟩ := hl
  rw [← z] at ho
  rw [show h.get? b = some _ from he] at ho
  cases ho
  injection hc with hc
  exact absurd hc (by decide)
theorem turn_num {P : Program} {w : World} {K : PySem.W.Frag} {elts : List Expr} {k_is : Nat} {tpos : Pos} (a e it : Addr) (hai : a ≠ it) :
    Turn P w K (.Tuple elts k_is tpos) (ItN K a) [e, it] e (fun i h => (∃ old, IsEnum h e it ((i + 1 : Nat) : Int) old) ∧ h.IsListIter it a i ∧ e ≠ it) where
  mem := by simp
  obj := fun i h st b hb => by
    obtain ⟨⟨old, he⟩, ⟨o, ho, hc, hd⟩, _⟩ := st
    have e' : b = e ∨ b = it := by simpa using hb
    rcases e' with z | z
    · rw [z]; exact ⟨_, he, fun v q => nomatch q⟩
    · rw [z]; exact ⟨o, ho, fun v q => by rw [hd] at q; cases q⟩
  keep := fun i h h' st k => let ⟨⟨old, he⟩, hi, hne⟩ := st; ⟨⟨old, k e (by simp) _ he⟩, hi.at fun o q => k it (by simp) o q, hne⟩
  item := by
    intro X hP hw hK hc i pins s σ H E I hf st hg
    subst hP hw hK
    obtain ⟨⟨old, he⟩, hit, hne⟩ := st
    obtain ⟨xs, x, hq, hx⟩ := hg
    obtain ⟨its, rv, p, hz⟩ := I.list hq
    obtain ⟨u, hu, ru⟩ := rv.get hx
    have hel : e < s.heap.objs.size := Heap.lt_size he
    have hil : it < s.heap.objs.size := by obtain ⟨_, q, _⟩ := hit; exact Heap.lt_size q
    have hlt : i < its.toArray.size := by
      have := (List.getElem?_eq_some_iff.mp hu).1
      simpa using this
    have hea : e ≠ a := apart_list p.isList he
    refine wpAny_pyNext_enum_itemC (Draws.list (A := X.A.in1) (I.ok.hd hc) it a hai its.toArray) he (i := i) ⟨hit, p.isList⟩ hlt hne (by simp [hne, hea]) fun y h' tk hy ho st' hT hsz hk => ?_
    have ey : y = u := by
      have : its.toArray[i]? = some y := hy
      rw [List.getElem?_toArray, hu] at this
      exact (Option.some.inj this).symm
    subst ey
    refine ⟨_, rfl, wpAny_letOwnedTupleGo_enum (s := { s with heap := h', toks := tk + 1 }) ho fun h'' he' sb => ?_⟩
    have hT2 : h''.get? s.heap.objs.size = some { cls := .type "tuple", data := .seq #[.int ((i + 1 : Nat) : Int) tk, y] } := (sb.2 _ (Nat.ne_of_gt hel)).trans hT
    have new : ObjOk X.prog X.w (upd H s.heap.objs.size (.tup [.int ((i + 1 : Nat) : Int), x])) h'' s.heap.objs.size (.tup [.int ((i + 1 : Nat) : Int), x]) :=
      ⟨by show 2 ≤ sizeLine; decide, [.int ((i + 1 : Nat) : Int) tk, y], .cons ⟨_, rfl⟩ (.cons ru .nil), ⟨_, hT2, rfl, _, rfl⟩⟩
    have I1 : Inv X pins σ (upd H s.heap.objs.size (.tup [.int ((i + 1 : Nat) : Int), x])) { s with heap := h'', toks := tk + 1 } :=
      I.turnedNew (ch := [e, it]) (fun b ob hb q => (sb.2 b (fun z => hb (by simp [z]))).trans (hk b ob (fun z => hb (by simp [z])) (fun z => hb (by simp [z])) q)) hf (Nat.le_refl _) new
    refine ⟨.ref s.heap.objs.size, _, I1, rfl, ⟨_, x, rfl, I.hok.fresh (Nat.le_refl _), rfl, fun ys hy => by rw [I.list_inj hy hq]; exact hx⟩, ⟨⟨y, ?_⟩, st'.1.at fun o q => (sb.2 it (Ne.symm hne)).trans q, hne⟩, fun b hb => ?_⟩
    · have e1 : ((i + 1 + 1 : Nat) : Int) = ((i + 1 : Nat) : Int) + 1 := by omega
      rw [e1]; exact he'
    · have hb' : b < s.heap.objs.size := by
        have e' : b = e ∨ b = it := by simpa using hb
        rcases e' with z | z
        · rw [z]; exact hel
        · rw [z]; exact hil
      rw [upd_ne (Nat.ne_of_lt hb')]
      exact (hf b hb).1
  done := by
    intro X hP hw hK hc i pins s σ H E I hf st hg
    subst hP hw hK
    obtain ⟨⟨old, he⟩, hit, hne⟩ := st
    obtain ⟨xs, hq, hx⟩ := hg
    obtain ⟨its, rv, p, hz⟩ := I.list hq
    obtain ⟨f0, f1, f2, f3, f4, f5⟩ := hf it (by simp)
    have hl : i = its.toArray.size := by rw [← hx, rv.length, List.size_toArray]
    subst hl
    exact wpAny_pyNext_enum_endD (Draws.list (A := X.A.in1) (I.ok.hd hc) it a hai its.toArray) he ⟨hit, p.isList⟩ fun h' eb => ⟨rfl, I.turned (t' := s.toks) (fun b o hb q => eb b o hb q) f0 f1 f3 f4 f5⟩
  self := fun A i s Q E st h => let ⟨⟨_, he⟩, _⟩ := st; wpAny_pyIter_enum he h
def iNum (K : PySem.W.Frag) (ta : TA) : TI := fun σ H R => ta σ H fun vs H1 => ∃ a xs, vs = [.ref a] ∧ SqL K H1 a xs ∧ R (ItN K a) H1
theorem callWith_typeK {M : Model} {A : Around} {E : Value → Shared → Prop} {s : Shared} {env : Env} {pos : Pos} {T : String} {e : Expr} {rest : List Expr} {kws : List Keyword} {Q : Value → Shared → Prop}
    (h : wpAny M A (spliced (backTo pos (starEach (e :: rest) env))) (fun vs s1 => wpAny M A (evalAll ((backToKw pos (keywordEach kws env)).map (·.2))) (fun ws s2 => wpAny M A (call (.type T) vs (((backToKw pos (keywordEach kws env)).filterMap (·.1)).zip ws)) Q E s2) E s1) E s)
    (he : backTo pos (starEach (e :: rest) env) = (false, eval e env) :: backTo pos (starEach rest env)) (hp : (backTo pos (starEach (e :: rest) env)).any (·.1) = false)
    (hall : (backToKw pos (keywordEach kws env)).all (·.1.isSome) = true) (hkw : (backToKw pos (keywordEach kws env)).any (·.1.isNone) = false) :
    wpAny M A (callWith pos (.type T) [] (backTo pos (starEach (e :: rest) env)) (backToKw pos (keywordEach kws env))) Q E s := by
  rw [he] at h hp ⊢
  unfold callWith
  refine wpAny_bind (wpAny_holding (wpAny_mono (evalArgs_kwB (Q := fun a s1 => wpAny M A (call (.type T) ([] ++ a.pos) a.kw) Q E s1) hall h) (fun a s1 h1 => wpAny_bind (wpAny_standAt ?_)) fun _ _ x => x))
  simp only [hp, hkw, Bool.or_false]
  refine wpAny_bind (wpAny_pure ?_)
  exact wpAny_bind (wpAny_mono h1 (fun r s2 hr => wpAny_bind (wpAny_holding (wpAny_point (wpAny_pure hr)))) fun _ _ x => x)
theorem pi_num {X : Cx} {e : Expr} {ta : TA} {p pos tpos kpos cpos : Pos} {elts : List Expr} {k_is j : Nat} (hg : Gl X "enumerate") (hm : X.mg "enumerate" = none) (ha : PA X [e] ta) (hs : starEach [e] X.env = [(false, eval e X.env)] := by rfl) :
    PI X (.Tuple elts k_is tpos) (.Call (.Name "enumerate" p) [e] [⟨some "start", .Constant (.int 1) j cpos, kpos⟩] pos) (iNum X.K ta) := by
  refine ⟨fun pins s σ H R I h => ?_⟩
  refine wpAny_Call_Name_kw (ld_blt I hg hm boot_enumerate ?_)
  refine callWith_typeK ?_ (by rw [hs]; rfl) (by rw [hs]; rfl) rfl rfl
  refine thn (ha.run pos pins s σ H _ I h) fun us s1 ⟨vs, H1, I1, r1, q1⟩ => ?_
  obtain ⟨a, xs, ex, hq, q⟩ := q1
  subst ex
  obtain ⟨u, rfl, ru⟩ := r1.one
  obtain rfl : u = Value.ref a := ru
  refine thn ((pk_cons (nm := some "start") (kpos := kpos) (pe_int (X := X) (i := 1) (j := j) (pos := cpos)) pk_nil).run pos pins s1 σ H1 (fun zs H2 => zs = [V.int 1] ∧ H2 = H1) I1 ⟨rfl, rfl⟩) fun ws s2 ⟨zs, H2, I2, r2, ez, eH⟩ => ?_
  subst ez eH
  obtain ⟨t1, rfl, rt⟩ := r2.one
  obtain ⟨tk, rfl⟩ := rt
  obtain ⟨its, rv, p', hz⟩ := I2.list hq
  show wpAny _ _ (call (.type "enumerate") [.ref a] [(Str.ofString "start", .int 1 tk)]) _ _ s2
  refine enum_begins_start (begins_list a its.toArray) p'.isList (by decide) (by decide) fun h' he hit hsz hk => wpAny_pyIter_enum he ?_
  have I3 : Inv X pins σ H2 { s2 with heap := h' } := I2.kept (t' := s2.toks) hk
  have hai : a ≠ s2.heap.objs.size := by
    obtain ⟨o, ho, _⟩ := p'.isList
    exact Nat.ne_of_lt (Heap.lt_size ho)
  refine ⟨s2.heap.objs.size + 1, [s2.heap.objs.size + 1, s2.heap.objs.size], _, _, H2, rfl, I3, turn_num a (s2.heap.objs.size + 1) s2.heap.objs.size hai, ⟨⟨.none, he⟩, ⟨_, hit, rfl, rfl⟩, Nat.succ_ne_self _⟩, fun b hb => ?_, q⟩
  have e' : b = s2.heap.objs.size + 1 ∨ b = s2.heap.objs.size := by simpa using hb
  have hle : s2.heap.objs.size ≤ b := by
    rcases e' with z | z
    · rw [z]; exact Nat.le_add_right _ _
    · rw [z]; exact Nat.le_refl _
  exact I2.fpOk hle (I2.hok.fresh hle)
/-- .. as a walk -/
theorem walk_num {K : PySem.W.Frag} {a : Addr} {xs : List V} : Walk (ItN K a) xs.length (fun H => SqL K H a xs) (YPair (fun i => some (.int ((i + 1 : Nat) : Int))) (fun i => xs[i]?)) := by
  refine ⟨fun i _ hi q => ⟨xs, xs[i], q, by simp [hi]⟩, fun _ q => ⟨xs, q, rfl⟩, fun i H v H' _ q y => ?_⟩
  obtain ⟨T, x, h1, h2, h3, h4⟩ := y
  exact ⟨T, .int ((i + 1 : Nat) : Int), x, h1, h2, h3, rfl, h4 xs q⟩
end L2

namespace LD
open PySem PySem.Spec PyProof.Rows L2 LN
open VasedBase (Bytes word)
open Vaseda (Deed Cmd Text Work Out swapIn lineRun outOf)
abbrev s_coming_lines : Stmt := top 82
abbrev s_coming_letters : Stmt := top 83
/-- the lines of a run, done so far -/
def LinesAt (A : Ad) (H : Hp) (ll : Addr) (t : Text) (ws : List Work) : Prop := ∃ ls : List Addr, H ll = some (.lst (ls.map V.ref)) ∧ ls.length = ws.length ∧
  ∀ i p x w, ls[i]? = some p → t[i]? = some x → ws[i]? = some w → ∃ dx la lb ld last, LineAt A H p (i + 1) last x w dx la lb ld ∧ la ≠ ll ∧ lb ≠ ll ∧ ld ≠ ll
theorem LinesAt.same {A : Ad} {H H' : Hp} {ll : Addr} {t : Text} {ws : List Work} (h : LinesAt A H ll t ws) (s : Same H H') : LinesAt A H' ll t ws := by
  obtain ⟨ls, a, b, c⟩ := h
  refine ⟨ls, s _ _ a, b, fun i p x w h1 h2 h3 => ?_⟩
  obtain ⟨dx, la, lb, ld, last, hL, n⟩ := c i p x w h1 h2 h3
  exact ⟨dx, la, lb, ld, last, hL.same s, n⟩
theorem OutsAt.ext {A : Ad} {H : Hp} {p q : Addr} {o1 o2 : List Out} {xs zs : List V} (h1 : OutsAt A H p o1) (h2 : OutsAt A H q o2) (hx : H p = some (.lst xs)) (hz : H q = some (.lst zs)) : OutsAt A (upd H p (.lst (xs ++ zs))) p (o1 ++ o2) := by
  obtain ⟨ps, a, b, k⟩ := h1
  obtain ⟨qs, a2, b2, k2⟩ := h2
  rw [a] at hx
  injection hx with hx
  injection hx with hx
  rw [a2] at hz
  injection hz with hz
  injection hz with hz
  have ne : ∀ c u, ComAt A H c u → ComAt A (upd H p (.lst (xs ++ zs))) c u := fun c u ⟨dx, e⟩ => ⟨dx, by rw [upd_ne (ne_of e a (by intro z; cases z))]; exact e⟩
  refine ⟨ps ++ qs, by rw [upd_same, ← hx, ← hz, List.map_append], by rw [b, b2, List.map_append], fun c hc => ?_⟩
  rcases List.mem_append.mp hc with hc | hc
  · exact ne _ _ (k c hc)
  · exact ne _ _ (k2 c hc)
theorem outs_take {ws : List Work} {i : Nat} {w : Work} (h : ws[i]? = some w) : outsOf (ws.take (i + 1)) = outsOf (ws.take i) ++ outOf (i + 1) w := by
  have hi := (List.getElem?_eq_some_iff.mp h).1
  rw [List.take_add_one, h]
  show outsOf (ws.take i ++ [w]) = _
  rw [outsOf_snoc, List.length_take, Nat.min_eq_left (Nat.le_of_lt hi)]
section
variable {P : Program} {w : World} {K : PySem.W.Frag} {mg : Str → Option Value} {base : Heap} {A : Ad}
def sp_coming_lines (A : Ad) : Sp := fun vs H Q _ => ∃ (pr dr ll : Addr) (held : Bytes) (t : Text) (ws : List Work), vs = [.ref pr] ∧ RunAt A H pr held dr ll ∧ LinesAt A H ll t ws ∧ ws.length ≤ t.length ∧ ws.length ≤ 24 ∧ (∀ w ∈ ws, WOk w 16) ∧
  ∀ cl H', Same H H' → OutsAt A H' cl (outsOf ws) → Q (.ref cl) H'
theorem sc_coming_lines : FnScope ["run", "coming", "line"] ["run"] (defScope s_coming_lines) := ⟨rfl, rfl, rfl, by decide +kernel, rfl, by decide +kernel, by decide +kernel⟩
theorem g_coming_lines (D : Dn K mg "coming_lines" s_coming_lines) (T : LineT K mg A) (TR : RunT K mg A) (TC : ComT K mg A) (ap : Apart A) (G3 : Gi P w K mg base 5 A.com ["self", "letters", "line_number", "command_number"] (sp_com_init A)) :
    Gd P w K mg base CX0 10 "coming_lines" ["run"] (sp_coming_lines A) := by
  obtain ⟨f, fd, m, F⟩ := D
  obtain ⟨f3, fd3, m3, b3, F3⟩ := G3
  refine ⟨f, fd, m, F.kp, F.binds (fun _ _ _ _ _ _ us hl => match us, hl with | [_], _ => rfl), F.ok sc_coming_lines (fun vs H Q E h => ?_) (fun cdv A' outer s H vs Q E hr h => ?_)⟩
  · obtain ⟨pr, dr, ll, held, t, ws, rfl, _⟩ := h; rfl
  · refine ⟨_, (L2.pss_cons (ps_set (i := 1) sc_coming_lines.nd rfl (.inl rfl) (pe_lst pa_nil)) (L2.pss_cons (ps_for PassesOwn.never rfl (pi_list (pe_fld (pv 0) rfl)) (pg_name (i := 2) sc_coming_lines.nd rfl (.inl rfl)) (L2.pss_cons (ps_expr (pe_bm PySem.F.plainAttrs_list PySem.F.slot_list_extend PySem.F.type_list_extend mt_extend (pv 1) (L2.pa_cons (pe_fld (pv 2) rfl) L2.pa_nil))) (L2.pss_cons (ps_if (pt_not (pt_val (pe_fld (pv 2) rfl))) (L2.pss_one (ps_expr (pe_bm PySem.F.plainAttrs_list PySem.F.slot_list_append PySem.F.type_list_append mt_append (pv 1) (L2.pa_cons (pe_make m3 F3 (hr.mono (by decide)) rfl TC.g b3 .nil pass0 (L2.pa_cons (pe_fld (pv 2) rfl) (L2.pa_cons (pe_fld (pv 2) rfl) (L2.pa_cons (pe_un un_neg pe_int) L2.pa_nil)))) L2.pa_nil)))) L2.pss_nil) (L2.pss_one (ps_expr (pe_bm PySem.F.plainAttrs_list PySem.F.slot_list_extend PySem.F.type_list_extend mt_extend (pv 1) (L2.pa_cons (pe_fld (pv 2) rfl) L2.pa_nil))))))) (L2.pss_one (ps_ret (pv 1))))), ?_⟩
    obtain ⟨pr, dr, ll, held, t, ws, rfl, hR, hLs, lt, l24, ok, q⟩ := h
    obtain ⟨ls, e1, e2, e3⟩ := hLs
    refine ⟨by decide, fun cl hcl => ?_⟩
    have s0 : Same H (upd H cl (.lst [])) := same_new hcl
    have lens : ∀ i, (outsOf (ws.take i)).length ≤ 800 := fun i => by
      have := outsOf_len (n := 16) (ws.take i) fun w hw => ok w (List.mem_of_mem_take hw)
      rw [List.length_take] at this
      have h2 : min i ws.length * 33 ≤ 24 * 33 := Nat.mul_le_mul_right _ (by omega)
      omega
    refine ⟨_, rfl, pr, A.run, dr, _, _, rfl, s0 _ _ hR, TR.cl, TR.no _ (by simp), run_lk.2, ll, rfl, ⟨_, .of (s0 _ _ e1)⟩, for_it (walk_list (xs := ls.map V.ref)) (fun i σ H' => ∃ x2 : Option V, σ = [some (.ref pr), some (.ref cl), x2] ∧ Same H H' ∧ OutsAt A H' cl (outsOf (ws.take i)))
      ⟨_, rfl, s0, ⟨[], by rw [upd_same]; rfl, rfl, by simp⟩⟩ (fun i σ H' _ z => ?_) (fun i v σ H1 H2 hi z y => ?_) (fun σ H' z => ?_)⟩
    · obtain ⟨_, _, sm, _⟩ := z
      exact .of (sm _ _ e1)
    · obtain ⟨x2, rfl, sm, hO⟩ := z
      obtain ⟨rfl, hv⟩ := y
      rw [List.length_map] at hi
      rw [List.getElem?_map] at hv
      obtain ⟨p, hp, rfl⟩ := Option.map_eq_some_iff.mp hv
      obtain ⟨x, hx⟩ : ∃ x, t[i]? = some x := ⟨t[i], List.getElem?_eq_getElem (by omega)⟩
      obtain ⟨w, hw⟩ : ∃ w, ws[i]? = some w := ⟨ws[i]'(by omega), List.getElem?_eq_getElem _⟩
      obtain ⟨dx, la, lb, ld, last, hL0, _⟩ := e3 i p x w hp hx hw
      have wk := ok w (List.mem_of_getElem? hw)
      have hL := hL0.same sm
      have ncl : ∀ {b o}, H b = some o → b ≠ cl := fun e => ne_of_none e hcl
      obtain ⟨xa, ea, la_len⟩ := hL.pre.len
      obtain ⟨xb, eb, lb_len⟩ := hL.post.len
      obtain ⟨xc, ec, lc_len⟩ := hO.len
      have na : la ≠ cl := by
        obtain ⟨xa0, ea0, _⟩ := hL0.pre.len
        exact ncl ea0
      have nb : lb ≠ cl := by
        obtain ⟨xb0, eb0, _⟩ := hL0.post.len
        exact ncl eb0
      have np : p ≠ cl := ncl hL0.obj
      have l1 := lens i
      have l2 := wk.npre
      have l3 := wk.npost
      refine ⟨_, rfl, .inl ⟨rfl, _, .of ec⟩, _, rfl, p, A.line, dx, _, _, rfl, hL.obj, T.cl, T.no _ (by simp), line_lk.ahead, cl, la, _, _, rfl, rfl, ec, ea, by rw [sizeLine_eq]; omega, ?_⟩
      have hO1 := hO.ext hL.pre ec ea
      have sm1 : Same H (upd H2 cl (.lst (xc ++ xa))) := Same.write hcl sm
      have c1 : upd H2 cl (.lst (xc ++ xa)) cl = some (.lst (xc ++ xa)) := upd_same
      generalize upd H2 cl (.lst (xc ++ xa)) = H3 at hO1 sm1 c1 ⊢
      have hL3 := hL0.same sm1
      refine ⟨_, rfl, p, A.line, dx, _, _, rfl, hL3.obj, T.cl, T.no _ (by simp), line_lk.gone, _, rfl, if_iff (p := ¬ w.gone = true) (by simp) (fun hg => ?k1) fun hg => ?k2⟩
      case' k1 =>
        refine ⟨_, rfl, .inl ⟨rfl, _, .of c1⟩, _, rfl, p, A.line, dx, _, _, rfl, hL3.obj, T.cl, T.no _ (by simp), line_lk.letters, _, rfl, p, A.line, dx, _, _, rfl, hL3.obj, T.cl, T.no _ (by simp), line_lk.number, _, rfl, fun p1 dp h1 h2 h3 => ?_⟩
        refine ⟨p1, dp, w.x, i + 1, -1, rfl, upd_same, fun H4 bt h5 => ⟨rfl, ?_⟩⟩
        have s4 : Same H3 H4 := Same.made h1 h2 bt
        refine ⟨cl, _, _, rfl, rfl, s4 _ _ c1, by rw [List.length_append, sizeLine_eq]; omega, ?_⟩
        have hO2 := (hO1.same s4).push (o := ⟨w.x, i + 1, none⟩) ⟨dp, h5⟩ (s4 _ _ c1)
        have sm2 : Same H (upd H4 cl (.lst (xc ++ xa ++ [.ref p1]))) := Same.write hcl (sm1.trans s4)
        have c2 : upd H4 cl (.lst (xc ++ xa ++ [.ref p1])) cl = some (.lst (xc ++ xa ++ [.ref p1])) := upd_same
        have ll2 : (xc ++ xa ++ [V.ref p1]).length ≤ 900 := by simp only [List.length_append, List.length_cons, List.length_nil]; omega
        have eo : outsOf (ws.take i) ++ w.pre ++ [⟨w.x, i + 1, none⟩] = outsOf (ws.take i) ++ (w.pre ++ (if w.gone = true then [] else [⟨w.x, i + 1, none⟩])) := by rw [if_neg hg, List.append_assoc]
        rw [eo] at hO2
        generalize upd H4 cl (.lst (xc ++ xa ++ [.ref p1])) = H5 at hO2 sm2 c2 ⊢
        generalize xc ++ xa ++ [V.ref p1] = xd at c2 ll2
      case' k2 =>
        have hO2 : OutsAt A H3 cl (outsOf (ws.take i) ++ (w.pre ++ (if w.gone = true then [] else [⟨w.x, i + 1, none⟩]))) := by
          rw [if_pos (Classical.byContradiction hg), List.append_nil]; exact hO1
        have ll2 : (xc ++ xa).length ≤ 900 := by rw [List.length_append]; omega
        have sm2 := sm1
        have c2 := c1
        generalize xc ++ xa = xd at c2 ll2
      all_goals
        have hL5 := hL0.same sm2
        obtain ⟨xb5, eb5, lb5⟩ := hL5.post.len
        refine ⟨_, rfl, .inl ⟨rfl, _, .of c2⟩, _, rfl, p, A.line, dx, _, _, rfl, hL5.obj, T.cl, T.no _ (by simp), line_lk.behind, cl, lb, _, _, rfl, rfl, c2, eb5, by rw [sizeLine_eq]; omega, _, rfl, Same.write hcl sm2, ?_⟩
        have hO3 := hO2.ext hL5.post c2 eb5
        rw [outs_take hw]
        have eo3 : outsOf (ws.take i) ++ (w.pre ++ (if w.gone = true then [] else [⟨w.x, i + 1, none⟩])) ++ w.post = outsOf (ws.take i) ++ outOf (i + 1) w := by unfold outOf; simp only [List.append_assoc]
        rw [eo3] at hO3
        exact hO3
    · obtain ⟨x2, rfl, sm, hO⟩ := z
      refine ⟨_, rfl, q cl H' sm ?_⟩
      rw [List.length_map, e2, List.take_length] at hO
      exact hO
/-- the letters of the lines that come -/
def sp_coming_letters (A : Ad) : Sp := fun vs H Q _ => ∃ (pr dr ll : Addr) (held : Bytes) (t : Text) (ws : List Work), vs = [.ref pr] ∧ RunAt A H pr held dr ll ∧ LinesAt A H ll t ws ∧ ws.length ≤ t.length ∧ ws.length ≤ 24 ∧ (∀ w ∈ ws, WOk w 16) ∧
  ∀ p H', Same H H' → H' p = some (.lst (lV ((outsOf ws).map fun o => o.x))) → Q (.ref p) H'
theorem sc_coming_letters : FnScope ["run", "line"] ["run"] (defScope s_coming_letters) := ⟨rfl, rfl, rfl, by decide +kernel, rfl, by decide +kernel, by decide +kernel⟩
theorem com_lk {x : Bytes} {k : Nat} {c : Int} : List.lookup ("letters" : Str) (comF x k c) = some (.str (bS x)) ∧ List.lookup ("line_number" : Str) (comF x k c) = some (.int k) ∧ List.lookup ("command_number" : Str) (comF x k c) = some (.int c) := by
  unfold comF
  exact ⟨by ((repeat (first | exact lk_here | refine lk_past (by decide +kernel) ?_)); first | done | rfl), by ((repeat (first | exact lk_here | refine lk_past (by decide +kernel) ?_)); first | done | rfl), by ((repeat (first | exact lk_here | refine lk_past (by decide +kernel) ?_)); first | done | rfl)⟩
theorem g_coming_letters (D : Dn K mg "coming_letters" s_coming_letters) (TC : ComT K mg A) (G1 : Gd P w K mg base CX0 10 "coming_lines" ["run"] (sp_coming_lines A)) : Gd P w K mg base CX0 15 "coming_letters" ["run"] (sp_coming_letters A) := by
  obtain ⟨f, fd, m, F⟩ := D
  obtain ⟨f1, fd1, m1, k1, b1, F1⟩ := G1
  refine ⟨f, fd, m, F.kp, F.binds (fun _ _ _ _ _ _ us hl => match us, hl with | [_], _ => rfl), F.ok sc_coming_letters (fun vs H Q E h => ?_) (fun cdv A' outer s H vs Q E hr h => ?_)⟩
  · obtain ⟨pr, dr, ll, held, t, ws, rfl, _⟩ := h; rfl
  · refine ⟨_, (L2.pss_one (ps_ret (pe_lc (te := tFld K (tVar 1) "letters") (own := [("line", 1)]) (g := gName 1) (tt := tYes) rfl sc_coming_letters.nd (pi_list (pe_call F1 (hr.mono (by decide)) rfl m1 k1 b1 .nil pass0 (L2.pa_cons (pv 0) L2.pa_nil))) (blkOk_by (N := ["run", "line"]) (sc := defScope s_coming_letters) (by decide +kernel)) (fun _ _ _ _ _ => pg_name (i := 1) sc_coming_letters.nd rfl (Or.inl rfl)) (fun _ _ _ _ _ => pts_nil)
      (fun _ _ _ _ _ => pe_fld (pv 1) rfl)))), ?_⟩
    obtain ⟨pr, dr, ll, held, t, ws, rfl, hR, hLs, lt, l24, ok, q⟩ := h
    refine ⟨_, rfl, pr, dr, ll, held, t, ws, rfl, hR, hLs, lt, l24, ok, fun cl H1 s1 hO => ?_⟩
    obtain ⟨ps, a, b, c⟩ := hO
    have len := outsOf_len (n := 16) ws ok
    have len2 : ws.length * 33 ≤ 24 * 33 := Nat.mul_le_mul_right _ l24
    have lps : ps.length = (outsOf ws).length := by rw [b, List.length_map]
    refine ⟨cl, rfl, ⟨_, .of a⟩, fun D hD => lc_mapsL (ys := lV ((outsOf ws).map fun o => o.x)) hD (.of a) (by rw [lV_length, List.length_map, List.length_map, lps]) (by rw [List.length_map, sizeLine_eq]; omega) (fun i x y H2 Q2 hx hy s2 fin => ?_) fun H2 s2 e2 => q D H2 (s1.trans s2) e2⟩
    rw [List.getElem?_map] at hx
    obtain ⟨pp, hp, rfl⟩ := Option.map_eq_some_iff.mp hx
    obtain ⟨z, hz, rfl⟩ := get_lV hy
    rw [b, List.map_map, List.getElem?_map, hp] at hz
    cases hz
    obtain ⟨dx, e⟩ := (c pp (List.mem_of_getElem? hp)).same s2
    exact ⟨_, rfl, pp.1, A.com, dx, _, _, rfl, e, TC.cl, TC.no _ (by simp), com_lk.1, fin H2 (Same.refl _)⟩
end
end LD

namespace LD
open PySem PySem.Spec PyProof.Rows L2 LN
open VasedBase (Bytes word)
open Vaseda (Deed Cmd Text Work Out swapIn lineRun outOf)
abbrev s_run_script : Stmt := top 81
theorem none_back {H H1 : Hp} {a : Addr} (s : Same H H1) (n : H1 a = none) : H a = none := by
  cases e : H a with
  | none => rfl
  | some o => rw [s _ _ e] at n; cases n
section
variable {A : Ad} {H H' : Hp}
theorem LineAt.off {p q : Addr} {k : Nat} {last : Bool} {x0 : Bytes} {w : Work} {dx la lb ld : Addr} {xs ys : List V} (h : LineAt A H p k last x0 w dx la lb ld) (hq : H q = some (.lst xs)) (na : la ≠ q) (nb : lb ≠ q) (nd : ld ≠ q) : LineAt A (upd H q (.lst ys)) p k last x0 w dx la lb ld := by
  have ins : ∀ {b C dx1 fs}, H b = some (.ins C dx1 fs) → upd H q (.lst ys) b = H b := fun e => upd_ne (ne_of e hq (by intro z; cases z))
  exact ⟨by rw [ins h.obj]; exact h.obj, h.pre.keep (upd_ne na) (fun b dx1 fs e => ins e), h.post.keep (upd_ne nb) (fun b dx1 fs e => ins e), by rw [upd_ne nd]; exact h.did, h.ab, h.ad, h.bd⟩
theorem LinesAt.but {ll r : Addr} {t : Text} {ws : List Work} {dx : Addr} {fs : List (Str × V)} (h : LinesAt A H ll t ws) (hr : H r = some (.ins A.run dx fs)) (ap : Apart A) (s : But r H H') : LinesAt A H' ll t ws := by
  obtain ⟨ls, a, b, c⟩ := h
  refine ⟨ls, s _ _ a (ne_of a hr (by intro z; cases z)), b, fun i p x w h1 h2 h3 => ?_⟩
  obtain ⟨dx, la, lb, ld, last, hL, n⟩ := c i p x w h1 h2 h3
  exact ⟨dx, la, lb, ld, last, hL.but hr (fun _ _ z => by injection z with z; exact ap.lr z.symm) (fun _ _ z => by injection z with z; exact ap.uo z) (fun _ z => by cases z) s, n⟩
theorem LinesAt.push {ll p : Addr} {t : Text} {ws : List Work} {last : Bool} {x : Bytes} {w : Work} {dx la lb ld : Addr} {xs : List V} (h : LinesAt A H ll t ws) (hx : H ll = some (.lst xs)) (hL : LineAt A H p (ws.length + 1) last x w dx la lb ld) (na : la ≠ ll) (nb : lb ≠ ll) (nd : ld ≠ ll) (ht : t[ws.length]? = some x) :
    LinesAt A (upd H ll (.lst (xs ++ [.ref p]))) ll t (ws ++ [w]) := by
  obtain ⟨ls, a, b, c⟩ := h
  rw [a] at hx
  injection hx with hx
  injection hx with hx
  refine ⟨ls ++ [p], by rw [upd_same, ← hx, List.map_append]; rfl, by rw [List.length_append, List.length_append, b]; rfl, fun i p' x' w' h1 h2 h3 => ?_⟩
  by_cases hi : i < ws.length
  · rw [List.getElem?_append_left (by omega)] at h1 h3
    obtain ⟨dx1, la1, lb1, ld1, last1, hL1, n1, n2, n3⟩ := c i p' x' w' h1 h2 h3
    exact ⟨dx1, la1, lb1, ld1, last1, hL1.off a n1 n2 n3, n1, n2, n3⟩
  · have hi2 : i = ws.length := by
      have := (List.getElem?_eq_some_iff.mp h3).1
      rw [List.length_append, List.length_singleton] at this
      omega
    subst hi2
    rw [List.getElem?_append_right (by omega), b] at h1
    rw [List.getElem?_append_right (by omega)] at h3
    simp at h1 h3
    subst h1 h3
    rw [ht] at h2
    cases h2
    exact ⟨dx, la, lb, ld, last, hL.off a na nb nd, na, nb, nd⟩
end
section
variable {P : Program} {w : World} {K : PySem.W.Frag} {mg : Str → Option Value} {base : Heap} {A : Ad}
def sp_run_script (A : Ad) : Sp := fun vs H Q E => ∃ (cs tx : Addr) (s : Vaseda.Script) (t : Text), vs = [.ref cs, .ref tx] ∧ CmdsAt A H cs s ∧ (∀ c ∈ s, CmdOk c) ∧ s.length ≤ 16 ∧ H tx = some (.lst (lV t)) ∧ t.length ≤ 24 ∧ (∀ x ∈ t, Letters x) ∧
  (Vaseda.run s t = none → XE A.tM E (Same H)) ∧
  (∀ ws held pr dr ll H', Vaseda.run s t = some ⟨outsOf ws, held⟩ → Done s t t.length ws held → (outsOf ws).length ≤ 60 → Same H H' → RunAt A H' pr held dr ll → LinesAt A H' ll t ws → Q (.ref pr) H')
theorem sc_run_script : FnScope ["commands", "text", "run", "number", "letters", "line"] ["commands", "text"] (defScope s_run_script) := ⟨rfl, rfl, rfl, by decide +kernel, rfl, by decide +kernel, by decide +kernel⟩
theorem g_run_script (D : Dn K mg "run_script" s_run_script) (TX : Txt K mg) (TM : XTxt K mg "TooMuch" A.tM) (T : LineT K mg A) (TR : RunT K mg A) (ap : Apart A) (G1 : Gi P w K mg base 5 A.run ["self"] (sp_run_init A)) (G2 : Gi P w K mg base 5 A.line ["self", "number", "is_last", "letters"] (sp_line_init A))
    (G3 : Gd P w K mg base (L2.CX P w) 15 "run_line" ["run", "line", "commands"] (sp_run_line A)) (G4 : Gd P w K mg base CX0 10 "coming_lines" ["run"] (sp_coming_lines A)) : Gd P w K mg base (L2.CX P w) 20 "run_script" ["commands", "text"] (sp_run_script A) := by
  obtain ⟨f, fd, m, F⟩ := D
  obtain ⟨f1, fd1, m1, b1, F1⟩ := G1
  obtain ⟨f2, fd2, m2, b2, F2⟩ := G2
  obtain ⟨f3, fd3, m3, k3, b3, F3⟩ := G3
  obtain ⟨f4, fd4, m4, k4, b4, F4⟩ := G4
  refine ⟨f, fd, m, F.kp, F.binds (fun _ _ _ _ _ _ us hl => match us, hl with | [_, _], _ => rfl), F.okX sc_run_script (fun vs H Q E h => ?_) (fun cdv A' outer s H vs Q E hr h => ?_)⟩
  · obtain ⟨cs, tx, s, t, rfl, _⟩ := h; rfl
  · refine ⟨_, (L2.pss_cons (ps_set (i := 2) sc_run_script.nd rfl (.inl rfl) (pe_make0 m1 F1 (hr.mono (by decide)) rfl TR.g b1 .nil pass0)) (L2.pss_cons (ps_for (passes_of rfl) rfl (pi_num (by rfl) TX.enumerate (L2.pa_cons (pv 1) L2.pa_nil)) (pg_tup (n := 2) rfl (pgs_cons (pg_name (i := 3) sc_run_script.nd rfl (.inl rfl)) (pgs_cons (pg_name (i := 4) sc_run_script.nd rfl (.inl rfl)) pgs_nil))) (L2.pss_cons (ps_set (i := 5) sc_run_script.nd rfl (.inl rfl) (pe_make m2 F2 (hr.mono (by decide)) rfl T.g b2 .nil pass0 (L2.pa_cons (pv 3) (L2.pa_cons (pe_cmpR op_eq (pv 3) ((pe_callB call_len_seq (by rfl) TX.len PySem.boot_len (pa_cons (pv 1) pa_nil))) (nomark _)) (L2.pa_cons (pv 4) L2.pa_nil))))) (L2.pss_cons (ps_expr (pe_call F3 (hr.mono (by decide)) rfl m3 k3 b3 .nil (passes_call (takes_of rfl rfl rfl rfl) (fun _ _ _ _ h => h)) (L2.pa_cons (pv 2) (L2.pa_cons (pv 5) (L2.pa_cons (pv 0) L2.pa_nil))))) (L2.pss_one (ps_expr (pe_bm PySem.F.plainAttrs_list PySem.F.slot_list_append PySem.F.type_list_append mt_append (pe_fld (pv 2) rfl) (L2.pa_cons (pv 5) L2.pa_nil))))))) (L2.pss_cons (ps_if (pt_cmpR op_gt ((pe_callB call_len_seq (by rfl) TX.len PySem.boot_len (pa_cons (pe_call F4 (hr.mono (by decide)) rfl m4 k4 b4 .nil pass0 (L2.pa_cons (pv 2) L2.pa_nil)) pa_nil))) (pe_k TX.kMOST_COMING_LINES) (nomark _)) (L2.pss_one (ps_raise0 rfl TM (takes_of rfl rfl rfl rfl))) L2.pss_nil) (L2.pss_one (ps_ret (pv 2)))))), ?_⟩
    obtain ⟨cs, tx, sc, t, rfl, hC, ok, len, hT, l24, lt, qE, qQ⟩ := h
    intro pr dr hpr hdr ndr
    refine ⟨pr, dr, rfl, upd_same, fun H1 ll bt hll0 e1 e2 => ⟨rfl, ?_⟩⟩
    have s1 : Same H H1 := Same.made hpr hdr bt
    have npl : pr ≠ ll := fun z => by rw [z, e2] at e1; cases e1
    have hll : H ll = none := by
      rw [upd_ne npl.symm] at hll0
      by_cases hd : ll = dr
      · rw [hd]; exact hdr
      · rw [upd_ne hd] at hll0; exact hll0
    have hR1 : RunAt A H1 pr [] dr ll := e1
    refine ⟨_, rfl, tx, _, rfl, .of (s1 _ _ hT), for_it (walk_num (xs := lV t)) (fun i σ H' => ∃ (ws : List Work) (held : Bytes) (x3 x4 x5 : Option V), σ = [some (.ref cs), some (.ref tx), some (.ref pr), x3, x4, x5] ∧ Same H H' ∧ Done sc t i ws held ∧ RunAt A H' pr held dr ll ∧ LinesAt A H' ll t ws)
      ⟨[], [], _, _, _, rfl, s1, Done.start sc t, hR1, ⟨[], e2, rfl, fun i p x w h1 => by simp at h1⟩⟩ (fun i σ H' _ z => ?_) (fun i v σ H2 H3 hi z y => ?_) (fun σ H' z => ?_)⟩
    · obtain ⟨_, _, _, _, _, _, sm, _⟩ := z
      exact .of (sm _ _ hT)
    · obtain ⟨ws, held, x3, x4, x5, rfl, sm, dn, hR, hLs⟩ := z
      obtain ⟨Ta, x0, y0, rfl, hTa, rfl, ex, ey⟩ := y
      cases ex
      rw [lV_length] at hi
      obtain ⟨x, hx, rfl⟩ := get_lV ey
      have lx := lt x (List.mem_of_getElem? hx)
      have sT : Same H2 (upd H2 Ta (.tup [.int ((i + 1 : Nat) : Int), .str (bS x)])) := same_new hTa
      have sm3 := sm.trans sT
      have hR3 : RunAt A _ pr held dr ll := sT _ _ hR
      have hLs3 := hLs.same sT
      refine ⟨Ta, _, rfl, .of upd_same, rfl, ?_⟩
      generalize upd H2 Ta (.tup [.int ((i + 1 : Nat) : Int), .str (bS x)]) = H3 at sT sm3 hR3 hLs3 ⊢
      refine ⟨_, _, rfl, _, _, rfl, rfl, ?_⟩
      refine ⟨_, rfl, _, rfl, _, rfl, tx, _, rfl, .inl (.of (sm3 _ _ hT)), rfl, _, rfl, fun pl dp hpl hdp ndp => ?_⟩
      have elast : decide (V.int ((i + 1 : Nat) : Int) = V.int ((lV t).length : Nat)) = decide (i + 1 = t.length) := by
        rw [lV_length, decide_eq_decide]
        exact ⟨fun z => by injection z with z; omega, fun z => by rw [z]⟩
      refine ⟨pl, dp, i + 1, decide (i + 1 = t.length), x, by rw [elast]; rfl, upd_same, fun H4 la lb ld bt4 hla hlb hld hL4 => ⟨rfl, ?_⟩⟩
      have s4 : Same H3 H4 := Same.made hpl hdp bt4
      have fresh : ∀ {b}, upd (upd H3 dp (.own pl)) pl (.ins A.line dp []) b = none → H3 b = none := fun {b} e => by
        have n1 : b ≠ pl := fun z => by rw [z, upd_same] at e; cases e
        rw [upd_ne n1] at e
        have n2 : b ≠ dp := fun z => by rw [z, upd_same] at e; cases e
        rw [upd_ne n2] at e
        exact e
      have fa := fresh hla
      have fb := fresh hlb
      have fd' := fresh hld
      have sm4 := sm3.trans s4
      have hR4 : RunAt A H4 pr held dr ll := s4 _ _ hR3
      have hC4 := hC.same sm4
      have hl3 : ∃ xs, H3 ll = some (.lst xs) := by obtain ⟨ls, a, _⟩ := hLs3; exact ⟨_, a⟩
      obtain ⟨xs3, hl3⟩ := hl3
      have hcs : ∃ xs, H3 cs = some (.lst xs) := by obtain ⟨ls, a, _⟩ := hC; exact ⟨_, sm3 _ _ a⟩
      obtain ⟨xsc, hcs⟩ := hcs
      -- what the line's run leaves as it was
      have kb : ∀ {H5 : Hp}, Keep [pr, pl, la, lb, ld] H4 H5 → But pr H3 H5 := fun k b o e n => by
        refine k b o (s4 _ _ e) ?_
        simp only [List.mem_cons, List.not_mem_nil, or_false]
        rintro (z | z | z | z | z)
        · exact n z
        · rw [z, hpl] at e; cases e
        · rw [z, fa] at e; cases e
        · rw [z, fb] at e; cases e
        · rw [z, fd'] at e; cases e
      refine ⟨_, rfl, _, rfl, _, rfl, pr, pl, cs, sc, i + 1, decide (i + 1 = t.length), x, held, _, la, lb, ld, dr, ll, rfl, hR4, hL4.hold (y := held), hC4, ok, len, lx, dn.hh, ne_of_none hcs fa, ne_of_none hcs fb, ne_of_none hcs fd', fun hbad H5 k5 => ?_, fun hgood H5 k5 hR5 hL5 => ?_⟩
      · refine qE (dn.bad hx hbad) H5 fun b o e => kb k5 b o (sm3 _ _ e) (ne_of_none e hpr)
      · have b5 := kb k5
        have hLs5 := hLs3.but hR3 ap b5
        have sm5 : Same H H5 := fun b o e => b5 b o (sm3 _ _ e) (ne_of_none e hpr)
        have hl5 := b5 _ _ hl3 (ne_of hl3 hR3 (by intro z; cases z))
        have lws := dn.len
        refine ⟨_, rfl, pr, A.run, dr, _, _, rfl, hR5, TR.cl, TR.no _ (by simp), run_lk.2, .inl ⟨rfl, _, .of hl5⟩, _, rfl, ll, _, _, rfl, rfl, hl5, ?_, ?_⟩
        · obtain ⟨ls, a, b, _⟩ := hLs5
          rw [hl5] at a
          injection a with a
          injection a with a
          rw [a, List.length_map, b, lws, sizeLine_eq]; omega
        · refine ⟨ws ++ [lineRun sc (i + 1) (decide (i + 1 = t.length)) x held], _, _, _, _, rfl, Same.write hll sm5, dn.step ok hx lx hgood, hR5.keep (upd_ne (ne_of hR5 hl5 (by intro z; cases z))), ?_⟩
          rw [← lws] at hL5 ⊢
          exact hLs5.push hl5 hL5 (ne_of_none hl3 fa).symm (ne_of_none hl3 fb).symm (ne_of_none hl3 fd').symm (by rw [lws]; exact hx)
    · obtain ⟨ws, held, x3, x4, x5, rfl, sm, dn, hR, hLs⟩ := z
      rw [lV_length] at dn
      have e := dn.run
      have wk : ∀ w ∈ ws, WOk w 16 := fun w hw => (dn.ok w hw).mono len
      refine ⟨_, rfl, pr, dr, ll, held, t, ws, rfl, hR, hLs, by rw [dn.len]; exact Nat.le_refl _, by rw [dn.len]; exact l24, wk, fun cl H5 s5 hO => ?_⟩
      obtain ⟨xs, a, b⟩ := hO.len
      refine ⟨cl, _, rfl, .inl (.of a), _, _, rfl, rfl, _, rfl, ?_⟩
      rw [b]
      refine if_iff (p := 60 < (outsOf ws).length) (by rw [decide_eq_true_iff]; omega) (fun h => ?_) fun h => ?_
      · rw [if_pos h] at e
        exact qE e H5 (sm.trans s5)
      · rw [if_neg h] at e
        refine ⟨_, rfl, qQ ws held pr dr ll H5 e dn (by omega) (sm.trans s5) (s5 _ _ hR) (hLs.same s5)⟩
end
end LD

namespace LD
open PySem PySem.Spec PyProof.Rows L2 LN
open VasedBase (Bytes word)
open Vaseda (Deed Cmd Text Work Out swapIn lineRun outOf outText)
abbrev s_run_again : Stmt := top 92
abbrev s_runs_to_rest : Stmt := top 93
abbrev s_run_once : Stmt := top 94
/-! ### texts as data -/
def tD (t : Text) : List PyData := t.map fun x => .str (bS x)
theorem tD_all (K : PySem.W.Frag) (H : Hp) : ∀ t : Text, DpAll K H (lV t) (tD t)
  | [] => .nil
  | x :: r => .cons (.str _) (tD_all K H r)
theorem tD_eqv : ∀ a b : Text, PyData.eqvAll (tD a) (tD b) = decide (a = b)
  | [], [] => rfl
  | [], _ :: _ => rfl
  | _ :: _, [] => rfl
  | x :: a, y :: b => by
    show (PyData.eqv (.str (bS x)) (.str (bS y)) && PyData.eqvAll (tD a) (tD b)) = _
    rw [tD_eqv a b]
    have e : PyData.eqv (.str (bS x)) (.str (bS y)) = (bS x == bS y) := by simp only [PyData.eqv]
    rw [e, Bool.eq_iff_iff, Bool.and_eq_true, beq_iff_eq, decide_eq_true_iff, decide_eq_true_iff]
    exact ⟨fun ⟨h1, h2⟩ => by rw [bS_inj h1, h2], fun h => by injection h with h1 h2; exact ⟨by rw [h1], h2⟩⟩
theorem tD_depth : ∀ t : Text, PyData.depthAll (tD t) ≤ 1
  | [] => by simp [tD, PyData.depthAll]
  | x :: r => by
    have := tD_depth r
    show PyData.depthAll (.str (bS x) :: tD r) ≤ 1
    simp only [PyData.depthAll, PyData.depth]
    omega
theorem str_ok (x : Bytes) : PyData.canLay0 (.str (bS x)) = true := by
  show (bN x).toArray.all (fun c => decide (c < 0x110000)) = true
  rw [List.all_toArray, List.all_eq_true]
  intro c hc
  unfold bN at hc
  obtain ⟨b, _, rfl⟩ := List.mem_map.mp hc
  exact decide_eq_true (Nat.lt_trans b.toNat_lt (by decide))
theorem tD_lay : ∀ {t : Text}, (∀ x ∈ t, Letters x) → PyData.canLayAll0 (tD t) = true
  | [], _ => by simp [tD, PyData.canLayAll0]
  | x :: r, h => by
    show PyData.canLayAll0 (.str (bS x) :: tD r) = true
    simp only [PyData.canLayAll0, Bool.and_eq_true]
    exact ⟨str_ok x, tD_lay fun y hy => h y (List.mem_cons_of_mem _ hy)⟩
theorem tD_shaped {t : Text} (h : ∀ x ∈ t, Letters x) : SeqAt.shaped (.list (tD t)) = true := by
  unfold SeqAt.shaped
  rw [Bool.and_eq_true, decide_eq_true_iff]
  refine ⟨by simp only [PyData.canLay0]; exact tD_lay h, ?_⟩
  have := tD_depth t
  simp only [PyData.depth]
  omega
end LD

namespace LD
open PySem PySem.Spec PyProof.Rows L2 LN
open VasedBase (Bytes word)
open Vaseda (Deed Cmd Text Work Out swapIn lineRun outOf outText)
/-- one run more -/
def once (s : Vaseda.Script) (t : Text) : Option Text := if 24 < t.length then none else (Vaseda.run s t).map outText
theorem again_step (s : Vaseda.Script) (n : Nat) (t : Text) : Vaseda.again s (n + 1) t = (once s t).bind (Vaseda.again s n) := by
  unfold once
  show (if 24 < t.length then none else (Vaseda.run s t).bind fun r => Vaseda.again s n (outText r)) = _
  by_cases h : 24 < t.length
  · rw [if_pos h, if_pos h]; rfl
  · rw [if_neg h, if_neg h]
    cases Vaseda.run s t <;> rfl
theorem rest_step (s : Vaseda.Script) (f n : Nat) (t : Text) : Vaseda.restBy s (f + 1) n t = (once s t).bind fun u => if u = t then some (some n) else Vaseda.restBy s f (n + 1) u := by
  unfold once
  show (if 24 < t.length then none else (Vaseda.run s t).bind fun r => if outText r = t then some (some n) else Vaseda.restBy s f (n + 1) (outText r)) = _
  by_cases h : 24 < t.length
  · rw [if_pos h, if_pos h]; rfl
  · rw [if_neg h, if_neg h]
    cases Vaseda.run s t <;> rfl
/-- a text by now: its lines are letters, not too many -/
def TextOk (t : Text) : Prop := (∀ x ∈ t, Letters x) ∧ t.length ≤ 60
section
variable {P : Program} {w : World} {K : PySem.W.Frag} {mg : Str → Option Value} {base : Heap} {A : Ad}
def sp_run_once (A : Ad) : Sp := fun vs H Q E => ∃ (cs tx : Addr) (s : Vaseda.Script) (t : Text), vs = [.ref cs, .ref tx] ∧ CmdsAt A H cs s ∧ (∀ c ∈ s, CmdOk c) ∧ s.length ≤ 16 ∧ H tx = some (.lst (lV t)) ∧ TextOk t ∧
  (once s t = none → XE A.tM E (Same H)) ∧ (∀ u p H', once s t = some u → Same H H' → H' p = some (.lst (lV u)) → TextOk u → Q (.ref p) H')
theorem sc_run_once : FnScope ["commands", "text"] ["commands", "text"] (defScope s_run_once) := ⟨rfl, rfl, rfl, by decide +kernel, rfl, by decide +kernel, by decide +kernel⟩
theorem g_run_once (D : Dn K mg "run_once" s_run_once) (TX : Txt K mg) (TM : XTxt K mg "TooMuch" A.tM) (G1 : Gd P w K mg base (L2.CX P w) 20 "run_script" ["commands", "text"] (sp_run_script A)) (G2 : Gd P w K mg base CX0 15 "coming_letters" ["run"] (sp_coming_letters A)) :
    Gd P w K mg base (L2.CX P w) 25 "run_once" ["commands", "text"] (sp_run_once A) := by
  obtain ⟨f, fd, m, F⟩ := D
  obtain ⟨f1, fd1, m1, k1, b1, F1⟩ := G1
  obtain ⟨f2, fd2, m2, k2, b2, F2⟩ := G2
  refine ⟨f, fd, m, F.kp, F.binds (fun _ _ _ _ _ _ us hl => match us, hl with | [_, _], _ => rfl), F.okX sc_run_once (fun vs H Q E h => ?_) (fun cdv A' outer s H vs Q E hr h => ?_)⟩
  · obtain ⟨cs, tx, s, t, rfl, _⟩ := h; rfl
  · refine ⟨_, (L2.pss_cons (ps_if (pt_cmpR op_gt ((pe_callB call_len_seq (by rfl) TX.len PySem.boot_len (pa_cons (pv 1) pa_nil))) (pe_k TX.kMOST_TEXT_LINES) (nomark _)) (L2.pss_one (ps_raise0 rfl TM (takes_of rfl rfl rfl rfl))) L2.pss_nil) (L2.pss_one (ps_ret (pe_call F2 (hr.mono (by decide)) rfl m2 k2 b2 .nil pass0 (L2.pa_cons (pe_call F1 (hr.mono (by decide)) rfl m1 k1 b1 .nil (passes_call (takes_of rfl rfl rfl rfl) (fun _ _ _ _ h => h)) (L2.pa_cons (pv 0) (L2.pa_cons (pv 1) L2.pa_nil))) L2.pa_nil))))), ?_⟩
    obtain ⟨cs, tx, sc, t, rfl, hC, ok, len, hT, tk, qE, qQ⟩ := h
    refine ⟨_, rfl, tx, _, rfl, .inl (.of hT), _, _, rfl, rfl, _, rfl, ?_⟩
    rw [lV_length]
    refine if_iff (p := 24 < t.length) (by rw [decide_eq_true_iff]; omega) (fun h => ?_) fun h => ?_
    · exact qE (by unfold once; rw [if_pos h]) H (Same.refl _)
    · have eo : once sc t = (Vaseda.run sc t).map outText := by unfold once; rw [if_neg h]
      refine ⟨_, rfl, _, rfl, cs, tx, sc, t, rfl, hC, ok, len, hT, by omega, tk.1, fun hn => qE (by rw [eo, hn]; rfl), fun ws held pr dr ll H1 er dn l60 s1 hR hLs => ?_⟩
      refine ⟨pr, dr, ll, held, t, ws, rfl, hR, hLs, by rw [dn.len]; exact Nat.le_refl _, by rw [dn.len]; omega, fun w hw => (dn.ok w hw).mono len, fun p H2 s2 e2 => ?_⟩
      refine qQ ((outsOf ws).map fun o => o.x) p H2 (by rw [eo, er]; rfl) (s1.trans s2) e2 ⟨fun x hx => ?_, by rw [List.length_map]; exact l60⟩
      obtain ⟨o, ho, rfl⟩ := List.mem_map.mp hx
      exact outs_letters dn o ho
/-! ### again -/
def sp_run_again (A : Ad) : Sp := fun vs H Q E => ∃ (cs tx : Addr) (s : Vaseda.Script) (t : Text) (n : Nat), vs = [.ref cs, .ref tx, .int n] ∧ CmdsAt A H cs s ∧ (∀ c ∈ s, CmdOk c) ∧ s.length ≤ 16 ∧ H tx = some (.lst (lV t)) ∧ TextOk t ∧ n ≤ 10 ∧
  (Vaseda.again s n t = none → XE A.tM E (Same H)) ∧ (∀ u p H', Vaseda.again s n t = some u → Same H H' → H' p = some (.lst (lV u)) → TextOk u → Q (.ref p) H')
theorem sc_run_again : FnScope ["commands", "text", "runs", "done"] ["commands", "text", "runs"] (defScope s_run_again) := ⟨rfl, rfl, rfl, by decide +kernel, rfl, by decide +kernel, by decide +kernel⟩
theorem g_run_again (D : Dn K mg "run_again" s_run_again) (TX : Txt K mg) (G1 : Gd P w K mg base (L2.CX P w) 25 "run_once" ["commands", "text"] (sp_run_once A)) : Gd P w K mg base (L2.CX P w) 30 "run_again" ["commands", "text", "runs"] (sp_run_again A) := by
  obtain ⟨f, fd, m, F⟩ := D
  obtain ⟨f1, fd1, m1, k1, b1, F1⟩ := G1
  refine ⟨f, fd, m, F.kp, F.binds (fun _ _ _ _ _ _ us hl => match us, hl with | [_, _, _], _ => rfl), F.okX sc_run_again (fun vs H Q E h => ?_) (fun cdv A' outer s H vs Q E hr h => ?_)⟩
  · obtain ⟨cs, tx, s, t, n, rfl, _⟩ := h; rfl
  · refine ⟨_, (L2.pss_cons (ps_for (passes_of rfl) rfl (pi_range1 (by rfl) TX.range (L2.pa_cons (pv 2) L2.pa_nil)) (pg_name (i := 3) sc_run_again.nd rfl (.inl rfl)) (L2.pss_one (ps_set (i := 1) sc_run_again.nd rfl (.inl rfl) (pe_call F1 (hr.mono (by decide)) rfl m1 k1 b1 .nil (passes_call (takes_of rfl rfl rfl rfl) (fun _ _ _ _ h => h)) (L2.pa_cons (pv 0) (L2.pa_cons (pv 1) L2.pa_nil)))))) (L2.pss_one (ps_ret (pv 1)))), ?_⟩
    obtain ⟨cs, tx, sc, t, n, rfl, hC, ok, len, hT, tk, hn, qE, qQ⟩ := h
    refine ⟨_, rfl, n, rfl, by omega, by omega, for_it walk_range (fun i σ H' => ∃ (p : Addr) (u : Text) (x3 : Option V), σ = [some (.ref cs), some (.ref p), some (.int n), x3] ∧ Same H H' ∧ H' p = some (.lst (lV u)) ∧ TextOk u ∧ Vaseda.again sc n t = Vaseda.again sc (n - i) u)
      ⟨tx, t, _, rfl, Same.refl _, hT, tk, rfl⟩ (fun _ _ _ _ _ => True.intro) (fun i v σ H1 H2 hi z y => ?_) (fun σ H' z => ?_)⟩
    · obtain ⟨p, u, x3, rfl, sm, e, uk, eq⟩ := z
      obtain ⟨rfl, rfl⟩ := y
      have hi : i < n := by simpa using hi
      have es : n - i = (n - (i + 1)) + 1 := by omega
      rw [es, again_step] at eq
      refine ⟨_, rfl, _, rfl, cs, p, sc, u, rfl, hC.same sm, ok, len, e, uk, fun hn => fun H3 s3 => qE (by rw [eq, hn]; rfl) H3 (sm.trans s3), fun u2 p2 H3 eu s3 e3 uk2 => ?_⟩
      exact ⟨p2, u2, _, rfl, sm.trans s3, e3, uk2, by rw [eq, eu]; rfl⟩
    · obtain ⟨p, u, x3, rfl, sm, e, uk, eq⟩ := z
      have e0 : n - (n : Int).toNat = 0 := by omega
      rw [e0] at eq
      exact ⟨_, rfl, qQ u p H' eq sm e uk⟩
/-! ### until it is at rest -/
def sp_runs_to_rest (A : Ad) : Sp := fun vs H Q E => ∃ (cs tx : Addr) (s : Vaseda.Script) (t : Text), vs = [.ref cs, .ref tx] ∧ CmdsAt A H cs s ∧ (∀ c ∈ s, CmdOk c) ∧ s.length ≤ 16 ∧ H tx = some (.lst (lV t)) ∧ TextOk t ∧
  (Vaseda.restBy s 11 0 t = none → XE A.tM E (Same H)) ∧ (∀ H', Vaseda.restBy s 11 0 t = some none → Same H H' → Q .non H') ∧ (∀ (n : Nat) H', Vaseda.restBy s 11 0 t = some (some n) → Same H H' → Q (.int n) H')
theorem sc_runs_to_rest : FnScope ["commands", "text", "runs", "result"] ["commands", "text"] (defScope s_runs_to_rest) := ⟨rfl, rfl, rfl, by decide +kernel, rfl, by decide +kernel, by decide +kernel⟩
theorem g_runs_to_rest (D : Dn K mg "runs_to_rest" s_runs_to_rest) (TX : Txt K mg) (G1 : Gd P w K mg base (L2.CX P w) 25 "run_once" ["commands", "text"] (sp_run_once A)) : Gd P w K mg base (L2.CX P w) 30 "runs_to_rest" ["commands", "text"] (sp_runs_to_rest A) := by
  obtain ⟨f, fd, m, F⟩ := D
  obtain ⟨f1, fd1, m1, k1, b1, F1⟩ := G1
  refine ⟨f, fd, m, F.kp, F.binds (fun _ _ _ _ _ _ us hl => match us, hl with | [_, _], _ => rfl), F.okX sc_runs_to_rest (fun vs H Q E h => ?_) (fun cdv A' outer s H vs Q E hr h => ?_)⟩
  · obtain ⟨cs, tx, s, t, rfl, _⟩ := h; rfl
  · refine ⟨_, (L2.pss_cons (ps_for (passes_of rfl) rfl (pi_range1 (by rfl) TX.range (L2.pa_cons (pe_op op_add (pe_k TX.kMOST_RUNS) pe_int) L2.pa_nil)) (pg_name (i := 2) sc_runs_to_rest.nd rfl (.inl rfl)) (L2.pss_cons (ps_set (i := 3) sc_runs_to_rest.nd rfl (.inl rfl) (pe_call F1 (hr.mono (by decide)) rfl m1 k1 b1 .nil (passes_call (takes_of rfl rfl rfl rfl) (fun _ _ _ _ h => h)) (L2.pa_cons (pv 0) (L2.pa_cons (pv 1) L2.pa_nil)))) (L2.pss_cons (ps_if (pt_cmpR (op_eqD hr.units) (pv 3) (pv 1) (nomark _)) (L2.pss_one (ps_ret (pv 2))) L2.pss_nil) (L2.pss_one (ps_set (i := 1) sc_runs_to_rest.nd rfl (.inl rfl) (pv 3)))))) (L2.pss_one (ps_ret pe_non))), ?_⟩
    obtain ⟨cs, tx, sc, t, rfl, hC, ok, len, hT, tk, qE, qN, qQ⟩ := h
    refine ⟨_, _, rfl, rfl, 11, rfl, by decide, by decide, for_it walk_range (fun i σ H' => ∃ (p : Addr) (u : Text) (x2 x3 : Option V), σ = [some (.ref cs), some (.ref p), x2, x3] ∧ Same H H' ∧ H' p = some (.lst (lV u)) ∧ TextOk u ∧ Vaseda.restBy sc 11 0 t = Vaseda.restBy sc (11 - i) i u)
      ⟨tx, t, _, _, rfl, Same.refl _, hT, tk, rfl⟩ (fun _ _ _ _ _ => True.intro) (fun i v σ H1 H2 hi z y => ?_) (fun σ H' z => ?_)⟩
    · obtain ⟨p, u, x2, x3, rfl, sm, e, uk, eq⟩ := z
      obtain ⟨rfl, rfl⟩ := y
      have hi : i < 11 := hi
      have es : 11 - i = (11 - (i + 1)) + 1 := by omega
      have e2 := rest_step sc (11 - (i + 1)) i u
      rw [← es] at e2
      rw [e2] at eq
      refine ⟨_, rfl, _, rfl, cs, p, sc, u, rfl, hC.same sm, ok, len, e, uk, fun hn => fun H3 s3 => qE (by rw [eq, hn]; rfl) H3 (sm.trans s3), fun u2 p2 H3 eu s3 e3 uk2 => ?_⟩
      rw [eu] at eq
      have eq : Vaseda.restBy sc 11 0 t = if u2 = u then some (some i) else Vaseda.restBy sc (11 - (i + 1)) (i + 1) u2 := eq
      refine ⟨_, rfl, _, rfl, .list (tD u2), .list (tD u), .lst (.of e3) (tD_all _ _ _), .lst (.of (s3 _ _ e)) (tD_all _ _ _), tD_shaped uk2.1, tD_shaped uk.1, _, rfl, ?_⟩
      have ee : PyData.eqv (.list (tD u2)) (.list (tD u)) = decide (u2 = u) := by
        have : PyData.eqv (.list (tD u2)) (.list (tD u)) = PyData.eqvAll (tD u2) (tD u) := by simp only [PyData.eqv]
        rw [this, tD_eqv]
      rw [ee]
      refine if_iff (p := u2 = u) (by rw [decide_eq_true_iff]) (fun h => ?_) fun h => ?_
      · rw [if_pos h] at eq
        refine ⟨_, rfl, ?_⟩
        have e0 : ((0 : Int) + (i : Nat)) = (i : Int) := by omega
        have q2 : Q (.int ((0 : Int) + (i : Nat))) H3 := by rw [e0]; exact qQ i H3 eq (sm.trans s3)
        exact q2
      · rw [if_neg h] at eq
        exact ⟨_, rfl, p2, u2, _, _, rfl, sm.trans s3, e3, uk2, eq⟩
    · obtain ⟨p, u, x2, x3, rfl, sm, e, uk, eq⟩ := z
      exact qN H' eq sm
end
end LD

namespace LD
open PySem PySem.Spec PyProof.Rows L2 LN
open VasedBase (Bytes word textRow)
open Vaseda (Deed Cmd Text Work Out swapIn lineRun outOf outText)
abbrev s_desk_init : Stmt := inClass (top 99) 0
abbrev s_held_commands : Stmt := inClass (top 99) 1
abbrev s_lines_answer : Stmt := top 103
abbrev s_run_told : Stmt := top 111
/-! ### the desk -/
def deskF (c : V) : List (Str × V) := [("commands", c)]
def DeskAt (A : Ad) (H : Hp) (p dx tl : Addr) : Vaseda.Obj → Prop
  | none => H p = some (.ins A.desk dx (deskF .non))
  | some s => ∃ cs, H p = some (.ins A.desk dx (deskF (.ref cs))) ∧ CmdsAt A H cs s ∧ (∀ c ∈ s, CmdOk c) ∧ s.length ≤ 16 ∧ cs ≠ tl
theorem DeskAt.same {A : Ad} {H H' : Hp} {p dx tl : Addr} : ∀ {o : Vaseda.Obj}, DeskAt A H p dx tl o → Same H H' → DeskAt A H' p dx tl o
  | none, h, s => s _ _ h
  | some _, ⟨cs, a, b, c⟩, s => ⟨cs, s _ _ a, b.same s, c⟩
theorem DeskAt.obj {A : Ad} {H : Hp} {p dx tl : Addr} : ∀ {o : Vaseda.Obj}, DeskAt A H p dx tl o → ∃ v, H p = some (.ins A.desk dx (deskF v))
  | none, h => ⟨_, h⟩
  | some _, ⟨cs, a, _⟩ => ⟨_, a⟩
theorem desk_lk {c : V} : List.lookup ("commands" : Str) (deskF c) = some c := by unfold deskF; ((repeat (first | exact lk_here | refine lk_past (by decide +kernel) ?_)); first | done | rfl)
theorem desk_put {c d : V} : putF ("commands" : Str) d (deskF c) = deskF d := by unfold deskF; ((repeat (first | exact put_here | refine put_past (by decide +kernel) ?_)); first | done | rfl)
section
variable {P : Program} {w : World} {K : PySem.W.Frag} {mg : Str → Option Value} {base : Heap} {A : Ad}
abbrev DeskT (K : PySem.W.Frag) (mg : Str → Option Value) (A : Ad) : Prop := CT K mg "Desk" A.desk ["commands"]
def sp_desk_init (A : Ad) : Sp := fun vs H Q _ => ∃ (p dx : Addr), vs = [.ref p] ∧ H p = some (.ins A.desk dx []) ∧ ∀ H', But p H H' → H' p = some (.ins A.desk dx (deskF .non)) → Q .non H'
theorem sc_desk_init : FnScope ["self"] ["self"] (defScope s_desk_init) := ⟨rfl, rfl, rfl, by decide +kernel, rfl, by decide +kernel, by decide +kernel⟩
theorem g_desk_init (D : Di K A.desk "Desk.__init__" s_desk_init) (T : DeskT K mg A) : Gi P w K mg base 5 A.desk ["self"] (sp_desk_init A) := by
  obtain ⟨f, fd, m, F⟩ := D
  refine ⟨f, fd, m, F.binds (fun _ _ _ _ _ _ us hl => match us, hl with | [_], _ => rfl), F.ok sc_desk_init (fun vs H Q E h => ?_) (fun cdv A' outer s H vs Q E hr h => ?_)⟩
  · obtain ⟨p, dx, rfl, _⟩ := h; rfl
  · refine ⟨_, (L2.pss_one (ps_fld (pv 0) pe_non rfl)), ?_⟩
    obtain ⟨p, dx, rfl, h1, q⟩ := h
    refine ⟨_, rfl, p, A.desk, dx, [], rfl, h1, T.cl, T.no _ (by simp), (by show 0 < 1000; decide), ?_⟩
    exact q _ But.upd (ins_put rfl)
def sp_held_commands (A : Ad) : Sp := fun vs H Q E => ∃ (p dx tl : Addr) (o : Vaseda.Obj), vs = [.ref p] ∧ DeskAt A H p dx tl o ∧ (o = none → XE A.nS E (Same H)) ∧ (∀ s cs, o = some s → CmdsAt A H cs s → (∀ c ∈ s, CmdOk c) → s.length ≤ 16 → Q (.ref cs) H)
theorem sc_held_commands : FnScope ["self"] ["self"] (defScope s_held_commands) := ⟨rfl, rfl, rfl, by decide +kernel, rfl, by decide +kernel, by decide +kernel⟩
theorem g_held_commands (D : Dm K A.desk "held_commands" "Desk.held_commands" s_held_commands) (T : DeskT K mg A) (TS : XTxt K mg "NoScript" A.nS) : Gm P w K mg base (L2.CX P w) 5 A.desk "held_commands" ["self"] (sp_held_commands A) := by
  obtain ⟨f, fd, m, F⟩ := D
  refine ⟨f, fd, m, F.binds (fun _ _ _ _ _ _ us hl => match us, hl with | [_], _ => rfl), F.okX sc_held_commands (fun vs H Q E h => ?_) (fun cdv A' outer s H vs Q E hr h => ?_)⟩
  · obtain ⟨p, dx, tl, o, rfl, _⟩ := h; rfl
  · refine ⟨_, (L2.pss_cons (ps_if (pt_cmpR op_isN (pe_fld (pv 0) rfl) pe_non (nomark _)) (L2.pss_one (ps_raise0 rfl TS (takes_of rfl rfl rfl rfl))) L2.pss_nil) (L2.pss_one (ps_ret (pe_fld (pv 0) rfl)))), ?_⟩
    obtain ⟨p, dx, tl, o, rfl, hD, qE, qQ⟩ := h
    cases o with
    | none =>
      have e : H p = some (.ins A.desk dx (deskF .non)) := hD
      exact ⟨_, rfl, p, A.desk, dx, _, _, rfl, e, T.cl, T.no _ (by simp), desk_lk, rfl, _, rfl, if_true_of (by decide) (qE rfl H (Same.refl _))⟩
    | some s =>
      obtain ⟨cs, e, c1, c2, c3, _⟩ := hD
      exact ⟨_, rfl, p, A.desk, dx, _, _, rfl, e, T.cl, T.no _ (by simp), desk_lk, rfl, _, rfl, if_false_of (decide_eq_false (by intro z; cases z)) ⟨_, rfl, p, A.desk, dx, _, _, rfl, e, T.cl, T.no _ (by simp), desk_lk, qQ s cs rfl c1 c2 c3⟩⟩
/-! ### a run is told -/
def sp_run_told (K : PySem.W.Frag) (A : Ad) : Sp := fun vs H Q E => ∃ (pd dx tl row : Addr) (o : Vaseda.Obj) (b : Bytes), vs = [.ref pd, .ref row] ∧ DeskAt A H pd dx tl o ∧ SqL K H row (bV b) ∧ b.length ≤ 8192 ∧
  (o = none → XE A.nS E (Same H)) ∧ (∀ s, o = some s → Vaseda.readText b = none → XE A.nT E (Same H)) ∧ (∀ s t, o = some s → Vaseda.readText b = some t → Vaseda.run s t = none → XE A.tM E (Same H)) ∧
  (∀ s t ws held pr dr ll H', o = some s → Vaseda.readText b = some t → Vaseda.run s t = some ⟨outsOf ws, held⟩ → Done s t t.length ws held → (outsOf ws).length ≤ 60 → t.length ≤ 24 → (∀ w ∈ ws, WOk w 16) → Same H H' → RunAt A H' pr held dr ll → LinesAt A H' ll t ws → Q (.ref pr) H')
theorem sc_run_told : FnScope ["desk", "row", "commands", "text"] ["desk", "row"] (defScope s_run_told) := ⟨rfl, rfl, rfl, by decide +kernel, rfl, by decide +kernel, by decide +kernel⟩
theorem g_run_told (D : Dn K mg "run_told" s_run_told) (T : DeskT K mg A) (G1 : Gm P w K mg base (L2.CX P w) 5 A.desk "held_commands" ["self"] (sp_held_commands A)) (G2 : Gd P w K mg base (L2.CX P w) 15 "read_text" ["row"] (sp_read_text K A))
    (G3 : Gd P w K mg base (L2.CX P w) 20 "run_script" ["commands", "text"] (sp_run_script A)) : Gd P w K mg base (L2.CX P w) 25 "run_told" ["desk", "row"] (sp_run_told K A) := by
  obtain ⟨f, fd, m, F⟩ := D
  obtain ⟨f1, fd1, m1, b1, F1⟩ := G1
  obtain ⟨f2, fd2, m2, k2, b2, F2⟩ := G2
  obtain ⟨f3, fd3, m3, k3, b3, F3⟩ := G3
  refine ⟨f, fd, m, F.kp, F.binds (fun _ _ _ _ _ _ us hl => match us, hl with | [_, _], _ => rfl), F.okX sc_run_told (fun vs H Q E h => ?_) (fun cdv A' outer s H vs Q E hr h => ?_)⟩
  · obtain ⟨pd, dx, tl, row, o, b, rfl, _⟩ := h; rfl
  · refine ⟨_, (L2.pss_cons (ps_set (i := 2) sc_run_told.nd rfl (.inl rfl) (pe_meth0 (pv 0) T.cl m1 F1 (hr.mono (by decide)) b1 .nil (passes_call (takes_of rfl rfl rfl rfl) (fun _ _ _ _ h => h)))) (L2.pss_cons (ps_set (i := 3) sc_run_told.nd rfl (.inl rfl) (pe_call F2 (hr.mono (by decide)) rfl m2 k2 b2 .nil (passes_call (takes_of rfl rfl rfl rfl) (fun _ _ _ _ h => h)) (L2.pa_cons (pv 1) L2.pa_nil))) (L2.pss_one (ps_ret (pe_call F3 (hr.mono (by decide)) rfl m3 k3 b3 .nil (passes_call (takes_of rfl rfl rfl rfl) (fun _ _ _ _ h => h)) (L2.pa_cons (pv 2) (L2.pa_cons (pv 3) L2.pa_nil))))))), ?_⟩
    obtain ⟨pd, dx, tl, row, o, b, rfl, hD, hS, hb, q1, q2, q3, q4⟩ := h
    obtain ⟨v, e⟩ := hD.obj
    refine ⟨_, rfl, pd, dx, _, rfl, e, rfl, pd, dx, tl, o, rfl, hD, q1, fun s cs eo hC ok len => ?_⟩
    refine ⟨_, rfl, row, b, rfl, hS, hb, q2 s eo, fun t p H1 et s1 e1 lt l24 => ?_⟩
    refine ⟨_, rfl, _, rfl, cs, p, s, t, rfl, hC.same s1, ok, len, e1, l24, lt, fun er H2 s2 => q3 s t eo et er H2 (s1.trans s2), fun ws held pr dr ll H2 er dn l60 s2 hR hLs => ?_⟩
    exact q4 s t ws held pr dr ll H2 eo et er dn l60 l24 (fun w hw => (dn.ok w hw).mono len) (s1.trans s2) hR hLs
/-! ### lines as an answer -/
def sp_lines_answer : Sp := fun vs H Q _ => ∃ (p : Addr) (t : Text), vs = [.ref p] ∧ H p = some (.lst (lV t)) ∧ TextOk t ∧ ∀ q H', Same H H' → H q = none → H' q = some (.lst (((t.length : Int) :: textRow (Vaseda.showText t)).map V.int)) → Q (.ref q) H'
theorem sc_lines_answer : FnScope ["lines", "told"] ["lines"] (defScope s_lines_answer) := ⟨rfl, rfl, rfl, by decide +kernel, rfl, by decide +kernel, by decide +kernel⟩
theorem g_lines_answer (D : Dn K mg "lines_answer" s_lines_answer) (TX : Txt K mg) (G1 : Gd P w K mg base CX0 10 "text_bytes" ["lines"] sp_text_bytes) : Gd P w K mg base CX0 15 "lines_answer" ["lines"] sp_lines_answer := by
  obtain ⟨f, fd, m, F⟩ := D
  obtain ⟨f1, fd1, m1, k1, b1, F1⟩ := G1
  refine ⟨f, fd, m, F.kp, F.binds (fun _ _ _ _ _ _ us hl => match us, hl with | [_], _ => rfl), F.ok sc_lines_answer (fun vs H Q E h => ?_) (fun cdv A' outer s H vs Q E hr h => ?_)⟩
  · obtain ⟨p, t, rfl, _⟩ := h; rfl
  · refine ⟨_, (L2.pss_cons (ps_set (i := 1) sc_lines_answer.nd rfl (.inl rfl) (pe_call F1 (hr.mono (by decide)) rfl m1 k1 b1 .nil pass0 (L2.pa_cons (pv 0) L2.pa_nil))) (L2.pss_one (ps_ret (pe_op op_cat (pe_lst (L2.pa_cons ((pe_callB call_len_seq (by rfl) TX.len PySem.boot_len (pa_cons (pv 0) pa_nil))) (L2.pa_cons ((pe_callB call_len_seq (by rfl) TX.len PySem.boot_len (pa_cons (pv 1) pa_nil))) L2.pa_nil))) (pv 1))))), ?_⟩
    obtain ⟨p, t, rfl, hp, tk, q⟩ := h
    refine ⟨_, rfl, p, t, rfl, hp, tk.1, tk.2, fun d H1 s1 e1 => ?_⟩
    have len := showText_len tk.1
    have l60 := tk.2
    refine ⟨_, rfl, p, _, rfl, .inl (.of (s1 _ _ hp)), _, rfl, d, _, rfl, .inl (.of e1), by show 2 ≤ sizeLine; decide, fun l hl => ?_⟩
    have s2 : Same H1 (upd H1 l (.lst [.int ((lV t).length : Nat), .int ((bV (Vaseda.showText t)).length : Nat)])) := same_new hl
    refine ⟨_, rfl, l, d, _, _, rfl, rfl, upd_same, s2 _ _ e1, by rw [bV_length, sizeLine_eq]; simp; omega, fun l3 hl3 => ?_⟩
    refine q l3 _ (s1.trans (s2.trans (same_new hl3))) (none_back (s1.trans s2) hl3) ?_
    rw [upd_same, lV_length, bV_length]
    unfold bV bI textRow
    rfl
end
end LD

namespace LD
open PySem PySem.Spec PyProof.Rows L2 LN
open VasedBase (Bytes word textRow one textAnswer Answer)
open Vaseda (Deed Cmd Text Work Out swapIn lineRun outOf outText withRun withText originRow touchRow nats)
open VasedaNeutral (encode)
abbrev s_answer_shown : Stmt := top 101
abbrev s_answer_run : Stmt := top 102
abbrev s_answer_origins : Stmt := top 104
abbrev s_answer_trace : Stmt := top 105
abbrev s_answer_held : Stmt := top 106
abbrev s_answer_touched : Stmt := top 107
abbrev s_touch_of : Stmt := top 108
abbrev s_answer_again : Stmt := top 109
abbrev s_answer_rest : Stmt := top 110
/-- what is due: a list, or the refusal that stands for it -/
structure Due (A : Ad) (E : XK) (Q : VK) (H : Hp) (a : List Int) : Prop where
  val : ∀ p H', Same H H' → H p = none → H' p = some (.lst (a.map V.int)) → Q (.ref p) H'
  nS : a = [-1] → XE A.nS E (Same H)
  nT : a = [-4] → XE A.nT E (Same H)
  tM : a = [-7] → XE A.tM E (Same H)
  nL : a = [-3] → XE A.nL E (Same H)
  nO : a = [-3] → XE A.nO E (Same H)
theorem withText_no {b : Bytes} {f : Text → Answer} (h : Vaseda.readText b = none) : withText b f = one (-4) := by unfold withText; rw [h]
theorem withText_ok {b : Bytes} {f : Text → Answer} {t : Text} (h : Vaseda.readText b = some t) : withText b f = f t := by unfold withText; rw [h]
theorem withRun_no {s : Vaseda.Script} {b : Bytes} {f : Text → Vaseda.Result → Answer} (h : Vaseda.readText b = none) : withRun s b f = one (-4) := withText_no h
theorem withRun_bad {s : Vaseda.Script} {b : Bytes} {f : Text → Vaseda.Result → Answer} {t : Text} (h : Vaseda.readText b = some t) (h2 : Vaseda.run s t = none) : withRun s b f = one (-7) := by
  unfold withRun; rw [withText_ok h, h2]
theorem withRun_ok {s : Vaseda.Script} {b : Bytes} {f : Text → Vaseda.Result → Answer} {t : Text} {r : Vaseda.Result} (h : Vaseda.readText b = some t) (h2 : Vaseda.run s t = some r) : withRun s b f = f t r := by
  unfold withRun; rw [withText_ok h, h2]
section
variable {P : Program} {w : World} {K : PySem.W.Frag} {mg : Str → Option Value} {base : Heap} {A : Ad}
/-- the refusals of a run -/
theorem Due.told {E : XK} {Q : VK} {H : Hp} {a : List Int} {o : Vaseda.Obj} {b : Bytes} {f : Vaseda.Script → Text → Vaseda.Result → Answer} (D : Due A E Q H a) (h0 : o = none → a = [-1]) (h1 : ∀ s, o = some s → a = encode (withRun s b (f s))) :
    (o = none → XE A.nS E (Same H)) ∧ (∀ s, o = some s → Vaseda.readText b = none → XE A.nT E (Same H)) ∧ (∀ s t, o = some s → Vaseda.readText b = some t → Vaseda.run s t = none → XE A.tM E (Same H)) :=
  ⟨fun h => D.nS (h0 h), fun s h ht => D.nT (by rw [h1 s h, withRun_no ht]; rfl), fun s t h ht hr => D.tM (by rw [h1 s h, withRun_bad ht hr]; rfl)⟩
/-- the promise of an answer about a text -/
def sp_ans (K : PySem.W.Frag) (A : Ad) (c : Bytes → Vaseda.Call) : Sp := fun vs H Q E => ∃ (pd dx tl row : Addr) (o : Vaseda.Obj) (b : Bytes), vs = [.ref pd, .ref row] ∧ DeskAt A H pd dx tl o ∧ SqL K H row (bV b) ∧ b.length ≤ 8192 ∧ Due A E Q H (encode (Vaseda.step o (c b)).2)
/-! ### shown -/
def sp_shown (A : Ad) : Sp := fun vs H Q E => ∃ (pd dx tl : Addr) (o : Vaseda.Obj), vs = [.ref pd] ∧ DeskAt A H pd dx tl o ∧ Due A E Q H (encode (Vaseda.step o .shown).2)
theorem sc_answer_shown : FnScope ["desk", "form"] ["desk"] (defScope s_answer_shown) := ⟨rfl, rfl, rfl, by decide +kernel, rfl, by decide +kernel, by decide +kernel⟩
theorem shown_bytes {s : Vaseda.Script} (ok : ∀ c ∈ s, CmdOk c) : (Vaseda.shown s).length ≤ 120 * s.length := by
  rw [← shown_flat]
  induction s with
  | nil => exact Nat.le_refl _
  | cons c r ih =>
    have ih := ih fun c hc => ok c (List.mem_cons_of_mem _ hc)
    have := showCmd_len (ok c List.mem_cons_self)
    rw [List.map_cons, List.flatten_cons, List.length_append, List.length_cons]
    omega
theorem g_answer_shown (D : Dn K mg "answer_shown" s_answer_shown) (TX : Txt K mg) (T : DeskT K mg A) (G1 : Gm P w K mg base (L2.CX P w) 5 A.desk "held_commands" ["self"] (sp_held_commands A)) (G2 : Gd P w K mg base CX0 20 "one_form" ["commands"] (sp_one_form A))
    (G3 : Gd P w K mg base CX0 5 "bytes_of" ["signs"] sp_bytes_of) : Gd P w K mg base (L2.CX P w) 35 "answer_shown" ["desk"] (sp_shown A) := by
  obtain ⟨f, fd, m, F⟩ := D
  obtain ⟨f1, fd1, m1, b1, F1⟩ := G1
  obtain ⟨f2, fd2, m2, k2, b2, F2⟩ := G2
  obtain ⟨f3, fd3, m3, k3, b3, F3⟩ := G3
  refine ⟨f, fd, m, F.kp, F.binds (fun _ _ _ _ _ _ us hl => match us, hl with | [_], _ => rfl), F.okX sc_answer_shown (fun vs H Q E h => ?_) (fun cdv A' outer s H vs Q E hr h => ?_)⟩
  · obtain ⟨pd, dx, tl, o, rfl, _⟩ := h; rfl
  · refine ⟨_, (L2.pss_cons (ps_set (i := 1) sc_answer_shown.nd rfl (.inl rfl) (pe_call F3 (hr.mono (by decide)) rfl m3 k3 b3 .nil pass0 (L2.pa_cons (pe_call F2 (hr.mono (by decide)) rfl m2 k2 b2 .nil pass0 (L2.pa_cons (pe_meth0 (pv 0) T.cl m1 F1 (hr.mono (by decide)) b1 .nil (passes_call (takes_of rfl rfl rfl rfl) (fun _ _ _ _ h => h))) L2.pa_nil)) L2.pa_nil))) (L2.pss_one (ps_ret (pe_op op_cat (pe_lst (L2.pa_cons ((pe_callB call_len_seq (by rfl) TX.len PySem.boot_len (pa_cons (pv 1) pa_nil))) L2.pa_nil)) (pv 1))))), ?_⟩
    obtain ⟨pd, dx, tl, o, rfl, hD, du⟩ := h
    obtain ⟨v, e⟩ := hD.obj
    refine ⟨_, rfl, pd, dx, _, rfl, e, rfl, pd, dx, tl, o, rfl, hD, fun ho => du.nS (by rw [ho]; rfl), fun s cs eo hC ok len => ?_⟩
    subst eo
    refine ⟨cs, s, rfl, hC, ok, len, fun H1 s1 => ?_⟩
    have l1 := shown_bytes ok
    refine ⟨Vaseda.shown s, rfl, by rw [sizeLine_eq]; omega, fun d H2 s2 e2 => ?_⟩
    refine ⟨_, rfl, d, _, rfl, .inl (.of e2), by show 1 ≤ sizeLine; decide, fun l hl => ?_⟩
    have s3 := same_new (o := .lst [V.int ((bV (Vaseda.shown s)).length : Nat)]) hl
    refine ⟨_, rfl, l, d, _, _, rfl, rfl, upd_same, s3 _ _ e2, by rw [bV_length, sizeLine_eq]; simp; omega, fun l3 hl3 => ?_⟩
    refine du.val l3 _ (s1.trans (s2.trans (s3.trans (same_new hl3)))) (none_back (s1.trans (s2.trans s3)) hl3) ?_
    rw [upd_same, bV_length]
    rfl
/-! ### run -/
theorem sc_answer_run : FnScope ["desk", "row"] ["desk", "row"] (defScope s_answer_run) := ⟨rfl, rfl, rfl, by decide +kernel, rfl, by decide +kernel, by decide +kernel⟩
theorem g_answer_run (D : Dn K mg "answer_run" s_answer_run) (G1 : Gd P w K mg base (L2.CX P w) 25 "run_told" ["desk", "row"] (sp_run_told K A)) (G2 : Gd P w K mg base CX0 15 "coming_letters" ["run"] (sp_coming_letters A)) (G3 : Gd P w K mg base CX0 15 "lines_answer" ["lines"] sp_lines_answer) :
    Gd P w K mg base (L2.CX P w) 35 "answer_run" ["desk", "row"] (sp_ans K A .run) := by
  obtain ⟨f, fd, m, F⟩ := D
  obtain ⟨f1, fd1, m1, k1, b1, F1⟩ := G1
  obtain ⟨f2, fd2, m2, k2, b2, F2⟩ := G2
  obtain ⟨f3, fd3, m3, k3, b3, F3⟩ := G3
  refine ⟨f, fd, m, F.kp, F.binds (fun _ _ _ _ _ _ us hl => match us, hl with | [_, _], _ => rfl), F.okX sc_answer_run (fun vs H Q E h => ?_) (fun cdv A' outer s H vs Q E hr h => ?_)⟩
  · obtain ⟨pd, dx, tl, row, o, b, rfl, _⟩ := h; rfl
  · refine ⟨_, (L2.pss_one (ps_ret (pe_call F3 (hr.mono (by decide)) rfl m3 k3 b3 .nil pass0 (L2.pa_cons (pe_call F2 (hr.mono (by decide)) rfl m2 k2 b2 .nil pass0 (L2.pa_cons (pe_call F1 (hr.mono (by decide)) rfl m1 k1 b1 .nil (passes_call (takes_of rfl rfl rfl rfl) (fun _ _ _ _ h => h)) (L2.pa_cons (pv 0) (L2.pa_cons (pv 1) L2.pa_nil))) L2.pa_nil)) L2.pa_nil)))), ?_⟩
    obtain ⟨pd, dx, tl, row, o, b, rfl, hD, hS, hb, du⟩ := h
    have R := du.told (o := o) (b := b) (f := fun _ _ r => ⟨(r.outs.length : Int), textRow (Vaseda.showText (outText r))⟩) (fun h => by rw [h]; rfl) (fun s h => by rw [h]; rfl)
    refine ⟨_, rfl, _, rfl, pd, dx, tl, row, o, b, rfl, hD, hS, hb, R.1, R.2.1, R.2.2, fun s t ws held pr dr ll H1 eo et er dn l60 l24 wk s1 hR hLs => ?_⟩
    subst eo
    refine ⟨pr, dr, ll, held, t, ws, rfl, hR, hLs, by rw [dn.len]; exact Nat.le_refl _, by rw [dn.len]; exact l24, wk, fun p H2 s2 e2 => ?_⟩
    refine ⟨p, _, rfl, e2, ⟨fun x hx => ?_, by rw [List.length_map]; exact l60⟩, fun q H3 s3 hq e3 => du.val q H3 (s1.trans (s2.trans s3)) (none_back (s1.trans s2) hq) ?_⟩
    · obtain ⟨o, ho, rfl⟩ := List.mem_map.mp hx
      exact outs_letters dn o ho
    · rw [e3]
      show _ = some (HO.lst ((encode (withRun s b fun _ r => ⟨(r.outs.length : Int), textRow (Vaseda.showText (outText r))⟩)).map V.int))
      rw [withRun_ok et er, List.length_map]
      rfl
end
end LD

namespace LD
open PySem PySem.Spec PyProof.Rows L2 LN
open VasedBase (Bytes word textRow one textAnswer Answer)
open Vaseda (Deed Cmd Text Work Out swapIn lineRun outOf outText withRun withText originRow touchRow nats)
open VasedaNeutral (encode)
section
variable {P : Program} {w : World} {K : PySem.W.Frag} {mg : Str → Option Value} {base : Heap} {A : Ad}
/-! ### held -/
theorem sc_answer_held : FnScope ["desk", "row", "held"] ["desk", "row"] (defScope s_answer_held) := ⟨rfl, rfl, rfl, by decide +kernel, rfl, by decide +kernel, by decide +kernel⟩
theorem g_answer_held (D : Dn K mg "answer_held" s_answer_held) (TX : Txt K mg) (TR : RunT K mg A) (G1 : Gd P w K mg base (L2.CX P w) 25 "run_told" ["desk", "row"] (sp_run_told K A)) (G2 : Gd P w K mg base CX0 5 "bytes_of" ["signs"] sp_bytes_of) :
    Gd P w K mg base (L2.CX P w) 35 "answer_held" ["desk", "row"] (sp_ans K A .held) := by
  obtain ⟨f, fd, m, F⟩ := D
  obtain ⟨f1, fd1, m1, k1, b1, F1⟩ := G1
  obtain ⟨f2, fd2, m2, k2, b2, F2⟩ := G2
  refine ⟨f, fd, m, F.kp, F.binds (fun _ _ _ _ _ _ us hl => match us, hl with | [_, _], _ => rfl), F.okX sc_answer_held (fun vs H Q E h => ?_) (fun cdv A' outer s H vs Q E hr h => ?_)⟩
  · obtain ⟨pd, dx, tl, row, o, b, rfl, _⟩ := h; rfl
  · refine ⟨_, (L2.pss_cons (ps_set (i := 2) sc_answer_held.nd rfl (.inl rfl) (pe_call F2 (hr.mono (by decide)) rfl m2 k2 b2 .nil pass0 (L2.pa_cons (pe_fld (pe_call F1 (hr.mono (by decide)) rfl m1 k1 b1 .nil (passes_call (takes_of rfl rfl rfl rfl) (fun _ _ _ _ h => h)) (L2.pa_cons (pv 0) (L2.pa_cons (pv 1) L2.pa_nil))) rfl) L2.pa_nil))) (L2.pss_one (ps_ret (pe_op op_cat (pe_lst (L2.pa_cons ((pe_callB call_len_seq (by rfl) TX.len PySem.boot_len (pa_cons (pv 2) pa_nil))) L2.pa_nil)) (pv 2))))), ?_⟩
    obtain ⟨pd, dx, tl, row, o, b, rfl, hD, hS, hb, du⟩ := h
    have R := du.told (o := o) (b := b) (f := fun _ _ r => textAnswer r.held) (fun h => by rw [h]; rfl) (fun s h => by rw [h]; rfl)
    refine ⟨_, rfl, _, rfl, pd, dx, tl, row, o, b, rfl, hD, hS, hb, R.1, R.2.1, R.2.2, fun s t ws held pr dr ll H1 eo et er dn l60 l24 wk s1 hR hLs => ?_⟩
    subst eo
    have hh := dn.hh.1
    refine ⟨pr, A.run, dr, _, _, rfl, hR, TR.cl, TR.no _ (by simp), run_lk.1, held, rfl, by rw [sizeLine_eq]; omega, fun d H2 s2 e2 => ?_⟩
    refine ⟨_, rfl, d, _, rfl, .inl (.of e2), by show 1 ≤ sizeLine; decide, fun l hl => ?_⟩
    have s3 := same_new (o := .lst [V.int ((bV held).length : Nat)]) hl
    refine ⟨_, rfl, l, d, _, _, rfl, rfl, upd_same, s3 _ _ e2, by rw [bV_length, sizeLine_eq]; simp; omega, fun l3 hl3 => ?_⟩
    refine du.val l3 _ (s1.trans (s2.trans (s3.trans (same_new hl3)))) (none_back (s1.trans (s2.trans s3)) hl3) ?_
    rw [upd_same, bV_length]
    show _ = some (HO.lst ((encode (withRun s b fun _ r => textAnswer r.held)).map V.int))
    rw [withRun_ok et er]
    rfl
/-! ### trace -/
def sp_trace (K : PySem.W.Frag) (A : Ad) : Sp := fun vs H Q E => ∃ (pd dx tl row : Addr) (o : Vaseda.Obj) (b : Bytes) (k : Int), vs = [.ref pd, .int k, .ref row] ∧ DeskAt A H pd dx tl o ∧ SqL K H row (bV b) ∧ b.length ≤ 8192 ∧ Due A E Q H (encode (Vaseda.step o (.trace k b)).2)
theorem sc_answer_trace : FnScope ["desk", "k", "row", "run", "done"] ["desk", "k", "row"] (defScope s_answer_trace) := ⟨rfl, rfl, rfl, by decide +kernel, rfl, by decide +kernel, by decide +kernel⟩
def traceA (k : Int) (n : Nat) (ws : List Work) : Answer := match (VasedBase.index (k - 1) n).bind fun j => ws[j]? with
  | none => one (-3)
  | some w => ⟨(w.did.length : Int), nats w.did⟩
theorem trace_out {k : Int} {n : Nat} {ws : List Work} (h : k < 1 ∨ (n : Int) < k) : traceA k n ws = one (-3) := by
  unfold traceA VasedBase.index
  rw [if_neg (by omega)]
  rfl
theorem trace_in {k : Int} {n : Nat} {ws : List Work} {w : Work} (h1 : 1 ≤ k) (h2 : k ≤ (n : Int)) (hw : ws[(k - 1).toNat]? = some w) : traceA k n ws = ⟨(w.did.length : Int), nats w.did⟩ := by
  unfold traceA VasedBase.index
  rw [if_pos (by omega)]
  show (match ws[(k - 1).toNat]? with | none => _ | some w => _) = _
  rw [hw]
theorem g_answer_trace (D : Dn K mg "answer_trace" s_answer_trace) (TX : Txt K mg) (T : LineT K mg A) (TR : RunT K mg A) (TL : XTxt K mg "NoSuchLine" A.nL) (G1 : Gd P w K mg base (L2.CX P w) 25 "run_told" ["desk", "row"] (sp_run_told K A)) :
    Gd P w K mg base (L2.CX P w) 35 "answer_trace" ["desk", "k", "row"] (sp_trace K A) := by
  obtain ⟨f, fd, m, F⟩ := D
  obtain ⟨f1, fd1, m1, k1, b1, F1⟩ := G1
  refine ⟨f, fd, m, F.kp, F.binds (fun _ _ _ _ _ _ us hl => match us, hl with | [_, _, _], _ => rfl), F.okX sc_answer_trace (fun vs H Q E h => ?_) (fun cdv A' outer s H vs Q E hr h => ?_)⟩
  · obtain ⟨pd, dx, tl, row, o, b, k, rfl, _⟩ := h; rfl
  · refine ⟨_, (L2.pss_cons (ps_set (i := 3) sc_answer_trace.nd rfl (.inl rfl) (pe_call F1 (hr.mono (by decide)) rfl m1 k1 b1 .nil (passes_call (takes_of rfl rfl rfl rfl) (fun _ _ _ _ h => h)) (L2.pa_cons (pv 0) (L2.pa_cons (pv 2) L2.pa_nil)))) (L2.pss_cons (ps_if (PW.pt (pw_or (pt_cmpR op_lt (pv 1) pe_int (nomark _)) (pw_or1 (pt_cmpR op_gt (pv 1) ((pe_callB call_len_seq (by rfl) TX.len PySem.boot_len (pa_cons (pe_fld (pv 3) rfl) pa_nil))) (nomark _))))) (L2.pss_one (ps_raise0 rfl TL (takes_of rfl rfl rfl rfl))) L2.pss_nil) (L2.pss_cons (ps_set (i := 4) sc_answer_trace.nd rfl (.inl rfl) (pe_fld (pe_ix ix_list (pe_fld (pv 3) rfl) (pe_op op_sub (pv 1) pe_int) (fun _ _ => rfl)) rfl)) (L2.pss_one (ps_ret (pe_op op_cat (pe_lst (L2.pa_cons ((pe_callB call_len_seq (by rfl) TX.len PySem.boot_len (pa_cons (pv 4) pa_nil))) L2.pa_nil)) (pv 4))))))), ?_⟩
    obtain ⟨pd, dx, tl, row, o, b, k, rfl, hD, hS, hb, du⟩ := h
    have R := du.told (o := o) (b := b) (f := fun s t _ => traceA k t.length (Vaseda.works s t)) (fun h => by rw [h]; rfl) (fun s h => by rw [h]; rfl)
    refine ⟨_, rfl, _, rfl, pd, dx, tl, row, o, b, rfl, hD, hS, hb, R.1, R.2.1, R.2.2, fun s t ws held pr dr ll H1 eo et er dn l60 l24 wk s1 hR hLs => ?_⟩
    subst eo
    have ea : encode (Vaseda.step (some s) (.trace k b)).2 = encode (traceA k t.length ws) := by
      show encode (withRun s b fun t _ => traceA k t.length (Vaseda.works s t)) = _
      rw [withRun_ok et er, dn.end]
    rw [ea] at du
    obtain ⟨ls, e1, e2, e3⟩ := hLs
    have lw := dn.len
    have q3 : ∀ H', Same H H' → (k < 1 ∨ (t.length : Int) < k) → E (.ref A.nL) none H' := fun H' sm h => du.nL (by rw [trace_out h]; rfl) H' sm
    refine ⟨_, rfl, _, _, rfl, rfl, _, rfl, ?_⟩
    refine if_iff (p := k < 1) (by rw [decide_eq_true_iff]) (fun h => q3 H1 s1 (.inl h)) fun h => ?_
    refine ⟨_, rfl, _, rfl, pr, A.run, dr, _, _, rfl, hR, TR.cl, TR.no _ (by simp), run_lk.2, ll, _, rfl, .inl (.of e1), _, _, rfl, rfl, _, rfl, ?_⟩
    rw [List.length_map, e2, lw]
    refine if_iff (p := (t.length : Int) < k) (by rw [decide_eq_true_iff]) (fun h => q3 H1 s1 (.inr h)) fun h2 => ?_
    obtain ⟨w, hw⟩ : ∃ w, ws[(k - 1).toNat]? = some w := ⟨ws[(k - 1).toNat]'(by omega), List.getElem?_eq_getElem _⟩
    obtain ⟨p, hp⟩ : ∃ p, ls[(k - 1).toNat]? = some p := ⟨ls[(k - 1).toNat]'(by omega), List.getElem?_eq_getElem _⟩
    obtain ⟨x, hx⟩ : ∃ x, t[(k - 1).toNat]? = some x := ⟨t[(k - 1).toNat]'(by omega), List.getElem?_eq_getElem _⟩
    obtain ⟨dl, la, lb, ld, last, hL, _⟩ := e3 _ p x w hp hx hw
    rw [trace_in (by omega) (by omega) hw] at du
    have ek : k - 1 = (((k - 1).toNat : Nat) : Int) := by omega
    have hat : atI (ls.map V.ref) (k - 1) = some (V.ref p) := by
      rw [ek]
      exact atI_nat (by rw [List.getElem?_map, hp]; rfl)
    refine ⟨_, rfl, pr, A.run, dr, _, _, rfl, hR, TR.cl, TR.no _ (by simp), run_lk.2, _, rfl, _, _, rfl, rfl, ll, _, _, _, rfl, rfl, .of e1, hat, p, A.line, dl, _, _, rfl, hL.obj, T.cl, T.no _ (by simp), line_lk.done, ?_⟩
    have nd := (wk w (List.mem_of_getElem? hw)).ndid
    refine ⟨_, rfl, ld, _, rfl, .inl (.of hL.did), by show 1 ≤ sizeLine; decide, fun l hl => ?_⟩
    have s3 := same_new (o := .lst [V.int ((w.did.map fun n : Nat => V.int n).length : Nat)]) hl
    refine ⟨_, rfl, l, ld, _, _, rfl, rfl, upd_same, s3 _ _ hL.did, by rw [List.length_map, sizeLine_eq]; simp; omega, fun l3 hl3 => ?_⟩
    refine du.val l3 _ (s1.trans (s3.trans (same_new hl3))) (none_back (s1.trans s3) hl3) ?_
    rw [upd_same, List.length_map]
    show _ = some (HO.lst (((w.did.length : Int) :: nats w.did).map V.int))
    unfold nats
    rw [List.map_cons, List.map_map]
    rfl
/-! ### origins -/
theorem sc_answer_origins : FnScope ["desk", "row", "coming", "answer", "line"] ["desk", "row"] (defScope s_answer_origins) := ⟨rfl, rfl, rfl, by decide +kernel, rfl, by decide +kernel, by decide +kernel⟩
theorem origin_cOf (o : Out) : originRow o = [(o.k : Int), cOf o.c] := by
  unfold originRow cOf
  cases o.c <;> rfl
theorem origin_take {l : List Out} {i : Nat} {o : Out} (h : l[i]? = some o) : (l.take (i + 1)).flatMap originRow = (l.take i).flatMap originRow ++ [(o.k : Int), cOf o.c] := by
  rw [List.take_add_one, h, List.flatMap_append]
  show _ ++ (originRow o ++ []) = _
  rw [List.append_nil, origin_cOf]
theorem origin_len : ∀ l : List Out, (l.flatMap originRow).length = 2 * l.length
  | [] => rfl
  | o :: r => by
    rw [List.flatMap_cons, List.length_append, origin_len r, origin_cOf]
    simp
    omega
theorem g_answer_origins (D : Dn K mg "answer_origins" s_answer_origins) (TX : Txt K mg) (TC : ComT K mg A) (G1 : Gd P w K mg base (L2.CX P w) 25 "run_told" ["desk", "row"] (sp_run_told K A)) (G2 : Gd P w K mg base CX0 10 "coming_lines" ["run"] (sp_coming_lines A)) :
    Gd P w K mg base (L2.CX P w) 35 "answer_origins" ["desk", "row"] (sp_ans K A .origins) := by
  obtain ⟨f, fd, m, F⟩ := D
  obtain ⟨f1, fd1, m1, k1, b1, F1⟩ := G1
  obtain ⟨f2, fd2, m2, k2, b2, F2⟩ := G2
  refine ⟨f, fd, m, F.kp, F.binds (fun _ _ _ _ _ _ us hl => match us, hl with | [_, _], _ => rfl), F.okX sc_answer_origins (fun vs H Q E h => ?_) (fun cdv A' outer s H vs Q E hr h => ?_)⟩
  · obtain ⟨pd, dx, tl, row, o, b, rfl, _⟩ := h; rfl
  · refine ⟨_, (L2.pss_cons (ps_set (i := 2) sc_answer_origins.nd rfl (.inl rfl) (pe_call F2 (hr.mono (by decide)) rfl m2 k2 b2 .nil pass0 (L2.pa_cons (pe_call F1 (hr.mono (by decide)) rfl m1 k1 b1 .nil (passes_call (takes_of rfl rfl rfl rfl) (fun _ _ _ _ h => h)) (L2.pa_cons (pv 0) (L2.pa_cons (pv 1) L2.pa_nil))) L2.pa_nil))) (L2.pss_cons (ps_set (i := 3) sc_answer_origins.nd rfl (.inl rfl) (pe_lst (L2.pa_cons ((pe_callB call_len_seq (by rfl) TX.len PySem.boot_len (pa_cons (pv 2) pa_nil))) L2.pa_nil))) (L2.pss_cons (ps_for (passes_of rfl) rfl (pi_list (pv 2)) (pg_name (i := 4) sc_answer_origins.nd rfl (.inl rfl)) (L2.pss_cons (ps_expr (pe_bm PySem.F.plainAttrs_list PySem.F.slot_list_append PySem.F.type_list_append mt_append (pv 3) (L2.pa_cons (pe_fld (pv 4) rfl) L2.pa_nil))) (L2.pss_one (ps_expr (pe_bm PySem.F.plainAttrs_list PySem.F.slot_list_append PySem.F.type_list_append mt_append (pv 3) (L2.pa_cons (pe_fld (pv 4) rfl) L2.pa_nil)))))) (L2.pss_one (ps_ret (pv 3)))))), ?_⟩
    obtain ⟨pd, dx, tl, row, o, b, rfl, hD, hS, hb, du⟩ := h
    have R := du.told (o := o) (b := b) (f := fun _ _ r => ⟨(r.outs.length : Int), r.outs.flatMap originRow⟩) (fun h => by rw [h]; rfl) (fun s h => by rw [h]; rfl)
    refine ⟨_, rfl, _, rfl, pd, dx, tl, row, o, b, rfl, hD, hS, hb, R.1, R.2.1, R.2.2, fun s t ws held pr dr ll H1 eo et er dn l60 l24 wk s1 hR hLs => ?_⟩
    subst eo
    have ea : encode (Vaseda.step (some s) (.origins b)).2 = ((outsOf ws).length : Int) :: (outsOf ws).flatMap originRow := by
      show encode (withRun s b fun _ r => ⟨(r.outs.length : Int), r.outs.flatMap originRow⟩) = _
      rw [withRun_ok et er]
      rfl
    rw [ea] at du
    refine ⟨pr, dr, ll, held, t, ws, rfl, hR, hLs, by rw [dn.len]; exact Nat.le_refl _, by rw [dn.len]; exact l24, wk, fun cl H2 s2 hO => ?_⟩
    obtain ⟨ps, a, e, c⟩ := hO
    have lps : ps.length = (outsOf ws).length := by rw [e, List.length_map]
    refine ⟨_, rfl, cl, _, rfl, .inl (.of a), by show 1 ≤ sizeLine; decide, fun l hl => ?_⟩
    rw [List.length_map, lps]
    have s3 : Same H2 (upd H2 l (.lst [V.int ((outsOf ws).length : Nat)])) := same_new hl
    have h3 : upd H2 l (.lst [V.int ((outsOf ws).length : Nat)]) l = some (.lst [V.int ((outsOf ws).length : Nat)]) := upd_same
    generalize upd H2 l (.lst [V.int ((outsOf ws).length : Nat)]) = H3 at s3 h3 ⊢
    have s03 : Same H2 H3 := s3
    have row_len : ∀ i, ((outsOf ws).take i |>.flatMap originRow).length ≤ 120 := fun i => by
      rw [origin_len, List.length_take]; omega
    refine ⟨_, rfl, cl, rfl, ⟨_, .of (s3 _ _ a)⟩, for_it (walk_list (xs := ps.map fun q => V.ref q.1)) (fun i σ H' => ∃ x4 : Option V, σ = [some (.ref pd), some (.ref row), some (.ref cl), some (.ref l), x4] ∧ Same H2 H' ∧ H' l = some (.lst ((((outsOf ws).length : Int) :: ((outsOf ws).take i).flatMap originRow).map V.int)))
      ⟨_, rfl, s3, h3⟩ (fun i σ H' _ z => ?_) (fun i v σ H4 H5 hi z y => ?_) (fun σ H' z => ?_)⟩
    · obtain ⟨_, _, sm, _⟩ := z
      exact .of (sm _ _ a)
    · obtain ⟨x4, rfl, sm, el⟩ := z
      obtain ⟨rfl, hv⟩ := y
      rw [List.getElem?_map] at hv
      obtain ⟨pp, hp, rfl⟩ := Option.map_eq_some_iff.mp hv
      have ho : (outsOf ws)[i]? = some pp.2 := by rw [e, List.getElem?_map, hp]; rfl
      obtain ⟨dc, ec⟩ := (c pp (List.mem_of_getElem? hp)).same sm
      have npl : pp.1 ≠ l := ne_of ec el (by intro z; cases z)
      have rl := row_len i
      refine ⟨_, rfl, .inl ⟨rfl, _, .of el⟩, _, rfl, pp.1, A.com, dc, _, _, rfl, ec, TC.cl, TC.no _ (by simp), com_lk.2.1, l, _, _, rfl, rfl, el, by rw [List.length_map, List.length_cons, sizeLine_eq]; omega, ?_⟩
      refine ⟨_, rfl, .inl ⟨rfl, _, .of upd_same⟩, _, rfl, pp.1, A.com, dc, _, _, rfl, by rw [upd_ne npl]; exact ec, TC.cl, TC.no _ (by simp), com_lk.2.2, l, _, _, rfl, rfl, upd_same, by rw [List.length_append, List.length_map, List.length_cons, List.length_singleton, sizeLine_eq]; omega, _, rfl, Same.write hl (Same.write hl sm), ?_⟩
      rw [upd_same, origin_take ho]
      simp
    · obtain ⟨x4, rfl, sm, el⟩ := z
      rw [List.length_map, lps, List.take_length] at el
      exact ⟨_, rfl, du.val l H' (s1.trans (s2.trans sm)) (none_back (s1.trans s2) hl) el⟩
end
end LD

namespace LD
open PySem PySem.Spec PyProof.Rows L2 LN
open VasedBase (Bytes word textRow one textAnswer Answer)
open Vaseda (Deed Cmd Text Work Out swapIn lineRun outOf outText withRun withText originRow touchRow nats)
open VasedaNeutral (encode)
section
variable {P : Program} {w : World} {K : PySem.W.Frag} {mg : Str → Option Value} {base : Heap} {A : Ad}
/-! ### touched -/
def touchN (x : Bytes) (w : Work) : Nat := if w.gone = true then 2 else if w.x = x then 0 else 1
def sp_touch_of (A : Ad) : Sp := fun vs H Q _ => ∃ (p : Addr) (k : Nat) (last : Bool) (x : Bytes) (w : Work) (dx la lb ld : Addr), vs = [.ref p] ∧ LineAt A H p k last x w dx la lb ld ∧ Q (.int (touchN x w : Nat)) H
theorem sc_touch_of : FnScope ["line"] ["line"] (defScope s_touch_of) := ⟨rfl, rfl, rfl, by decide +kernel, rfl, by decide +kernel, by decide +kernel⟩
theorem g_touch_of (D : Dn K mg "touch_of" s_touch_of) (TX : Txt K mg) (T : LineT K mg A) : Gd P w K mg base CX0 5 "touch_of" ["line"] (sp_touch_of A) := by
  obtain ⟨f, fd, m, F⟩ := D
  refine ⟨f, fd, m, F.kp, F.binds (fun _ _ _ _ _ _ us hl => match us, hl with | [_], _ => rfl), F.ok sc_touch_of (fun vs H Q E h => ?_) (fun cdv A' outer s H vs Q E hr h => ?_)⟩
  · obtain ⟨p, k, last, x, w, dx, la, lb, ld, rfl, _⟩ := h; rfl
  · refine ⟨_, (L2.pss_cons (ps_if (pt_val (pe_fld (pv 0) rfl)) (L2.pss_one (ps_ret (pe_k TX.kDOES_NOT_COME))) L2.pss_nil) (L2.pss_one (ps_ret (pe_ifExp (pt_cmpR op_eq (pe_fld (pv 0) rfl) (pe_fld (pv 0) rfl) (nomark _)) (pe_k TX.kCOMES_AS_IT_WAS) (pe_k TX.kCOMES_OTHERWISE))))), ?_⟩
    obtain ⟨p, k, last, x, w, dx, la, lb, ld, rfl, hL, q⟩ := h
    refine ⟨_, rfl, p, A.line, dx, _, _, rfl, hL.obj, T.cl, T.no _ (by simp), line_lk.gone, _, rfl, if_iff (p := w.gone = true) Iff.rfl (fun h => ?_) fun h => ?_⟩
    · have e : touchN x w = 2 := by unfold touchN; rw [if_pos h]
      rw [e] at q; exact q
    · refine ⟨_, rfl, p, A.line, dx, _, _, rfl, hL.obj, T.cl, T.no _ (by simp), line_lk.letters, _, rfl, p, A.line, dx, _, _, rfl, hL.obj, T.cl, T.no _ (by simp), line_lk.told, rfl, _, rfl, ?_⟩
      rw [beq_str]
      refine if_iff (p := w.x = x) beq_iff_eq (fun h2 => ?_) fun h2 => ?_
      · have e : touchN x w = 0 := by unfold touchN; rw [if_neg h, if_pos h2]
        rw [e] at q; exact q
      · have e : touchN x w = 1 := by unfold touchN; rw [if_neg h, if_neg h2]
        rw [e] at q; exact q
theorem touch_row (x : Bytes) (w : Work) : touchRow x w = [(touchN x w : Int), (w.pre.length : Int), (w.post.length : Int)] := rfl
theorem touch_take {t : Text} {ws : List Work} {i : Nat} {x : Bytes} {w : Work} (h1 : t[i]? = some x) (h2 : ws[i]? = some w) : ((t.zip ws).take (i + 1)).flatMap (fun x => touchRow x.1 x.2) = ((t.zip ws).take i).flatMap (fun x => touchRow x.1 x.2) ++ touchRow x w := by
  have e : (t.zip ws)[i]? = some (x, w) := by rw [List.getElem?_zip_eq_some]; exact ⟨h1, h2⟩
  rw [List.take_add_one, e, List.flatMap_append]
  show _ ++ (touchRow x w ++ []) = _
  rw [List.append_nil]
theorem touch_len : ∀ l : List (Bytes × Work), (l.flatMap fun x => touchRow x.1 x.2).length = 3 * l.length
  | [] => rfl
  | o :: r => by
    rw [List.flatMap_cons, List.length_append, touch_len r, touch_row]
    simp
    omega
theorem sc_answer_touched : FnScope ["desk", "row", "run", "answer", "line"] ["desk", "row"] (defScope s_answer_touched) := ⟨rfl, rfl, rfl, by decide +kernel, rfl, by decide +kernel, by decide +kernel⟩
theorem g_answer_touched (D : Dn K mg "answer_touched" s_answer_touched) (TX : Txt K mg) (T : LineT K mg A) (TR : RunT K mg A) (G1 : Gd P w K mg base (L2.CX P w) 25 "run_told" ["desk", "row"] (sp_run_told K A)) (G2 : Gd P w K mg base CX0 5 "touch_of" ["line"] (sp_touch_of A)) :
    Gd P w K mg base (L2.CX P w) 35 "answer_touched" ["desk", "row"] (sp_ans K A .touched) := by
  obtain ⟨f, fd, m, F⟩ := D
  obtain ⟨f1, fd1, m1, k1, b1, F1⟩ := G1
  obtain ⟨f2, fd2, m2, k2, b2, F2⟩ := G2
  refine ⟨f, fd, m, F.kp, F.binds (fun _ _ _ _ _ _ us hl => match us, hl with | [_, _], _ => rfl), F.okX sc_answer_touched (fun vs H Q E h => ?_) (fun cdv A' outer s H vs Q E hr h => ?_)⟩
  · obtain ⟨pd, dx, tl, row, o, b, rfl, _⟩ := h; rfl
  · refine ⟨_, (L2.pss_cons (ps_set (i := 2) sc_answer_touched.nd rfl (.inl rfl) (pe_call F1 (hr.mono (by decide)) rfl m1 k1 b1 .nil (passes_call (takes_of rfl rfl rfl rfl) (fun _ _ _ _ h => h)) (L2.pa_cons (pv 0) (L2.pa_cons (pv 1) L2.pa_nil)))) (L2.pss_cons (ps_set (i := 3) sc_answer_touched.nd rfl (.inl rfl) (pe_lst (L2.pa_cons ((pe_callB call_len_seq (by rfl) TX.len PySem.boot_len (pa_cons (pe_fld (pv 2) rfl) pa_nil))) L2.pa_nil))) (L2.pss_cons (ps_for (passes_of rfl) rfl (pi_list (pe_fld (pv 2) rfl)) (pg_name (i := 4) sc_answer_touched.nd rfl (.inl rfl)) (L2.pss_one (ps_expr (pe_bm PySem.F.plainAttrs_list PySem.F.slot_list_extend PySem.F.type_list_extend mt_extend (pv 3) (L2.pa_cons (pe_lst (L2.pa_cons (pe_call F2 (hr.mono (by decide)) rfl m2 k2 b2 .nil pass0 (L2.pa_cons (pv 4) L2.pa_nil)) (L2.pa_cons ((pe_callB call_len_seq (by rfl) TX.len PySem.boot_len (pa_cons (pe_fld (pv 4) rfl) pa_nil))) (L2.pa_cons ((pe_callB call_len_seq (by rfl) TX.len PySem.boot_len (pa_cons (pe_fld (pv 4) rfl) pa_nil))) L2.pa_nil)))) L2.pa_nil))))) (L2.pss_one (ps_ret (pv 3)))))), ?_⟩
    obtain ⟨pd, dx, tl, row, o, b, rfl, hD, hS, hb, du⟩ := h
    have R := du.told (o := o) (b := b) (f := fun s t _ => ⟨(t.length : Int), (t.zip (Vaseda.works s t)).flatMap fun x => touchRow x.1 x.2⟩) (fun h => by rw [h]; rfl) (fun s h => by rw [h]; rfl)
    refine ⟨_, rfl, _, rfl, pd, dx, tl, row, o, b, rfl, hD, hS, hb, R.1, R.2.1, R.2.2, fun s t ws held pr dr ll H1 eo et er dn l60 l24 wk s1 hR hLs => ?_⟩
    subst eo
    have ea : encode (Vaseda.step (some s) (.touched b)).2 = (t.length : Int) :: (t.zip ws).flatMap fun x => touchRow x.1 x.2 := by
      show encode (withRun s b fun t _ => ⟨(t.length : Int), (t.zip (Vaseda.works s t)).flatMap fun x => touchRow x.1 x.2⟩) = _
      rw [withRun_ok et er, dn.end]
      rfl
    rw [ea] at du
    obtain ⟨ls, e1, e2, e3⟩ := hLs
    have lw := dn.len
    refine ⟨_, rfl, pr, A.run, dr, _, _, rfl, hR, TR.cl, TR.no _ (by simp), run_lk.2, ll, _, rfl, .inl (.of e1), by show 1 ≤ sizeLine; decide, fun l hl => ?_⟩
    rw [List.length_map, e2, lw]
    have s3 : Same H1 (upd H1 l (.lst [V.int (t.length : Nat)])) := same_new hl
    have h3 : upd H1 l (.lst [V.int (t.length : Nat)]) l = some (.lst [V.int (t.length : Nat)]) := upd_same
    generalize upd H1 l (.lst [V.int (t.length : Nat)]) = H3 at s3 h3 ⊢
    have row_len : ∀ i, (((t.zip ws).take i).flatMap fun x => touchRow x.1 x.2).length ≤ 72 := fun i => by
      rw [touch_len, List.length_take, List.length_zip]; omega
    refine ⟨_, rfl, pr, A.run, dr, _, _, rfl, s3 _ _ hR, TR.cl, TR.no _ (by simp), run_lk.2, ll, rfl, ⟨_, .of (s3 _ _ e1)⟩, for_it (walk_list (xs := ls.map V.ref)) (fun i σ H' => ∃ x4 : Option V, σ = [some (.ref pd), some (.ref row), some (.ref pr), some (.ref l), x4] ∧ Same H1 H' ∧ H' l = some (.lst (((t.length : Int) :: ((t.zip ws).take i).flatMap fun x => touchRow x.1 x.2).map V.int)))
      ⟨_, rfl, s3, h3⟩ (fun i σ H' _ z => ?_) (fun i v σ H4 H5 hi z y => ?_) (fun σ H' z => ?_)⟩
    · obtain ⟨_, _, sm, _⟩ := z
      exact .of (sm _ _ e1)
    · obtain ⟨x4, rfl, sm, el⟩ := z
      obtain ⟨rfl, hv⟩ := y
      rw [List.length_map, e2, lw] at hi
      rw [List.getElem?_map] at hv
      obtain ⟨p, hp, rfl⟩ := Option.map_eq_some_iff.mp hv
      obtain ⟨w, hw⟩ : ∃ w, ws[i]? = some w := ⟨ws[i]'(by omega), List.getElem?_eq_getElem _⟩
      obtain ⟨x, hx⟩ : ∃ x, t[i]? = some x := ⟨t[i], List.getElem?_eq_getElem hi⟩
      obtain ⟨dl, la, lb, ld, last, hL0, _⟩ := e3 _ p x w hp hx hw
      have hL := hL0.same sm
      obtain ⟨xa, xea, xla⟩ := hL.pre.len
      obtain ⟨xb, xeb, xlb⟩ := hL.post.len
      have rl := row_len i
      refine ⟨_, rfl, .inl ⟨rfl, _, .of el⟩, _, rfl, p, i + 1, last, x, w, dl, la, lb, ld, rfl, hL, ?_⟩
      refine ⟨_, rfl, p, A.line, dl, _, _, rfl, hL.obj, T.cl, T.no _ (by simp), line_lk.ahead, la, _, rfl, .inl (.of xea), ?_⟩
      refine ⟨_, rfl, p, A.line, dl, _, _, rfl, hL.obj, T.cl, T.no _ (by simp), line_lk.behind, lb, _, rfl, .inl (.of xeb), by show 3 ≤ sizeLine; decide, fun l2 hl2 => ?_⟩
      rw [xla, xlb]
      have s5 : Same H5 (upd H5 l2 (.lst [V.int (touchN x w : Nat), V.int (w.pre.length : Nat), V.int (w.post.length : Nat)])) := same_new hl2
      refine ⟨l, l2, _, _, rfl, rfl, s5 _ _ el, upd_same, by rw [List.length_map, List.length_cons, sizeLine_eq]; simp only [List.length_cons, List.length_nil]; omega, _, rfl, Same.write hl (sm.trans s5), ?_⟩
      rw [upd_same, touch_take hx hw, touch_row]
      simp
    · obtain ⟨x4, rfl, sm, el⟩ := z
      have ez : (ls.map V.ref).length = (t.zip ws).length := by rw [List.length_map, e2, List.length_zip, lw, Nat.min_self]
      rw [ez, List.take_length] at el
      exact ⟨_, rfl, du.val l H' (s1.trans sm) (none_back s1 hl) el⟩
/-! ### again, rest -/
def sp_again (K : PySem.W.Frag) (A : Ad) : Sp := fun vs H Q E => ∃ (pd dx tl row : Addr) (o : Vaseda.Obj) (b : Bytes) (n : Int), vs = [.ref pd, .int n, .ref row] ∧ DeskAt A H pd dx tl o ∧ SqL K H row (bV b) ∧ b.length ≤ 8192 ∧ Due A E Q H (encode (Vaseda.step o (.again n b)).2)
theorem sc_answer_again : FnScope ["desk", "n", "row", "commands", "text"] ["desk", "n", "row"] (defScope s_answer_again) := ⟨rfl, rfl, rfl, by decide +kernel, rfl, by decide +kernel, by decide +kernel⟩
def againA (s : Vaseda.Script) (n : Int) (t : Text) : Answer := if n < 0 ∨ (Vaseda.TIMES : Int) < n then one (-3) else (match Vaseda.again s n.toNat t with
  | none => one (-7)
  | some u => ⟨(u.length : Int), textRow (Vaseda.showText u)⟩)
theorem again_out {s : Vaseda.Script} {n : Int} {t : Text} (h : n < 0 ∨ 10 < n) : againA s n t = one (-3) := if_pos h
theorem again_bad {s : Vaseda.Script} {n : Int} {t : Text} (h : ¬ (n < 0 ∨ 10 < n)) (h2 : Vaseda.again s n.toNat t = none) : againA s n t = one (-7) := by
  unfold againA
  rw [if_neg (show ¬ (n < 0 ∨ (Vaseda.TIMES : Int) < n) from h), h2]
theorem again_ok {s : Vaseda.Script} {n : Int} {t u : Text} (h : ¬ (n < 0 ∨ 10 < n)) (h2 : Vaseda.again s n.toNat t = some u) : againA s n t = ⟨(u.length : Int), textRow (Vaseda.showText u)⟩ := by
  unfold againA
  rw [if_neg (show ¬ (n < 0 ∨ (Vaseda.TIMES : Int) < n) from h), h2]
theorem g_answer_again (D : Dn K mg "answer_again" s_answer_again) (TX : Txt K mg) (T : DeskT K mg A) (TO : XTxt K mg "NotSoOften" A.nO) (G1 : Gm P w K mg base (L2.CX P w) 5 A.desk "held_commands" ["self"] (sp_held_commands A)) (G2 : Gd P w K mg base (L2.CX P w) 15 "read_text" ["row"] (sp_read_text K A))
    (G3 : Gd P w K mg base (L2.CX P w) 30 "run_again" ["commands", "text", "runs"] (sp_run_again A)) (G4 : Gd P w K mg base CX0 15 "lines_answer" ["lines"] sp_lines_answer) : Gd P w K mg base (L2.CX P w) 35 "answer_again" ["desk", "n", "row"] (sp_again K A) := by
  obtain ⟨f, fd, m, F⟩ := D
  obtain ⟨f1, fd1, m1, b1, F1⟩ := G1
  obtain ⟨f2, fd2, m2, k2, b2, F2⟩ := G2
  obtain ⟨f3, fd3, m3, k3, b3, F3⟩ := G3
  obtain ⟨f4, fd4, m4, k4, b4, F4⟩ := G4
  refine ⟨f, fd, m, F.kp, F.binds (fun _ _ _ _ _ _ us hl => match us, hl with | [_, _, _], _ => rfl), F.okX sc_answer_again (fun vs H Q E h => ?_) (fun cdv A' outer s H vs Q E hr h => ?_)⟩
  · obtain ⟨pd, dx, tl, row, o, b, n, rfl, _⟩ := h; rfl
  · refine ⟨_, (L2.pss_cons (ps_set (i := 3) sc_answer_again.nd rfl (.inl rfl) (pe_meth0 (pv 0) T.cl m1 F1 (hr.mono (by decide)) b1 .nil (passes_call (takes_of rfl rfl rfl rfl) (fun _ _ _ _ h => h)))) (L2.pss_cons (ps_set (i := 4) sc_answer_again.nd rfl (.inl rfl) (pe_call F2 (hr.mono (by decide)) rfl m2 k2 b2 .nil (passes_call (takes_of rfl rfl rfl rfl) (fun _ _ _ _ h => h)) (L2.pa_cons (pv 2) L2.pa_nil))) (L2.pss_cons (ps_if (PW.pt (pw_or (pt_cmpR op_lt (pv 1) pe_int (nomark _)) (pw_or1 (pt_cmpR op_gt (pv 1) (pe_k TX.kMOST_RUNS) (nomark _))))) (L2.pss_one (ps_raise0 rfl TO (takes_of rfl rfl rfl rfl))) L2.pss_nil) (L2.pss_one (ps_ret (pe_call F4 (hr.mono (by decide)) rfl m4 k4 b4 .nil pass0 (L2.pa_cons (pe_call F3 (hr.mono (by decide)) rfl m3 k3 b3 .nil (passes_call (takes_of rfl rfl rfl rfl) (fun _ _ _ _ h => h)) (L2.pa_cons (pv 3) (L2.pa_cons (pv 4) (L2.pa_cons (pv 1) L2.pa_nil)))) L2.pa_nil))))))), ?_⟩
    obtain ⟨pd, dx, tl, row, o, b, n, rfl, hD, hS, hb, du⟩ := h
    obtain ⟨v, e⟩ := hD.obj
    refine ⟨_, rfl, pd, dx, _, rfl, e, rfl, pd, dx, tl, o, rfl, hD, fun h => du.nS (by rw [h]; rfl), fun s cs eo hC ok len => ?_⟩
    subst eo
    have ea : encode (Vaseda.step (some s) (.again n b)).2 = encode (withText b (againA s n)) := rfl
    rw [ea] at du
    refine ⟨_, rfl, row, b, rfl, hS, hb, fun ht => du.nT (by rw [withText_no ht]; rfl), fun t p H1 et s1 e1 lt l24 => ?_⟩
    rw [withText_ok et] at du
    refine ⟨_, rfl, _, _, rfl, rfl, _, rfl, ?_⟩
    refine if_iff (p := n < 0) (by rw [decide_eq_true_iff]) (fun h => du.nO (by rw [again_out (.inl h)]; rfl) H1 s1) fun h => ?_
    refine ⟨_, rfl, _, _, rfl, rfl, _, rfl, ?_⟩
    refine if_iff (p := 10 < n) (by rw [decide_eq_true_iff]) (fun h => du.nO (by rw [again_out (.inr h)]; rfl) H1 s1) fun h2 => ?_
    have hno : ¬ (n < 0 ∨ 10 < n) := by omega
    have en : ((n.toNat : Nat) : Int) = n := by omega
    refine ⟨_, rfl, _, rfl, _, rfl, cs, p, s, t, n.toNat, by rw [en]; rfl, hC.same s1, ok, len, e1, ⟨lt, by omega⟩, by omega, fun h => fun H2 s2 => du.tM (by rw [again_bad hno h]; rfl) H2 (s1.trans s2), fun u q H2 eu s2 e2 uk => ?_⟩
    refine ⟨q, u, rfl, e2, uk, fun r H3 s3 hq e3 => du.val r H3 (s1.trans (s2.trans s3)) (none_back (s1.trans s2) hq) ?_⟩
    rw [again_ok hno eu]
    exact e3
theorem sc_answer_rest : FnScope ["desk", "row", "commands", "runs"] ["desk", "row"] (defScope s_answer_rest) := ⟨rfl, rfl, rfl, by decide +kernel, rfl, by decide +kernel, by decide +kernel⟩
def restA (s : Vaseda.Script) (t : Text) : Answer := match Vaseda.restBy s (Vaseda.TIMES + 1) 0 t with
  | none => one (-7)
  | some none => one 0
  | some (some n) => ⟨1, nats [n]⟩
theorem rest_bad {s : Vaseda.Script} {t : Text} (h : Vaseda.restBy s 11 0 t = none) : restA s t = one (-7) := by
  unfold restA
  rw [show Vaseda.restBy s (Vaseda.TIMES + 1) 0 t = none from h]
theorem rest_no {s : Vaseda.Script} {t : Text} (h : Vaseda.restBy s 11 0 t = some none) : restA s t = one 0 := by
  unfold restA
  rw [show Vaseda.restBy s (Vaseda.TIMES + 1) 0 t = some none from h]
theorem rest_at {s : Vaseda.Script} {t : Text} {n : Nat} (h : Vaseda.restBy s 11 0 t = some (some n)) : restA s t = ⟨1, nats [n]⟩ := by
  unfold restA
  rw [show Vaseda.restBy s (Vaseda.TIMES + 1) 0 t = some (some n) from h]
theorem g_answer_rest (D : Dn K mg "answer_rest" s_answer_rest) (TX : Txt K mg) (T : DeskT K mg A) (G1 : Gm P w K mg base (L2.CX P w) 5 A.desk "held_commands" ["self"] (sp_held_commands A)) (G2 : Gd P w K mg base (L2.CX P w) 15 "read_text" ["row"] (sp_read_text K A))
    (G3 : Gd P w K mg base (L2.CX P w) 30 "runs_to_rest" ["commands", "text"] (sp_runs_to_rest A)) : Gd P w K mg base (L2.CX P w) 35 "answer_rest" ["desk", "row"] (sp_ans K A .rest) := by
  obtain ⟨f, fd, m, F⟩ := D
  obtain ⟨f1, fd1, m1, b1, F1⟩ := G1
  obtain ⟨f2, fd2, m2, k2, b2, F2⟩ := G2
  obtain ⟨f3, fd3, m3, k3, b3, F3⟩ := G3
  refine ⟨f, fd, m, F.kp, F.binds (fun _ _ _ _ _ _ us hl => match us, hl with | [_, _], _ => rfl), F.okX sc_answer_rest (fun vs H Q E h => ?_) (fun cdv A' outer s H vs Q E hr h => ?_)⟩
  · obtain ⟨pd, dx, tl, row, o, b, rfl, _⟩ := h; rfl
  · refine ⟨_, (L2.pss_cons (ps_set (i := 2) sc_answer_rest.nd rfl (.inl rfl) (pe_meth0 (pv 0) T.cl m1 F1 (hr.mono (by decide)) b1 .nil (passes_call (takes_of rfl rfl rfl rfl) (fun _ _ _ _ h => h)))) (L2.pss_cons (ps_set (i := 3) sc_answer_rest.nd rfl (.inl rfl) (pe_call F3 (hr.mono (by decide)) rfl m3 k3 b3 .nil (passes_call (takes_of rfl rfl rfl rfl) (fun _ _ _ _ h => h)) (L2.pa_cons (pv 2) (L2.pa_cons (pe_call F2 (hr.mono (by decide)) rfl m2 k2 b2 .nil (passes_call (takes_of rfl rfl rfl rfl) (fun _ _ _ _ h => h)) (L2.pa_cons (pv 1) L2.pa_nil)) L2.pa_nil)))) (L2.pss_one (ps_ret (pe_ifExp (pt_cmpR op_isN (pv 3) pe_non (nomark _)) (pe_lst (L2.pa_cons (pe_int) L2.pa_nil)) (pe_lst (L2.pa_cons (pe_int) (L2.pa_cons (pv 3) L2.pa_nil)))))))), ?_⟩
    obtain ⟨pd, dx, tl, row, o, b, rfl, hD, hS, hb, du⟩ := h
    obtain ⟨v, e⟩ := hD.obj
    refine ⟨_, rfl, pd, dx, _, rfl, e, rfl, pd, dx, tl, o, rfl, hD, fun h => du.nS (by rw [h]; rfl), fun s cs eo hC ok len => ?_⟩
    subst eo
    have ea : encode (Vaseda.step (some s) (.rest b)).2 = encode (withText b (restA s)) := rfl
    rw [ea] at du
    refine ⟨_, rfl, _, rfl, row, b, rfl, hS, hb, fun ht => du.nT (by rw [withText_no ht]; rfl), fun t p H1 et s1 e1 lt l24 => ?_⟩
    rw [withText_ok et] at du
    refine ⟨cs, p, s, t, rfl, hC.same s1, ok, len, e1, ⟨lt, by omega⟩, fun h => fun H2 s2 => du.tM (by rw [rest_bad h]; rfl) H2 (s1.trans s2), fun H2 h s2 => ?_, fun n H2 h s2 => ?_⟩
    · refine ⟨_, rfl, rfl, _, rfl, if_true_of (by decide) ⟨by show 1 ≤ sizeLine; decide, fun l hl => du.val l _ (s1.trans (s2.trans (same_new hl))) (none_back (s1.trans s2) hl) ?_⟩⟩
      rw [upd_same, rest_no h]
      rfl
    · refine ⟨_, rfl, rfl, _, rfl, if_false_of (decide_eq_false (by intro z; cases z)) ⟨_, rfl, by show 2 ≤ sizeLine; decide, fun l hl => du.val l _ (s1.trans (s2.trans (same_new hl))) (none_back (s1.trans s2) hl) ?_⟩⟩
      rw [upd_same, rest_at h]
      rfl
end
end LD

namespace LD
open PySem PySem.Spec PyProof.Rows L2 LN
open VasedBase (Bytes word textRow one textAnswer Answer)
open Vaseda (Deed Cmd Text Work Out swapIn lineRun outOf outText withRun withText originRow touchRow nats)
open VasedaNeutral (encode)
abbrev s_answer_load : Stmt := top 100
section
variable {P : Program} {w : World} {K : PySem.W.Frag} {mg : Str → Option Value} {base : Heap} {A : Ad}
theorem none_but {H1 H2 : Hp} {r p : Addr} {o : HO} (bt : But r H1 H2) (e : H2 r = some o) (n : H2 p = none) : H1 p = none := by
  cases h : H1 p with
  | none => rfl
  | some u =>
    by_cases hp : p = r
    · rw [hp, e] at n; cases n
    · rw [bt _ _ h hp] at n; cases n
def sp_load (K : PySem.W.Frag) (A : Ad) : Sp := fun vs H Q _ => ∃ (pd dx tl row : Addr) (o : Vaseda.Obj) (b : Bytes), vs = [.ref pd, .ref row] ∧ DeskAt A H pd dx tl o ∧ SqL K H row (bV b) ∧ (∃ u, H tl = some u) ∧
  ∀ p H', But pd H H' → H p = none → DeskAt A H' pd dx tl (Vaseda.step o (.load b)).1 → H' p = some (.lst ((encode (Vaseda.step o (.load b)).2).map V.int)) → Q (.ref p) H'
theorem sc_answer_load : FnScope ["desk", "script", "commands", "fault"] ["desk", "script"] (defScope s_answer_load) := ⟨rfl, rfl, rfl, by decide +kernel, rfl, by decide +kernel, by decide +kernel⟩
theorem load_ok {o : Vaseda.Obj} {b : Bytes} {s : Vaseda.Script} (h : Vaseda.read b = .ok s) : Vaseda.step o (.load b) = (some s, ⟨1, nats [s.length]⟩) := by
  unfold Vaseda.step
  cases o <;> simp only [h]
theorem load_bad {o : Vaseda.Obj} {b : Bytes} {f : VasedBase.Fault} (h : Vaseda.read b = .error f) : Vaseda.step o (.load b) = (o, VasedBase.faulty f) := by
  unfold Vaseda.step
  cases o <;> simp only [h]
def tsLoad (A : Ad) : Addr → Value → Option Addr → TS := fun a cls d => tRet (tLst (tCons (tC (.int 0)) (tCons (tXf a cls d A.fa "code" (tVar 3)) (tCons (tXf a cls d A.fa "place" (tVar 3)) tNil))))
theorem g_answer_load (D : Dn K mg "answer_load" s_answer_load) (TX : Txt K mg) (T : DeskT K mg A) (ap : Apart A) (TF : PySem.FaX.FaTxt K mg A.fa A.faI) (G1 : Gd P w K mg base (L2.CX P w) 35 "read_commands" ["script"] (sp_read_commands K A)) :
    Gd P w K mg base CX0 40 "answer_load" ["desk", "script"] (sp_load K A) := by
  obtain ⟨f, fd, m, F⟩ := D
  obtain ⟨f1, fd1, m1, k1, b1, F1⟩ := G1
  have xf : XfC K A.fa := ⟨TF.ga, TF.gg, TF.exC, TF.hdC⟩
  refine ⟨f, fd, m, F.kp, F.binds (fun _ _ _ _ _ _ us hl => match us, hl with | [_, _], _ => rfl), F.ok sc_answer_load (fun vs H Q E h => ?_) (fun cdv A' outer s H vs Q E hr h => ?_)⟩
  · obtain ⟨pd, dx, tl, row, o, b, rfl, _⟩ := h; rfl
  · have hr1 : Room 35 _ := hr.mono (by decide)
    refine ⟨_, (L2.pss_cons (ps_try_as (i := 3) (tb := fun W => tAsg (tCallS (sp_read_commands K A) (WE W) (tCons (tVar 1) tNil)) (gName 2)) (ts := tsLoad A) (Wout := fun _ _ _ _ => False) rfl rfl sc_answer_load.nd rfl rfl ⟨rfl, by decide, Or.inl TF.gC⟩ takes0
        (fun W pn xe tk _ => pss_one (ps_set (i := 2) sc_answer_load.nd rfl (Or.inl rfl) (by exact (pe_callS F1 hr1 rfl m1 k1 b1 (fun σ => passAt tk σ) (by exact (L2.pa_cons (pv 1) L2.pa_nil))))))
        (fun a oe cls d pn hz hf => pss_one (ps_ret (pe_lst (by exact (L2.pa_cons (pe_int) (L2.pa_cons (pe_xf xf TF.no1 hz hf (pv 3)) (L2.pa_cons (pe_xf xf TF.no2 hz hf (pv 3)) L2.pa_nil)))))))) (L2.pss_cons (ps_fld (pv 0) (pv 2) rfl) (L2.pss_one (ps_ret (pe_lst (L2.pa_cons (pe_int) (L2.pa_cons ((pe_callB call_len_seq (by rfl) TX.len PySem.boot_len (pa_cons (pv 2) pa_nil))) L2.pa_nil))))))), ?_⟩
    obtain ⟨pd, dx, tl, row, o, b, rfl, hD, hS, htl, q⟩ := h
    refine ⟨_, rfl, row, b, rfl, hS, fun fa hf d H1 s1 e1 => ?_, fun sc cs H1 hok s1 hcs hC ok len => ?_⟩
    · refine ⟨true, TF.te, fun _ a0 _ => ?_, fun q => Bool.noConfusion q⟩
      refine ⟨_, rfl, rfl, rfl, d, _, _, rfl, e1, lk_past (by decide +kernel) lk_here, _, rfl, rfl, rfl, d, _, _, rfl, e1, lk_here, by show 3 ≤ sizeLine; decide, fun p hp => ?_⟩
      rw [load_bad hf] at q
      exact q p _ (Same.but (s1.trans (same_new hp))) (none_back s1 hp) (hD.same (s1.trans (same_new hp))) (by rw [upd_same]; rfl)
    · obtain ⟨v, e⟩ := hD.obj
      have e1 := s1 _ _ e
      refine ⟨_, rfl, _, rfl, pd, A.desk, dx, _, rfl, e1, T.cl, T.no _ (by simp), (by show 1 < 1000; decide), ?_⟩
      rw [desk_put]
      have bt : But pd H1 (upd H1 pd (.ins A.desk dx (deskF (.ref cs)))) := But.upd
      have hC2 := hC.but e1 True.intro (fun _ _ z => by injection z with z; exact ap.dc z) (fun _ z => by cases z) bt
      have hl : ∃ xs, (upd H1 pd (.ins A.desk dx (deskF (.ref cs)))) cs = some (.lst xs) ∧ xs.length = sc.length := by
        obtain ⟨l, a, b, _⟩ := hC2
        exact ⟨_, a, by rw [b, List.length_map, List.length_map]⟩
      obtain ⟨xs, hl, lx⟩ := hl
      have eD : (upd H1 pd (.ins A.desk dx (deskF (.ref cs)))) pd = some (.ins A.desk dx (deskF (.ref cs))) := upd_same
      generalize upd H1 pd (.ins A.desk dx (deskF (.ref cs))) = H2 at bt hC2 hl eD ⊢
      refine ⟨_, rfl, cs, _, rfl, .inl (.of hl), by show 2 ≤ sizeLine; decide, fun p hp => ?_⟩
      rw [load_ok hok] at q
      have s3 := same_new (o := .lst [V.int 1, V.int (xs.length : Nat)]) hp
      refine q p _ ((Same.but s1).trans (bt.trans (Same.but s3))) (none_back s1 (none_but bt eD hp)) ⟨cs, s3 _ _ eD, hC2.same s3, ok, len, fun z => by
        obtain ⟨u, hu⟩ := htl
        rw [z, hu] at hcs; cases hcs⟩ ?_
      rw [upd_same, lx]
      rfl
end
end LD

namespace LD
open PySem PySem.Spec PyProof.Rows L2 LN
open VasedBase (Bytes word textRow one textAnswer Answer)
open VasedaNeutral (encode)
abbrev s_call_init : Stmt := inClass (top 122) 0
abbrev s_has_more : Stmt := inClass (top 122) 1
abbrev s_take_whole : Stmt := inClass (top 122) 2
abbrev s_take_row : Stmt := inClass (top 122) 3
def iV (l : List Int) : List V := l.map V.int
theorem iV_length (l : List Int) : (iV l).length = l.length := by unfold iV; rw [List.length_map]
def callF (ca : Addr) (i : Nat) : List (Str × V) := [("calls", .ref ca), ("at", .int i)]
def CallAt (A : Ad) (H : Hp) (p dx ca : Addr) (i : Nat) : Prop := H p = some (.ins A.call dx (callF ca i))
theorem call_lk {ca : Addr} {i : Nat} : List.lookup ("calls" : Str) (callF ca i) = some (.ref ca) ∧ List.lookup ("at" : Str) (callF ca i) = some (.int i) := by
  unfold callF
  exact ⟨by ((repeat (first | exact lk_here | refine lk_past (by decide +kernel) ?_)); first | done | rfl), by ((repeat (first | exact lk_here | refine lk_past (by decide +kernel) ?_)); first | done | rfl)⟩
theorem call_put {ca : Addr} {i j : Nat} : putF ("at" : Str) (.int j) (callF ca i) = callF ca j := by unfold callF; ((repeat (first | exact put_here | refine put_past (by decide +kernel) ?_)); first | done | rfl)
theorem seq_but {K : PySem.W.Frag} {H H' : Hp} {a r C dx : Addr} {fs : List (Str × V)} {xs : List V} (h : SqL K H a xs) (hr : H r = some (.ins C dx fs)) (s : But r H H') : SqL K H' a xs := by
  rcases h with (h | ⟨o, h⟩) | h
  · exact .inl (.inl (s _ _ h (ne_of h hr (by intro z; cases z))))
  · exact .inl (.inr ⟨o, s _ _ h (ne_of h hr (by intro z; cases z))⟩)
  · exact .inr h
section
variable {P : Program} {w : World} {K : PySem.W.Frag} {mg : Str → Option Value} {base : Heap} {A : Ad}
abbrev CallT (K : PySem.W.Frag) (mg : Str → Option Value) (A : Ad) : Prop := CT K mg "CallReader" A.call ["calls", "at"]
def sp_call_init (A : Ad) : Sp := fun vs H Q _ => ∃ (p dx ca : Addr), vs = [.ref p, .ref ca] ∧ H p = some (.ins A.call dx []) ∧ ∀ H', But p H H' → CallAt A H' p dx ca 0 → Q .non H'
theorem sc_call_init : FnScope ["self", "calls"] ["self", "calls"] (defScope s_call_init) := ⟨rfl, rfl, rfl, by decide +kernel, rfl, by decide +kernel, by decide +kernel⟩
theorem g_call_init (D : Di K A.call "CallReader.__init__" s_call_init) (T : CallT K mg A) : Gi P w K mg base 5 A.call ["self", "calls"] (sp_call_init A) := by
  obtain ⟨f, fd, m, F⟩ := D
  refine ⟨f, fd, m, F.binds (fun _ _ _ _ _ _ us hl => match us, hl with | [_, _], _ => rfl), F.ok sc_call_init (fun vs H Q E h => ?_) (fun cdv A' outer s H vs Q E hr h => ?_)⟩
  · obtain ⟨p, dx, ca, rfl, _⟩ := h; rfl
  · refine ⟨_, (L2.pss_cons (ps_fld (pv 0) (pv 1) rfl) (L2.pss_one (ps_fld (pv 0) pe_int rfl))), ?_⟩
    obtain ⟨p, dx, ca, rfl, h1, q⟩ := h
    refine ⟨_, rfl, _, rfl, p, A.call, dx, [], rfl, h1, T.cl, T.no _ (by simp), (by show 0 < 1000; decide), ?_⟩
    refine ⟨_, rfl, p, A.call, dx, _, rfl, upd_same, T.cl, T.no _ (by simp), (by show 1 < 1000; decide), ?_⟩
    have e2 : putF ("at" : Str) (V.int 0) [(("calls" : Str), V.ref ca)] = callF ca 0 := by unfold callF; ((repeat (first | exact put_here | refine put_past (by decide +kernel) ?_)); first | done | rfl)
    exact q _ (But.upd.trans But.upd) (ins_put e2)
def sp_has_more (K : PySem.W.Frag) (A : Ad) : Sp := fun vs H Q _ => ∃ (p dx ca : Addr) (i : Nat) (l : List Int), vs = [.ref p] ∧ CallAt A H p dx ca i ∧ SqL K H ca (iV l) ∧ Q (.bl (decide (i < l.length))) H
theorem sc_has_more : FnScope ["self"] ["self"] (defScope s_has_more) := ⟨rfl, rfl, rfl, by decide +kernel, rfl, by decide +kernel, by decide +kernel⟩
theorem g_has_more (D : Dm K A.call "has_more" "CallReader.has_more" s_has_more) (TX : Txt K mg) (T : CallT K mg A) : Gm P w K mg base CX0 5 A.call "has_more" ["self"] (sp_has_more K A) := by
  obtain ⟨f, fd, m, F⟩ := D
  refine ⟨f, fd, m, F.binds (fun _ _ _ _ _ _ us hl => match us, hl with | [_], _ => rfl), F.ok sc_has_more (fun vs H Q E h => ?_) (fun cdv A' outer s H vs Q E hr h => ?_)⟩
  · obtain ⟨p, dx, ca, i, l, rfl, _⟩ := h; rfl
  · refine ⟨_, (L2.pss_one (ps_ret (pe_cmpR op_lt (pe_fld (pv 0) rfl) ((pe_callB call_len_seq (by rfl) TX.len PySem.boot_len (pa_cons (pe_fld (pv 0) rfl) pa_nil))) (nomark _)))), ?_⟩
    obtain ⟨p, dx, ca, i, l, rfl, hC, hS, q⟩ := h
    refine ⟨_, rfl, p, A.call, dx, _, _, rfl, hC, T.cl, T.no _ (by simp), call_lk.2, _, rfl, p, A.call, dx, _, _, rfl, hC, T.cl, T.no _ (by simp), call_lk.1, ca, _, rfl, .inl hS, _, _, rfl, rfl, ?_⟩
    have e : decide ((i : Int) < ((iV l).length : Nat)) = decide (i < l.length) := by rw [iV_length, decide_eq_decide]; omega
    have q2 : Q (.bl (decide ((i : Int) < ((iV l).length : Nat)))) H := by rw [e]; exact q
    exact q2
def sp_take_whole (K : PySem.W.Frag) (A : Ad) : Sp := fun vs H Q _ => ∃ (p dx ca : Addr) (i : Nat) (l : List Int) (z : Int), vs = [.ref p] ∧ CallAt A H p dx ca i ∧ SqL K H ca (iV l) ∧ l[i]? = some z ∧ ∀ H', But p H H' → CallAt A H' p dx ca (i + 1) → Q (.int z) H'
theorem sc_take_whole : FnScope ["self", "whole"] ["self"] (defScope s_take_whole) := ⟨rfl, rfl, rfl, by decide +kernel, rfl, by decide +kernel, by decide +kernel⟩
theorem g_take_whole (D : Dm K A.call "take_whole" "CallReader.take_whole" s_take_whole) (T : CallT K mg A) : Gm P w K mg base CX0 5 A.call "take_whole" ["self"] (sp_take_whole K A) := by
  obtain ⟨f, fd, m, F⟩ := D
  refine ⟨f, fd, m, F.binds (fun _ _ _ _ _ _ us hl => match us, hl with | [_], _ => rfl), F.ok sc_take_whole (fun vs H Q E h => ?_) (fun cdv A' outer s H vs Q E hr h => ?_)⟩
  · obtain ⟨p, dx, ca, i, l, z, rfl, _⟩ := h; rfl
  · refine ⟨_, (L2.pss_cons (ps_set (i := 1) sc_take_whole.nd rfl (.inl rfl) (pe_ix ix_list (pe_fld (pv 0) rfl) (pe_fld (pv 0) rfl) (fun _ _ => rfl))) (L2.pss_cons (ps_fldaug (pv 0) pe_int in_add) (L2.pss_one (ps_ret (pv 1))))), ?_⟩
    obtain ⟨p, dx, ca, i, l, z, rfl, hC, hS, hz, q⟩ := h
    have hv : (iV l)[i]? = some (V.int z) := by unfold iV; rw [List.getElem?_map, hz]; rfl
    refine ⟨_, rfl, p, A.call, dx, _, _, rfl, hC, T.cl, T.no _ (by simp), call_lk.1, _, rfl, p, A.call, dx, _, _, rfl, hC, T.cl, T.no _ (by simp), call_lk.2, ca, _, _, _, rfl, rfl, hS, atI_nat hv, ?_⟩
    refine ⟨_, rfl, p, A.call, dx, _, _, rfl, hC, T.cl, T.no _ (by simp), call_lk.2, _, _, rfl, rfl, dx, _, hC, (by show 2 < 1000; decide), _, rfl, ?_⟩
    refine q _ But.upd ?_
    show _ = _
    rw [upd_same]
    have e : ((i : Int) + 1) = ((i + 1 : Nat) : Int) := by omega
    rw [e, call_put]
theorem cut_iV (l : List Int) (i n : Nat) (h : i + n ≤ l.length) : cutV (iV l) (some (i : Int)) (some (((i : Nat) : Int) + ((n : Nat) : Int))) = iV ((l.drop i).take n) := by
  have e (k : Nat) (d : Nat) (hk : k ≤ l.length) : HT.sIx (iV l).length d (some (k : Int)) = k := by
    rw [iV_length, HT.sIx_nat]
    exact Nat.min_eq_left hk
  have e2 : (((i : Nat) : Int) + ((n : Nat) : Int)) = ((i + n : Nat) : Int) := by omega
  unfold cutV
  rw [e2, e i _ (by omega), e (i + n) _ h, show i + n - i = n by omega]
  unfold iV
  rw [List.map_take, List.map_drop]
def sp_take_row (K : PySem.W.Frag) (A : Ad) : Sp := fun vs H Q _ => ∃ (p dx ca : Addr) (i : Nat) (l : List Int) (n : Nat), vs = [.ref p] ∧ CallAt A H p dx ca i ∧ SqL K H ca (iV l) ∧ l[i]? = some (n : Int) ∧ i + 1 + n ≤ l.length ∧
  ∀ r H', But p H H' → CallAt A H' p dx ca (i + 1 + n) → H' r = some (.lst (iV ((l.drop (i + 1)).take n))) → Q (.ref r) H'
theorem sc_take_row : FnScope ["self", "size", "row"] ["self"] (defScope s_take_row) := ⟨rfl, rfl, rfl, by decide +kernel, rfl, by decide +kernel, by decide +kernel⟩
theorem g_take_row (D : Dm K A.call "take_row" "CallReader.take_row" s_take_row) (T : CallT K mg A) (G1 : Gm P w K mg base CX0 5 A.call "take_whole" ["self"] (sp_take_whole K A)) : Gm P w K mg base CX0 10 A.call "take_row" ["self"] (sp_take_row K A) := by
  obtain ⟨f, fd, m, F⟩ := D
  obtain ⟨f1, fd1, m1, b1, F1⟩ := G1
  refine ⟨f, fd, m, F.binds (fun _ _ _ _ _ _ us hl => match us, hl with | [_], _ => rfl), F.ok sc_take_row (fun vs H Q E h => ?_) (fun cdv A' outer s H vs Q E hr h => ?_)⟩
  · obtain ⟨p, dx, ca, i, l, n, rfl, _⟩ := h; rfl
  · refine ⟨_, (L2.pss_cons (ps_set (i := 1) sc_take_row.nd rfl (.inl rfl) (pe_meth0 (pv 0) T.cl m1 F1 (hr.mono (by decide)) b1 .nil pass0)) (L2.pss_cons (ps_set (i := 2) sc_take_row.nd rfl (.inl rfl) (pe_slice sl_list (pe_fld (pv 0) rfl) (po_some (pe_fld (pv 0) rfl)) (po_some (pe_op op_add (pe_fld (pv 0) rfl) (pv 1))))) (L2.pss_cons (ps_fldaug (pv 0) (pv 1) in_add) (L2.pss_one (ps_ret (pv 2)))))), ?_⟩
    obtain ⟨p, dx, ca, i, l, n, rfl, hC, hS, hz, hn, q⟩ := h
    refine ⟨_, rfl, p, dx, _, rfl, hC, rfl, p, dx, ca, i, l, n, rfl, hC, hS, hz, fun H1 bt hC1 => ?_⟩
    have hS1 := seq_but hS hC bt
    refine ⟨_, rfl, p, A.call, dx, _, _, rfl, hC1, T.cl, T.no _ (by simp), call_lk.1, _, rfl, p, A.call, dx, _, _, rfl, hC1, T.cl, T.no _ (by simp), call_lk.2, _, rfl, _, rfl, p, A.call, dx, _, _, rfl, hC1, T.cl, T.no _ (by simp), call_lk.2, _, rfl, _, _, rfl, rfl, _, rfl, ca, _, rfl, hS1, fun r hr => ?_⟩
    rw [cut_iV l (i + 1) n hn]
    have s2 : Same H1 (upd H1 r (.lst (iV ((l.drop (i + 1)).take n)))) := same_new hr
    have e2 : upd H1 r (.lst (iV ((l.drop (i + 1)).take n))) r = some (.lst (iV ((l.drop (i + 1)).take n))) := upd_same
    have hC2 := s2 _ _ hC1
    generalize upd H1 r (.lst (iV ((l.drop (i + 1)).take n))) = H2 at s2 e2 hC2 ⊢
    refine ⟨_, rfl, p, A.call, dx, _, _, rfl, hC2, T.cl, T.no _ (by simp), call_lk.2, _, rfl, _, _, rfl, rfl, dx, _, hC2, (by show 2 < 1000; decide), _, rfl, ?_⟩
    refine q r _ (bt.trans ((Same.but s2).trans But.upd)) ?_ ?_
    · show _ = _
      rw [upd_same]
      have e : (((i + 1 : Nat) : Int) + ((n : Nat) : Int)) = ((i + 1 + n : Nat) : Int) := by omega
      rw [e, call_put]
    · rw [upd_ne (ne_of e2 hC2 (by intro z; cases z))]
      exact e2
end
end LD

namespace LD
open PySem PySem.Spec PyProof.Rows L2 LN
open VasedBase (Bytes word textRow one textAnswer Answer)
open VasedaNeutral (encode)
abbrev s_answer_call : Stmt := top 125
/-- a row stands at i, behind it j -/
def RowAt (l : List Int) (i j : Nat) (b : Bytes) : Prop := l[i]? = some (b.length : Int) ∧ j = i + 1 + b.length ∧ j ≤ l.length ∧ (l.drop (i + 1)).take b.length = bI b ∧ b.length ≤ 8192
/-- a call stands at i, behind it j -/
def Coded (l : List Int) (i j : Nat) : Vaseda.Call → Prop
  | .load b => l[i]? = some 0 ∧ RowAt l (i + 1) j b
  | .shown => l[i]? = some 1 ∧ j = i + 1
  | .run b => l[i]? = some 2 ∧ RowAt l (i + 1) j b
  | .origins b => l[i]? = some 3 ∧ RowAt l (i + 1) j b
  | .trace k b => l[i]? = some 4 ∧ l[i + 1]? = some k ∧ RowAt l (i + 2) j b
  | .held b => l[i]? = some 5 ∧ RowAt l (i + 1) j b
  | .touched b => l[i]? = some 6 ∧ RowAt l (i + 1) j b
  | .again n b => l[i]? = some 7 ∧ l[i + 1]? = some n ∧ RowAt l (i + 2) j b
  | .rest b => l[i]? = some 8 ∧ RowAt l (i + 1) j b
/-- what a call may change -/
def Left (A : Ad) (H : Hp) (pd dx tl pr dr ca : Addr) (j : Nat) (o : Vaseda.Obj) : Hp → Prop := fun H' => Keep [pd, pr] H H' ∧ DeskAt A H' pd dx tl o ∧ CallAt A H' pr dr ca j
structure DueC (A : Ad) (E : XK) (Q : VK) (H : Hp) (pd dx tl pr dr ca : Addr) (j : Nat) (o : Vaseda.Obj) (a : List Int) : Prop where
  val : ∀ p H', Left A H pd dx tl pr dr ca j o H' → H p = none → H' p = some (.lst (a.map V.int)) → Q (.ref p) H'
  nS : a = [-1] → XE A.nS E (Left A H pd dx tl pr dr ca j o)
  nT : a = [-4] → XE A.nT E (Left A H pd dx tl pr dr ca j o)
  tM : a = [-7] → XE A.tM E (Left A H pd dx tl pr dr ca j o)
  nL : a = [-3] → XE A.nL E (Left A H pd dx tl pr dr ca j o)
  nO : a = [-3] → XE A.nO E (Left A H pd dx tl pr dr ca j o)
theorem none_keep {H H2 : Hp} {pd pr p : Addr} {u v : HO} (kp : Keep [pd, pr] H H2) (h1 : H2 pd = some u) (h2 : H2 pr = some v) (n : H2 p = none) : H p = none := by
  cases h : H p with
  | none => rfl
  | some w =>
    by_cases e1 : p = pd
    · rw [e1, h1] at n; cases n
    · by_cases e2 : p = pr
      · rw [e2, h2] at n; cases n
      · rw [kp _ _ h (by simp [e1, e2])] at n; cases n
theorem some_keep {H H2 : Hp} {pd pr p : Addr} {u v : HO} (kp : Keep [pd, pr] H H2) (h1 : H2 pd = some u) (h2 : H2 pr = some v) (n : ∃ w, H p = some w) : ∃ w, H2 p = some w := by
  obtain ⟨w, h⟩ := n
  by_cases e1 : p = pd
  · exact ⟨u, by rw [e1]; exact h1⟩
  · by_cases e2 : p = pr
    · exact ⟨v, by rw [e2]; exact h2⟩
    · exact ⟨w, kp _ _ h (by simp [e1, e2])⟩
theorem DueC.due {A : Ad} {E : XK} {Q : VK} {H H2 : Hp} {pd dx tl pr dr ca : Addr} {j : Nat} {o : Vaseda.Obj} {a : List Int} (D : DueC A E Q H pd dx tl pr dr ca j o a) (kp : Keep [pd, pr] H H2) (hD : DeskAt A H2 pd dx tl o) (hC : CallAt A H2 pr dr ca j) : Due A E Q H2 a := by
  have left : ∀ H', Same H2 H' → Left A H pd dx tl pr dr ca j o H' := fun H' s => ⟨kp.trans (Same.keep s), hD.same s, s _ _ hC⟩
  obtain ⟨v, ev⟩ := hD.obj
  exact ⟨fun p H' s n e => D.val p H' (left H' s) (none_keep kp ev hC n) e, fun h H' s => D.nS h H' (left H' s), fun h H' s => D.nT h H' (left H' s), fun h H' s => D.tM h H' (left H' s), fun h H' s => D.nL h H' (left H' s), fun h H' s => D.nO h H' (left H' s)⟩
theorem DeskAt.but {A : Ad} {H H' : Hp} {p dx tl r dr ca : Addr} {i : Nat} (ap : Apart A) (hr : CallAt A H r dr ca i) (s : But r H H') : ∀ {o : Vaseda.Obj}, DeskAt A H p dx tl o → DeskAt A H' p dx tl o
  | none, h => s _ _ h (ne_of h hr (by intro z; injection z with z; exact ap.ko z.symm))
  | some _, ⟨cs, a, b, c⟩ => ⟨cs, s _ _ a (ne_of a hr (by intro z; injection z with z; exact ap.ko z.symm)), b.but hr True.intro (fun _ _ z => by injection z with z; exact ap.kc z) (fun _ z => by cases z) s, c⟩
section
variable {P : Program} {w : World} {K : PySem.W.Frag} {mg : Str → Option Value} {base : Heap} {A : Ad}
def sp_answer_call (K : PySem.W.Frag) (A : Ad) : Sp := fun vs H Q E => ∃ (pd dx tl pr dr ca : Addr) (i j : Nat) (l : List Int) (o : Vaseda.Obj) (k : Vaseda.Call), vs = [.ref pd, .ref pr] ∧ DeskAt A H pd dx tl o ∧ CallAt A H pr dr ca i ∧ SqL K H ca (iV l) ∧ (∃ u, H tl = some u) ∧ Coded l i j k ∧
  DueC A E Q H pd dx tl pr dr ca j (Vaseda.step o k).1 (encode (Vaseda.step o k).2)
theorem sc_answer_call : FnScope ["desk", "reader", "call", "k", "n"] ["desk", "reader"] (defScope s_answer_call) := ⟨rfl, rfl, rfl, by decide +kernel, rfl, by decide +kernel, by decide +kernel⟩
theorem g_answer_call (D : Dn K mg "answer_call" s_answer_call) (TX : Txt K mg) (T : CallT K mg A) (ap : Apart A) (G1 : Gm P w K mg base CX0 5 A.call "take_whole" ["self"] (sp_take_whole K A)) (G2 : Gm P w K mg base CX0 10 A.call "take_row" ["self"] (sp_take_row K A))
    (G3 : Gd P w K mg base CX0 40 "answer_load" ["desk", "script"] (sp_load K A)) (G4 : Gd P w K mg base (L2.CX P w) 35 "answer_shown" ["desk"] (sp_shown A)) (G5 : Gd P w K mg base (L2.CX P w) 35 "answer_run" ["desk", "row"] (sp_ans K A .run))
    (G6 : Gd P w K mg base (L2.CX P w) 35 "answer_origins" ["desk", "row"] (sp_ans K A .origins)) (G7 : Gd P w K mg base (L2.CX P w) 35 "answer_trace" ["desk", "k", "row"] (sp_trace K A)) (G8 : Gd P w K mg base (L2.CX P w) 35 "answer_held" ["desk", "row"] (sp_ans K A .held))
    (G9 : Gd P w K mg base (L2.CX P w) 35 "answer_touched" ["desk", "row"] (sp_ans K A .touched)) (G10 : Gd P w K mg base (L2.CX P w) 35 "answer_again" ["desk", "n", "row"] (sp_again K A)) (G11 : Gd P w K mg base (L2.CX P w) 35 "answer_rest" ["desk", "row"] (sp_ans K A .rest)) :
    Gd P w K mg base (L2.CX P w) 45 "answer_call" ["desk", "reader"] (sp_answer_call K A) := by
  obtain ⟨f, fd, m, F⟩ := D
  obtain ⟨f1, fd1, m1, b1, F1⟩ := G1
  obtain ⟨f2, fd2, m2, b2, F2⟩ := G2
  obtain ⟨f3, fd3, m3, k3, b3, F3⟩ := G3
  obtain ⟨f4, fd4, m4, k4, b4, F4⟩ := G4
  obtain ⟨f5, fd5, m5, k5, b5, F5⟩ := G5
  obtain ⟨f6, fd6, m6, k6, b6, F6⟩ := G6
  obtain ⟨f7, fd7, m7, k7, b7, F7⟩ := G7
  obtain ⟨f8, fd8, m8, k8, b8, F8⟩ := G8
  obtain ⟨f9, fd9, m9, k9, b9, F9⟩ := G9
  obtain ⟨f10, fd10, m10, k10, b10, F10⟩ := G10
  obtain ⟨f11, fd11, m11, k11, b11, F11⟩ := G11
  refine ⟨f, fd, m, F.kp, F.binds (fun _ _ _ _ _ _ us hl => match us, hl with | [_, _], _ => rfl), F.okX sc_answer_call (fun vs H Q E h => ?_) (fun cdv A' outer s H vs Q E hr h => ?_)⟩
  · obtain ⟨pd, dx, tl, pr, dr, ca, i, j, l, o, k, rfl, _⟩ := h; rfl
  · refine ⟨_, (L2.pss_cons (ps_set (i := 2) sc_answer_call.nd rfl (.inl rfl) ((pe_meth0 (pv 1) T.cl m1 F1 (hr.mono (by decide)) b1 .nil pass0))) (L2.pss_cons (ps_if (pt_cmpR op_eq (pv 2) (pe_k TX.kLOAD) (nomark _)) (L2.pss_one (ps_ret (pe_call F3 (hr.mono (by decide)) rfl m3 k3 b3 .nil pass0 (L2.pa_cons (pv 0) (L2.pa_cons (((pe_meth0 (pv 1) T.cl m2 F2 (hr.mono (by decide)) b2 .nil pass0))) L2.pa_nil))))) L2.pss_nil) (L2.pss_cons (ps_if (pt_cmpR op_eq (pv 2) (pe_k TX.kSHOWN) (nomark _)) (L2.pss_one (ps_ret (pe_call F4 (hr.mono (by decide)) rfl m4 k4 b4 .nil ((passes_call (takes_of rfl rfl rfl rfl) (fun _ _ _ _ h => h))) (L2.pa_cons (pv 0) L2.pa_nil)))) L2.pss_nil) (L2.pss_cons (ps_if (pt_cmpR op_eq (pv 2) (pe_k TX.kRUN) (nomark _)) (L2.pss_one (ps_ret (pe_call F5 (hr.mono (by decide)) rfl m5 k5 b5 .nil ((passes_call (takes_of rfl rfl rfl rfl) (fun _ _ _ _ h => h))) (L2.pa_cons (pv 0) (L2.pa_cons (((pe_meth0 (pv 1) T.cl m2 F2 (hr.mono (by decide)) b2 .nil pass0))) L2.pa_nil))))) L2.pss_nil) (L2.pss_cons (ps_if (pt_cmpR op_eq (pv 2) (pe_k TX.kORIGINS) (nomark _)) (L2.pss_one (ps_ret (pe_call F6 (hr.mono (by decide)) rfl m6 k6 b6 .nil ((passes_call (takes_of rfl rfl rfl rfl) (fun _ _ _ _ h => h))) (L2.pa_cons (pv 0) (L2.pa_cons (((pe_meth0 (pv 1) T.cl m2 F2 (hr.mono (by decide)) b2 .nil pass0))) L2.pa_nil))))) L2.pss_nil) (L2.pss_cons (ps_if (pt_cmpR op_eq (pv 2) (pe_k TX.kTRACE) (nomark _)) (L2.pss_cons (ps_set (i := 3) sc_answer_call.nd rfl (.inl rfl) ((pe_meth0 (pv 1) T.cl m1 F1 (hr.mono (by decide)) b1 .nil pass0))) (L2.pss_one (ps_ret (pe_call F7 (hr.mono (by decide)) rfl m7 k7 b7 .nil ((passes_call (takes_of rfl rfl rfl rfl) (fun _ _ _ _ h => h))) (L2.pa_cons (pv 0) (L2.pa_cons (pv 3) (L2.pa_cons (((pe_meth0 (pv 1) T.cl m2 F2 (hr.mono (by decide)) b2 .nil pass0))) L2.pa_nil))))))) L2.pss_nil) (L2.pss_cons (ps_if (pt_cmpR op_eq (pv 2) (pe_k TX.kHELD) (nomark _)) (L2.pss_one (ps_ret (pe_call F8 (hr.mono (by decide)) rfl m8 k8 b8 .nil ((passes_call (takes_of rfl rfl rfl rfl) (fun _ _ _ _ h => h))) (L2.pa_cons (pv 0) (L2.pa_cons (((pe_meth0 (pv 1) T.cl m2 F2 (hr.mono (by decide)) b2 .nil pass0))) L2.pa_nil))))) L2.pss_nil) (L2.pss_cons (ps_if (pt_cmpR op_eq (pv 2) (pe_k TX.kTOUCHED) (nomark _)) (L2.pss_one (ps_ret (pe_call F9 (hr.mono (by decide)) rfl m9 k9 b9 .nil ((passes_call (takes_of rfl rfl rfl rfl) (fun _ _ _ _ h => h))) (L2.pa_cons (pv 0) (L2.pa_cons (((pe_meth0 (pv 1) T.cl m2 F2 (hr.mono (by decide)) b2 .nil pass0))) L2.pa_nil))))) L2.pss_nil) (L2.pss_cons (ps_if (pt_cmpR op_eq (pv 2) (pe_k TX.kAGAIN) (nomark _)) (L2.pss_cons (ps_set (i := 4) sc_answer_call.nd rfl (.inl rfl) ((pe_meth0 (pv 1) T.cl m1 F1 (hr.mono (by decide)) b1 .nil pass0))) (L2.pss_one (ps_ret (pe_call F10 (hr.mono (by decide)) rfl m10 k10 b10 .nil ((passes_call (takes_of rfl rfl rfl rfl) (fun _ _ _ _ h => h))) (L2.pa_cons (pv 0) (L2.pa_cons (pv 4) (L2.pa_cons (((pe_meth0 (pv 1) T.cl m2 F2 (hr.mono (by decide)) b2 .nil pass0))) L2.pa_nil))))))) L2.pss_nil) (L2.pss_cons (ps_if (pt_cmpR op_eq (pv 2) (pe_k TX.kREST) (nomark _)) (L2.pss_one (ps_ret (pe_call F11 (hr.mono (by decide)) rfl m11 k11 b11 .nil ((passes_call (takes_of rfl rfl rfl rfl) (fun _ _ _ _ h => h))) (L2.pa_cons (pv 0) (L2.pa_cons (((pe_meth0 (pv 1) T.cl m2 F2 (hr.mono (by decide)) b2 .nil pass0))) L2.pa_nil))))) L2.pss_nil) (L2.pss_one (ps_never)))))))))))), ?_⟩
    obtain ⟨pd, dx, tl, pr, dr, ca, i, j, l, o, k, rfl, hD, hC, hS, htl, hk, du⟩ := h
    have bk : ∀ {H1 H2 : Hp}, But pr H1 H2 → Keep [pd, pr] H1 H2 := fun b a o e n => b a o e (fun z => n (by rw [z]; simp))
    -- the row is taken
    have row : ∀ {H1 : Hp} {i' : Nat} {b : Bytes} {R : VK} {E1 : XK}, Keep [pd, pr] H H1 → DeskAt A H1 pd dx tl o → CallAt A H1 pr dr ca i' → SqL K H1 ca (iV l) → RowAt l i' j b →
        (∀ r H2, Keep [pd, pr] H H2 → DeskAt A H2 pd dx tl o → CallAt A H2 pr dr ca j → H2 r = some (.lst (bV b)) → R (.ref r) H2) → sp_take_row K A [V.ref pr] H1 R E1 := fun kp h1 h2 h3 hr fin => by
      obtain ⟨r1, r2, r3, r4, r5⟩ := hr
      refine ⟨pr, dr, ca, _, l, _, rfl, h2, h3, r1, by omega, fun r H2 bt hc he => fin r H2 (kp.trans (bk bt)) (DeskAt.but ap h2 bt h1) (by rw [r2]; exact hc) (by rw [he, r4]; rfl)⟩
    have first : ∀ {z : Int} {R : VK} {E1 : XK}, l[i]? = some z → (∀ H1, Keep [pd, pr] H H1 → DeskAt A H1 pd dx tl o → CallAt A H1 pr dr ca (i + 1) → SqL K H1 ca (iV l) → R (.int z) H1) → sp_take_whole K A [V.ref pr] H R E1 :=
      fun hz fin => ⟨pr, dr, ca, i, l, _, rfl, hC, hS, hz, fun H1 bt hc => fin H1 (bk bt) (DeskAt.but ap hC bt hD) hc (seq_but hS hC bt)⟩
    have second : ∀ {H1 : Hp} {z : Int} {R : VK} {E1 : XK}, Keep [pd, pr] H H1 → DeskAt A H1 pd dx tl o → CallAt A H1 pr dr ca (i + 1) → SqL K H1 ca (iV l) → l[i + 1]? = some z → (∀ H2, Keep [pd, pr] H H2 → DeskAt A H2 pd dx tl o → CallAt A H2 pr dr ca (i + 2) → SqL K H2 ca (iV l) → R (.int z) H2) → sp_take_whole K A [V.ref pr] H1 R E1 :=
      fun kp h1 h2 h3 hz fin => ⟨pr, dr, ca, i + 1, l, _, rfl, h2, h3, hz, fun H2 bt hc => fin H2 (kp.trans (bk bt)) (DeskAt.but ap h2 bt h1) hc (seq_but h3 h2 bt)⟩
    have obj : ∀ k, (∀ b, k ≠ Vaseda.Call.load b) → (Vaseda.step o k).1 = o := fun k h => by
      cases k <;> first | exact absurd rfl (h _) | (cases o <;> rfl)
    cases k with
    | load b =>
      refine ⟨_, rfl, pr, dr, _, rfl, hC, rfl, ?_⟩
      (try unfold tNil)
      (try dsimp only)
      refine first hk.1 fun H1 kp1 hD1 hC1 hS1 => ?_
      refine ⟨_, rfl, rfl, _, rfl, if_true_of (by decide) ?_⟩
      refine ⟨_, rfl, _, rfl, pr, dr, _, rfl, hC1, rfl, ?_⟩
      (try unfold tNil)
      (try dsimp only)
      refine row kp1 hD1 hC1 hS1 hk.2 fun r H2 kp2 hD2 hC2 e2 => ?_
      obtain ⟨v, ev⟩ := hD2.obj
      refine ⟨pd, dx, tl, r, o, b, rfl, hD2, .of e2, some_keep kp2 ev hC2 htl, fun p H3 bt hn hD3 e3 => du.val p H3 ⟨kp2.trans fun a o e n => bt a o e (fun z => n (by rw [z]; simp)), hD3, ?_⟩ (none_keep kp2 ev hC2 hn) e3⟩
      exact bt _ _ hC2 (ne_of hC2 ev (by intro z; injection z with z; exact ap.ko z))
    | shown =>
      have du := obj .shown (by intro b z; cases z) ▸ du
      refine ⟨_, rfl, pr, dr, _, rfl, hC, rfl, ?_⟩
      (try unfold tNil)
      (try dsimp only)
      refine first hk.1 fun H1 kp1 hD1 hC1 hS1 => ?_
      refine ⟨_, rfl, rfl, _, rfl, if_false_of (by decide) ?_⟩; refine ⟨_, rfl, rfl, _, rfl, if_true_of (by decide) ?_⟩
      exact ⟨_, rfl, pd, dx, tl, o, rfl, hD1, du.due kp1 hD1 (by rw [hk.2]; exact hC1)⟩
    | run b =>
      have du := obj (.run b) (by intro b z; cases z) ▸ du
      refine ⟨_, rfl, pr, dr, _, rfl, hC, rfl, ?_⟩
      (try unfold tNil)
      (try dsimp only)
      refine first hk.1 fun H1 kp1 hD1 hC1 hS1 => ?_
      refine ⟨_, rfl, rfl, _, rfl, if_false_of (by decide) ?_⟩; refine ⟨_, rfl, rfl, _, rfl, if_false_of (by decide) ?_⟩; refine ⟨_, rfl, rfl, _, rfl, if_true_of (by decide) ?_⟩
      refine ⟨_, rfl, _, rfl, pr, dr, _, rfl, hC1, rfl, ?_⟩
      (try unfold tNil)
      (try dsimp only)
      refine row kp1 hD1 hC1 hS1 hk.2 fun r H2 kp2 hD2 hC2 e2 => ?_
      exact ⟨pd, dx, tl, r, o, b, rfl, hD2, .of e2, hk.2.2.2.2.2, du.due kp2 hD2 hC2⟩
    | origins b =>
      have du := obj (.origins b) (by intro b z; cases z) ▸ du
      refine ⟨_, rfl, pr, dr, _, rfl, hC, rfl, ?_⟩
      (try unfold tNil)
      (try dsimp only)
      refine first hk.1 fun H1 kp1 hD1 hC1 hS1 => ?_
      refine ⟨_, rfl, rfl, _, rfl, if_false_of (by decide) ?_⟩; refine ⟨_, rfl, rfl, _, rfl, if_false_of (by decide) ?_⟩; refine ⟨_, rfl, rfl, _, rfl, if_false_of (by decide) ?_⟩; refine ⟨_, rfl, rfl, _, rfl, if_true_of (by decide) ?_⟩
      refine ⟨_, rfl, _, rfl, pr, dr, _, rfl, hC1, rfl, ?_⟩
      (try unfold tNil)
      (try dsimp only)
      refine row kp1 hD1 hC1 hS1 hk.2 fun r H2 kp2 hD2 hC2 e2 => ?_
      exact ⟨pd, dx, tl, r, o, b, rfl, hD2, .of e2, hk.2.2.2.2.2, du.due kp2 hD2 hC2⟩
    | trace n b =>
      have du := obj (.trace n b) (by intro b z; cases z) ▸ du
      refine ⟨_, rfl, pr, dr, _, rfl, hC, rfl, ?_⟩
      (try unfold tNil)
      (try dsimp only)
      refine first hk.1 fun H1 kp1 hD1 hC1 hS1 => ?_
      refine ⟨_, rfl, rfl, _, rfl, if_false_of (by decide) ?_⟩; refine ⟨_, rfl, rfl, _, rfl, if_false_of (by decide) ?_⟩; refine ⟨_, rfl, rfl, _, rfl, if_false_of (by decide) ?_⟩; refine ⟨_, rfl, rfl, _, rfl, if_false_of (by decide) ?_⟩; refine ⟨_, rfl, rfl, _, rfl, if_true_of (by decide) ?_⟩
      refine ⟨_, rfl, pr, dr, _, rfl, hC1, rfl, ?_⟩
      (try unfold tNil)
      (try dsimp only)
      refine second kp1 hD1 hC1 hS1 hk.2.1 fun H2 kp2 hD2 hC2 hS2 => ?_
      refine ⟨_, rfl, _, rfl, _, rfl, pr, dr, _, rfl, hC2, rfl, ?_⟩
      (try unfold tNil)
      (try dsimp only)
      refine row kp2 hD2 hC2 hS2 hk.2.2 fun r H3 kp3 hD3 hC3 e3 => ?_
      exact ⟨pd, dx, tl, r, o, b, n, rfl, hD3, .of e3, hk.2.2.2.2.2.2, du.due kp3 hD3 hC3⟩
    | held b =>
      have du := obj (.held b) (by intro b z; cases z) ▸ du
      refine ⟨_, rfl, pr, dr, _, rfl, hC, rfl, ?_⟩
      (try unfold tNil)
      (try dsimp only)
      refine first hk.1 fun H1 kp1 hD1 hC1 hS1 => ?_
      refine ⟨_, rfl, rfl, _, rfl, if_false_of (by decide) ?_⟩; refine ⟨_, rfl, rfl, _, rfl, if_false_of (by decide) ?_⟩; refine ⟨_, rfl, rfl, _, rfl, if_false_of (by decide) ?_⟩; refine ⟨_, rfl, rfl, _, rfl, if_false_of (by decide) ?_⟩; refine ⟨_, rfl, rfl, _, rfl, if_false_of (by decide) ?_⟩; refine ⟨_, rfl, rfl, _, rfl, if_true_of (by decide) ?_⟩
      refine ⟨_, rfl, _, rfl, pr, dr, _, rfl, hC1, rfl, ?_⟩
      (try unfold tNil)
      (try dsimp only)
      refine row kp1 hD1 hC1 hS1 hk.2 fun r H2 kp2 hD2 hC2 e2 => ?_
      exact ⟨pd, dx, tl, r, o, b, rfl, hD2, .of e2, hk.2.2.2.2.2, du.due kp2 hD2 hC2⟩
    | touched b =>
      have du := obj (.touched b) (by intro b z; cases z) ▸ du
      refine ⟨_, rfl, pr, dr, _, rfl, hC, rfl, ?_⟩
      (try unfold tNil)
      (try dsimp only)
      refine first hk.1 fun H1 kp1 hD1 hC1 hS1 => ?_
      refine ⟨_, rfl, rfl, _, rfl, if_false_of (by decide) ?_⟩; refine ⟨_, rfl, rfl, _, rfl, if_false_of (by decide) ?_⟩; refine ⟨_, rfl, rfl, _, rfl, if_false_of (by decide) ?_⟩; refine ⟨_, rfl, rfl, _, rfl, if_false_of (by decide) ?_⟩; refine ⟨_, rfl, rfl, _, rfl, if_false_of (by decide) ?_⟩; refine ⟨_, rfl, rfl, _, rfl, if_false_of (by decide) ?_⟩; refine ⟨_, rfl, rfl, _, rfl, if_true_of (by decide) ?_⟩
      refine ⟨_, rfl, _, rfl, pr, dr, _, rfl, hC1, rfl, ?_⟩
      (try unfold tNil)
      (try dsimp only)
      refine row kp1 hD1 hC1 hS1 hk.2 fun r H2 kp2 hD2 hC2 e2 => ?_
      exact ⟨pd, dx, tl, r, o, b, rfl, hD2, .of e2, hk.2.2.2.2.2, du.due kp2 hD2 hC2⟩
    | again n b =>
      have du := obj (.again n b) (by intro b z; cases z) ▸ du
      refine ⟨_, rfl, pr, dr, _, rfl, hC, rfl, ?_⟩
      (try unfold tNil)
      (try dsimp only)
      refine first hk.1 fun H1 kp1 hD1 hC1 hS1 => ?_
      refine ⟨_, rfl, rfl, _, rfl, if_false_of (by decide) ?_⟩; refine ⟨_, rfl, rfl, _, rfl, if_false_of (by decide) ?_⟩; refine ⟨_, rfl, rfl, _, rfl, if_false_of (by decide) ?_⟩; refine ⟨_, rfl, rfl, _, rfl, if_false_of (by decide) ?_⟩; refine ⟨_, rfl, rfl, _, rfl, if_false_of (by decide) ?_⟩; refine ⟨_, rfl, rfl, _, rfl, if_false_of (by decide) ?_⟩; refine ⟨_, rfl, rfl, _, rfl, if_false_of (by decide) ?_⟩; refine ⟨_, rfl, rfl, _, rfl, if_true_of (by decide) ?_⟩
      refine ⟨_, rfl, pr, dr, _, rfl, hC1, rfl, ?_⟩
      (try unfold tNil)
      (try dsimp only)
      refine second kp1 hD1 hC1 hS1 hk.2.1 fun H2 kp2 hD2 hC2 hS2 => ?_
      refine ⟨_, rfl, _, rfl, _, rfl, pr, dr, _, rfl, hC2, rfl, ?_⟩
      (try unfold tNil)
      (try dsimp only)
      refine row kp2 hD2 hC2 hS2 hk.2.2 fun r H3 kp3 hD3 hC3 e3 => ?_
      exact ⟨pd, dx, tl, r, o, b, n, rfl, hD3, .of e3, hk.2.2.2.2.2.2, du.due kp3 hD3 hC3⟩
    | rest b =>
      have du := obj (.rest b) (by intro b z; cases z) ▸ du
      refine ⟨_, rfl, pr, dr, _, rfl, hC, rfl, ?_⟩
      (try unfold tNil)
      (try dsimp only)
      refine first hk.1 fun H1 kp1 hD1 hC1 hS1 => ?_
      refine ⟨_, rfl, rfl, _, rfl, if_false_of (by decide) ?_⟩; refine ⟨_, rfl, rfl, _, rfl, if_false_of (by decide) ?_⟩; refine ⟨_, rfl, rfl, _, rfl, if_false_of (by decide) ?_⟩; refine ⟨_, rfl, rfl, _, rfl, if_false_of (by decide) ?_⟩; refine ⟨_, rfl, rfl, _, rfl, if_false_of (by decide) ?_⟩; refine ⟨_, rfl, rfl, _, rfl, if_false_of (by decide) ?_⟩; refine ⟨_, rfl, rfl, _, rfl, if_false_of (by decide) ?_⟩; refine ⟨_, rfl, rfl, _, rfl, if_false_of (by decide) ?_⟩; refine ⟨_, rfl, rfl, _, rfl, if_true_of (by decide) ?_⟩
      refine ⟨_, rfl, _, rfl, pr, dr, _, rfl, hC1, rfl, ?_⟩
      (try unfold tNil)
      (try dsimp only)
      refine row kp1 hD1 hC1 hS1 hk.2 fun r H2 kp2 hD2 hC2 e2 => ?_
      exact ⟨pd, dx, tl, r, o, b, rfl, hD2, .of e2, hk.2.2.2.2.2, du.due kp2 hD2 hC2⟩
end
end LD

namespace LD
open PySem PySem.Spec PyProof.Rows L2 LN
open VasedBase (Bytes word textRow one textAnswer Answer)
open VasedaNeutral (encode)
abbrev s_answers : Stmt := top 123
abbrev s_answer_or_refusal : Stmt := top 124
/-- which clause takes which error -/
structure Clauses (K : PySem.W.Frag) (A : Ad) : Prop where
  ss : PySem.W.exmOne K (.ref A.nS) (.ref A.nS) = some true
  ts : PySem.W.exmOne K (.ref A.nT) (.ref A.nS) = some false
  tt : PySem.W.exmOne K (.ref A.nT) (.ref A.nT) = some true
  ms : PySem.W.exmOne K (.ref A.tM) (.ref A.nS) = some false
  mt : PySem.W.exmOne K (.ref A.tM) (.ref A.nT) = some false
  mm : PySem.W.exmOne K (.ref A.tM) (.ref A.tM) = some true
  ls : PySem.W.exmOne K (.ref A.nL) (.ref A.nS) = some false
  lt : PySem.W.exmOne K (.ref A.nL) (.ref A.nT) = some false
  lm : PySem.W.exmOne K (.ref A.nL) (.ref A.tM) = some false
  ll : PySem.W.exmOne K (.ref A.nL) (.ref A.nL) = some true
  os : PySem.W.exmOne K (.ref A.nO) (.ref A.nS) = some false
  ot : PySem.W.exmOne K (.ref A.nO) (.ref A.nT) = some false
  om : PySem.W.exmOne K (.ref A.nO) (.ref A.tM) = some false
  ol : PySem.W.exmOne K (.ref A.nO) (.ref A.nL) = some false
  oo : PySem.W.exmOne K (.ref A.nO) (.ref A.nO) = some true
/-- a clause's suite: the number below nought -/
def tsC (n : Int) : Addr → Value → Option Addr → TS := fun _ _ _ => tRet (tLst (tCons (tUn (rU fun i => .int (-i)) (tC (.int n))) tNil))
section
variable {P : Program} {w : World} {K : PySem.W.Frag} {mg : Str → Option Value} {base : Heap} {A : Ad}
def sp_ans_or (K : PySem.W.Frag) (A : Ad) : Sp := fun vs H Q _ => ∃ (pd dx tl pr dr ca : Addr) (i j : Nat) (l : List Int) (o : Vaseda.Obj) (k : Vaseda.Call), vs = [.ref pd, .ref pr] ∧ DeskAt A H pd dx tl o ∧ CallAt A H pr dr ca i ∧ SqL K H ca (iV l) ∧ (∃ u, H tl = some u) ∧ Coded l i j k ∧
  ∀ p H', Left A H pd dx tl pr dr ca j (Vaseda.step o k).1 H' → H p = none → H' p = some (.lst ((encode (Vaseda.step o k).2).map V.int)) → Q (.ref p) H'
theorem sc_ans_or : FnScope ["desk", "reader"] ["desk", "reader"] (defScope s_answer_or_refusal) := ⟨rfl, rfl, rfl, by decide +kernel, rfl, by decide +kernel, by decide +kernel⟩
theorem Left.new {H H' : Hp} {pd dx tl pr dr ca l : Addr} {j : Nat} {o : Vaseda.Obj} {u : HO} (h : Left A H pd dx tl pr dr ca j o H') (hl : H' l = none) : Left A H pd dx tl pr dr ca j o (upd H' l u) := by
  obtain ⟨a, b, c⟩ := h
  have s : Same H' (upd H' l u) := same_new hl
  exact ⟨a.trans (Same.keep s), b.same s, s _ _ c⟩
theorem g_ans_or (D : Dn K mg "answer_or_refusal" s_answer_or_refusal) (TS : XTxt K mg "NoScript" A.nS) (TN : XTxt K mg "NotAText" A.nT) (TM : XTxt K mg "TooMuch" A.tM) (TL : XTxt K mg "NoSuchLine" A.nL) (TO : XTxt K mg "NotSoOften" A.nO) (C : Clauses K A)
    (G1 : Gd P w K mg base (L2.CX P w) 45 "answer_call" ["desk", "reader"] (sp_answer_call K A)) : Gd P w K mg base CX0 50 "answer_or_refusal" ["desk", "reader"] (sp_ans_or K A) := by
  obtain ⟨f, fd, m, F⟩ := D
  obtain ⟨f1, fd1, m1, k1, b1, F1⟩ := G1
  refine ⟨f, fd, m, F.kp, F.binds (fun _ _ _ _ _ _ us hl => match us, hl with | [_, _], _ => rfl), F.ok sc_ans_or (fun vs H Q E h => ?_) (fun cdv A' outer s H vs Q E hr h => ?_)⟩
  · obtain ⟨pd, dx, tl, pr, dr, ca, i, j, l, o, k, rfl, _⟩ := h; rfl
  · have hr1 : Room 45 _ := hr.mono (by decide)
    refine ⟨_, (L2.pss_one (ps_try_many (tb := fun W => tRet (tCallS (sp_answer_call K A) (WE W) (tCons (tVar 0) (tCons (tVar 1) tNil)))) (Wout := fun _ _ _ _ => False) (l := [(.ref A.nS, tsC 1), (.ref A.nT, tsC 4), (.ref A.tM, tsC 7), (.ref A.nL, tsC 3), (.ref A.nO, tsC 3)]) rfl rfl takes0
      (fun W pn xe tk _ => pss_one (ps_ret (by exact (pe_callS F1 hr1 rfl m1 k1 b1 (fun σ => passAt tk σ) (by exact (L2.pa_cons (pv 0) (L2.pa_cons (pv 1) L2.pa_nil)))))))
      (.cons ⟨rfl, by decide, .inl TS.g⟩ (fun a oe cls d pn hz hf => pss_one (ps_ret (pe_lst (by exact (L2.pa_cons (pe_un un_neg pe_int) L2.pa_nil)))))
      (.cons ⟨rfl, by decide, .inl TN.g⟩ (fun a oe cls d pn hz hf => pss_one (ps_ret (pe_lst (by exact (L2.pa_cons (pe_un un_neg pe_int) L2.pa_nil)))))
      (.cons ⟨rfl, by decide, .inl TM.g⟩ (fun a oe cls d pn hz hf => pss_one (ps_ret (pe_lst (by exact (L2.pa_cons (pe_un un_neg pe_int) L2.pa_nil)))))
      (.cons ⟨rfl, by decide, .inl TL.g⟩ (fun a oe cls d pn hz hf => pss_one (ps_ret (pe_lst (by exact (L2.pa_cons (pe_un un_neg pe_int) L2.pa_nil)))))
      (.cons ⟨rfl, by decide, .inl TO.g⟩ (fun a oe cls d pn hz hf => pss_one (ps_ret (pe_lst (by exact (L2.pa_cons (pe_un un_neg pe_int) L2.pa_nil)))))
      .nil))))))), ?_⟩
    obtain ⟨pd, dx, tl, pr, dr, ca, i, j, l, o, k, rfl, hD, hC, hS, htl, hk, q⟩ := h
    have fin : ∀ {n : Int} {H' : Hp} {D : L2.Ends} {σ : L2.St} {a : Addr} {cls : Value} {d : Option Addr}, D.rt = Q → encode (Vaseda.step o k).2 = [-n] → Left A H pd dx tl pr dr ca j (Vaseda.step o k).1 H' → tsC n a cls d D σ H' := fun {n H' D σ a cls d} eD e hL => by
      refine ⟨_, rfl, by show 1 ≤ sizeLine; decide, fun l hl => ?_⟩
      rw [eD]
      obtain ⟨kp, hD', hC'⟩ := id hL
      obtain ⟨v, ev⟩ := hD'.obj
      exact q l _ (hL.new hl) (none_keep kp ev hC' hl) (by rw [upd_same, e]; rfl)
    refine ⟨_, rfl, _, rfl, pd, dx, tl, pr, dr, ca, i, j, l, o, k, rfl, hD, hC, hS, htl, hk, fun p H' hL n e => q p H' hL n e, ?_, ?_, ?_, ?_, ?_⟩
    · intro e H' hL
      exact ⟨true, C.ss, fun _ a _ => fin rfl e hL, fun z => Bool.noConfusion z⟩
    · intro e H' hL
      exact ⟨false, C.ts, fun z => Bool.noConfusion z, fun _ => ⟨true, C.tt, fun _ a _ => fin rfl e hL, fun z => Bool.noConfusion z⟩⟩
    · intro e H' hL
      exact ⟨false, C.ms, fun z => Bool.noConfusion z, fun _ => ⟨false, C.mt, fun z => Bool.noConfusion z, fun _ => ⟨true, C.mm, fun _ a _ => fin rfl e hL, fun z => Bool.noConfusion z⟩⟩⟩
    · intro e H' hL
      exact ⟨false, C.ls, fun z => Bool.noConfusion z, fun _ => ⟨false, C.lt, fun z => Bool.noConfusion z, fun _ => ⟨false, C.lm, fun z => Bool.noConfusion z, fun _ => ⟨true, C.ll, fun _ a _ => fin rfl e hL, fun z => Bool.noConfusion z⟩⟩⟩⟩
    · intro e H' hL
      exact ⟨false, C.os, fun z => Bool.noConfusion z, fun _ => ⟨false, C.ot, fun z => Bool.noConfusion z, fun _ => ⟨false, C.om, fun z => Bool.noConfusion z, fun _ => ⟨false, C.ol, fun z => Bool.noConfusion z, fun _ => ⟨true, C.oo, fun _ a _ => fin rfl e hL, fun z => Bool.noConfusion z⟩⟩⟩⟩⟩
/-! ### all calls -/
/-- the calls from i on -/
def Codes (l : List Int) : Nat → List Vaseda.Call → Prop
  | i, [] => i = l.length
  | i, k :: ks => i < l.length ∧ ∃ j, Coded l i j k ∧ Codes l j ks
/-- what is told of them -/
def toldO : Vaseda.Obj → List Vaseda.Call → List Int
  | _, [] => []
  | o, k :: ks => ((encode (Vaseda.step o k).2).length : Int) :: encode (Vaseda.step o k).2 ++ toldO (Vaseda.step o k).1 ks
def sp_answers (K : PySem.W.Frag) : Sp := fun vs H Q _ => ∃ (ca : Addr) (l : List Int) (ks : List Vaseda.Call), vs = [.ref ca] ∧ SqL K H ca (iV l) ∧ Codes l 0 ks ∧ (toldO none ks).length ≤ 10000000 ∧ ∀ p H', Same H H' → H' p = some (.lst (iV (toldO none ks))) → Q (.ref p) H'
theorem sc_answers : FnScope ["calls", "desk", "reader", "told", "answer"] ["calls"] (defScope s_answers) := ⟨rfl, rfl, rfl, by decide +kernel, rfl, by decide +kernel, by decide +kernel⟩
theorem DeskAt.tl {H H' : Hp} {p dx tl : Addr} {xs : List V} (ht : H tl = some (.lst xs)) (s : But tl H H') : ∀ {o : Vaseda.Obj}, DeskAt A H p dx tl o → DeskAt A H' p dx tl o
  | none, h => s _ _ h (ne_of h ht (by intro z; cases z))
  | some _, ⟨cs, a, ⟨l, b1, b2, b3⟩, c1, c2, c3⟩ => ⟨cs, s _ _ a (ne_of a ht (by intro z; cases z)), ⟨l, s _ _ b1 c3, b2, fun q hq => (b3 q hq).but ht True.intro (fun _ _ z => by cases z) s⟩, c1, c2, c3⟩
theorem ok_answers {f : Addr} {fd : FuncData} (F : Fun K "answers" "answers" s_answers f fd) (TX : Txt K mg) (T : CallT K mg A) (TD : DeskT K mg A) (ap : Apart A) (G1 : Gi P w K mg base 5 A.desk ["self"] (sp_desk_init A)) (G2 : Gi P w K mg base 5 A.call ["self", "calls"] (sp_call_init A)) (G3 : Gm P w K mg base CX0 5 A.call "has_more" ["self"] (sp_has_more K A))
    (G4 : Gd P w K mg base CX0 50 "answer_or_refusal" ["desk", "reader"] (sp_ans_or K A)) : FnOk P w K mg base CX0 55 f fd ["calls"] (sp_answers K) := by
  obtain ⟨f1, fd1, m1, b1, F1⟩ := G1
  obtain ⟨f2, fd2, m2, b2, F2⟩ := G2
  obtain ⟨f3, fd3, m3, b3, F3⟩ := G3
  obtain ⟨f4, fd4, m4, k4, b4, F4⟩ := G4
  refine F.ok sc_answers (fun vs H Q E h => ?_) (fun cdv A' outer s H vs Q E hr h => ?_)
  · obtain ⟨ca, l, ks, rfl, _⟩ := h; rfl
  · refine ⟨_, (L2.pss_cons (ps_set (i := 1) sc_answers.nd rfl (.inl rfl) (pe_make0 m1 F1 (hr.mono (by decide)) rfl TD.g b1 .nil pass0)) (L2.pss_cons (ps_set (i := 2) sc_answers.nd rfl (.inl rfl) (pe_make m2 F2 (hr.mono (by decide)) rfl T.g b2 .nil pass0 (L2.pa_cons (pv 0) L2.pa_nil))) (L2.pss_cons (ps_set (i := 3) sc_answers.nd rfl (.inl rfl) (pe_lst pa_nil)) (L2.pss_cons (ps_while PassesOwn.never (pt_val (pe_meth0 (pv 2) T.cl m3 F3 (hr.mono (by decide)) b3 .nil pass0)) (L2.pss_cons (ps_set (i := 4) sc_answers.nd rfl (.inl rfl) (pe_call F4 (hr.mono (by decide)) rfl m4 k4 b4 .nil pass0 (L2.pa_cons (pv 1) (L2.pa_cons (pv 2) L2.pa_nil)))) (L2.pss_cons (ps_expr (pe_bm PySem.F.plainAttrs_list PySem.F.slot_list_append PySem.F.type_list_append mt_append (pv 3) (L2.pa_cons ((pe_callB call_len_seq (by rfl) TX.len PySem.boot_len (pa_cons (pv 4) pa_nil))) L2.pa_nil))) (L2.pss_one (ps_expr (pe_bm PySem.F.plainAttrs_list PySem.F.slot_list_extend PySem.F.type_list_extend mt_extend (pv 3) (L2.pa_cons (pv 4) L2.pa_nil))))))) (L2.pss_one (ps_ret (pv 3))))))), ?_⟩
    obtain ⟨ca, l, ks, rfl, hS, hk, len, q⟩ := h
    intro pd dx hpd hdx ndx
    refine ⟨pd, dx, rfl, upd_same, fun H1 bt1 e1 => ⟨rfl, ?_⟩⟩
    have s1 : Same H H1 := Same.made hpd hdx bt1
    refine ⟨_, rfl, fun pr dr hpr hdr ndr => ?_⟩
    refine ⟨pr, dr, ca, rfl, upd_same, fun H2 bt2 hC2 => ⟨rfl, ?_⟩⟩
    have s2 : Same H1 H2 := Same.made hpr hdr bt2
    refine ⟨by decide, fun tl htl => ?_⟩
    have s3 : Same H2 (upd H2 tl (.lst [])) := same_new htl
    have hD1 : DeskAt A H1 pd dx tl none := e1
    have hD3 := (hD1.same s2).same s3
    have hC3 : CallAt A (upd H2 tl (.lst [])) pr dr ca 0 := s3 _ _ hC2
    have e3 : upd H2 tl (.lst []) tl = some (.lst []) := upd_same
    generalize upd H2 tl (.lst []) = H3 at s3 hD3 hC3 e3 ⊢
    have hpr0 : H pr = none := none_back s1 hpr
    have htl0 : H tl = none := none_back (s1.trans s2) htl
    refine ⟨fun mm σ H' => ∃ (i : Nat) (o : Vaseda.Obj) (ks' : List Vaseda.Call) (dn : List Int) (x4 : Option V), mm = ks'.length ∧ σ = [some (.ref ca), some (.ref pd), some (.ref pr), some (.ref tl), x4] ∧ Same H H' ∧ DeskAt A H' pd dx tl o ∧ CallAt A H' pr dr ca i ∧ Codes l i ks' ∧ H' tl = some (.lst (iV dn)) ∧ dn ++ toldO o ks' = toldO none ks,
      ⟨_, 0, none, ks, [], _, rfl, rfl, s1.trans (s2.trans s3), hD3, hC3, hk, e3, rfl⟩, ?_⟩
    rintro mm σ H' ⟨i, o, ks', dn, x4, rfl, rfl, sm, hD, hC, hk', et, eq⟩
    have hS' := sm.seq hS
    refine ⟨_, rfl, pr, dr, _, rfl, hC, rfl, pr, dr, ca, i, l, rfl, hC, hS', _, rfl, ?_⟩
    cases ks' with
    | nil =>
      have hi : i = l.length := hk'
      refine if_false_of (decide_eq_false (by omega)) ⟨_, rfl, q tl H' sm ?_⟩
      have e0 : toldO o [] = [] := rfl
      rw [e0, List.append_nil] at eq
      rw [et, eq]
    | cons k r =>
      obtain ⟨hi, j, hc, hr'⟩ := hk'
      refine if_true_of (decide_eq_true hi) ?_
      refine ⟨fun σ' H' => ∃ (i : Nat) (o : Vaseda.Obj) (ks' : List Vaseda.Call) (dn : List Int) (x4 : Option V), ks'.length = r.length ∧ σ' = [some (.ref ca), some (.ref pd), some (.ref pr), some (.ref tl), x4] ∧ Same H H' ∧ DeskAt A H' pd dx tl o ∧ CallAt A H' pr dr ca i ∧ Codes l i ks' ∧ H' tl = some (.lst (iV dn)) ∧ dn ++ toldO o ks' = toldO none ks,
        fun σ' H'' ⟨i', o', ks2, dn2, x42, h1, h2⟩ => ⟨ks2.length, by rw [h1]; simp, i', o', ks2, dn2, x42, rfl, h2⟩, ?_⟩
      refine ⟨_, rfl, _, rfl, pd, dx, tl, pr, dr, ca, i, j, l, o, k, rfl, hD, hC, hS', ⟨_, et⟩, hc, fun p H4 hL hn e4 => ?_⟩
      obtain ⟨kp, hD4, hC4⟩ := hL
      obtain ⟨v, ev⟩ := hD.obj
      have et4 : H4 tl = some (.lst (iV dn)) := kp _ _ et (by
        simp only [List.mem_cons, List.not_mem_nil, or_false]
        rintro (z | z)
        · rw [z, ev] at et; cases et
        · rw [z, show H' pr = some _ from hC] at et; cases et)
      have sm4 : Same H H4 := fun b u e => kp _ _ (sm _ _ e) (by
        simp only [List.mem_cons, List.not_mem_nil, or_false]
        rintro (z | z)
        · rw [z, hpd] at e; cases e
        · rw [z, hpr0] at e; cases e)
      have hpt : p ≠ tl := fun z => by rw [z, et] at hn; cases hn
      have tot : (dn ++ (((encode (Vaseda.step o k).2).length : Int) :: encode (Vaseda.step o k).2) ++ toldO (Vaseda.step o k).1 r).length ≤ 10000000 := by
        have e0 : toldO o (k :: r) = (((encode (Vaseda.step o k).2).length : Int) :: encode (Vaseda.step o k).2) ++ toldO (Vaseda.step o k).1 r := rfl
        rw [e0, ← List.append_assoc] at eq
        rw [eq]; exact len
      simp only [List.length_append, List.length_cons] at tot
      refine ⟨_, rfl, .inl ⟨rfl, _, .of et4⟩, _, rfl, p, _, rfl, .inl (.of e4), ?_⟩
      rw [List.length_map]
      refine ⟨tl, _, _, rfl, rfl, et4, by rw [iV_length, sizeLine_eq]; omega, ?_⟩
      have e5 : upd H4 tl (.lst (iV dn ++ [V.int ((encode (Vaseda.step o k).2).length : Nat)])) p = some (.lst ((encode (Vaseda.step o k).2).map V.int)) := by rw [upd_ne hpt]; exact e4
      have t5 : upd H4 tl (.lst (iV dn ++ [V.int ((encode (Vaseda.step o k).2).length : Nat)])) tl = some (.lst (iV dn ++ [V.int ((encode (Vaseda.step o k).2).length : Nat)])) := upd_same
      refine ⟨_, rfl, .inl ⟨rfl, _, .of t5⟩, _, rfl, tl, p, _, _, rfl, rfl, t5, e5, by rw [List.length_append, iV_length, List.length_map, List.length_singleton, sizeLine_eq]; omega, ?_⟩
      rw [upd_upd]
      have bt5 : But tl H4 (upd H4 tl (.lst (iV dn ++ [V.int ((encode (Vaseda.step o k).2).length : Nat)] ++ (encode (Vaseda.step o k).2).map V.int))) := But.upd
      refine ⟨j, _, r, dn ++ (((encode (Vaseda.step o k).2).length : Int) :: encode (Vaseda.step o k).2), _, rfl, rfl, Same.write htl0 sm4, DeskAt.tl et4 bt5 hD4, ?_, hr', ?_, ?_⟩
      · exact bt5 _ _ hC4 (ne_of (show H4 pr = some _ from hC4) et4 (by intro z; cases z))
      · rw [upd_same]
        unfold iV
        simp
      · rw [← eq]
        show _ = dn ++ ((((encode (Vaseda.step o k).2).length : Int) :: encode (Vaseda.step o k).2) ++ toldO (Vaseda.step o k).1 r)
        simp
end
end LD

namespace LD
open VasedBase (Bytes)
open VasedaNeutral (encode callOf bytesOf natural asked1)
/-! ### the list of numbers, read as calls -/
theorem nat8 {z : Int} (h : natural z 8 = true) : 0 ≤ z ∧ z < 256 := by
  unfold VasedaNeutral.natural at h
  rw [Bool.and_eq_true, decide_eq_true_iff, decide_eq_true_iff] at h
  exact ⟨h.1, by have := h.2; omega⟩
theorem bI_bytes : ∀ {x : List Int}, x.all (fun z => natural z 8) = true → bI (bytesOf x) = x
  | [], _ => rfl
  | z :: r, h => by
    rw [List.all_cons, Bool.and_eq_true] at h
    have hz := nat8 h.1
    have e : bI (bytesOf (z :: r)) = ((UInt8.ofNat z.toNat).toNat : Int) :: bI (bytesOf r) := rfl
    rw [e, bI_bytes h.2, UInt8.toNat_ofNat_of_lt' (by show z.toNat < 256; omega)]
    congr 1
    omega
theorem bytes_ok {x : List Int} (h : x.all (fun z => natural z 8) = true) : NeutralIO.bytes x = true := by
  unfold NeutralIO.bytes
  rw [List.all_eq_true] at h ⊢
  intro z hz
  have := nat8 (h z hz)
  rw [Bool.and_eq_true, decide_eq_true_iff, decide_eq_true_iff]
  omega
theorem bytesOf_len (x : List Int) : (bytesOf x).length = x.length := by unfold VasedaNeutral.bytesOf; rw [List.length_map]
theorem at_drop {L r : List Int} {i : Nat} {z : Int} (h : L.drop i = z :: r) : L[i]? = some z ∧ r = L.drop (i + 1) ∧ i < L.length := by
  have hi : i < L.length := by
    refine Nat.lt_of_not_le fun c => ?_
    rw [List.drop_eq_nil_of_le c] at h
    cases h
  rw [List.drop_eq_getElem_cons hi] at h
  injection h with h1 h2
  exact ⟨by rw [List.getElem?_eq_getElem hi, h1], h2.symm, hi⟩
theorem row_at {L x s : List Int} {i : Nat} (h : PyFlat.row (L.drop i) = some (x, s)) (hb : x.all (fun z => natural z 8) = true) (hl : x.length ≤ 8192) : ∃ j, RowAt L i j (bytesOf x) ∧ s = L.drop j := by
  cases e : L.drop i with
  | nil => rw [e] at h; cases h
  | cons n r =>
    obtain ⟨h1, h2, h3⟩ := at_drop e
    rw [e] at h
    have h : (if 0 ≤ n ∧ n.toNat ≤ r.length then some (r.take n.toNat, r.drop n.toNat) else none) = some (x, s) := h
    by_cases c : 0 ≤ n ∧ n.toNat ≤ r.length
    · rw [if_pos c] at h
      injection h with h
      injection h with hx hs
      have lx : x.length = n.toNat := by rw [← hx, List.length_take]; omega
      have lr : r.length = L.length - (i + 1) := by rw [h2, List.length_drop]
      refine ⟨i + 1 + n.toNat, ⟨?_, ?_, ?_, ?_, ?_⟩, ?_⟩
      · rw [h1, bytesOf_len, lx]; congr 1; omega
      · rw [bytesOf_len, lx]
      · have := c.2; omega
      · rw [bytesOf_len, lx, ← h2, hx, bI_bytes hb]
      · rw [bytesOf_len]; exact hl
      · rw [← hs, h2, List.drop_drop]
    · rw [if_neg c] at h; cases h
/-- what asked1 says of a row -/
theorem row_asked {b : List Int} (h : ((b.all fun z => natural z 8) && decide (b.length ≤ 8192)) = true) : (b.all fun z => natural z 8) = true ∧ b.length ≤ 8192 := by
  rw [Bool.and_eq_true, decide_eq_true_iff] at h
  exact h
theorem rows_one {l : List Int} {xs : List (List Int)} {t : List Int} (h : PyFlat.rows 1 l = some (xs, t)) : ∃ x, PyFlat.row l = some (x, t) ∧ xs = [x] := by
  have h : (match PyFlat.row l with | none => none | some (x, s) => match PyFlat.rows 0 s with | none => none | some (xs, t) => some (x :: xs, t)) = some (xs, t) := h
  cases e : PyFlat.row l with
  | none => rw [e] at h; cases h
  | some y =>
    obtain ⟨x, s⟩ := y
    rw [e] at h
    have h : some ([x], s) = some (xs, t) := h
    injection h with h
    injection h with h1 h2
    exact ⟨x, by rw [h2], h1.symm⟩
theorem rows_zero {l : List Int} {xs : List (List Int)} {t : List Int} (h : PyFlat.rows 0 l = some (xs, t)) : xs = [] ∧ t = l := by
  have h : some (([] : List (List Int)), l) = some (xs, t) := h
  injection h with h
  injection h with h1 h2
  exact ⟨h1.symm, h2.symm⟩
theorem call_parts {p : Int} {r t : List Int} {c : List (List Int)} {n k : Nat} (h : PyFlat.call PyVaseda.shape (p :: r) = some (c, t)) (hs : PyVaseda.shape p = some (n, k)) : n ≤ r.length ∧ ∃ xs, PyFlat.rows k (r.drop n) = some (xs, t) ∧ c = (p :: r.take n) :: xs := by
  have h : (match PyVaseda.shape p with | none => none | some (n, k) => if r.length < n then none else match PyFlat.rows k (r.drop n) with | none => none | some (xs, t) => some ((p :: r.take n) :: xs, t)) = some (c, t) := h
  rw [hs] at h
  have h : (if r.length < n then none else match PyFlat.rows k (r.drop n) with | none => none | some (xs, t) => some ((p :: r.take n) :: xs, t)) = some (c, t) := h
  by_cases l : r.length < n
  · rw [if_pos l] at h; cases h
  · rw [if_neg l] at h
    refine ⟨by omega, ?_⟩
    cases e : PyFlat.rows k (r.drop n) with
    | none => rw [e] at h; cases h
    | some y =>
      obtain ⟨xs, t'⟩ := y
      rw [e] at h
      have h : some ((p :: r.take n) :: xs, t') = some (c, t) := h
      injection h with h
      injection h with h1 h2
      exact ⟨xs, by rw [h2], h1.symm⟩
/-- a call with a row alone -/
theorem call_row {L r t : List Int} {i : Nat} {p : Int} {c : List (List Int)} (e : L.drop i = p :: r) (h : PyFlat.call PyVaseda.shape (p :: r) = some (c, t)) (hs : PyVaseda.shape p = some (0, 1)) :
    ∃ x, c = [[p], x] ∧ ((x.all fun z => natural z 8) = true → x.length ≤ 8192 → ∃ j, RowAt L (i + 1) j (bytesOf x) ∧ t = L.drop j) := by
  obtain ⟨_, xs, h1, h2⟩ := call_parts h hs
  obtain ⟨x, h3, h4⟩ := rows_one h1
  subst h4
  refine ⟨x, h2, fun hb hl => ?_⟩
  have h3 : PyFlat.row r = some (x, t) := h3
  rw [(at_drop e).2.1] at h3
  exact row_at h3 hb hl
/-- a call with a number and a row -/
theorem call_num {L r t : List Int} {i : Nat} {p : Int} {c : List (List Int)} (e : L.drop i = p :: r) (h : PyFlat.call PyVaseda.shape (p :: r) = some (c, t)) (hs : PyVaseda.shape p = some (1, 1)) :
    ∃ k x, c = [[p, k], x] ∧ L[i + 1]? = some k ∧ ((x.all fun z => natural z 8) = true → x.length ≤ 8192 → ∃ j, RowAt L (i + 2) j (bytesOf x) ∧ t = L.drop j) := by
  obtain ⟨hl, xs, h1, h2⟩ := call_parts h hs
  obtain ⟨x, h3, h4⟩ := rows_one h1
  subst h4
  cases r with
  | nil => simp at hl
  | cons k r' =>
    have e2 := (at_drop e).2.1
    obtain ⟨e3, e4, _⟩ := at_drop e2.symm
    refine ⟨k, x, h2, e3, fun hb hl => ?_⟩
    have h3 : PyFlat.row r' = some (x, t) := h3
    rw [e4] at h3
    exact row_at h3 hb hl
/-- one call of the list is one call of the document -/
theorem call_coded {L r t : List Int} {i : Nat} {p : Int} {c : List (List Int)} (e : L.drop i = p :: r) (h : PyFlat.call PyVaseda.shape (p :: r) = some (c, t)) (ha : asked1 c = true) :
    ∃ k j, callOf c = some k ∧ Coded L i j k ∧ t = L.drop j := by
  have hp := (at_drop e).1
  by_cases h0 : p = 0
  · subst h0
    obtain ⟨x, rfl, fin⟩ := call_row e h rfl
    obtain ⟨hb, hl⟩ := row_asked (b := x) ha
    obtain ⟨j, hr, ht⟩ := fin hb hl
    exact ⟨.load (bytesOf x), j, by show (if _ then _ else _) = _; rw [if_pos (bytes_ok hb)], ⟨hp, hr⟩, ht⟩
  by_cases h1 : p = 1
  · subst h1
    obtain ⟨_, xs, g1, g2⟩ := call_parts h (n := 0) (k := 0) rfl
    obtain ⟨rfl, g3⟩ := rows_zero g1
    subst g2
    exact ⟨.shown, i + 1, rfl, ⟨hp, rfl⟩, by rw [g3]; exact (at_drop e).2.1⟩
  by_cases h2 : p = 2
  · subst h2
    obtain ⟨x, rfl, fin⟩ := call_row e h rfl
    obtain ⟨hb, hl⟩ := row_asked (b := x) ha
    obtain ⟨j, hr, ht⟩ := fin hb hl
    exact ⟨.run (bytesOf x), j, by show (if _ then _ else _) = _; rw [if_pos (bytes_ok hb)], ⟨hp, hr⟩, ht⟩
  by_cases h3 : p = 3
  · subst h3
    obtain ⟨x, rfl, fin⟩ := call_row e h rfl
    obtain ⟨hb, hl⟩ := row_asked (b := x) ha
    obtain ⟨j, hr, ht⟩ := fin hb hl
    exact ⟨.origins (bytesOf x), j, by show (if _ then _ else _) = _; rw [if_pos (bytes_ok hb)], ⟨hp, hr⟩, ht⟩
  by_cases h4 : p = 4
  · subst h4
    obtain ⟨k, x, rfl, hk, fin⟩ := call_num e h rfl
    have ha : (VasedaNeutral.whole60 k && ((x.all fun z => natural z 8) && decide (x.length ≤ 8192))) = true := ha
    rw [Bool.and_eq_true] at ha
    obtain ⟨hb, hl⟩ := row_asked ha.2
    obtain ⟨j, hr, ht⟩ := fin hb hl
    exact ⟨.trace k (bytesOf x), j, by show (if _ then _ else _) = _; rw [if_pos (bytes_ok hb)], ⟨hp, hk, hr⟩, ht⟩
  by_cases h5 : p = 5
  · subst h5
    obtain ⟨x, rfl, fin⟩ := call_row e h rfl
    obtain ⟨hb, hl⟩ := row_asked (b := x) ha
    obtain ⟨j, hr, ht⟩ := fin hb hl
    exact ⟨.held (bytesOf x), j, by show (if _ then _ else _) = _; rw [if_pos (bytes_ok hb)], ⟨hp, hr⟩, ht⟩
  by_cases h6 : p = 6
  · subst h6
    obtain ⟨x, rfl, fin⟩ := call_row e h rfl
    obtain ⟨hb, hl⟩ := row_asked (b := x) ha
    obtain ⟨j, hr, ht⟩ := fin hb hl
    exact ⟨.touched (bytesOf x), j, by show (if _ then _ else _) = _; rw [if_pos (bytes_ok hb)], ⟨hp, hr⟩, ht⟩
  by_cases h7 : p = 7
  · subst h7
    obtain ⟨k, x, rfl, hk, fin⟩ := call_num e h rfl
    have ha : (VasedaNeutral.whole60 k && ((x.all fun z => natural z 8) && decide (x.length ≤ 8192))) = true := ha
    rw [Bool.and_eq_true] at ha
    obtain ⟨hb, hl⟩ := row_asked ha.2
    obtain ⟨j, hr, ht⟩ := fin hb hl
    exact ⟨.again k (bytesOf x), j, by show (if _ then _ else _) = _; rw [if_pos (bytes_ok hb)], ⟨hp, hk, hr⟩, ht⟩
  by_cases h8 : p = 8
  · subst h8
    obtain ⟨x, rfl, fin⟩ := call_row e h rfl
    obtain ⟨hb, hl⟩ := row_asked (b := x) ha
    obtain ⟨j, hr, ht⟩ := fin hb hl
    exact ⟨.rest (bytesOf x), j, by show (if _ then _ else _) = _; rw [if_pos (bytes_ok hb)], ⟨hp, hr⟩, ht⟩
  · exfalso
    have hs : PyVaseda.shape p = none := by unfold PyVaseda.shape; rw [if_neg h0, if_neg h1, if_neg h2, if_neg h3, if_neg h4, if_neg h5, if_neg h6, if_neg h7, if_neg h8]
    have h : (match PyVaseda.shape p with | none => none | some (n, k) => if r.length < n then none else match PyFlat.rows k (r.drop n) with | none => none | some (xs, t) => some ((p :: r.take n) :: xs, t)) = some (c, t) := h
    rw [hs] at h
    cases h
theorem whole_same (c : List (List Int)) : PyVaseda.whole c = c := by
  unfold PyVaseda.whole
  split <;> rfl
theorem map_whole (cs : List (List (List Int))) : cs.map PyVaseda.whole = cs := by
  conv => rhs; rw [← List.map_id cs]
  exact List.map_congr_left fun c _ => whole_same c
theorem calls_coded {L : List Int} : ∀ (f i : Nat) (cs : List (List (List Int))), i ≤ L.length → PyFlat.calls PyVaseda.shape f (L.drop i) = some cs → cs.all asked1 = true →
    ∃ ks, Codes L i ks ∧ ∀ o, PyFlat.told (PyFlat.played VasedaNeutral.step o cs) = toldO o ks := by
  intro f
  induction f with
  | zero =>
    intro i cs hi h ha
    cases e : L.drop i with
    | nil =>
      rw [e] at h
      have h : some [] = some cs := h
      injection h with h
      subst h
      have : L.length ≤ i := by
        have := congrArg List.length e
        rw [List.length_drop, List.length_nil] at this
        omega
      exact ⟨[], by show i = L.length; omega, fun _ => rfl⟩
    | cons p r => rw [e] at h; cases h
  | succ f ih =>
    intro i cs hi h ha
    cases e : L.drop i with
    | nil =>
      rw [e] at h
      have h : some [] = some cs := h
      injection h with h
      subst h
      have : L.length ≤ i := by
        have := congrArg List.length e
        rw [List.length_drop, List.length_nil] at this
        omega
      exact ⟨[], by show i = L.length; omega, fun _ => rfl⟩
    | cons p r =>
      rw [e] at h
      have h : (match PyFlat.call PyVaseda.shape (p :: r) with | none => none | some (c, t) => match PyFlat.calls PyVaseda.shape f t with | none => none | some cs => some (c :: cs)) = some cs := h
      cases ec : PyFlat.call PyVaseda.shape (p :: r) with
      | none => rw [ec] at h; cases h
      | some y =>
        obtain ⟨c, t⟩ := y
        rw [ec] at h
        have h : (match PyFlat.calls PyVaseda.shape f t with | none => none | some cs => some (c :: cs)) = some cs := h
        cases er : PyFlat.calls PyVaseda.shape f t with
        | none => rw [er] at h; cases h
        | some cs' =>
          rw [er] at h
          have h : some (c :: cs') = some cs := h
          injection h with h
          subst h
          rw [List.all_cons, Bool.and_eq_true] at ha
          obtain ⟨k, j, hk, hc, ht⟩ := call_coded e ec ha.1
          subst ht
          have hj : j ≤ L.length := by
            cases k with
            | load b => exact hc.2.2.2.1
            | shown => have := (at_drop e).2.2; have := hc.2; omega
            | run b => exact hc.2.2.2.1
            | origins b => exact hc.2.2.2.1
            | trace k b => exact hc.2.2.2.2.1
            | held b => exact hc.2.2.2.1
            | touched b => exact hc.2.2.2.1
            | again n b => exact hc.2.2.2.2.1
            | rest b => exact hc.2.2.2.1
          obtain ⟨ks, h1, h2⟩ := ih j cs' hj er ha.2
          refine ⟨k :: ks, ⟨(at_drop e).2.2, j, hc, h1⟩, fun o => ?_⟩
          have es : VasedaNeutral.step o c = ((Vaseda.step o k).1, encode (Vaseda.step o k).2) := by
            unfold VasedaNeutral.step
            rw [hk]
          show PyFlat.told ((VasedaNeutral.step o c).2 :: PyFlat.played VasedaNeutral.step (VasedaNeutral.step o c).1 cs') = _
          rw [es]
          show (((encode (Vaseda.step o k).2).length : Int) :: encode (Vaseda.step o k).2) ++ PyFlat.told (PyFlat.played VasedaNeutral.step (Vaseda.step o k).1 cs') = _
          rw [h2]
          rfl
/-- what is asked is a list of calls -/
theorem asked_codes {l : List Int} (h : PyVaseda.answers_asked l = true) : ∃ ks, Codes l 0 ks ∧ PyVaseda.answers l = toldO none ks ∧ (toldO none ks).length ≤ 10000000 := by
  unfold PyVaseda.answers_asked at h
  cases e : PyFlat.calls PyVaseda.shape l.length l with
  | none => rw [e] at h; cases h
  | some raw =>
    rw [e] at h
    have h : (!raw.isEmpty && PyFlat.atMost 40 raw && PyInside.calls PyVaseda.bound raw && VasedaNeutral.asked (raw.map PyVaseda.whole) && PyFlat.short 10000000 (PyVaseda.answers l)) = true := h
    rw [Bool.and_eq_true, Bool.and_eq_true, map_whole] at h
    obtain ⟨⟨_, ha⟩, hsh⟩ := h
    have ha2 : raw.all asked1 = true := by
      unfold VasedaNeutral.asked at ha
      rw [Bool.and_eq_true] at ha
      exact ha.1
    obtain ⟨ks, h1, h2⟩ := calls_coded (L := l) l.length 0 raw (Nat.zero_le _) e ha2
    have ea : PyVaseda.answers l = toldO none ks := by
      unfold PyVaseda.answers PyVaseda.calls
      rw [e]
      show PyFlat.told (PyFlat.played VasedaNeutral.step VasedaNeutral.start (raw.map PyVaseda.whole)) = _
      rw [map_whole]
      exact h2 none
    refine ⟨ks, h1, ea, ?_⟩
    rw [← ea]
    unfold PyFlat.short at hsh
    exact of_decide_eq_true hsh
end LD

namespace LD
open PySem PySem.Spec PyProof.Rows L2 LN
open VasedBase (Bytes)
/-! ### all facts of the text, all defs -/
structure Facts (K : PySem.W.Frag) (mg : Str → Option Value) (A : Ad) : Prop where
  tx : Txt K mg
  tok : TokTxt K mg A.tok
  fa : PySem.FaX.FaTxt K mg A.fa A.faI
  rd : RdT K mg A
  cmd : CmdT K mg A
  com : ComT K mg A
  line : LineT K mg A
  run : RunT K mg A
  desk : DeskT K mg A
  call : CallT K mg A
  nS : XTxt K mg "NoScript" A.nS
  nT : XTxt K mg "NotAText" A.nT
  tM : XTxt K mg "TooMuch" A.tM
  nL : XTxt K mg "NoSuchLine" A.nL
  nO : XTxt K mg "NotSoOften" A.nO
  cl : Clauses K A
  un : Unbooked K
  ap : Apart A
  d_is_letter : Dn K mg "is_letter" s_is_letter
  d_letters_of : Dn K mg "letters_of" s_letters_of
  d_bytes_of : Dn K mg "bytes_of" s_bytes_of
  d_read_tokens : Dn K mg "read_tokens" s_read_tokens
  d_past_gaps : Dn K mg "past_gaps" s_past_gaps
  d_past_remark : Dn K mg "past_remark" s_past_remark
  d_read_token : Dn K mg "read_token" s_read_token
  d_read_word : Dn K mg "read_word" s_read_word
  d_past_letters : Dn K mg "past_letters" s_past_letters
  d_read_number : Dn K mg "read_number" s_read_number
  d_past_digits : Dn K mg "past_digits" s_past_digits
  d_is_digit : Dn K mg "is_digit" s_is_digit
  d_number_of : Dn K mg "number_of" s_number_of
  i_cmd : Di K A.cmd "Command.__init__" s_cmd_init
  i_rd : Di K A.rd "TokenReader.__init__" s_rd_init
  m_front : Dm K A.rd "front" "TokenReader.front" s_front
  m_stands : Dm K A.rd "stands" "TokenReader.stands" s_stands
  m_take : Dm K A.rd "take" "TokenReader.take" s_take
  m_take_given : Dm K A.rd "take_given" "TokenReader.take_given" s_take_given
  m_take_letters : Dm K A.rd "take_letters" "TokenReader.take_letters" s_take_letters
  m_take_letters_or_none : Dm K A.rd "take_letters_or_none" "TokenReader.take_letters_or_none" s_take_letters_or_none
  m_take_number : Dm K A.rd "take_number" "TokenReader.take_number" s_take_number
  d_read_commands : Dn K mg "read_commands" s_read_commands
  d_read_command : Dn K mg "read_command" s_read_command
  d_read_nots : Dn K mg "read_nots" s_read_nots
  d_read_address : Dn K mg "read_address" s_read_address
  d_read_deed : Dn K mg "read_deed" s_read_deed
  d_one_form : Dn K mg "one_form" s_one_form
  d_command_form : Dn K mg "command_form" s_command_form
  d_condition_words : Dn K mg "condition_words" s_condition_words
  d_address_words : Dn K mg "address_words" s_address_words
  d_deed_words : Dn K mg "deed_words" s_deed_words
  d_read_text : Dn K mg "read_text" s_read_text
  d_read_line : Dn K mg "read_line" s_read_line
  d_text_bytes : Dn K mg "text_bytes" s_text_bytes
  i_com : Di K A.com "Coming.__init__" s_com_init
  i_line : Di K A.line "Line.__init__" s_line_init
  i_run : Di K A.run "Run.__init__" s_run_init
  d_run_script : Dn K mg "run_script" s_run_script
  d_coming_lines : Dn K mg "coming_lines" s_coming_lines
  d_coming_letters : Dn K mg "coming_letters" s_coming_letters
  d_run_line : Dn K mg "run_line" s_run_line
  d_command_holds : Dn K mg "command_holds" s_command_holds
  d_address_holds : Dn K mg "address_holds" s_address_holds
  d_do_deed : Dn K mg "do_deed" s_do_deed
  d_trade_letters : Dn K mg "trade_letters" s_trade_letters
  d_changed_letters : Dn K mg "changed_letters" s_changed_letters
  d_run_again : Dn K mg "run_again" s_run_again
  d_runs_to_rest : Dn K mg "runs_to_rest" s_runs_to_rest
  d_run_once : Dn K mg "run_once" s_run_once
  i_desk : Di K A.desk "Desk.__init__" s_desk_init
  m_held_commands : Dm K A.desk "held_commands" "Desk.held_commands" s_held_commands
  d_answer_load : Dn K mg "answer_load" s_answer_load
  d_answer_shown : Dn K mg "answer_shown" s_answer_shown
  d_answer_run : Dn K mg "answer_run" s_answer_run
  d_lines_answer : Dn K mg "lines_answer" s_lines_answer
  d_answer_origins : Dn K mg "answer_origins" s_answer_origins
  d_answer_trace : Dn K mg "answer_trace" s_answer_trace
  d_answer_held : Dn K mg "answer_held" s_answer_held
  d_answer_touched : Dn K mg "answer_touched" s_answer_touched
  d_touch_of : Dn K mg "touch_of" s_touch_of
  d_answer_again : Dn K mg "answer_again" s_answer_again
  d_answer_rest : Dn K mg "answer_rest" s_answer_rest
  d_run_told : Dn K mg "run_told" s_run_told
  i_call : Di K A.call "CallReader.__init__" s_call_init
  m_has_more : Dm K A.call "has_more" "CallReader.has_more" s_has_more
  m_take_whole : Dm K A.call "take_whole" "CallReader.take_whole" s_take_whole
  m_take_row : Dm K A.call "take_row" "CallReader.take_row" s_take_row
  d_answers : Dn K mg "answers" s_answers
  d_answer_or_refusal : Dn K mg "answer_or_refusal" s_answer_or_refusal
  d_answer_call : Dn K mg "answer_call" s_answer_call
section
variable {P : Program} {w : World} {K : PySem.W.Frag} {mg : Str → Option Value} {base : Heap} {A : Ad}
/-- the program keeps the promise -/
theorem all_ok (F : Facts K mg A) {f : Addr} {fd : FuncData} (F0 : Fun K "answers" "answers" s_answers f fd) : FnOk P w K mg base CX0 55 f fd ["calls"] (sp_answers K) := by
  have isLetter := g_is_letter (P := P) (w := w) (base := base) F.d_is_letter F.tx
  have pastLetters := g_past_letters (P := P) (w := w) (base := base) F.d_past_letters F.tx isLetter
  have isDigit := g_is_digit (P := P) (w := w) (base := base) F.d_is_digit F.tx
  have pastDigits := g_past_digits (P := P) (w := w) (base := base) F.d_past_digits F.tx isDigit
  have pastRemark := g_past_remark (P := P) (w := w) (base := base) F.d_past_remark F.tx
  have pastGaps := g_past_gaps (P := P) (w := w) (base := base) F.d_past_gaps F.tx pastRemark
  have lettersOf := g_letters_of (P := P) (w := w) (base := base) F.d_letters_of F.tx
  have numberOf := g_number_of (P := P) (w := w) (base := base) F.d_number_of F.tx
  have readWord := g_read_word (P := P) (w := w) (base := base) F.d_read_word F.tx F.fa F.tok pastLetters lettersOf
  have readNumber := g_read_number (P := P) (w := w) (base := base) F.d_read_number F.tx F.fa F.tok pastDigits numberOf
  have readToken := g_read_token (P := P) (w := w) (base := base) F.d_read_token F.tx F.fa F.tok isLetter isDigit readWord readNumber
  have readTokens := g_read_tokens (P := P) (w := w) (base := base) F.d_read_tokens F.tx F.fa F.tok pastGaps readToken
  have rdInit := g_rd_init (P := P) (w := w) (base := base) F.i_rd F.rd
  have front := g_front (P := P) (w := w) (base := base) F.m_front F.rd
  have stands := g_stands (P := P) (w := w) (base := base) F.m_stands F.rd F.tok front
  have take := g_take (P := P) (w := w) (base := base) F.m_take F.rd front
  have takeGiven := g_take_given (P := P) (w := w) (base := base) F.m_take_given F.rd F.tx F.fa F.tok take
  have takeLetters := g_take_letters (P := P) (w := w) (base := base) F.m_take_letters F.rd F.tx F.fa F.tok take
  have takeLettersOrNone := g_take_letters_or_none (P := P) (w := w) (base := base) F.m_take_letters_or_none F.rd take stands takeLetters
  have takeNumber := g_take_number (P := P) (w := w) (base := base) F.m_take_number F.rd F.tx F.fa F.tok take
  have readNots := g_read_nots (P := P) (w := w) (base := base) F.d_read_nots F.rd F.tx F.fa F.tok front stands take
  have readAddress := g_read_address (P := P) (w := w) (base := base) F.d_read_address F.rd F.tx F.fa F.tok take takeLetters takeNumber takeGiven
  have readDeed := g_read_deed (P := P) (w := w) (base := base) F.d_read_deed F.rd F.tx F.fa F.tok take takeLetters takeNumber takeLettersOrNone
  have cmdInit := g_cmd_init (P := P) (w := w) (base := base) F.i_cmd F.cmd
  have readCommand := g_read_command (P := P) (w := w) (base := base) F.d_read_command F.rd F.cmd take stands readNots readAddress readDeed takeGiven cmdInit
  have readCommands := g_read_commands (P := P) (w := w) (base := base) F.d_read_commands F.rd F.tx F.fa F.tok F.ap front readTokens rdInit readCommand
  have deedWords := g_deed_words (A := A) (P := P) (w := w) (base := base) F.d_deed_words F.tx
  have addressWords := g_address_words (A := A) (P := P) (w := w) (base := base) F.d_address_words F.tx
  have conditionWords := g_condition_words (P := P) (w := w) (base := base) F.d_condition_words F.cmd addressWords
  have commandForm := g_command_form (P := P) (w := w) (base := base) F.d_command_form F.cmd conditionWords deedWords
  have oneForm := g_one_form (P := P) (w := w) (base := base) F.d_one_form commandForm
  have bytesOf := g_bytes_of (P := P) (w := w) (base := base) F.d_bytes_of F.tx
  have readLine := g_read_line (A := A) (P := P) (w := w) (base := base) F.d_read_line F.tx F.nT isLetter lettersOf
  have readText := g_read_text (P := P) (w := w) (base := base) F.d_read_text F.tx F.nT readLine
  have textBytes := g_text_bytes (P := P) (w := w) (base := base) F.d_text_bytes F.tx bytesOf
  have comInit := g_com_init (P := P) (w := w) (base := base) F.i_com F.com
  have lineInit := g_line_init (P := P) (w := w) (base := base) F.i_line F.line
  have runInit := g_run_init (P := P) (w := w) (base := base) F.i_run F.run
  have trade := g_trade (P := P) (w := w) (base := base) F.d_trade_letters F.line F.run F.ap
  have changed := g_changed (A := A) (P := P) (w := w) (base := base) F.d_changed_letters F.tx F.tM F.un
  have doDeed := g_do_deed (P := P) (w := w) (base := base) F.d_do_deed F.line F.run F.com F.ap trade changed comInit
  have addrHolds := g_addr_holds (P := P) (w := w) (base := base) F.d_address_holds F.line
  have cmdHolds := g_cmd_holds (P := P) (w := w) (base := base) F.d_command_holds F.cmd addrHolds
  have runLine := g_run_line (P := P) (w := w) (base := base) F.d_run_line F.tx F.line F.run F.cmd F.ap cmdHolds doDeed
  have comingLines := g_coming_lines (P := P) (w := w) (base := base) F.d_coming_lines F.line F.run F.com F.ap comInit
  have comingLetters := g_coming_letters (P := P) (w := w) (base := base) F.d_coming_letters F.com comingLines
  have runScript := g_run_script (P := P) (w := w) (base := base) F.d_run_script F.tx F.tM F.line F.run F.ap runInit lineInit runLine comingLines
  have runOnce := g_run_once (P := P) (w := w) (base := base) F.d_run_once F.tx F.tM runScript comingLetters
  have runAgain := g_run_again (P := P) (w := w) (base := base) F.d_run_again F.tx runOnce
  have runsToRest := g_runs_to_rest (P := P) (w := w) (base := base) F.d_runs_to_rest F.tx runOnce
  have deskInit := g_desk_init (P := P) (w := w) (base := base) F.i_desk F.desk
  have heldCommands := g_held_commands (P := P) (w := w) (base := base) F.m_held_commands F.desk F.nS
  have runTold := g_run_told (P := P) (w := w) (base := base) F.d_run_told F.desk heldCommands readText runScript
  have linesAnswer := g_lines_answer (P := P) (w := w) (base := base) F.d_lines_answer F.tx textBytes
  have aLoad := g_answer_load (P := P) (w := w) (base := base) F.d_answer_load F.tx F.desk F.ap F.fa readCommands
  have aShown := g_answer_shown (P := P) (w := w) (base := base) F.d_answer_shown F.tx F.desk heldCommands oneForm bytesOf
  have aRun := g_answer_run (P := P) (w := w) (base := base) F.d_answer_run runTold comingLetters linesAnswer
  have aOrigins := g_answer_origins (P := P) (w := w) (base := base) F.d_answer_origins F.tx F.com runTold comingLines
  have aTrace := g_answer_trace (P := P) (w := w) (base := base) F.d_answer_trace F.tx F.line F.run F.nL runTold
  have aHeld := g_answer_held (P := P) (w := w) (base := base) F.d_answer_held F.tx F.run runTold bytesOf
  have touchOf := g_touch_of (P := P) (w := w) (base := base) F.d_touch_of F.tx F.line
  have aTouched := g_answer_touched (P := P) (w := w) (base := base) F.d_answer_touched F.tx F.line F.run runTold touchOf
  have aAgain := g_answer_again (P := P) (w := w) (base := base) F.d_answer_again F.tx F.desk F.nO heldCommands readText runAgain linesAnswer
  have aRest := g_answer_rest (P := P) (w := w) (base := base) F.d_answer_rest F.tx F.desk heldCommands readText runsToRest
  have callInit := g_call_init (P := P) (w := w) (base := base) F.i_call F.call
  have hasMore := g_has_more (P := P) (w := w) (base := base) F.m_has_more F.tx F.call
  have takeWhole := g_take_whole (P := P) (w := w) (base := base) F.m_take_whole F.call
  have takeRow := g_take_row (P := P) (w := w) (base := base) F.m_take_row F.call takeWhole
  have aCall := g_answer_call (P := P) (w := w) (base := base) F.d_answer_call F.tx F.call F.ap takeWhole takeRow aLoad aShown aRun aOrigins aTrace aHeld aTouched aAgain aRest
  have ansOr := g_ans_or (P := P) (w := w) (base := base) F.d_answer_or_refusal F.nS F.nT F.tM F.nL F.nO F.cl aCall
  exact ok_answers (P := P) (w := w) (base := base) F0 F.tx F.call F.desk F.ap deskInit callInit hasMore ansOr
end
end LD

namespace LD
open PySem PySem.Spec PyProof.Rows L2 LN
/-! ### how the facts are made -/
section
variable {P : Program} {w : World} {K : PySem.W.Frag} {h : Heap} {mg : Str → Option Value}
theorem dn_mk {x : Str} {s : Stmt} {f : Addr} {oc : Value} {od an : Option Addr} {sl : Array (Option Value)} {kV dc pm cd ct : Value} (X : K.In h) (G : h.Ns mainGlobals mg) (a : PySem.W.nsIn K mainGlobals x = some (some (.ref f)))
    (l : K.lookup f = some ⟨oc, od, .func (PySem.W.fnOf x x (defArgs s) (defBody s) (defScope s) .none kV dc pm an cd ct), sl⟩) (c : PySem.W.codeIn K cd x = true) (k : PySem.W.keepIn K (.ref f) = true) : Dn K mg x s := ⟨f, _, PySem.W.mg_of X G a, fun_mk (st := s) l c k⟩
theorem dm_mk {C f : Addr} {m qual : Str} {s : Stmt} {oc : Value} {od an : Option Addr} {sl : Array (Option Value)} {kV dc pm cd ct : Value} (a : PySem.W.findIn K (.ref C) m = some (some (.ref f))) (i : PySem.W.isFn K (.ref f) = true)
    (l : K.lookup f = some ⟨oc, od, .func (PySem.W.fnOf m qual (defArgs s) (defBody s) (defScope s) .none kV dc pm an cd ct), sl⟩) (c : PySem.W.codeIn K cd qual = true) (k : PySem.W.keepIn K (.ref f) = true) : Dm K C m qual s := ⟨f, _, ⟨a, i, k⟩, fun_mk (st := s) l c k⟩
theorem di_mk {C f : Addr} {qual : Str} {s : Stmt} {oc : Value} {od an : Option Addr} {sl : Array (Option Value)} {kV dc pm cd ct : Value} (mk : PySem.W.makesIn K C = true) (a : PySem.W.findIn K (.ref C) "__init__" = some (some (.ref f))) (i : PySem.W.isFn K (.ref f) = true) (kc : PySem.W.keepIn K (.ref C) = true)
    (l : K.lookup f = some ⟨oc, od, .func (PySem.W.fnOf "__init__" qual (defArgs s) (defBody s) (defScope s) .none kV dc pm an cd ct), sl⟩) (c : PySem.W.codeIn K cd qual = true) (k : PySem.W.keepIn K (.ref f) = true) : Di K C qual s := ⟨f, _, ⟨mk, a, i, kc⟩, fun_mk (st := s) l c k⟩
theorem kc_int {x : Str} {i : Int} {t : Tok} (X : K.In h) (G : h.Ns mainGlobals mg) (a : PySem.W.nsIn K mainGlobals x = some (some (.int i t))) : Kc mg x (.int i) := ⟨_, PySem.W.mg_of X G a, t, rfl⟩
theorem kc_str {x z : Str} {t : Tok} (X : K.In h) (G : h.Ns mainGlobals mg) (a : PySem.W.nsIn K mainGlobals x = some (some (.str z t))) : Kc mg x (.str z) := ⟨_, PySem.W.mg_of X G a, t, rfl⟩
theorem kt_mk {x : Str} {vs : List V} {a : Addr} {od : Option Addr} {its : Array Value} {n : Nat} {sl : Array (Option Value)} (X : K.In h) (G : h.Ns mainGlobals mg) (e : PySem.W.nsIn K mainGlobals x = some (some (.ref a))) (l : K.lookup a = some ⟨.type "tuple", od, .seq its n, sl⟩)
    (r : Vals vs its.toList) (z : vs.length ≤ 100) : Kt K mg x vs := ⟨a, PySem.W.mg_of X G e, fun H => .inr ⟨_, its, n, l, rfl, rfl, by
      have e1 : vs.length = its.toList.length := r.length
      have e2 : its.toList.length = its.size := Array.length_toList
      rw [sizeLine_eq, ← e2, ← e1]; omega, r⟩⟩
theorem ct_mk {x : Str} {C : Addr} {fs : List Str} (X : K.In h) (G : h.Ns mainGlobals mg) (a : PySem.W.nsIn K mainGlobals x = some (some (.ref C))) (c : Cls K C) (n : ∀ f ∈ fs, NoAttr K C f) : CT K mg x C fs := ⟨PySem.W.mg_of X G a, c, n⟩
theorem na_mk {C : Addr} {f : Str} (e : PySem.W.findIn K (.ref C) f = some none) : NoAttr K C f := e
theorem no_nil {C : Addr} : ∀ f ∈ ([] : List Str), NoAttr K C f := fun f h => by simp at h
theorem no_cons {C : Addr} {g : Str} {fs : List Str} (h : NoAttr K C g) (r : ∀ f ∈ fs, NoAttr K C f) : ∀ f ∈ g :: fs, NoAttr K C f := fun f hf => by
  rcases List.mem_cons.mp hf with rfl | hf
  · exact h
  · exact r f hf
/-- an error of a class is, or is not, what a clause names -/
theorem exm_two {c : Value} {S : Addr} {b : Bool} (h1 : PySem.W.subIn K (.ref S) (.type "BaseException") = some true) (h2 : PySem.W.isClsIn K S = true) (h3 : PySem.W.typeIn K (.ref S) = some (.type "type")) (h4 : PySem.W.subIn K c (.ref S) = some b) : PySem.W.exmOne K c (.ref S) = some b := by
  have e1 : (PySem.W.subIn K (.ref S) (.type "BaseException") == some true) = true := by rw [h1]; rfl
  have e2 : ((PySem.W.clsIn K S).isSome && PySem.W.typeIn K (.ref S) == some (.type "type")) = true := by
    have h2' : (PySem.W.clsIn K S).isSome = true := h2
    rw [h2', h3]; rfl
  show (if (PySem.W.subIn K (.ref S) (.type "BaseException") == some true) = true then (if ((PySem.W.clsIn K S).isSome && PySem.W.typeIn K (.ref S) == some (.type "type")) = true then PySem.W.subIn K c (.ref S) else none) else none) = some b
  rw [if_pos e1, if_pos e2]
  exact h4
theorem un_mk {c : Value} {od : Option Addr} {es : Array DictEntry} {n : Nat} {sl : Array (Option Value)} (l : K.lookup cStatics = some ⟨c, od, .dict es n, sl⟩) (h : (es.all fun e => match e.key with | .str _ _ => true | _ => false) = true) (q : PySem.W.nsIn K cStatics sharingNotToldKey = some none) : Unbooked K := by
  refine ⟨?_, q⟩
  unfold PySem.W.nsOkIn
  rw [l]
  exact h
end
/-- the whole -/
theorem all_mk {P : Program} {w : World} {K : PySem.W.Frag} {h : Heap} {mg : Str → Option Value} {f0 tok rd cmd com line run desk call fa faI nS nT tM nL nO : Addr} (X : K.In h) (G : h.Ns mainGlobals mg) (hfa : mg "answers" = some (.ref f0))
    (a1 : PySem.W.nsIn K mainGlobals "Token" = some (some (.ref tok))) (a2 : PySem.W.nsIn K mainGlobals "TokenReader" = some (some (.ref rd))) (a3 : PySem.W.nsIn K mainGlobals "Command" = some (some (.ref cmd)))
    (a4 : PySem.W.nsIn K mainGlobals "Coming" = some (some (.ref com))) (a5 : PySem.W.nsIn K mainGlobals "Line" = some (some (.ref line))) (a6 : PySem.W.nsIn K mainGlobals "Run" = some (some (.ref run)))
    (a7 : PySem.W.nsIn K mainGlobals "Desk" = some (some (.ref desk))) (a8 : PySem.W.nsIn K mainGlobals "CallReader" = some (some (.ref call))) (a9 : PySem.W.nsIn K mainGlobals "Fault" = some (some (.ref fa)))
    (a10 : PySem.W.findIn K (.ref fa) "__init__" = some (some (.ref faI))) (a11 : PySem.W.nsIn K mainGlobals "NoScript" = some (some (.ref nS))) (a12 : PySem.W.nsIn K mainGlobals "NotAText" = some (some (.ref nT)))
    (a13 : PySem.W.nsIn K mainGlobals "TooMuch" = some (some (.ref tM))) (a14 : PySem.W.nsIn K mainGlobals "NoSuchLine" = some (some (.ref nL))) (a15 : PySem.W.nsIn K mainGlobals "NotSoOften" = some (some (.ref nO)))
    (F : Facts K mg ⟨tok, rd, cmd, com, line, run, desk, call, fa, faI, nS, nT, tM, nL, nO⟩) :
    ∃ fd : FuncData, (∀ (s : Shared) (us : List Value), us.length = (["calls"] : List Str).length → BindsTo s fd ⟨us, []⟩ ((["calls"] : List Str).zip us)) ∧ ∀ base : Heap, K.In base → base.Ns mainGlobals mg → FnOk P w K mg base CX0 55 f0 fd ["calls"] (sp_answers K) := by
  obtain ⟨f, fd, m, F0⟩ := F.d_answers
  have e := hfa.symm.trans m
  cases e
  have F0' := F0
  obtain ⟨oc, od, kV, doc, pm, an, cdv, ct, osl, rfl, lk, hcd⟩ := F0'.ex
  exact ⟨_, fun s us hu => match us, hu with | [_], _ => .of_eq rfl, fun base _ _ => all_ok F F0⟩
end LD

open PySem PySem.W PyProof.Rows
set_option maxRecDepth 100000 in
set_option maxHeartbeats 40000000 in
theorem PySem.Challenge.cw_linescriptsdesk_s01_answers_holds : PySem.Challenge.rw_linescriptsdesk_s01_answers.Holds := by
  w_on; k_headS; (case hw => exact ⟨[.list [.int 1]], by decide +kernel, by decide +kernel⟩)
  k_fillS
  refine L2.walk_specK (r := PySem.Challenge.rw_linescriptsdesk_s01_answers) (k := 55) (CX := L2.CX0) (ps := ["calls"]) (sp := LD.sp_answers) (by decide +kernel) rfl rfl ⟨rfl, by decide, by decide⟩ (fun w h Y => PySem.W.kIn_of Y) ?F ?S (fun _ _ _ _ z => z)
  case F =>
    intro w mg fa h Y KX G hmg
    refine' LD.all_mk KX G hmg ?a1 ?a2 ?a3 ?a4 ?a5 ?a6 ?a7 ?a8 ?a9 ?a10 ?a11 ?a12 ?a13 ?a14 ?a15 ?F0
    (case a1 => k_is); (case a2 => k_is); (case a3 => k_is); (case a4 => k_is); (case a5 => k_is); (case a6 => k_is); (case a7 => k_is); (case a8 => k_is); (case a9 => k_is); (case a10 => k_is); (case a11 => k_is); (case a12 => k_is); (case a13 => k_is); (case a14 => k_is); (case a15 => k_is)
    case F0 =>
      have tx : LD.Txt _ mg := {
        kFIRST_LETTER := LD.kc_int KX G (by k_is)
        kLAST_LETTER := LD.kc_int KX G (by k_is)
        kLINE_END := LD.kc_int KX G (by k_is)
        kREMARK := LD.kc_int KX G (by k_is)
        kSEMICOLON := LD.kc_int KX G (by k_is)
        kZERO := LD.kc_int KX G (by k_is)
        kNINE := LD.kc_int KX G (by k_is)
        kMOST_BYTES := LD.kc_int KX G (by k_is)
        kMOST_WORD_LETTERS := LD.kc_int KX G (by k_is)
        kGREATEST_NUMBER := LD.kc_int KX G (by k_is)
        kMOST_DIGITS := LD.kc_int KX G (by k_is)
        kSCRIPT_TOO_LONG := LD.kc_int KX G (by k_is)
        kNO_TOKEN := LD.kc_int KX G (by k_is)
        kMOST_COMMANDS := LD.kc_int KX G (by k_is)
        kMOST_NOTS := LD.kc_int KX G (by k_is)
        kLAST_LINE_NUMBER := LD.kc_int KX G (by k_is)
        kMOST_LEFT_OUT := LD.kc_int KX G (by k_is)
        kNOT_ALLOWED := LD.kc_int KX G (by k_is)
        kTOO_MANY := LD.kc_int KX G (by k_is)
        kOUT_OF_BOUNDS := LD.kc_int KX G (by k_is)
        kMOST_LINE_LETTERS := LD.kc_int KX G (by k_is)
        kMOST_TEXT_LINES := LD.kc_int KX G (by k_is)
        kMOST_COMING_LINES := LD.kc_int KX G (by k_is)
        kMOST_RUNS := LD.kc_int KX G (by k_is)
        kCOMES_AS_IT_WAS := LD.kc_int KX G (by k_is)
        kCOMES_OTHERWISE := LD.kc_int KX G (by k_is)
        kDOES_NOT_COME := LD.kc_int KX G (by k_is)
        kLOAD := LD.kc_int KX G (by k_is)
        kSHOWN := LD.kc_int KX G (by k_is)
        kRUN := LD.kc_int KX G (by k_is)
        kORIGINS := LD.kc_int KX G (by k_is)
        kTRACE := LD.kc_int KX G (by k_is)
        kHELD := LD.kc_int KX G (by k_is)
        kTOUCHED := LD.kc_int KX G (by k_is)
        kAGAIN := LD.kc_int KX G (by k_is)
        kREST := LD.kc_int KX G (by k_is)
        kLETTERS := LD.kc_str KX G (by k_is)
        kOWN_WORD := LD.kc_str KX G (by k_is)
        kLETTERS_WORD := LD.kc_str KX G (by k_is)
        kNUMBER := LD.kc_str KX G (by k_is)
        kSIGN := LD.kc_str KX G (by k_is)
        kEND := LD.kc_str KX G (by k_is)
        tOWN_WORDS := LD.kt_mk KX G (by k_is) (by k_is) (by repeat (first | exact .nil | refine .cons ⟨_, rfl⟩ ?_)) (by decide)
        tBLANKS := LD.kt_mk KX G (by k_is) (by k_is) (by repeat (first | exact .nil | refine .cons ⟨_, rfl⟩ ?_)) (by decide)
        tBARE_ADDRESSES := LD.kt_mk KX G (by k_is) (by k_is) (by repeat (first | exact .nil | refine .cons ⟨_, rfl⟩ ?_)) (by decide)
        tLETTERS_ADDRESSES := LD.kt_mk KX G (by k_is) (by k_is) (by repeat (first | exact .nil | refine .cons ⟨_, rfl⟩ ?_)) (by decide)
        tBARE_DEEDS := LD.kt_mk KX G (by k_is) (by k_is) (by repeat (first | exact .nil | refine .cons ⟨_, rfl⟩ ?_)) (by decide)
        tLETTERS_DEEDS := LD.kt_mk KX G (by k_is) (by k_is) (by repeat (first | exact .nil | refine .cons ⟨_, rfl⟩ ?_)) (by decide)
        tEXCHANGE_DEEDS := LD.kt_mk KX G (by k_is) (by k_is) (by repeat (first | exact .nil | refine .cons ⟨_, rfl⟩ ?_)) (by decide)
        len := PySem.W.mg_none_of KX G (by k_is)
        ord := PySem.W.mg_none_of KX G (by k_is)
        range := PySem.W.mg_none_of KX G (by k_is)
        enumerate := PySem.W.mg_none_of KX G (by k_is)
        all := PySem.W.mg_none_of KX G (by k_is)
        str := PySem.W.mg_none_of KX G (by k_is)
      }
      exact {
        tx := tx
        tok := ⟨PySem.W.mg_of KX G (by k_is), ⟨by k_is, by k_is, by k_is, by k_is⟩, LD.na_mk (by k_is), LD.na_mk (by k_is), LD.na_mk (by k_is), LD.na_mk (by k_is), LD.di_mk (by k_is) (by k_is) (by k_is) (by k_is) (by k_is) (by k_is) (by k_is)⟩
        fa := { gC := PySem.W.mg_of KX G (by k_is), cls := ⟨_, _, _, _, _, _, _, _, _, _, _, _, _, _, by k_is⟩, sa := by k_is, ga := by k_is, gg := by k_is, no1 := by k_is, no2 := by k_is, iC := by k_is, tC := by k_is, kC := by k_is, exC := by k_is, tyC := by k_is, hdC := by k_is, te := LD.exm_two (by k_is) (by k_is) (by k_is) (by first | k_is | rfl), fn := ⟨_, L2.fun_mk (st := PySem.FaX.s_Fault_init) (by k_is) (by k_is) (by k_is)⟩ }
        rd := LD.ct_mk KX G (by k_is) ⟨by k_is, by k_is, by k_is, by k_is⟩ (LD.no_cons (LD.na_mk (by k_is)) (LD.no_cons (LD.na_mk (by k_is)) LD.no_nil))
        cmd := LD.ct_mk KX G (by k_is) ⟨by k_is, by k_is, by k_is, by k_is⟩ (LD.no_cons (LD.na_mk (by k_is)) (LD.no_cons (LD.na_mk (by k_is)) (LD.no_cons (LD.na_mk (by k_is)) LD.no_nil)))
        com := LD.ct_mk KX G (by k_is) ⟨by k_is, by k_is, by k_is, by k_is⟩ (LD.no_cons (LD.na_mk (by k_is)) (LD.no_cons (LD.na_mk (by k_is)) (LD.no_cons (LD.na_mk (by k_is)) LD.no_nil)))
        line := LD.ct_mk KX G (by k_is) ⟨by k_is, by k_is, by k_is, by k_is⟩ (LD.no_cons (LD.na_mk (by k_is)) (LD.no_cons (LD.na_mk (by k_is)) (LD.no_cons (LD.na_mk (by k_is)) (LD.no_cons (LD.na_mk (by k_is)) (LD.no_cons (LD.na_mk (by k_is)) (LD.no_cons (LD.na_mk (by k_is)) (LD.no_cons (LD.na_mk (by k_is)) (LD.no_cons (LD.na_mk (by k_is)) (LD.no_cons (LD.na_mk (by k_is)) (LD.no_cons (LD.na_mk (by k_is)) LD.no_nil))))))))))
        run := LD.ct_mk KX G (by k_is) ⟨by k_is, by k_is, by k_is, by k_is⟩ (LD.no_cons (LD.na_mk (by k_is)) (LD.no_cons (LD.na_mk (by k_is)) LD.no_nil))
        desk := LD.ct_mk KX G (by k_is) ⟨by k_is, by k_is, by k_is, by k_is⟩ (LD.no_cons (LD.na_mk (by k_is)) LD.no_nil)
        call := LD.ct_mk KX G (by k_is) ⟨by k_is, by k_is, by k_is, by k_is⟩ (LD.no_cons (LD.na_mk (by k_is)) (LD.no_cons (LD.na_mk (by k_is)) LD.no_nil))
        nS := ⟨PySem.W.mg_of KX G (by k_is), by k_exc, by k_is, by k_is, by k_is⟩
        nT := ⟨PySem.W.mg_of KX G (by k_is), by k_exc, by k_is, by k_is, by k_is⟩
        tM := ⟨PySem.W.mg_of KX G (by k_is), by k_exc, by k_is, by k_is, by k_is⟩
        nL := ⟨PySem.W.mg_of KX G (by k_is), by k_exc, by k_is, by k_is, by k_is⟩
        nO := ⟨PySem.W.mg_of KX G (by k_is), by k_exc, by k_is, by k_is, by k_is⟩
        cl := {
          ss := LD.exm_two (by k_is) (by k_is) (by k_is) (by first | k_is | rfl)
          ts := LD.exm_two (by k_is) (by k_is) (by k_is) (by first | k_is | rfl)
          tt := LD.exm_two (by k_is) (by k_is) (by k_is) (by first | k_is | rfl)
          ms := LD.exm_two (by k_is) (by k_is) (by k_is) (by first | k_is | rfl)
          mt := LD.exm_two (by k_is) (by k_is) (by k_is) (by first | k_is | rfl)
          mm := LD.exm_two (by k_is) (by k_is) (by k_is) (by first | k_is | rfl)
          ls := LD.exm_two (by k_is) (by k_is) (by k_is) (by first | k_is | rfl)
          lt := LD.exm_two (by k_is) (by k_is) (by k_is) (by first | k_is | rfl)
          lm := LD.exm_two (by k_is) (by k_is) (by k_is) (by first | k_is | rfl)
          ll := LD.exm_two (by k_is) (by k_is) (by k_is) (by first | k_is | rfl)
          os := LD.exm_two (by k_is) (by k_is) (by k_is) (by first | k_is | rfl)
          ot := LD.exm_two (by k_is) (by k_is) (by k_is) (by first | k_is | rfl)
          om := LD.exm_two (by k_is) (by k_is) (by k_is) (by first | k_is | rfl)
          ol := LD.exm_two (by k_is) (by k_is) (by k_is) (by first | k_is | rfl)
          oo := LD.exm_two (by k_is) (by k_is) (by k_is) (by first | k_is | rfl)
        }
        un := LD.un_mk (by k_is) (by kernel_rfl) (by k_is)
        ap := ⟨by decide, by decide, by decide, by decide, by decide, by decide, by decide, by decide, by decide⟩
        d_is_letter := LD.dn_mk KX G (by k_is) (by k_is) (by k_is) (by k_is)
        d_letters_of := LD.dn_mk KX G (by k_is) (by k_is) (by k_is) (by k_is)
        d_bytes_of := LD.dn_mk KX G (by k_is) (by k_is) (by k_is) (by k_is)
        d_read_tokens := LD.dn_mk KX G (by k_is) (by k_is) (by k_is) (by k_is)
        d_past_gaps := LD.dn_mk KX G (by k_is) (by k_is) (by k_is) (by k_is)
        d_past_remark := LD.dn_mk KX G (by k_is) (by k_is) (by k_is) (by k_is)
        d_read_token := LD.dn_mk KX G (by k_is) (by k_is) (by k_is) (by k_is)
        d_read_word := LD.dn_mk KX G (by k_is) (by k_is) (by k_is) (by k_is)
        d_past_letters := LD.dn_mk KX G (by k_is) (by k_is) (by k_is) (by k_is)
        d_read_number := LD.dn_mk KX G (by k_is) (by k_is) (by k_is) (by k_is)
        d_past_digits := LD.dn_mk KX G (by k_is) (by k_is) (by k_is) (by k_is)
        d_is_digit := LD.dn_mk KX G (by k_is) (by k_is) (by k_is) (by k_is)
        d_number_of := LD.dn_mk KX G (by k_is) (by k_is) (by k_is) (by k_is)
        i_cmd := LD.di_mk (by k_is) (by k_is) (by k_is) (by k_is) (by k_is) (by k_is) (by k_is)
        i_rd := LD.di_mk (by k_is) (by k_is) (by k_is) (by k_is) (by k_is) (by k_is) (by k_is)
        m_front := LD.dm_mk (by k_is) (by k_is) (by k_is) (by k_is) (by k_is)
        m_stands := LD.dm_mk (by k_is) (by k_is) (by k_is) (by k_is) (by k_is)
        m_take := LD.dm_mk (by k_is) (by k_is) (by k_is) (by k_is) (by k_is)
        m_take_given := LD.dm_mk (by k_is) (by k_is) (by k_is) (by k_is) (by k_is)
        m_take_letters := LD.dm_mk (by k_is) (by k_is) (by k_is) (by k_is) (by k_is)
        m_take_letters_or_none := LD.dm_mk (by k_is) (by k_is) (by k_is) (by k_is) (by k_is)
        m_take_number := LD.dm_mk (by k_is) (by k_is) (by k_is) (by k_is) (by k_is)
        d_read_commands := LD.dn_mk KX G (by k_is) (by k_is) (by k_is) (by k_is)
        d_read_command := LD.dn_mk KX G (by k_is) (by k_is) (by k_is) (by k_is)
        d_read_nots := LD.dn_mk KX G (by k_is) (by k_is) (by k_is) (by k_is)
        d_read_address := LD.dn_mk KX G (by k_is) (by k_is) (by k_is) (by k_is)
        d_read_deed := LD.dn_mk KX G (by k_is) (by k_is) (by k_is) (by k_is)
        d_one_form := LD.dn_mk KX G (by k_is) (by k_is) (by k_is) (by k_is)
        d_command_form := LD.dn_mk KX G (by k_is) (by k_is) (by k_is) (by k_is)
        d_condition_words := LD.dn_mk KX G (by k_is) (by k_is) (by k_is) (by k_is)
        d_address_words := LD.dn_mk KX G (by k_is) (by k_is) (by k_is) (by k_is)
        d_deed_words := LD.dn_mk KX G (by k_is) (by k_is) (by k_is) (by k_is)
        d_read_text := LD.dn_mk KX G (by k_is) (by k_is) (by k_is) (by k_is)
        d_read_line := LD.dn_mk KX G (by k_is) (by k_is) (by k_is) (by k_is)
        d_text_bytes := LD.dn_mk KX G (by k_is) (by k_is) (by k_is) (by k_is)
        i_com := LD.di_mk (by k_is) (by k_is) (by k_is) (by k_is) (by k_is) (by k_is) (by k_is)
        i_line := LD.di_mk (by k_is) (by k_is) (by k_is) (by k_is) (by k_is) (by k_is) (by k_is)
        i_run := LD.di_mk (by k_is) (by k_is) (by k_is) (by k_is) (by k_is) (by k_is) (by k_is)
        d_run_script := LD.dn_mk KX G (by k_is) (by k_is) (by k_is) (by k_is)
        d_coming_lines := LD.dn_mk KX G (by k_is) (by k_is) (by k_is) (by k_is)
        d_coming_letters := LD.dn_mk KX G (by k_is) (by k_is) (by k_is) (by k_is)
        d_run_line := LD.dn_mk KX G (by k_is) (by k_is) (by k_is) (by k_is)
        d_command_holds := LD.dn_mk KX G (by k_is) (by k_is) (by k_is) (by k_is)
        d_address_holds := LD.dn_mk KX G (by k_is) (by k_is) (by k_is) (by k_is)
        d_do_deed := LD.dn_mk KX G (by k_is) (by k_is) (by k_is) (by k_is)
        d_trade_letters := LD.dn_mk KX G (by k_is) (by k_is) (by k_is) (by k_is)
        d_changed_letters := LD.dn_mk KX G (by k_is) (by k_is) (by k_is) (by k_is)
        d_run_again := LD.dn_mk KX G (by k_is) (by k_is) (by k_is) (by k_is)
        d_runs_to_rest := LD.dn_mk KX G (by k_is) (by k_is) (by k_is) (by k_is)
        d_run_once := LD.dn_mk KX G (by k_is) (by k_is) (by k_is) (by k_is)
        i_desk := LD.di_mk (by k_is) (by k_is) (by k_is) (by k_is) (by k_is) (by k_is) (by k_is)
        m_held_commands := LD.dm_mk (by k_is) (by k_is) (by k_is) (by k_is) (by k_is)
        d_answer_load := LD.dn_mk KX G (by k_is) (by k_is) (by k_is) (by k_is)
        d_answer_shown := LD.dn_mk KX G (by k_is) (by k_is) (by k_is) (by k_is)
        d_answer_run := LD.dn_mk KX G (by k_is) (by k_is) (by k_is) (by k_is)
        d_lines_answer := LD.dn_mk KX G (by k_is) (by k_is) (by k_is) (by k_is)
        d_answer_origins := LD.dn_mk KX G (by k_is) (by k_is) (by k_is) (by k_is)
        d_answer_trace := LD.dn_mk KX G (by k_is) (by k_is) (by k_is) (by k_is)
        d_answer_held := LD.dn_mk KX G (by k_is) (by k_is) (by k_is) (by k_is)
        d_answer_touched := LD.dn_mk KX G (by k_is) (by k_is) (by k_is) (by k_is)
        d_touch_of := LD.dn_mk KX G (by k_is) (by k_is) (by k_is) (by k_is)
        d_answer_again := LD.dn_mk KX G (by k_is) (by k_is) (by k_is) (by k_is)
        d_answer_rest := LD.dn_mk KX G (by k_is) (by k_is) (by k_is) (by k_is)
        d_run_told := LD.dn_mk KX G (by k_is) (by k_is) (by k_is) (by k_is)
        i_call := LD.di_mk (by k_is) (by k_is) (by k_is) (by k_is) (by k_is) (by k_is) (by k_is)
        m_has_more := LD.dm_mk (by k_is) (by k_is) (by k_is) (by k_is) (by k_is)
        m_take_whole := LD.dm_mk (by k_is) (by k_is) (by k_is) (by k_is) (by k_is)
        m_take_row := LD.dm_mk (by k_is) (by k_is) (by k_is) (by k_is) (by k_is)
        d_answers := LD.dn_mk KX G (by k_is) (by k_is) (by k_is) (by k_is)
        d_answer_or_refusal := LD.dn_mk KX G (by k_is) (by k_is) (by k_is) (by k_is)
        d_answer_call := LD.dn_mk KX G (by k_is) (by k_is) (by k_is) (by k_is)
      }
  case S =>
    intro K H xs a hO hwi hask hx
    cases hx with
    | cons h1 h2 =>
      cases h2
      cases h1 with
      | lst hs ha =>
        have e := L2.ints_dw a.1 _ ha
        subst e
        obtain ⟨ks, c1, c2, c3⟩ := LD.asked_codes (l := a.1) hask
        refine ⟨_, a.1, ks, rfl, hs, c1, c3, fun p H' sm hp => ?_⟩
        rw [← c2] at hp
        exact .lst (L2.SqL.of hp) (L2.dw_ints _)
