import PyProof.Rows.All
import Wide.All
import OpenK.AllK
import Wide.FinOn
import HandS.ForMost
import HandS.ForExc
import HandS.Codes
import HandS.Steps
import HandS.Walk
import HandS.IsInst
import HandS.Defaults
import HandS.More
import HandS.Small
import HandS.AnyAll
import HandS.Head0
import HandS.Head1
import HandS.Head2
import HandS.HeadEnd
import HandS.HeadHook1
import HandS.HeadHook2
import PySem.Challenge.RW_roundminutes_k01_valid_names
set_option Elab.async false
set_option linter.all false
set_option maxRecDepth 100000
set_option maxHeartbeats 4000000
namespace RM
open PySem PySem.Spec PyProof.Rows L2 C8
/-! ### texts as lists of signs -/
abbrev S (l : List Nat) : Str := ⟨l.toArray⟩
theorem S_tl (x : Str) : S x.cps.toList = x := SX.S_tl x
theorem S_inj {a b : List Nat} (h : S a = S b) : a = b := SX.S_inj h
theorem S_len (a : List Nat) : (S a).length = a.length := SX.S_len a
theorem S_cat (a b : List Nat) : S a ++ S b = S (a ++ b) := SX.S_cat a b
abbrev sv (l : List Nat) : V := .str (S l)
def Z26 : List Nat := [97, 98, 99, 100, 101, 102, 103, 104, 105, 106, 107, 108, 109, 110, 111, 112, 113, 114, 115, 116, 117, 118, 119, 120, 121, 122]
def Z10 : List Nat := [48, 49, 50, 51, 52, 53, 54, 55, 56, 57]
def Z36 : List Nat := [97, 98, 99, 100, 101, 102, 103, 104, 105, 106, 107, 108, 109, 110, 111, 112, 113, 114, 115, 116, 117, 118, 119, 120, 121, 122, 48, 49, 50, 51, 52, 53, 54, 55, 56, 57]
/-- a letter; a letter or a digit -/
def LT (c : Nat) : Prop := 97 ≤ c ∧ c ≤ 122
def LD (c : Nat) : Prop := (97 ≤ c ∧ c ≤ 122) ∨ (48 ≤ c ∧ c ≤ 57)
instance (c : Nat) : Decidable (LT c) := by unfold LT; infer_instance
instance (c : Nat) : Decidable (LD c) := by unfold LD; infer_instance
theorem z26 {c : Nat} : c ∈ Z26 ↔ LT c := by
  constructor
  · intro h
    exact (by decide : ∀ c ∈ Z26, LT c) c h
  · intro ⟨h1, h2⟩
    obtain ⟨k, rfl⟩ : ∃ k, c = 97 + k := ⟨c - 97, by omega⟩
    exact (by decide : ∀ k, k < 26 → 97 + k ∈ Z26) k (by omega)
theorem z10 {c : Nat} : c ∈ Z10 ↔ (48 ≤ c ∧ c ≤ 57) := by
  constructor
  · intro h
    exact (by decide : ∀ c ∈ Z10, 48 ≤ c ∧ c ≤ 57) c h
  · intro ⟨h1, h2⟩
    obtain ⟨k, rfl⟩ : ∃ k, c = 48 + k := ⟨c - 48, by omega⟩
    exact (by decide : ∀ k, k < 10 → 48 + k ∈ Z10) k (by omega)
theorem z36 {c : Nat} : c ∈ Z36 ↔ LD c := by
  have e : Z36 = Z26 ++ Z10 := rfl
  rw [e, List.mem_append, z26, z10]
  rfl
/-- a name -/
def isNm (l : List Nat) : Bool := decide (1 ≤ l.length) && (decide (l.length ≤ 8) && ((match l with | [] => false | c :: _ => decide (LT c)) && l.all fun c => decide (LD c)))
structure Nm (l : List Nat) : Prop where
  len : l.length ≤ 8
  first : ∃ c r, l = c :: r ∧ LT c
  all : ∀ c ∈ l, LD c
theorem Nm.pos {l : List Nat} (h : Nm l) : 1 ≤ l.length := by
  obtain ⟨c, r, rfl, _⟩ := h.first
  simp
theorem nm_iff {l : List Nat} : isNm l = true ↔ Nm l := by
  unfold isNm
  constructor
  · intro h
    simp only [Bool.and_eq_true, decide_eq_true_eq, List.all_eq_true] at h
    obtain ⟨h1, h2, h3, h4⟩ := h
    cases l with
    | nil => simp at h1
    | cons c r => exact ⟨h2, ⟨c, r, rfl, by simpa using h3⟩, h4⟩
  · intro h
    obtain ⟨h2, ⟨c, r, rfl, h3⟩, h4⟩ := h
    simp only [Bool.and_eq_true, decide_eq_true_eq, List.all_eq_true]
    exact ⟨by simp, h2, by simpa using h3, h4⟩
/-- the digits of j as a text -/
def dg (j : Nat) : List Nat := ((toString ((j : Nat) : Int) : String) : Str).cps.toList
def zn (j : Nat) : List Nat := [122] ++ dg j
theorem zn_nm {j : Nat} (h : j < 13) : Nm (zn j) := nm_iff.mp ((by decide +kernel : ∀ j, j < 13 → isNm (zn j) = true) j h)
theorem zn_nodup : ((List.range 13).map zn).Nodup := by decide +kernel
theorem nodup_sub {α : Type} [DecidableEq α] : ∀ {l m : List α}, l.Nodup → (∀ x ∈ l, x ∈ m) → l.length ≤ m.length
  | [], _, _, _ => Nat.zero_le _
  | x :: l, m, hn, hs => by
    have hx := hs x List.mem_cons_self
    obtain ⟨h1, h2⟩ := List.nodup_cons.mp hn
    have ih := nodup_sub (l := l) (m := m.erase x) h2 fun y hy => by
      have ne : y ≠ x := fun e => h1 (e ▸ hy)
      exact (List.mem_erase_of_ne ne).mpr (hs y (List.mem_cons_of_mem _ hy))
    rw [List.length_erase_of_mem hx] at ih
    have : 0 < m.length := List.length_pos_of_mem hx
    rw [List.length_cons]
    omega
theorem zn_out {ns : List (List Nat)} (h : ∀ i, i < 13 → zn i ∈ ns) : 13 ≤ ns.length := by
  have z := nodup_sub zn_nodup (m := ns) fun x hx => by
    obtain ⟨i, hi, rfl⟩ := List.mem_map.mp hx
    exact h i (List.mem_range.mp hi)
  simpa using z
/-- a slice -/
def cutG {α : Type} (xs : List α) (lo hi : Option Int) : List α := (xs.drop (HT.sIx xs.length 0 lo)).take (HT.sIx xs.length xs.length hi - HT.sIx xs.length 0 lo)
theorem six_nat {n d k : Nat} (h : k ≤ n) : HT.sIx n d (some (k : Int)) = k := by
  unfold HT.sIx
  simp only []
  split <;> omega
theorem cutG_to {α : Type} {xs : List α} {k : Nat} (h : k ≤ xs.length) : cutG xs none (some (k : Int)) = xs.take k := by
  unfold cutG
  rw [six_nat h]
  show (xs.drop 0).take (k - 0) = xs.take k
  simp
theorem cutG_from {α : Type} {xs : List α} {k : Nat} (h : k ≤ xs.length) : cutG xs (some (k : Int)) none = xs.drop k := by
  unfold cutG
  rw [six_nat h]
  show (xs.drop k).take (xs.length - k) = xs.drop k
  rw [← List.length_drop, List.take_length]
/-! ### short names of readings -/
def rAddStr : R2 := fun x y H Q => ∃ i j, x = .str i ∧ y = .str j ∧ i.length + j.length ≤ sizeLine ∧ Q (.str (i ++ j)) H
def rLtStr : R2 := fun x y H Q => ∃ i j, x = .str i ∧ y = .str j ∧ Q (.bl (decide (i.cps.toList < j.cps.toList))) H
def rLenStr : List V → Hp → VK → Prop := fun xs H Q => ∃ z, xs = [.str z] ∧ z.length ≤ sizeLine ∧ Q (.int z.length) H
def rLenS (K : PySem.W.Frag) : List V → Hp → VK → Prop := fun xs H Q => ∃ p ys, xs = [.ref p] ∧ (SqL K H p ys ∨ SqT K H p ys) ∧ Q (.int ys.length) H
def rListS (K : PySem.W.Frag) : List V → Hp → VK → Prop := fun xs H Q => ∃ p ys, xs = [.ref p] ∧ (SqL K H p ys ∨ SqT K H p ys) ∧ ∀ l, H l = none → Q (.ref l) (upd H l (.lst ys))
def rInt1 : List V → Hp → VK → Prop := fun xs H Q => (∃ i, xs = [.int i] ∧ Q (.int i) H) ∨ ∃ k, xs = [.bl k] ∧ Q (.int (if k then 1 else 0)) H
def rStrInt : List V → Hp → VK → Prop := fun xs H Q => ∃ i, xs = [.int i] ∧ i.natAbs.log2 < 1920 ∧ Q (.str (toString i)) H
def rMin2 : List V → Hp → VK → Prop := fun xs H Q => ∃ i j, xs = [.int i, .int j] ∧ Q (.int (if j < i then j else i)) H
def rMax2 : List V → Hp → VK → Prop := fun xs H Q => ∃ i j, xs = [.int i, .int j] ∧ Q (.int (if j > i then j else i)) H
def rAbs : List V → Hp → VK → Prop := fun xs H Q => ∃ i, xs = [.int i] ∧ Q (.int (if i < 0 then -i else i)) H
def rFind : V → List V → Hp → VK → Prop := fun x xs H Q => ∃ a b, x = .str a ∧ xs = [.str b] ∧ Q (.int (Txt.find a b)) H

section
variable {X : Cx}
theorem opAddStr : OpR X (binaryOp .Add) rAddStr := op_add_str
theorem opLtStr : OpR X (compareOp .Lt) rLtStr := op_lt_str
theorem callLenStr : CallR X (.builtin "len") rLenStr := call_len_str
theorem callLenSeq : CallR X (.builtin "len") (rLenS X.K) := call_len_seq
theorem callListOf : CallR X (.type "list") (rListS X.K) := call_list_of
theorem callInt1 : CallR X (.type "int") rInt1 := call_int1
theorem callStrInt : CallR X (.type "str") rStrInt := call_str_int
theorem callMin2 (hc : X.calm = true) : CallR X (.builtin "min") rMin2 := call_min2 hc
theorem callMax2 (hc : X.calm = true) : CallR X (.builtin "max") rMax2 := call_max2 hc
theorem callAbs : CallR X (.builtin "abs") rAbs := call_abs
theorem mtFind : MtR X "str.find" rFind := mt_find
end
theorem Same.new {H : Hp} {p : Addr} {o : HO} (h : H p = none) : Same H (upd H p o) := fun a u e => by
  rw [upd_ne (ne_of_none e h)]
  exact e
theorem Same.mut {H H' : Hp} {p : Addr} {o : HO} (e : Same H H') (h : H p = none) : Same H (upd H' p o) := fun a u ha => by
  rw [upd_ne (ne_of_none ha h)]
  exact e a u ha
theorem szl {n : Nat} (h : n ≤ 100000) : n ≤ sizeLine := Nat.le_trans h (by decide)
theorem szlt {n : Nat} (h : n < 100000) : n < sizeLine := Nat.lt_of_lt_of_le h (by decide)
/-! ### readings from the head -/
section
variable {σ : L2.St} {H : Hp} {Q : VK} {i : Nat} {v : V} {ta tb tc : TE} {tl : TA} {t u : TT} {s1 s2 : TS} {D : Ends} {K : PySem.W.Frag} {r r' : R2} {sp : Sp} {E : XK} {QA : List V → Hp → Prop} {QT : Bool → Hp → Prop}
theorem wp_var (h : σ[i]? = some (some v)) (q : Q v H) : tVar i σ H Q := ⟨v, h, q⟩
theorem wp_c (q : Q v H) : tC v σ H Q := q
theorem wp_op (h : ta σ H fun x H1 => tb σ H1 fun y H2 => r x y H2 Q) : tOp r ta tb σ H Q := h
theorem wp_un {r : V → Hp → VK → Prop} (h : ta σ H fun x H1 => r x H1 Q) : tUn r ta σ H Q := h
theorem wp_nil (h : QA [] H) : tNil σ H QA := h
theorem wp_cons (h : ta σ H fun x H1 => tl σ H1 fun xs H2 => QA (x :: xs) H2) : tCons ta tl σ H QA := h
theorem wp_call (h : tl σ H fun vs H1 => sp vs H1 Q E) : tCall sp [] E tl σ H Q := by
  show tl σ H fun vs H1 => sp (vs ++ []) H1 Q E
  simpa only [List.append_nil] using h
theorem wp_cb {r : List V → Hp → VK → Prop} (h : tl σ H fun vs H1 => r vs H1 Q) : tCB r tl σ H Q := h
theorem wp_tup (h : tl σ H fun xs H1 => xs.length ≤ sizeLine ∧ ∀ p, H1 p = none → Q (.ref p) (upd H1 p (.tup xs))) : tTup tl σ H Q := h
theorem wp_lst (h : tl σ H fun xs H1 => xs.length ≤ sizeLine ∧ ∀ p, H1 p = none → Q (.ref p) (upd H1 p (.lst xs))) : tLst tl σ H Q := h
theorem wp_test (h : ta σ H fun x H1 => ∃ k, x = .bl k ∧ QT k H1) : tTest ta σ H QT := h
theorem wp_B (h : ta σ H fun x H1 => ∃ k, x = .bl k ∧ QT k H1) : tB ta σ H QT := h
theorem wp_bl {k : Bool} {R : Bool → Prop} (h : R k) : ∃ k', V.bl k = .bl k' ∧ R k' := ⟨k, rfl, h⟩
theorem wp_not (h : t σ H fun c H1 => QT (!c) H1) : tNot t σ H QT := h
theorem wp_and (h : t σ H fun c H1 => if c = true then u σ H1 QT else QT false H1) : tAnd t u σ H QT := h
theorem wp_or (h : t σ H fun c H1 => if c = true then QT true H1 else u σ H1 QT) : tOr t u σ H QT := h
theorem wp_notV (h : ta σ H fun x H1 => ∃ c, x = .bl c ∧ Q (.bl (!c)) H1) : tNotV ta σ H Q := h
theorem wp_andV (h : ta σ H fun x H1 => ∃ c, x = .bl c ∧ if c = true then tb σ H1 Q else Q (.bl false) H1) : tAndV ta tb σ H Q := h
theorem wp_orV (h : ta σ H fun x H1 => ∃ c, x = .bl c ∧ if c = true then Q (.bl true) H1 else tb σ H1 Q) : tOrV ta tb σ H Q := h
theorem wp_ifE (h : t σ H fun c H1 => if c = true then ta σ H1 Q else tb σ H1 Q) : tIf t ta tb σ H Q := h
theorem wp_chain (h : ta σ H fun x H1 => tb σ H1 fun y H2 => r x y H2 fun z H3 => ∃ k, z = .bl k ∧ (if k = true then tc σ H3 fun w' H4 => r' y w' H4 Q else Q (.bl false) H3)) : tChain r r' ta tb tc σ H Q := h
theorem wp_slice {r : V → Option Int → Option Int → Hp → VK → Prop} {tlo thi : TO} (h : ta σ H fun x H1 => tlo σ H1 fun l H2 => thi σ H2 fun u H3 => r x l u H3 Q) : tSl r ta tlo thi σ H Q := h
theorem wp_noPart {QO : Option Int → Hp → Prop} (h : QO none H) : tNoPart σ H QO := h
theorem wp_part {QO : Option Int → Hp → Prop} (h : ta σ H fun x H1 => ∃ i, x = .int i ∧ QO (some i) H1) : tPart ta σ H QO := h
theorem wp_partI {k : Int} {R : Int → Prop} (h : R k) : ∃ i, V.int k = .int i ∧ R i := ⟨k, rfl, h⟩
theorem wp_bm {T : String} {r : V → List V → Hp → VK → Prop} (h : ta σ H fun x H1 => tyV K T x H1 ∧ tl σ H1 fun xs H2 => r x xs H2 Q) : tBM K T r ta tl σ H Q := h
theorem wp_bm0 {T : String} {r : V → List V → Hp → VK → Prop} (h : ta σ H fun x H1 => tyV K T x H1 ∧ r x [] H1 Q) : tBM0 K T r ta σ H Q := h
/- operations -/
theorem wp_rI0 {g : Int → Int → V} {a b : Int} (h : Q (g a b) H) : rI0 g (.int a) (.int b) H Q := ⟨a, b, rfl, rfl, h⟩
theorem wp_rI {C : Int → Int → Prop} {g : Int → Int → V} {a b : Int} (hc : C a b) (h : Q (g a b) H) : rI C g (.int a) (.int b) H Q := ⟨a, b, rfl, rfl, hc, h⟩
theorem wp_rU {g : Int → V} {a : Int} (h : Q (g a) H) : rU g (.int a) H Q := ⟨a, rfl, h⟩
theorem wp_eqI {a b : Int} (h : Q (.bl (decide (a = b))) H) : rEq (.int a) (.int b) H Q := ⟨rfl, by
  have e : decide (V.int a = V.int b) = decide (a = b) := by simp
  rw [e]; exact h⟩
theorem wp_eqS {a b : Str} (h : Q (.bl (decide (a = b))) H) : rEq (.str a) (.str b) H Q := ⟨rfl, by
  have e : decide (V.str a = V.str b) = decide (a = b) := by simp
  rw [e]; exact h⟩
theorem wp_eqB {a b : Bool} (h : Q (.bl (decide (a = b))) H) : rEq (.bl a) (.bl b) H Q := ⟨rfl, by
  have e : decide (V.bl a = V.bl b) = decide (a = b) := by simp
  rw [e]; exact h⟩
theorem wp_neI {a b : Int} (h : Q (.bl (!decide (a = b))) H) : rNe (.int a) (.int b) H Q := ⟨rfl, by
  have e : decide (V.int a = V.int b) = decide (a = b) := by simp
  rw [e]; exact h⟩
theorem wp_neS {a b : Str} (h : Q (.bl (!decide (a = b))) H) : rNe (.str a) (.str b) H Q := ⟨rfl, by
  have e : decide (V.str a = V.str b) = decide (a = b) := by simp
  rw [e]; exact h⟩
theorem wp_addStr {a b : Str} (hl : a.length + b.length ≤ 100000) (h : Q (.str (a ++ b)) H) : rAddStr (.str a) (.str b) H Q := ⟨a, b, rfl, rfl, Nat.le_trans hl (by decide), h⟩
theorem wp_ixL {a : Addr} {k : Int} {xs : List V} (hx : SqL K H a xs) (ha : atI xs k = some v) (h : Q v H) : rIxL K (.ref a) (.int k) H Q := ⟨a, xs, k, v, rfl, rfl, hx, ha, h⟩
theorem wp_ixT {a : Addr} {k : Int} {xs : List V} (hx : SqT K H a xs) (ha : atI xs k = some v) (h : Q v H) : rIxT K (.ref a) (.int k) H Q := ⟨a, xs, k, v, rfl, rfl, hx, ha, h⟩
theorem wp_ixS {z : Str} {k : Int} {c : Nat} (hz : z.length ≤ 100000) (ha : atI z.cps.toList k = some c) (h : Q (.str ⟨#[c]⟩) H) : rIxS (.str z) (.int k) H Q := ⟨z, k, c, rfl, rfl, Nat.le_trans hz (by decide), ha, h⟩
theorem wp_inS {c : Nat} {z : Str} (h : Q (.bl (decide (c ∈ z.cps.toList))) H) : rInS (.str ⟨#[c]⟩) (.str z) H Q := ⟨c, z, rfl, rfl, h⟩
theorem wp_notInS {c : Nat} {z : Str} (h : Q (.bl (!decide (c ∈ z.cps.toList))) H) : rNotInS (.str ⟨#[c]⟩) (.str z) H Q := ⟨c, z, rfl, rfl, h⟩
theorem wp_inL {a : Addr} {x : V} {xs : List V} (hx : SqL K H a xs) (h1 : flatV x = true) (h2 : xs.all flatV = true) (h : Q (.bl (inV x xs)) H) : rIn K false x (.ref a) H Q := ⟨a, xs, rfl, .inl hx, h1, h2, h⟩
theorem wp_notInL {a : Addr} {x : V} {xs : List V} (hx : SqL K H a xs) (h1 : flatV x = true) (h2 : xs.all flatV = true) (h : Q (.bl (!inV x xs)) H) : rIn K true x (.ref a) H Q := ⟨a, xs, rfl, .inl hx, h1, h2, h⟩
theorem wp_int1 {a : Int} (h : Q (.int a) H) : rInt1 [.int a] H Q := .inl ⟨a, rfl, h⟩
theorem wp_strInt {a : Int} (hl : a.natAbs.log2 < 1920) (h : Q (.str (toString a)) H) : rStrInt [.int a] H Q := ⟨a, rfl, hl, h⟩
theorem wp_lenStr {z : Str} (hz : z.length ≤ 100000) (h : Q (.int z.length) H) : rLenStr [.str z] H Q := ⟨z, rfl, Nat.le_trans hz (by decide), h⟩
theorem wp_lenL {a : Addr} {xs : List V} (hx : SqL K H a xs) (h : Q (.int xs.length) H) : rLenS K [.ref a] H Q := ⟨a, xs, rfl, .inl hx, h⟩
theorem wp_lenT {a : Addr} {xs : List V} (hx : SqT K H a xs) (h : Q (.int xs.length) H) : rLenS K [.ref a] H Q := ⟨a, xs, rfl, .inr hx, h⟩
theorem wp_min2 {a b : Int} (h : Q (.int (if b < a then b else a)) H) : rMin2 [.int a, .int b] H Q := ⟨a, b, rfl, h⟩
theorem wp_max2 {a b : Int} (h : Q (.int (if b > a then b else a)) H) : rMax2 [.int a, .int b] H Q := ⟨a, b, rfl, h⟩
theorem wp_find {a b : Str} (h : Q (.int (Txt.find a b)) H) : rFind (.str a) [.str b] H Q := ⟨a, b, rfl, rfl, h⟩
theorem wp_listL {a : Addr} {xs : List V} (hx : SqL K H a xs) (h : ∀ l, H l = none → Q (.ref l) (upd H l (.lst xs))) : rListS K [.ref a] H Q := ⟨a, xs, rfl, .inl hx, h⟩
theorem wp_append {a : Addr} {x : V} {xs : List V} (hx : H a = some (.lst xs)) (hl : xs.length < 100000) (h : Q .non (upd H a (.lst (xs ++ [x])))) : rAppend (.ref a) [x] H Q := ⟨a, xs, x, rfl, rfl, hx, Nat.lt_of_lt_of_le hl (by decide), h⟩
theorem ty_list {a : Addr} {xs : List V} {R : Prop} (hx : SqL K H a xs) (h : R) : tyV K "list" (.ref a) H ∧ R := ⟨.inl ⟨rfl, xs, hx⟩, h⟩
theorem ty_str {z : Str} {R : Prop} (h : R) : tyV K "str" (.str z) H ∧ R := ⟨rfl, h⟩
theorem wp_isi {x : V} {n : String} {tv : Value} {b : Bool} (ty : TyX K H x tv) (e : PySem.W.kitOne K tv (.type n) = some b) (h : Q (.bl b) H) : rIsi K [x, .ty n] H Q := ⟨x, .ty n, tv, .type n, b, rfl, .ty n, ty, e, h⟩
theorem pe_strS {X : Cx} {x : Str} {j : Nat} {pos : Pos} {l : List Nat} (h : x = S l) : PE X (.Constant (.str x) j pos) (tC (.str (S l))) := by
  rw [h]
  exact pe_str
theorem wp_addS {a b : List Nat} (hl : a.length + b.length ≤ 100000) (h : Q (.str (S (a ++ b))) H) : rAddStr (.str (S a)) (.str (S b)) H Q := by
  refine wp_addStr (by rw [S_len, S_len]; exact hl) ?_
  rw [S_cat]
  exact h
theorem wp_ixSM {z : List Nat} {k : Int} (hz : z.length ≤ 100000) (h0 : 0 ≤ k) (h1 : k < z.length) (h : ∀ c, c ∈ z → z[k.toNat]? = some c → Q (.str (S [c])) H) : rIxS (.str (S z)) (.int k) H Q := by
  have hl : k.toNat < z.length := by omega
  have e : k = ((k.toNat : Nat) : Int) := by omega
  have y := atI_nat (List.getElem?_eq_getElem hl)
  rw [← e] at y
  exact wp_ixS (by rw [S_len]; exact hz) y (h _ (List.getElem_mem hl) (List.getElem?_eq_getElem hl))
theorem wp_lenS {z : List Nat} (hz : z.length ≤ 100000) (h : Q (.int z.length) H) : rLenStr [.str (S z)] H Q := by
  refine wp_lenStr (by rw [S_len]; exact hz) ?_
  rw [S_len]
  exact h
theorem wp_strIntS {j : Nat} (hj : j < 1000000) (h : Q (.str (S (dg j))) H) : rStrInt [.int j] H Q := by
  refine wp_strInt ?_ ?_
  · have e : (j : Int).natAbs = j := Int.natAbs_natCast j
    rw [e]
    have : j.log2 ≤ j := Nat.log2_le_self j
    by_cases hz : j = 0
    · subst hz; decide
    · exact Nat.lt_trans ((Nat.log2_lt hz).mpr (show j < 2 ^ 20 by omega)) (by decide)
  · have e : (S (dg j)) = ((toString ((j : Nat) : Int) : String) : Str) := S_tl _
    rw [e] at h
    exact h
theorem inV_sv {a : List Nat} {ns : List (List Nat)} : inV (sv a) (ns.map sv) = decide (a ∈ ns) := by
  unfold inV
  rw [List.any_map, Bool.eq_iff_iff, List.any_eq_true, decide_eq_true_eq]
  constructor
  · rintro ⟨x, hx, e⟩
    have e2 : (S x == S a) = true := e
    rw [SX.S_beq_eq, decide_eq_true_eq] at e2
    rw [← e2]; exact hx
  · intro h
    refine ⟨a, h, ?_⟩
    show (S a == S a) = true
    exact beq_self_eq_true _
theorem flat_sv {ns : List (List Nat)} : (ns.map sv).all flatV = true := by
  rw [List.all_map, List.all_eq_true]
  intro x _
  rfl
theorem wp_inSv {p : Addr} {a : List Nat} {ns : List (List Nat)} (hx : SqL K H p (ns.map sv)) (h : Q (.bl (decide (a ∈ ns))) H) : rIn K false (.str (S a)) (.ref p) H Q := by
  refine wp_inL hx rfl flat_sv ?_
  show Q (.bl (inV (sv a) (ns.map sv))) H
  rw [inV_sv]; exact h
theorem wp_notInSv {p : Addr} {a : List Nat} {ns : List (List Nat)} (hx : SqL K H p (ns.map sv)) (h : Q (.bl (!decide (a ∈ ns))) H) : rIn K true (.str (S a)) (.ref p) H Q := by
  refine wp_notInL hx rfl flat_sv ?_
  show Q (.bl (!inV (sv a) (ns.map sv))) H
  rw [inV_sv]; exact h
theorem wp_minL {a : Addr} {ns : List Int} (hx : SqL K H a (ns.map V.int)) (h0 : 0 < ns.length) (h : ∀ m, m ∈ ns → (∀ y ∈ ns, m ≤ y) → Q (.int m) H) : rMin K [.ref a] H Q := ⟨a, ns, rfl, hx, h0, h⟩
theorem wp_maxL {a : Addr} {ns : List Int} (hx : SqL K H a (ns.map V.int)) (h0 : 0 < ns.length) (h : ∀ m, m ∈ ns → (∀ y ∈ ns, y ≤ m) → Q (.int m) H) : rMax K [.ref a] H Q := ⟨a, ns, rfl, hx, h0, h⟩
theorem wp_allL {a : Addr} {bs : List Bool} (hx : SqL K H a (bs.map V.bl)) (h : Q (.bl (bs.all id)) H) : rAll K [.ref a] H Q := ⟨a, bs, rfl, hx, h⟩
theorem wp_anyL {a : Addr} {bs : List Bool} (hx : SqL K H a (bs.map V.bl)) (h : Q (.bl (bs.any id)) H) : rAny K [.ref a] H Q := ⟨a, bs, rfl, hx, h⟩
theorem wp_isiB {b : Bool} (h : Q (.bl true) H) : rIsi K [.bl b, .ty "bool"] H Q := wp_isi (.base (.bl b)) (by unfold PySem.W.kitOne; rw [if_pos (by decide)]) h
theorem wp_sliceS {z : List Nat} {lo hi : Option Int} (hz : z.length ≤ 100000) (h : Q (.str (S (cutG z lo hi))) H) : rSlS (.str (S z)) lo hi H Q := by
  refine ⟨S z, rfl, szl (by rw [S_len]; exact hz), ?_⟩
  have e : cutS (S z) lo hi = S (cutG z lo hi) := by
    unfold cutS cutG
    rw [S_len]
  rw [e]
  exact h
/- statements -/
theorem wp_seq (h : s1 { D with nx := s2 D } σ H) : tSeq s1 s2 D σ H := h
theorem wp_next (h : D.nx σ H) : tNext D σ H := h
theorem wp_brk (h : D.bk σ H) : tBreak D σ H := h
theorem wp_cont (h : D.ct σ H) : tCont D σ H := h
theorem wp_ret (h : ta σ H D.rt) : tRet ta D σ H := h
theorem wp_drop (h : ta σ H fun _ H1 => D.nx σ H1) : tDrop ta D σ H := h
theorem wp_asg {g : TG} (h : ta σ H fun x H1 => g x σ H1 D.nx) : tAsg ta g D σ H := h
theorem wp_gname {QS : L2.St → Hp → Prop} (h : QS (σ.set i (some v)) H) : gName i v σ H QS := h
theorem wp_gsub {ts : TSet} {QS : L2.St → Hp → Prop} (h : ta σ H fun o H1 => tb σ H1 fun k H2 => ts o k v H2 fun H3 => QS σ H3) : gSub ta tb ts v σ H QS := h
theorem wp_setL {QH : Hp → Prop} {a : Addr} {k : Int} {j : Nat} {xs : List V} (hx : H a = some (.lst xs)) (hj : ixN xs.length k = some j) (h : QH (upd H a (.lst (xs.set j v)))) : rSetL (.ref a) (.int k) v H QH := ⟨a, xs, k, j, rfl, rfl, hx, hj, h⟩
theorem wp_setL0 {QH : Hp → Prop} {a : Addr} {x : V} {xs : List V} (hx : H a = some (.lst (x :: xs))) (h : QH (upd H a (.lst (v :: xs)))) : rSetL (.ref a) (.int 0) v H QH :=
  ⟨a, x :: xs, 0, 0, rfl, rfl, hx, by unfold ixN; simp only [List.length_cons]; rw [if_pos (by omega), if_pos (by omega)]; rfl, h⟩
theorem wp_setL1 {QH : Hp → Prop} {a : Addr} {x y : V} {xs : List V} (hx : H a = some (.lst (x :: y :: xs))) (h : QH (upd H a (.lst (x :: v :: xs)))) : rSetL (.ref a) (.int 1) v H QH :=
  ⟨a, x :: y :: xs, 1, 1, rfl, rfl, hx, by unfold ixN; simp only [List.length_cons]; rw [if_pos (by omega), if_pos (by omega)]; rfl, h⟩
theorem is_var (h : tVar i σ H Q) : tVar i σ H Q := h
theorem is_gname {QS : L2.St → Hp → Prop} (h : gName i v σ H QS) : gName i v σ H QS := h
theorem wp_ixLM {a : Addr} {k : Int} {xs : List V} (hx : SqL K H a xs) (h0 : 0 ≤ k) (h1 : k < xs.length) (h : ∀ v, v ∈ xs → xs[k.toNat]? = some v → Q v H) : rIxL K (.ref a) (.int k) H Q := by
  have hl : k.toNat < xs.length := by omega
  have e : k = ((k.toNat : Nat) : Int) := by omega
  have z := atI_nat (List.getElem?_eq_getElem hl)
  rw [← e] at z
  exact wp_ixL hx z (h _ (List.getElem_mem hl) (List.getElem?_eq_getElem hl))
theorem wp_ixLI {a : Addr} {k : Int} {cs : List Int} (hx : SqL K H a (cs.map V.int)) (h0 : 0 ≤ k) (h1 : k < (cs.map V.int).length) (h : ∀ c, c ∈ cs → Q (.int c) H) : rIxL K (.ref a) (.int k) H Q :=
  wp_ixLM hx h0 h1 fun v hv _ => by
    obtain ⟨c, hc, rfl⟩ := List.mem_map.mp hv
    exact h c hc
theorem wp_cut {s1 s2 : TS} (Mid : L2.St → Hp → Prop) (h1 : s1 { D with nx := Mid } σ H) (h2 : ∀ σ' H', Mid σ' H' → s2 D σ' H') : C8.tCut s1 s2 D σ H := ⟨Mid, h1, h2⟩
theorem wp_ifS (h : t σ H fun b H1 => if b = true then s1 D σ H1 else s2 D σ H1) : tIfS t s1 s2 D σ H := h
/- loops -/
def ForW (J : It) (g : TG) (tb : TS) (D : Ends) (σ : L2.St) (H : Hp) : Prop := tFor (fun _ H1 R => R J H1) g tb D σ H
theorem wp_for1 {g : TG} {tb : TS} (h : tl σ H fun vs H1 => ∃ j : Int, vs = [.int j] ∧ -(2 ^ 62) ≤ j ∧ j < 2 ^ 62 ∧ ForW (Itr 0 j.toNat) g tb D σ H1) : tFor (iRng1 tl) g tb D σ H := h
theorem wp_for2 {g : TG} {tb : TS} (h : tl σ H fun vs H1 => ∃ i j : Int, vs = [.int i, .int j] ∧ (-(2 ^ 62) ≤ i ∧ i < 2 ^ 62 ∧ -(2 ^ 62) ≤ j ∧ j < 2 ^ 62) ∧ ForW (Itr i (j - i).toNat) g tb D σ H1) : tFor (iRng2 tl) g tb D σ H := h
theorem wp_forL {g : TG} {tb : TS} (h : ta σ H fun x H1 => ∃ a, x = .ref a ∧ (∃ xs, SqL K H1 a xs) ∧ ForW (Itl K a) g tb D σ H1) : tFor (iList K ta) g tb D σ H := h
theorem wp_forT {g : TG} {tb : TS} (h : ta σ H fun x H1 => ∃ a, x = .ref a ∧ (∃ xs, SqT K H1 a xs) ∧ ForW (Itt K a) g tb D σ H1) : tFor (iTup K ta) g tb D σ H := h
theorem wp_forS {g : TG} {tb : TS} (h : ta σ H fun v H1 => ∃ x, v = .str x ∧ ForW (Its x) g tb D σ H1) : tFor (iStr ta) g tb D σ H := h
theorem loop1 {g : TG} {tb : TS} {n : Int} (b : -4611686018427387904 ≤ n ∧ n < 4611686018427387904) (Pv : Nat → L2.St → Hp → Prop) (h0 : Pv 0 σ H)
    (hs : ∀ (i : Nat) σ' H', (i : Int) < n → Pv i σ' H' → g (.int ((i : Nat) : Int)) σ' H' fun σ2 H2 => tb { D with nx := Pv (i + 1), ct := Pv (i + 1), bk := D.nx } σ2 H2) (hd : ∀ σ' H', Pv n.toNat σ' H' → D.nx σ' H') :
    ∃ j : Int, [V.int n] = [V.int j] ∧ -(2 ^ 62) ≤ j ∧ j < 2 ^ 62 ∧ ForW (Itr 0 j.toNat) g tb D σ H := by
  refine ⟨n, rfl, by omega, by omega, for_range Pv h0 (fun i σ' H' hi p => ?_) hd⟩
  have e0 : (0 : Int) + (i : Int) = (i : Int) := Int.zero_add _
  rw [e0]
  exact hs i σ' H' (by omega) p
theorem loop2 {g : TG} {tb : TS} {lo n : Int} (b : -4611686018427387904 ≤ lo ∧ lo < 4611686018427387904 ∧ -4611686018427387904 ≤ n ∧ n < 4611686018427387904) (Pv : Nat → L2.St → Hp → Prop) (h0 : Pv 0 σ H)
    (hs : ∀ (i : Nat) σ' H', lo + (i : Int) < n → Pv i σ' H' → g (.int (lo + ((i : Nat) : Int))) σ' H' fun σ2 H2 => tb { D with nx := Pv (i + 1), ct := Pv (i + 1), bk := D.nx } σ2 H2) (hd : ∀ σ' H', Pv (n - lo).toNat σ' H' → D.nx σ' H') :
    ∃ i j : Int, [V.int lo, V.int n] = [V.int i, V.int j] ∧ (-(2 ^ 62) ≤ i ∧ i < 2 ^ 62 ∧ -(2 ^ 62) ≤ j ∧ j < 2 ^ 62) ∧ ForW (Itr i (j - i).toNat) g tb D σ H :=
  ⟨lo, n, rfl, ⟨by omega, by omega, by omega, by omega⟩, for_range Pv h0 (fun i σ' H' hi p => hs i σ' H' (by omega) p) hd⟩
theorem loopL {g : TG} {tb : TS} {a : Addr} {xs : List V} (hx : SqL K H a xs) (Pv : Nat → L2.St → Hp → Prop) (h0 : Pv 0 σ H) (hl : ∀ i σ' H', i ≤ xs.length → Pv i σ' H' → SqL K H' a xs)
    (hs : ∀ i x σ' H', xs[i]? = some x → Pv i σ' H' → g x σ' H' fun σ2 H2 => tb { D with nx := Pv (i + 1), ct := Pv (i + 1), bk := D.nx } σ2 H2) (hd : ∀ σ' H', Pv xs.length σ' H' → D.nx σ' H') :
    ∃ b, V.ref a = .ref b ∧ (∃ xs, SqL K H b xs) ∧ ForW (Itl K b) g tb D σ H := ⟨a, rfl, ⟨xs, hx⟩, for_list Pv h0 hl hs hd⟩
theorem loopT {g : TG} {tb : TS} {a : Addr} {xs : List V} (hx : SqT K H a xs) (Pv : Nat → L2.St → Hp → Prop) (h0 : Pv 0 σ H) (hl : ∀ i σ' H', i ≤ xs.length → Pv i σ' H' → SqT K H' a xs)
    (hs : ∀ i x σ' H', xs[i]? = some x → Pv i σ' H' → g x σ' H' fun σ2 H2 => tb { D with nx := Pv (i + 1), ct := Pv (i + 1), bk := D.nx } σ2 H2) (hd : ∀ σ' H', Pv xs.length σ' H' → D.nx σ' H') :
    ∃ b, V.ref a = .ref b ∧ (∃ xs, SqT K H b xs) ∧ ForW (Itt K b) g tb D σ H := ⟨a, rfl, ⟨xs, hx⟩, for_tup Pv h0 hl hs hd⟩
theorem loopS {g : TG} {tb : TS} {l : List Nat} (Pv : Nat → L2.St → Hp → Prop) (h0 : Pv 0 σ H)
    (hs : ∀ i c σ' H', l[i]? = some c → Pv i σ' H' → g (.str (S [c])) σ' H' fun σ2 H2 => tb { D with nx := Pv (i + 1), ct := Pv (i + 1), bk := D.nx } σ2 H2) (hd : ∀ σ' H', Pv l.length σ' H' → D.nx σ' H') :
    ∃ x, V.str (S l) = .str x ∧ ForW (Its x) g tb D σ H := by
  refine ⟨S l, rfl, for_it (walk_str (z := S l)) Pv h0 (fun _ _ _ _ _ => trivial) (fun i x σ' H1 H2 hi p y => ?_) (fun σ' H' p => ?_)⟩
  · obtain ⟨rfl, c, hc, rfl⟩ := y
    exact hs i c σ' H2 (by simpa using hc) p
  · exact hd σ' H' (by simpa using p)
/- comprehensions: each item's value, nothing else changed -/
def LcW (J : It) (g : TG) (tt : TT) (te : TE) (vs : List Nat) (σ : L2.St) (H1 : Hp) (Q : VK) : Prop := tLc (fun _ H R => R J H) g tt te vs σ H1 Q
theorem wp_lcL {g : TG} {tt : TT} {te : TE} {vs : List Nat} (h : ta σ H fun x H1 => ∃ a, x = .ref a ∧ (∃ xs, SqL K H1 a xs) ∧ LcW (Itl K a) g tt te vs σ H1 Q) : tLc (iList K ta) g tt te vs σ H Q := h
theorem wp_lcT {g : TG} {tt : TT} {te : TE} {vs : List Nat} (h : ta σ H fun x H1 => ∃ a, x = .ref a ∧ (∃ xs, SqT K H1 a xs) ∧ LcW (Itt K a) g tt te vs σ H1 Q) : tLc (iTup K ta) g tt te vs σ H Q := h
theorem wp_lcS {g : TG} {tt : TT} {te : TE} {vs : List Nat} (h : ta σ H fun v H1 => ∃ x, v = .str x ∧ LcW (Its x) g tt te vs σ H1 Q) : tLc (iStr ta) g tt te vs σ H Q := h
theorem wp_lc1 {g : TG} {tt : TT} {te : TE} {vs : List Nat} (h : tl σ H fun us H1 => ∃ j : Int, us = [.int j] ∧ -(2 ^ 62) ≤ j ∧ j < 2 ^ 62 ∧ LcW (Itr 0 j.toNat) g tt te vs σ H1 Q) : tLc (iRng1 tl) g tt te vs σ H Q := h
/-- a walk by items, an element that changes nothing: the list of their values -/
theorem lcMap {J : It} {n : Nat} {it : Nat → V} {Gd : Hp → Prop} (w : Walk J n Gd (fun i H x H' => H' = H ∧ x = it i)) (hn : n ≤ 100000) {g : TG} {te : TE} {vs : List Nat} (hG : ∀ H', Same H H' → Gd H') (f : Nat → V)
    (he : ∀ i H2, i < n → Same H H2 → ∀ R : VK, (∀ H3, Same H2 H3 → R (f i) H3) → g (it i) (wipe σ vs) H2 fun σ2 H3 => wipe σ2 vs = wipe σ vs ∧ te σ2 H3 R)
    (hq : ∀ D H2, H D = none → Same H H2 → H2 D = some (.lst ((List.range n).map f)) → Q (.ref D) H2) : LcW J g tYes te vs σ H Q := by
  intro D hD
  refine lc_it w (fun i H2 => Same H H2 ∧ H2 D = some (.lst ((List.range i).map f))) ⟨Same.new hD, upd_same⟩ (fun i H2 _ p => hG H2 p.1) (fun i x H2 H3 hi p y => ?_) (fun H2 p => hq D H2 hD p.1 p.2)
  obtain ⟨rfl, rfl⟩ := y
  have z := he i H3 hi p.1 (fun y H4 => ∃ acc, H4 D = some (.lst acc) ∧ acc.length < sizeLine ∧ (Same H (upd H4 D (.lst (acc ++ [y]))) ∧ upd H4 D (.lst (acc ++ [y])) D = some (.lst ((List.range (i + 1)).map f)))) (fun H4 s4 => ?_)
  · exact z
  · refine ⟨_, s4 _ _ p.2, ?_, Same.mut (p.1.trans s4) hD, ?_⟩
    · rw [List.length_map, List.length_range]
      exact szlt (by omega)
    · rw [List.range_succ, List.map_append]
      exact upd_same
theorem lcMapL {a : Addr} {xs : List V} {j : Nat} {te : TE} (hx : SqL K H a xs) (hn : xs.length ≤ 100000) (σx : V → L2.St) (hw : ∀ x, (wipe σ [j]).set j (some x) = σx x ∧ wipe (σx x) [j] = wipe σ [j]) (f : V → V)
    (he : ∀ x H2, x ∈ xs → Same H H2 → ∀ R : VK, (∀ H3, Same H2 H3 → R (f x) H3) → te (σx x) H2 R)
    (hq : ∀ D H2, H D = none → Same H H2 → H2 D = some (.lst (xs.map f)) → Q (.ref D) H2) : ∃ b, V.ref a = .ref b ∧ (∃ ys, SqL K H b ys) ∧ LcW (Itl K b) (gName j) tYes te [j] σ H Q := by
  refine ⟨a, rfl, ⟨xs, hx⟩, ?_⟩
  intro D hD
  refine lc_list (xs := xs) (fun i H2 => Same H H2 ∧ H2 D = some (.lst ((xs.take i).map f))) ⟨Same.new hD, upd_same⟩ (fun i H2 _ p => Same.seq p.1 hx) (fun i x H3 hi p => ?_) (fun H2 p => hq D H2 hD p.1 (by have q := p.2; rw [List.take_length] at q; exact q))
  obtain ⟨hl, ex⟩ := List.getElem?_eq_some_iff.mp hi
  show wipe ((wipe σ [j]).set j (some x)) [j] = wipe σ [j] ∧ te ((wipe σ [j]).set j (some x)) H3 fun y H4 => ∃ acc, H4 D = some (.lst acc) ∧ acc.length < sizeLine ∧ (Same H (upd H4 D (.lst (acc ++ [y]))) ∧ upd H4 D (.lst (acc ++ [y])) D = some (.lst ((xs.take (i + 1)).map f)))
  rw [(hw x).1]
  refine ⟨(hw x).2, he x H3 (ex ▸ List.getElem_mem hl) p.1 _ fun H4 s4 => ⟨_, s4 _ _ p.2, ?_, Same.mut (p.1.trans s4) hD, ?_⟩⟩
  · rw [List.length_map, List.length_take]
    exact szlt (by omega)
  · rw [← List.take_append_getElem hl, List.map_append, ex]
    exact upd_same
theorem lcMapS {l : List Nat} {j : Nat} {te : TE} (hn : l.length ≤ 100000) (σx : V → L2.St) (hw : ∀ x, (wipe σ [j]).set j (some x) = σx x ∧ wipe (σx x) [j] = wipe σ [j]) (f : Nat → V)
    (he : ∀ c H2, c ∈ l → Same H H2 → ∀ R : VK, (∀ H3, Same H2 H3 → R (f c) H3) → te (σx (.str (S [c]))) H2 R)
    (hq : ∀ D H2, H D = none → Same H H2 → H2 D = some (.lst (l.map f)) → Q (.ref D) H2) : ∃ x, V.str (S l) = .str x ∧ LcW (Its x) (gName j) tYes te [j] σ H Q := by
  refine ⟨S l, rfl, ?_⟩
  intro D hD
  have e0 : (S l).cps.size = l.length := by simp
  refine lc_it (walk_str (z := S l)) (fun i H2 => Same H H2 ∧ H2 D = some (.lst ((l.take i).map f))) ⟨Same.new hD, upd_same⟩ (fun _ _ _ _ => trivial) (fun i x H2 H3 hi p y => ?_) (fun H2 p => hq D H2 hD p.1 (by have q := p.2; rw [e0, List.take_length] at q; exact q))
  obtain ⟨rfl, c, hc, rfl⟩ := y
  have hc : l[i]? = some c := by simpa using hc
  obtain ⟨hl, ex⟩ := List.getElem?_eq_some_iff.mp hc
  show wipe ((wipe σ [j]).set j (some (V.str (S [c])))) [j] = wipe σ [j] ∧ te ((wipe σ [j]).set j (some (V.str (S [c])))) H3 fun y H4 => ∃ acc, H4 D = some (.lst acc) ∧ acc.length < sizeLine ∧ (Same H (upd H4 D (.lst (acc ++ [y]))) ∧ upd H4 D (.lst (acc ++ [y])) D = some (.lst ((l.take (i + 1)).map f)))
  rw [(hw _).1]
  refine ⟨(hw _).2, he c H3 (ex ▸ List.getElem_mem hl) p.1 _ fun H4 s4 => ⟨_, s4 _ _ p.2, ?_, Same.mut (p.1.trans s4) hD, ?_⟩⟩
  · rw [List.length_map, List.length_take]
    exact szlt (by omega)
  · rw [← List.take_append_getElem hl, List.map_append, ex]
    exact upd_same
/- ways -/
theorem ite_dec {c A B : Prop} {dc : Decidable c} (h1 : c → A) (h2 : ¬ c → B) : if decide c = true then A else B := by
  by_cases h : c
  · rw [decide_eq_true h]; exact h1 h
  · rw [decide_eq_false h]; exact h2 h
theorem ite_ndec {c A B : Prop} {dc : Decidable c} (h1 : ¬ c → A) (h2 : c → B) : if (!decide c) = true then A else B := by
  by_cases h : c
  · rw [decide_eq_true h]; exact h2 h
  · rw [decide_eq_false h]; exact h1 h
theorem ite_T {c A B : Prop} {dc : Decidable c} (hc : c) (h : A) : if decide c = true then A else B := by
  rw [decide_eq_true hc]; exact h
theorem ite_F {c A B : Prop} {dc : Decidable c} (hc : ¬ c) (h : B) : if decide c = true then A else B := by
  rw [decide_eq_false hc]; exact h
theorem ite_nT {c A B : Prop} {dc : Decidable c} (hc : ¬ c) (h : A) : if (!decide c) = true then A else B := by
  rw [decide_eq_false hc]; exact h
theorem ite_nF {c A B : Prop} {dc : Decidable c} (hc : c) (h : B) : if (!decide c) = true then A else B := by
  rw [decide_eq_true hc]; exact h
theorem ite_t {A B : Prop} (h : A) : if true = true then A else B := by rw [if_pos rfl]; exact h
theorem ite_f {A B : Prop} (h : B) : if false = true then A else B := by rw [if_neg Bool.false_ne_true]; exact h
theorem ite_nt {A B : Prop} (h : B) : if (!true) = true then A else B := by rw [if_neg (by decide)]; exact h
theorem ite_nff {A B : Prop} (h : A) : if (!false) = true then A else B := by rw [if_pos (by decide)]; exact h
theorem ite_b {b : Bool} {A B : Prop} (h1 : b = true → A) (h2 : b = false → B) : if b = true then A else B := by
  cases b
  · exact h2 rfl
  · exact h1 rfl
theorem ite_nb {b : Bool} {A B : Prop} (h1 : b = false → A) (h2 : b = true → B) : if (!b) = true then A else B := by
  cases b
  · exact h1 rfl
  · exact h2 rfl
end
/- slots -/
section
variable {v : V} {H : Hp} {QS : L2.St → Hp → Prop} {r : L2.St}
theorem wp_g0 {a0 : Option V} (h : QS (some v :: r) H) : gName 0 v (a0 :: r) H QS := h
theorem wp_g1 {a0 a1 : Option V} (h : QS (a0 :: some v :: r) H) : gName 1 v (a0 :: a1 :: r) H QS := h
theorem wp_g2 {a0 a1 a2 : Option V} (h : QS (a0 :: a1 :: some v :: r) H) : gName 2 v (a0 :: a1 :: a2 :: r) H QS := h
theorem wp_g3 {a0 a1 a2 a3 : Option V} (h : QS (a0 :: a1 :: a2 :: some v :: r) H) : gName 3 v (a0 :: a1 :: a2 :: a3 :: r) H QS := h
theorem wp_g4 {a0 a1 a2 a3 a4 : Option V} (h : QS (a0 :: a1 :: a2 :: a3 :: some v :: r) H) : gName 4 v (a0 :: a1 :: a2 :: a3 :: a4 :: r) H QS := h
theorem wp_g5 {a0 a1 a2 a3 a4 a5 : Option V} (h : QS (a0 :: a1 :: a2 :: a3 :: a4 :: some v :: r) H) : gName 5 v (a0 :: a1 :: a2 :: a3 :: a4 :: a5 :: r) H QS := h
theorem wp_g6 {a0 a1 a2 a3 a4 a5 a6 : Option V} (h : QS (a0 :: a1 :: a2 :: a3 :: a4 :: a5 :: some v :: r) H) : gName 6 v (a0 :: a1 :: a2 :: a3 :: a4 :: a5 :: a6 :: r) H QS := h
theorem wp_g7 {a0 a1 a2 a3 a4 a5 a6 a7 : Option V} (h : QS (a0 :: a1 :: a2 :: a3 :: a4 :: a5 :: a6 :: some v :: r) H) : gName 7 v (a0 :: a1 :: a2 :: a3 :: a4 :: a5 :: a6 :: a7 :: r) H QS := h
theorem wp_g8 {a0 a1 a2 a3 a4 a5 a6 a7 a8 : Option V} (h : QS (a0 :: a1 :: a2 :: a3 :: a4 :: a5 :: a6 :: a7 :: some v :: r) H) : gName 8 v (a0 :: a1 :: a2 :: a3 :: a4 :: a5 :: a6 :: a7 :: a8 :: r) H QS := h
theorem wp_g9 {a0 a1 a2 a3 a4 a5 a6 a7 a8 a9 : Option V} (h : QS (a0 :: a1 :: a2 :: a3 :: a4 :: a5 :: a6 :: a7 :: a8 :: some v :: r) H) : gName 9 v (a0 :: a1 :: a2 :: a3 :: a4 :: a5 :: a6 :: a7 :: a8 :: a9 :: r) H QS := h
theorem wp_g10 {a0 a1 a2 a3 a4 a5 a6 a7 a8 a9 a10 : Option V} (h : QS (a0 :: a1 :: a2 :: a3 :: a4 :: a5 :: a6 :: a7 :: a8 :: a9 :: some v :: r) H) : gName 10 v (a0 :: a1 :: a2 :: a3 :: a4 :: a5 :: a6 :: a7 :: a8 :: a9 :: a10 :: r) H QS := h
theorem wp_g11 {a0 a1 a2 a3 a4 a5 a6 a7 a8 a9 a10 a11 : Option V} (h : QS (a0 :: a1 :: a2 :: a3 :: a4 :: a5 :: a6 :: a7 :: a8 :: a9 :: a10 :: some v :: r) H) : gName 11 v (a0 :: a1 :: a2 :: a3 :: a4 :: a5 :: a6 :: a7 :: a8 :: a9 :: a10 :: a11 :: r) H QS := h
theorem wp_g12 {a0 a1 a2 a3 a4 a5 a6 a7 a8 a9 a10 a11 a12 : Option V} (h : QS (a0 :: a1 :: a2 :: a3 :: a4 :: a5 :: a6 :: a7 :: a8 :: a9 :: a10 :: a11 :: some v :: r) H) : gName 12 v (a0 :: a1 :: a2 :: a3 :: a4 :: a5 :: a6 :: a7 :: a8 :: a9 :: a10 :: a11 :: a12 :: r) H QS := h
theorem wp_g13 {a0 a1 a2 a3 a4 a5 a6 a7 a8 a9 a10 a11 a12 a13 : Option V} (h : QS (a0 :: a1 :: a2 :: a3 :: a4 :: a5 :: a6 :: a7 :: a8 :: a9 :: a10 :: a11 :: a12 :: some v :: r) H) : gName 13 v (a0 :: a1 :: a2 :: a3 :: a4 :: a5 :: a6 :: a7 :: a8 :: a9 :: a10 :: a11 :: a12 :: a13 :: r) H QS := h
theorem wp_g14 {a0 a1 a2 a3 a4 a5 a6 a7 a8 a9 a10 a11 a12 a13 a14 : Option V} (h : QS (a0 :: a1 :: a2 :: a3 :: a4 :: a5 :: a6 :: a7 :: a8 :: a9 :: a10 :: a11 :: a12 :: a13 :: some v :: r) H) : gName 14 v (a0 :: a1 :: a2 :: a3 :: a4 :: a5 :: a6 :: a7 :: a8 :: a9 :: a10 :: a11 :: a12 :: a13 :: a14 :: r) H QS := h
theorem wp_g15 {a0 a1 a2 a3 a4 a5 a6 a7 a8 a9 a10 a11 a12 a13 a14 a15 : Option V} (h : QS (a0 :: a1 :: a2 :: a3 :: a4 :: a5 :: a6 :: a7 :: a8 :: a9 :: a10 :: a11 :: a12 :: a13 :: a14 :: some v :: r) H) : gName 15 v (a0 :: a1 :: a2 :: a3 :: a4 :: a5 :: a6 :: a7 :: a8 :: a9 :: a10 :: a11 :: a12 :: a13 :: a14 :: a15 :: r) H QS := h
theorem wp_g16 {a0 a1 a2 a3 a4 a5 a6 a7 a8 a9 a10 a11 a12 a13 a14 a15 a16 : Option V} (h : QS (a0 :: a1 :: a2 :: a3 :: a4 :: a5 :: a6 :: a7 :: a8 :: a9 :: a10 :: a11 :: a12 :: a13 :: a14 :: a15 :: some v :: r) H) : gName 16 v (a0 :: a1 :: a2 :: a3 :: a4 :: a5 :: a6 :: a7 :: a8 :: a9 :: a10 :: a11 :: a12 :: a13 :: a14 :: a15 :: a16 :: r) H QS := h
theorem wp_g17 {a0 a1 a2 a3 a4 a5 a6 a7 a8 a9 a10 a11 a12 a13 a14 a15 a16 a17 : Option V} (h : QS (a0 :: a1 :: a2 :: a3 :: a4 :: a5 :: a6 :: a7 :: a8 :: a9 :: a10 :: a11 :: a12 :: a13 :: a14 :: a15 :: a16 :: some v :: r) H) : gName 17 v (a0 :: a1 :: a2 :: a3 :: a4 :: a5 :: a6 :: a7 :: a8 :: a9 :: a10 :: a11 :: a12 :: a13 :: a14 :: a15 :: a16 :: a17 :: r) H QS := h
theorem wp_g18 {a0 a1 a2 a3 a4 a5 a6 a7 a8 a9 a10 a11 a12 a13 a14 a15 a16 a17 a18 : Option V} (h : QS (a0 :: a1 :: a2 :: a3 :: a4 :: a5 :: a6 :: a7 :: a8 :: a9 :: a10 :: a11 :: a12 :: a13 :: a14 :: a15 :: a16 :: a17 :: some v :: r) H) : gName 18 v (a0 :: a1 :: a2 :: a3 :: a4 :: a5 :: a6 :: a7 :: a8 :: a9 :: a10 :: a11 :: a12 :: a13 :: a14 :: a15 :: a16 :: a17 :: a18 :: r) H QS := h
theorem wp_g19 {a0 a1 a2 a3 a4 a5 a6 a7 a8 a9 a10 a11 a12 a13 a14 a15 a16 a17 a18 a19 : Option V} (h : QS (a0 :: a1 :: a2 :: a3 :: a4 :: a5 :: a6 :: a7 :: a8 :: a9 :: a10 :: a11 :: a12 :: a13 :: a14 :: a15 :: a16 :: a17 :: a18 :: some v :: r) H) : gName 19 v (a0 :: a1 :: a2 :: a3 :: a4 :: a5 :: a6 :: a7 :: a8 :: a9 :: a10 :: a11 :: a12 :: a13 :: a14 :: a15 :: a16 :: a17 :: a18 :: a19 :: r) H QS := h
theorem wp_g20 {a0 a1 a2 a3 a4 a5 a6 a7 a8 a9 a10 a11 a12 a13 a14 a15 a16 a17 a18 a19 a20 : Option V} (h : QS (a0 :: a1 :: a2 :: a3 :: a4 :: a5 :: a6 :: a7 :: a8 :: a9 :: a10 :: a11 :: a12 :: a13 :: a14 :: a15 :: a16 :: a17 :: a18 :: a19 :: some v :: r) H) : gName 20 v (a0 :: a1 :: a2 :: a3 :: a4 :: a5 :: a6 :: a7 :: a8 :: a9 :: a10 :: a11 :: a12 :: a13 :: a14 :: a15 :: a16 :: a17 :: a18 :: a19 :: a20 :: r) H QS := h
theorem wp_g21 {a0 a1 a2 a3 a4 a5 a6 a7 a8 a9 a10 a11 a12 a13 a14 a15 a16 a17 a18 a19 a20 a21 : Option V} (h : QS (a0 :: a1 :: a2 :: a3 :: a4 :: a5 :: a6 :: a7 :: a8 :: a9 :: a10 :: a11 :: a12 :: a13 :: a14 :: a15 :: a16 :: a17 :: a18 :: a19 :: a20 :: some v :: r) H) : gName 21 v (a0 :: a1 :: a2 :: a3 :: a4 :: a5 :: a6 :: a7 :: a8 :: a9 :: a10 :: a11 :: a12 :: a13 :: a14 :: a15 :: a16 :: a17 :: a18 :: a19 :: a20 :: a21 :: r) H QS := h
theorem wp_g22 {a0 a1 a2 a3 a4 a5 a6 a7 a8 a9 a10 a11 a12 a13 a14 a15 a16 a17 a18 a19 a20 a21 a22 : Option V} (h : QS (a0 :: a1 :: a2 :: a3 :: a4 :: a5 :: a6 :: a7 :: a8 :: a9 :: a10 :: a11 :: a12 :: a13 :: a14 :: a15 :: a16 :: a17 :: a18 :: a19 :: a20 :: a21 :: some v :: r) H) : gName 22 v (a0 :: a1 :: a2 :: a3 :: a4 :: a5 :: a6 :: a7 :: a8 :: a9 :: a10 :: a11 :: a12 :: a13 :: a14 :: a15 :: a16 :: a17 :: a18 :: a19 :: a20 :: a21 :: a22 :: r) H QS := h
theorem wp_g23 {a0 a1 a2 a3 a4 a5 a6 a7 a8 a9 a10 a11 a12 a13 a14 a15 a16 a17 a18 a19 a20 a21 a22 a23 : Option V} (h : QS (a0 :: a1 :: a2 :: a3 :: a4 :: a5 :: a6 :: a7 :: a8 :: a9 :: a10 :: a11 :: a12 :: a13 :: a14 :: a15 :: a16 :: a17 :: a18 :: a19 :: a20 :: a21 :: a22 :: some v :: r) H) : gName 23 v (a0 :: a1 :: a2 :: a3 :: a4 :: a5 :: a6 :: a7 :: a8 :: a9 :: a10 :: a11 :: a12 :: a13 :: a14 :: a15 :: a16 :: a17 :: a18 :: a19 :: a20 :: a21 :: a22 :: a23 :: r) H QS := h
theorem wp_g24 {a0 a1 a2 a3 a4 a5 a6 a7 a8 a9 a10 a11 a12 a13 a14 a15 a16 a17 a18 a19 a20 a21 a22 a23 a24 : Option V} (h : QS (a0 :: a1 :: a2 :: a3 :: a4 :: a5 :: a6 :: a7 :: a8 :: a9 :: a10 :: a11 :: a12 :: a13 :: a14 :: a15 :: a16 :: a17 :: a18 :: a19 :: a20 :: a21 :: a22 :: a23 :: some v :: r) H) : gName 24 v (a0 :: a1 :: a2 :: a3 :: a4 :: a5 :: a6 :: a7 :: a8 :: a9 :: a10 :: a11 :: a12 :: a13 :: a14 :: a15 :: a16 :: a17 :: a18 :: a19 :: a20 :: a21 :: a22 :: a23 :: a24 :: r) H QS := h
theorem wp_g25 {a0 a1 a2 a3 a4 a5 a6 a7 a8 a9 a10 a11 a12 a13 a14 a15 a16 a17 a18 a19 a20 a21 a22 a23 a24 a25 : Option V} (h : QS (a0 :: a1 :: a2 :: a3 :: a4 :: a5 :: a6 :: a7 :: a8 :: a9 :: a10 :: a11 :: a12 :: a13 :: a14 :: a15 :: a16 :: a17 :: a18 :: a19 :: a20 :: a21 :: a22 :: a23 :: a24 :: some v :: r) H) : gName 25 v (a0 :: a1 :: a2 :: a3 :: a4 :: a5 :: a6 :: a7 :: a8 :: a9 :: a10 :: a11 :: a12 :: a13 :: a14 :: a15 :: a16 :: a17 :: a18 :: a19 :: a20 :: a21 :: a22 :: a23 :: a24 :: a25 :: r) H QS := h
end
section
variable {v : V} {H : Hp} {Q : VK} {r : L2.St}
theorem wp_v0 (q : Q v H) : tVar 0 (some v :: r) H Q := ⟨v, rfl, q⟩
theorem wp_v1 {a0 : Option V} (q : Q v H) : tVar 1 (a0 :: some v :: r) H Q := ⟨v, rfl, q⟩
theorem wp_v2 {a0 a1 : Option V} (q : Q v H) : tVar 2 (a0 :: a1 :: some v :: r) H Q := ⟨v, rfl, q⟩
theorem wp_v3 {a0 a1 a2 : Option V} (q : Q v H) : tVar 3 (a0 :: a1 :: a2 :: some v :: r) H Q := ⟨v, rfl, q⟩
theorem wp_v4 {a0 a1 a2 a3 : Option V} (q : Q v H) : tVar 4 (a0 :: a1 :: a2 :: a3 :: some v :: r) H Q := ⟨v, rfl, q⟩
theorem wp_v5 {a0 a1 a2 a3 a4 : Option V} (q : Q v H) : tVar 5 (a0 :: a1 :: a2 :: a3 :: a4 :: some v :: r) H Q := ⟨v, rfl, q⟩
theorem wp_v6 {a0 a1 a2 a3 a4 a5 : Option V} (q : Q v H) : tVar 6 (a0 :: a1 :: a2 :: a3 :: a4 :: a5 :: some v :: r) H Q := ⟨v, rfl, q⟩
theorem wp_v7 {a0 a1 a2 a3 a4 a5 a6 : Option V} (q : Q v H) : tVar 7 (a0 :: a1 :: a2 :: a3 :: a4 :: a5 :: a6 :: some v :: r) H Q := ⟨v, rfl, q⟩
theorem wp_v8 {a0 a1 a2 a3 a4 a5 a6 a7 : Option V} (q : Q v H) : tVar 8 (a0 :: a1 :: a2 :: a3 :: a4 :: a5 :: a6 :: a7 :: some v :: r) H Q := ⟨v, rfl, q⟩
theorem wp_v9 {a0 a1 a2 a3 a4 a5 a6 a7 a8 : Option V} (q : Q v H) : tVar 9 (a0 :: a1 :: a2 :: a3 :: a4 :: a5 :: a6 :: a7 :: a8 :: some v :: r) H Q := ⟨v, rfl, q⟩
theorem wp_v10 {a0 a1 a2 a3 a4 a5 a6 a7 a8 a9 : Option V} (q : Q v H) : tVar 10 (a0 :: a1 :: a2 :: a3 :: a4 :: a5 :: a6 :: a7 :: a8 :: a9 :: some v :: r) H Q := ⟨v, rfl, q⟩
theorem wp_v11 {a0 a1 a2 a3 a4 a5 a6 a7 a8 a9 a10 : Option V} (q : Q v H) : tVar 11 (a0 :: a1 :: a2 :: a3 :: a4 :: a5 :: a6 :: a7 :: a8 :: a9 :: a10 :: some v :: r) H Q := ⟨v, rfl, q⟩
theorem wp_v12 {a0 a1 a2 a3 a4 a5 a6 a7 a8 a9 a10 a11 : Option V} (q : Q v H) : tVar 12 (a0 :: a1 :: a2 :: a3 :: a4 :: a5 :: a6 :: a7 :: a8 :: a9 :: a10 :: a11 :: some v :: r) H Q := ⟨v, rfl, q⟩
theorem wp_v13 {a0 a1 a2 a3 a4 a5 a6 a7 a8 a9 a10 a11 a12 : Option V} (q : Q v H) : tVar 13 (a0 :: a1 :: a2 :: a3 :: a4 :: a5 :: a6 :: a7 :: a8 :: a9 :: a10 :: a11 :: a12 :: some v :: r) H Q := ⟨v, rfl, q⟩
theorem wp_v14 {a0 a1 a2 a3 a4 a5 a6 a7 a8 a9 a10 a11 a12 a13 : Option V} (q : Q v H) : tVar 14 (a0 :: a1 :: a2 :: a3 :: a4 :: a5 :: a6 :: a7 :: a8 :: a9 :: a10 :: a11 :: a12 :: a13 :: some v :: r) H Q := ⟨v, rfl, q⟩
theorem wp_v15 {a0 a1 a2 a3 a4 a5 a6 a7 a8 a9 a10 a11 a12 a13 a14 : Option V} (q : Q v H) : tVar 15 (a0 :: a1 :: a2 :: a3 :: a4 :: a5 :: a6 :: a7 :: a8 :: a9 :: a10 :: a11 :: a12 :: a13 :: a14 :: some v :: r) H Q := ⟨v, rfl, q⟩
theorem wp_v16 {a0 a1 a2 a3 a4 a5 a6 a7 a8 a9 a10 a11 a12 a13 a14 a15 : Option V} (q : Q v H) : tVar 16 (a0 :: a1 :: a2 :: a3 :: a4 :: a5 :: a6 :: a7 :: a8 :: a9 :: a10 :: a11 :: a12 :: a13 :: a14 :: a15 :: some v :: r) H Q := ⟨v, rfl, q⟩
theorem wp_v17 {a0 a1 a2 a3 a4 a5 a6 a7 a8 a9 a10 a11 a12 a13 a14 a15 a16 : Option V} (q : Q v H) : tVar 17 (a0 :: a1 :: a2 :: a3 :: a4 :: a5 :: a6 :: a7 :: a8 :: a9 :: a10 :: a11 :: a12 :: a13 :: a14 :: a15 :: a16 :: some v :: r) H Q := ⟨v, rfl, q⟩
theorem wp_v18 {a0 a1 a2 a3 a4 a5 a6 a7 a8 a9 a10 a11 a12 a13 a14 a15 a16 a17 : Option V} (q : Q v H) : tVar 18 (a0 :: a1 :: a2 :: a3 :: a4 :: a5 :: a6 :: a7 :: a8 :: a9 :: a10 :: a11 :: a12 :: a13 :: a14 :: a15 :: a16 :: a17 :: some v :: r) H Q := ⟨v, rfl, q⟩
theorem wp_v19 {a0 a1 a2 a3 a4 a5 a6 a7 a8 a9 a10 a11 a12 a13 a14 a15 a16 a17 a18 : Option V} (q : Q v H) : tVar 19 (a0 :: a1 :: a2 :: a3 :: a4 :: a5 :: a6 :: a7 :: a8 :: a9 :: a10 :: a11 :: a12 :: a13 :: a14 :: a15 :: a16 :: a17 :: a18 :: some v :: r) H Q := ⟨v, rfl, q⟩
theorem wp_v20 {a0 a1 a2 a3 a4 a5 a6 a7 a8 a9 a10 a11 a12 a13 a14 a15 a16 a17 a18 a19 : Option V} (q : Q v H) : tVar 20 (a0 :: a1 :: a2 :: a3 :: a4 :: a5 :: a6 :: a7 :: a8 :: a9 :: a10 :: a11 :: a12 :: a13 :: a14 :: a15 :: a16 :: a17 :: a18 :: a19 :: some v :: r) H Q := ⟨v, rfl, q⟩
theorem wp_v21 {a0 a1 a2 a3 a4 a5 a6 a7 a8 a9 a10 a11 a12 a13 a14 a15 a16 a17 a18 a19 a20 : Option V} (q : Q v H) : tVar 21 (a0 :: a1 :: a2 :: a3 :: a4 :: a5 :: a6 :: a7 :: a8 :: a9 :: a10 :: a11 :: a12 :: a13 :: a14 :: a15 :: a16 :: a17 :: a18 :: a19 :: a20 :: some v :: r) H Q := ⟨v, rfl, q⟩
theorem wp_v22 {a0 a1 a2 a3 a4 a5 a6 a7 a8 a9 a10 a11 a12 a13 a14 a15 a16 a17 a18 a19 a20 a21 : Option V} (q : Q v H) : tVar 22 (a0 :: a1 :: a2 :: a3 :: a4 :: a5 :: a6 :: a7 :: a8 :: a9 :: a10 :: a11 :: a12 :: a13 :: a14 :: a15 :: a16 :: a17 :: a18 :: a19 :: a20 :: a21 :: some v :: r) H Q := ⟨v, rfl, q⟩
theorem wp_v23 {a0 a1 a2 a3 a4 a5 a6 a7 a8 a9 a10 a11 a12 a13 a14 a15 a16 a17 a18 a19 a20 a21 a22 : Option V} (q : Q v H) : tVar 23 (a0 :: a1 :: a2 :: a3 :: a4 :: a5 :: a6 :: a7 :: a8 :: a9 :: a10 :: a11 :: a12 :: a13 :: a14 :: a15 :: a16 :: a17 :: a18 :: a19 :: a20 :: a21 :: a22 :: some v :: r) H Q := ⟨v, rfl, q⟩
theorem wp_v24 {a0 a1 a2 a3 a4 a5 a6 a7 a8 a9 a10 a11 a12 a13 a14 a15 a16 a17 a18 a19 a20 a21 a22 a23 : Option V} (q : Q v H) : tVar 24 (a0 :: a1 :: a2 :: a3 :: a4 :: a5 :: a6 :: a7 :: a8 :: a9 :: a10 :: a11 :: a12 :: a13 :: a14 :: a15 :: a16 :: a17 :: a18 :: a19 :: a20 :: a21 :: a22 :: a23 :: some v :: r) H Q := ⟨v, rfl, q⟩
theorem wp_v25 {a0 a1 a2 a3 a4 a5 a6 a7 a8 a9 a10 a11 a12 a13 a14 a15 a16 a17 a18 a19 a20 a21 a22 a23 a24 : Option V} (q : Q v H) : tVar 25 (a0 :: a1 :: a2 :: a3 :: a4 :: a5 :: a6 :: a7 :: a8 :: a9 :: a10 :: a11 :: a12 :: a13 :: a14 :: a15 :: a16 :: a17 :: a18 :: a19 :: a20 :: a21 :: a22 :: a23 :: a24 :: some v :: r) H Q := ⟨v, rfl, q⟩
end
/-! ### small words about heaps -/
theorem sq_of {K : PySem.W.Frag} {H : Hp} {a : Addr} {xs : List V} (h : H a = some (.lst xs)) : SqL K H a xs := SqL.of h
theorem st_of {K : PySem.W.Frag} {H : Hp} {a : Addr} {xs : List V} (h : H a = some (.tup xs)) : SqT K H a xs := SqT.of h
theorem at_in {α : Type} {xs : List α} {i : Int} (h0 : 0 ≤ i) (h1 : i < xs.length) : ∃ v, atI xs i = some v ∧ v ∈ xs ∧ xs[i.toNat]? = some v := by
  have hl : i.toNat < xs.length := by omega
  have e : i = ((i.toNat : Nat) : Int) := by omega
  have h := atI_nat (List.getElem?_eq_getElem hl)
  rw [← e] at h
  exact ⟨_, h, List.getElem_mem hl, List.getElem?_eq_getElem hl⟩
theorem at0 {α : Type} {x : α} {xs : List α} : atI (x :: xs) 0 = some x := atI_nat (j := 0) rfl
theorem at1 {α : Type} {x y : α} {xs : List α} : atI (x :: y :: xs) 1 = some y := atI_nat (j := 1) rfl
/-! ### the pool: what a draw may change -/
structure Pl where
  p : Addr
  l : Addr
  cs : List Int
/-- the pool stands at P.p, its cells at P.l; G: all that is known besides, P.p not among it -/
structure Sees (P : Pl) (G H : Hp) : Prop where
  pool : ∃ (n c : Int), H P.p = some (.lst [.int n, .int c, .ref P.l])
  cell : G P.l = some (.lst (P.cs.map V.int))
  few : P.cs.length ≤ 63
  free : G P.p = none
  sub : Same G H
theorem Sees.more {P : Pl} {G G' H : Hp} (s : Sees P G H) (g : Same G G') (h : Same G' H) (hp : G' P.p = none) : Sees P G' H :=
  ⟨s.pool, g _ _ s.cell, s.few, hp, h⟩
/-- a thing outside of G that stands in H is known too -/
theorem Sees.with {P : Pl} {q : Addr} {o : HO} {G H : Hp} (s : Sees P G H) (hq : G q = none) (hH : H q = some o) (hqp : q ≠ P.p) : Sees P (upd G q o) H := by
  refine s.more (Same.new hq) (fun a u e => ?_) (by rw [upd_ne hqp.symm]; exact s.free)
  by_cases h : a = q
  · subst h; rw [upd_same] at e; cases e; exact hH
  · rw [upd_ne h] at e; exact s.sub _ _ e
/-- .. and may be forgotten behind a call -/
theorem Sees.back {P : Pl} {q : Addr} {o : HO} {G H H' : Hp} (s : Sees P (upd G q o) H') (s0 : Sees P G H) (hq : G q = none) : Sees P G H' ∧ H' q = some o :=
  ⟨⟨s.pool, s0.cell, s.few, s0.free, Same.trans (Same.new hq) s.sub⟩, s.sub _ _ upd_same⟩
theorem Sees.fresh {P : Pl} {q : Addr} {G H : Hp} (s : Sees P G H) (hq : H q = none) : G q = none ∧ q ≠ P.p := by
  refine ⟨s.sub.free hq, fun e => ?_⟩
  obtain ⟨n, c, h⟩ := s.pool
  rw [e, h] at hq
  cases hq
/-- a local object is made, or changed -/
theorem Sees.set {P : Pl} {q : Addr} {o : HO} {G H : Hp} (s : Sees P G H) (hq : G q = none) (hqp : q ≠ P.p) : Sees P G (upd H q o) := by
  obtain ⟨n, c, h⟩ := s.pool
  exact ⟨⟨n, c, by rw [upd_ne hqp.symm]; exact h⟩, s.cell, s.few, s.free, Same.mut s.sub hq⟩
/-- .. and known for good -/
theorem Sees.new {P : Pl} {q : Addr} {o : HO} {G H : Hp} (s : Sees P G H) (hq : H q = none) : Sees P (upd G q o) (upd H q o) := by
  obtain ⟨h1, h2⟩ := s.fresh hq
  exact (s.set h1 h2).with h1 upd_same h2
theorem Sees.drawn {P : Pl} {G H : Hp} (s : Sees P G H) (n c : Int) : Sees P G (upd H P.p (.lst [.int n, .int c, .ref P.l])) :=
  ⟨⟨n, c, upd_same⟩, s.cell, s.few, s.free, Same.mut s.sub s.free⟩
/-- what a call that leaves all as it was leaves -/
theorem Sees.same {P : Pl} {G H H' : Hp} (s : Sees P G H) (h : Same H H') : Sees P G H' := by
  obtain ⟨n, c, e⟩ := s.pool
  exact ⟨⟨n, c, h _ _ e⟩, s.cell, s.few, s.free, s.sub.trans h⟩
end RM
namespace RM
open PySem PySem.Spec PyProof.Rows L2
local macro_rules | `(tactic| walk_at "vn") => `(tactic| (first
  | with_reducible refine wp_v0 ?_
  | with_reducible refine wp_v1 ?_
  | with_reducible refine wp_v2 ?_
  | with_reducible refine wp_v3 ?_
  | with_reducible refine wp_v4 ?_
  | with_reducible refine wp_v5 ?_
  | with_reducible refine wp_v6 ?_
  | with_reducible refine wp_v7 ?_
  | with_reducible refine wp_v8 ?_
  | with_reducible refine wp_v9 ?_
  | with_reducible refine wp_v10 ?_
  | with_reducible refine wp_v11 ?_
  | with_reducible refine wp_v12 ?_
  | with_reducible refine wp_v13 ?_
  | with_reducible refine wp_v14 ?_
  | with_reducible refine wp_v15 ?_
  | with_reducible refine wp_v16 ?_
  | with_reducible refine wp_v17 ?_
  | with_reducible refine wp_v18 ?_
  | with_reducible refine wp_v19 ?_
  | with_reducible refine wp_v20 ?_
  | with_reducible refine wp_v21 ?_
  | with_reducible refine wp_v22 ?_
  | with_reducible refine wp_v23 ?_
  | with_reducible refine wp_v24 ?_
  | with_reducible refine wp_v25 ?_))
local macro_rules | `(tactic| walk_at "gn") => `(tactic| (first
  | with_reducible refine wp_g0 ?_
  | with_reducible refine wp_g1 ?_
  | with_reducible refine wp_g2 ?_
  | with_reducible refine wp_g3 ?_
  | with_reducible refine wp_g4 ?_
  | with_reducible refine wp_g5 ?_
  | with_reducible refine wp_g6 ?_
  | with_reducible refine wp_g7 ?_
  | with_reducible refine wp_g8 ?_
  | with_reducible refine wp_g9 ?_
  | with_reducible refine wp_g10 ?_
  | with_reducible refine wp_g11 ?_
  | with_reducible refine wp_g12 ?_
  | with_reducible refine wp_g13 ?_
  | with_reducible refine wp_g14 ?_
  | with_reducible refine wp_g15 ?_
  | with_reducible refine wp_g16 ?_
  | with_reducible refine wp_g17 ?_
  | with_reducible refine wp_g18 ?_
  | with_reducible refine wp_g19 ?_
  | with_reducible refine wp_g20 ?_
  | with_reducible refine wp_g21 ?_
  | with_reducible refine wp_g22 ?_
  | with_reducible refine wp_g23 ?_
  | with_reducible refine wp_g24 ?_
  | with_reducible refine wp_g25 ?_))
local macro_rules | `(tactic| walk_at "h") => `(tactic| (first
  | assumption
  | exact upd_same
  | exact (Sees.sub (by assumption) _ _ (by assumption))
  | exact (Sees.sub (by assumption) _ _ upd_same)
  | exact (Sees.sub (by assumption) _ _ (Eq.trans (upd_ne (by first | assumption | exact Ne.symm (by assumption))) (by assumption)))
  | exact (Sees.cell (by assumption))
  | exact (Sees.sub (by assumption) _ _ (Sees.cell (by assumption))) | fail "h"))
local macro_rules | `(tactic| walk_at "sq") => `(tactic| (first | assumption | exact sq_of (by walk_at "h") | fail "sq"))
local macro_rules | `(tactic| walk_at "tq") => `(tactic| (first | assumption | exact st_of (by walk_at "h") | fail "tq"))
local macro_rules | `(tactic| walk_at "len") => `(tactic| (first | assumption | omega | (simp only [List.length_map, List.length_append, List.length_cons, List.length_nil] <;> omega) | decide | fail "len"))
local macro_rules | `(tactic| walk_at "at") => `(tactic| (first | exact at0 | exact at1 | rfl | assumption | fail "at"))
local macro_rules | `(tactic| walk_at "one") => `(tactic| (first
  | with_reducible refine wp_seq ?_
  | with_reducible refine wp_asg ?_
  | ((with_reducible refine is_var ?_); walk_at "vn")
  | ((with_reducible refine is_gname ?_); walk_at "gn")
  | with_reducible refine wp_c ?_
  | with_reducible refine wp_op ?_
  | with_reducible refine wp_cb ?_
  | with_reducible refine wp_cons ?_
  | with_reducible refine wp_nil ?_
  | with_reducible refine wp_call ?_
  | with_reducible refine wp_ret ?_
  | with_reducible refine wp_next ?_
  | with_reducible refine wp_rI0 ?_
  | with_reducible refine wp_int1 ?_
  | with_reducible refine wp_test ?_
  | with_reducible refine wp_bl ?_
  | with_reducible refine wp_ifS ?_
  | with_reducible refine wp_drop ?_
  | with_reducible refine wp_eqI ?_
  | with_reducible refine wp_eqS ?_
  | with_reducible refine wp_eqB ?_
  | with_reducible refine wp_neI ?_
  | with_reducible refine wp_neS ?_
  | with_reducible refine wp_min2 ?_
  | with_reducible refine wp_max2 ?_
  | with_reducible refine wp_find ?_
  | with_reducible refine wp_B ?_
  | with_reducible refine wp_not ?_
  | with_reducible refine wp_and ?_
  | with_reducible refine wp_or ?_
  | with_reducible refine wp_notV ?_
  | with_reducible refine wp_andV ?_
  | with_reducible refine wp_orV ?_
  | with_reducible refine wp_ifE ?_
  | with_reducible refine wp_chain ?_
  | with_reducible refine wp_slice ?_
  | with_reducible refine wp_noPart ?_
  | with_reducible refine wp_part ?_
  | with_reducible refine wp_partI ?_
  | with_reducible refine wp_for1 ?_
  | with_reducible refine wp_for2 ?_
  | with_reducible refine wp_forL ?_
  | with_reducible refine wp_forT ?_
  | with_reducible refine wp_forS ?_
  | with_reducible refine wp_lcL ?_
  | with_reducible refine wp_lcT ?_
  | with_reducible refine wp_lcS ?_
  | with_reducible refine wp_lc1 ?_
  | with_reducible refine wp_brk ?_
  | with_reducible refine wp_cont ?_
  | with_reducible refine wp_bm ?_
  | with_reducible refine wp_bm0 ?_
  | with_reducible refine wp_gsub ?_
  | with_reducible refine wp_inS ?_
  | with_reducible refine wp_notInS ?_
  | with_reducible refine wp_un ?_
  | with_reducible refine wp_rU ?_
  | with_reducible refine wp_tup ?_
  | with_reducible refine wp_lst ?_
  | with_reducible refine ty_str ?_
  | with_reducible refine ite_t ?_
  | with_reducible refine ite_f ?_
  | with_reducible refine ite_nt ?_
  | with_reducible refine ite_nff ?_
  | ((with_reducible refine' ite_T ?k1 ?_); (case k1 => omega))
  | ((with_reducible refine' ite_F ?k1 ?_); (case k1 => omega))
  | ((with_reducible refine' ite_nT ?k1 ?_); (case k1 => omega))
  | ((with_reducible refine' ite_nF ?k1 ?_); (case k1 => omega))
  | ((with_reducible refine' wp_rI ?k1 ?_); (case k1 => (first | omega | exact ⟨by omega, by omega⟩ | exact .inr ⟨by decide, by decide⟩ | exact .inl ⟨by omega, by omega⟩ | exact .inl ⟨by decide, by decide⟩ | exact ⟨by decide, by decide, by decide⟩)))
  | ((with_reducible refine' wp_ixL ?k1 ?k2 ?_); (case k1 => walk_at "sq"); (case k2 => walk_at "at"))
  | ((with_reducible refine' wp_setL0 ?k1 ?_); (case k1 => walk_at "h"))
  | ((with_reducible refine' wp_setL1 ?k1 ?_); (case k1 => walk_at "h"))
  | ((with_reducible refine' wp_setL ?k1 ?k2 ?_); (case k1 => walk_at "h"); (case k2 => walk_at "at"))
  | ((with_reducible refine' wp_ixT ?k1 ?k2 ?_); (case k1 => walk_at "tq"); (case k2 => walk_at "at"))
  | ((with_reducible refine' wp_lenL ?k1 ?_); (case k1 => walk_at "sq"))
  | ((with_reducible refine' wp_lenT ?k1 ?_); (case k1 => walk_at "tq"))
  | ((with_reducible refine' wp_sliceS ?k1 ?_); (case k1 => walk_at "len"))
  | with_reducible refine wp_isiB ?_
  | ((with_reducible refine' wp_lenS ?k1 ?_); (case k1 => walk_at "len"))
  | ((with_reducible refine' wp_addS ?k1 ?_); (case k1 => walk_at "len"))
  | ((with_reducible refine' wp_lenStr ?k1 ?_); (case k1 => walk_at "len"))
  | ((with_reducible refine' ty_list ?k1 ?_); (case k1 => walk_at "sq"))
  | ((with_reducible refine' wp_addStr ?k1 ?_); (case k1 => walk_at "len"))
  | fail "no step"))
local macro_rules | `(tactic| walk_at "st") => `(tactic| (repeat' walk_at "one"))
def Z64 : List Nat := [32, 33, 34, 35, 36, 38, 39, 40, 41, 42, 43, 44, 45, 46, 47, 48, 49, 50, 51, 52, 53, 54, 55, 56, 57, 58, 59, 60, 61, 62, 63, 64, 65, 66, 67, 68, 69, 70, 71, 72, 73, 74, 75, 76, 77, 78, 79, 80, 81, 82, 83, 84, 85, 86, 87, 88, 89, 90, 91, 92, 93, 94, 95, 96]
def Z30 : List Nat := [97, 98, 99, 100, 101, 102, 103, 104, 105, 106, 107, 108, 109, 110, 111, 112, 113, 114, 115, 116, 117, 118, 119, 120, 121, 122, 123, 124, 125, 126]

def sp_l_draw (K : PySem.W.Frag) : Sp := fun vs H Q _ => ∃ (P : Pl) (m : Int) (G : Hp), vs = [.ref P.p, .int m] ∧ 0 < m ∧ m < 1073741824 ∧ Sees P G H ∧ ∀ d H', 0 ≤ d → d < m → Sees P G H' → Q (.int d) H'
abbrev N_l_draw : List Str := ["_law_pool_here", "_law_many", "_law_found", "_law_cells", "_law_near", "_law_head", "_law_mixed"]
theorem st_l_draw {a0 a1 : V} : L2.start N_l_draw [a0, a1] = [some a0, some a1, none, none, none, none, none] := rfl
def t_l_draw (K : PySem.W.Frag) : TS :=
  (tSeq ((tIfS ((tTest (tOp (rI0 fun i j => .bl (decide (j < i))) ((tOp (rIxL K) (tVar 0) (tC (.int 0)))) (tC (.int 1))))) ((tSeq ((tAsg ((tOp (rI (fun _ j => 0 < j) fun i j => .int (i % j)) ((tCB rInt1 ((tCons ((tOp (rIxL K) (tVar 0) (tC (.int 0)))) (tNil))))) (tVar 1))) (gName 2)))
    ((tSeq ((tAsg ((tOp (rI CDiv fun i j => .int (i / j)) ((tOp (rIxL K) (tVar 0) (tC (.int 0)))) (tVar 1))) (gSub (tVar 0) (tC (.int 0)) rSetL)))
    ((tRet (tVar 2))))))) (tNext)))
    ((tSeq ((tAsg ((tOp (rI0 fun i j => .int (i + j)) ((tOp (rIxL K) (tVar 0) (tC (.int 1)))) (tC (.int 1)))) (gSub (tVar 0) (tC (.int 1)) rSetL)))
    ((tSeq ((tAsg ((tOp (rIxL K) (tVar 0) (tC (.int 2)))) (gName 3)))
    ((tSeq ((tAsg (tC (.int 0)) (gName 4)))
    ((tSeq ((tAsg (tC (.int 0)) (gName 5)))
    ((tSeq ((tIfS ((tTest (tOp (rI0 fun i j => .bl (decide (j < i))) ((tCB (rLenS K) ((tCons (tVar 3) (tNil))))) (tC (.int 0))))) ((tSeq ((tAsg ((tOp (rIxL K) (tVar 3) ((tOp (rI (fun _ j => 0 < j) fun i j => .int (i % j)) ((tCB rInt1 ((tCons ((tOp (rIxL K) (tVar 0) (tC (.int 1)))) (tNil))))) ((tCB (rLenS K) ((tCons (tVar 3) (tNil))))))))) (gName 4)))
    ((tAsg ((tOp (rIxL K) (tVar 3) (tC (.int 0)))) (gName 5))))) (tNext)))
    ((tSeq ((tAsg ((tOp (rI (fun _ j => 0 < j) fun i j => .int (i % j)) ((tCB rInt1 ((tCons ((tOp (rI0 fun i j => .int (i + j)) ((tOp (rI0 fun i j => .int (i + j)) ((tOp (rI0 fun i j => .int (i + j)) ((tOp (rI CMul fun i j => .int (i * j)) (tVar 4) (tC (.int 48271)))) ((tOp (rI CMul fun i j => .int (i * j)) (tVar 5) (tC (.int 16807)))))) ((tOp (rI CMul fun i j => .int (i * j)) ((tOp (rIxL K) (tVar 0) (tC (.int 1)))) (tC (.int 69621)))))) (tC (.int 7)))) (tNil))))) (tC (.int 2147483647)))) (gName 6)))
    ((tSeq ((tAsg ((tOp (rI (fun _ j => 0 < j) fun i j => .int (i % j)) ((tCB rInt1 ((tCons ((tOp (rI0 fun i j => .int (i + j)) ((tOp (rI0 fun i j => .int (i + j)) ((tOp (rI CMul fun i j => .int (i * j)) (tVar 6) (tVar 6))) ((tOp (rI CMul fun i j => .int (i * j)) (tVar 6) (tC (.int 40692)))))) ((tOp (rI CMul fun i j => .int (i * j)) ((tOp (rIxL K) (tVar 0) (tC (.int 1)))) (tC (.int 7919)))))) (tNil))))) (tC (.int 1000000007)))) (gName 6)))
    ((tRet ((tOp (rI (fun _ j => 0 < j) fun i j => .int (i % j)) ((tCB rInt1 ((tCons ((tOp (rI CDiv fun i j => .int (i / j)) (tVar 6) (tC (.int 11)))) (tNil))))) (tVar 1))))))))))))))))))))

theorem pure_l_draw (K : PySem.W.Frag) (vs : List V) (H : Hp) (Q : VK) (E : XK) (h : sp_l_draw K vs H Q E) : t_l_draw K { nx := fun _ H' => Q .non H', rt := Q } (L2.start N_l_draw vs) H := by
  obtain ⟨P, m, G, rfl, hm, hm2, hs, k⟩ := h
  obtain ⟨n, c, hp⟩ := hs.pool
  rw [st_l_draw]
  unfold t_l_draw
  walk_at "st"
  refine ite_dec (fun h1 => ?_) (fun h1 => ?_)
  · walk_at "st"
    exact k _ _ (Int.emod_nonneg _ (by omega)) (Int.emod_lt_of_pos _ hm) (hs.drawn _ _)
  · walk_at "st"
    have hs2 := hs.drawn n (c + 1)
    have hp2 : upd H P.p (.lst [.int n, .int (c + 1), .ref P.l]) P.p = some (.lst [.int n, .int (c + 1), .ref P.l]) := upd_same
    revert hs2 hp2
    generalize upd H P.p (.lst [.int n, .int (c + 1), .ref P.l]) = H2
    intro hs2 hp2
    walk_at "st"
    refine ite_dec (fun h2 => ?_) (fun h2 => ?_)
    · walk_at "st"
      refine wp_ixLI (by walk_at "sq") (Int.emod_nonneg _ (by omega)) (Int.emod_lt_of_pos _ h2) fun x _ => ?_
      walk_at "st"
      refine wp_ixLI (by walk_at "sq") (by omega) h2 fun y _ => ?_
      walk_at "st"
      exact k _ _ (Int.emod_nonneg _ (by omega)) (Int.emod_lt_of_pos _ hm) hs2
    · walk_at "st"
      exact k _ _ (Int.emod_nonneg _ (by omega)) (Int.emod_lt_of_pos _ hm) hs2
theorem len_l_draw (K : PySem.W.Frag) (vs : List V) (H : Hp) (Q : VK) (E : XK) (h : sp_l_draw K vs H Q E) : vs.length = 2 := by
  obtain ⟨P, m, G, rfl, _⟩ := h
  rfl
theorem c_l_draw {K : PySem.W.Frag} {P : Pl} {G H : Hp} {m : Int} {Q : VK} {E : XK} (hs : Sees P G H) (h0 : 0 < m ∧ m < 1073741824) (k : ∀ d H', 0 ≤ d → d < m → Sees P G H' → Q (.int d) H') : sp_l_draw K [.ref P.p, .int m] H Q E :=
  ⟨P, m, G, rfl, h0.1, h0.2, hs, k⟩

def sp_l_pool (K : PySem.W.Frag) : Sp := fun vs H Q _ => ∃ (a : Addr) (ns : List Int), vs = [.ref a] ∧ SqL K H a (ns.map V.int) ∧ ns.length ≤ 63 ∧ ∀ (P : Pl) (G H' : Hp), Same H G → Sees P G H' → Q (.ref P.p) H'
abbrev N_l_pool : List Str := ["_law_script", "_law_cells", "_law_number", "_law_cell"]
theorem st_l_pool {a0 : V} : L2.start N_l_pool [a0] = [some a0, none, none, none] := rfl
def t_l_pool (K : PySem.W.Frag) : TS :=
  (tSeq ((tAsg (tLc ((iList K (tVar 0))) ((gName 3)) (tYes) ((tCB rInt1 ((tCons (tVar 3) (tNil))))) [3]) (gName 1)))
    ((tSeq ((tAsg (tC (.int 0)) (gName 2)))
    ((tSeq ((tIfS ((tAnd ((tTest (tOp (rI0 fun i j => .bl (decide (j < i))) ((tCB (rLenS K) ((tCons (tVar 1) (tNil))))) (tC (.int 0))))) ((tTest (tOp (rI0 fun i j => .bl (decide (j ≤ i))) ((tOp (rIxL K) (tVar 1) (tC (.int 0)))) ((tOp (rI CPow fun i j => .int (i ^ j.toNat)) (tC (.int 10)) (tC (.int 18))))))))) ((tAsg ((tOp (rIxL K) (tVar 1) (tC (.int 0)))) (gName 2))) (tNext)))
    ((tRet ((tLst ((tCons (tVar 2) ((tCons (tC (.int 0)) ((tCons (tVar 1) (tNil))))))))))))))))

theorem pure_l_pool (K : PySem.W.Frag) (vs : List V) (H : Hp) (Q : VK) (E : XK) (h : sp_l_pool K vs H Q E) : t_l_pool K { nx := fun _ H' => Q .non H', rt := Q } (L2.start N_l_pool vs) H := by
  obtain ⟨a, ns, rfl, hx, hn, k⟩ := h
  rw [st_l_pool]
  unfold t_l_pool
  walk_at "st"
  refine lcMapL hx (by rw [List.length_map]; omega) (fun x => [some (.ref a), none, none, some x]) (fun x => ⟨rfl, rfl⟩) id (fun x H2 hxm _ R hR => ?_) (fun D H2 hD s2 hl => ?_)
  · obtain ⟨n, _, rfl⟩ := List.mem_map.mp hxm
    walk_at "st"
    exact hR _ (Same.refl _)
  rw [List.map_id] at hl
  have fin : ∀ n : Int, [V.int n, V.int 0, V.ref D].length ≤ sizeLine ∧ ∀ p, H2 p = none → Q (.ref p) (upd H2 p (.lst [V.int n, V.int 0, V.ref D])) := fun n => ⟨szl (by simp), fun p hp => by
    have e : D ≠ p := ne_of_none hl hp
    exact k ⟨p, D, ns⟩ H2 _ s2 ⟨⟨n, 0, upd_same⟩, hl, hn, hp, Same.new hp⟩⟩
  walk_at "st"
  refine ite_dec (fun h1 => ?_) (fun h1 => ?_)
  · walk_at "st"
    refine wp_ixLI (by walk_at "sq") (by omega) h1 fun x _ => ?_
    walk_at "st"
    refine ite_dec (fun h2 => ?_) (fun h2 => ?_)
    · walk_at "st"
      refine wp_ixLI (by walk_at "sq") (by omega) h1 fun y _ => ?_
      walk_at "st"
      exact fin _
    · walk_at "st"
      exact fin _
  · walk_at "st"
    exact fin _
theorem len_l_pool (K : PySem.W.Frag) (vs : List V) (H : Hp) (Q : VK) (E : XK) (h : sp_l_pool K vs H Q E) : vs.length = 1 := by
  obtain ⟨a, ns, rfl, _⟩ := h
  rfl
theorem c_l_pool {K : PySem.W.Frag} {a : Addr} {ns : List Int} {H : Hp} {Q : VK} {E : XK} (hx : SqL K H a (ns.map V.int)) (hn : ns.length ≤ 63) (k : ∀ (P : Pl) (G H' : Hp), Same H G → Sees P G H' → Q (.ref P.p) H') : sp_l_pool K [.ref a] H Q E :=
  ⟨a, ns, rfl, hx, hn, k⟩

def sp_l_word (K : PySem.W.Frag) : Sp := fun vs H Q _ => ∃ (P : Pl) (n : Int) (G : Hp), vs = [.ref P.p, .int n] ∧ 0 ≤ n ∧ n ≤ 100 ∧ Sees P G H ∧ ∀ (l : List Nat) H', (l.length : Int) = n → (∀ c ∈ l, LD c) → Sees P G H' → Q (.str (S l)) H'
abbrev N_l_word : List Str := ["_law_pool_here", "_law_size", "_law_signs", "_law_word_here", "_law_k"]
theorem st_l_word {a0 a1 : V} : L2.start N_l_word [a0, a1] = [some a0, some a1, none, none, none] := rfl
def t_l_word (K : PySem.W.Frag) : TS :=
  (tSeq ((tAsg (tC (.str (S Z36))) (gName 2)))
    ((tSeq ((tAsg (tC (.str (S []))) (gName 3)))
    ((tSeq ((tFor ((iRng1 ((tCons (tVar 1) (tNil))))) (gName 4) ((tAsg ((tOp rAddStr (tVar 3) ((tOp rIxS (tVar 2) ((tCall (sp_l_draw K) [] E0 ((tCons (tVar 0) ((tCons (tC (.int 36)) (tNil))))))))))) (gName 3)))))
    ((tRet (tVar 3))))))))

theorem pure_l_word (K : PySem.W.Frag) (vs : List V) (H : Hp) (Q : VK) (E : XK) (h : sp_l_word K vs H Q E) : t_l_word K { nx := fun _ H' => Q .non H', rt := Q } (L2.start N_l_word vs) H := by
  obtain ⟨P, n, G, rfl, hn, hn2, hs, k⟩ := h
  rw [st_l_word]
  unfold t_l_word
  walk_at "st"
  refine loop1 (by omega) (fun i σ' H' => ∃ (x : Option V) (l : List Nat), σ' = [some (.ref P.p), some (.int n), some (.str (S Z36)), some (.str (S l)), x] ∧ l.length = i ∧ (∀ c ∈ l, LD c) ∧ Sees P G H') ⟨none, [], rfl, rfl, by simp, hs⟩ ?_ ?_
  · rintro i σ' H' hi ⟨x, l, rfl, hl, hc, hs⟩
    walk_at "st"
    refine c_l_draw hs (by omega) fun d H2 h0 h1 hs2 => ?_
    walk_at "st"
    refine wp_ixSM (by decide) h0 h1 fun c hc2 _ => ?_
    refine wp_addS (by simp; omega) ?_
    walk_at "st"
    refine ⟨_, _, rfl, by simp; omega, fun c' h => ?_, hs2⟩
    rcases List.mem_append.mp h with h | h
    · exact hc _ h
    · rw [List.mem_singleton.mp h]
      exact z36.mp hc2
  · rintro σ' H' ⟨x, l, rfl, hl, hc, hs⟩
    walk_at "st"
    exact k l _ (by omega) hc hs
theorem len_l_word (K : PySem.W.Frag) (vs : List V) (H : Hp) (Q : VK) (E : XK) (h : sp_l_word K vs H Q E) : vs.length = 2 := by
  obtain ⟨P, m, G, rfl, _⟩ := h
  rfl
theorem c_l_word {K : PySem.W.Frag} {P : Pl} {G H : Hp} {n : Int} {Q : VK} {E : XK} (hs : Sees P G H) (h0 : 0 ≤ n ∧ n ≤ 100) (k : ∀ (l : List Nat) H', (l.length : Int) = n → (∀ c ∈ l, LD c) → Sees P G H' → Q (.str (S l)) H') : sp_l_word K [.ref P.p, .int n] H Q E :=
  ⟨P, n, G, rfl, h0.1, h0.2, hs, k⟩

def sp_l_names (K : PySem.W.Frag) : Sp := fun vs H Q _ => ∃ (P : Pl) (n : Int) (G : Hp), vs = [.ref P.p, .int n] ∧ 0 ≤ n ∧ n ≤ 12 ∧ Sees P G H ∧
  ∀ (ns : List (List Nat)) (q : Addr) (G' H' : Hp), (ns.length : Int) = n → (∀ l ∈ ns, Nm l) → ns.Nodup → Same G G' → G' q = some (.lst (ns.map sv)) → Sees P G' H' → Q (.ref q) H'
abbrev N_l_names : List Str := ["_law_pool_here", "_law_many", "_law_letters", "_law_signs", "_law_way", "_law_front", "_law_back", "_law_first", "_law_names_here", "_law_k", "_law_name", "_law_j"]
theorem st_l_names {a0 a1 : V} : L2.start N_l_names [a0, a1] = [some a0, some a1, none, none, none, none, none, none, none, none, none, none] := rfl
def t_l_names (K : PySem.W.Frag) : TS :=
  (tSeq ((tAsg (tC (.str (S Z26))) (gName 2)))
    ((tSeq ((tAsg (tC (.str (S Z36))) (gName 3)))
    ((tSeq ((tAsg ((tCall (sp_l_draw K) [] E0 ((tCons (tVar 0) ((tCons (tC (.int 3)) (tNil))))))) (gName 4)))
    ((tSeq ((tAsg ((tOp rAddStr ((tOp rIxS (tVar 2) ((tCall (sp_l_draw K) [] E0 ((tCons (tVar 0) ((tCons (tC (.int 26)) (tNil))))))))) ((tCall (sp_l_word K) [] E0 ((tCons (tVar 0) ((tCons ((tCall (sp_l_draw K) [] E0 ((tCons (tVar 0) ((tCons (tC (.int 4)) (tNil))))))) (tNil))))))))) (gName 5)))
    ((tSeq ((tAsg ((tCall (sp_l_word K) [] E0 ((tCons (tVar 0) ((tCons ((tCall (sp_l_draw K) [] E0 ((tCons (tVar 0) ((tCons (tC (.int 4)) (tNil))))))) (tNil))))))) (gName 6)))
    ((tSeq ((tAsg ((tCall (sp_l_draw K) [] E0 ((tCons (tVar 0) ((tCons (tC (.int 36)) (tNil))))))) (gName 7)))
    ((tSeq ((tAsg ((tLst (tNil))) (gName 8)))
    ((tSeq ((tFor ((iRng1 ((tCons (tVar 1) (tNil))))) (gName 9) ((tSeq ((tAsg ((tOp rAddStr ((tOp rAddStr (tVar 5) ((tOp rIxS (tVar 3) ((tOp (rI (fun _ j => 0 < j) fun i j => .int (i % j)) ((tCB rInt1 ((tCons ((tOp (rI0 fun i j => .int (i + j)) (tVar 7) ((tOp (rI CMul fun i j => .int (i * j)) (tC (.int 5)) (tVar 9))))) (tNil))))) (tC (.int 36)))))))) (tVar 6))) (gName 10)))
    ((C8.tCut ((tIfS ((tTest (tOp rEq (tVar 4) (tC (.int 1))))) ((tAsg ((tOp rAddStr ((tOp rIxS (tVar 2) ((tOp (rI (fun _ j => 0 < j) fun i j => .int (i % j)) ((tCB rInt1 ((tCons ((tOp (rI0 fun i j => .int (i + j)) (tVar 7) ((tOp (rI CMul fun i j => .int (i * j)) (tC (.int 5)) (tVar 9))))) (tNil))))) (tC (.int 26)))))) ((tCall (sp_l_word K) [] E0 ((tCons (tVar 0) ((tCons ((tCall (sp_l_draw K) [] E0 ((tCons (tVar 0) ((tCons (tC (.int 8)) (tNil))))))) (tNil))))))))) (gName 10))) (tNext)))
    ((C8.tCut ((tIfS ((tTest (tOp rEq (tVar 4) (tC (.int 2))))) ((tAsg ((tOp rAddStr ((tOp rIxS (tVar 2) ((tCall (sp_l_draw K) [] E0 ((tCons (tVar 0) ((tCons (tC (.int 26)) (tNil))))))))) ((tCall (sp_l_word K) [] E0 ((tCons (tVar 0) ((tCons ((tCall (sp_l_draw K) [] E0 ((tCons (tVar 0) ((tCons (tC (.int 8)) (tNil))))))) (tNil))))))))) (gName 10))) (tNext)))
    ((tSeq ((tFor ((iRng1 ((tCons (tC (.int 13)) (tNil))))) (gName 11) ((tIfS ((tAnd ((tTest (tOp (rIn K false) (tVar 10) (tVar 8)))) ((tTest (tOp (rIn K true) ((tOp rAddStr (tC (.str (S [122]))) ((tCB rStrInt ((tCons (tVar 11) (tNil))))))) (tVar 8)))))) ((tAsg ((tOp rAddStr (tC (.str (S [122]))) ((tCB rStrInt ((tCons (tVar 11) (tNil))))))) (gName 10))) (tNext)))))
    ((tDrop ((tBM K "list" rAppend (tVar 8) ((tCons (tVar 10) (tNil)))))))))))))))))
    ((tRet (tVar 8))))))))))))))))))

theorem pure_l_names (K : PySem.W.Frag) (vs : List V) (H : Hp) (Q : VK) (E : XK) (h : sp_l_names K vs H Q E) : t_l_names K { nx := fun _ H' => Q .non H', rt := Q } (L2.start N_l_names vs) H := by
  obtain ⟨P, n, G, rfl, hn, hn2, hs, k⟩ := h
  rw [st_l_names]
  unfold t_l_names
  walk_at "st"
  refine c_l_draw hs (by omega) fun way H1 w0 w1 hs1 => ?_
  walk_at "st"
  refine c_l_draw hs1 (by omega) fun d1 H2 a0 a1 hs2 => ?_
  walk_at "st"
  refine wp_ixSM (by decide) a0 a1 fun c1 hc1 _ => ?_
  walk_at "st"
  refine c_l_draw hs2 (by omega) fun d2 H3 b0 b1 hs3 => ?_
  walk_at "st"
  refine c_l_word hs3 (by omega) fun fr H4 f0 f1 hs4 => ?_
  refine wp_addS (by simp; omega) ?_
  walk_at "st"
  refine c_l_draw hs4 (by omega) fun d3 H5 e0 e1 hs5 => ?_
  walk_at "st"
  refine c_l_word hs5 (by omega) fun bk H6 g0 g1 hs6 => ?_
  walk_at "st"
  refine c_l_draw hs6 (by omega) fun fi H7 i0 i1 hs7 => ?_
  walk_at "st"
  refine ⟨Nat.zero_le _, fun q hq => ?_⟩
  obtain ⟨hG, hqp⟩ := hs7.fresh hq
  walk_at "st"
  refine loop1 (by omega) (fun i σ' H' => ∃ (x9 x10 x11 : Option V) (ns : List (List Nat)), σ' = [some (.ref P.p), some (.int n), some (.str (S Z26)), some (.str (S Z36)), some (.int way), some (.str (S ([c1] ++ fr))), some (.str (S bk)), some (.int fi), some (.ref q), x9, x10, x11] ∧
    ns.length = i ∧ (∀ l ∈ ns, Nm l) ∧ ns.Nodup ∧ H' q = some (.lst (ns.map sv)) ∧ Sees P G H') ⟨none, none, none, [], rfl, rfl, by simp, List.nodup_nil, upd_same, hs7.set hG hqp⟩ ?_ ?_
  · rintro i σ' H' hi ⟨x9, x10, x11, ns, rfl, hl, hnm, hnd, hqq, hs⟩
    walk_at "st"
    refine wp_ixSM (by decide) (Int.emod_nonneg _ (by omega)) (show _ < 36 from Int.emod_lt_of_pos _ (by omega)) fun c2 hc2 _ => ?_
    walk_at "st"
    have hc1' : LT c1 := z26.mp hc1
    have hc2' : LD c2 := z36.mp hc2
    have lt_ld : ∀ {c}, LT c → LD c := fun h => .inl h
    have mk1 : ∀ {a : Nat} {l : List Nat}, LT a → (∀ c ∈ l, LD c) → l.length ≤ 7 → Nm ([a] ++ l) := fun {a l} h1 h2 h3 => ⟨by simp; omega, ⟨a, l, rfl, h1⟩, fun c hc => by
      rcases List.mem_append.mp hc with h | h
      · rw [List.mem_singleton.mp h]; exact .inl h1
      · exact h2 c h⟩
    refine wp_cut (fun σ' H' => ∃ (nm : List Nat), σ' = [some (.ref P.p), some (.int n), some (.str (S Z26)), some (.str (S Z36)), some (.int way), some (.str (S ([c1] ++ fr))), some (.str (S bk)), some (.int fi), some (.ref q), some (.int i), some (.str (S nm)), x11] ∧ Nm nm ∧ H' q = some (.lst (ns.map sv)) ∧ Sees P G H') ?_ ?_
    · walk_at "st"
      refine ite_dec (fun h => ?_) (fun h => ?_)
      · walk_at "st"
        refine wp_ixSM (by decide) (Int.emod_nonneg _ (by omega)) (show _ < 26 from Int.emod_lt_of_pos _ (by omega)) fun c3 hc3 _ => ?_
        walk_at "st"
        refine c_l_draw (hs.with hG hqq hqp) (by omega) fun d4 H8 j0 j1 hs8 => ?_
        walk_at "st"
        refine c_l_word hs8 (by omega) fun w4 H9 k0 k1 hs9 => ?_
        walk_at "st"
        obtain ⟨hs10, hq10⟩ := hs9.back hs hG
        exact ⟨_, rfl, mk1 (z26.mp hc3) k1 (by omega), hq10, hs10⟩
      · walk_at "st"
        refine ⟨_, rfl, ?_, hqq, hs⟩
        have e : [c1] ++ fr ++ [c2] ++ bk = [c1] ++ (fr ++ [c2] ++ bk) := by simp
        rw [e]
        refine mk1 hc1' (fun c hc => ?_) (by simp; omega)
        rcases List.mem_append.mp hc with h | h
        · rcases List.mem_append.mp h with h | h
          · exact f1 c h
          · rw [List.mem_singleton.mp h]; exact hc2'
        · exact g1 c h
    · rintro σ' H8 ⟨nm, rfl, hnm1, hq8, hs8⟩
      refine wp_cut (fun σ' H' => ∃ (nm : List Nat), σ' = [some (.ref P.p), some (.int n), some (.str (S Z26)), some (.str (S Z36)), some (.int way), some (.str (S ([c1] ++ fr))), some (.str (S bk)), some (.int fi), some (.ref q), some (.int i), some (.str (S nm)), x11] ∧ Nm nm ∧ H' q = some (.lst (ns.map sv)) ∧ Sees P G H') ?_ ?_
      · walk_at "st"
        refine ite_dec (fun h => ?_) (fun h => ?_)
        · walk_at "st"
          refine c_l_draw (hs8.with hG hq8 hqp) (by omega) fun d4 H9 j0 j1 hs9 => ?_
          walk_at "st"
          refine wp_ixSM (by decide) j0 j1 fun c3 hc3 _ => ?_
          walk_at "st"
          refine c_l_draw hs9 (by omega) fun d5 H10 k0 k1 hs10 => ?_
          walk_at "st"
          refine c_l_word hs10 (by omega) fun w4 H11 l0 l1 hs11 => ?_
          walk_at "st"
          obtain ⟨hs12, hq12⟩ := hs11.back hs8 hG
          exact ⟨_, rfl, mk1 (z26.mp hc3) l1 (by omega), hq12, hs12⟩
        · walk_at "st"
          exact ⟨_, rfl, hnm1, hq8, hs8⟩
      · rintro σ' H9 ⟨nm, rfl, hnm1, hq9, hs9⟩
        walk_at "st"
        refine loop1 (by omega) (fun j σ' H' => ∃ (x11 : Option V) (nm : List Nat), σ' = [some (.ref P.p), some (.int n), some (.str (S Z26)), some (.str (S Z36)), some (.int way), some (.str (S ([c1] ++ fr))), some (.str (S bk)), some (.int fi), some (.ref q), some (.int i), some (.str (S nm)), x11] ∧
          Nm nm ∧ (nm ∉ ns ∨ ∀ a, a < j → zn a ∈ ns) ∧ H' = H9) ⟨x11, nm, rfl, hnm1, .inr (fun a h => absurd h (by omega)), rfl⟩ ?_ ?_
        · rintro j σ' H10 hj ⟨x, nm, rfl, hnm2, hout, rfl⟩
          walk_at "st"
          refine wp_inSv (sq_of hq9) ?_
          walk_at "st"
          refine ite_dec (fun h1 => ?_) (fun h1 => ?_)
          · walk_at "st"
            refine wp_strIntS (by omega) ?_
            refine wp_addS (by have := (zn_nm (j := j) (by omega)).len; unfold zn at this; simp at this ⊢; omega) ?_
            walk_at "st"
            refine wp_notInSv (sq_of hq9) ?_
            walk_at "st"
            refine ite_ndec (fun h2 => ?_) (fun h2 => ?_)
            · walk_at "st"
              refine wp_strIntS (by omega) ?_
              refine wp_addS (by have := (zn_nm (j := j) (by omega)).len; unfold zn at this; simp at this ⊢; omega) ?_
              walk_at "st"
              exact ⟨_, zn j, rfl, zn_nm (by omega), .inl h2, rfl⟩
            · walk_at "st"
              refine ⟨_, nm, rfl, hnm2, .inr fun a ha => ?_, rfl⟩
              rcases hout with h | h
              · exact absurd h1 h
              · by_cases e : a = j
                · rw [e]; exact h2
                · exact h a (by omega)
          · walk_at "st"
            exact ⟨_, nm, rfl, hnm2, .inl h1, rfl⟩
        · rintro σ' H10 ⟨x, nm, rfl, hnm2, hout, rfl⟩
          have hnot : nm ∉ ns := by
            rcases hout with h | h
            · exact h
            · exact absurd (zn_out (ns := ns) fun a ha => h a ha) (by omega)
          walk_at "st"
          refine wp_append hq9 (by rw [List.length_map]; omega) ?_
          walk_at "st"
          refine ⟨_, _, _, ns ++ [nm], rfl, by simp; omega, fun l h => ?_, ?_, ?_, hs9.set hG hqp⟩
          · rcases List.mem_append.mp h with h | h
            · exact hnm l h
            · rw [List.mem_singleton.mp h]; exact hnm2
          · refine List.nodup_append.mpr ⟨hnd, by simp, fun a ha b hb e => ?_⟩
            rw [List.mem_singleton] at hb
            rw [hb] at e
            exact hnot (e ▸ ha)
          · rw [List.map_append]; exact upd_same
  · rintro σ' H' ⟨x9, x10, x11, ns, rfl, hl, hnm, hnd, hqq, hs⟩
    walk_at "st"
    exact k ns q (upd G q (.lst (ns.map sv))) H' (by omega) hnm hnd (Same.new hG) upd_same (hs.with hG hqq hqp)
theorem len_l_names (K : PySem.W.Frag) (vs : List V) (H : Hp) (Q : VK) (E : XK) (h : sp_l_names K vs H Q E) : vs.length = 2 := by
  obtain ⟨P, m, G, rfl, _⟩ := h
  rfl
theorem c_l_names {K : PySem.W.Frag} {P : Pl} {G H : Hp} {n : Int} {Q : VK} {E : XK} (hs : Sees P G H) (h0 : 0 ≤ n ∧ n ≤ 12)
    (k : ∀ (ns : List (List Nat)) (q : Addr) (G' H' : Hp), (ns.length : Int) = n → (∀ l ∈ ns, Nm l) → ns.Nodup → Same G G' → G' q = some (.lst (ns.map sv)) → Sees P G' H' → Q (.ref q) H') : sp_l_names K [.ref P.p, .int n] H Q E :=
  ⟨P, n, G, rfl, h0.1, h0.2, hs, k⟩

def sp_l_sign (K : PySem.W.Frag) : Sp := fun vs H Q _ => ∃ (P : Pl) (G : Hp), vs = [.ref P.p] ∧ Sees P G H ∧ ∀ (c : Nat) H', 32 ≤ c → c < 127 → c ≠ 37 → Sees P G H' → Q (.str (S [c])) H'
abbrev N_l_sign : List Str := ["_law_pool_here", "_law_signs"]
theorem st_l_sign {a0 : V} : L2.start N_l_sign [a0] = [some a0, none] := rfl
def t_l_sign (K : PySem.W.Frag) : TS :=
  (tSeq ((tAsg (tC (.str (S Z64))) (gName 1)))
    ((tSeq ((tAsg ((tOp rAddStr (tVar 1) (tC (.str (S Z30))))) (gName 1)))
    ((tRet ((tOp rIxS (tVar 1) ((tCall (sp_l_draw K) [] E0 ((tCons (tVar 0) ((tCons (tC (.int 94)) (tNil))))))))))))))

theorem pure_l_sign (K : PySem.W.Frag) (vs : List V) (H : Hp) (Q : VK) (E : XK) (h : sp_l_sign K vs H Q E) : t_l_sign K { nx := fun _ H' => Q .non H', rt := Q } (L2.start N_l_sign vs) H := by
  obtain ⟨P, G, rfl, hs, k⟩ := h
  rw [st_l_sign]
  unfold t_l_sign
  walk_at "st"
  refine c_l_draw hs (by omega) fun d H2 h0 h1 hs2 => ?_
  walk_at "st"
  refine wp_ixSM (by decide) h0 h1 fun c hc _ => ?_
  have z := (by decide : ∀ c ∈ Z64 ++ Z30, 32 ≤ c ∧ c < 127 ∧ c ≠ 37) c hc
  exact k c H2 z.1 z.2.1 z.2.2 hs2
theorem len_l_sign (K : PySem.W.Frag) (vs : List V) (H : Hp) (Q : VK) (E : XK) (h : sp_l_sign K vs H Q E) : vs.length = 1 := by
  obtain ⟨P, G, rfl, _⟩ := h
  rfl
theorem c_l_sign {K : PySem.W.Frag} {P : Pl} {G H : Hp} {Q : VK} {E : XK} (hs : Sees P G H) (k : ∀ (c : Nat) H', 32 ≤ c → c < 127 → c ≠ 37 → Sees P G H' → Q (.str (S [c])) H') : sp_l_sign K [.ref P.p] H Q E := ⟨P, G, rfl, hs, k⟩

def sp_l_text (K : PySem.W.Frag) : Sp := fun vs H Q _ => ∃ (P : Pl) (w : Int) (G : Hp), vs = [.ref P.p, .int w] ∧ Sees P G H ∧ ∀ (l : List Nat) H', l.length ≤ 40 → (∀ c ∈ l, c < 127) → Sees P G H' → Q (.str (S l)) H'
abbrev N_l_text : List Str := ["_law_pool_here", "_law_way", "_law_size", "_law_text_here", "_law_k"]
theorem st_l_text {a0 a1 : V} : L2.start N_l_text [a0, a1] = [some a0, some a1, none, none, none] := rfl
def t_l_text (K : PySem.W.Frag) : TS :=
  (tSeq ((tAsg ((tCall (sp_l_draw K) [] E0 ((tCons (tVar 0) ((tCons (tC (.int 11)) (tNil))))))) (gName 2)))
    ((C8.tCut ((tIfS ((tTest (tOp rEq ((tCall (sp_l_draw K) [] E0 ((tCons (tVar 0) ((tCons (tC (.int 8)) (tNil))))))) (tC (.int 1))))) ((tAsg ((tCall (sp_l_draw K) [] E0 ((tCons (tVar 0) ((tCons (tC (.int 41)) (tNil))))))) (gName 2))) (tNext)))
    ((tSeq ((tIfS ((tTest (tOp rEq (tVar 1) (tC (.int 1))))) ((tRet ((tCall (sp_l_word K) [] E0 ((tCons (tVar 0) ((tCons (tVar 2) (tNil))))))))) (tNext)))
    ((tSeq ((tAsg (tC (.str (S []))) (gName 3)))
    ((tSeq ((tFor ((iRng1 ((tCons (tVar 2) (tNil))))) (gName 4) ((tAsg ((tOp rAddStr (tVar 3) ((tCall (sp_l_sign K) [] E0 ((tCons (tVar 0) (tNil))))))) (gName 3)))))
    ((tRet (tVar 3))))))))))))

theorem pure_l_text (K : PySem.W.Frag) (vs : List V) (H : Hp) (Q : VK) (E : XK) (h : sp_l_text K vs H Q E) : t_l_text K { nx := fun _ H' => Q .non H', rt := Q } (L2.start N_l_text vs) H := by
  obtain ⟨P, w, G, rfl, hs, k⟩ := h
  rw [st_l_text]
  unfold t_l_text
  walk_at "st"
  refine c_l_draw hs (by omega) fun d H2 h0 h1 hs2 => ?_
  walk_at "st"
  refine wp_cut (fun σ' H' => ∃ n : Int, σ' = [some (.ref P.p), some (.int w), some (.int n), none, none] ∧ 0 ≤ n ∧ n ≤ 40 ∧ Sees P G H') ?_ ?_
  · walk_at "st"
    refine c_l_draw hs2 (by omega) fun d2 H3 a0 a1 hs3 => ?_
    walk_at "st"
    refine ite_dec (fun h => ?_) (fun h => ?_)
    · walk_at "st"
      refine c_l_draw hs3 (by omega) fun d3 H4 b0 b1 hs4 => ?_
      walk_at "st"
      exact ⟨d3, rfl, b0, by omega, hs4⟩
    · walk_at "st"
      exact ⟨d, rfl, h0, by omega, hs3⟩
  · rintro σ' H3 ⟨n, rfl, n0, n1, hs3⟩
    walk_at "st"
    refine ite_dec (fun h => ?_) (fun h => ?_)
    · walk_at "st"
      refine c_l_word hs3 (by omega) fun l H4 l0 l1 hs4 => ?_
      exact k l H4 (by omega) (fun c hc => by rcases l1 c hc with h | h <;> omega) hs4
    · walk_at "st"
      refine loop1 (by omega) (fun i σ' H' => ∃ (x : Option V) (l : List Nat), σ' = [some (.ref P.p), some (.int w), some (.int n), some (.str (S l)), x] ∧ l.length = i ∧ (∀ c ∈ l, c < 127) ∧ Sees P G H') ⟨none, [], rfl, rfl, by simp, hs3⟩ ?_ ?_
      · rintro i σ' H' hi ⟨x, l, rfl, hl, hc, hs⟩
        walk_at "st"
        refine c_l_sign hs fun c H2 c0 c1 _ hs2 => ?_
        walk_at "st"
        refine ⟨_, _, rfl, by simp; omega, fun c' h => ?_, hs2⟩
        rcases List.mem_append.mp h with h | h
        · exact hc _ h
        · rw [List.mem_singleton.mp h]; exact c1
      · rintro σ' H' ⟨x, l, rfl, hl, hc, hs⟩
        walk_at "st"
        exact k l _ (by omega) hc hs
theorem len_l_text (K : PySem.W.Frag) (vs : List V) (H : Hp) (Q : VK) (E : XK) (h : sp_l_text K vs H Q E) : vs.length = 2 := by
  obtain ⟨P, w, G, rfl, _⟩ := h
  rfl
theorem c_l_text {K : PySem.W.Frag} {P : Pl} {G H : Hp} {w : Int} {Q : VK} {E : XK} (hs : Sees P G H) (k : ∀ (l : List Nat) H', l.length ≤ 40 → (∀ c ∈ l, c < 127) → Sees P G H' → Q (.str (S l)) H') : sp_l_text K [.ref P.p, .int w] H Q E := ⟨P, w, G, rfl, hs, k⟩

def fnd (c : Nat) : Int := Txt.find (S Z36) (S [c])
theorem fnd_ld {c : Nat} (h : c < 127) : 0 ≤ fnd c ↔ LD c := (by decide +kernel : ∀ c, c < 127 → (0 ≤ fnd c ↔ LD c)) c h
theorem fnd_lt {c : Nat} (h : c < 127) : (0 ≤ fnd c ∧ fnd c < 26) ↔ LT c := (by decide +kernel : ∀ c, c < 127 → ((0 ≤ fnd c ∧ fnd c < 26) ↔ LT c)) c h
def sp_l_valid (K : PySem.W.Frag) : Sp := fun vs H Q _ => ∃ (l : List Nat), vs = [.str (S l)] ∧ l.length ≤ 100 ∧ (∀ c ∈ l, c < 127) ∧ ∀ H', Same H H' → Q (.bl (isNm l)) H'
abbrev N_l_valid : List Str := ["_law_text_here", "_law_order", "_law_places", "_law_sign_here"]
theorem st_l_valid {a0 : V} : L2.start N_l_valid [a0] = [some a0, none, none, none] := rfl
def t_l_valid (K : PySem.W.Frag) : TS :=
  (tSeq ((tAsg (tC (.str (S Z36))) (gName 1)))
    ((tSeq ((tAsg (tLc ((iStr (tVar 0))) ((gName 3)) (tYes) ((tBM K "str" rFind (tVar 1) ((tCons (tVar 3) (tNil))))) [3]) (gName 2)))
    ((tSeq ((tIfS ((tOr ((tTest (tOp (rI0 fun i j => .bl (decide (i < j))) ((tCB (rLenS K) ((tCons (tVar 2) (tNil))))) (tC (.int 1))))) ((tTest (tOp (rI0 fun i j => .bl (decide (j < i))) ((tCB (rLenS K) ((tCons (tVar 2) (tNil))))) (tC (.int 8))))))) ((tRet (tC (.bl false)))) (tNext)))
    ((tRet ((tAndV ((tOp (rI0 fun i j => .bl (decide (j ≤ i))) ((tCB (rMin K) ((tCons (tVar 2) (tNil))))) (tC (.int 0)))) ((tOp (rI0 fun i j => .bl (decide (i < j))) ((tOp (rIxL K) (tVar 2) (tC (.int 0)))) (tC (.int 26)))))))))))))

theorem pure_l_valid (K : PySem.W.Frag) (vs : List V) (H : Hp) (Q : VK) (E : XK) (h : sp_l_valid K vs H Q E) : t_l_valid K { nx := fun _ H' => Q .non H', rt := Q } (L2.start N_l_valid vs) H := by
  obtain ⟨l, rfl, hl, hc, k⟩ := h
  rw [st_l_valid]
  unfold t_l_valid
  walk_at "st"
  refine lcMapS (by omega) (fun x => [some (.str (S l)), some (.str (S Z36)), none, some x]) (fun x => ⟨rfl, rfl⟩) (fun c => .int (fnd c)) (fun c H2 hxm _ R hR => ?_) (fun D H2 hD s2 hD2 => ?_)
  · walk_at "st"
    exact hR _ (Same.refl _)
  have hD3 : H2 D = some (.lst ((l.map fnd).map V.int)) := by rw [List.map_map]; exact hD2
  have e1 : ((l.map fun c => V.int (fnd c)).length : Int) = l.length := by rw [List.length_map]
  have e2 : (((l.map fnd).map V.int).length : Int) = l.length := by rw [List.length_map, List.length_map]
  walk_at "st"
  refine ite_dec (fun h => ?_) (fun h => ?_)
  · walk_at "st"
    have e : isNm l = false := by
      unfold isNm
      rw [decide_eq_false (by omega : ¬ 1 ≤ l.length)]
      rfl
    have z := k H2 s2
    rw [e] at z
    exact z
  · walk_at "st"
    refine ite_dec (fun h2 => ?_) (fun h2 => ?_)
    · walk_at "st"
      have e : isNm l = false := by
        unfold isNm
        rw [decide_eq_false (by omega : ¬ l.length ≤ 8), Bool.false_and, Bool.and_false]
      have z := k H2 s2
      rw [e] at z
      exact z
    · walk_at "st"
      refine wp_minL (sq_of hD3) (by rw [List.length_map]; omega) fun m hm hmin => ?_
      walk_at "st"
      cases l with
      | nil => exact absurd h (by simp)
      | cons c r =>
        have hlen : decide (1 ≤ (c :: r).length) = true := by simp
        have hlen2 : decide ((c :: r).length ≤ 8) = true := by rw [decide_eq_true_eq]; omega
        refine ite_dec (fun h3 => ?_) (fun h3 => ?_)
        · walk_at "st"
          have e : decide (fnd c < 26) = isNm (c :: r) := by
            have ha : ((c :: r).all fun c => decide (LD c)) = true := List.all_eq_true.mpr fun x hx => decide_eq_true ((fnd_ld (hc x hx)).mp (Int.le_trans h3 (hmin _ (List.mem_map.mpr ⟨x, hx, rfl⟩))))
            unfold isNm
            rw [hlen, hlen2, ha, Bool.true_and, Bool.true_and, Bool.and_true]
            have hz : 0 ≤ fnd c := Int.le_trans h3 (hmin _ (by simp))
            rw [decide_eq_decide, ← fnd_lt (hc c (by simp))]
            exact ⟨fun q => ⟨hz, q⟩, fun q => q.2⟩
          rw [e]
          exact k H2 s2
        · walk_at "st"
          have e : isNm (c :: r) = false := by
            rw [Bool.eq_false_iff]
            intro q
            have w := nm_iff.mp q
            obtain ⟨x, hx, rfl⟩ := List.mem_map.mp hm
            exact h3 ((fnd_ld (hc x hx)).mpr (w.all x hx))
          have z := k H2 s2
          rw [e] at z
          exact z
theorem len_l_valid (K : PySem.W.Frag) (vs : List V) (H : Hp) (Q : VK) (E : XK) (h : sp_l_valid K vs H Q E) : vs.length = 1 := by
  obtain ⟨l, rfl, _⟩ := h
  rfl
theorem c_l_valid {K : PySem.W.Frag} {l : List Nat} {H : Hp} {Q : VK} {E : XK} (hl : l.length ≤ 100) (hc : ∀ c ∈ l, c < 127) (k : ∀ H', Same H H' → Q (.bl (isNm l)) H') : sp_l_valid K [.str (S l)] H Q E := ⟨l, rfl, hl, hc, k⟩

def sp_l_same_truth (K : PySem.W.Frag) : Sp := fun vs H Q _ => ∃ (a b : Bool), vs = [.bl a, .bl b] ∧ Q (.bl (decide (a = b))) H
abbrev N_l_same_truth : List Str := ["_law_actual", "_law_due"]
theorem st_l_same_truth {a0 a1 : V} : L2.start N_l_same_truth [a0, a1] = [some a0, some a1] := rfl
def t_l_same_truth (K : PySem.W.Frag) : TS :=
  (tRet ((tAndV ((tCB (rIsi K) ((tCons (tVar 0) ((tCons (tC (.ty "bool")) (tNil))))))) ((tOp rEq (tVar 0) (tVar 1))))))

theorem pure_l_same_truth (K : PySem.W.Frag) (vs : List V) (H : Hp) (Q : VK) (E : XK) (h : sp_l_same_truth K vs H Q E) : t_l_same_truth K { nx := fun _ H' => Q .non H', rt := Q } (L2.start N_l_same_truth vs) H := by
  obtain ⟨a, b, rfl, k⟩ := h
  rw [st_l_same_truth]
  unfold t_l_same_truth
  walk_at "st"
  exact k
theorem len_l_same_truth (K : PySem.W.Frag) (vs : List V) (H : Hp) (Q : VK) (E : XK) (h : sp_l_same_truth K vs H Q E) : vs.length = 2 := by
  obtain ⟨a, b, rfl, _⟩ := h
  rfl

def sp_is_name (K : PySem.W.Frag) : Sp := fun vs H Q _ => ∃ (l : List Nat), vs = [.str (S l)] ∧ l.length ≤ 1000 ∧ ∀ H', Same H H' → Q (.bl (isNm l)) H'
abbrev N_is_name : List Str := ["text", "sign"]
theorem st_is_name {a0 : V} : L2.start N_is_name [a0] = [some a0, none] := rfl
def t_is_name (K : PySem.W.Frag) : TS :=
  (tSeq ((tIfS ((tNot ((tTest (tChain (rI0 fun i j => .bl (decide (i ≤ j))) (rI0 fun i j => .bl (decide (i ≤ j))) (tC (.int 1)) ((tCB rLenStr ((tCons (tVar 0) (tNil))))) (tC (.int 8))))))) ((tRet (tC (.bl false)))) (tNext)))
    ((tRet ((tAndV ((tOp rInS ((tOp rIxS (tVar 0) (tC (.int 0)))) (tC (.str (S Z26))))) ((tCB (rAll K) ((tCons ((tLc ((iStr (tVar 0))) ((gName 1)) (tYes) ((tOrV ((tOp rInS (tVar 1) (tC (.str (S Z26))))) ((tOp rInS (tVar 1) (tC (.str (S Z10))))))) [1])) (tNil))))))))))

theorem pure_is_name (K : PySem.W.Frag) (vs : List V) (H : Hp) (Q : VK) (E : XK) (h : sp_is_name K vs H Q E) : t_is_name K { nx := fun _ H' => Q .non H', rt := Q } (L2.start N_is_name vs) H := by
  obtain ⟨l, rfl, hl, k⟩ := h
  rw [st_is_name]
  unfold t_is_name
  walk_at "st"
  have no : isNm l = false → Q (.bl false) H := fun e => by
    have z := k H (Same.refl H)
    rw [e] at z
    exact z
  refine ite_dec (fun h => ?_) (fun h => ?_)
  · walk_at "st"
    refine ite_ndec (fun h2 => ?_) (fun h2 => ?_)
    · walk_at "st"
      refine no ?_
      unfold isNm
      rw [decide_eq_false (by omega : ¬ l.length ≤ 8), Bool.false_and, Bool.and_false]
    · walk_at "st"
      cases l with
      | nil => exact absurd h (by simp)
      | cons c r =>
        refine wp_ixS (by rw [S_len]; omega) (c := c) at0 ?_
        walk_at "st"
        have hlen : decide (1 ≤ (c :: r).length) = true := by simp
        have hlen2 : decide ((c :: r).length ≤ 8) = true := by rw [decide_eq_true_eq]; omega
        refine ite_dec (fun h3 => ?_) (fun h3 => ?_)
        · walk_at "st"
          refine lcMapS (by omega) (fun x => [some (.str (S (c :: r))), some x]) (fun x => ⟨rfl, rfl⟩) (fun c => .bl (decide (LD c))) (fun c H2 hxm _ R hR => ?_) (fun D H2 hD s2 hD2 => ?_)
          · walk_at "st"
            have e : decide (LD c) = (decide (c ∈ Z26) || decide (c ∈ Z10)) := by
              rw [← Bool.decide_or, decide_eq_decide, z26, z10]
              rfl
            have z := hR H2 (Same.refl _)
            rw [e] at z
            refine ite_b (fun q => ?_) (fun q => ?_)
            · have q2 : decide (c ∈ Z26) = true := q
              rw [q2] at z
              exact z
            · have q2 : decide (c ∈ Z26) = false := q
              rw [q2] at z
              walk_at "st"
              exact z
          walk_at "st"
          refine wp_allL (bs := (c :: r).map fun c => decide (LD c)) (sq_of (by rw [List.map_map]; exact hD2)) ?_
          have e : ((c :: r).map fun c => decide (LD c)).all id = isNm (c :: r) := by
            unfold isNm
            have hc : decide (LT c) = true := decide_eq_true (z26.mp h3)
            rw [hlen, hlen2]
            show _ = (true && (true && (decide (LT c) && _)))
            rw [hc, List.all_map]
            rfl
          rw [e]
          exact k H2 s2
        · walk_at "st"
          refine no ?_
          rw [Bool.eq_false_iff]
          intro q
          obtain ⟨x, y, e, hx⟩ := (nm_iff.mp q).first
          cases e
          exact h3 (z26.mpr hx)
  · walk_at "st"
    refine no ?_
    unfold isNm
    rw [decide_eq_false (by omega : ¬ 1 ≤ l.length)]
    rfl
theorem len_is_name (K : PySem.W.Frag) (vs : List V) (H : Hp) (Q : VK) (E : XK) (h : sp_is_name K vs H Q E) : vs.length = 1 := by
  obtain ⟨l, rfl, _⟩ := h
  rfl
theorem c_is_name {K : PySem.W.Frag} {l : List Nat} {H : Hp} {Q : VK} {E : XK} (hl : l.length ≤ 1000) (k : ∀ H', Same H H' → Q (.bl (isNm l)) H') : sp_is_name K [.str (S l)] H Q E := ⟨l, rfl, hl, k⟩

def sp_law (K : PySem.W.Frag) : Sp := fun vs H Q _ => ∃ (a : Addr) (ns : List Int), vs = [.ref a] ∧ SqL K H a (ns.map V.int) ∧ ns.length ≤ 63 ∧ ∀ H', Q (.bl true) H'
abbrev N_law : List Str := ["_law_script", "_law_pool_here", "_law_way", "_law_name", "_law_text_here", "_law_at", "_law_due"]
theorem st_law {a0 : V} : L2.start N_law [a0] = [some a0, none, none, none, none, none, none] := rfl
def t_law (K : PySem.W.Frag) : TS :=
  (tSeq ((tAsg ((tCall (sp_l_pool K) [] E0 ((tCons (tVar 0) (tNil))))) (gName 1)))
    ((tSeq ((tAsg ((tCall (sp_l_draw K) [] E0 ((tCons (tVar 1) ((tCons (tC (.int 4)) (tNil))))))) (gName 2)))
    ((tSeq ((tAsg ((tOp (rIxL K) ((tCall (sp_l_names K) [] E0 ((tCons (tVar 1) ((tCons (tC (.int 1)) (tNil))))))) (tC (.int 0)))) (gName 3)))
    ((tSeq ((tAsg (tC (.str (S []))) (gName 4)))
    ((C8.tCut ((tIfS ((tTest (tOp (rI0 fun i j => .bl (decide (i < j))) (tVar 2) (tC (.int 2))))) ((tAsg ((tCall (sp_l_text K) [] E0 ((tCons (tVar 1) ((tCons (tVar 2) (tNil))))))) (gName 4))) ((tIfS ((tTest (tOp rEq (tVar 2) (tC (.int 2))))) ((tSeq ((tAsg ((tCall (sp_l_draw K) [] E0 ((tCons (tVar 1) ((tCons ((tCB rLenStr ((tCons (tVar 3) (tNil))))) (tNil))))))) (gName 5)))
    ((tAsg ((tOp rAddStr ((tOp rAddStr ((tSl rSlS (tVar 3) tNoPart (tPart (tVar 5)))) ((tCall (sp_l_sign K) [] E0 ((tCons (tVar 1) (tNil))))))) ((tSl rSlS (tVar 3) (tPart ((tOp (rI0 fun i j => .int (i + j)) (tVar 5) (tC (.int 1))))) tNoPart)))) (gName 4))))) ((tAsg ((tOp rAddStr (tVar 3) ((tCall (sp_l_sign K) [] E0 ((tCons (tVar 1) (tNil))))))) (gName 4)))))))
    ((tSeq ((tAsg ((tCall (sp_l_valid K) [] E0 ((tCons (tVar 4) (tNil))))) (gName 6)))
    ((tSeq ((tIfS ((tNot ((tB ((tCall (sp_l_same_truth K) [] E0 ((tCons ((tCall (sp_is_name K) [] E0 ((tCons (tVar 4) (tNil))))) ((tCons (tVar 6) (tNil))))))))))) ((tRet (tC (.bl false)))) (tNext)))
    ((tSeq ((tIfS ((tNot ((tB ((tCall (sp_l_same_truth K) [] E0 ((tCons ((tCall (sp_is_name K) [] E0 ((tCons (tVar 3) (tNil))))) ((tCons (tC (.bl true)) (tNil))))))))))) ((tRet (tC (.bl false)))) (tNext)))
    ((tRet ((tCall (sp_l_same_truth K) [] E0 ((tCons ((tCall (sp_is_name K) [] E0 ((tCons (tVar 4) (tNil))))) ((tCons (tVar 6) (tNil))))))))))))))))))))))))

theorem nm127 {l : List Nat} (h : Nm l) : ∀ c ∈ l, c < 127 := fun c hc => by rcases h.all c hc with h | h <;> omega
theorem pure_law (K : PySem.W.Frag) (vs : List V) (H : Hp) (Q : VK) (E : XK) (h : sp_law K vs H Q E) : t_law K { nx := fun _ H' => Q .non H', rt := Q } (L2.start N_law vs) H := by
  obtain ⟨a, ns, rfl, hx, hn, k⟩ := h
  rw [st_law]
  unfold t_law
  walk_at "st"
  refine c_l_pool hx hn fun P G H1 _ hs1 => ?_
  walk_at "st"
  refine c_l_draw hs1 (by omega) fun way H2 w0 w1 hs2 => ?_
  walk_at "st"
  refine c_l_names hs2 (by omega) fun nl q G3 H3 n0 n1 _ _ hq hs3 => ?_
  obtain ⟨nm, rfl⟩ : ∃ nm, nl = [nm] := by
    cases nl with
    | nil => simp at n0
    | cons x r =>
      cases r with
      | nil => exact ⟨x, rfl⟩
      | cons y r => simp at n0; omega
  have hnm : Nm nm := n1 nm (by simp)
  have hnl := hnm.len
  walk_at "st"
  refine wp_cut (fun σ' H' => ∃ (x : Option V) (t : List Nat), σ' = [some (.ref a), some (.ref P.p), some (.int way), some (.str (S nm)), some (.str (S t)), x, none] ∧ t.length ≤ 100 ∧ (∀ c ∈ t, c < 127)) ?_ ?_
  · walk_at "st"
    refine ite_dec (fun h => ?_) (fun h => ?_)
    · walk_at "st"
      refine c_l_text hs3 fun l H4 l0 l1 _ => ?_
      walk_at "st"
      exact ⟨_, l, rfl, by omega, l1⟩
    · walk_at "st"
      refine ite_dec (fun h2 => ?_) (fun h2 => ?_)
      · walk_at "st"
        have := hnm.pos
        refine c_l_draw hs3 (by omega) fun at_ H4 a0 a1 hs4 => ?_
        obtain ⟨k, rfl⟩ : ∃ k : Nat, at_ = k := ⟨at_.toNat, by omega⟩
        walk_at "st"
        rw [cutG_to (by omega)]
        refine c_l_sign hs4 fun c H5 c0 c1 _ hs5 => ?_
        refine wp_addS (by simp; omega) ?_
        walk_at "st"
        have e : ((k : Int) + 1) = ((k + 1 : Nat) : Int) := by omega
        rw [e, cutG_from (by omega)]
        refine wp_addS (by simp; omega) ?_
        walk_at "st"
        refine ⟨_, _, rfl, by simp; omega, fun x hx => ?_⟩
        rcases List.mem_append.mp hx with h | h
        · rcases List.mem_append.mp h with h | h
          · exact nm127 hnm x (List.mem_of_mem_take h)
          · rw [List.mem_singleton.mp h]; exact c1
        · exact nm127 hnm x (List.mem_of_mem_drop h)
      · walk_at "st"
        refine c_l_sign hs3 fun c H4 c0 c1 _ hs4 => ?_
        walk_at "st"
        refine ⟨_, _, rfl, by simp; omega, fun x hx => ?_⟩
        rcases List.mem_append.mp hx with h | h
        · exact nm127 hnm x h
        · rw [List.mem_singleton.mp h]; exact c1
  · rintro σ' H4 ⟨x, t, rfl, ht, hc⟩
    walk_at "st"
    refine c_l_valid ht hc fun H5 _ => ?_
    walk_at "st"
    refine c_is_name (by omega) fun H6 _ => ?_
    walk_at "st"
    refine ⟨_, _, rfl, ?_⟩
    walk_at "st"
    rw [decide_eq_true rfl]
    walk_at "st"
    refine c_is_name (by omega) fun H7 _ => ?_
    walk_at "st"
    refine ⟨_, _, rfl, ?_⟩
    walk_at "st"
    rw [nm_iff.mpr hnm, decide_eq_true rfl]
    walk_at "st"
    refine c_is_name (by omega) fun H8 _ => ?_
    walk_at "st"
    refine ⟨_, _, rfl, ?_⟩
    rw [decide_eq_true rfl]
    exact k _
theorem len_law (K : PySem.W.Frag) (vs : List V) (H : Hp) (Q : VK) (E : XK) (h : sp_law K vs H Q E) : vs.length = 1 := by
  obtain ⟨a, ns, rfl, _⟩ := h
  rfl
def top (i : Nat) : Stmt := PySem.Challenge.pw_roundminutes_k01_valid_names.main.body.getD i (.Pass ⟨0, 0, 0, 0⟩)
structure Txt (K : PySem.W.Frag) (mg : Str → Option Value) : Prop where
  f_len : mg "len" = none
  c_LONGEST_NAME : ∃ u, mg "LONGEST_NAME" = some u ∧ RelV (.int 8) u
  c_LETTERS : ∃ u, mg "LETTERS" = some u ∧ RelV (.str (S Z26)) u
  c_DIGITS : ∃ u, mg "DIGITS" = some u ∧ RelV (.str (S Z10)) u
  f_all : mg "all" = none
  f_int : mg "int" = none
  f_range : mg "range" = none
  f_str : mg "str" = none
  f_min : mg "min" = none
  f_bool : mg "bool" = none
  f_isinstance : mg "isinstance" = none
section
variable {P : Program} {w : World} {K : PySem.W.Frag} {mg : Str → Option Value} {base : Heap}
abbrev s_is_name : Stmt := top 4
theorem sc_is_name : FnScope N_is_name ["text"] (defScope s_is_name) := ⟨rfl, rfl, rfl, by decide +kernel, rfl, by decide +kernel, by decide +kernel⟩
theorem ok_is_name {f : Addr} {fd : FuncData} (F : FunD K "is_name" "is_name" (defArgs s_is_name) (defBody s_is_name) (defScope s_is_name) [] [] f fd) (T : Txt K mg) : FnOk P w K mg base CX0 1 f fd ["text"] (sp_is_name K) := by
  refine F.ok sc_is_name (len_is_name K) (fun cdv A outer s H vs Q E hr h => ⟨t_is_name K, PSs.nox ?_, pure_is_name K vs H Q E h⟩)
  exact (pss_cons (ps_if (pt_not (pt_chain op_le op_le pe_int (pe_callB callLenStr (by rfl) T.f_len (by decide +kernel) (pa_cons (pv 0) pa_nil)) (C8.pe_gc (by rfl) T.c_LONGEST_NAME))) (pss_one (ps_ret pe_bl)) pss_nil)
    (pss_one (ps_ret (pe_and (pe_cmpR op_inS (pe_ix ix_str (pv 0) pe_int (fun _ _ => rfl)) (C8.pe_gc (by rfl) T.c_LETTERS) (by rfl)) (pe_one (pe_callB (cr_all rfl) (by rfl) T.f_all (by decide +kernel) (pa_cons (pe_lc (own := [("sign", 1)]) rfl sc_is_name.nd (pi_str (pv 0)) (blkOk_by (N := N_is_name) (sc := defScope s_is_name) (by decide +kernel)) (fun _ _ _ _ _ => (pg_name (i := 1) sc_is_name.nd rfl (Or.inl rfl))) (fun _ _ _ _ _ => pts_nil) (fun _ _ _ _ _ => (pe_or (pe_cmpR op_inS (pv 1) (C8.pe_gc (by rfl) T.c_LETTERS) (by rfl)) (pe_one (pe_cmpR op_inS (pv 1) (C8.pe_gc (by rfl) T.c_DIGITS) (by rfl)))))) pa_nil)))))))
abbrev s_l_pool : Stmt := top 6
theorem sc_l_pool : FnScope N_l_pool ["_law_script"] (defScope s_l_pool) := ⟨rfl, rfl, rfl, by decide +kernel, rfl, by decide +kernel, by decide +kernel⟩
theorem ok_l_pool {f : Addr} {fd : FuncData} (F : FunD K "_law_pool" "_law_pool" (defArgs s_l_pool) (defBody s_l_pool) (defScope s_l_pool) [] [] f fd) (T : Txt K mg) : FnOk P w K mg base CX0 1 f fd ["_law_script"] (sp_l_pool K) := by
  refine F.ok sc_l_pool (len_l_pool K) (fun cdv A outer s H vs Q E hr h => ⟨t_l_pool K, PSs.nox ?_, pure_l_pool K vs H Q E h⟩)
  exact (pss_cons (ps_setLc (i := 1) (own := [("_law_cell", 3)]) rfl sc_l_pool.nd rfl rfl (sw_true rfl rfl rfl (by decide +kernel)) (pi_list (pv 0)) (blkOk_by (N := N_l_pool) (sc := defScope s_l_pool) (by decide +kernel)) (fun _ _ _ _ _ => (pg_name (i := 3) sc_l_pool.nd rfl (Or.inl rfl))) (fun _ _ _ _ _ => pts_nil) (fun _ _ _ _ _ => (pe_callTy callInt1 (by rfl) T.f_int (by decide +kernel) (pa_cons (pv 3) pa_nil))))
    (pss_cons (ps_set (i := 2) sc_l_pool.nd rfl (Or.inl rfl) pe_int)
    (pss_cons (ps_if (PW.pt (pw_and (pt_cmpR op_gt (pe_callB callLenSeq (by rfl) T.f_len (by decide +kernel) (pa_cons (pv 1) pa_nil)) pe_int (nomark _)) (pw_and1 (pt_cmpR op_ge (pe_ix ix_list (pv 1) pe_int (fun _ _ => rfl)) (pe_op op_pow pe_int pe_int) (nomark _))))) (pss_one (ps_set (i := 2) sc_l_pool.nd rfl (Or.inl rfl) (pe_ix ix_list (pv 1) pe_int (fun _ _ => rfl)))) pss_nil)
    (pss_one (ps_ret (pe_lst (pa_cons (pv 2) (pa_cons pe_int (pa_cons (pv 1) pa_nil)))))))))
abbrev s_l_draw : Stmt := top 7
theorem sc_l_draw : FnScope N_l_draw ["_law_pool_here", "_law_many"] (defScope s_l_draw) := ⟨rfl, rfl, rfl, by decide +kernel, rfl, by decide +kernel, by decide +kernel⟩
theorem ok_l_draw {f : Addr} {fd : FuncData} (F : FunD K "_law_draw" "_law_draw" (defArgs s_l_draw) (defBody s_l_draw) (defScope s_l_draw) [] [] f fd) (T : Txt K mg) : FnOk P w K mg base CX0 1 f fd ["_law_pool_here", "_law_many"] (sp_l_draw K) := by
  refine F.ok sc_l_draw (len_l_draw K) (fun cdv A outer s H vs Q E hr h => ⟨t_l_draw K, PSs.nox ?_, pure_l_draw K vs H Q E h⟩)
  exact (pss_cons (ps_if (pt_cmpR op_gt (pe_ix ix_list (pv 0) pe_int (fun _ _ => rfl)) pe_int (nomark _)) (pss_cons (ps_set (i := 2) sc_l_draw.nd rfl (Or.inl rfl) (pe_op op_mod (pe_callTy callInt1 (by rfl) T.f_int (by decide +kernel) (pa_cons (pe_ix ix_list (pv 0) pe_int (fun _ _ => rfl)) pa_nil)) (pv 1)))
    (pss_cons (ps_asg (pe_op op_fdiv (pe_ix ix_list (pv 0) pe_int (fun _ _ => rfl)) (pv 1)) (pg_sub (pv 0) pe_int set_list))
    (pss_one (ps_ret (pv 2))))) pss_nil)
    (pss_cons (ps_asg (pe_op op_add (pe_ix ix_list (pv 0) pe_int (fun _ _ => rfl)) pe_int) (pg_sub (pv 0) pe_int set_list))
    (pss_cons (ps_set (i := 3) sc_l_draw.nd rfl (Or.inl rfl) (pe_ix ix_list (pv 0) pe_int (fun _ _ => rfl)))
    (pss_cons (ps_set (i := 4) sc_l_draw.nd rfl (Or.inl rfl) pe_int)
    (pss_cons (ps_set (i := 5) sc_l_draw.nd rfl (Or.inl rfl) pe_int)
    (pss_cons (ps_if (pt_cmpR op_gt (pe_callB callLenSeq (by rfl) T.f_len (by decide +kernel) (pa_cons (pv 3) pa_nil)) pe_int (nomark _)) (pss_cons (ps_set (i := 4) sc_l_draw.nd rfl (Or.inl rfl) (pe_ix ix_list (pv 3) (pe_op op_mod (pe_callTy callInt1 (by rfl) T.f_int (by decide +kernel) (pa_cons (pe_ix ix_list (pv 0) pe_int (fun _ _ => rfl)) pa_nil)) (pe_callB callLenSeq (by rfl) T.f_len (by decide +kernel) (pa_cons (pv 3) pa_nil))) (fun _ _ => rfl)))
    (pss_one (ps_set (i := 5) sc_l_draw.nd rfl (Or.inl rfl) (pe_ix ix_list (pv 3) pe_int (fun _ _ => rfl))))) pss_nil)
    (pss_cons (ps_set (i := 6) sc_l_draw.nd rfl (Or.inl rfl) (pe_op op_mod (pe_callTy callInt1 (by rfl) T.f_int (by decide +kernel) (pa_cons (pe_op op_add (pe_op op_add (pe_op op_add (pe_op op_mul (pv 4) pe_int) (pe_op op_mul (pv 5) pe_int)) (pe_op op_mul (pe_ix ix_list (pv 0) pe_int (fun _ _ => rfl)) pe_int)) pe_int) pa_nil)) pe_int))
    (pss_cons (ps_set (i := 6) sc_l_draw.nd rfl (Or.inl rfl) (pe_op op_mod (pe_callTy callInt1 (by rfl) T.f_int (by decide +kernel) (pa_cons (pe_op op_add (pe_op op_add (pe_op op_mul (pv 6) (pv 6)) (pe_op op_mul (pv 6) pe_int)) (pe_op op_mul (pe_ix ix_list (pv 0) pe_int (fun _ _ => rfl)) pe_int)) pa_nil)) pe_int))
    (pss_one (ps_ret (pe_op op_mod (pe_callTy callInt1 (by rfl) T.f_int (by decide +kernel) (pa_cons (pe_op op_fdiv (pv 6) pe_int) pa_nil)) (pv 1))))))))))))
abbrev s_l_word : Stmt := top 8
theorem sc_l_word : FnScope N_l_word ["_law_pool_here", "_law_size"] (defScope s_l_word) := ⟨rfl, rfl, rfl, by decide +kernel, rfl, by decide +kernel, by decide +kernel⟩
theorem ok_l_word {f : Addr} {fd : FuncData} (F : FunD K "_law_word" "_law_word" (defArgs s_l_word) (defBody s_l_word) (defScope s_l_word) [] [] f fd) (T : Txt K mg) (G_l_draw : C8.Cal P w K mg base 1 "_law_draw" (sp_l_draw K) []) : FnOk P w K mg base CX0 2 f fd ["_law_pool_here", "_law_size"] (sp_l_word K) := by
  refine F.ok sc_l_word (len_l_word K) (fun cdv A outer s H vs Q E hr h => ⟨t_l_word K, PSs.nox ?_, pure_l_word K vs H Q E h⟩)
  exact (pss_cons (ps_set (i := 2) sc_l_word.nd rfl (Or.inl rfl) (pe_strS (by decide +kernel)))
    (pss_cons (ps_set (i := 3) sc_l_word.nd rfl (Or.inl rfl) (pe_strS (by decide +kernel)))
    (pss_cons (ps_for PassesOwn.never rfl (pi_range1 rfl T.f_range (pa_cons (pv 1) pa_nil)) (pg_name (i := 4) sc_l_word.nd rfl (Or.inl rfl)) (pss_one (ps_set (i := 3) sc_l_word.nd rfl (Or.inl rfl) (pe_op opAddStr (pv 3) (pe_ix ix_str (pv 2) (C8.pe_c G_l_draw hr (by decide) (by rfl) (pa_cons (pv 0) (pa_cons pe_int pa_nil))) (fun _ _ => rfl))))))
    (pss_one (ps_ret (pv 3))))))
abbrev s_l_names : Stmt := top 9
theorem sc_l_names : FnScope N_l_names ["_law_pool_here", "_law_many"] (defScope s_l_names) := ⟨rfl, rfl, rfl, by decide +kernel, rfl, by decide +kernel, by decide +kernel⟩
theorem ok_l_names {f : Addr} {fd : FuncData} (F : FunD K "_law_names" "_law_names" (defArgs s_l_names) (defBody s_l_names) (defScope s_l_names) [] [] f fd) (T : Txt K mg) (G_l_draw : C8.Cal P w K mg base 1 "_law_draw" (sp_l_draw K) []) (G_l_word : C8.Cal P w K mg base 2 "_law_word" (sp_l_word K) []) : FnOk P w K mg base CX0 3 f fd ["_law_pool_here", "_law_many"] (sp_l_names K) := by
  refine F.ok sc_l_names (len_l_names K) (fun cdv A outer s H vs Q E hr h => ⟨t_l_names K, PSs.nox ?_, pure_l_names K vs H Q E h⟩)
  exact (pss_cons (ps_set (i := 2) sc_l_names.nd rfl (Or.inl rfl) (pe_strS (by decide +kernel)))
    (pss_cons (ps_set (i := 3) sc_l_names.nd rfl (Or.inl rfl) (pe_strS (by decide +kernel)))
    (pss_cons (ps_set (i := 4) sc_l_names.nd rfl (Or.inl rfl) (C8.pe_c G_l_draw hr (by decide) (by rfl) (pa_cons (pv 0) (pa_cons pe_int pa_nil))))
    (pss_cons (ps_set (i := 5) sc_l_names.nd rfl (Or.inl rfl) (pe_op opAddStr (pe_ix ix_str (pv 2) (C8.pe_c G_l_draw hr (by decide) (by rfl) (pa_cons (pv 0) (pa_cons pe_int pa_nil))) (fun _ _ => rfl)) (C8.pe_c G_l_word hr (by decide) (by rfl) (pa_cons (pv 0) (pa_cons (C8.pe_c G_l_draw hr (by decide) (by rfl) (pa_cons (pv 0) (pa_cons pe_int pa_nil))) pa_nil)))))
    (pss_cons (ps_set (i := 6) sc_l_names.nd rfl (Or.inl rfl) (C8.pe_c G_l_word hr (by decide) (by rfl) (pa_cons (pv 0) (pa_cons (C8.pe_c G_l_draw hr (by decide) (by rfl) (pa_cons (pv 0) (pa_cons pe_int pa_nil))) pa_nil))))
    (pss_cons (ps_set (i := 7) sc_l_names.nd rfl (Or.inl rfl) (C8.pe_c G_l_draw hr (by decide) (by rfl) (pa_cons (pv 0) (pa_cons pe_int pa_nil))))
    (pss_cons (ps_set (i := 8) sc_l_names.nd rfl (Or.inl rfl) (pe_lst pa_nil))
    (pss_cons (ps_for PassesOwn.never rfl (pi_range1 rfl T.f_range (pa_cons (pv 1) pa_nil)) (pg_name (i := 9) sc_l_names.nd rfl (Or.inl rfl)) (pss_cons (ps_set (i := 10) sc_l_names.nd rfl (Or.inl rfl) (pe_op opAddStr (pe_op opAddStr (pv 5) (pe_ix ix_str (pv 3) (pe_op op_mod (pe_callTy callInt1 (by rfl) T.f_int (by decide +kernel) (pa_cons (pe_op op_add (pv 7) (pe_op op_mul pe_int (pv 9))) pa_nil)) pe_int) (fun _ _ => rfl))) (pv 6)))
    (C8.pss_cut (ps_if (pt_cmpR op_eq (pv 4) pe_int (nomark _)) (pss_one (ps_set (i := 10) sc_l_names.nd rfl (Or.inl rfl) (pe_op opAddStr (pe_ix ix_str (pv 2) (pe_op op_mod (pe_callTy callInt1 (by rfl) T.f_int (by decide +kernel) (pa_cons (pe_op op_add (pv 7) (pe_op op_mul pe_int (pv 9))) pa_nil)) pe_int) (fun _ _ => rfl)) (C8.pe_c G_l_word hr (by decide) (by rfl) (pa_cons (pv 0) (pa_cons (C8.pe_c G_l_draw hr (by decide) (by rfl) (pa_cons (pv 0) (pa_cons pe_int pa_nil))) pa_nil)))))) pss_nil)
    (C8.pss_cut (ps_if (pt_cmpR op_eq (pv 4) pe_int (nomark _)) (pss_one (ps_set (i := 10) sc_l_names.nd rfl (Or.inl rfl) (pe_op opAddStr (pe_ix ix_str (pv 2) (C8.pe_c G_l_draw hr (by decide) (by rfl) (pa_cons (pv 0) (pa_cons pe_int pa_nil))) (fun _ _ => rfl)) (C8.pe_c G_l_word hr (by decide) (by rfl) (pa_cons (pv 0) (pa_cons (C8.pe_c G_l_draw hr (by decide) (by rfl) (pa_cons (pv 0) (pa_cons pe_int pa_nil))) pa_nil)))))) pss_nil)
    (pss_cons (ps_for PassesOwn.never rfl (pi_range1 rfl T.f_range (pa_cons pe_int pa_nil)) (pg_name (i := 11) sc_l_names.nd rfl (Or.inl rfl)) (pss_one (ps_if (PW.pt (pw_and (pt_cmpR op_in_seq (pv 10) (pv 8) (by rfl)) (pw_and1 (pt_cmpR op_notIn_seq (pe_op opAddStr (pe_strS (by decide +kernel)) (pe_callTy callStrInt (by rfl) T.f_str (by decide +kernel) (pa_cons (pv 11) pa_nil))) (pv 8) (by rfl))))) (pss_one (ps_set (i := 10) sc_l_names.nd rfl (Or.inl rfl) (pe_op opAddStr (pe_strS (by decide +kernel)) (pe_callTy callStrInt (by rfl) T.f_str (by decide +kernel) (pa_cons (pv 11) pa_nil))))) pss_nil)))
    (pss_one (ps_expr (pe_bm PySem.F.plainAttrs_list PySem.F.slot_list_append PySem.F.type_list_append mt_append (pv 8) (pa_cons (pv 10) pa_nil)))))))))
    (pss_one (ps_ret (pv 8)))))))))))
abbrev s_l_sign : Stmt := top 10
theorem sc_l_sign : FnScope N_l_sign ["_law_pool_here"] (defScope s_l_sign) := ⟨rfl, rfl, rfl, by decide +kernel, rfl, by decide +kernel, by decide +kernel⟩
theorem ok_l_sign {f : Addr} {fd : FuncData} (F : FunD K "_law_sign" "_law_sign" (defArgs s_l_sign) (defBody s_l_sign) (defScope s_l_sign) [] [] f fd) (T : Txt K mg) (G_l_draw : C8.Cal P w K mg base 1 "_law_draw" (sp_l_draw K) []) : FnOk P w K mg base CX0 2 f fd ["_law_pool_here"] (sp_l_sign K) := by
  refine F.ok sc_l_sign (len_l_sign K) (fun cdv A outer s H vs Q E hr h => ⟨t_l_sign K, PSs.nox ?_, pure_l_sign K vs H Q E h⟩)
  exact (pss_cons (ps_set (i := 1) sc_l_sign.nd rfl (Or.inl rfl) (pe_strS (by decide +kernel)))
    (pss_cons (ps_set (i := 1) sc_l_sign.nd rfl (Or.inl rfl) (pe_op opAddStr (pv 1) (pe_strS (by decide +kernel))))
    (pss_one (ps_ret (pe_ix ix_str (pv 1) (C8.pe_c G_l_draw hr (by decide) (by rfl) (pa_cons (pv 0) (pa_cons pe_int pa_nil))) (fun _ _ => rfl))))))
abbrev s_l_text : Stmt := top 11
theorem sc_l_text : FnScope N_l_text ["_law_pool_here", "_law_way"] (defScope s_l_text) := ⟨rfl, rfl, rfl, by decide +kernel, rfl, by decide +kernel, by decide +kernel⟩
theorem ok_l_text {f : Addr} {fd : FuncData} (F : FunD K "_law_text" "_law_text" (defArgs s_l_text) (defBody s_l_text) (defScope s_l_text) [] [] f fd) (T : Txt K mg) (G_l_draw : C8.Cal P w K mg base 1 "_law_draw" (sp_l_draw K) []) (G_l_word : C8.Cal P w K mg base 2 "_law_word" (sp_l_word K) []) (G_l_sign : C8.Cal P w K mg base 2 "_law_sign" (sp_l_sign K) []) : FnOk P w K mg base CX0 3 f fd ["_law_pool_here", "_law_way"] (sp_l_text K) := by
  refine F.ok sc_l_text (len_l_text K) (fun cdv A outer s H vs Q E hr h => ⟨t_l_text K, PSs.nox ?_, pure_l_text K vs H Q E h⟩)
  exact (pss_cons (ps_set (i := 2) sc_l_text.nd rfl (Or.inl rfl) (C8.pe_c G_l_draw hr (by decide) (by rfl) (pa_cons (pv 0) (pa_cons pe_int pa_nil))))
    (C8.pss_cut (ps_if (pt_cmpR op_eq (C8.pe_c G_l_draw hr (by decide) (by rfl) (pa_cons (pv 0) (pa_cons pe_int pa_nil))) pe_int (nomark _)) (pss_one (ps_set (i := 2) sc_l_text.nd rfl (Or.inl rfl) (C8.pe_c G_l_draw hr (by decide) (by rfl) (pa_cons (pv 0) (pa_cons pe_int pa_nil))))) pss_nil)
    (pss_cons (ps_if (pt_cmpR op_eq (pv 1) pe_int (nomark _)) (pss_one (ps_ret (C8.pe_c G_l_word hr (by decide) (by rfl) (pa_cons (pv 0) (pa_cons (pv 2) pa_nil))))) pss_nil)
    (pss_cons (ps_set (i := 3) sc_l_text.nd rfl (Or.inl rfl) (pe_strS (by decide +kernel)))
    (pss_cons (ps_for PassesOwn.never rfl (pi_range1 rfl T.f_range (pa_cons (pv 2) pa_nil)) (pg_name (i := 4) sc_l_text.nd rfl (Or.inl rfl)) (pss_one (ps_set (i := 3) sc_l_text.nd rfl (Or.inl rfl) (pe_op opAddStr (pv 3) (C8.pe_c G_l_sign hr (by decide) (by rfl) (pa_cons (pv 0) pa_nil))))))
    (pss_one (ps_ret (pv 3))))))))
abbrev s_l_valid : Stmt := top 12
theorem sc_l_valid : FnScope N_l_valid ["_law_text_here"] (defScope s_l_valid) := ⟨rfl, rfl, rfl, by decide +kernel, rfl, by decide +kernel, by decide +kernel⟩
theorem ok_l_valid {f : Addr} {fd : FuncData} (F : FunD K "_law_valid" "_law_valid" (defArgs s_l_valid) (defBody s_l_valid) (defScope s_l_valid) [] [] f fd) (T : Txt K mg) : FnOk P w K mg base CX0 1 f fd ["_law_text_here"] (sp_l_valid K) := by
  refine F.ok sc_l_valid (len_l_valid K) (fun cdv A outer s H vs Q E hr h => ⟨t_l_valid K, PSs.nox ?_, pure_l_valid K vs H Q E h⟩)
  exact (pss_cons (ps_set (i := 1) sc_l_valid.nd rfl (Or.inr rfl) (pe_strS (by decide +kernel)))
    (pss_cons (ps_setLc (i := 2) (own := [("_law_sign_here", 3)]) rfl sc_l_valid.nd rfl rfl (sw_true rfl rfl rfl (by decide +kernel)) (pi_str (pv 0)) (blkOk_by (N := N_l_valid) (sc := defScope s_l_valid) (by decide +kernel)) (fun _ _ _ _ _ => (pg_name (i := 3) sc_l_valid.nd rfl (Or.inl rfl))) (fun _ _ _ _ _ => pts_nil) (fun _ _ _ _ _ => (pe_bm PySem.F.plainAttrs_str PySem.F.slot_str_find PySem.F.type_str_find mtFind (pv 1) (pa_cons (pv 3) pa_nil))))
    (pss_cons (ps_if (PW.pt (pw_or (pt_cmpR op_lt (pe_callB callLenSeq (by rfl) T.f_len (by decide +kernel) (pa_cons (pv 2) pa_nil)) pe_int (nomark _)) (pw_or1 (pt_cmpR op_gt (pe_callB callLenSeq (by rfl) T.f_len (by decide +kernel) (pa_cons (pv 2) pa_nil)) pe_int (nomark _))))) (pss_one (ps_ret pe_bl)) pss_nil)
    (pss_one (ps_ret (pe_and (pe_cmpR op_ge (pe_callB (cr_min rfl) (by rfl) T.f_min (by decide +kernel) (pa_cons (pv 2) pa_nil)) pe_int (nomark _)) (pe_one (pe_cmpR op_lt (pe_ix ix_list (pv 2) pe_int (fun _ _ => rfl)) pe_int (nomark _)))))))))
abbrev s_l_same_truth : Stmt := top 13
theorem sc_l_same_truth : FnScope N_l_same_truth ["_law_actual", "_law_due"] (defScope s_l_same_truth) := ⟨rfl, rfl, rfl, by decide +kernel, rfl, by decide +kernel, by decide +kernel⟩
theorem ok_l_same_truth {f : Addr} {fd : FuncData} (F : FunD K "_law_same_truth" "_law_same_truth" (defArgs s_l_same_truth) (defBody s_l_same_truth) (defScope s_l_same_truth) [] [] f fd) (T : Txt K mg) : FnOk P w K mg base CX0 1 f fd ["_law_actual", "_law_due"] (sp_l_same_truth K) := by
  refine F.ok sc_l_same_truth (len_l_same_truth K) (fun cdv A outer s H vs Q E hr h => ⟨t_l_same_truth K, PSs.nox ?_, pure_l_same_truth K vs H Q E h⟩)
  exact (pss_one (ps_ret (pe_and (pe_callB call_isi (by rfl) T.f_isinstance (by decide +kernel) (pa_cons (pv 0) (pa_cons (pe_bltn (v := .ty "bool") (by rfl) T.f_bool (by decide +kernel) rfl) pa_nil))) (pe_one (pe_cmpR op_eq (pv 0) (pv 1) (nomark _))))))
abbrev s_law : Stmt := top 14
theorem sc_law : FnScope N_law ["_law_script"] (defScope s_law) := ⟨rfl, rfl, rfl, by decide +kernel, rfl, by decide +kernel, by decide +kernel⟩
theorem ok_law {f : Addr} {fd : FuncData} (F : FunD K "law" "law" (defArgs s_law) (defBody s_law) (defScope s_law) [] [] f fd) (T : Txt K mg) (G_is_name : C8.Cal P w K mg base 1 "is_name" (sp_is_name K) []) (G_l_pool : C8.Cal P w K mg base 1 "_law_pool" (sp_l_pool K) []) (G_l_draw : C8.Cal P w K mg base 1 "_law_draw" (sp_l_draw K) []) (G_l_names : C8.Cal P w K mg base 3 "_law_names" (sp_l_names K) []) (G_l_sign : C8.Cal P w K mg base 2 "_law_sign" (sp_l_sign K) []) (G_l_text : C8.Cal P w K mg base 3 "_law_text" (sp_l_text K) []) (G_l_valid : C8.Cal P w K mg base 1 "_law_valid" (sp_l_valid K) []) (G_l_same_truth : C8.Cal P w K mg base 1 "_law_same_truth" (sp_l_same_truth K) []) : FnOk P w K mg base CX0 4 f fd ["_law_script"] (sp_law K) := by
  refine F.ok sc_law (len_law K) (fun cdv A outer s H vs Q E hr h => ⟨t_law K, PSs.nox ?_, pure_law K vs H Q E h⟩)
  exact (pss_cons (ps_set (i := 1) sc_law.nd rfl (Or.inl rfl) (C8.pe_c G_l_pool hr (by decide) (by rfl) (pa_cons (pv 0) pa_nil)))
    (pss_cons (ps_set (i := 2) sc_law.nd rfl (Or.inl rfl) (C8.pe_c G_l_draw hr (by decide) (by rfl) (pa_cons (pv 1) (pa_cons pe_int pa_nil))))
    (pss_cons (ps_set (i := 3) sc_law.nd rfl (Or.inl rfl) (pe_ix ix_list (C8.pe_c G_l_names hr (by decide) (by rfl) (pa_cons (pv 1) (pa_cons pe_int pa_nil))) pe_int (fun _ _ => rfl)))
    (pss_cons (ps_set (i := 4) sc_law.nd rfl (Or.inl rfl) (pe_strS (by decide +kernel)))
    (C8.pss_cut (ps_if (pt_cmpR op_lt (pv 2) pe_int (nomark _)) (pss_one (ps_set (i := 4) sc_law.nd rfl (Or.inl rfl) (C8.pe_c G_l_text hr (by decide) (by rfl) (pa_cons (pv 1) (pa_cons (pv 2) pa_nil))))) (pss_one (ps_if (pt_cmpR op_eq (pv 2) pe_int (nomark _)) (pss_cons (ps_set (i := 5) sc_law.nd rfl (Or.inl rfl) (C8.pe_c G_l_draw hr (by decide) (by rfl) (pa_cons (pv 1) (pa_cons (pe_callB callLenStr (by rfl) T.f_len (by decide +kernel) (pa_cons (pv 3) pa_nil)) pa_nil))))
    (pss_one (ps_set (i := 4) sc_law.nd rfl (Or.inl rfl) (pe_op opAddStr (pe_op opAddStr (pe_slice sl_str (pv 3) po_none (po_some (pv 5))) (C8.pe_c G_l_sign hr (by decide) (by rfl) (pa_cons (pv 1) pa_nil))) (pe_slice sl_str (pv 3) (po_some (pe_op op_add (pv 5) pe_int)) po_none))))) (pss_one (ps_set (i := 4) sc_law.nd rfl (Or.inl rfl) (pe_op opAddStr (pv 3) (C8.pe_c G_l_sign hr (by decide) (by rfl) (pa_cons (pv 1) pa_nil))))))))
    (pss_cons (ps_set (i := 6) sc_law.nd rfl (Or.inl rfl) (C8.pe_c G_l_valid hr (by decide) (by rfl) (pa_cons (pv 4) pa_nil)))
    (pss_cons (ps_if (pt_not (pt_val (C8.pe_c G_l_same_truth hr (by decide) (by rfl) (pa_cons (C8.pe_c G_is_name hr (by decide) (by rfl) (pa_cons (pv 4) pa_nil)) (pa_cons (pv 6) pa_nil))))) (pss_one (ps_ret pe_bl)) pss_nil)
    (pss_cons (ps_if (pt_not (pt_val (C8.pe_c G_l_same_truth hr (by decide) (by rfl) (pa_cons (C8.pe_c G_is_name hr (by decide) (by rfl) (pa_cons (pv 3) pa_nil)) (pa_cons pe_bl pa_nil))))) (pss_one (ps_ret pe_bl)) pss_nil)
    (pss_one (ps_ret (C8.pe_c G_l_same_truth hr (by decide) (by rfl) (pa_cons (C8.pe_c G_is_name hr (by decide) (by rfl) (pa_cons (pv 4) pa_nil)) (pa_cons (pv 6) pa_nil)))))))))))))
end
abbrev d_is_name : He.DefD := ⟨("is_name", none), "is_name", "is_name", defArgs s_is_name, defBody s_is_name, defScope s_is_name, [], []⟩
abbrev d_l_pool : He.DefD := ⟨("_law_pool", none), "_law_pool", "_law_pool", defArgs s_l_pool, defBody s_l_pool, defScope s_l_pool, [], []⟩
abbrev d_l_draw : He.DefD := ⟨("_law_draw", none), "_law_draw", "_law_draw", defArgs s_l_draw, defBody s_l_draw, defScope s_l_draw, [], []⟩
abbrev d_l_word : He.DefD := ⟨("_law_word", none), "_law_word", "_law_word", defArgs s_l_word, defBody s_l_word, defScope s_l_word, [], []⟩
abbrev d_l_names : He.DefD := ⟨("_law_names", none), "_law_names", "_law_names", defArgs s_l_names, defBody s_l_names, defScope s_l_names, [], []⟩
abbrev d_l_sign : He.DefD := ⟨("_law_sign", none), "_law_sign", "_law_sign", defArgs s_l_sign, defBody s_l_sign, defScope s_l_sign, [], []⟩
abbrev d_l_text : He.DefD := ⟨("_law_text", none), "_law_text", "_law_text", defArgs s_l_text, defBody s_l_text, defScope s_l_text, [], []⟩
abbrev d_l_valid : He.DefD := ⟨("_law_valid", none), "_law_valid", "_law_valid", defArgs s_l_valid, defBody s_l_valid, defScope s_l_valid, [], []⟩
abbrev d_l_same_truth : He.DefD := ⟨("_law_same_truth", none), "_law_same_truth", "_law_same_truth", defArgs s_l_same_truth, defBody s_l_same_truth, defScope s_l_same_truth, [], []⟩
abbrev d_law : He.DefD := ⟨("law", none), "law", "law", defArgs s_law, defBody s_law, defScope s_law, [], []⟩
def fns : List He.DefD := [d_is_name, d_l_pool, d_l_draw, d_l_word, d_l_names, d_l_sign, d_l_text, d_l_valid, d_l_same_truth, d_law]
def fas : List He.Fa := [.glo "is_name", .glo "_law_pool", .glo "_law_draw", .glo "_law_word", .glo "_law_names", .glo "_law_sign", .glo "_law_text", .glo "_law_valid", .glo "_law_same_truth", .glo "law", .free "len", .int "LONGEST_NAME" (8), .str "LETTERS" "abcdefghijklmnopqrstuvwxyz", .str "DIGITS" "0123456789", .free "all", .free "int", .free "range", .free "str", .free "min", .free "bool", .free "isinstance"]
abbrev Rw : PySem.W.OpenRow := PySem.W.OpenLaw.row PySem.Challenge.rw_roundminutes_k01_valid_names
abbrev hk : PySem.W.Hook := He.hookD 4 fas fns
def ob (s : PySem.W.SharedT) : He.AlD := He.obsDG 4 fas fns (HandSHeadRun.getT s)
theorem ob_ok (s : PySem.W.SharedT) : ob s = hk.obs s.abs := He.obsDG_eq (HandSHeadRun.getT_eq s)
def loose : List Str := ["LETTERS", "DIGITS", "LONGEST_NAME", "is_name", "_law_pool", "_law_draw", "_law_word", "_law_names", "_law_sign", "_law_text", "_law_valid", "_law_same_truth"]
theorem run (w : World) : HandSHeadRun.RunEq Rw (PySem.W.view Rw.prog [14]) hk ob 2000 loose w := by
  intro os
  kernel_rfl
theorem facts {P : Program} {w : World} {K : PySem.W.Frag} {h : Heap} {mg : Str → Option Value} {f : Addr} (X : K.In h) (G : h.Ns mainGlobals mg) (hfa : mg ("law" : Str) = some (.ref f)) (c : He.SaysD fas fns K) :
    ∃ fd : FuncData, (∀ (s : Shared) (v : Value), BindsTo s fd ⟨[v], []⟩ [("_law_script", v)]) ∧ ∀ base : Heap, K.In base → base.Ns mainGlobals mg → FnOk P w K mg base CX0 4 f fd ["_law_script"] (sp_law K) := by
  obtain ⟨fd_is_name, F_is_name⟩ := c.def_ 0 (d := d_is_name) rfl
  have g_is_name := He.glo_ok X G (c.fact 0 (f := .glo "is_name") rfl)
  obtain ⟨fd_l_pool, F_l_pool⟩ := c.def_ 1 (d := d_l_pool) rfl
  have g_l_pool := He.glo_ok X G (c.fact 1 (f := .glo "_law_pool") rfl)
  obtain ⟨fd_l_draw, F_l_draw⟩ := c.def_ 2 (d := d_l_draw) rfl
  have g_l_draw := He.glo_ok X G (c.fact 2 (f := .glo "_law_draw") rfl)
  obtain ⟨fd_l_word, F_l_word⟩ := c.def_ 3 (d := d_l_word) rfl
  have g_l_word := He.glo_ok X G (c.fact 3 (f := .glo "_law_word") rfl)
  obtain ⟨fd_l_names, F_l_names⟩ := c.def_ 4 (d := d_l_names) rfl
  have g_l_names := He.glo_ok X G (c.fact 4 (f := .glo "_law_names") rfl)
  obtain ⟨fd_l_sign, F_l_sign⟩ := c.def_ 5 (d := d_l_sign) rfl
  have g_l_sign := He.glo_ok X G (c.fact 5 (f := .glo "_law_sign") rfl)
  obtain ⟨fd_l_text, F_l_text⟩ := c.def_ 6 (d := d_l_text) rfl
  have g_l_text := He.glo_ok X G (c.fact 6 (f := .glo "_law_text") rfl)
  obtain ⟨fd_l_valid, F_l_valid⟩ := c.def_ 7 (d := d_l_valid) rfl
  have g_l_valid := He.glo_ok X G (c.fact 7 (f := .glo "_law_valid") rfl)
  obtain ⟨fd_l_same_truth, F_l_same_truth⟩ := c.def_ 8 (d := d_l_same_truth) rfl
  have g_l_same_truth := He.glo_ok X G (c.fact 8 (f := .glo "_law_same_truth") rfl)
  obtain ⟨fd_law, F_law⟩ := c.def_ 9 (d := d_law) rfl
  have g_law := He.glo_ok X G (c.fact 9 (f := .glo "law") rfl)
  have t_f_len := He.free_ok X G (c.fact 10 (f := .free "len") rfl)
  have t_c_LONGEST_NAME : ∃ u, mg "LONGEST_NAME" = some u ∧ RelV (.int 8) u := (He.int_ok X G (c.fact 11 (f := .int "LONGEST_NAME" (8)) rfl)).elim fun t e => ⟨_, e, ⟨t, rfl⟩⟩
  have z_c_LETTERS : ("abcdefghijklmnopqrstuvwxyz" : Str) = S Z26 := by decide +kernel
  have t_c_LETTERS : ∃ u, mg "LETTERS" = some u ∧ RelV (.str (S Z26)) u := (He.str_ok X G (c.fact 12 (f := .str "LETTERS" "abcdefghijklmnopqrstuvwxyz") rfl)).elim fun t e => ⟨_, e, ⟨t, by rw [z_c_LETTERS]⟩⟩
  have z_c_DIGITS : ("0123456789" : Str) = S Z10 := by decide +kernel
  have t_c_DIGITS : ∃ u, mg "DIGITS" = some u ∧ RelV (.str (S Z10)) u := (He.str_ok X G (c.fact 13 (f := .str "DIGITS" "0123456789") rfl)).elim fun t e => ⟨_, e, ⟨t, by rw [z_c_DIGITS]⟩⟩
  have t_f_all := He.free_ok X G (c.fact 14 (f := .free "all") rfl)
  have t_f_int := He.free_ok X G (c.fact 15 (f := .free "int") rfl)
  have t_f_range := He.free_ok X G (c.fact 16 (f := .free "range") rfl)
  have t_f_str := He.free_ok X G (c.fact 17 (f := .free "str") rfl)
  have t_f_min := He.free_ok X G (c.fact 18 (f := .free "min") rfl)
  have t_f_bool := He.free_ok X G (c.fact 19 (f := .free "bool") rfl)
  have t_f_isinstance := He.free_ok X G (c.fact 20 (f := .free "isinstance") rfl)
  have T : Txt K mg := ⟨t_f_len, t_c_LONGEST_NAME, t_c_LETTERS, t_c_DIGITS, t_f_all, t_f_int, t_f_range, t_f_str, t_f_min, t_f_bool, t_f_isinstance⟩
  have e := hfa.symm.trans g_law
  cases e
  have b := FunD.bindsA (ps := ["_law_script"]) F_law fun _ _ _ _ _ _ us hl => match us, hl with | [_], _ => rfl
  refine ⟨fd_law, fun s v => b s [v] rfl, fun base _ _ => ?_⟩
  have G_is_name : C8.Cal P w K mg base 1 "is_name" (sp_is_name K) [] := ⟨_, fd_is_name, _, [], ok_is_name F_is_name T , g_is_name, F_is_name.kp, F_is_name.bindsN (ps := ["text"]) (fun _ _ _ _ _ _ us hl => match us, hl with | [_], _ => rfl), .nil⟩
  have G_l_pool : C8.Cal P w K mg base 1 "_law_pool" (sp_l_pool K) [] := ⟨_, fd_l_pool, _, [], ok_l_pool F_l_pool T , g_l_pool, F_l_pool.kp, F_l_pool.bindsN (ps := ["_law_script"]) (fun _ _ _ _ _ _ us hl => match us, hl with | [_], _ => rfl), .nil⟩
  have G_l_draw : C8.Cal P w K mg base 1 "_law_draw" (sp_l_draw K) [] := ⟨_, fd_l_draw, _, [], ok_l_draw F_l_draw T , g_l_draw, F_l_draw.kp, F_l_draw.bindsN (ps := ["_law_pool_here", "_law_many"]) (fun _ _ _ _ _ _ us hl => match us, hl with | [_, _], _ => rfl), .nil⟩
  have G_l_word : C8.Cal P w K mg base 2 "_law_word" (sp_l_word K) [] := ⟨_, fd_l_word, _, [], ok_l_word F_l_word T G_l_draw, g_l_word, F_l_word.kp, F_l_word.bindsN (ps := ["_law_pool_here", "_law_size"]) (fun _ _ _ _ _ _ us hl => match us, hl with | [_, _], _ => rfl), .nil⟩
  have G_l_names : C8.Cal P w K mg base 3 "_law_names" (sp_l_names K) [] := ⟨_, fd_l_names, _, [], ok_l_names F_l_names T G_l_draw G_l_word, g_l_names, F_l_names.kp, F_l_names.bindsN (ps := ["_law_pool_here", "_law_many"]) (fun _ _ _ _ _ _ us hl => match us, hl with | [_, _], _ => rfl), .nil⟩
  have G_l_sign : C8.Cal P w K mg base 2 "_law_sign" (sp_l_sign K) [] := ⟨_, fd_l_sign, _, [], ok_l_sign F_l_sign T G_l_draw, g_l_sign, F_l_sign.kp, F_l_sign.bindsN (ps := ["_law_pool_here"]) (fun _ _ _ _ _ _ us hl => match us, hl with | [_], _ => rfl), .nil⟩
  have G_l_text : C8.Cal P w K mg base 3 "_law_text" (sp_l_text K) [] := ⟨_, fd_l_text, _, [], ok_l_text F_l_text T G_l_draw G_l_word G_l_sign, g_l_text, F_l_text.kp, F_l_text.bindsN (ps := ["_law_pool_here", "_law_way"]) (fun _ _ _ _ _ _ us hl => match us, hl with | [_, _], _ => rfl), .nil⟩
  have G_l_valid : C8.Cal P w K mg base 1 "_law_valid" (sp_l_valid K) [] := ⟨_, fd_l_valid, _, [], ok_l_valid F_l_valid T , g_l_valid, F_l_valid.kp, F_l_valid.bindsN (ps := ["_law_text_here"]) (fun _ _ _ _ _ _ us hl => match us, hl with | [_], _ => rfl), .nil⟩
  have G_l_same_truth : C8.Cal P w K mg base 1 "_law_same_truth" (sp_l_same_truth K) [] := ⟨_, fd_l_same_truth, _, [], ok_l_same_truth F_l_same_truth T , g_l_same_truth, F_l_same_truth.kp, F_l_same_truth.bindsN (ps := ["_law_actual", "_law_due"]) (fun _ _ _ _ _ _ us hl => match us, hl with | [_, _], _ => rfl), .nil⟩
  exact ok_law F_law T G_is_name G_l_pool G_l_draw G_l_names G_l_sign G_l_text G_l_valid G_l_same_truth
end RM
open PySem PySem.W PySem.Calls PyProof.Rows
set_option maxRecDepth 100000 in
set_option maxHeartbeats 0 in
theorem PySem.Challenge.cw_roundminutes_k01_valid_names_holds : PySem.Challenge.rw_roundminutes_k01_valid_names.Holds := by
  w_on; o_law
  refine HandSHeadRun.head_any (r := OpenLaw.row PySem.Challenge.rw_roundminutes_k01_valid_names) (q := view RM.Rw.prog [14]) (H := RM.hk) (ob := RM.ob) (M := 2000) (loose := RM.loose)
    (d := HandSHeadRun.topDef RM.Rw.prog 14) (kwd := []) RM.ob_ok
    (by kernel_rfl) (fun s => by kernel_rfl) RM.run (by kernel_rfl) (by kernel_rfl) (by kernel_rfl) (by rfl) (by first | assumption | decide +kernel) (by decide +kernel) ⟨rfl, rfl, rfl, rfl, rfl, by decide +kernel⟩ ?hw ?hc
  case hw => w_witness2
  case hc =>
    refine L2.walk_ofE (l := PySem.Challenge.rw_roundminutes_k01_valid_names) (n := 63) (k := 4) (x := "_law_script") (CX := L2.CX0) rfl (by decide) (by kernel_rfl) ⟨rfl, by decide, by decide⟩ ?F (fun _ _ _ _ z => z)
    intro w mg fa h Y G hmg0
    obtain ⟨K, KX, c⟩ := Y
    have hmg : mg ("law" : PySem.Str) = some (.ref fa) := by
      have e : (HandSHeadRun.topDef RM.Rw.prog 14).name = ("law" : PySem.Str) := by kernel_rfl
      rw [← e]
      exact hmg0
    obtain ⟨fd, hb, hF⟩ := RM.facts (P := PySem.Challenge.rw_roundminutes_k01_valid_names.prog) (w := w) KX G hmg c
    exact ⟨K, fd, RM.sp_law K, KX, hb, fun H a ns hl _ hS => ⟨a, ns, rfl, hS, hl, fun _ => rfl⟩, hF⟩
