import PyProof.Rows.All
import Wide.All
import OpenK.AllK
import Wide.FinOn
import HandS.ForMost
import HandS.ForExc
import HandS.Codes
import HandS.Steps
import HandS.Walk
import HandS.IsInst
import HandS.Defaults
import HandS.More
import HandS.Small
import HandS.AnyAll
import HandS.Head0
import HandS.Head1
import HandS.Head2
import HandS.HeadEnd
import HandS.HeadHook1
import HandS.HeadHook2
import HandS.OwnEq
import HandS.OwnIter
import HandS.IterNext
import HandS.IterVal
import HandS.ClsMeth
import HandS.Property
import HandS.Star
import HandS.MapObj
import HandS.ListItems
import HandS.DictComp
import HandS.SetKeys
import KE.KDictList
import HandS.Wide
import HandS.Conv
import HandS.SortKw
import HandS.ExcInit
import HandS.ExcField
import HandS.ExcOwn
import HandS.WordsExc
import KE.KExcIs
import HandS.Style
import HandS.FStr
import KE.IntTextLaws
import PySem.Challenge.RW_roundminutes_k21_walk_text
set_option Elab.async false
set_option linter.all false
set_option maxRecDepth 100000
set_option maxHeartbeats 4000000
namespace RM
open PySem PySem.Spec PyProof.Rows L2 C8
/-! ### texts as lists of signs -/
abbrev S (l : List Nat) : Str := ⟨l.toArray⟩
theorem S_tl (x : Str) : S x.cps.toList = x := SX.S_tl x
theorem S_inj {a b : List Nat} (h : S a = S b) : a = b := SX.S_inj h
theorem S_len (a : List Nat) : (S a).length = a.length := SX.S_len a
theorem S_cat (a b : List Nat) : S a ++ S b = S (a ++ b) := SX.S_cat a b
abbrev sv (l : List Nat) : V := .str (S l)
def Z26 : List Nat := [97, 98, 99, 100, 101, 102, 103, 104, 105, 106, 107, 108, 109, 110, 111, 112, 113, 114, 115, 116, 117, 118, 119, 120, 121, 122]
def Z10 : List Nat := [48, 49, 50, 51, 52, 53, 54, 55, 56, 57]
def Z36 : List Nat := [97, 98, 99, 100, 101, 102, 103, 104, 105, 106, 107, 108, 109, 110, 111, 112, 113, 114, 115, 116, 117, 118, 119, 120, 121, 122, 48, 49, 50, 51, 52, 53, 54, 55, 56, 57]
/-- a letter; a letter or a digit -/
def LT (c : Nat) : Prop := 97 ≤ c ∧ c ≤ 122
def LD (c : Nat) : Prop := (97 ≤ c ∧ c ≤ 122) ∨ (48 ≤ c ∧ c ≤ 57)
instance (c : Nat) : Decidable (LT c) := by unfold LT; infer_instance
instance (c : Nat) : Decidable (LD c) := by unfold LD; infer_instance
theorem z26 {c : Nat} : c ∈ Z26 ↔ LT c := by
  constructor
  · intro h
    exact (by decide : ∀ c ∈ Z26, LT c) c h
  · intro ⟨h1, h2⟩
    obtain ⟨k, rfl⟩ : ∃ k, c = 97 + k := ⟨c - 97, by omega⟩
    exact (by decide : ∀ k, k < 26 → 97 + k ∈ Z26) k (by omega)
theorem z10 {c : Nat} : c ∈ Z10 ↔ (48 ≤ c ∧ c ≤ 57) := by
  constructor
  · intro h
    exact (by decide : ∀ c ∈ Z10, 48 ≤ c ∧ c ≤ 57) c h
  · intro ⟨h1, h2⟩
    obtain ⟨k, rfl⟩ : ∃ k, c = 48 + k := ⟨c - 48, by omega⟩
    exact (by decide : ∀ k, k < 10 → 48 + k ∈ Z10) k (by omega)
theorem z36 {c : Nat} : c ∈ Z36 ↔ LD c := by
  have e : Z36 = Z26 ++ Z10 := rfl
  rw [e, List.mem_append, z26, z10]
  rfl
/-- a name -/
def isNm (l : List Nat) : Bool := decide (1 ≤ l.length) && (decide (l.length ≤ 8) && ((match l with | [] => false | c :: _ => decide (LT c)) && l.all fun c => decide (LD c)))
structure Nm (l : List Nat) : Prop where
  len : l.length ≤ 8
  first : ∃ c r, l = c :: r ∧ LT c
  all : ∀ c ∈ l, LD c
theorem Nm.pos {l : List Nat} (h : Nm l) : 1 ≤ l.length := by
  obtain ⟨c, r, rfl, _⟩ := h.first
  simp
theorem nm_iff {l : List Nat} : isNm l = true ↔ Nm l := by
  unfold isNm
  constructor
  · intro h
    simp only [Bool.and_eq_true, decide_eq_true_eq, List.all_eq_true] at h
    obtain ⟨h1, h2, h3, h4⟩ := h
    cases l with
    | nil => simp at h1
    | cons c r => exact ⟨h2, ⟨c, r, rfl, by simpa using h3⟩, h4⟩
  · intro h
    obtain ⟨h2, ⟨c, r, rfl, h3⟩, h4⟩ := h
    simp only [Bool.and_eq_true, decide_eq_true_eq, List.all_eq_true]
    exact ⟨by simp, h2, by simpa using h3, h4⟩
/-- the digits of j as a text -/
def dg (j : Nat) : List Nat := ((toString ((j : Nat) : Int) : String) : Str).cps.toList
def zn (j : Nat) : List Nat := [122] ++ dg j
theorem zn_nm {j : Nat} (h : j < 13) : Nm (zn j) := nm_iff.mp ((by decide +kernel : ∀ j, j < 13 → isNm (zn j) = true) j h)
theorem zn_nodup : ((List.range 13).map zn).Nodup := by decide +kernel
theorem nodup_sub {α : Type} [DecidableEq α] : ∀ {l m : List α}, l.Nodup → (∀ x ∈ l, x ∈ m) → l.length ≤ m.length
  | [], _, _, _ => Nat.zero_le _
  | x :: l, m, hn, hs => by
    have hx := hs x List.mem_cons_self
    obtain ⟨h1, h2⟩ := List.nodup_cons.mp hn
    have ih := nodup_sub (l := l) (m := m.erase x) h2 fun y hy => by
      have ne : y ≠ x := fun e => h1 (e ▸ hy)
      exact (List.mem_erase_of_ne ne).mpr (hs y (List.mem_cons_of_mem _ hy))
    rw [List.length_erase_of_mem hx] at ih
    have : 0 < m.length := List.length_pos_of_mem hx
    rw [List.length_cons]
    omega
theorem zn_out {ns : List (List Nat)} (h : ∀ i, i < 13 → zn i ∈ ns) : 13 ≤ ns.length := by
  have z := nodup_sub zn_nodup (m := ns) fun x hx => by
    obtain ⟨i, hi, rfl⟩ := List.mem_map.mp hx
    exact h i (List.mem_range.mp hi)
  simpa using z
/-- a slice -/
def cutG {α : Type} (xs : List α) (lo hi : Option Int) : List α := (xs.drop (HT.sIx xs.length 0 lo)).take (HT.sIx xs.length xs.length hi - HT.sIx xs.length 0 lo)
theorem six_nat {n d k : Nat} (h : k ≤ n) : HT.sIx n d (some (k : Int)) = k := by
  unfold HT.sIx
  simp only []
  split <;> omega
theorem cutG_to {α : Type} {xs : List α} {k : Nat} (h : k ≤ xs.length) : cutG xs none (some (k : Int)) = xs.take k := by
  unfold cutG
  rw [six_nat h]
  show (xs.drop 0).take (k - 0) = xs.take k
  simp
theorem cutG_from {α : Type} {xs : List α} {k : Nat} (h : k ≤ xs.length) : cutG xs (some (k : Int)) none = xs.drop k := by
  unfold cutG
  rw [six_nat h]
  show (xs.drop k).take (xs.length - k) = xs.drop k
  rw [← List.length_drop, List.take_length]
/-! ### short names of readings -/
def rAddStr : R2 := fun x y H Q => ∃ i j, x = .str i ∧ y = .str j ∧ i.length + j.length ≤ sizeLine ∧ Q (.str (i ++ j)) H
def rLtStr : R2 := fun x y H Q => ∃ i j, x = .str i ∧ y = .str j ∧ Q (.bl (decide (i.cps.toList < j.cps.toList))) H
def rLenStr : List V → Hp → VK → Prop := fun xs H Q => ∃ z, xs = [.str z] ∧ z.length ≤ sizeLine ∧ Q (.int z.length) H
def rLenS (K : PySem.W.Frag) : List V → Hp → VK → Prop := fun xs H Q => ∃ p ys, xs = [.ref p] ∧ (SqL K H p ys ∨ SqT K H p ys) ∧ Q (.int ys.length) H
def rListS (K : PySem.W.Frag) : List V → Hp → VK → Prop := fun xs H Q => ∃ p ys, xs = [.ref p] ∧ (SqL K H p ys ∨ SqT K H p ys) ∧ ∀ l, H l = none → Q (.ref l) (upd H l (.lst ys))
def rInt1 : List V → Hp → VK → Prop := fun xs H Q => (∃ i, xs = [.int i] ∧ Q (.int i) H) ∨ ∃ k, xs = [.bl k] ∧ Q (.int (if k then 1 else 0)) H
def rStrInt : List V → Hp → VK → Prop := fun xs H Q => ∃ i, xs = [.int i] ∧ i.natAbs.log2 < 1920 ∧ Q (.str (toString i)) H
def rMin2 : List V → Hp → VK → Prop := fun xs H Q => ∃ i j, xs = [.int i, .int j] ∧ Q (.int (if j < i then j else i)) H
def rMax2 : List V → Hp → VK → Prop := fun xs H Q => ∃ i j, xs = [.int i, .int j] ∧ Q (.int (if j > i then j else i)) H
def rAbs : List V → Hp → VK → Prop := fun xs H Q => ∃ i, xs = [.int i] ∧ Q (.int (if i < 0 then -i else i)) H
def rFind : V → List V → Hp → VK → Prop := fun x xs H Q => ∃ a b, x = .str a ∧ xs = [.str b] ∧ Q (.int (Txt.find a b)) H

section
variable {X : Cx}
theorem opAddStr : OpR X (binaryOp .Add) rAddStr := op_add_str
theorem opLtStr : OpR X (compareOp .Lt) rLtStr := op_lt_str
theorem callLenStr : CallR X (.builtin "len") rLenStr := call_len_str
theorem callLenSeq : CallR X (.builtin "len") (rLenS X.K) := call_len_seq
theorem callListOf : CallR X (.type "list") (rListS X.K) := call_list_of
theorem callInt1 : CallR X (.type "int") rInt1 := call_int1
theorem callStrInt : CallR X (.type "str") rStrInt := call_str_int
theorem callMin2 (hc : X.calm = true) : CallR X (.builtin "min") rMin2 := call_min2 hc
theorem callMax2 (hc : X.calm = true) : CallR X (.builtin "max") rMax2 := call_max2 hc
theorem callAbs : CallR X (.builtin "abs") rAbs := call_abs
theorem mtFind : MtR X "str.find" rFind := mt_find
end
theorem Same.new {H : Hp} {p : Addr} {o : HO} (h : H p = none) : Same H (upd H p o) := fun a u e => by
  rw [upd_ne (ne_of_none e h)]
  exact e
theorem Same.mut {H H' : Hp} {p : Addr} {o : HO} (e : Same H H') (h : H p = none) : Same H (upd H' p o) := fun a u ha => by
  rw [upd_ne (ne_of_none ha h)]
  exact e a u ha
theorem szl {n : Nat} (h : n ≤ 100000) : n ≤ sizeLine := Nat.le_trans h (by decide)
theorem szlt {n : Nat} (h : n < 100000) : n < sizeLine := Nat.lt_of_lt_of_le h (by decide)
/-! ### readings from the head -/
section
variable {σ : L2.St} {H : Hp} {Q : VK} {i : Nat} {v : V} {ta tb tc : TE} {tl : TA} {t u : TT} {s1 s2 : TS} {D : Ends} {K : PySem.W.Frag} {r r' : R2} {sp : Sp} {E : XK} {QA : List V → Hp → Prop} {QT : Bool → Hp → Prop}
theorem wp_var (h : σ[i]? = some (some v)) (q : Q v H) : tVar i σ H Q := ⟨v, h, q⟩
theorem wp_c (q : Q v H) : tC v σ H Q := q
theorem wp_op (h : ta σ H fun x H1 => tb σ H1 fun y H2 => r x y H2 Q) : tOp r ta tb σ H Q := h
theorem wp_un {r : V → Hp → VK → Prop} (h : ta σ H fun x H1 => r x H1 Q) : tUn r ta σ H Q := h
theorem wp_nil (h : QA [] H) : tNil σ H QA := h
theorem wp_cons (h : ta σ H fun x H1 => tl σ H1 fun xs H2 => QA (x :: xs) H2) : tCons ta tl σ H QA := h
theorem wp_call (h : tl σ H fun vs H1 => sp vs H1 Q E) : tCall sp [] E tl σ H Q := by
  show tl σ H fun vs H1 => sp (vs ++ []) H1 Q E
  simpa only [List.append_nil] using h
theorem wp_cb {r : List V → Hp → VK → Prop} (h : tl σ H fun vs H1 => r vs H1 Q) : tCB r tl σ H Q := h
theorem wp_tup (h : tl σ H fun xs H1 => xs.length ≤ sizeLine ∧ ∀ p, H1 p = none → Q (.ref p) (upd H1 p (.tup xs))) : tTup tl σ H Q := h
theorem wp_lst (h : tl σ H fun xs H1 => xs.length ≤ sizeLine ∧ ∀ p, H1 p = none → Q (.ref p) (upd H1 p (.lst xs))) : tLst tl σ H Q := h
theorem wp_test (h : ta σ H fun x H1 => ∃ k, x = .bl k ∧ QT k H1) : tTest ta σ H QT := h
theorem wp_B (h : ta σ H fun x H1 => ∃ k, x = .bl k ∧ QT k H1) : tB ta σ H QT := h
theorem wp_bl {k : Bool} {R : Bool → Prop} (h : R k) : ∃ k', V.bl k = .bl k' ∧ R k' := ⟨k, rfl, h⟩
theorem wp_not (h : t σ H fun c H1 => QT (!c) H1) : tNot t σ H QT := h
theorem wp_and (h : t σ H fun c H1 => if c = true then u σ H1 QT else QT false H1) : tAnd t u σ H QT := h
theorem wp_or (h : t σ H fun c H1 => if c = true then QT true H1 else u σ H1 QT) : tOr t u σ H QT := h
theorem wp_notV (h : ta σ H fun x H1 => ∃ c, x = .bl c ∧ Q (.bl (!c)) H1) : tNotV ta σ H Q := h
theorem wp_andV (h : ta σ H fun x H1 => ∃ c, x = .bl c ∧ if c = true then tb σ H1 Q else Q (.bl false) H1) : tAndV ta tb σ H Q := h
theorem wp_orV (h : ta σ H fun x H1 => ∃ c, x = .bl c ∧ if c = true then Q (.bl true) H1 else tb σ H1 Q) : tOrV ta tb σ H Q := h
theorem wp_ifE (h : t σ H fun c H1 => if c = true then ta σ H1 Q else tb σ H1 Q) : tIf t ta tb σ H Q := h
theorem wp_chain (h : ta σ H fun x H1 => tb σ H1 fun y H2 => r x y H2 fun z H3 => ∃ k, z = .bl k ∧ (if k = true then tc σ H3 fun w' H4 => r' y w' H4 Q else Q (.bl false) H3)) : tChain r r' ta tb tc σ H Q := h
theorem wp_slice {r : V → Option Int → Option Int → Hp → VK → Prop} {tlo thi : TO} (h : ta σ H fun x H1 => tlo σ H1 fun l H2 => thi σ H2 fun u H3 => r x l u H3 Q) : tSl r ta tlo thi σ H Q := h
theorem wp_noPart {QO : Option Int → Hp → Prop} (h : QO none H) : tNoPart σ H QO := h
theorem wp_part {QO : Option Int → Hp → Prop} (h : ta σ H fun x H1 => ∃ i, x = .int i ∧ QO (some i) H1) : tPart ta σ H QO := h
theorem wp_partI {k : Int} {R : Int → Prop} (h : R k) : ∃ i, V.int k = .int i ∧ R i := ⟨k, rfl, h⟩
theorem wp_bm {T : String} {r : V → List V → Hp → VK → Prop} (h : ta σ H fun x H1 => tyV K T x H1 ∧ tl σ H1 fun xs H2 => r x xs H2 Q) : tBM K T r ta tl σ H Q := h
theorem wp_bm0 {T : String} {r : V → List V → Hp → VK → Prop} (h : ta σ H fun x H1 => tyV K T x H1 ∧ r x [] H1 Q) : tBM0 K T r ta σ H Q := h
/- operations -/
theorem wp_rI0 {g : Int → Int → V} {a b : Int} (h : Q (g a b) H) : rI0 g (.int a) (.int b) H Q := ⟨a, b, rfl, rfl, h⟩
theorem wp_rI {C : Int → Int → Prop} {g : Int → Int → V} {a b : Int} (hc : C a b) (h : Q (g a b) H) : rI C g (.int a) (.int b) H Q := ⟨a, b, rfl, rfl, hc, h⟩
theorem wp_rU {g : Int → V} {a : Int} (h : Q (g a) H) : rU g (.int a) H Q := ⟨a, rfl, h⟩
theorem wp_eqI {a b : Int} (h : Q (.bl (decide (a = b))) H) : rEq (.int a) (.int b) H Q := ⟨rfl, by
  have e : decide (V.int a = V.int b) = decide (a = b) := by simp
  rw [e]; exact h⟩
theorem wp_eqS {a b : Str} (h : Q (.bl (decide (a = b))) H) : rEq (.str a) (.str b) H Q := ⟨rfl, by
  have e : decide (V.str a = V.str b) = decide (a = b) := by simp
  rw [e]; exact h⟩
theorem wp_eqB {a b : Bool} (h : Q (.bl (decide (a = b))) H) : rEq (.bl a) (.bl b) H Q := ⟨rfl, by
  have e : decide (V.bl a = V.bl b) = decide (a = b) := by simp
  rw [e]; exact h⟩
theorem wp_neI {a b : Int} (h : Q (.bl (!decide (a = b))) H) : rNe (.int a) (.int b) H Q := ⟨rfl, by
  have e : decide (V.int a = V.int b) = decide (a = b) := by simp
  rw [e]; exact h⟩
theorem wp_neS {a b : Str} (h : Q (.bl (!decide (a = b))) H) : rNe (.str a) (.str b) H Q := ⟨rfl, by
  have e : decide (V.str a = V.str b) = decide (a = b) := by simp
  rw [e]; exact h⟩
theorem wp_addStr {a b : Str} (hl : a.length + b.length ≤ 100000) (h : Q (.str (a ++ b)) H) : rAddStr (.str a) (.str b) H Q := ⟨a, b, rfl, rfl, Nat.le_trans hl (by decide), h⟩
theorem wp_ixL {a : Addr} {k : Int} {xs : List V} (hx : SqL K H a xs) (ha : atI xs k = some v) (h : Q v H) : rIxL K (.ref a) (.int k) H Q := ⟨a, xs, k, v, rfl, rfl, hx, ha, h⟩
theorem wp_ixT {a : Addr} {k : Int} {xs : List V} (hx : SqT K H a xs) (ha : atI xs k = some v) (h : Q v H) : rIxT K (.ref a) (.int k) H Q := ⟨a, xs, k, v, rfl, rfl, hx, ha, h⟩
theorem wp_ixS {z : Str} {k : Int} {c : Nat} (hz : z.length ≤ 100000) (ha : atI z.cps.toList k = some c) (h : Q (.str ⟨#[c]⟩) H) : rIxS (.str z) (.int k) H Q := ⟨z, k, c, rfl, rfl, Nat.le_trans hz (by decide), ha, h⟩
theorem wp_inS {c : Nat} {z : Str} (h : Q (.bl (decide (c ∈ z.cps.toList))) H) : rInS (.str ⟨#[c]⟩) (.str z) H Q := ⟨c, z, rfl, rfl, h⟩
theorem wp_notInS {c : Nat} {z : Str} (h : Q (.bl (!decide (c ∈ z.cps.toList))) H) : rNotInS (.str ⟨#[c]⟩) (.str z) H Q := ⟨c, z, rfl, rfl, h⟩
theorem wp_inL {a : Addr} {x : V} {xs : List V} (hx : SqL K H a xs) (h1 : flatV x = true) (h2 : xs.all flatV = true) (h : Q (.bl (inV x xs)) H) : rIn K false x (.ref a) H Q := ⟨a, xs, rfl, .inl hx, h1, h2, h⟩
theorem wp_notInL {a : Addr} {x : V} {xs : List V} (hx : SqL K H a xs) (h1 : flatV x = true) (h2 : xs.all flatV = true) (h : Q (.bl (!inV x xs)) H) : rIn K true x (.ref a) H Q := ⟨a, xs, rfl, .inl hx, h1, h2, h⟩
theorem wp_int1 {a : Int} (h : Q (.int a) H) : rInt1 [.int a] H Q := .inl ⟨a, rfl, h⟩
theorem wp_strInt {a : Int} (hl : a.natAbs.log2 < 1920) (h : Q (.str (toString a)) H) : rStrInt [.int a] H Q := ⟨a, rfl, hl, h⟩
theorem wp_lenStr {z : Str} (hz : z.length ≤ 100000) (h : Q (.int z.length) H) : rLenStr [.str z] H Q := ⟨z, rfl, Nat.le_trans hz (by decide), h⟩
theorem wp_lenL {a : Addr} {xs : List V} (hx : SqL K H a xs) (h : Q (.int xs.length) H) : rLenS K [.ref a] H Q := ⟨a, xs, rfl, .inl hx, h⟩
theorem wp_lenT {a : Addr} {xs : List V} (hx : SqT K H a xs) (h : Q (.int xs.length) H) : rLenS K [.ref a] H Q := ⟨a, xs, rfl, .inr hx, h⟩
theorem wp_min2 {a b : Int} (h : Q (.int (if b < a then b else a)) H) : rMin2 [.int a, .int b] H Q := ⟨a, b, rfl, h⟩
theorem wp_max2 {a b : Int} (h : Q (.int (if b > a then b else a)) H) : rMax2 [.int a, .int b] H Q := ⟨a, b, rfl, h⟩
theorem wp_find {a b : Str} (h : Q (.int (Txt.find a b)) H) : rFind (.str a) [.str b] H Q := ⟨a, b, rfl, rfl, h⟩
theorem wp_listL {a : Addr} {xs : List V} (hx : SqL K H a xs) (h : ∀ l, H l = none → Q (.ref l) (upd H l (.lst xs))) : rListS K [.ref a] H Q := ⟨a, xs, rfl, .inl hx, h⟩
theorem wp_append {a : Addr} {x : V} {xs : List V} (hx : H a = some (.lst xs)) (hl : xs.length < 100000) (h : Q .non (upd H a (.lst (xs ++ [x])))) : rAppend (.ref a) [x] H Q := ⟨a, xs, x, rfl, rfl, hx, Nat.lt_of_lt_of_le hl (by decide), h⟩
theorem ty_list {a : Addr} {xs : List V} {R : Prop} (hx : SqL K H a xs) (h : R) : tyV K "list" (.ref a) H ∧ R := ⟨.inl ⟨rfl, xs, hx⟩, h⟩
theorem ty_str {z : Str} {R : Prop} (h : R) : tyV K "str" (.str z) H ∧ R := ⟨rfl, h⟩
theorem wp_isi {x : V} {n : String} {tv : Value} {b : Bool} (ty : TyX K H x tv) (e : PySem.W.kitOne K tv (.type n) = some b) (h : Q (.bl b) H) : rIsi K [x, .ty n] H Q := ⟨x, .ty n, tv, .type n, b, rfl, .ty n, ty, e, h⟩
theorem pe_strS {X : Cx} {x : Str} {j : Nat} {pos : Pos} {l : List Nat} (h : x = S l) : PE X (.Constant (.str x) j pos) (tC (.str (S l))) := by
  rw [h]
  exact pe_str
theorem wp_addS {a b : List Nat} (hl : a.length + b.length ≤ 100000) (h : Q (.str (S (a ++ b))) H) : rAddStr (.str (S a)) (.str (S b)) H Q := by
  refine wp_addStr (by rw [S_len, S_len]; exact hl) ?_
  rw [S_cat]
  exact h
theorem wp_ixSM {z : List Nat} {k : Int} (hz : z.length ≤ 100000) (h0 : 0 ≤ k) (h1 : k < z.length) (h : ∀ c, c ∈ z → z[k.toNat]? = some c → Q (.str (S [c])) H) : rIxS (.str (S z)) (.int k) H Q := by
  have hl : k.toNat < z.length := by omega
  have e : k = ((k.toNat : Nat) : Int) := by omega
  have y := atI_nat (List.getElem?_eq_getElem hl)
  rw [← e] at y
  exact wp_ixS (by rw [S_len]; exact hz) y (h _ (List.getElem_mem hl) (List.getElem?_eq_getElem hl))
theorem wp_lenS {z : List Nat} (hz : z.length ≤ 100000) (h : Q (.int z.length) H) : rLenStr [.str (S z)] H Q := by
  refine wp_lenStr (by rw [S_len]; exact hz) ?_
  rw [S_len]
  exact h
theorem wp_strIntS {j : Nat} (hj : j < 1000000) (h : Q (.str (S (dg j))) H) : rStrInt [.int j] H Q := by
  refine wp_strInt ?_ ?_
  · have e : (j : Int).natAbs = j := Int.natAbs_natCast j
    rw [e]
    have : j.log2 ≤ j := Nat.log2_le_self j
    by_cases hz : j = 0
    · subst hz; decide
    · exact Nat.lt_trans ((Nat.log2_lt hz).mpr (show j < 2 ^ 20 by omega)) (by decide)
  · have e : (S (dg j)) = ((toString ((j : Nat) : Int) : String) : Str) := S_tl _
    rw [e] at h
    exact h
theorem inV_sv {a : List Nat} {ns : List (List Nat)} : inV (sv a) (ns.map sv) = decide (a ∈ ns) := by
  unfold inV
  rw [List.any_map, Bool.eq_iff_iff, List.any_eq_true, decide_eq_true_eq]
  constructor
  · rintro ⟨x, hx, e⟩
    have e2 : (S x == S a) = true := e
    rw [SX.S_beq_eq, decide_eq_true_eq] at e2
    rw [← e2]; exact hx
  · intro h
    refine ⟨a, h, ?_⟩
    show (S a == S a) = true
    exact beq_self_eq_true _
theorem flat_sv {ns : List (List Nat)} : (ns.map sv).all flatV = true := by
  rw [List.all_map, List.all_eq_true]
  intro x _
  rfl
theorem wp_inSv {p : Addr} {a : List Nat} {ns : List (List Nat)} (hx : SqL K H p (ns.map sv)) (h : Q (.bl (decide (a ∈ ns))) H) : rIn K false (.str (S a)) (.ref p) H Q := by
  refine wp_inL hx rfl flat_sv ?_
  show Q (.bl (inV (sv a) (ns.map sv))) H
  rw [inV_sv]; exact h
theorem wp_notInSv {p : Addr} {a : List Nat} {ns : List (List Nat)} (hx : SqL K H p (ns.map sv)) (h : Q (.bl (!decide (a ∈ ns))) H) : rIn K true (.str (S a)) (.ref p) H Q := by
  refine wp_notInL hx rfl flat_sv ?_
  show Q (.bl (!inV (sv a) (ns.map sv))) H
  rw [inV_sv]; exact h
theorem wp_minL {a : Addr} {ns : List Int} (hx : SqL K H a (ns.map V.int)) (h0 : 0 < ns.length) (h : ∀ m, m ∈ ns → (∀ y ∈ ns, m ≤ y) → Q (.int m) H) : rMin K [.ref a] H Q := ⟨a, ns, rfl, hx, h0, h⟩
theorem wp_maxL {a : Addr} {ns : List Int} (hx : SqL K H a (ns.map V.int)) (h0 : 0 < ns.length) (h : ∀ m, m ∈ ns → (∀ y ∈ ns, y ≤ m) → Q (.int m) H) : rMax K [.ref a] H Q := ⟨a, ns, rfl, hx, h0, h⟩
theorem wp_allL {a : Addr} {bs : List Bool} (hx : SqL K H a (bs.map V.bl)) (h : Q (.bl (bs.all id)) H) : rAll K [.ref a] H Q := ⟨a, bs, rfl, hx, h⟩
theorem wp_anyL {a : Addr} {bs : List Bool} (hx : SqL K H a (bs.map V.bl)) (h : Q (.bl (bs.any id)) H) : rAny K [.ref a] H Q := ⟨a, bs, rfl, hx, h⟩
theorem wp_isiB {b : Bool} (h : Q (.bl true) H) : rIsi K [.bl b, .ty "bool"] H Q := wp_isi (.base (.bl b)) (by unfold PySem.W.kitOne; rw [if_pos (by decide)]) h
theorem wp_sliceS {z : List Nat} {lo hi : Option Int} (hz : z.length ≤ 100000) (h : Q (.str (S (cutG z lo hi))) H) : rSlS (.str (S z)) lo hi H Q := by
  refine ⟨S z, rfl, szl (by rw [S_len]; exact hz), ?_⟩
  have e : cutS (S z) lo hi = S (cutG z lo hi) := by
    unfold cutS cutG
    rw [S_len]
  rw [e]
  exact h
/- statements -/
theorem wp_seq (h : s1 { D with nx := s2 D } σ H) : tSeq s1 s2 D σ H := h
theorem wp_next (h : D.nx σ H) : tNext D σ H := h
theorem wp_brk (h : D.bk σ H) : tBreak D σ H := h
theorem wp_cont (h : D.ct σ H) : tCont D σ H := h
theorem wp_ret (h : ta σ H D.rt) : tRet ta D σ H := h
theorem wp_drop (h : ta σ H fun _ H1 => D.nx σ H1) : tDrop ta D σ H := h
theorem wp_asg {g : TG} (h : ta σ H fun x H1 => g x σ H1 D.nx) : tAsg ta g D σ H := h
theorem wp_gname {QS : L2.St → Hp → Prop} (h : QS (σ.set i (some v)) H) : gName i v σ H QS := h
theorem wp_gsub {ts : TSet} {QS : L2.St → Hp → Prop} (h : ta σ H fun o H1 => tb σ H1 fun k H2 => ts o k v H2 fun H3 => QS σ H3) : gSub ta tb ts v σ H QS := h
theorem wp_setL {QH : Hp → Prop} {a : Addr} {k : Int} {j : Nat} {xs : List V} (hx : H a = some (.lst xs)) (hj : ixN xs.length k = some j) (h : QH (upd H a (.lst (xs.set j v)))) : rSetL (.ref a) (.int k) v H QH := ⟨a, xs, k, j, rfl, rfl, hx, hj, h⟩
theorem wp_setL0 {QH : Hp → Prop} {a : Addr} {x : V} {xs : List V} (hx : H a = some (.lst (x :: xs))) (h : QH (upd H a (.lst (v :: xs)))) : rSetL (.ref a) (.int 0) v H QH :=
  ⟨a, x :: xs, 0, 0, rfl, rfl, hx, by unfold ixN; simp only [List.length_cons]; rw [if_pos (by omega), if_pos (by omega)]; rfl, h⟩
theorem wp_setL1 {QH : Hp → Prop} {a : Addr} {x y : V} {xs : List V} (hx : H a = some (.lst (x :: y :: xs))) (h : QH (upd H a (.lst (x :: v :: xs)))) : rSetL (.ref a) (.int 1) v H QH :=
  ⟨a, x :: y :: xs, 1, 1, rfl, rfl, hx, by unfold ixN; simp only [List.length_cons]; rw [if_pos (by omega), if_pos (by omega)]; rfl, h⟩
theorem is_isi {xs : List V} (h : rIsi K xs H Q) : rIsi K xs H Q := h
theorem is_var (h : tVar i σ H Q) : tVar i σ H Q := h
theorem is_gname {QS : L2.St → Hp → Prop} (h : gName i v σ H QS) : gName i v σ H QS := h
theorem wp_ixLM {a : Addr} {k : Int} {xs : List V} (hx : SqL K H a xs) (h0 : 0 ≤ k) (h1 : k < xs.length) (h : ∀ v, v ∈ xs → xs[k.toNat]? = some v → Q v H) : rIxL K (.ref a) (.int k) H Q := by
  have hl : k.toNat < xs.length := by omega
  have e : k = ((k.toNat : Nat) : Int) := by omega
  have z := atI_nat (List.getElem?_eq_getElem hl)
  rw [← e] at z
  exact wp_ixL hx z (h _ (List.getElem_mem hl) (List.getElem?_eq_getElem hl))
theorem wp_ixLI {a : Addr} {k : Int} {cs : List Int} (hx : SqL K H a (cs.map V.int)) (h0 : 0 ≤ k) (h1 : k < (cs.map V.int).length) (h : ∀ c, c ∈ cs → Q (.int c) H) : rIxL K (.ref a) (.int k) H Q :=
  wp_ixLM hx h0 h1 fun v hv _ => by
    obtain ⟨c, hc, rfl⟩ := List.mem_map.mp hv
    exact h c hc
theorem wp_cut {s1 s2 : TS} (Mid : L2.St → Hp → Prop) (h1 : s1 { D with nx := Mid } σ H) (h2 : ∀ σ' H', Mid σ' H' → s2 D σ' H') : C8.tCut s1 s2 D σ H := ⟨Mid, h1, h2⟩
theorem wp_ifS (h : t σ H fun b H1 => if b = true then s1 D σ H1 else s2 D σ H1) : tIfS t s1 s2 D σ H := h
/- loops -/
def ForW (J : It) (g : TG) (tb : TS) (D : Ends) (σ : L2.St) (H : Hp) : Prop := tFor (fun _ H1 R => R J H1) g tb D σ H
theorem wp_for1 {g : TG} {tb : TS} (h : tl σ H fun vs H1 => ∃ j : Int, vs = [.int j] ∧ -(2 ^ 62) ≤ j ∧ j < 2 ^ 62 ∧ ForW (Itr 0 j.toNat) g tb D σ H1) : tFor (iRng1 tl) g tb D σ H := h
theorem wp_for2 {g : TG} {tb : TS} (h : tl σ H fun vs H1 => ∃ i j : Int, vs = [.int i, .int j] ∧ (-(2 ^ 62) ≤ i ∧ i < 2 ^ 62 ∧ -(2 ^ 62) ≤ j ∧ j < 2 ^ 62) ∧ ForW (Itr i (j - i).toNat) g tb D σ H1) : tFor (iRng2 tl) g tb D σ H := h
theorem wp_forL {g : TG} {tb : TS} (h : ta σ H fun x H1 => ∃ a, x = .ref a ∧ (∃ xs, SqL K H1 a xs) ∧ ForW (Itl K a) g tb D σ H1) : tFor (iList K ta) g tb D σ H := h
theorem wp_forT {g : TG} {tb : TS} (h : ta σ H fun x H1 => ∃ a, x = .ref a ∧ (∃ xs, SqT K H1 a xs) ∧ ForW (Itt K a) g tb D σ H1) : tFor (iTup K ta) g tb D σ H := h
theorem wp_forS {g : TG} {tb : TS} (h : ta σ H fun v H1 => ∃ x, v = .str x ∧ ForW (Its x) g tb D σ H1) : tFor (iStr ta) g tb D σ H := h
theorem loop1 {g : TG} {tb : TS} {n : Int} (b : -4611686018427387904 ≤ n ∧ n < 4611686018427387904) (Pv : Nat → L2.St → Hp → Prop) (h0 : Pv 0 σ H)
    (hs : ∀ (i : Nat) σ' H', (i : Int) < n → Pv i σ' H' → g (.int ((i : Nat) : Int)) σ' H' fun σ2 H2 => tb { D with nx := Pv (i + 1), ct := Pv (i + 1), bk := D.nx } σ2 H2) (hd : ∀ σ' H', Pv n.toNat σ' H' → D.nx σ' H') :
    ∃ j : Int, [V.int n] = [V.int j] ∧ -(2 ^ 62) ≤ j ∧ j < 2 ^ 62 ∧ ForW (Itr 0 j.toNat) g tb D σ H := by
  refine ⟨n, rfl, by omega, by omega, for_range Pv h0 (fun i σ' H' hi p => ?_) hd⟩
  have e0 : (0 : Int) + (i : Int) = (i : Int) := Int.zero_add _
  rw [e0]
  exact hs i σ' H' (by omega) p
theorem loop2 {g : TG} {tb : TS} {lo n : Int} (b : -4611686018427387904 ≤ lo ∧ lo < 4611686018427387904 ∧ -4611686018427387904 ≤ n ∧ n < 4611686018427387904) (Pv : Nat → L2.St → Hp → Prop) (h0 : Pv 0 σ H)
    (hs : ∀ (i : Nat) σ' H', lo + (i : Int) < n → Pv i σ' H' → g (.int (lo + ((i : Nat) : Int))) σ' H' fun σ2 H2 => tb { D with nx := Pv (i + 1), ct := Pv (i + 1), bk := D.nx } σ2 H2) (hd : ∀ σ' H', Pv (n - lo).toNat σ' H' → D.nx σ' H') :
    ∃ i j : Int, [V.int lo, V.int n] = [V.int i, V.int j] ∧ (-(2 ^ 62) ≤ i ∧ i < 2 ^ 62 ∧ -(2 ^ 62) ≤ j ∧ j < 2 ^ 62) ∧ ForW (Itr i (j - i).toNat) g tb D σ H :=
  ⟨lo, n, rfl, ⟨by omega, by omega, by omega, by omega⟩, for_range Pv h0 (fun i σ' H' hi p => hs i σ' H' (by omega) p) hd⟩
theorem loopL {g : TG} {tb : TS} {a : Addr} {xs : List V} (hx : SqL K H a xs) (Pv : Nat → L2.St → Hp → Prop) (h0 : Pv 0 σ H) (hl : ∀ i σ' H', i ≤ xs.length → Pv i σ' H' → SqL K H' a xs)
    (hs : ∀ i x σ' H', xs[i]? = some x → Pv i σ' H' → g x σ' H' fun σ2 H2 => tb { D with nx := Pv (i + 1), ct := Pv (i + 1), bk := D.nx } σ2 H2) (hd : ∀ σ' H', Pv xs.length σ' H' → D.nx σ' H') :
    ∃ b, V.ref a = .ref b ∧ (∃ xs, SqL K H b xs) ∧ ForW (Itl K b) g tb D σ H := ⟨a, rfl, ⟨xs, hx⟩, for_list Pv h0 hl hs hd⟩
theorem loopT {g : TG} {tb : TS} {a : Addr} {xs : List V} (hx : SqT K H a xs) (Pv : Nat → L2.St → Hp → Prop) (h0 : Pv 0 σ H) (hl : ∀ i σ' H', i ≤ xs.length → Pv i σ' H' → SqT K H' a xs)
    (hs : ∀ i x σ' H', xs[i]? = some x → Pv i σ' H' → g x σ' H' fun σ2 H2 => tb { D with nx := Pv (i + 1), ct := Pv (i + 1), bk := D.nx } σ2 H2) (hd : ∀ σ' H', Pv xs.length σ' H' → D.nx σ' H') :
    ∃ b, V.ref a = .ref b ∧ (∃ xs, SqT K H b xs) ∧ ForW (Itt K b) g tb D σ H := ⟨a, rfl, ⟨xs, hx⟩, for_tup Pv h0 hl hs hd⟩
theorem loopS {g : TG} {tb : TS} {l : List Nat} (Pv : Nat → L2.St → Hp → Prop) (h0 : Pv 0 σ H)
    (hs : ∀ i c σ' H', l[i]? = some c → Pv i σ' H' → g (.str (S [c])) σ' H' fun σ2 H2 => tb { D with nx := Pv (i + 1), ct := Pv (i + 1), bk := D.nx } σ2 H2) (hd : ∀ σ' H', Pv l.length σ' H' → D.nx σ' H') :
    ∃ x, V.str (S l) = .str x ∧ ForW (Its x) g tb D σ H := by
  refine ⟨S l, rfl, for_it (walk_str (z := S l)) Pv h0 (fun _ _ _ _ _ => trivial) (fun i x σ' H1 H2 hi p y => ?_) (fun σ' H' p => ?_)⟩
  · obtain ⟨rfl, c, hc, rfl⟩ := y
    exact hs i c σ' H2 (by simpa using hc) p
  · exact hd σ' H' (by simpa using p)
/- comprehensions: each item's value, nothing else changed -/
def LcW (J : It) (g : TG) (tt : TT) (te : TE) (vs : List Nat) (σ : L2.St) (H1 : Hp) (Q : VK) : Prop := tLc (fun _ H R => R J H) g tt te vs σ H1 Q
theorem wp_lcL {g : TG} {tt : TT} {te : TE} {vs : List Nat} (h : ta σ H fun x H1 => ∃ a, x = .ref a ∧ (∃ xs, SqL K H1 a xs) ∧ LcW (Itl K a) g tt te vs σ H1 Q) : tLc (iList K ta) g tt te vs σ H Q := h
theorem wp_lcT {g : TG} {tt : TT} {te : TE} {vs : List Nat} (h : ta σ H fun x H1 => ∃ a, x = .ref a ∧ (∃ xs, SqT K H1 a xs) ∧ LcW (Itt K a) g tt te vs σ H1 Q) : tLc (iTup K ta) g tt te vs σ H Q := h
theorem wp_lcS {g : TG} {tt : TT} {te : TE} {vs : List Nat} (h : ta σ H fun v H1 => ∃ x, v = .str x ∧ LcW (Its x) g tt te vs σ H1 Q) : tLc (iStr ta) g tt te vs σ H Q := h
theorem wp_lc1 {g : TG} {tt : TT} {te : TE} {vs : List Nat} (h : tl σ H fun us H1 => ∃ j : Int, us = [.int j] ∧ -(2 ^ 62) ≤ j ∧ j < 2 ^ 62 ∧ LcW (Itr 0 j.toNat) g tt te vs σ H1 Q) : tLc (iRng1 tl) g tt te vs σ H Q := h
/-- a walk by items, an element that changes nothing: the list of their values -/
theorem lcMap {J : It} {n : Nat} {it : Nat → V} {Gd : Hp → Prop} (w : Walk J n Gd (fun i H x H' => H' = H ∧ x = it i)) (hn : n ≤ 100000) {g : TG} {te : TE} {vs : List Nat} (hG : ∀ H', Same H H' → Gd H') (f : Nat → V)
    (he : ∀ i H2, i < n → Same H H2 → ∀ R : VK, (∀ H3, Same H2 H3 → R (f i) H3) → g (it i) (wipe σ vs) H2 fun σ2 H3 => wipe σ2 vs = wipe σ vs ∧ te σ2 H3 R)
    (hq : ∀ D H2, H D = none → Same H H2 → H2 D = some (.lst ((List.range n).map f)) → Q (.ref D) H2) : LcW J g tYes te vs σ H Q := by
  intro D hD
  refine lc_it w (fun i H2 => Same H H2 ∧ H2 D = some (.lst ((List.range i).map f))) ⟨Same.new hD, upd_same⟩ (fun i H2 _ p => hG H2 p.1) (fun i x H2 H3 hi p y => ?_) (fun H2 p => hq D H2 hD p.1 p.2)
  obtain ⟨rfl, rfl⟩ := y
  have z := he i H3 hi p.1 (fun y H4 => ∃ acc, H4 D = some (.lst acc) ∧ acc.length < sizeLine ∧ (Same H (upd H4 D (.lst (acc ++ [y]))) ∧ upd H4 D (.lst (acc ++ [y])) D = some (.lst ((List.range (i + 1)).map f)))) (fun H4 s4 => ?_)
  · exact z
  · refine ⟨_, s4 _ _ p.2, ?_, Same.mut (p.1.trans s4) hD, ?_⟩
    · rw [List.length_map, List.length_range]
      exact szlt (by omega)
    · rw [List.range_succ, List.map_append]
      exact upd_same
theorem lcMapL {a : Addr} {xs : List V} {j : Nat} {te : TE} (hx : SqL K H a xs) (hn : xs.length ≤ 100000) (σx : V → L2.St) (hw : ∀ x, (wipe σ [j]).set j (some x) = σx x ∧ wipe (σx x) [j] = wipe σ [j]) (f : V → V)
    (he : ∀ x H2, x ∈ xs → Same H H2 → ∀ R : VK, (∀ H3, Same H2 H3 → R (f x) H3) → te (σx x) H2 R)
    (hq : ∀ D H2, H D = none → Same H H2 → H2 D = some (.lst (xs.map f)) → Q (.ref D) H2) : ∃ b, V.ref a = .ref b ∧ (∃ ys, SqL K H b ys) ∧ LcW (Itl K b) (gName j) tYes te [j] σ H Q := by
  refine ⟨a, rfl, ⟨xs, hx⟩, ?_⟩
  intro D hD
  refine lc_list (xs := xs) (fun i H2 => Same H H2 ∧ H2 D = some (.lst ((xs.take i).map f))) ⟨Same.new hD, upd_same⟩ (fun i H2 _ p => Same.seq p.1 hx) (fun i x H3 hi p => ?_) (fun H2 p => hq D H2 hD p.1 (by have q := p.2; rw [List.take_length] at q; exact q))
  obtain ⟨hl, ex⟩ := List.getElem?_eq_some_iff.mp hi
  show wipe ((wipe σ [j]).set j (some x)) [j] = wipe σ [j] ∧ te ((wipe σ [j]).set j (some x)) H3 fun y H4 => ∃ acc, H4 D = some (.lst acc) ∧ acc.length < sizeLine ∧ (Same H (upd H4 D (.lst (acc ++ [y]))) ∧ upd H4 D (.lst (acc ++ [y])) D = some (.lst ((xs.take (i + 1)).map f)))
  rw [(hw x).1]
  refine ⟨(hw x).2, he x H3 (ex ▸ List.getElem_mem hl) p.1 _ fun H4 s4 => ⟨_, s4 _ _ p.2, ?_, Same.mut (p.1.trans s4) hD, ?_⟩⟩
  · rw [List.length_map, List.length_take]
    exact szlt (by omega)
  · rw [← List.take_append_getElem hl, List.map_append, ex]
    exact upd_same
theorem lcMapS {l : List Nat} {j : Nat} {te : TE} (hn : l.length ≤ 100000) (σx : V → L2.St) (hw : ∀ x, (wipe σ [j]).set j (some x) = σx x ∧ wipe (σx x) [j] = wipe σ [j]) (f : Nat → V)
    (he : ∀ c H2, c ∈ l → Same H H2 → ∀ R : VK, (∀ H3, Same H2 H3 → R (f c) H3) → te (σx (.str (S [c]))) H2 R)
    (hq : ∀ D H2, H D = none → Same H H2 → H2 D = some (.lst (l.map f)) → Q (.ref D) H2) : ∃ x, V.str (S l) = .str x ∧ LcW (Its x) (gName j) tYes te [j] σ H Q := by
  refine ⟨S l, rfl, ?_⟩
  intro D hD
  have e0 : (S l).cps.size = l.length := by simp
  refine lc_it (walk_str (z := S l)) (fun i H2 => Same H H2 ∧ H2 D = some (.lst ((l.take i).map f))) ⟨Same.new hD, upd_same⟩ (fun _ _ _ _ => trivial) (fun i x H2 H3 hi p y => ?_) (fun H2 p => hq D H2 hD p.1 (by have q := p.2; rw [e0, List.take_length] at q; exact q))
  obtain ⟨rfl, c, hc, rfl⟩ := y
  have hc : l[i]? = some c := by simpa using hc
  obtain ⟨hl, ex⟩ := List.getElem?_eq_some_iff.mp hc
  show wipe ((wipe σ [j]).set j (some (V.str (S [c])))) [j] = wipe σ [j] ∧ te ((wipe σ [j]).set j (some (V.str (S [c])))) H3 fun y H4 => ∃ acc, H4 D = some (.lst acc) ∧ acc.length < sizeLine ∧ (Same H (upd H4 D (.lst (acc ++ [y]))) ∧ upd H4 D (.lst (acc ++ [y])) D = some (.lst ((l.take (i + 1)).map f)))
  rw [(hw _).1]
  refine ⟨(hw _).2, he c H3 (ex ▸ List.getElem_mem hl) p.1 _ fun H4 s4 => ⟨_, s4 _ _ p.2, ?_, Same.mut (p.1.trans s4) hD, ?_⟩⟩
  · rw [List.length_map, List.length_take]
    exact szlt (by omega)
  · rw [← List.take_append_getElem hl, List.map_append, ex]
    exact upd_same
/- ways -/
theorem ite_dec {c A B : Prop} {dc : Decidable c} (h1 : c → A) (h2 : ¬ c → B) : if decide c = true then A else B := by
  by_cases h : c
  · rw [decide_eq_true h]; exact h1 h
  · rw [decide_eq_false h]; exact h2 h
theorem ite_ndec {c A B : Prop} {dc : Decidable c} (h1 : ¬ c → A) (h2 : c → B) : if (!decide c) = true then A else B := by
  by_cases h : c
  · rw [decide_eq_true h]; exact h2 h
  · rw [decide_eq_false h]; exact h1 h
theorem ite_T {c A B : Prop} {dc : Decidable c} (hc : c) (h : A) : if decide c = true then A else B := by
  rw [decide_eq_true hc]; exact h
theorem ite_F {c A B : Prop} {dc : Decidable c} (hc : ¬ c) (h : B) : if decide c = true then A else B := by
  rw [decide_eq_false hc]; exact h
theorem ite_nT {c A B : Prop} {dc : Decidable c} (hc : ¬ c) (h : A) : if (!decide c) = true then A else B := by
  rw [decide_eq_false hc]; exact h
theorem ite_nF {c A B : Prop} {dc : Decidable c} (hc : c) (h : B) : if (!decide c) = true then A else B := by
  rw [decide_eq_true hc]; exact h
theorem ite_t {A B : Prop} (h : A) : if true = true then A else B := by rw [if_pos rfl]; exact h
theorem ite_f {A B : Prop} (h : B) : if false = true then A else B := by rw [if_neg Bool.false_ne_true]; exact h
theorem ite_nt {A B : Prop} (h : B) : if (!true) = true then A else B := by rw [if_neg (by decide)]; exact h
theorem ite_nff {A B : Prop} (h : A) : if (!false) = true then A else B := by rw [if_pos (by decide)]; exact h
theorem ite_b {b : Bool} {A B : Prop} (h1 : b = true → A) (h2 : b = false → B) : if b = true then A else B := by
  cases b
  · exact h2 rfl
  · exact h1 rfl
theorem ite_nb {b : Bool} {A B : Prop} (h1 : b = false → A) (h2 : b = true → B) : if (!b) = true then A else B := by
  cases b
  · exact h1 rfl
  · exact h2 rfl
end
/- slots -/
section
variable {v : V} {H : Hp} {QS : L2.St → Hp → Prop} {r : L2.St}
theorem wp_g0 {a0 : Option V} (h : QS (some v :: r) H) : gName 0 v (a0 :: r) H QS := h
theorem wp_g1 {a0 a1 : Option V} (h : QS (a0 :: some v :: r) H) : gName 1 v (a0 :: a1 :: r) H QS := h
theorem wp_g2 {a0 a1 a2 : Option V} (h : QS (a0 :: a1 :: some v :: r) H) : gName 2 v (a0 :: a1 :: a2 :: r) H QS := h
theorem wp_g3 {a0 a1 a2 a3 : Option V} (h : QS (a0 :: a1 :: a2 :: some v :: r) H) : gName 3 v (a0 :: a1 :: a2 :: a3 :: r) H QS := h
theorem wp_g4 {a0 a1 a2 a3 a4 : Option V} (h : QS (a0 :: a1 :: a2 :: a3 :: some v :: r) H) : gName 4 v (a0 :: a1 :: a2 :: a3 :: a4 :: r) H QS := h
theorem wp_g5 {a0 a1 a2 a3 a4 a5 : Option V} (h : QS (a0 :: a1 :: a2 :: a3 :: a4 :: some v :: r) H) : gName 5 v (a0 :: a1 :: a2 :: a3 :: a4 :: a5 :: r) H QS := h
theorem wp_g6 {a0 a1 a2 a3 a4 a5 a6 : Option V} (h : QS (a0 :: a1 :: a2 :: a3 :: a4 :: a5 :: some v :: r) H) : gName 6 v (a0 :: a1 :: a2 :: a3 :: a4 :: a5 :: a6 :: r) H QS := h
theorem wp_g7 {a0 a1 a2 a3 a4 a5 a6 a7 : Option V} (h : QS (a0 :: a1 :: a2 :: a3 :: a4 :: a5 :: a6 :: some v :: r) H) : gName 7 v (a0 :: a1 :: a2 :: a3 :: a4 :: a5 :: a6 :: a7 :: r) H QS := h
theorem wp_g8 {a0 a1 a2 a3 a4 a5 a6 a7 a8 : Option V} (h : QS (a0 :: a1 :: a2 :: a3 :: a4 :: a5 :: a6 :: a7 :: some v :: r) H) : gName 8 v (a0 :: a1 :: a2 :: a3 :: a4 :: a5 :: a6 :: a7 :: a8 :: r) H QS := h
theorem wp_g9 {a0 a1 a2 a3 a4 a5 a6 a7 a8 a9 : Option V} (h : QS (a0 :: a1 :: a2 :: a3 :: a4 :: a5 :: a6 :: a7 :: a8 :: some v :: r) H) : gName 9 v (a0 :: a1 :: a2 :: a3 :: a4 :: a5 :: a6 :: a7 :: a8 :: a9 :: r) H QS := h
theorem wp_g10 {a0 a1 a2 a3 a4 a5 a6 a7 a8 a9 a10 : Option V} (h : QS (a0 :: a1 :: a2 :: a3 :: a4 :: a5 :: a6 :: a7 :: a8 :: a9 :: some v :: r) H) : gName 10 v (a0 :: a1 :: a2 :: a3 :: a4 :: a5 :: a6 :: a7 :: a8 :: a9 :: a10 :: r) H QS := h
theorem wp_g11 {a0 a1 a2 a3 a4 a5 a6 a7 a8 a9 a10 a11 : Option V} (h : QS (a0 :: a1 :: a2 :: a3 :: a4 :: a5 :: a6 :: a7 :: a8 :: a9 :: a10 :: some v :: r) H) : gName 11 v (a0 :: a1 :: a2 :: a3 :: a4 :: a5 :: a6 :: a7 :: a8 :: a9 :: a10 :: a11 :: r) H QS := h
theorem wp_g12 {a0 a1 a2 a3 a4 a5 a6 a7 a8 a9 a10 a11 a12 : Option V} (h : QS (a0 :: a1 :: a2 :: a3 :: a4 :: a5 :: a6 :: a7 :: a8 :: a9 :: a10 :: a11 :: some v :: r) H) : gName 12 v (a0 :: a1 :: a2 :: a3 :: a4 :: a5 :: a6 :: a7 :: a8 :: a9 :: a10 :: a11 :: a12 :: r) H QS := h
theorem wp_g13 {a0 a1 a2 a3 a4 a5 a6 a7 a8 a9 a10 a11 a12 a13 : Option V} (h : QS (a0 :: a1 :: a2 :: a3 :: a4 :: a5 :: a6 :: a7 :: a8 :: a9 :: a10 :: a11 :: a12 :: some v :: r) H) : gName 13 v (a0 :: a1 :: a2 :: a3 :: a4 :: a5 :: a6 :: a7 :: a8 :: a9 :: a10 :: a11 :: a12 :: a13 :: r) H QS := h
theorem wp_g14 {a0 a1 a2 a3 a4 a5 a6 a7 a8 a9 a10 a11 a12 a13 a14 : Option V} (h : QS (a0 :: a1 :: a2 :: a3 :: a4 :: a5 :: a6 :: a7 :: a8 :: a9 :: a10 :: a11 :: a12 :: a13 :: some v :: r) H) : gName 14 v (a0 :: a1 :: a2 :: a3 :: a4 :: a5 :: a6 :: a7 :: a8 :: a9 :: a10 :: a11 :: a12 :: a13 :: a14 :: r) H QS := h
theorem wp_g15 {a0 a1 a2 a3 a4 a5 a6 a7 a8 a9 a10 a11 a12 a13 a14 a15 : Option V} (h : QS (a0 :: a1 :: a2 :: a3 :: a4 :: a5 :: a6 :: a7 :: a8 :: a9 :: a10 :: a11 :: a12 :: a13 :: a14 :: some v :: r) H) : gName 15 v (a0 :: a1 :: a2 :: a3 :: a4 :: a5 :: a6 :: a7 :: a8 :: a9 :: a10 :: a11 :: a12 :: a13 :: a14 :: a15 :: r) H QS := h
theorem wp_g16 {a0 a1 a2 a3 a4 a5 a6 a7 a8 a9 a10 a11 a12 a13 a14 a15 a16 : Option V} (h : QS (a0 :: a1 :: a2 :: a3 :: a4 :: a5 :: a6 :: a7 :: a8 :: a9 :: a10 :: a11 :: a12 :: a13 :: a14 :: a15 :: some v :: r) H) : gName 16 v (a0 :: a1 :: a2 :: a3 :: a4 :: a5 :: a6 :: a7 :: a8 :: a9 :: a10 :: a11 :: a12 :: a13 :: a14 :: a15 :: a16 :: r) H QS := h
theorem wp_g17 {a0 a1 a2 a3 a4 a5 a6 a7 a8 a9 a10 a11 a12 a13 a14 a15 a16 a17 : Option V} (h : QS (a0 :: a1 :: a2 :: a3 :: a4 :: a5 :: a6 :: a7 :: a8 :: a9 :: a10 :: a11 :: a12 :: a13 :: a14 :: a15 :: a16 :: some v :: r) H) : gName 17 v (a0 :: a1 :: a2 :: a3 :: a4 :: a5 :: a6 :: a7 :: a8 :: a9 :: a10 :: a11 :: a12 :: a13 :: a14 :: a15 :: a16 :: a17 :: r) H QS := h
theorem wp_g18 {a0 a1 a2 a3 a4 a5 a6 a7 a8 a9 a10 a11 a12 a13 a14 a15 a16 a17 a18 : Option V} (h : QS (a0 :: a1 :: a2 :: a3 :: a4 :: a5 :: a6 :: a7 :: a8 :: a9 :: a10 :: a11 :: a12 :: a13 :: a14 :: a15 :: a16 :: a17 :: some v :: r) H) : gName 18 v (a0 :: a1 :: a2 :: a3 :: a4 :: a5 :: a6 :: a7 :: a8 :: a9 :: a10 :: a11 :: a12 :: a13 :: a14 :: a15 :: a16 :: a17 :: a18 :: r) H QS := h
theorem wp_g19 {a0 a1 a2 a3 a4 a5 a6 a7 a8 a9 a10 a11 a12 a13 a14 a15 a16 a17 a18 a19 : Option V} (h : QS (a0 :: a1 :: a2 :: a3 :: a4 :: a5 :: a6 :: a7 :: a8 :: a9 :: a10 :: a11 :: a12 :: a13 :: a14 :: a15 :: a16 :: a17 :: a18 :: some v :: r) H) : gName 19 v (a0 :: a1 :: a2 :: a3 :: a4 :: a5 :: a6 :: a7 :: a8 :: a9 :: a10 :: a11 :: a12 :: a13 :: a14 :: a15 :: a16 :: a17 :: a18 :: a19 :: r) H QS := h
theorem wp_g20 {a0 a1 a2 a3 a4 a5 a6 a7 a8 a9 a10 a11 a12 a13 a14 a15 a16 a17 a18 a19 a20 : Option V} (h : QS (a0 :: a1 :: a2 :: a3 :: a4 :: a5 :: a6 :: a7 :: a8 :: a9 :: a10 :: a11 :: a12 :: a13 :: a14 :: a15 :: a16 :: a17 :: a18 :: a19 :: some v :: r) H) : gName 20 v (a0 :: a1 :: a2 :: a3 :: a4 :: a5 :: a6 :: a7 :: a8 :: a9 :: a10 :: a11 :: a12 :: a13 :: a14 :: a15 :: a16 :: a17 :: a18 :: a19 :: a20 :: r) H QS := h
theorem wp_g21 {a0 a1 a2 a3 a4 a5 a6 a7 a8 a9 a10 a11 a12 a13 a14 a15 a16 a17 a18 a19 a20 a21 : Option V} (h : QS (a0 :: a1 :: a2 :: a3 :: a4 :: a5 :: a6 :: a7 :: a8 :: a9 :: a10 :: a11 :: a12 :: a13 :: a14 :: a15 :: a16 :: a17 :: a18 :: a19 :: a20 :: some v :: r) H) : gName 21 v (a0 :: a1 :: a2 :: a3 :: a4 :: a5 :: a6 :: a7 :: a8 :: a9 :: a10 :: a11 :: a12 :: a13 :: a14 :: a15 :: a16 :: a17 :: a18 :: a19 :: a20 :: a21 :: r) H QS := h
theorem wp_g22 {a0 a1 a2 a3 a4 a5 a6 a7 a8 a9 a10 a11 a12 a13 a14 a15 a16 a17 a18 a19 a20 a21 a22 : Option V} (h : QS (a0 :: a1 :: a2 :: a3 :: a4 :: a5 :: a6 :: a7 :: a8 :: a9 :: a10 :: a11 :: a12 :: a13 :: a14 :: a15 :: a16 :: a17 :: a18 :: a19 :: a20 :: a21 :: some v :: r) H) : gName 22 v (a0 :: a1 :: a2 :: a3 :: a4 :: a5 :: a6 :: a7 :: a8 :: a9 :: a10 :: a11 :: a12 :: a13 :: a14 :: a15 :: a16 :: a17 :: a18 :: a19 :: a20 :: a21 :: a22 :: r) H QS := h
theorem wp_g23 {a0 a1 a2 a3 a4 a5 a6 a7 a8 a9 a10 a11 a12 a13 a14 a15 a16 a17 a18 a19 a20 a21 a22 a23 : Option V} (h : QS (a0 :: a1 :: a2 :: a3 :: a4 :: a5 :: a6 :: a7 :: a8 :: a9 :: a10 :: a11 :: a12 :: a13 :: a14 :: a15 :: a16 :: a17 :: a18 :: a19 :: a20 :: a21 :: a22 :: some v :: r) H) : gName 23 v (a0 :: a1 :: a2 :: a3 :: a4 :: a5 :: a6 :: a7 :: a8 :: a9 :: a10 :: a11 :: a12 :: a13 :: a14 :: a15 :: a16 :: a17 :: a18 :: a19 :: a20 :: a21 :: a22 :: a23 :: r) H QS := h
theorem wp_g24 {a0 a1 a2 a3 a4 a5 a6 a7 a8 a9 a10 a11 a12 a13 a14 a15 a16 a17 a18 a19 a20 a21 a22 a23 a24 : Option V} (h : QS (a0 :: a1 :: a2 :: a3 :: a4 :: a5 :: a6 :: a7 :: a8 :: a9 :: a10 :: a11 :: a12 :: a13 :: a14 :: a15 :: a16 :: a17 :: a18 :: a19 :: a20 :: a21 :: a22 :: a23 :: some v :: r) H) : gName 24 v (a0 :: a1 :: a2 :: a3 :: a4 :: a5 :: a6 :: a7 :: a8 :: a9 :: a10 :: a11 :: a12 :: a13 :: a14 :: a15 :: a16 :: a17 :: a18 :: a19 :: a20 :: a21 :: a22 :: a23 :: a24 :: r) H QS := h
theorem wp_g25 {a0 a1 a2 a3 a4 a5 a6 a7 a8 a9 a10 a11 a12 a13 a14 a15 a16 a17 a18 a19 a20 a21 a22 a23 a24 a25 : Option V} (h : QS (a0 :: a1 :: a2 :: a3 :: a4 :: a5 :: a6 :: a7 :: a8 :: a9 :: a10 :: a11 :: a12 :: a13 :: a14 :: a15 :: a16 :: a17 :: a18 :: a19 :: a20 :: a21 :: a22 :: a23 :: a24 :: some v :: r) H) : gName 25 v (a0 :: a1 :: a2 :: a3 :: a4 :: a5 :: a6 :: a7 :: a8 :: a9 :: a10 :: a11 :: a12 :: a13 :: a14 :: a15 :: a16 :: a17 :: a18 :: a19 :: a20 :: a21 :: a22 :: a23 :: a24 :: a25 :: r) H QS := h
end
section
variable {v : V} {H : Hp} {Q : VK} {r : L2.St}
theorem wp_v0 (q : Q v H) : tVar 0 (some v :: r) H Q := ⟨v, rfl, q⟩
theorem wp_v1 {a0 : Option V} (q : Q v H) : tVar 1 (a0 :: some v :: r) H Q := ⟨v, rfl, q⟩
theorem wp_v2 {a0 a1 : Option V} (q : Q v H) : tVar 2 (a0 :: a1 :: some v :: r) H Q := ⟨v, rfl, q⟩
theorem wp_v3 {a0 a1 a2 : Option V} (q : Q v H) : tVar 3 (a0 :: a1 :: a2 :: some v :: r) H Q := ⟨v, rfl, q⟩
theorem wp_v4 {a0 a1 a2 a3 : Option V} (q : Q v H) : tVar 4 (a0 :: a1 :: a2 :: a3 :: some v :: r) H Q := ⟨v, rfl, q⟩
theorem wp_v5 {a0 a1 a2 a3 a4 : Option V} (q : Q v H) : tVar 5 (a0 :: a1 :: a2 :: a3 :: a4 :: some v :: r) H Q := ⟨v, rfl, q⟩
theorem wp_v6 {a0 a1 a2 a3 a4 a5 : Option V} (q : Q v H) : tVar 6 (a0 :: a1 :: a2 :: a3 :: a4 :: a5 :: some v :: r) H Q := ⟨v, rfl, q⟩
theorem wp_v7 {a0 a1 a2 a3 a4 a5 a6 : Option V} (q : Q v H) : tVar 7 (a0 :: a1 :: a2 :: a3 :: a4 :: a5 :: a6 :: some v :: r) H Q := ⟨v, rfl, q⟩
theorem wp_v8 {a0 a1 a2 a3 a4 a5 a6 a7 : Option V} (q : Q v H) : tVar 8 (a0 :: a1 :: a2 :: a3 :: a4 :: a5 :: a6 :: a7 :: some v :: r) H Q := ⟨v, rfl, q⟩
theorem wp_v9 {a0 a1 a2 a3 a4 a5 a6 a7 a8 : Option V} (q : Q v H) : tVar 9 (a0 :: a1 :: a2 :: a3 :: a4 :: a5 :: a6 :: a7 :: a8 :: some v :: r) H Q := ⟨v, rfl, q⟩
theorem wp_v10 {a0 a1 a2 a3 a4 a5 a6 a7 a8 a9 : Option V} (q : Q v H) : tVar 10 (a0 :: a1 :: a2 :: a3 :: a4 :: a5 :: a6 :: a7 :: a8 :: a9 :: some v :: r) H Q := ⟨v, rfl, q⟩
theorem wp_v11 {a0 a1 a2 a3 a4 a5 a6 a7 a8 a9 a10 : Option V} (q : Q v H) : tVar 11 (a0 :: a1 :: a2 :: a3 :: a4 :: a5 :: a6 :: a7 :: a8 :: a9 :: a10 :: some v :: r) H Q := ⟨v, rfl, q⟩
theorem wp_v12 {a0 a1 a2 a3 a4 a5 a6 a7 a8 a9 a10 a11 : Option V} (q : Q v H) : tVar 12 (a0 :: a1 :: a2 :: a3 :: a4 :: a5 :: a6 :: a7 :: a8 :: a9 :: a10 :: a11 :: some v :: r) H Q := ⟨v, rfl, q⟩
theorem wp_v13 {a0 a1 a2 a3 a4 a5 a6 a7 a8 a9 a10 a11 a12 : Option V} (q : Q v H) : tVar 13 (a0 :: a1 :: a2 :: a3 :: a4 :: a5 :: a6 :: a7 :: a8 :: a9 :: a10 :: a11 :: a12 :: some v :: r) H Q := ⟨v, rfl, q⟩
theorem wp_v14 {a0 a1 a2 a3 a4 a5 a6 a7 a8 a9 a10 a11 a12 a13 : Option V} (q : Q v H) : tVar 14 (a0 :: a1 :: a2 :: a3 :: a4 :: a5 :: a6 :: a7 :: a8 :: a9 :: a10 :: a11 :: a12 :: a13 :: some v :: r) H Q := ⟨v, rfl, q⟩
theorem wp_v15 {a0 a1 a2 a3 a4 a5 a6 a7 a8 a9 a10 a11 a12 a13 a14 : Option V} (q : Q v H) : tVar 15 (a0 :: a1 :: a2 :: a3 :: a4 :: a5 :: a6 :: a7 :: a8 :: a9 :: a10 :: a11 :: a12 :: a13 :: a14 :: some v :: r) H Q := ⟨v, rfl, q⟩
theorem wp_v16 {a0 a1 a2 a3 a4 a5 a6 a7 a8 a9 a10 a11 a12 a13 a14 a15 : Option V} (q : Q v H) : tVar 16 (a0 :: a1 :: a2 :: a3 :: a4 :: a5 :: a6 :: a7 :: a8 :: a9 :: a10 :: a11 :: a12 :: a13 :: a14 :: a15 :: some v :: r) H Q := ⟨v, rfl, q⟩
theorem wp_v17 {a0 a1 a2 a3 a4 a5 a6 a7 a8 a9 a10 a11 a12 a13 a14 a15 a16 : Option V} (q : Q v H) : tVar 17 (a0 :: a1 :: a2 :: a3 :: a4 :: a5 :: a6 :: a7 :: a8 :: a9 :: a10 :: a11 :: a12 :: a13 :: a14 :: a15 :: a16 :: some v :: r) H Q := ⟨v, rfl, q⟩
theorem wp_v18 {a0 a1 a2 a3 a4 a5 a6 a7 a8 a9 a10 a11 a12 a13 a14 a15 a16 a17 : Option V} (q : Q v H) : tVar 18 (a0 :: a1 :: a2 :: a3 :: a4 :: a5 :: a6 :: a7 :: a8 :: a9 :: a10 :: a11 :: a12 :: a13 :: a14 :: a15 :: a16 :: a17 :: some v :: r) H Q := ⟨v, rfl, q⟩
theorem wp_v19 {a0 a1 a2 a3 a4 a5 a6 a7 a8 a9 a10 a11 a12 a13 a14 a15 a16 a17 a18 : Option V} (q : Q v H) : tVar 19 (a0 :: a1 :: a2 :: a3 :: a4 :: a5 :: a6 :: a7 :: a8 :: a9 :: a10 :: a11 :: a12 :: a13 :: a14 :: a15 :: a16 :: a17 :: a18 :: some v :: r) H Q := ⟨v, rfl, q⟩
theorem wp_v20 {a0 a1 a2 a3 a4 a5 a6 a7 a8 a9 a10 a11 a12 a13 a14 a15 a16 a17 a18 a19 : Option V} (q : Q v H) : tVar 20 (a0 :: a1 :: a2 :: a3 :: a4 :: a5 :: a6 :: a7 :: a8 :: a9 :: a10 :: a11 :: a12 :: a13 :: a14 :: a15 :: a16 :: a17 :: a18 :: a19 :: some v :: r) H Q := ⟨v, rfl, q⟩
theorem wp_v21 {a0 a1 a2 a3 a4 a5 a6 a7 a8 a9 a10 a11 a12 a13 a14 a15 a16 a17 a18 a19 a20 : Option V} (q : Q v H) : tVar 21 (a0 :: a1 :: a2 :: a3 :: a4 :: a5 :: a6 :: a7 :: a8 :: a9 :: a10 :: a11 :: a12 :: a13 :: a14 :: a15 :: a16 :: a17 :: a18 :: a19 :: a20 :: some v :: r) H Q := ⟨v, rfl, q⟩
theorem wp_v22 {a0 a1 a2 a3 a4 a5 a6 a7 a8 a9 a10 a11 a12 a13 a14 a15 a16 a17 a18 a19 a20 a21 : Option V} (q : Q v H) : tVar 22 (a0 :: a1 :: a2 :: a3 :: a4 :: a5 :: a6 :: a7 :: a8 :: a9 :: a10 :: a11 :: a12 :: a13 :: a14 :: a15 :: a16 :: a17 :: a18 :: a19 :: a20 :: a21 :: some v :: r) H Q := ⟨v, rfl, q⟩
theorem wp_v23 {a0 a1 a2 a3 a4 a5 a6 a7 a8 a9 a10 a11 a12 a13 a14 a15 a16 a17 a18 a19 a20 a21 a22 : Option V} (q : Q v H) : tVar 23 (a0 :: a1 :: a2 :: a3 :: a4 :: a5 :: a6 :: a7 :: a8 :: a9 :: a10 :: a11 :: a12 :: a13 :: a14 :: a15 :: a16 :: a17 :: a18 :: a19 :: a20 :: a21 :: a22 :: some v :: r) H Q := ⟨v, rfl, q⟩
theorem wp_v24 {a0 a1 a2 a3 a4 a5 a6 a7 a8 a9 a10 a11 a12 a13 a14 a15 a16 a17 a18 a19 a20 a21 a22 a23 : Option V} (q : Q v H) : tVar 24 (a0 :: a1 :: a2 :: a3 :: a4 :: a5 :: a6 :: a7 :: a8 :: a9 :: a10 :: a11 :: a12 :: a13 :: a14 :: a15 :: a16 :: a17 :: a18 :: a19 :: a20 :: a21 :: a22 :: a23 :: some v :: r) H Q := ⟨v, rfl, q⟩
theorem wp_v25 {a0 a1 a2 a3 a4 a5 a6 a7 a8 a9 a10 a11 a12 a13 a14 a15 a16 a17 a18 a19 a20 a21 a22 a23 a24 : Option V} (q : Q v H) : tVar 25 (a0 :: a1 :: a2 :: a3 :: a4 :: a5 :: a6 :: a7 :: a8 :: a9 :: a10 :: a11 :: a12 :: a13 :: a14 :: a15 :: a16 :: a17 :: a18 :: a19 :: a20 :: a21 :: a22 :: a23 :: a24 :: some v :: r) H Q := ⟨v, rfl, q⟩
end
/-! ### small words about heaps -/
theorem sq_of {K : PySem.W.Frag} {H : Hp} {a : Addr} {xs : List V} (h : H a = some (.lst xs)) : SqL K H a xs := SqL.of h
theorem st_of {K : PySem.W.Frag} {H : Hp} {a : Addr} {xs : List V} (h : H a = some (.tup xs)) : SqT K H a xs := SqT.of h
theorem at_in {α : Type} {xs : List α} {i : Int} (h0 : 0 ≤ i) (h1 : i < xs.length) : ∃ v, atI xs i = some v ∧ v ∈ xs ∧ xs[i.toNat]? = some v := by
  have hl : i.toNat < xs.length := by omega
  have e : i = ((i.toNat : Nat) : Int) := by omega
  have h := atI_nat (List.getElem?_eq_getElem hl)
  rw [← e] at h
  exact ⟨_, h, List.getElem_mem hl, List.getElem?_eq_getElem hl⟩
theorem at0 {α : Type} {x : α} {xs : List α} : atI (x :: xs) 0 = some x := atI_nat (j := 0) rfl
theorem at1 {α : Type} {x y : α} {xs : List α} : atI (x :: y :: xs) 1 = some y := atI_nat (j := 1) rfl
/-! ### the pool: what a draw may change -/
structure Pl where
  p : Addr
  l : Addr
  cs : List Int
/-- the pool stands at P.p, its cells at P.l; G: all that is known besides, P.p not among it -/
structure Sees (P : Pl) (G H : Hp) : Prop where
  pool : ∃ (n c : Int), H P.p = some (.lst [.int n, .int c, .ref P.l])
  cell : G P.l = some (.lst (P.cs.map V.int))
  few : P.cs.length ≤ 63
  free : G P.p = none
  sub : Same G H
theorem Sees.more {P : Pl} {G G' H : Hp} (s : Sees P G H) (g : Same G G') (h : Same G' H) (hp : G' P.p = none) : Sees P G' H :=
  ⟨s.pool, g _ _ s.cell, s.few, hp, h⟩
/-- a thing outside of G that stands in H is known too -/
theorem Sees.with {P : Pl} {q : Addr} {o : HO} {G H : Hp} (s : Sees P G H) (hq : G q = none) (hH : H q = some o) (hqp : q ≠ P.p) : Sees P (upd G q o) H := by
  refine s.more (Same.new hq) (fun a u e => ?_) (by rw [upd_ne hqp.symm]; exact s.free)
  by_cases h : a = q
  · subst h; rw [upd_same] at e; cases e; exact hH
  · rw [upd_ne h] at e; exact s.sub _ _ e
/-- .. and may be forgotten behind a call -/
theorem Sees.back {P : Pl} {q : Addr} {o : HO} {G H H' : Hp} (s : Sees P (upd G q o) H') (s0 : Sees P G H) (hq : G q = none) : Sees P G H' ∧ H' q = some o :=
  ⟨⟨s.pool, s0.cell, s.few, s0.free, Same.trans (Same.new hq) s.sub⟩, s.sub _ _ upd_same⟩
theorem Sees.fresh {P : Pl} {q : Addr} {G H : Hp} (s : Sees P G H) (hq : H q = none) : G q = none ∧ q ≠ P.p := by
  refine ⟨s.sub.free hq, fun e => ?_⟩
  obtain ⟨n, c, h⟩ := s.pool
  rw [e, h] at hq
  cases hq
/-- a local object is made, or changed -/
theorem Sees.set {P : Pl} {q : Addr} {o : HO} {G H : Hp} (s : Sees P G H) (hq : G q = none) (hqp : q ≠ P.p) : Sees P G (upd H q o) := by
  obtain ⟨n, c, h⟩ := s.pool
  exact ⟨⟨n, c, by rw [upd_ne hqp.symm]; exact h⟩, s.cell, s.few, s.free, Same.mut s.sub hq⟩
/-- .. and known for good -/
theorem Sees.new {P : Pl} {q : Addr} {o : HO} {G H : Hp} (s : Sees P G H) (hq : H q = none) : Sees P (upd G q o) (upd H q o) := by
  obtain ⟨h1, h2⟩ := s.fresh hq
  exact (s.set h1 h2).with h1 upd_same h2
theorem Sees.drawn {P : Pl} {G H : Hp} (s : Sees P G H) (n c : Int) : Sees P G (upd H P.p (.lst [.int n, .int c, .ref P.l])) :=
  ⟨⟨n, c, upd_same⟩, s.cell, s.few, s.free, Same.mut s.sub s.free⟩
/-- what a call that leaves all as it was leaves -/
theorem Sees.same {P : Pl} {G H H' : Hp} (s : Sees P G H) (h : Same H H') : Sees P G H' := by
  obtain ⟨n, c, e⟩ := s.pool
  exact ⟨⟨n, c, h _ _ e⟩, s.cell, s.few, s.free, s.sub.trans h⟩
end RM
namespace RM
open PySem PySem.Spec PyProof.Rows L2
/-! ### own classes: the operators that the text defines -/
section
variable {X : Cx} {pins : List (Addr × Obj)} {σ : L2.St} {H : Hp} {s : Shared} {n : Nat} {A : Around} {f C : Addr} {fd : FuncData} {ps : List Str} {sp : Sp}
/-- a def run somewhere below the body -/
theorem run_at {E' : Value → Shared → Prop} (sb : Sub X n A) (F : FnOk X.prog X.w X.K X.mg X.base CX0 n f fd ps sp) (hb : Binds X.K fd ps []) (I : Inv X pins σ H s) {us : List Value} {vs : List V} {Q : VK} (r : Vals vs us) (h : sp vs H Q E0) :
    wpAny (model X.prog X.w) A (call (.ref f) us) (EP X pins σ Q) E' s := by
  have e0 : Env0 X.prog X.w X.K X.mg X.base A X.stack s H := by
    have e := I.env0
    exact ⟨by rw [sb.fr]; exact e.frames, e.mod, e.bs, e.bsz, e.funs, e.frf, e.hok, e.bare⟩
  have hl := F.len _ _ _ _ h
  have hl2 : (us ++ ([] : List Value)).length = ps.length := by rw [List.append_nil, ← r.length]; exact hl
  have bt := hb s us I.kIn hl2
  rw [List.append_nil] at bt
  refine wpAny_call (codeAny_mono (F.run A X.stack s H ⟨us, []⟩ us vs Q E0 sb.room e0 bt r h) fun r s' hq => ?_)
  cases r with
  | error e => exact False.elim hq
  | ok fl =>
    cases fl with
    | ret u => exact I.after hq
    | next => exact False.elim hq
    | brk => exact False.elim hq
    | cont => exact False.elim hq
/-- a class's method by a special name -/
structure Spc (P : Program) (w : World) (K : PySem.W.Frag) (mg : Str → Option Value) (base : Heap) (n : Nat) (C : Addr) (nm : Str) (sp : Sp) : Prop where
  ex : ∃ (f : Addr) (fd : FuncData) (ps : List Str), PySem.W.findIn K (.ref C) nm = some (some (.ref f)) ∧ PySem.W.isFn K (.ref f) = true ∧ FnOk P w K mg base CX0 n f fd ps sp ∧ Binds K fd ps []
theorem inst_of {a dx : Addr} {fs : List (Str × V)} (I : Inv X pins σ H s) (ha : H a = some (.ins C dx fs)) : ∃ od, PySem.W.InstAt s.heap a (PySem.W.instObj C dx) C (some od) := by
  obtain ⟨mA, J, _⟩ := ins_get I.hok ha
  obtain ⟨od, J, _⟩ := J.look
  exact ⟨od, J⟩
/-- len(o) -/
def rLenOwn (C : Addr) (sp : Sp) : List V → Hp → VK → Prop := fun xs H Q => ∃ a dx fs, xs = [.ref a] ∧ H a = some (.ins C dx fs) ∧ sp [.ref a] H (fun v H' => ∃ k : Int, v = .int k ∧ 0 ≤ k ∧ k < 100000 ∧ Q (.int k) H') E0
theorem call_lenOwn (S : Spc X.prog X.w X.K X.mg X.base n C "__len__" sp) (hr : Room (n + 1) X.A) : CallR X (.builtin "len") (rLenOwn C sp) := by
  obtain ⟨f, fd, ps, hs, hf, F, hb⟩ := S.ex
  intro pins s σ H xs us Q I r h
  obtain ⟨a, dx, fs, rfl, ha, h⟩ := h
  obtain ⟨u, rfl, ru⟩ := r.one
  cases ru
  obtain ⟨od, J⟩ := inst_of I ha
  obtain ⟨m, hF⟩ := I.fr
  refine PySem.W.len_K hF I.ok.mod.kin J hs hf ?_
  refine wpAny_mono (run_at (us := [.ref a]) (vs := [.ref a]) (Sub.in1 ⟨hr, rfl⟩) F hb I (.cons rfl .nil) h) (fun v s' hv => ?_) fun _ _ e => e
  obtain ⟨x, H', I', rx, k, rfl, h0, h1, q⟩ := hv
  obtain ⟨t, rfl⟩ := rx
  refine ⟨⟨h0, by omega⟩, .int k, H', I'.tok _, ⟨_, rfl⟩, q⟩
/-- x in o, x not in o -/
def rInOwn (C : Addr) (sp : Sp) (neg : Bool) : R2 := fun x y H Q => ∃ a dx fs, y = .ref a ∧ H a = some (.ins C dx fs) ∧ sp [.ref a, x] H (fun v H' => ∃ k : Bool, v = .bl k ∧ Q (.bl (if neg then !k else k)) H') E0
theorem op_inOwn (S : Spc X.prog X.w X.K X.mg X.base n C "__contains__" sp) (hr : Room n X.A) : OpR X (compareOp .In) (rInOwn C sp false) := by
  obtain ⟨f, fd, ps, hs, hf, F, hb⟩ := S.ex
  intro pins s σ H x y v u Q I rx ry h
  obtain ⟨a, dx, fs, rfl, ha, h⟩ := h
  cases ry
  obtain ⟨od, J⟩ := inst_of I ha
  obtain ⟨m, hF⟩ := I.fr
  refine PySem.W.in_K hF I.ok.mod.kin J hs hf ?_
  refine wpAny_mono (run_at (us := [.ref a, v]) (vs := [.ref a, x]) ⟨hr, rfl⟩ F hb I (.cons rfl (.cons rx .nil)) h) (fun v s' hv => ?_) fun _ _ e => e
  obtain ⟨z, H', I', rz, k, rfl, q⟩ := hv
  cases rz
  exact wpAny_truthy_bool ⟨.bl k, H', I', rfl, q⟩
theorem op_notInOwn (S : Spc X.prog X.w X.K X.mg X.base n C "__contains__" sp) (hr : Room n X.A) : OpR X (compareOp .NotIn) (rInOwn C sp true) := by
  obtain ⟨f, fd, ps, hs, hf, F, hb⟩ := S.ex
  intro pins s σ H x y v u Q I rx ry h
  obtain ⟨a, dx, fs, rfl, ha, h⟩ := h
  cases ry
  obtain ⟨od, J⟩ := inst_of I ha
  obtain ⟨m, hF⟩ := I.fr
  refine PySem.W.notIn_K hF I.ok.mod.kin J hs hf ?_
  refine wpAny_mono (run_at (us := [.ref a, v]) (vs := [.ref a, x]) ⟨hr, rfl⟩ F hb I (.cons rfl (.cons rx .nil)) h) (fun v s' hv => ?_) fun _ _ e => e
  obtain ⟨z, H', I', rz, k, rfl, q⟩ := hv
  cases rz
  exact wpAny_truthy_bool ⟨.bl (!k), H', I', rfl, q⟩
/-- o == p, two instances of one class -/
def rEqOwn (C : Addr) (sp : Sp) : R2 := fun x y H Q => ∃ a dx fs b dy gs, x = .ref a ∧ H a = some (.ins C dx fs) ∧ y = .ref b ∧ H b = some (.ins C dy gs) ∧ sp [.ref a, .ref b] H (fun v H' => ∃ k : Bool, v = .bl k ∧ Q (.bl k) H') E0
theorem op_eqOwn (S : Spc X.prog X.w X.K X.mg X.base n C "__eq__" sp) (hr : Room n X.A) : OpR X (compareOp .Eq) (rEqOwn C sp) := by
  obtain ⟨f, fd, ps, hs, hf, F, hb⟩ := S.ex
  intro pins s σ H x y v u Q I rx ry h
  obtain ⟨a, dx, fs, b, dy, gs, rfl, ha, rfl, hb', h⟩ := h
  cases rx
  cases ry
  obtain ⟨od, J⟩ := inst_of I ha
  obtain ⟨od', J'⟩ := inst_of I hb'
  obtain ⟨m, hF⟩ := I.fr
  show wpAny (model X.prog X.w) X.A (richCompare .Eq (.ref a) (.ref b)) (EP X pins σ Q) X.xe s
  refine PySem.W.cmp_K (op := .Eq) (tb := .ref C) hr.units0 hF I.ok.mod.kin J J'.type (by simp [PySem.W.notFirst]) hs hf ?_
  refine wpAny_mono (run_at (us := [.ref a, .ref b]) (vs := [.ref a, .ref b]) ⟨hr, rfl⟩ F hb I (.cons rfl (.cons rfl .nil)) h) (fun v s' hv => ?_) fun _ _ e => e
  obtain ⟨z, H', I', rz, k, rfl, q⟩ := hv
  cases rz
  exact ⟨.bl k, H', I', rfl, q⟩
end
end RM
namespace RM
open PySem PySem.Spec PyProof.Rows L2
/-! ### list(o), o of an own class whose __iter__ hands out a list's iterator and that has a __len__ -/
/-- at it an iterator over the list at l, the next place is i (its object left open) -/
def ItS (l it : Addr) (i : Nat) : HO := .ext fun h => h.IsListIter it l i
section
variable {X : Cx} {pins : List (Addr × Obj)} {σ : L2.St} {H : Hp} {s : Shared} {n : Nat} {A : Around} {f C l it q : Addr} {fd : FuncData} {ps : List Str} {sp : Sp} {i : Nat}
theorem itS_ok {P : Program} {w : World} {h : Heap} (e : h.IsListIter it l i) : ObjOk P w H h it (ItS l it i) := by
  obtain ⟨o, ho, hr⟩ := id e
  refine ⟨e, ⟨o, ho⟩, fun h1 h2 x k => ?_⟩
  obtain ⟨o1, ho1, hr1⟩ := x
  exact ⟨o1, k _ ho1, hr1⟩
theorem itS_get (I : Inv X pins σ H s) (e : H it = some (ItS l it i)) : s.heap.IsListIter it l i := (I.hok it _ e).1
theorem endit {Q : Option Value → Shared → Prop} {items : Array Value} {E : Value → Shared → Prop} {prog : Program} {w : World} (hh : A.handled = none) (hit : s.heap.IsListIter it l i) (hl : s.heap.IsList l items) (hx : items[i]? = none)
    (hQ : ∀ h', (∃ o, h'.get? it = some o) → (∀ b o, b ≠ it → s.heap.get? b = some o → h'.get? b = some o) → Q none { s with heap := h' }) : wpAny (model prog w) A (pyNext (.ref it)) Q E s := by
  obtain ⟨o, ho, hc, hd⟩ := id hit
  obtain ⟨ol, hol, _, nl, hdl⟩ := hl
  unfold pyNext
  refine wpAny_bind (wpAny_attempt (wpAny_callSpecial?_slot (name := Str.ofString "__next__") hit.typeIs slot_listiter_next
    (wpAny_call_entry slot_listiter_next hit.typeIs entry_listiter_next ?_ (args_listiter_next _))))
  show wpAny _ _ (field (.ref it) 0 >>= _) _ _ s
  refine wpAny_bind (wpAny_field ho hd (x := .ref l) rfl ?_)
  show wpAny _ _ (if (Value.ref l == Value.none) = true then _ else _) _ _ s
  rw [if_neg (show ¬ ((Value.ref l == Value.none) = true) from Bool.false_ne_true)]
  show wpAny _ _ (field (.ref it) 1 >>= _) _ _ s
  refine wpAny_bind (wpAny_field ho hd (x := .int i 0) rfl ?_)
  show wpAny _ _ (seqItems? (.ref l) >>= _) _ _ s
  refine wpAny_bind (wpAny_seqItems hol hdl ?_)
  simp only [Int.toNat_natCast, hx]
  refine wpAny_bind (wpAny_rule (wpAny_bind (wpAny_setField ho hd (by simp) ?_)))
  show wpAny _ _ (newExc (.type "StopIteration") [] >>= _) _ _ _
  refine wpAny_bind ?_
  simp only [newExc, newTuple]
  refine wpAny_bind (wpAny_newObj_type ?_ (by size_fits))
  refine wpAny_bind (m := firstArgMember _ _) (wpAny_of_eq (a := Value.none) (by first | rfl | (simp only [firstArgMember]; rfl)) ?_)
  refine wpAny_newObj_type ?_ (by size_fits)
  simp only [raiseNew]
  refine wpAny_bind (wpAny_handled ?_)
  rw [show A.in1.handled = none from hh]
  refine wpAny_bind (wpAny_pure (wpAny_throw ?_))
  refine wpAny_bind (wpAny_isInstance (T := "StopIteration") (b := true) ⟨_, Heap.get?_push_size _ rfl, rfl⟩ isSubtype_stop ?_)
  have nf : (Obj.mapFields (fun x => x.setIfInBounds 0 Value.none) o).isFreed = false := by
    obtain ⟨oc, od, dt, sl⟩ := o
    simp only at hc hd
    subst hc hd
    rfl
  refine wpAny_pure (hQ _ ⟨_, Heap.get?_push_of_some _ (Heap.get?_push_of_some _ (Heap.get?_update_self _ ho nf))⟩ fun b o hb e => Heap.get?_push_of_some _ (Heap.get?_push_of_some _ ?_))
  exact (Heap.get?_update_other _ _ (Ne.symm hb)).trans e
/-- the loop that fills the list at q from the iterator at it -/
theorem it_loop {zs : List V} {Rs : Result → Shared → Prop} (hh : A.in1.handled = none) (hz : zs.length < 100000) (hlq : l ≠ q) (hli : l ≠ it) (hiq : it ≠ q)
    (hdone : ∀ H' s', Inv X pins σ H' s' → (∀ b o, b ≠ it → b ≠ q → H b = some o → H' b = some o) → H' q = some (.lst zs) → Rs (.ok (.ret .none)) s') :
    ∀ (m i : Nat) (H' : Hp) (s : Shared), zs.length - i = m → i ≤ zs.length → Inv X pins σ H' s → (∀ b o, b ≠ it → b ≠ q → H b = some o → H' b = some o) → SqL X.K H' l zs → H' it = some (ItS l it i) → H' q = some (.lst (zs.take i)) →
      codeAny (model X.prog X.w) A (.builtin "list.extend.loop" ⟨[.ref q, .ref it, .none], []⟩) Rs s := by
  intro m
  induction m with
  | zero =>
    intro i H' s hm hi I hk hl hI hq
    have ei : i = zs.length := by omega
    refine codeAny_builtin PySem.F.entry_extend_loop ?_
    rw [Around.under_plainId PySem.F.plain_extend_loop _]
    show wpAny _ A.in1 (pyNext (.ref it) >>= _) _ _ s
    obtain ⟨its, rv, pl, _⟩ := I.list hl
    refine wpAny_bind (endit hh (itS_get I hI) pl.isList (by rw [List.getElem?_toArray]; exact List.getElem?_eq_none (by rw [← rv.length]; omega)) fun h' he hk' => ?_)
    refine wpAny_pure ?_
    obtain ⟨oe, heo⟩ := he
    have mu : Mut (H' it) := by rw [hI]; exact True.intro
    have ok2 : ObjOk X.prog X.w (upd H' it (.ext fun h => ∃ o, h.get? it = some o)) h' it (.ext fun h => ∃ o, h.get? it = some o) := ⟨⟨oe, heo⟩, ⟨oe, heo⟩, fun h1 h2 ⟨o, x⟩ k => ⟨o, k _ x⟩⟩
    have I2 := I.write (x := it) (e := it) (t' := s.toks) mu (.inl rfl) (fun b u hb e => hk' b u hb e) ⟨oe, heo⟩ ok2
    refine hdone _ _ I2 (fun b o h1 h2 e => by rw [upd_ne h1]; exact hk b o h1 h2 e) ?_
    rw [upd_ne (Ne.symm hiq), hq, ei, List.take_length]
  | succ m ih =>
    intro i H' s hm hi I hk hl hI hq
    have hlt : i < zs.length := by omega
    refine codeAny_builtin PySem.F.entry_extend_loop ?_
    rw [Around.under_plainId PySem.F.plain_extend_loop _]
    show wpAny _ A.in1 (pyNext (.ref it) >>= _) _ _ s
    obtain ⟨its, rv, pl, _⟩ := I.list hl
    obtain ⟨u, hu, ru⟩ := rv.get (List.getElem?_eq_getElem hlt)
    refine wpAny_bind (wpAny_pyNext_list_item (itS_get I hI) pl.isList (x := u) (by rw [List.getElem?_toArray]; exact hu) fun h' st sb => ?_)
    have mu : Mut (H' it) := by rw [hI]; exact True.intro
    obtain ⟨oe, heo, hoe⟩ := id st
    have I2 := I.write (x := it) (e := it) (t' := s.toks) mu (.inl rfl) (fun b o hb e => (sb.2 b hb).trans e) ⟨oe, heo⟩ (itS_ok (H := upd H' it (ItS l it (i + 1))) (P := X.prog) (w := X.w) st)
    have hq2 : upd H' it (ItS l it (i + 1)) q = some (.lst (zs.take i)) := by rw [upd_ne (Ne.symm hiq)]; exact hq
    show wpAny _ A.in1 (updateSeq q (·.push u) >>= _) _ _ _
    obtain ⟨z, its2, k2, r2, hl2, e2⟩ := I2.lstM hq2
    have hz2 : its2.length = i := by rw [← hl2, List.length_take]; omega
    refine wpAny_bind (wpAny_updateSeq e2 rfl (wpAny_pure ⟨plainId_quiet PySem.F.plain_extend_loop _, ?_⟩) (by rw [List.size_toArray, hz2]; exact Nat.le_trans (Nat.le_of_lt hlt) (szl (by omega))) (by show (its2.toArray.push u).size ≤ sizeLine + 1; rw [Array.size_push, List.size_toArray, hz2]; exact Nat.succ_le_succ (szl (by omega))))
    have I3 := I2.lset (f := (·.push u)) (its' := its2 ++ [u]) (ys := zs.take i ++ [zs[i]]) (t' := s.toks) hq2 e2 (by simp) (r2.append (.cons ru .nil)) (by rw [List.length_append, List.length_take]; exact szl (by show _ + 1 ≤ _; omega))
    refine ih (i + 1) _ _ (by omega) hlt I3 (fun b o h1 h2 e => by rw [upd_ne h2, upd_ne h1]; exact hk b o h1 h2 e) ?_ ?_ ?_
    · have e1 : upd (upd H' it (ItS l it (i + 1))) q (.lst (zs.take i ++ [zs[i]])) l = H' l := by rw [upd_ne hlq, upd_ne hli]
      unfold SqL Rd at hl ⊢
      simp only [e1]
      exact hl
    · rw [upd_ne hiq]; exact upd_same
    · rw [List.take_append_getElem]; exact upd_same
/-- list(o) -/
def rListOwn (K : PySem.W.Frag) (C : Addr) (spI spL : Sp) : List V → Hp → VK → Prop := fun xs H Q => ∃ a dx fs, xs = [.ref a] ∧ H a = some (.ins C dx fs) ∧ ∀ q, H q = none →
  spI [.ref a] (upd H q (.lst [])) (fun v H1 => ∃ it l zs, v = .ref it ∧ H1 it = some (ItO l it 0) ∧ SqL K H1 l zs ∧ zs.length < 100000 ∧ l ≠ q ∧ l ≠ it ∧ it ≠ q ∧ H1 q = some (.lst []) ∧ H1 a = some (.ins C dx fs) ∧
    spL [.ref a] H1 (fun v2 H2 => ∃ k : Int, v2 = .int k ∧ 0 ≤ k ∧ k < 100000 ∧ H2 = H1 ∧ ∀ H3, (∀ b o, b ≠ it → b ≠ q → H1 b = some o → H3 b = some o) → H3 q = some (.lst zs) → Q (.ref q) H3) E0) E0
theorem call_listIt {spI spL : Sp} (SI : Spc X.prog X.w X.K X.mg X.base n C "__iter__" spI) (SL : Spc X.prog X.w X.K X.mg X.base n C "__len__" spL) (hr : Room (n + 3) X.A) : CallR X (.type "list") (rListOwn X.K C spI spL) := by
  obtain ⟨fI, fdI, psI, hsI, hfI, FI, bI⟩ := SI.ex
  obtain ⟨fL, fdL, psL, hsL, hfL, FL, bL⟩ := SL.ex
  intro pins s σ H xs us Q I rv h
  obtain ⟨a, dx, fs, rfl, ha, h⟩ := h
  obtain ⟨u, rfl, ru⟩ := rv.one
  cases ru
  have sb : Sub X (n + 1) X.A.in1.in1 := Sub.in1 (Sub.in1 (⟨hr, rfl⟩ : Sub X (n + 3) X.A))
  refine callType_codes (Q₁ := fun obj s₁ => obj = .ref s.heap.objs.size ∧ s₁ = { s with heap := s.heap.push { cls := .type "list", data := .seq #[] } }) PySem.F.called_list (PySem.F.typeCall_list_1 _) PySem.F.entry_list_init
    (code_list_new _ ⟨rfl, rfl⟩) fun obj s₁ h₁ => ?_
  obtain ⟨rfl, rfl⟩ := h₁
  have hS : (s.heap.push { cls := .type "list", data := .seq #[] }).get? s.heap.objs.size = some { cls := .type "list", data := .seq #[] } := Heap.get?_push_size _ rfl
  refine ⟨⟨_, hS, rfl⟩, PySem.F.args_list_init_2 _ _, ?_⟩
  have fr : H s.heap.objs.size = none := I.hok.fresh (Nat.le_refl _)
  have h := h _ fr
  generalize hqe : s.heap.objs.size = q at *
  have I1 : Inv X pins σ (upd H q (.lst [])) { s with heap := s.heap.push { cls := .type "list", data := .seq #[] } } := by
    have z := I.lnew (its := []) (ys := []) (t' := s.toks) .nil (Nat.zero_le _)
    rw [hqe] at z
    exact z
  show wpAny _ _ (do let old ← Builtin.List.listItems (.ref q); Builtin.List.listUpdate (.ref q) (fun _ => #[]); letGo old.toList.reverse; Builtin.List.listExtendWith (.ref q) (.ref a) .none) _ _ _
  refine wpAny_bind ?_
  unfold Builtin.List.listItems
  refine wpAny_bind (wpAny_seqItems hS rfl (wpAny_pure ?_))
  show wpAny _ _ (updateSeq q (fun _ => #[]) >>= fun _ => letGo (#[] : Array Value).toList.reverse >>= fun _ => Builtin.List.listExtendWith (.ref q) (.ref a) .none) _ _ _
  refine wpAny_bind (wpAny_updateSeq hS rfl ?_)
  have I2 := I1.lset (f := fun _ => #[]) (its := []) (its' := []) (ys := []) (t' := s.toks) upd_same hS rfl .nil (Nat.zero_le _)
  rw [upd_upd] at I2
  refine wpAny_bind (wpAny_letGo ?_)
  have ha2 : upd H q (.lst []) a = some (.ins C dx fs) := by rw [upd_ne (ne_of_none ha fr)]; exact ha
  have hne : q ≠ a := ne_of (H := upd H q (.lst [])) upd_same ha2 (fun z => nomatch z)
  obtain ⟨od, J⟩ := inst_of I2 ha2
  obtain ⟨m0, hF⟩ := I2.fr
  show wpAny _ X.A.in1.in1 (Builtin.List.listExtendWith (.ref q) (.ref a) .none) _ _ _
  unfold Builtin.List.listExtendWith
  refine wpAny_bind (J.type.here ?_)
  have h1 : Builtin.List.listSameRef (.ref q) (.ref a) = false := by simp [Builtin.List.listSameRef, hne]
  have h2 : (Value.ref C == Value.type "list") = false := rfl
  have h3 : (Value.ref C == Value.type "tuple") = false := rfl
  simp only [h1, h2, h3, Bool.or_false, Bool.false_eq_true, if_false]
  refine wpAny_bind (PySem.W.owit_iter hF I2.ok.mod.kin J hsI hfI ?_)
  refine wpAny_mono (run_at (us := [.ref a]) (vs := [.ref a]) (sb.mono (Nat.le_succ _)) FI bI I2 (.cons rfl .nil) h) (fun u s' hu => ?_) (fun _ _ e => e)
  obtain ⟨v, H1, I3, rv3, it, l, zs, rfl, hit, hlz, hz, n1, n2, n3, hq1, ha3, hL⟩ := hu
  cases rv3
  have ito := itO_get I3 hit
  have hT : s'.TypeIs (.ref it) "list_iterator" := ⟨_, ito, rfl⟩
  unfold PySem.W.OwitIt
  show wpAny _ _ (typeOf (.ref it) >>= fun t => typeLookup t "__next__") _ _ _
  refine wpAny_bind (wpAny_typeOf hT (wpAny_of_eq slot_listiter_next.lookup ?_))
  show wpAny _ _ _ _ _ _
  obtain ⟨od', J'⟩ := inst_of I3 ha3
  obtain ⟨m1, hF'⟩ := I3.fr
  refine wpAny_bind (wpAny_holding ?_)
  unfold Builtin.List.listLengthHint
  refine wpAny_bind (wpAny_bind (J'.type.here ((PySem.W.looks_findIn I3.kIn hsL).here ?_)))
  refine PySem.W.KFB.if_not rfl ?_
  refine PySem.W.KFB.if_so rfl ?_
  refine wpAny_bind (wpAny_rule (wpAny_bind (wpAny_attempt ?_)))
  refine PySem.W.len_K hF' I3.ok.mod.kin J' hsL hfL ?_
  refine wpAny_mono (run_at (E' := fun _ _ => False) (us := [.ref a]) (vs := [.ref a]) sb.in1 FL bL I3 (.cons rfl .nil) hL) (fun u s2 hu => ?_) fun _ _ e => e.elim
  obtain ⟨v2, H2, I4, rv4, k, rfl, k0, k1, e2, hend⟩ := hu
  obtain ⟨tk, rfl⟩ := rv4
  subst e2
  refine ⟨⟨k0, by omega⟩, ?_⟩
  have I5 := I4.tok (s2.toks + 1)
  refine wpAny_bind (wpAny_of_eq (a := some k) rfl ?_)
  refine PySem.W.KFB.if_not (notLongL (szl (by omega))) ?_
  refine wpAny_pure ?_
  have st := itS_ok (H := upd H2 it (ItS l it 0)) (P := X.prog) (w := X.w) (i := 0) (⟨_, itO_get I5 hit, rfl, rfl⟩ : Heap.IsListIter _ it l 0)
  have mu : Mut (H2 it) := by rw [hit]; exact True.intro
  have I6 := I5.write (x := it) (e := it) (t' := s2.toks + 1) mu (.inl rfl) (fun _ _ _ e => e) ⟨_, itO_get I5 hit⟩ st
  have fin : ∀ (t' : Nat) (s3 : Shared), Inv X pins σ (upd H2 it (ItS l it 0)) s3 → codeAny (model X.prog X.w) X.A.in1 (.builtin "list.extend.loop" ⟨[.ref q, .ref it, .none], []⟩) (wants (fun r s₂ => r = .none ∧ EP X pins σ Q (.ref q) s₂) X.xe) s3 := fun t' s3 I7 => by
    have kk : ∀ b o, b ≠ it → b ≠ q → H2 b = some o → upd H2 it (ItS l it 0) b = some o := fun b o h1 _ e => by rw [upd_ne h1]; exact e
    refine it_loop (A := X.A.in1) (H := H2) (zs := zs) (hr.hd) hz n1 n2 n3 (fun H3 s4 I8 hk3 hq3 => ⟨rfl, .ref q, H3, I8, rfl, hend H3 hk3 hq3⟩) zs.length 0 _ s3 rfl (Nat.zero_le _) I7 kk ?_ upd_same ?_
    · have e1 : upd H2 it (ItS l it 0) l = H2 l := upd_ne n2
      unfold SqL Rd at hlz ⊢
      simp only [e1]
      exact hlz
    · rw [upd_ne (Ne.symm n3)]; exact hq1
  refine wpAny_ite_split (fun _ => ?_) (fun _ => wpAny_pure ⟨plainId_quiet PySem.F.plain_extend_loop _, fin 0 _ I6⟩)
  have hq6 : upd H2 it (ItS l it 0) q = some (.lst []) := by rw [upd_ne (Ne.symm n3)]; exact hq1
  obtain ⟨z, its, k3, r3, hl3, e3⟩ := I6.lstM hq6
  cases r3
  refine wpAny_bind (wpAny_rule ?_)
  refine wpAny_bind ?_
  show wpAny _ _ (updateSeq q (·.push .none) >>= fun _ => updateSeq q (·.pop)) _ _ _
  refine wpAny_bind (wpAny_updateSeq e3 rfl ?_)
  have I7 := I6.lset (f := (·.push Value.none)) (its' := [Value.none]) (ys := [.non]) (t' := s2.toks + 1) hq6 e3 (by simp) (.cons rfl .nil) (by rw [List.length_singleton, sizeLine_eq]; decide)
  obtain ⟨z4, its4, k4, r4, hl4, e4⟩ := I7.lstM upd_same
  obtain ⟨u4, rfl, ru4⟩ := r4.one
  refine wpAny_updateSeq e4 rfl ?_ (by show 1 ≤ sizeLine; rw [sizeLine_eq]; decide) (by show 0 ≤ sizeLine + 1; exact Nat.zero_le _)
  refine wpAny_pure ⟨plainId_quiet PySem.F.plain_extend_loop _, fin 0 _ ?_⟩
  have I8 := I7.lset (f := (·.pop)) (its := [u4]) (its' := []) (ys := []) (t' := s2.toks + 1) upd_same e4 (by rfl) .nil (Nat.zero_le _)
  rw [upd_upd] at I8
  have hH : upd (upd H2 it (ItS l it 0)) q (.lst []) = upd H2 it (ItS l it 0) := by
    funext b
    by_cases hb : b = q
    · rw [hb, upd_same, hq6]
    · rw [upd_ne hb]
  rw [hH] at I8
  exact I8
end
end RM
namespace RM
open PySem PySem.Spec PyProof.Rows L2
/-! ### attributes, properties, class values: readings that ask nothing of the written part -/
section
variable {X : Cx} {C : Addr} {o e value : Expr} {f : Str} {pos pos' : Pos} {ta tv : TE}
theorem pe_imp {t t' : TE} (h : PE X e t) (k : ∀ σ H Q, t' σ H Q → t σ H Q) : PE X e t' := ⟨fun pins s σ H Q I q => h.run pins s σ H Q I (k σ H Q q)⟩
def tFldC (C : Addr) (ta : TE) (f : Str) : TE := fun σ H Q => ta σ H fun x H1 => ∃ a dx fs v, x = .ref a ∧ H1 a = some (.ins C dx fs) ∧ fs.lookup f = some v ∧ Q v H1
def sFldC (C : Addr) (ta tv : TE) (f : Str) : TS := fun D σ H => tv σ H fun y H1 => ta σ H1 fun x H2 => ∃ a dx fs, x = .ref a ∧ H2 a = some (.ins C dx fs) ∧ fs.length < 1000 ∧ D.nx σ (upd H2 a (.ins C dx (putF f y fs)))
theorem pe_fldC (c : Cls X.K C) (n : NoAttr X.K C f) (he : PE X e ta) (hb : attributeBase e f X.env (eval e X.env) = eval e X.env := by rfl) : PE X (.Attribute e f pos) (tFldC C ta f) := by
  refine ⟨fun pins s σ H Q I h => ?_⟩
  refine attr_of hb (thn (he.run pins s σ H _ I h) fun u s1 hu => ?_)
  obtain ⟨x, H1, I1, rx, a, dx, fs, v, ex, ea, l, q⟩ := hu
  subst ex
  obtain rfl : u = Value.ref a := rx
  exact getattr_ok I1 ea c n l fun u' s2 I2 ru => ⟨v, H1, I2, ru, q⟩
theorem ps_fldC (c : Cls X.K C) (n : NoAttr X.K C f) (ha : PE X o ta) (hv : PE X value tv) (hs : swapsWith value (some (.Attribute o f pos')) pos.line X.env = pure false := by rfl) : PS X (.Assign [.Attribute o f pos'] value pos) (sFldC C ta tv f) := by
  refine ⟨fun pins s σ H D I h => ?_⟩
  refine plainObj_wpAny_Assign_Attribute (thn (hv.run pins s σ H _ I h) fun u s1 hu => ?_) hs
  obtain ⟨y, H1, I1, ry, q⟩ := hu
  refine thn (ha.run pins s1 σ H1 _ I1 q) fun ov s2 ho => ?_
  obtain ⟨x, H2, I2, rx, a, dx, fs, ex, ea, l, q2⟩ := ho
  subst ex
  obtain rfl : ov = Value.ref a := rx
  exact setattr_ok I2 ea c n l ry fun s3 I3 => ⟨σ, _, I3, q2⟩
/-- a class's name as a value; an int that stands in the class -/
theorem pe_clsv {x : Str} (hg : Gl X x) (hm : X.mg x = some (.ref C)) (hd : (x == ("__debug__" : Str)) = false := by decide) : PE X (.Name x pos) (tC (.ref C)) := pe_glob hg hm rfl hd
theorem pe_cint {x : Str} {i : Int} {p : Pos} (hg : Gl X x) (hm : X.mg x = some (.ref C)) (r : ClX.CRead X.K C (.type "type")) (k : ∃ u, ClX.CVal X.K C (.type "type") f (.int i) u) (hd : (x == ("__debug__" : Str)) = false := by decide)
    (hb : attributeBase (.Name x p) f X.env (eval (.Name x p) X.env) = eval (.Name x p) X.env := by rfl) : PE X (.Attribute (.Name x p) f pos) (tC (.int i)) :=
  pe_imp (ClX.pe_cval (pe_clsv hg hm hd) hb) fun σ H Q q => by
    obtain ⟨u, k⟩ := k
    exact ⟨C, .type "type", .int i, u, rfl, r, k, q⟩
/-- a property of the class, read -/
structure Prp (P : Program) (w : World) (K : PySem.W.Frag) (mg : Str → Option Value) (base : Heap) (k : Nat) (C : Addr) (f : Str) (sp : Sp) : Prop where
  ex : ∃ (p g : Addr) (fd : FuncData) (ps : List Str), PropOf K C f p g ∧ FnOk P w K mg base CX0 k g fd ps sp ∧ Binds K fd ps []
theorem pe_prp {k j : Nat} {sp : Sp} (c : Cls X.K C) (p : Prp X.prog X.w X.K X.mg X.base k C f sp) (hr : Room j X.A) (hk : k + 1 ≤ j) (he : PE X e ta) (hab : attributeBase e f X.env (eval e X.env) = eval e X.env := by rfl) :
    PE X (.Attribute e f pos) (tProp C sp [] E0 ta) := by
  obtain ⟨pa, g, fd, ps, hp, F, hb⟩ := p.ex
  exact pe_prop he c hp F (hr.mono hk) hb .nil (fun _ _ _ _ _ _ _ h => h.elim) hab
end
/-! ### isinstance against built-in types and one own class -/
section
variable {X : Cx} {K : PySem.W.Frag} {H : Hp} {Q : VK}
def rIsC (C : Addr) : List V → Hp → VK → Prop := fun xs H Q => ∃ a dx fs, xs = [.ref a, .ref C] ∧ H a = some (.ins C dx fs) ∧ Q (.bl true) H
theorem callIsC {C : Addr} (c : C8.InsC X.K C) : CallR X (.builtin "isinstance") (rIsC C) := C8.call_isC c
theorem isi_of {x : V} {a b : String} {r : Bool} (ty : TyOf K H x (.type a)) (h : kitB a b = some r) (q : Q (.bl r) H) : rIsi K [x, .ty b] H Q := wp_isi (.base ty) (kit_ty h) q
theorem is_non_int (q : Q (.bl false) H) : rIsi K [.non, .ty "int"] H Q := isi_of (.non) (by decide +kernel) q
theorem is_non_bool (q : Q (.bl false) H) : rIsi K [.non, .ty "bool"] H Q := isi_of (.non) (by decide +kernel) q
theorem is_non_str (q : Q (.bl false) H) : rIsi K [.non, .ty "str"] H Q := isi_of (.non) (by decide +kernel) q
theorem is_non_dict (q : Q (.bl false) H) : rIsi K [.non, .ty "dict"] H Q := isi_of (.non) (by decide +kernel) q
theorem is_non_list (q : Q (.bl false) H) : rIsi K [.non, .ty "list"] H Q := isi_of (.non) (by decide +kernel) q
theorem is_non_tuple (q : Q (.bl false) H) : rIsi K [.non, .ty "tuple"] H Q := isi_of (.non) (by decide +kernel) q
theorem is_bl_int {b : Bool} (q : Q (.bl true) H) : rIsi K [.bl b, .ty "int"] H Q := isi_of (.bl b) (by decide +kernel) q
theorem is_bl_bool {b : Bool} (q : Q (.bl true) H) : rIsi K [.bl b, .ty "bool"] H Q := isi_of (.bl b) (by decide +kernel) q
theorem is_bl_str {b : Bool} (q : Q (.bl false) H) : rIsi K [.bl b, .ty "str"] H Q := isi_of (.bl b) (by decide +kernel) q
theorem is_bl_dict {b : Bool} (q : Q (.bl false) H) : rIsi K [.bl b, .ty "dict"] H Q := isi_of (.bl b) (by decide +kernel) q
theorem is_bl_list {b : Bool} (q : Q (.bl false) H) : rIsi K [.bl b, .ty "list"] H Q := isi_of (.bl b) (by decide +kernel) q
theorem is_bl_tuple {b : Bool} (q : Q (.bl false) H) : rIsi K [.bl b, .ty "tuple"] H Q := isi_of (.bl b) (by decide +kernel) q
theorem is_int_int {i : Int} (q : Q (.bl true) H) : rIsi K [.int i, .ty "int"] H Q := isi_of (.int i) (by decide +kernel) q
theorem is_int_bool {i : Int} (q : Q (.bl false) H) : rIsi K [.int i, .ty "bool"] H Q := isi_of (.int i) (by decide +kernel) q
theorem is_int_str {i : Int} (q : Q (.bl false) H) : rIsi K [.int i, .ty "str"] H Q := isi_of (.int i) (by decide +kernel) q
theorem is_int_dict {i : Int} (q : Q (.bl false) H) : rIsi K [.int i, .ty "dict"] H Q := isi_of (.int i) (by decide +kernel) q
theorem is_int_list {i : Int} (q : Q (.bl false) H) : rIsi K [.int i, .ty "list"] H Q := isi_of (.int i) (by decide +kernel) q
theorem is_int_tuple {i : Int} (q : Q (.bl false) H) : rIsi K [.int i, .ty "tuple"] H Q := isi_of (.int i) (by decide +kernel) q
theorem is_str_int {z : Str} (q : Q (.bl false) H) : rIsi K [.str z, .ty "int"] H Q := isi_of (.str z) (by decide +kernel) q
theorem is_str_bool {z : Str} (q : Q (.bl false) H) : rIsi K [.str z, .ty "bool"] H Q := isi_of (.str z) (by decide +kernel) q
theorem is_str_str {z : Str} (q : Q (.bl true) H) : rIsi K [.str z, .ty "str"] H Q := isi_of (.str z) (by decide +kernel) q
theorem is_str_dict {z : Str} (q : Q (.bl false) H) : rIsi K [.str z, .ty "dict"] H Q := isi_of (.str z) (by decide +kernel) q
theorem is_str_list {z : Str} (q : Q (.bl false) H) : rIsi K [.str z, .ty "list"] H Q := isi_of (.str z) (by decide +kernel) q
theorem is_str_tuple {z : Str} (q : Q (.bl false) H) : rIsi K [.str z, .ty "tuple"] H Q := isi_of (.str z) (by decide +kernel) q
theorem is_lst_int {a : Addr} {xs : List V} (e : H a = some (.lst xs)) (q : Q (.bl false) H) : rIsi K [.ref a, .ty "int"] H Q := isi_of (.lst e) (by decide +kernel) q
theorem is_lst_bool {a : Addr} {xs : List V} (e : H a = some (.lst xs)) (q : Q (.bl false) H) : rIsi K [.ref a, .ty "bool"] H Q := isi_of (.lst e) (by decide +kernel) q
theorem is_lst_str {a : Addr} {xs : List V} (e : H a = some (.lst xs)) (q : Q (.bl false) H) : rIsi K [.ref a, .ty "str"] H Q := isi_of (.lst e) (by decide +kernel) q
theorem is_lst_dict {a : Addr} {xs : List V} (e : H a = some (.lst xs)) (q : Q (.bl false) H) : rIsi K [.ref a, .ty "dict"] H Q := isi_of (.lst e) (by decide +kernel) q
theorem is_lst_list {a : Addr} {xs : List V} (e : H a = some (.lst xs)) (q : Q (.bl true) H) : rIsi K [.ref a, .ty "list"] H Q := isi_of (.lst e) (by decide +kernel) q
theorem is_lst_tuple {a : Addr} {xs : List V} (e : H a = some (.lst xs)) (q : Q (.bl false) H) : rIsi K [.ref a, .ty "tuple"] H Q := isi_of (.lst e) (by decide +kernel) q
theorem is_tup_int {a : Addr} {xs : List V} (e : H a = some (.tup xs)) (q : Q (.bl false) H) : rIsi K [.ref a, .ty "int"] H Q := isi_of (.tup e) (by decide +kernel) q
theorem is_tup_bool {a : Addr} {xs : List V} (e : H a = some (.tup xs)) (q : Q (.bl false) H) : rIsi K [.ref a, .ty "bool"] H Q := isi_of (.tup e) (by decide +kernel) q
theorem is_tup_str {a : Addr} {xs : List V} (e : H a = some (.tup xs)) (q : Q (.bl false) H) : rIsi K [.ref a, .ty "str"] H Q := isi_of (.tup e) (by decide +kernel) q
theorem is_tup_dict {a : Addr} {xs : List V} (e : H a = some (.tup xs)) (q : Q (.bl false) H) : rIsi K [.ref a, .ty "dict"] H Q := isi_of (.tup e) (by decide +kernel) q
theorem is_tup_list {a : Addr} {xs : List V} (e : H a = some (.tup xs)) (q : Q (.bl false) H) : rIsi K [.ref a, .ty "list"] H Q := isi_of (.tup e) (by decide +kernel) q
theorem is_tup_tuple {a : Addr} {xs : List V} (e : H a = some (.tup xs)) (q : Q (.bl true) H) : rIsi K [.ref a, .ty "tuple"] H Q := isi_of (.tup e) (by decide +kernel) q
theorem is_dK_int {a : Addr} {kvs : List (Key × V)} (e : H a = some (.dK kvs)) (q : Q (.bl false) H) : rIsi K [.ref a, .ty "int"] H Q := isi_of (.dK e) (by decide +kernel) q
theorem is_dK_bool {a : Addr} {kvs : List (Key × V)} (e : H a = some (.dK kvs)) (q : Q (.bl false) H) : rIsi K [.ref a, .ty "bool"] H Q := isi_of (.dK e) (by decide +kernel) q
theorem is_dK_str {a : Addr} {kvs : List (Key × V)} (e : H a = some (.dK kvs)) (q : Q (.bl false) H) : rIsi K [.ref a, .ty "str"] H Q := isi_of (.dK e) (by decide +kernel) q
theorem is_dK_dict {a : Addr} {kvs : List (Key × V)} (e : H a = some (.dK kvs)) (q : Q (.bl true) H) : rIsi K [.ref a, .ty "dict"] H Q := isi_of (.dK e) (by decide +kernel) q
theorem is_dK_list {a : Addr} {kvs : List (Key × V)} (e : H a = some (.dK kvs)) (q : Q (.bl false) H) : rIsi K [.ref a, .ty "list"] H Q := isi_of (.dK e) (by decide +kernel) q
theorem is_dK_tuple {a : Addr} {kvs : List (Key × V)} (e : H a = some (.dK kvs)) (q : Q (.bl false) H) : rIsi K [.ref a, .ty "tuple"] H Q := isi_of (.dK e) (by decide +kernel) q
end
/-! ### what the head tells, by Bools -/
section
open PySem.W
def gAd (K : Frag) (C : Addr) (f : Str) : Addr := match recIn K (He.ma K C f) "property" with
  | some (.ref g :: _) => g
  | _ => 0
def bProp (x f : Str) (K : Frag) : Bool :=
  He.eqO (findIn K (.ref (He.ga K x)) f) (some (some (.ref (He.ma K (He.ga K x) f)))) && (He.eqO (specialIn K (.ref (He.ma K (He.ga K x) f)) "__get__") (some (some (.builtin "property.__get__"))) &&
    (decide (takesIn K (.ref (He.ma K (He.ga K x) f)) = some true) && (match recIn K (He.ma K (He.ga K x) f) "property" with
      | some (.ref _ :: _) => true
      | _ => false)))
theorem bProp_ok {x f : Str} {K : Frag} (h : bProp x f K = true) : PropOf K (He.ga K x) f (He.ma K (He.ga K x) f) (gAd K (He.ga K x) f) := by
  obtain ⟨h1, h⟩ := He.ba h
  obtain ⟨h2, h⟩ := He.ba h
  obtain ⟨h3, h4⟩ := He.ba h
  refine ⟨He.eqO_ok h1, He.eqO_ok h2, of_decide_eq_true h3, ?_⟩
  unfold gAd
  cases e : recIn K (He.ma K (He.ga K x) f) "property" with
  | none => rw [e] at h4; cases h4
  | some l =>
    rw [e] at h4
    cases l with
    | nil => cases h4
    | cons v r =>
      cases v with
      | ref g => exact ⟨r, rfl⟩
      | _ => cases h4
def bRead (x : Str) (K : Frag) : Bool := readsIn K (He.ga K x) (.type "type") && He.eqO (specialIn K (.ref (He.ga K x)) "__getattribute__") (some (some (.builtin "type.__getattribute__")))
theorem bRead_ok {x : Str} {K : Frag} (h : bRead x K = true) : ClX.CRead K (He.ga K x) (.type "type") := by
  obtain ⟨h1, h2⟩ := He.ba h
  exact ⟨h1, He.eqO_ok h2⟩
def bCval (x f : Str) (i : Int) (K : Frag) : Bool := match findCls K (.ref (He.ga K x)) (.type "type") f with
  | some (.val (.int j _)) => decide (j = i)
  | _ => false
theorem bCval_ok {x f : Str} {i : Int} {K : Frag} (h : bCval x f i K = true) : ∃ u, ClX.CVal K (He.ga K x) (.type "type") f (.int i) u := by
  unfold bCval at h
  cases e : findCls K (.ref (He.ga K x)) (.type "type") f with
  | none => rw [e] at h; cases h
  | some c =>
    rw [e] at h
    cases c with
    | val u =>
      cases u with
      | int j t =>
        have ej : j = i := of_decide_eq_true h
        subst ej
        exact ⟨_, e, ⟨t, rfl⟩⟩
      | _ => cases h
    | _ => cases h
def bIns (x : Str) (K : Frag) : Bool := He.eqO (findIn K (.ref (He.ga K x)) "__class__") (some (some (.builtin "object.__class__"))) && (He.eqO (specialIn K (.builtin "object.__class__") "__get__") (some (some (.builtin "getset_descriptor.__get__"))) &&
  (decide (takesIn K (.builtin "object.__class__") = some true) && decide (mroIn K (He.ga K x) (.type "object") = some true)))
theorem bIns_ok {x : Str} {K : Frag} (c : Cls K (He.ga K x)) (h : bIns x K = true) : C8.InsC K (He.ga K x) := by
  obtain ⟨h1, h⟩ := He.ba h
  obtain ⟨h2, h⟩ := He.ba h
  obtain ⟨h3, h4⟩ := He.ba h
  exact ⟨c, He.eqO_ok h1, He.eqO_ok h2, of_decide_eq_true h3, of_decide_eq_true h4, by unfold kitOne; rw [if_pos (by simp)]⟩
/-- a def of the text, by a way to its address -/
structure DX where
  at_ : Frag → Addr
  name : Str
  qual : Str
  params : Arguments
  body : List Stmt
  scope : Scope
  dfl : List He.Dv := []
  kwd : List (Str × He.Dv) := []
def fnX (K : Frag) (a : Addr) : He.FnW := match K.lookup a with
  | some ⟨_, _, .func fd, _⟩ => some (fd.name, fd.qualname, fd.params, fd.body, fd.scope, fd.globals, fd.closure, fd.builtins)
  | _ => none
def DX.val (d : DX) : He.FnW := some (d.name, d.qual, d.params, .stmts d.body, d.scope, mainGlobals, [], builtinsNs)
def DX.ok (K : Frag) (d : DX) : Bool := keepIn K (.ref (d.at_ K)) && (match K.lookup (d.at_ K) with
  | some ⟨_, _, .func fd, _⟩ => codeIn K fd.code d.qual && (He.dflB K fd.defaults (d.dfl.map (He.Dv.v K)) && He.kwdB K fd.kwdefaults (d.kwd.map fun q => (q.1, q.2.v K)))
  | _ => false)
theorem DX.funD {K : Frag} {d : DX} (e : fnX K (d.at_ K) = d.val) (c : d.ok K = true) : ∃ fd, FunD K d.name d.qual d.params d.body d.scope (d.dfl.map (He.Dv.v K)) (d.kwd.map fun q => (q.1, q.2.v K)) (d.at_ K) fd := by
  obtain ⟨kp, c2⟩ := He.ba c
  unfold fnX at e
  split at e
  · rename_i oc od fd osl q
    rw [q] at c2
    obtain ⟨k1, k2⟩ := He.ba c2
    obtain ⟨k3, k4⟩ := He.ba k2
    obtain ⟨n1, n2, n3, n4, n5, n6, n7, n8, n9, n10, n11, n12, n13, n14, n15⟩ := fd
    unfold DX.val at e
    simp only [Option.some.injEq, Prod.mk.injEq] at e
    obtain ⟨h1, h2, h3, h4, h5, h6, h7, h8⟩ := e
    subst h1 h2 h3 h4 h5 h6 h7 h8
    exact ⟨_, ⟨oc, od, n8, n9, n10, n11, n12, n13, n14, osl, rfl, q, k1, He.dflB_ok k3, He.kwdB_ok k4⟩, kp⟩
  · cases e
abbrev AlX : Type := Bool × List He.FnW
def obsX (bs : List (Frag → Bool)) (fa : List He.Fa) (fn : List DX) (K : Frag) : AlX := ((bs.all fun b => b K) && ((fa.all fun f => f.ok K) && fn.all fun d => d.ok K), fn.map fun d => fnX K (d.at_ K))
def valX (fn : List DX) : AlX := (true, fn.map DX.val)
def SaysX (bs : List (Frag → Bool)) (fa : List He.Fa) (fn : List DX) (K : Frag) : Prop := obsX bs fa fn K = valX fn
def obsXG (n : Nat) (bs : List (Frag → Bool)) (fa : List He.Fa) (fn : List DX) (g : Addr → Option Obj) : AlX := obsX bs fa fn (He.frG g (cStatics :: He.asD g n))
def hookX (n : Nat) (bs : List (Frag → Bool)) (fa : List He.Fa) (fn : List DX) : Hook where
  α := AlX
  obs := fun s => obsXG n bs fa fn s.heap.get?
  val := fun _ => valX fn
  says := fun _ h => ∃ K : Frag, K.In h ∧ SaysX bs fa fn K
  of := fun _ _ e => ⟨_, He.frG_in, e⟩
  keeps := fun _ _ _ ⟨K, hK, c⟩ k => ⟨K, Frag.In.keeps hK k, c⟩
theorem obsXG_eq {n : Nat} {bs : List (Frag → Bool)} {fa : List He.Fa} {fn : List DX} {g : Addr → Option Obj} {s : Shared} (h : ∀ a, g a = s.heap.get? a) : obsXG n bs fa fn g = (hookX n bs fa fn).obs s := by
  have e : g = s.heap.get? := funext h
  rw [e] <;> rfl
variable {bs : List (Frag → Bool)} {fa : List He.Fa} {fn : List DX} {K : Frag}
theorem SaysX.b (c : SaysX bs fa fn K) (i : Nat) {f : Frag → Bool} (h : bs[i]? = some f := by rfl) : f K = true :=
  List.all_eq_true.mp (He.ba (show ((bs.all fun b => b K) && ((fa.all fun f => f.ok K) && fn.all fun d => d.ok K)) = true from congrArg (fun z : AlX => z.1) c)).1 f (List.mem_of_getElem? h)
theorem SaysX.fact (c : SaysX bs fa fn K) (i : Nat) {f : He.Fa} (h : fa[i]? = some f := by rfl) : f.ok K = true :=
  List.all_eq_true.mp (He.ba (He.ba (show ((bs.all fun b => b K) && ((fa.all fun f => f.ok K) && fn.all fun d => d.ok K)) = true from congrArg (fun z : AlX => z.1) c)).2).1 f (List.mem_of_getElem? h)
theorem SaysX.def_ (c : SaysX bs fa fn K) (i : Nat) {d : DX} (h : fn[i]? = some d := by rfl) : ∃ fd, FunD K d.name d.qual d.params d.body d.scope (d.dfl.map (He.Dv.v K)) (d.kwd.map fun q => (q.1, q.2.v K)) (d.at_ K) fd := by
  have c2 := (He.ba (He.ba (show ((bs.all fun b => b K) && ((fa.all fun f => f.ok K) && fn.all fun d => d.ok K)) = true from congrArg (fun z : AlX => z.1) c)).2).2
  have e : fn.map (fun d => fnX K (d.at_ K)) = fn.map DX.val := congrArg (fun z : AlX => z.2) c
  have e2 : (fn.map fun d => fnX K (d.at_ K))[i]? = (fn.map DX.val)[i]? := by rw [e]
  rw [List.getElem?_map, List.getElem?_map, h] at e2
  exact DX.funD (Option.some.inj e2) (List.all_eq_true.mp c2 d (List.mem_of_getElem? h))
end
end RM
namespace RM
open PySem PySem.Spec PyProof.Rows L2
/-! ### defs that raise -/
section
variable {P : Program} {w : World} {K : PySem.W.Frag} {mg : Str → Option Value} {base : Heap} {N : List Str} {qual : Str} {scope : Scope} {f : Addr} {cd : Value} {A : Around} {outer : List Env} {s : Shared} {H : Hp} {E : XK}
/-- the wish about exceptions inside a def -/
theorem tkOf : Takes (cxOf (L2.CX P w) P w K mg base N qual scope f cd A outer s H E) (fun cls d _ H => E cls d H) := takes_of rfl rfl rfl rfl
theorem pxOf : Passes (L2.CX P w) (cxOf (L2.CX P w) P w K mg base N qual scope f cd A outer s H E) E := passes_call tkOf fun _ _ _ _ h => h
theorem poOf : PassesOwn (model P w) (A.deeper (envOfC qual scope s.heap.objs.size f cd)) (envOfC qual scope s.heap.objs.size f cd) (cxOf (L2.CX P w) P w K mg base N qual scope f cd A outer s H E).xe := passes_of rfl
end
/-! ### an exception with fields -/
/-- it was raised: class C, these fields, all else as it was -/
def Rzd (C : Addr) (fs : List (Str × V)) (E : XK) (H : Hp) : Prop := ∀ (d : Addr) (H' : Hp), Same H H' → H d = none → H' d = some (.xd fs) → E (.ref C) (some d) H'
theorem Rzd.mono {C : Addr} {fs : List (Str × V)} {E : XK} {H H2 : Hp} (h : Rzd C fs E H) (s : Same H H2) : Rzd C fs E H2 := fun d H' s2 hd hx => h d H' (s.trans s2) (s.free hd) hx
/-- what an exception class must say -/
structure ExK (K : PySem.W.Frag) (C fI : Addr) : Prop where
  o : OexC K C
  i : PySem.W.findIn K (.ref C) "__init__" = some (some (.ref fI))
  t : PySem.W.typeIn K (.ref fI) = some (.type "function")
/-- an exception class that may be made: sp is its __init__ -/
structure XMk (P : Program) (w : World) (K : PySem.W.Frag) (mg : Str → Option Value) (base : Heap) (k : Nat) (x : Str) (C : Addr) (sp : Sp) : Prop where
  ex : ∃ (fI : Addr) (fd : FuncData) (ps : List Str), ExK K C fI ∧ FnOk P w K mg base CX0 k fI fd ps sp ∧ Binds K fd ps [] ∧ mg x = some (.ref C)
/-- the promise of an __init__ that stores its arguments -/
def spX (C : Addr) (fs : List Str) : Sp := fun vs H Q _ => ∃ (a : Addr) (ws : List V), vs = .ref a :: ws ∧ ws.length = fs.length ∧ H a = some (exo a C none) ∧
  ∀ (dx : Addr) (H' : Hp), H dx = none → dx ≠ a → (∀ b o, b ≠ a → b ≠ dx → H b = some o → H' b = some o) → H' a = some (exo a C (some dx)) → H' dx = some (exd dx (fs.zip ws).reverse) → Q .non H'
theorem len_spX {C : Addr} {fs : List Str} {vs : List V} {H : Hp} {Q : VK} {E : XK} (h : spX C fs vs H Q E) : vs.length = fs.length + 1 := by
  obtain ⟨a, ws, rfl, hl, _⟩ := h
  rw [List.length_cons, hl]
section
variable {K : PySem.W.Frag} {C : Addr} {f g p0 p1 p2 : Str} {vs : List V} {H : Hp} {Q : VK} {E : XK}
theorem ini1 (o : OexC K C) (n : PySem.W.findIn K (.ref C) f = some none) (h : spX C [f] vs H Q E) : tOst K f (tVar 0) (tVar 1) { nx := fun _ H' => Q .non H', rt := Q } (L2.start [p0, p1] vs) H := by
  obtain ⟨a, ws, rfl, hl, ha, k⟩ := h
  match ws, hl with
  | [v], _ =>
    refine ⟨v, rfl, .ref a, rfl, a, C, rfl, o, n, .inl ⟨ha, fun dx hdx nd => k dx _ hdx nd (fun b u h1 h2 hb => ?_) upd_same (by rw [upd_ne nd]; exact upd_same)⟩⟩
    rw [upd_ne h1, upd_ne h2]; exact hb
theorem ini2 (o : OexC K C) (n : PySem.W.findIn K (.ref C) f = some none) (n2 : PySem.W.findIn K (.ref C) g = some none) (h : spX C [f, g] vs H Q E) :
    tSeq (tOst K f (tVar 0) (tVar 1)) (tOst K g (tVar 0) (tVar 2)) { nx := fun _ H' => Q .non H', rt := Q } (L2.start [p0, p1, p2] vs) H := by
  obtain ⟨a, ws, rfl, hl, ha, k⟩ := h
  match ws, hl with
  | [v, z], _ =>
    refine ⟨v, rfl, .ref a, rfl, a, C, rfl, o, n, .inl ⟨ha, fun dx hdx nd => ?_⟩⟩
    refine ⟨z, rfl, .ref a, rfl, a, C, rfl, o, n2, .inr ⟨dx, _, upd_same, by rw [upd_ne nd]; exact upd_same, by simp, ?_⟩⟩
    refine k dx _ hdx nd (fun b u h1 h2 hb => ?_) (by rw [upd_ne nd.symm]; exact upd_same) upd_same
    rw [upd_ne h2, upd_ne h1, upd_ne h2]; exact hb
end
/-- raise C(..): the made exception flies -/
def RsW (C : Addr) (fs : List Str) (E : XK) (vs : List V) (H1 : Hp) : Prop := vs.length ≤ 1000 ∧ ∀ a, H1 a = none → spX C fs (.ref a :: (vs ++ [])) (upd H1 a (exo a C none))
  (fun v H2 => v = .non ∧ ∃ (d : Addr) (gs : List (Str × V)), H2 a = some (exo a C (some d)) ∧ H2 d = some (exd d gs) ∧ H1 d = none ∧ E (.ref C) (some d) (upd (L2.del H2 a) d (.xd gs))) (fun _ _ _ => False)
def tRs (C : Addr) (fs : List Str) (E : XK) (ta : TA) : TS := fun _ σ H => ta σ H fun vs H1 => RsW C fs E vs H1
theorem rs_of {C : Addr} {fs : List Str} {E : XK} {vs : List V} {H1 : Hp} (hl : vs.length = fs.length) (hf : fs.length ≤ 1000) (h : Rzd C (fs.zip vs).reverse E H1) : RsW C fs E vs H1 := by
  refine ⟨by omega, fun a ha => ⟨a, vs, by rw [List.append_nil], hl, upd_same, fun dx H' hdx nd hk h1 h2 => ⟨rfl, dx, _, h1, h2, ?_, ?_⟩⟩⟩
  · rw [upd_ne nd] at hdx; exact hdx
  · rw [upd_ne nd] at hdx
    refine h dx _ (fun b o hb => ?_) hdx upd_same
    have nb : b ≠ a := ne_of_none hb ha
    have nd2 : b ≠ dx := ne_of_none hb hdx
    rw [upd_ne nd2, L2.del_ne nb]
    exact hk b o nb nd2 (by rw [upd_ne nb]; exact hb)
section
variable {X : Cx} {k j : Nat} {x : Str} {C : Addr} {fs : List Str} {e : Expr} {es : List Expr} {p pos pos' : Pos} {ta : TA} {t : TA} {E : XK} {W : WX} {sp : Sp} {dvs : List V}
theorem ps_rs (c : XMk X.prog X.w X.K X.mg X.base k x C (spX C fs)) (hr : Room j X.A) (hk : k + 1 ≤ j) (calm : X.calm = true) (tk : Takes X (fun cls d _ H => E cls d H)) (hg : Gl X x) (ha : PA X (e :: es) ta)
    (hdb : (x == ("__debug__" : Str)) = false := by decide) (he : starEach (e :: es) X.env = (false, eval e X.env) :: starEach es X.env := by rfl) (hpl : (backTo pos (starEach es X.env)).any (·.1) = false := by rfl) :
    PS X (.Raise (some (.Call (.Name x p) (e :: es) [] pos)) none pos') (tRs C fs E ta) := by
  obtain ⟨fI, fd, ps, q, F, hb, hm⟩ := c.ex
  have mk := pmk_oex (p := p) (pos := pos) (dvs := []) (ds := []) q.o q.i q.t F (hr.mono hk) hb .nil C8.pass0 hg hm ha hdb he hpl
  exact ps_raise (pos := pos') calm tk mk
/-! ### calls of what may raise -/
structure CalX (P : Program) (w : World) (K : PySem.W.Frag) (mg : Str → Option Value) (base : Heap) (k : Nat) (x : Str) (sp : Sp) (dvs : List V) : Prop where
  ex : ∃ (f : Addr) (fd : FuncData) (ps : List Str) (ds : List Value), FnOk P w K mg base (L2.CX P w) k f fd ps sp ∧ mg x = some (.ref f) ∧ PySem.W.keepIn K (.ref f) = true ∧ Binds K fd ps ds ∧ Vals dvs ds
structure MakX (P : Program) (w : World) (K : PySem.W.Frag) (mg : Str → Option Value) (base : Heap) (k : Nat) (x : Str) (C : Addr) (sp : Sp) (dvs : List V) : Prop where
  ex : ∃ (f : Addr) (fd : FuncData) (ps : List Str) (ds : List Value), Mk K C f ∧ FnOk P w K mg base (L2.CX P w) k f fd ps sp ∧ mg x = some (.ref C) ∧ Binds K fd ps ds ∧ Vals dvs ds
theorem pe_cX (c : CalX X.prog X.w X.K X.mg X.base k x sp dvs) (hr : Room j X.A) (hk : k ≤ j) (hg : Gl X x) (hx : Passes (L2.CX X.prog X.w) X E) (ha : PA X (e :: es) t)
    (hdb : (x == ("__debug__" : Str)) = false := by decide) (he : starEach (e :: es) X.env = (false, eval e X.env) :: starEach es X.env := by rfl) (hpl : (backTo pos (starEach es X.env)).any (·.1) = false := by rfl) :
    PE X (.Call (.Name x p) (e :: es) [] pos) (tCall sp dvs E t) := by
  obtain ⟨f, fd, ps, ds, F, hm, kp, b, d⟩ := c.ex
  exact pe_call F (hr.mono hk) hg hm kp b d hx ha hdb he hpl
theorem pe_mkX (c : MakX X.prog X.w X.K X.mg X.base k x C sp dvs) (hr : Room j X.A) (hk : k + 1 ≤ j) (hg : Gl X x) (hx : Passes (L2.CX X.prog X.w) X E) (ha : PA X (e :: es) t)
    (hdb : (x == ("__debug__" : Str)) = false := by decide) (he : starEach (e :: es) X.env = (false, eval e X.env) :: starEach es X.env := by rfl) (hpl : (backTo pos (starEach es X.env)).any (·.1) = false := by rfl) :
    PE X (.Call (.Name x p) (e :: es) [] pos) (tMake C sp dvs E t) := by
  obtain ⟨f, fd, ps, ds, M, F, hm, b, d⟩ := c.ex
  exact pe_make M F (hr.mono hk) hg hm b d hx ha hdb he hpl
/-! ### the same inside a try: the wish may speak of the slots -/
theorem pe_cS (c : CalX X.prog X.w X.K X.mg X.base k x sp []) (hr : Room j X.A) (hk : k ≤ j) (hg : Gl X x) (tk : Takes X W) (ha : PA X (e :: es) t)
    (hdb : (x == ("__debug__" : Str)) = false := by decide) (he : starEach (e :: es) X.env = (false, eval e X.env) :: starEach es X.env := by rfl) (hpl : (backTo pos (starEach es X.env)).any (·.1) = false := by rfl) :
    PE X (.Call (.Name x p) (e :: es) [] pos) (tCallS sp (WE W) t) := by
  obtain ⟨f, fd, ps, ds, F, hm, kp, b, d⟩ := c.ex
  cases d
  exact pe_callS F (hr.mono hk) hg hm kp b (passAt tk) ha hdb he hpl
def tMakeS (C : Addr) (sp : Sp) (E : L2.St → XK) (t : TA) : TE := fun σ H Q => t σ H fun vs H1 => ∀ x dx, H1 x = none → H1 dx = none → dx ≠ x → sp (.ref x :: vs) (upd (upd H1 dx (.own x)) x (.ins C dx [])) (fun v H2 => v = .non ∧ Q (.ref x) H2) (E σ)
theorem run_mkS {pins : List (Addr × Obj)} {σ : L2.St} {H : Hp} {s : Shared} {Q : VK} {us : List Value} {vs : List V} {f : Addr} {fd : FuncData} {ps : List Str} (M : Mk X.K C f) (F : FnOk X.prog X.w X.K X.mg X.base (L2.CX X.prog X.w) k f fd ps sp) (hr : Room (k + 1) X.A) (hb : Binds X.K fd ps []) (tk : Takes X W)
    (I : Inv X pins σ H s) (r : Vals vs us) (h : ∀ x dx, H x = none → H dx = none → dx ≠ x → sp (.ref x :: vs) (upd (upd H dx (.own x)) x (.ins C dx [])) (fun v H2 => v = .non ∧ Q (.ref x) H2) (WE W σ)) :
    wpAny (model X.prog X.w) X.A (call (.ref C) us) (EP X pins σ Q) X.xe s := by
  have want := h (s.heap.objs.size + 1) s.heap.objs.size (I.hok.fresh (Nat.le_succ _)) (I.hok.fresh (Nat.le_refl _)) (Nat.ne_of_lt (Nat.lt_succ_self _))
  have J := Inv.made (C := C) I
  have rel : Vals (V.ref (s.heap.objs.size + 1) :: vs) (Value.ref (s.heap.objs.size + 1) :: us) := .cons rfl r
  have cnt : (Value.ref (s.heap.objs.size + 1) :: us ++ ([] : List Value)).length = ps.length := by
    rw [List.append_nil, ← rel.length]
    exact F.len _ _ _ _ want
  have bnd := hb _ (Value.ref (s.heap.objs.size + 1) :: us) J.kIn cnt
  rw [List.append_nil] at bnd
  refine wpAny_call (make_map (f := f) I.kIn M.makes M.init (beq_iff_eq.mp M.fn) (codeAny_mono (F.run _ X.stack _ _ ⟨_, []⟩ _ _ _ _ (hr.make C us []) (J.env0.make C us []) bnd rel want) fun r s' z => ?_))
  match r with
  | .error e => exact passAt tk σ pins _ _ e s' J z
  | .ok (.ret u) =>
    obtain ⟨v, H', I3, rv, ev, q3⟩ := J.after z
    subst ev
    exact ⟨rv, V.ref (s.heap.objs.size + 1), H', I3, rfl, q3⟩
  | .ok .next => exact z.elim
  | .ok .brk => exact z.elim
  | .ok .cont => exact z.elim
theorem pe_mkS (c : MakX X.prog X.w X.K X.mg X.base k x C sp []) (hr : Room j X.A) (hk : k + 1 ≤ j) (hg : Gl X x) (tk : Takes X W) (ha : PA X (e :: es) t)
    (hdb : (x == ("__debug__" : Str)) = false := by decide) (he : starEach (e :: es) X.env = (false, eval e X.env) :: starEach es X.env := by rfl) (hpl : (backTo pos (starEach es X.env)).any (·.1) = false := by rfl) :
    PE X (.Call (.Name x p) (e :: es) [] pos) (tMakeS C sp (WE W) t) := by
  obtain ⟨f, fd, ps, ds, M, F, hm, b, d⟩ := c.ex
  cases d
  refine ⟨fun pins s σ H Q I h => wpAny_Call_Name_kw (ld_glob I hg hm ?_ hdb)⟩
  refine PySem.W.callWith_K (h₀ := X.base) I.ok.mod.kin M.kp (thn (ha.run pos pins s σ H _ I h) fun us s1 ⟨vs, H1, I1, r, q⟩ => ⟨I1.kIn, ?_⟩) he hpl
  exact run_mkS M F (hr.mono hk) b tk I1 r q
end
/-! ### try: body, some clauses 'except x as n' with one name n -/
abbrev Sui := Addr → Value → Option Addr → TS
def wAsM (K : PySem.W.Frag) (i : Nat) (Wout : WX) (D : Ends) : List (Value × Sui) → WX
  | [] => Wout
  | (c, ts) :: r => fun cls d σ H => ∃ b, PySem.W.exmOne K cls c = some b ∧
      (b = true → ∀ a, H a = none → ts a cls d { nx := fun σ' H' => D.nx (σ'.set i none) H', rt := D.rt, bk := fun σ' H' => D.bk (σ'.set i none) H', ct := fun σ' H' => D.ct (σ'.set i none) H' } (σ.set i (some (.ref a))) H) ∧ (b = false → wAsM K i Wout D r cls d σ H)
def tTry (K : PySem.W.Frag) (i : Nat) (tb : WX → TS) (l : List (Value × Sui)) : TS := fun D σ H => tb (wAsM K i (fun _ _ _ _ => False) D l) D σ H
inductive HdA (X : Cx) (n : Str) : List ExceptHandler → List (Value × Sui) → Prop
  | nil : HdA X n [] []
  | cons {x : Str} {c : Value} {ts : Sui} {b0 : Stmt} {more : List Stmt} {np hp : Pos} {hds : List ExceptHandler} {l : List (Value × Sui)} (nm : Names X x c)
      (su : ∀ (a : Addr) (oe : Obj) (cls : Value) (d : Option Addr) (pn : List (Addr × Obj)), Zc cls d oe → (∃ vs, oe.data = .fields vs) → PSs (X.suite a ((a, oe) :: pn)) (b0 :: more) (ts a cls d)) (r : HdA X n hds l) :
      HdA X n (.ExceptHandler (some (.Name x np)) (some n) (b0 :: more) hp :: hds) ((c, ts) :: l)
section
variable {X : Cx} {body : List Stmt} {h0 : ExceptHandler} {hds : List ExceptHandler} {l : List (Value × Sui)} {pos : Pos} {tb : WX → TS} {n : Str} {i : Nat}
theorem ps_try_asm (stk : X.stack = X.env :: X.outer) (frm : X.env.frame = some X.env.locals) (nod : X.N.Nodup) (at_ : X.N[i]? = some n) (loc : X.env.kindOf n = some .local)
    (hb : ∀ (W : WX) (pn : List (Addr × Obj)) (xe : Value → Shared → Prop), Takes (X.tr pn xe) W → PassesOwn (model X.prog X.w) X.A X.env xe → PSs (X.tr pn xe) body (tb W))
    (hh : HdA X n (h0 :: hds) l) : PS X (.Try body (h0 :: hds) [] [] pos) (tTry X.K i tb l) := by
  refine ⟨fun pins s σ H D I h => ?_⟩
  have ok := I.ok
  have frs' : X.A.frames = some (X.env :: X.outer) := by rw [ok.frames, stk]
  refine wpAny_Try_except ?_
  have runs := (hb (wAsM X.K i (fun _ _ _ _ => False) D l) (X.pn ++ pins) (fun e s₁ => wpAny (model X.prog X.w) X.A (noteFrame e X.env) (fun _ s₂ => wpAny (model X.prog X.w) X.A (setFlight e none) (fun _ s₃ =>
    wpAny (model X.prog X.w) X.A (handleBy e X.env (h0 :: hds)) (SP X pins D) X.xe s₃) X.xe s₂) X.xe s₁) ?_ PassesOwn.looking).run [] s σ H D (I.toTry _) h
  · refine wpAny_mono runs (fun f s1 z => ?_) fun _ _ z => z
    match f with
    | .next => exact z.elim fun σ' z => z.elim fun H' z => wpAny_execs_nil ⟨σ', H', z.1.ofTry ok, z.2⟩
    | .brk => exact z.elim fun σ' z => z.elim fun H' z => ⟨σ', H', z.1.ofTry ok, z.2⟩
    | .cont => exact z.elim fun σ' z => z.elim fun H' z => ⟨σ', H', z.1.ofTry ok, z.2⟩
    | .ret u => exact z.elim fun v z => z.elim fun σ' z => z.elim fun H' z => ⟨v, σ', H', z.1.ofTry ok, z.2.1, z.2.2⟩
  · rintro u s' ⟨a, B, sI, pins', σ', H', cls, d, rfl, J0, nb, up, sky, na, os, ag, wish⟩
    have J : Inv X pins σ' H' sI := J0.ofTry ok
    rw [show (X.tr (X.pn ++ pins) _).stack = X.env :: X.outer from stk] at sky
    show wpAny (model X.prog X.w) X.A (noteFrame (.ref a) X.env) _ _ _
    refine Sky.land Zc.steady frs' frm sky fun h3 fl3 up3 => ?_
    have J3 : Inv X pins σ' H' { s' with heap := h3 } := J.landed nb fl3.1 (up.trans up3) os ag
    obtain ⟨oe3, vs3, he3, hz3, hd3⟩ := fl3.there
    have out : a ∉ frs (X.env :: X.outer) := fun hm => by
      obtain ⟨_, o', e', no⟩ := fl3.2.2.1.mem hm
      rw [he3] at e'
      cases e'
      exact no _ hd3
    have nL : a ≠ X.env.locals := fun z => out (List.mem_filterMap.mpr ⟨X.env, List.mem_cons_self, by rw [frm, z]⟩)
    have nF : a ∉ X.fs := fun hm => (List.mem_filterMap.mp hm).elim fun e z => out (List.mem_filterMap.mpr ⟨e, List.mem_cons_of_mem _ z.1, z.2⟩)
    have S3 := J3.suite he3 hd3 na nL nF
    have go : ∀ {hs' : List ExceptHandler} {l' : List (Value × Sui)}, HdA X n hs' l' → wAsM X.K i (fun _ _ _ _ => False) D l' cls d σ' H' →
        wpAny (model X.prog X.w) X.A (handleBy (.ref a) X.env hs') (SP X pins D) X.xe { s' with heap := h3 } := by
      intro hs' l' hk
      induction hk with
      | nil => exact fun z => z.elim
      | @cons x c ts b0 more np hp hds2 l2 nm su r ih =>
        rintro ⟨b, hb1, yes, no⟩
        refine wpAny_handleBy_cons (codeAny_handlers_test ?_) (by intro q; cases q)
        have lt : PySem.W.Looks (model X.prog X.w) h3 (typeOf (.ref a)) cls := fun A Q E s k q => wpAny_typeOf_ref (k _ _ he3) (by rw [hz3.1]; exact q)
        have lm := PySem.W.exm_one (M := model X.prog X.w) J3.kIn lt hb1
        have nam : ∀ {Q : Value → Shared → Prop} {E : Value → Shared → Prop}, Q c { s' with heap := h3 } → wpAny (model X.prog X.w) (X.A.mark (some (.ref a))) (eval (.Name x np) X.env) Q E { s' with heap := h3 } := fun {Q E} q => by
          rcases nm with ⟨n1, n2, n3 | ⟨n3, n4, n5⟩⟩
          · exact ld_glob (X := X.suite a ((a, oe3) :: (X.pn ++ pins))) S3 n1 n3 q n2
          · exact ld_blt (X := X.suite a ((a, oe3) :: (X.pn ++ pins))) S3 n1 n3 n4 q n5 n2
        refine nam (lm.here ?_)
        match b, yes, no with
        | false, _, no => exact ih (no rfl)
        | true, yes, _ =>
          refine codeAny_handlers_suite_as ?_
          refine HandSPX.lands_againZ fl3 fun h4 fl4 up4 => ?_
          have J4 : Inv X pins σ' H' { s' with heap := h4 } := J.landed nb fl4.1 ((up.trans up3).trans up4) os ag
          obtain ⟨oe4, vs4, he4, hz4, hd4⟩ := fl4.there
          refine store_ok (X := X.suite a ((a, oe4) :: (X.pn ++ pins))) (v := .ref a) (J4.suite he4 hd4 na nL nF) nod at_ (.inl loc) rfl (fun s5 S5 => ?_) (.inr loc)
          refine wpAny_mono ((su a oe4 cls d (X.pn ++ pins) hz4 ⟨_, hd4⟩).run [] s5 _ H' _ S5 (yes rfl a na)) (fun f s6 z => ?_) (fun _ _ z => z.elim)
          have over : ∀ {σ6 : L2.St} {H6 : Hp} {Q : Shared → Prop}, Inv (X.suite a ((a, oe4) :: (X.pn ++ pins))) [] σ6 H6 s6 → (∀ s7, Inv X pins (σ6.set i none) H6 s7 → Q s7) →
              wpAny (model X.prog X.w) X.A (do bindName X.env n .none; unbindBehindTheSuite X.env n hp) (fun _ s7 => Q s7) X.xe s6 := fun S6 hq => gone_ok (S6.unsuite ok) nod at_ loc hq
          match f with
          | .next => exact z.elim fun σ6 z => z.elim fun H6 z => over z.1 fun s7 J7 => ⟨_, _, J7, z.2⟩
          | .brk => exact z.elim fun σ6 z => z.elim fun H6 z => over z.1 fun s7 J7 => ⟨_, _, J7, z.2⟩
          | .cont => exact z.elim fun σ6 z => z.elim fun H6 z => over z.1 fun s7 J7 => ⟨_, _, J7, z.2⟩
          | .ret u => exact z.elim fun v z => z.elim fun σ6 z => z.elim fun H6 z => over z.1 fun s7 J7 => ⟨_, _, _, J7, z.2.1, z.2.2⟩
    exact go hh wish
end
/-! ### isinstance(e, T) in an except suite -/
structure ExI (K : PySem.W.Frag) (D : Addr) : Prop where
  cl : (PySem.W.clsIn K D).isSome = true
  hg : PySem.W.findIn K (.ref D) "__getattribute__" = some (some (.builtin "BaseException.__getattribute__"))
  hk : PySem.W.findIn K (.ref D) "__getattr__" = some none
  hs : PySem.W.subIn K (.ref D) (.type "BaseException") = some true
  ha : PySem.W.findIn K (.ref D) "__class__" = some (some (.builtin "object.__class__"))
  hn : PySem.W.specialIn K (.builtin "object.__class__") "__get__" = some (some (.builtin "getset_descriptor.__get__"))
  ht : PySem.W.takesIn K (.builtin "object.__class__") = some true
  hm : PySem.W.mroIn K D (.type "object") = some true
def rIsX (K : PySem.W.Frag) (a : Addr) (cls : Value) (d : Option Addr) : List V → Hp → VK → Prop := fun xs H Q => ∃ (D dd : Addr) (fs : List (Str × V)) (c : V) (cv : Value) (b : Bool), xs = [.ref a, c] ∧ cls = .ref D ∧ d = some dd ∧ ExI K D ∧ H dd = some (.xd fs) ∧ (∀ u, RelV c u → u = cv) ∧ PySem.W.kitOne K (.ref D) cv = some b ∧ Q (.bl b) H
theorem call_isX {X : Cx} {a : Addr} {oe : Obj} {cls : Value} {d : Option Addr} {pn : List (Addr × Obj)} (hz : Zc cls d oe) (hf : ∃ vs, oe.data = .fields vs) : CallR (X.suite a ((a, oe) :: pn)) (.builtin "isinstance") (rIsX X.K a cls d) := by
  intro pins s σ H xs us Q I r h
  obtain ⟨D, dd, fs, c, cv, b, rfl, rfl, rfl, C, hdd, hcv, e, q⟩ := h
  obtain ⟨u, z, rfl, ru, rz⟩ := vals2 r
  cases ru
  have ez := hcv _ rz
  subst ez
  obtain ⟨hget, _⟩ := I.pin (a, oe) (List.mem_append.mpr (.inl List.mem_cons_self))
  obtain ⟨vs, hv⟩ := hf
  have hx : ObjOk X.prog X.w H s.heap dd (.xd fs) := I.hok dd _ hdd
  obtain ⟨mA, hns, _⟩ := hx
  obtain ⟨od, ho, _⟩ := lookIn_ns hns
  have J : PySem.W.InstAt s.heap a oe D (some od) := ⟨hget, hz.1, by unfold PySem.W.notCls; rw [hv] <;> rfl, by rw [hz.2]; exact ho⟩
  exact PySem.W.kia_one (PySem.W.kitx_exc C.cl C.hg C.hk C.hs C.ha C.hn C.ht C.hm) I.kIn J e (fun z => nomatch z) fun tk => ⟨.bl b, H, I.kept (t' := tk) fun _ _ z => z, rfl, q⟩
/-! ### what the head tells of exception classes -/
section
open PySem.W
def mroVE (C : Addr) : List Value → Bool
  | .ref a :: bm => decide (a = C) && HandSPX.refsVE bm
  | _ => false
theorem mroVE_ok {C : Addr} {l : List Value} (h : mroVE C l = true) : ∃ bm, l = .ref C :: bm ∧ HandSPX.refsVE bm = true := by
  cases l with
  | nil => exact absurd h Bool.false_ne_true
  | cons v bm =>
    cases v with
    | ref a =>
      obtain ⟨z1, z2⟩ := He.ba h
      exact ⟨bm, by rw [of_decide_eq_true z1], z2⟩
    | _ => exact absurd h Bool.false_ne_true
def sixVE : List (Option Value) → Bool
  | [_, _, _, _, k4, _] => decide (k4 = some (.builtin "ValueError.__new__"))
  | _ => false
theorem sixVE_ok : ∀ {l : List (Option Value)}, sixVE l = true → ∃ k0 k1 k2 k3 k5, l = [k0, k1, k2, k3, some (.builtin "ValueError.__new__"), k5]
  | [k0, k1, k2, k3, k4, k5], h => ⟨k0, k1, k2, k3, k5, by rw [show k4 = some (.builtin "ValueError.__new__") from of_decide_eq_true h]⟩
def clsVE (C : Addr) : Option Obj → Bool
  | some ⟨c, _, .cls cd, sl⟩ => decide (c = .type "type") && (cd.hasDict && (!cd.hasDel && (mroVE C cd.mro && sixVE sl.toList)))
  | _ => false
theorem clsVE_ok {C : Addr} {o : Option Obj} (h : clsVE C o = true) : ∃ nm q N bs bm sn sub ab col dd k0 k1 k2 k3 k5, o = some (excClassObj nm q C N bs bm true sn sub ab col dd k0 k1 k2 k3 k5 "ValueError.__new__") ∧ HandSPX.refsVE bm = true := by
  cases o with
  | none => exact absurd h Bool.false_ne_true
  | some ob =>
    obtain ⟨c, dd, da, sl⟩ := ob
    cases da with
    | cls cd =>
      obtain ⟨nm, bs, mro, N, qn, hd, sn, sb, ab, co, del⟩ := cd
      obtain ⟨q1, h⟩ := He.ba h
      obtain ⟨q2, h⟩ := He.ba h
      obtain ⟨q3, h⟩ := He.ba h
      obtain ⟨q4, q5⟩ := He.ba h
      have q2 : hd = true := q2
      have q3 : (!del) = true := q3
      have q4 : mroVE C mro = true := q4
      obtain ⟨bm, e4, r4⟩ := mroVE_ok q4
      obtain ⟨k0, k1, k2, k3, k5, e5⟩ := sixVE_ok q5
      have e1 : c = .type "type" := of_decide_eq_true q1
      have e3 : del = false := by
        cases del
        · rfl
        · cases q3
      have esl : sl = #[k0, k1, k2, k3, some (.builtin "ValueError.__new__"), k5] := by
        rw [← Array.toArray_toList (xs := sl), e5]
      rw [e1, q2, e3, e4, esl]
      exact ⟨nm, qn, N, bs, bm, sn, sb, ab, co, dd, k0, k1, k2, k3, k5, rfl, r4⟩
    | _ => exact absurd h Bool.false_ne_true
def bOex (x : Str) (K : Frag) : Bool := clsVE (He.ga K x) (K.lookup (He.ga K x)) && (He.eqO (findIn K (.ref (He.ga K x)) "__setattr__") (some (some (.builtin "object.__setattr__"))) && (decide (subIn K (.ref (He.ga K x)) (.type "BaseException") = some true) && (decide (typeIn K (.ref (He.ga K x)) = some (.type "type")) && keepIn K (.ref (He.ga K x)))))
theorem bOex_ok {x : Str} {K : Frag} (h : bOex x K = true) : OexC K (He.ga K x) := by
  obtain ⟨h1, h⟩ := He.ba h
  obtain ⟨h2, h⟩ := He.ba h
  obtain ⟨h3, h⟩ := He.ba h
  obtain ⟨h4, h5⟩ := He.ba h
  exact ⟨clsVE_ok h1, He.eqO_ok h2, of_decide_eq_true h3, of_decide_eq_true h4, h5⟩
def bExi (x : Str) (K : Frag) : Bool := (clsIn K (He.ga K x)).isSome && (He.eqO (findIn K (.ref (He.ga K x)) "__getattribute__") (some (some (.builtin "BaseException.__getattribute__"))) && (He.eqO (findIn K (.ref (He.ga K x)) "__getattr__") (some none) &&
  (decide (subIn K (.ref (He.ga K x)) (.type "BaseException") = some true) && (He.eqO (findIn K (.ref (He.ga K x)) "__class__") (some (some (.builtin "object.__class__"))) && (He.eqO (specialIn K (.builtin "object.__class__") "__get__") (some (some (.builtin "getset_descriptor.__get__"))) &&
  (decide (takesIn K (.builtin "object.__class__") = some true) && decide (mroIn K (He.ga K x) (.type "object") = some true)))))))
theorem bExi_ok {x : Str} {K : Frag} (h : bExi x K = true) : ExI K (He.ga K x) := by
  obtain ⟨h1, h⟩ := He.ba h
  obtain ⟨h2, h⟩ := He.ba h
  obtain ⟨h3, h⟩ := He.ba h
  obtain ⟨h4, h⟩ := He.ba h
  obtain ⟨h5, h⟩ := He.ba h
  obtain ⟨h6, h⟩ := He.ba h
  obtain ⟨h7, h8⟩ := He.ba h
  exact ⟨h1, He.eqO_ok h2, He.eqO_ok h3, of_decide_eq_true h4, He.eqO_ok h5, He.eqO_ok h6, of_decide_eq_true h7, of_decide_eq_true h8⟩
/-- what is asked of the exception classes ns -/
structure XFacts (K : Frag) (ns : List Str) : Prop where
  i : ∀ x ∈ ns, ExI K (He.ga K x)
  v : ∀ x ∈ ns, kitOne K (.ref (He.ga K x)) (.type "ValueError") = some true
  b : ∀ x ∈ ns, exmOne K (.ref (He.ga K x)) (.ref (He.ga K "MinuteError")) = some true
  m : ∀ x ∈ ns, ∀ y ∈ ns, exmOne K (.ref (He.ga K x)) (.ref (He.ga K y)) = some (decide (x = y))
  k : ∀ x ∈ ns, ∀ y ∈ ns, kitOne K (.ref (He.ga K x)) (.ref (He.ga K y)) = some (decide (x = y))
def bXall (ns : List Str) (K : Frag) : Bool := ns.all fun x => bExi x K && (decide (kitOne K (.ref (He.ga K x)) (.type "ValueError") = some true) && (decide (exmOne K (.ref (He.ga K x)) (.ref (He.ga K "MinuteError")) = some true) &&
  ns.all fun y => decide (exmOne K (.ref (He.ga K x)) (.ref (He.ga K y)) = some (decide (x = y))) && decide (kitOne K (.ref (He.ga K x)) (.ref (He.ga K y)) = some (decide (x = y)))))
theorem bXall_ok {ns : List Str} {K : Frag} (h : bXall ns K = true) : XFacts K ns := by
  have h2 := List.all_eq_true.mp h
  have p : ∀ x ∈ ns, bExi x K = true ∧ kitOne K (.ref (He.ga K x)) (.type "ValueError") = some true ∧ exmOne K (.ref (He.ga K x)) (.ref (He.ga K "MinuteError")) = some true ∧
      ∀ y ∈ ns, exmOne K (.ref (He.ga K x)) (.ref (He.ga K y)) = some (decide (x = y)) ∧ kitOne K (.ref (He.ga K x)) (.ref (He.ga K y)) = some (decide (x = y)) := fun x hx => by
    obtain ⟨a1, a⟩ := He.ba (h2 x hx)
    obtain ⟨a2, a⟩ := He.ba a
    obtain ⟨a3, a4⟩ := He.ba a
    refine ⟨a1, of_decide_eq_true a2, of_decide_eq_true a3, fun y hy => ?_⟩
    obtain ⟨b1, b2⟩ := He.ba (List.all_eq_true.mp a4 y hy)
    exact ⟨of_decide_eq_true b1, of_decide_eq_true b2⟩
  exact ⟨fun x hx => bExi_ok (p x hx).1, fun x hx => (p x hx).2.1, fun x hx => (p x hx).2.2.1, fun x hx y hy => ((p x hx).2.2.2 y hy).1, fun x hx y hy => ((p x hx).2.2.2 y hy).2⟩
def bXf (x : Str) (K : Frag) : Bool := xfB K (He.ga K x)
theorem bXf_ok {x : Str} {K : Frag} (h : bXf x K = true) : XfC K (He.ga K x) := xfB_ok h
end
/-! ### what is asked of own operators -/
def okR (o : Option (Option Value)) : Bool := match o with
  | some none => true
  | some (some (.ref _)) => true
  | _ => false
theorem okR_ok {o : Option (Option Value)} (h : okR o = true) : ∃ rc, o = some rc ∧ (rc = none ∨ ∃ g : Addr, rc = some (.ref g)) := by
  unfold okR at h
  split at h
  · exact ⟨_, rfl, .inl rfl⟩
  · exact ⟨_, rfl, .inr ⟨_, rfl⟩⟩
  · cases h
def bBinI (x nm rn : Str) (K : PySem.W.Frag) : Bool := PySem.W.selfFirst K (He.ga K x) && (okR (PySem.W.findIn K (.ref (He.ga K x)) rn) && ((PySem.W.findIn K (.type "int") nm).isSome && ((PySem.W.findIn K (.type "int") rn).isSome && decide (PySem.W.subIn K (.type "int") (.ref (He.ga K x)) = some false))))
def bSelf (x : Str) (K : PySem.W.Frag) : Bool := PySem.W.selfFirst K (He.ga K x)
def isRf (o : Option (Option Value)) : Bool := match o with
  | some (some (.ref _)) => true
  | _ => false
theorem isRf_ok {o : Option (Option Value)} (h : isRf o = true) : ∃ g : Addr, o = some (some (.ref g)) := by
  unfold isRf at h
  split at h
  · exact ⟨_, rfl⟩
  · cases h
def bRefI (x : Str) (K : PySem.W.Frag) : Bool := PySem.W.selfFirst K (He.ga K x) && (isRf (PySem.W.findIn K (.ref (He.ga K x)) "__mul__") && decide (PySem.W.subIn K (.ref (He.ga K x)) (.type "int") = some false))
def bBin2 (x y nm rn : Str) (K : PySem.W.Frag) : Bool := PySem.W.selfFirst K (He.ga K x) && (PySem.W.selfFirst K (He.ga K y) && (okR (PySem.W.findIn K (.ref (He.ga K x)) rn) && (isRf (PySem.W.findIn K (.ref (He.ga K y)) nm) && (okR (PySem.W.findIn K (.ref (He.ga K y)) rn) && (decide (PySem.W.subIn K (.ref (He.ga K y)) (.ref (He.ga K x)) = some false) && decide (He.ga K x ≠ He.ga K y))))))
end RM
namespace RM
open PySem PySem.Spec PyProof.Rows L2
def Y_0123456789_43_ : List Nat := [48, 49, 50, 51, 52, 53, 54, 55, 56, 57, 43]
def Y_1234567890_45_ : List Nat := [49, 50, 51, 52, 53, 54, 55, 56, 57, 48, 45]
def Y_999999999_45_ : List Nat := [57, 57, 57, 57, 57, 57, 57, 57, 57, 45]
def Y_123456789_43_ : List Nat := [49, 50, 51, 52, 53, 54, 55, 56, 57, 43]
def Y__32__33__34__35__36__38__39__40__41__42__43__44__45__46__47_0123456789_58__59__60__61__62__63__64_ABCDEFGHIJKLMNOPQRSTUVWXYZ_91__92__93__94__95__96_abcdefghijklmnopqrstuvwxyz_123__124__125__126_ : List Nat := [32, 33, 34, 35, 36, 38, 39, 40, 41, 42, 43, 44, 45, 46, 47, 48, 49, 50, 51, 52, 53, 54, 55, 56, 57, 58, 59, 60, 61, 62, 63, 64, 65, 66, 67, 68, 69, 70, 71, 72, 73, 74, 75, 76, 77, 78, 79, 80, 81, 82, 83, 84, 85, 86, 87, 88, 89, 90, 91, 92, 93, 94, 95, 96, 97, 98, 99, 100, 101, 102, 103, 104, 105, 106, 107, 108, 109, 110, 111, 112, 113, 114, 115, 116, 117, 118, 119, 120, 121, 122, 123, 124, 125, 126]
def Y_0123456789_43__43__45__45__32_ : List Nat := [48, 49, 50, 51, 52, 53, 54, 55, 56, 57, 43, 43, 45, 45, 32]
abbrev C_MinuteError (K : PySem.W.Frag) : Addr := He.ga K "MinuteError"
abbrev C_BadName (K : PySem.W.Frag) : Addr := He.ga K "BadName"
abbrev C_BadNumber (K : PySem.W.Frag) : Addr := He.ga K "BadNumber"
abbrev C_BadWalk (K : PySem.W.Frag) : Addr := He.ga K "BadWalk"
abbrev C_BadRow (K : PySem.W.Frag) : Addr := He.ga K "BadRow"
abbrev C_BadWord (K : PySem.W.Frag) : Addr := He.ga K "BadWord"
def exs : List Str := ["BadName", "BadNumber", "BadWalk", "BadRow", "BadWord"]
def top (i : Nat) : Stmt := PySem.Challenge.pw_roundminutes_k21_walk_text.main.body.getD i (.Pass ⟨0, 0, 0, 0⟩)
def inClass (st : Stmt) (j : Nat) : Stmt := (C8.clsBody st).getD j (.Pass ⟨0, 0, 0, 0⟩)
abbrev s_write_walk : Stmt := top 13
abbrev s_l_pool : Stmt := top 16
abbrev s_l_draw : Stmt := top 17
abbrev s_l_is_int : Stmt := top 18
abbrev s_l_same : Stmt := top 19
abbrev s_l_step : Stmt := top 20
abbrev s_l_spelt : Stmt := top 21
abbrev s_l_odd : Stmt := top 22
abbrev s_l_sign : Stmt := top 23
abbrev s_l_changed : Stmt := top 24
abbrev s_l_free : Stmt := top 25
abbrev s_l_words : Stmt := top 26
abbrev s_l_read : Stmt := top 27
abbrev s_l_due : Stmt := top 28
abbrev s_number_of : Stmt := top 10
abbrev s_words_of : Stmt := top 12
abbrev s_read_walk : Stmt := top 14
abbrev s_l_kept : Stmt := top 29
abbrev s_law : Stmt := top 30
abbrev s_BadWord_init : Stmt := inClass (top 6) 0
def d_write_walk : DX := ⟨fun K => He.ga K "write_walk", "write_walk", "write_walk", defArgs s_write_walk, defBody s_write_walk, defScope s_write_walk, [], []⟩
def d_l_pool : DX := ⟨fun K => He.ga K "_law_pool", "_law_pool", "_law_pool", defArgs s_l_pool, defBody s_l_pool, defScope s_l_pool, [], []⟩
def d_l_draw : DX := ⟨fun K => He.ga K "_law_draw", "_law_draw", "_law_draw", defArgs s_l_draw, defBody s_l_draw, defScope s_l_draw, [], []⟩
def d_l_is_int : DX := ⟨fun K => He.ga K "_law_is_int", "_law_is_int", "_law_is_int", defArgs s_l_is_int, defBody s_l_is_int, defScope s_l_is_int, [], []⟩
def d_l_same : DX := ⟨fun K => He.ga K "_law_same", "_law_same", "_law_same", defArgs s_l_same, defBody s_l_same, defScope s_l_same, [], []⟩
def d_l_step : DX := ⟨fun K => He.ga K "_law_step", "_law_step", "_law_step", defArgs s_l_step, defBody s_l_step, defScope s_l_step, [], []⟩
def d_l_spelt : DX := ⟨fun K => He.ga K "_law_spelt", "_law_spelt", "_law_spelt", defArgs s_l_spelt, defBody s_l_spelt, defScope s_l_spelt, [], []⟩
def d_l_odd : DX := ⟨fun K => He.ga K "_law_odd", "_law_odd", "_law_odd", defArgs s_l_odd, defBody s_l_odd, defScope s_l_odd, [], []⟩
def d_l_sign : DX := ⟨fun K => He.ga K "_law_sign", "_law_sign", "_law_sign", defArgs s_l_sign, defBody s_l_sign, defScope s_l_sign, [], []⟩
def d_l_changed : DX := ⟨fun K => He.ga K "_law_changed", "_law_changed", "_law_changed", defArgs s_l_changed, defBody s_l_changed, defScope s_l_changed, [], []⟩
def d_l_free : DX := ⟨fun K => He.ga K "_law_free", "_law_free", "_law_free", defArgs s_l_free, defBody s_l_free, defScope s_l_free, [], []⟩
def d_l_words : DX := ⟨fun K => He.ga K "_law_words", "_law_words", "_law_words", defArgs s_l_words, defBody s_l_words, defScope s_l_words, [], []⟩
def d_l_read : DX := ⟨fun K => He.ga K "_law_read", "_law_read", "_law_read", defArgs s_l_read, defBody s_l_read, defScope s_l_read, [], []⟩
def d_l_due : DX := ⟨fun K => He.ga K "_law_due", "_law_due", "_law_due", defArgs s_l_due, defBody s_l_due, defScope s_l_due, [], []⟩
def d_number_of : DX := ⟨fun K => He.ga K "number_of", "number_of", "number_of", defArgs s_number_of, defBody s_number_of, defScope s_number_of, [], []⟩
def d_words_of : DX := ⟨fun K => He.ga K "words_of", "words_of", "words_of", defArgs s_words_of, defBody s_words_of, defScope s_words_of, [], []⟩
def d_read_walk : DX := ⟨fun K => He.ga K "read_walk", "read_walk", "read_walk", defArgs s_read_walk, defBody s_read_walk, defScope s_read_walk, [], []⟩
def d_l_kept : DX := ⟨fun K => He.ga K "_law_kept", "_law_kept", "_law_kept", defArgs s_l_kept, defBody s_l_kept, defScope s_l_kept, [], []⟩
def d_law : DX := ⟨fun K => He.ga K "law", "law", "law", defArgs s_law, defBody s_law, defScope s_law, [], []⟩
def d_BadWord_init : DX := ⟨fun K => He.ma K (He.ga K "BadWord") "__init__", "__init__", "BadWord.__init__", defArgs s_BadWord_init, defBody s_BadWord_init, defScope s_BadWord_init, [], []⟩
def fns : List DX := [d_write_walk, d_l_pool, d_l_draw, d_l_is_int, d_l_same, d_l_step, d_l_spelt, d_l_odd, d_l_sign, d_l_changed, d_l_free, d_l_words, d_l_read, d_l_due, d_number_of, d_words_of, d_read_walk, d_l_kept, d_law, d_BadWord_init]
def bs : List (PySem.W.Frag → Bool) := [bXf "BadWord", bOex "BadWord", bXall exs]
def fas : List He.Fa := [.glo "write_walk", .glo "_law_pool", .glo "_law_draw", .glo "_law_is_int", .glo "_law_same", .glo "_law_step", .glo "_law_spelt", .glo "_law_odd", .glo "_law_sign", .glo "_law_changed", .glo "_law_free", .glo "_law_words", .glo "_law_read", .glo "_law_due", .glo "number_of", .glo "words_of", .glo "read_walk", .glo "_law_kept", .glo "law", .meth "BadWord" "__init__", .free "range", .free "list", .free "int", .free "len", .free "bool", .free "isinstance", .free "str", .free "dict", .free "tuple", .glo "MinuteError", .glo "BadWalk", .glo "BadNumber", .glo "BadName", .glo "BadRow", .glo "BadWord", .free "ValueError", .noat "BadWord" "why", .noat "BadWord" "at", .free "enumerate", .int "MOST_DIGITS" (9), .str "DIGITS" "0123456789", .free "all"]
abbrev Rw : PySem.W.OpenRow := PySem.W.OpenLaw.row PySem.Challenge.rw_roundminutes_k21_walk_text
abbrev hk : PySem.W.Hook := hookX 5 bs fas fns
def ob (s : PySem.W.SharedT) : AlX := obsXG 5 bs fas fns (HandSHeadRun.getT s)
theorem ob_ok (s : PySem.W.SharedT) : ob s = hk.obs s.abs := obsXG_eq (HandSHeadRun.getT_eq s)
def loose : List Str := [("MinuteError" : Str), ("BadName" : Str), ("BadNumber" : Str), ("BadWalk" : Str), ("BadRow" : Str), ("BadWord" : Str), ("DIGITS" : Str), ("MOST_DIGITS" : Str), ("number_of" : Str), ("words_of" : Str), ("write_walk" : Str), ("read_walk" : Str), ("_law_pool" : Str), ("_law_draw" : Str), ("_law_is_int" : Str), ("_law_same" : Str), ("_law_step" : Str), ("_law_spelt" : Str), ("_law_odd" : Str), ("_law_sign" : Str), ("_law_changed" : Str), ("_law_free" : Str), ("_law_words" : Str), ("_law_read" : Str), ("_law_due" : Str), ("_law_kept" : Str)]
theorem run (w : World) : HandSHeadRun.RunEq Rw (PySem.W.view Rw.prog [30]) hk ob 8000 loose w := by
  intro os
  kernel_rfl
end RM
namespace RM
open PySem PySem.Spec PyProof.Rows L2
/-! ### readings of classes, tuples, lists -/
section
variable {σ : L2.St} {H : Hp} {Q : VK} {v : V} {ta tb tc : TE} {tl : TA} {t u : TT} {D : Ends} {K : PySem.W.Frag} {sp : Sp} {E : XK} {QA : List V → Hp → Prop} {C : Addr} {f m : Str}
theorem wp_fldC (h : ta σ H fun x H1 => ∃ a dx fs v, x = .ref a ∧ H1 a = some (.ins C dx fs) ∧ fs.lookup f = some v ∧ Q v H1) : tFldC C ta f σ H Q := h
theorem fld_at {a dx : Addr} {fs : List (Str × V)} {R : V → Prop} (ha : H a = some (.ins C dx fs)) (hl : fs.lookup f = some v) (q : R v) : ∃ a' dx fs v, V.ref a = .ref a' ∧ H a' = some (.ins C dx fs) ∧ fs.lookup f = some v ∧ R v := ⟨a, dx, fs, v, rfl, ha, hl, q⟩
theorem wp_sfldC {v : TE} (h : v σ H fun y H1 => ta σ H1 fun x H2 => ∃ a dx fs, x = .ref a ∧ H2 a = some (.ins C dx fs) ∧ fs.length < 1000 ∧ D.nx σ (upd H2 a (.ins C dx (putF f y fs)))) : sFldC C ta v f D σ H := h
theorem sfld_at {a dx : Addr} {fs gs : List (Str × V)} {R : Hp → Prop} (ha : H a = some (.ins C dx fs)) (hl : fs.length < 1000) (e : putF f v fs = gs) (q : R (upd H a (.ins C dx gs))) : ∃ a' dx fs, V.ref a = .ref a' ∧ H a' = some (.ins C dx fs) ∧ fs.length < 1000 ∧ R (upd H a' (.ins C dx (putF f v fs))) := ⟨a, dx, fs, rfl, ha, hl, by rw [e]; exact q⟩
theorem wp_prop (h : ta σ H fun x H1 => ∃ a dx fs, x = .ref a ∧ H1 a = some (.ins C dx fs) ∧ sp [.ref a] H1 Q E) : tProp C sp [] E ta σ H Q := h
theorem own_at {a dx : Addr} {fs : List (Str × V)} {R : Addr → Prop} (ha : H a = some (.ins C dx fs)) (q : R a) : ∃ a' dx fs, V.ref a = .ref a' ∧ H a' = some (.ins C dx fs) ∧ R a' := ⟨a, dx, fs, rfl, ha, q⟩
def MetW (C : Addr) (m : Str) (sp : Sp) (E : XK) (t : TA) (σ : L2.St) (Q : VK) (x : V) (H1 : Hp) : Prop := ∃ a dx fs, x = .ref a ∧ H1 a = some (.ins C dx fs) ∧ fs.lookup m = none ∧ t σ H1 fun vs H2 => sp (x :: (vs ++ [])) H2 Q E
theorem wp_meth (h : ta σ H fun x H1 => MetW C m sp E tl σ Q x H1) : tMeth C m sp [] E ta tl σ H Q := h
theorem met_at {a dx : Addr} {fs : List (Str × V)} (ha : H a = some (.ins C dx fs)) (hl : fs.lookup m = none) (q : tl σ H fun vs H2 => sp (.ref a :: vs) H2 Q E) : MetW C m sp E tl σ Q (.ref a) H := ⟨a, dx, fs, rfl, ha, hl, by simpa only [List.append_nil] using q⟩
def MkW (C : Addr) (sp : Sp) (E : XK) (Q : VK) (vs : List V) (H1 : Hp) : Prop := ∀ x dx, H1 x = none → H1 dx = none → dx ≠ x → sp (.ref x :: vs) (upd (upd H1 dx (.own x)) x (.ins C dx [])) (fun v H2 => v = .non ∧ Q (.ref x) H2) E
theorem wp_make (h : tl σ H fun vs H1 => MkW C sp E Q vs H1) : tMake C sp [] E tl σ H Q := by
  show tl σ H fun vs H1 => ∀ x dx, H1 x = none → H1 dx = none → dx ≠ x → sp (.ref x :: (vs ++ [])) (upd (upd H1 dx (.own x)) x (.ins C dx [])) (fun v H2 => v = .non ∧ Q (.ref x) H2) E
  simp only [List.append_nil]
  exact h
theorem wp_gtup {n : Nat} {a : Addr} {xs : List V} {gs : TGs} {QS : L2.St → Hp → Prop} (hx : SqT K H a xs) (hn : xs.length = n) (h : gs xs σ H QS) : gTup K n gs (.ref a) σ H QS := ⟨a, xs, rfl, hx, hn, h⟩
theorem wp_gcons {g : TG} {gs : TGs} {r : List V} {QS : L2.St → Hp → Prop} (h : g v σ H fun σ' H' => gs r σ' H' QS) : gCons g gs (v :: r) σ H QS := ⟨v, r, rfl, h⟩
theorem wp_gnil {QS : L2.St → Hp → Prop} (h : QS σ H) : gNil [] σ H QS := ⟨rfl, h⟩
theorem wp_enum {g : TG} {tb : TS} (h : tl σ H fun vs H1 => ∃ a xs, vs = [.ref a] ∧ SqL K H1 a xs ∧ ForW (Ite K a) g tb D σ H1) : tFor (iEnum K tl) g tb D σ H := h
theorem loopE {g : TG} {tb : TS} {a : Addr} {xs : List V} (hx : SqL K H a xs) (Pv : Nat → L2.St → Hp → Prop) (h0 : Pv 0 σ H) (hl : ∀ i σ' H', i ≤ xs.length → Pv i σ' H' → SqL K H' a xs)
    (hs : ∀ i x T σ' H', xs[i]? = some x → Pv i σ' H' → H' T = none → g (.ref T) σ' (upd H' T (.tup [.int (i : Nat), x])) fun σ2 H2 => tb { D with nx := Pv (i + 1), ct := Pv (i + 1), bk := D.nx } σ2 H2) (hd : ∀ σ' H', Pv xs.length σ' H' → D.nx σ' H') :
    ∃ b ys, [V.ref a] = [.ref b] ∧ SqL K H b ys ∧ ForW (Ite K b) g tb D σ H := by
  refine ⟨a, xs, rfl, hx, for_it walk_enum Pv h0 hl (fun i v σ' H1 H2 hi p y => ?_) hd⟩
  obtain ⟨T, x, y', h1, h2, h3, h4, h5⟩ := y
  subst h1
  cases h4
  rw [h3]
  exact hs i y' T σ' H1 h5 p h2
theorem wp_cat {l b : Addr} {xs zs : List V} (h1 : H l = some (.lst xs)) (h2 : H b = some (.lst zs)) (hl : xs.length + zs.length ≤ 100000) (k : ∀ p, H p = none → Q (.ref p) (upd H p (.lst (xs ++ zs)))) : rCat (.ref l) (.ref b) H Q := ⟨l, b, xs, zs, rfl, rfl, h1, h2, szl hl, k⟩
theorem wp_sliceL {a : Addr} {xs : List V} {lo hi : Option Int} (hx : SqL K H a xs) (k : ∀ p, H p = none → Q (.ref p) (upd H p (.lst (cutG xs lo hi)))) : rSlL K (.ref a) lo hi H Q := ⟨a, xs, rfl, hx, k⟩
theorem wp_rixL {a : Addr} {k : Int} {xs : List V} (hx : SqL K H a xs) (ha : atI xs k = some v) (h : Q v H) : rIx K (.ref a) (.int k) H Q := .inl ⟨a, xs, k, v, rfl, rfl, hx, ha, h⟩
theorem wp_rixT {a : Addr} {k : Int} {xs : List V} (hx : SqT K H a xs) (ha : atI xs k = some v) (h : Q v H) : rIx K (.ref a) (.int k) H Q := .inr (.inl ⟨a, xs, k, v, rfl, rfl, hx, ha, h⟩)
theorem wp_isN {x : V} (h : Q (.bl (decide (x = .non))) H) : rIsN x .non H Q := ⟨rfl, h⟩
theorem wp_isC {a dx : Addr} {fs : List (Str × V)} (ha : H a = some (.ins C dx fs)) (h : Q (.bl true) H) : rIsC C [.ref a, .ref C] H Q := ⟨a, dx, fs, rfl, ha, h⟩
theorem wp_iterL {l : Addr} {zs : List V} (hx : SqL K H l zs) (h : ∀ it, H it = none → Q (.ref it) (upd H it (ItO l it 0))) : rIter K [.ref l] H Q := ⟨l, zs, rfl, hx, h⟩
theorem at_nth {α : Type} {xs : List α} {i : Nat} {x : α} (h : xs[i]? = some x) : atI xs (i : Int) = some x := atI_nat h
end
/-! ### the same data, told by the law -/
def Sc (v : V) : Prop := v = .non ∨ (∃ b, v = .bl b) ∨ (∃ i, v = .int i) ∨ ∃ z, v = .str z
def Sm (H : Hp) : Nat → V → V → Prop
  | 0, _, _ => False
  | n + 1, u, v => (u = v ∧ Sc u) ∨ ∃ (a b : Addr) (xs ys : List V), u = .ref a ∧ v = .ref b ∧ ((H a = some (.lst xs) ∧ H b = some (.lst ys)) ∨ (H a = some (.tup xs) ∧ H b = some (.tup ys))) ∧
      xs.length = ys.length ∧ ys.length ≤ 1000 ∧ ∀ (i : Nat) (x y : V), xs[i]? = some x → ys[i]? = some y → Sm H n x y
theorem Sm.mono {H H' : Hp} (e : Same H H') : ∀ {n : Nat} {u v : V}, Sm H n u v → Sm H' n u v
  | 0, _, _, h => h.elim
  | n + 1, u, v, h => by
    rcases h with h | ⟨a, b, xs, ys, h1, h2, h3, h4, h5, h6⟩
    · exact .inl h
    · refine .inr ⟨a, b, xs, ys, h1, h2, ?_, h4, h5, fun i x y hx hy => Sm.mono e (h6 i x y hx hy)⟩
      rcases h3 with ⟨p, q⟩ | ⟨p, q⟩
      · exact .inl ⟨e _ _ p, e _ _ q⟩
      · exact .inr ⟨e _ _ p, e _ _ q⟩
section
variable {H : Hp} {n : Nat}
theorem sm_int {i : Int} : Sm H (n + 1) (.int i) (.int i) := .inl ⟨rfl, .inr (.inr (.inl ⟨i, rfl⟩))⟩
theorem sm_str {z : Str} : Sm H (n + 1) (.str z) (.str z) := .inl ⟨rfl, .inr (.inr (.inr ⟨z, rfl⟩))⟩
theorem sm_bl {b : Bool} : Sm H (n + 1) (.bl b) (.bl b) := .inl ⟨rfl, .inr (.inl ⟨b, rfl⟩)⟩
theorem sm_non : Sm H (n + 1) .non .non := .inl ⟨rfl, .inl rfl⟩
theorem sm_lst {a b : Addr} {xs : List V} (h1 : H a = some (.lst xs)) (h2 : H b = some (.lst xs)) (hl : xs.length ≤ 1000) (h : ∀ x ∈ xs, Sm H n x x) : Sm H (n + 1) (.ref a) (.ref b) :=
  .inr ⟨a, b, xs, xs, rfl, rfl, .inl ⟨h1, h2⟩, rfl, hl, fun i x y hx hy => by
    rw [hx] at hy
    cases hy
    exact h x (List.mem_of_getElem? hx)⟩
theorem sm_tup {a b : Addr} {xs : List V} (h1 : H a = some (.tup xs)) (h2 : H b = some (.tup xs)) (hl : xs.length ≤ 1000) (h : ∀ x ∈ xs, Sm H n x x) : Sm H (n + 1) (.ref a) (.ref b) :=
  .inr ⟨a, b, xs, xs, rfl, rfl, .inr ⟨h1, h2⟩, rfl, hl, fun i x y hx hy => by
    rw [hx] at hy
    cases hy
    exact h x (List.mem_of_getElem? hx)⟩
theorem sm_names {a b : Addr} {ns : List (List Nat)} (h1 : H a = some (.lst (ns.map sv))) (h2 : H b = some (.lst (ns.map sv))) (hl : ns.length ≤ 1000) : Sm H (n + 2) (.ref a) (.ref b) :=
  sm_lst h1 h2 (by simpa using hl) fun x hx => by
    obtain ⟨l, _, rfl⟩ := List.mem_map.mp hx
    exact sm_str
end
/-! ### rows: the spans -/
structure Row where
  u : List Nat
  v : List Nat
  lo : Int
  hi : Int
  w : Int
deriving DecidableEq
def rowV (r : Row) : List V := [sv r.u, sv r.v, .int r.lo, .int r.hi, .int r.w]
structure OkR (T : Int) (ns : List (List Nat)) (r : Row) : Prop where
  u : r.u ∈ ns
  v : r.v ∈ ns
  ne : r.u ≠ r.v
  l0 : 0 ≤ r.lo
  l1 : r.lo ≤ T - 1
  h0 : r.lo ≤ r.hi
  h1 : r.hi ≤ r.lo + T - 3
  w0 : 0 ≤ r.w
  w1 : r.w ≤ 99
def IsRow (H : Hp) (x : V) (r : Row) : Prop := ∃ p, x = .ref p ∧ H p = some (.tup (rowV r))
def IsSp (H : Hp) (T : Int) (ns : List (List Nat)) (x : V) : Prop := ∃ r, IsRow H x r ∧ OkR T ns r
theorem IsRow.mono {H H' : Hp} (e : Same H H') {x : V} {r : Row} (h : IsRow H x r) : IsRow H' x r := by
  obtain ⟨p, h1, h2⟩ := h
  exact ⟨p, h1, e _ _ h2⟩
theorem IsSp.mono {H H' : Hp} (e : Same H H') {T : Int} {ns : List (List Nat)} {x : V} (h : IsSp H T ns x) : IsSp H' T ns x := by
  obtain ⟨r, h1, h2⟩ := h
  exact ⟨r, h1.mono e, h2⟩
theorem sm_row {H : Hp} {n : Nat} {x : V} {r : Row} (h : IsRow H x r) : Sm H (n + 2) x x := by
  obtain ⟨p, rfl, h⟩ := h
  refine sm_tup h h (by simp [rowV]) fun y hy => ?_
  simp only [rowV, List.mem_cons, List.not_mem_nil, or_false] at hy
  rcases hy with rfl | rfl | rfl | rfl | rfl
  · exact sm_str
  · exact sm_str
  · exact sm_int
  · exact sm_int
  · exact sm_int
theorem sm_spans {H : Hp} {n : Nat} {a b : Addr} {T : Int} {ns : List (List Nat)} {ss : List V} (h1 : H a = some (.lst ss)) (h2 : H b = some (.lst ss)) (hl : ss.length ≤ 1000) (h : ∀ x ∈ ss, IsSp H T ns x) : Sm H (n + 3) (.ref a) (.ref b) :=
  sm_lst h1 h2 hl fun x hx => by
    obtain ⟨r, h, _⟩ := h x hx
    exact sm_row h
/-- what a net may be made of -/
structure OkNs (T : Int) (ns : List (List Nat)) : Prop where
  t0 : 3 ≤ T
  t1 : T ≤ 120
  few : ns.length ≤ 12
  nodup : ns.Nodup
  nm : ∀ l ∈ ns, Nm l
structure OkSp (H : Hp) (T : Int) (ns : List (List Nat)) (ss : List V) : Prop where
  few : ss.length ≤ 24
  sp : ∀ x ∈ ss, IsSp H T ns x
theorem OkSp.mono {H H' : Hp} (e : Same H H') {T : Int} {ns : List (List Nat)} {ss : List V} (h : OkSp H T ns ss) : OkSp H' T ns ss := ⟨h.few, fun x hx => (h.sp x hx).mono e⟩
/-! ### == of names and rows -/
def nD (ns : List (List Nat)) : List PyData := ns.map fun l => .str (S l)
def rD (r : Row) : PyData := .tuple [.str (S r.u), .str (S r.v), .int r.lo, .int r.hi, .int r.w]
theorem S_beq (a b : List Nat) : (S a == S b) = decide (a = b) := SX.S_beq_eq ..
theorem eqv_names : ∀ {a b : List (List Nat)}, PyData.eqvAll (nD a) (nD b) = decide (a = b)
  | [], [] => rfl
  | [], _ :: _ => rfl
  | _ :: _, [] => rfl
  | x :: a, y :: b => by
    show ((S x == S y) && PyData.eqvAll (nD a) (nD b)) = _
    rw [eqv_names, S_beq, ← Bool.decide_and]
    exact decide_eq_decide.mpr (by simp)
theorem eqv_row {a b : Row} : PyData.eqv (rD a) (rD b) = decide (a = b) := by
  show ((S a.u == S b.u) && ((S a.v == S b.v) && ((a.lo == b.lo) && ((a.hi == b.hi) && ((a.w == b.w) && true))))) = _
  rw [S_beq, S_beq, Bool.eq_iff_iff]
  obtain ⟨u, v, l, h, w⟩ := a
  obtain ⟨u', v', l', h', w'⟩ := b
  simp
theorem eqv_rows : ∀ {a b : List Row}, PyData.eqvAll (a.map rD) (b.map rD) = decide (a = b)
  | [], [] => rfl
  | [], _ :: _ => rfl
  | _ :: _, [] => rfl
  | x :: a, y :: b => by
    show (PyData.eqv (rD x) (rD y) && PyData.eqvAll (a.map rD) (b.map rD)) = _
    rw [eqv_rows, eqv_row, ← Bool.decide_and]
    exact decide_eq_decide.mpr (by simp)
inductive Rws (H : Hp) : List V → List Row → Prop
  | nil : Rws H [] []
  | cons {x : V} {r : Row} {xs : List V} {rs : List Row} : IsRow H x r → Rws H xs rs → Rws H (x :: xs) (r :: rs)
theorem rws_ex {H : Hp} {T : Int} {ns : List (List Nat)} : ∀ {ss : List V}, (∀ x ∈ ss, IsSp H T ns x) → ∃ rs, Rws H ss rs
  | [], _ => ⟨[], .nil⟩
  | x :: ss, h => by
    obtain ⟨rs, h2⟩ := rws_ex fun y hy => h y (List.mem_cons_of_mem _ hy)
    obtain ⟨r, h1, _⟩ := h x List.mem_cons_self
    exact ⟨r :: rs, .cons h1 h2⟩
theorem Rws.mono {H H' : Hp} (e : Same H H') : ∀ {ss : List V} {rs : List Row}, Rws H ss rs → Rws H' ss rs
  | _, _, .nil => .nil
  | _, _, .cons h t => .cons (h.mono e) (t.mono e)
theorem Rws.len {H : Hp} : ∀ {ss : List V} {rs : List Row}, Rws H ss rs → ss.length = rs.length
  | _, _, .nil => rfl
  | _, _, .cons _ t => by rw [List.length_cons, List.length_cons, t.len]
theorem Rws.at {H : Hp} : ∀ {ss : List V} {rs : List Row} {i : Nat} {x : V}, Rws H ss rs → ss[i]? = some x → ∃ r, rs[i]? = some r ∧ IsRow H x r
  | _, _, 0, x, .cons h _, e => by
    cases e
    exact ⟨_, rfl, h⟩
  | _, _, i + 1, x, .cons _ t, e => Rws.at (i := i) t e
theorem IsRow.inj {H : Hp} {x : V} {a b : Row} (h : IsRow H x a) (k : IsRow H x b) : a = b := by
  obtain ⟨p, rfl, h⟩ := h
  obtain ⟨q, e, k⟩ := k
  cases e
  rw [h] at k
  obtain ⟨u, v, l, h, w⟩ := a
  obtain ⟨u', v', l', h', w'⟩ := b
  simp only [rowV, Option.some.injEq, HO.tup.injEq, List.cons.injEq, V.str.injEq, V.int.injEq, and_true] at k
  obtain ⟨k1, k2, k3, k4, k5⟩ := k
  rw [S_inj k1, S_inj k2, k3, k4, k5]
section
variable {K : PySem.W.Frag} {H : Hp}
theorem dp_names : ∀ ns : List (List Nat), DpAll K H (ns.map sv) (nD ns)
  | [] => .nil
  | l :: ns => .cons (.str _) (dp_names ns)
theorem dp_row {x : V} {r : Row} (h : IsRow H x r) : Dp K H x (rD r) := by
  obtain ⟨p, rfl, h⟩ := h
  exact .tup (st_of h) (.cons (.str _) (.cons (.str _) (.cons (.int _) (.cons (.int _) (.cons (.int _) .nil)))))
theorem dp_rows : ∀ {ss : List V} {rs : List Row}, Rws H ss rs → DpAll K H ss (rs.map rD)
  | _, _, .nil => .nil
  | _, _, .cons h t => .cons (dp_row h) (dp_rows t)
end
def Asc (l : List Nat) : Prop := ∀ c ∈ l, c < 127
theorem nm_asc {l : List Nat} (h : Nm l) : Asc l := fun c hc => by rcases h.all c hc with h | h <;> omega
theorem asc_ok {l : List Nat} (h : Asc l) : PyData.strOk (S l) = true := by
  unfold PyData.strOk
  rw [show (S l).cps = l.toArray from rfl, List.all_toArray, List.all_eq_true]
  intro c hc
  have := h c hc
  exact decide_eq_true (by omega)
theorem lay_names : ∀ {ns : List (List Nat)}, (∀ l ∈ ns, Asc l) → PyData.canLayAll0 (nD ns) = true ∧ PyData.depthAll (nD ns) = 0
  | [], _ => ⟨rfl, rfl⟩
  | l :: ns, h => by
    obtain ⟨h1, h2⟩ := lay_names (ns := ns) fun x hx => h x (List.mem_cons_of_mem _ hx)
    refine ⟨?_, ?_⟩
    · show (PyData.strOk (S l) && PyData.canLayAll0 (nD ns)) = true
      rw [asc_ok (h l List.mem_cons_self), h1]
      rfl
    · show max 0 (PyData.depthAll (nD ns)) = 0
      rw [h2]
      rfl
theorem sh_names {ns : List (List Nat)} (h : ∀ l ∈ ns, Asc l) : SeqAt.shaped (.list (nD ns)) = true := by
  obtain ⟨h1, h2⟩ := lay_names h
  show (PyData.canLayAll0 (nD ns) && decide (PyData.depthAll (nD ns) + 1 ≤ 64)) = true
  rw [h1, h2]
  rfl
structure AscR (r : Row) : Prop where
  u : Asc r.u
  v : Asc r.v
theorem lay_row {r : Row} (h : AscR r) : PyData.canLay0 (rD r) = true ∧ PyData.depth (rD r) = 1 := by
  refine ⟨?_, rfl⟩
  show (PyData.strOk (S r.u) && (PyData.strOk (S r.v) && _)) = true
  rw [asc_ok h.u, asc_ok h.v]
  rfl
theorem sh_row {r : Row} (h : AscR r) : SeqAt.shaped (rD r) = true := by
  obtain ⟨h1, h2⟩ := lay_row h
  show (PyData.canLay0 (rD r) && decide (PyData.depth (rD r) ≤ 64)) = true
  rw [h1, h2]
  rfl
theorem lay_rows : ∀ {rs : List Row}, (∀ r ∈ rs, AscR r) → PyData.canLayAll0 (rs.map rD) = true ∧ PyData.depthAll (rs.map rD) ≤ 1
  | [], _ => ⟨rfl, Nat.zero_le _⟩
  | l :: ns, h => by
    obtain ⟨h1, h2⟩ := lay_rows (rs := ns) fun x hx => h x (List.mem_cons_of_mem _ hx)
    obtain ⟨h3, h4⟩ := lay_row (h l List.mem_cons_self)
    refine ⟨?_, ?_⟩
    · show (PyData.canLay0 (rD l) && PyData.canLayAll0 (ns.map rD)) = true
      rw [h3, h1]
      rfl
    · show max (PyData.depth (rD l)) (PyData.depthAll (ns.map rD)) ≤ 1
      omega
theorem sh_rows {rs : List Row} (h : ∀ r ∈ rs, AscR r) : SeqAt.shaped (.list (rs.map rD)) = true := by
  obtain ⟨h1, h2⟩ := lay_rows h
  show (PyData.canLayAll0 (rs.map rD) && decide (PyData.depthAll (rs.map rD) + 1 ≤ 64)) = true
  rw [h1]
  exact decide_eq_true (by omega)
theorem Rws.all {H : Hp} {T : Int} {ns : List (List Nat)} (hn : ∀ l ∈ ns, Nm l) {ss : List V} {rs : List Row} (h : ∀ x ∈ ss, IsSp H T ns x) (t : Rws H ss rs) : ∀ r ∈ rs, OkR T ns r ∧ AscR r := by
  induction t with
  | nil => simp
  | @cons x r xs rs h1 t ih =>
    intro q hq
    rcases List.mem_cons.mp hq with rfl | hq
    · obtain ⟨r', k1, k2⟩ := h x List.mem_cons_self
      have e := k1.inj h1
      subst e
      exact ⟨k2, nm_asc (hn _ k2.u), nm_asc (hn _ k2.v)⟩
    · exact ih (fun y hy => h y (List.mem_cons_of_mem _ hy)) q hq
section
variable {K : PySem.W.Frag} {H : Hp} {Q : VK} {a b : Addr}
theorem wp_eqN {ns ms : List (List Nat)} (h1 : H a = some (.lst (ns.map sv))) (h2 : H b = some (.lst (ms.map sv))) (k1 : ∀ l ∈ ns, Asc l) (k2 : ∀ l ∈ ms, Asc l) (q : Q (.bl (decide (ns = ms))) H) : rEqD K (.ref a) (.ref b) H Q := by
  refine ⟨.list (nD ns), .list (nD ms), .lst (sq_of h1) (dp_names _), .lst (sq_of h2) (dp_names _), sh_names k1, sh_names k2, ?_⟩
  show Q (.bl (PyData.eqvAll (nD ns) (nD ms))) H
  rw [eqv_names]
  exact q
theorem wp_neN {ns ms : List (List Nat)} (h1 : H a = some (.lst (ns.map sv))) (h2 : H b = some (.lst (ms.map sv))) (k1 : ∀ l ∈ ns, Asc l) (k2 : ∀ l ∈ ms, Asc l) (q : Q (.bl (!decide (ns = ms))) H) : rNeD K (.ref a) (.ref b) H Q := by
  refine ⟨.list (nD ns), .list (nD ms), .lst (sq_of h1) (dp_names _), .lst (sq_of h2) (dp_names _), sh_names k1, sh_names k2, ?_⟩
  show Q (.bl (!PyData.eqvAll (nD ns) (nD ms))) H
  rw [eqv_names]
  exact q
theorem wp_eqR {ss ts : List V} {rs qs : List Row} (h1 : H a = some (.lst ss)) (h2 : H b = some (.lst ts)) (r1 : Rws H ss rs) (r2 : Rws H ts qs) (k1 : ∀ r ∈ rs, AscR r) (k2 : ∀ r ∈ qs, AscR r) (q : Q (.bl (decide (rs = qs))) H) : rEqD K (.ref a) (.ref b) H Q := by
  refine ⟨.list (rs.map rD), .list (qs.map rD), .lst (sq_of h1) (dp_rows r1), .lst (sq_of h2) (dp_rows r2), sh_rows k1, sh_rows k2, ?_⟩
  show Q (.bl (PyData.eqvAll (rs.map rD) (qs.map rD))) H
  rw [eqv_rows]
  exact q
theorem wp_neR {ss ts : List V} {rs qs : List Row} (h1 : H a = some (.lst ss)) (h2 : H b = some (.lst ts)) (r1 : Rws H ss rs) (r2 : Rws H ts qs) (k1 : ∀ r ∈ rs, AscR r) (k2 : ∀ r ∈ qs, AscR r) (q : Q (.bl (!decide (rs = qs))) H) : rNeD K (.ref a) (.ref b) H Q := by
  refine ⟨.list (rs.map rD), .list (qs.map rD), .lst (sq_of h1) (dp_rows r1), .lst (sq_of h2) (dp_rows r2), sh_rows k1, sh_rows k2, ?_⟩
  show Q (.bl (!PyData.eqvAll (rs.map rD) (qs.map rD))) H
  rw [eqv_rows]
  exact q
theorem wp_neRow {x y : V} {r s : Row} (h1 : IsRow H x r) (h2 : IsRow H y s) (k1 : AscR r) (k2 : AscR s) (q : Q (.bl (!decide (r = s))) H) : rNeD K x y H Q := by
  refine ⟨rD r, rD s, dp_row h1, dp_row h2, sh_row k1, sh_row k2, ?_⟩
  rw [eqv_row]
  exact q
end
/-! ### nets -/
abbrev netF (T : Int) (le ls : Addr) : List (Str × V) := [("_round_length", .int T), ("_events", .ref le), ("_spans", .ref ls)]
def IsNet (C : Addr) (H : Hp) (a : Addr) (T : Int) (ns : List (List Nat)) (ss : List V) : Prop := ∃ dx le ls, H a = some (.ins C dx (netF T le ls)) ∧ H le = some (.lst (ns.map sv)) ∧ H ls = some (.lst ss)
theorem IsNet.mono {C : Addr} {H H' : Hp} (e : Same H H') {a : Addr} {T : Int} {ns : List (List Nat)} {ss : List V} (h : IsNet C H a T ns ss) : IsNet C H' a T ns ss := by
  obtain ⟨dx, le, ls, h1, h2, h3⟩ := h
  exact ⟨dx, le, ls, e _ _ h1, e _ _ h2, e _ _ h3⟩
theorem lk_T {T : Int} {le ls : Addr} : (netF T le ls).lookup ("_round_length" : Str) = some (.int T) := rfl
theorem lk_e {T : Int} {le ls : Addr} : (netF T le ls).lookup ("_events" : Str) = some (.ref le) := rfl
theorem lk_s {T : Int} {le ls : Addr} : (netF T le ls).lookup ("_spans" : Str) = some (.ref ls) := rfl
abbrev netF1 (T : Int) : List (Str × V) := [("_round_length", .int T)]
abbrev netF2 (T : Int) (le : Addr) : List (Str × V) := [("_round_length", .int T), ("_events", .ref le)]
theorem pt_1 {T : Int} : putF "_round_length" (.int T) [] = netF1 T := rfl
theorem pt_2 {T : Int} {le : Addr} : putF "_events" (.ref le) (netF1 T) = netF2 T le := by
  unfold putF
  rw [if_neg (by decide)]
  rfl
theorem pt_3 {T : Int} {le ls : Addr} : putF "_spans" (.ref ls) (netF2 T le) = netF T le ls := by
  unfold putF
  rw [if_neg (by decide)]
  unfold putF
  rw [if_neg (by decide)]
  rfl
/-- all but one thing -/
def rmv (G : Hp) (q : Addr) : Hp := fun a => if a = q then none else G a
theorem rmv_same {G : Hp} {q : Addr} : rmv G q q = none := by unfold rmv; rw [if_pos rfl]
theorem rmv_ne {G : Hp} {q a : Addr} (h : a ≠ q) : rmv G q a = G a := by unfold rmv; rw [if_neg h]
theorem rmv_sub {G : Hp} {q : Addr} : Same (rmv G q) G := fun a o h => by
  by_cases e : a = q
  · rw [e, rmv_same] at h; cases h
  · rw [rmv_ne e] at h; exact h
theorem Same.rmv {G G' : Hp} {q : Addr} (s : Same G G') (h : G q = none) : Same G (rmv G' q) := fun a o ha => by
  rw [rmv_ne (ne_of_none ha h)]
  exact s _ _ ha
theorem Sees.less {P : Pl} {G H : Hp} {q : Addr} {ys : List V} (s : Sees P G H) (hq : G q = some (.lst ys)) (hc : q ≠ P.l) : Sees P (rmv G q) H :=
  ⟨s.pool, by rw [rmv_ne hc.symm]; exact s.cell, s.few, by
    by_cases e : P.p = q
    · rw [e]; exact rmv_same
    · rw [rmv_ne e]; exact s.free, Same.trans rmv_sub s.sub⟩
theorem IsRow.rmv {G : Hp} {q : Addr} {ys : List V} {x : V} {r : Row} (hq : G q = some (.lst ys)) (h : IsRow G x r) : IsRow (rmv G q) x r := by
  obtain ⟨p, rfl, hp⟩ := h
  exact ⟨p, rfl, by rw [rmv_ne (fun e => by rw [e, hq] at hp; cases hp)]; exact hp⟩
theorem IsSp.rmv {G : Hp} {q : Addr} {ys : List V} {T : Int} {ns : List (List Nat)} {x : V} (hq : G q = some (.lst ys)) (h : IsSp G T ns x) : IsSp (rmv G q) T ns x := by
  obtain ⟨r, h1, h2⟩ := h
  exact ⟨r, h1.rmv hq, h2⟩
/-- a list of one's own that is changed: outside of G -/
structure Lcl (P : Pl) (L : Addr) (xs : List V) (G H : Hp) : Prop where
  s : Sees P G H
  h : H L = some (.lst xs)
  g : G L = none
  ne : L ≠ P.p
theorem Lcl.new {P : Pl} {L q : Addr} {xs : List V} {G H : Hp} {o : HO} (l : Lcl P L xs G H) (hq : H q = none) : Lcl P L xs (upd G q o) (upd H q o) :=
  have e : L ≠ q := ne_of_none l.h hq
  ⟨l.s.new hq, by rw [upd_ne e]; exact l.h, by rw [upd_ne e]; exact l.g, l.ne⟩
theorem Lcl.put {P : Pl} {L : Addr} {xs ys : List V} {G H : Hp} (l : Lcl P L xs G H) : Lcl P L ys G (upd H L (.lst ys)) := ⟨l.s.set l.g l.ne, upd_same, l.g, l.ne⟩
theorem Lcl.in_ {P : Pl} {L : Addr} {xs : List V} {G H : Hp} (l : Lcl P L xs G H) : Sees P (upd G L (.lst xs)) H := l.s.with l.g l.h l.ne
theorem Lcl.out {P : Pl} {L : Addr} {xs : List V} {G H H' : Hp} (l : Lcl P L xs G H) (s : Sees P (upd G L (.lst xs)) H') : Lcl P L xs G H' :=
  have z := s.back l.s l.g
  ⟨z.1, z.2, l.g, l.ne⟩
/-! ### rows in parts of lists -/
theorem Rws.app {H : Hp} : ∀ {a : List V} {ra : List Row} {b : List V} {rb : List Row}, Rws H a ra → Rws H b rb → Rws H (a ++ b) (ra ++ rb)
  | _, _, _, _, .nil, k => k
  | _, _, _, _, .cons h t, k => .cons h (t.app k)
theorem Rws.take {H : Hp} : ∀ {a : List V} {ra : List Row} (n : Nat), Rws H a ra → Rws H (a.take n) (ra.take n)
  | _, _, 0, _ => .nil
  | _, _, _ + 1, .nil => .nil
  | _, _, n + 1, .cons h t => .cons h (t.take n)
theorem Rws.drop {H : Hp} : ∀ {a : List V} {ra : List Row} (n : Nat), Rws H a ra → Rws H (a.drop n) (ra.drop n)
  | _, _, 0, h => h
  | _, _, _ + 1, .nil => .nil
  | _, _, n + 1, .cons _ t => t.drop n
theorem IsSp.up {H : Hp} {T T' : Int} {ns ns' : List (List Nat)} {x : V} (h : IsSp H T ns x) (e : T ≤ T') (m : ∀ l ∈ ns, l ∈ ns') : IsSp H T' ns' x := by
  obtain ⟨r, h1, h2⟩ := h
  exact ⟨r, h1, m _ h2.u, m _ h2.v, h2.ne, h2.l0, by have := h2.l1; omega, h2.h0, by have := h2.h1; omega, h2.w0, h2.w1⟩
theorem six_neg {n d : Nat} (h : 0 < n) : HT.sIx n d (some (-1)) = n - 1 := by
  unfold HT.sIx
  simp only []
  split <;> omega
theorem cutG_last {α : Type} {xs : List α} (h : 0 < xs.length) : cutG xs none (some (-1)) = xs.take (xs.length - 1) := by
  unfold cutG
  rw [six_neg h]
  show (xs.drop 0).take (xs.length - 1 - 0) = _
  simp
theorem cutG_to1 {α : Type} {xs : List α} {k : Int} (h0 : 0 ≤ k) (h : k ≤ xs.length) : cutG xs none (some k) = xs.take k.toNat := by
  obtain ⟨j, rfl⟩ : ∃ j : Nat, k = j := ⟨k.toNat, by omega⟩
  rw [cutG_to (by omega), Int.toNat_natCast]
theorem cutG_from1 {α : Type} {xs : List α} {k : Int} (h0 : 0 ≤ k) (h : k ≤ xs.length) : cutG xs (some k) none = xs.drop k.toNat := by
  obtain ⟨j, rfl⟩ : ∃ j : Nat, k = j := ⟨k.toNat, by omega⟩
  rw [cutG_from (by omega), Int.toNat_natCast]
theorem cut_set {α : Type} {xs : List α} {k : Nat} {y : α} (h : k < xs.length) : (xs.take k ++ [y] ++ xs.drop (k + 1))[k]? = some y := by
  have : (xs.take k).length = k := by rw [List.length_take]; omega
  rw [List.append_assoc, List.getElem?_append_right (by omega), this]
  simp
theorem at2 {α : Type} {a b c : α} {xs : List α} : atI (a :: b :: c :: xs) 2 = some c := atI_nat (j := 2) rfl
theorem at3 {α : Type} {a b c d : α} {xs : List α} : atI (a :: b :: c :: d :: xs) 3 = some d := atI_nat (j := 3) rfl
theorem at4 {α : Type} {a b c d e : α} {xs : List α} : atI (a :: b :: c :: d :: e :: xs) 4 = some e := atI_nat (j := 4) rfl
theorem mem_cut {α : Type} {xs : List α} {k m : Nat} {ys : List α} {x : α} (h : x ∈ xs.take k ++ ys ++ xs.drop m) : x ∈ xs ∨ x ∈ ys := by
  rcases List.mem_append.mp h with h | h
  · rcases List.mem_append.mp h with h | h
    · exact .inl (List.mem_of_mem_take h)
    · exact .inr h
  · exact .inl (List.mem_of_mem_drop h)
theorem cut_set2 {α : Type} {xs ys : List α} {k m : Nat} {y : α} (h : k < xs.length) : (xs.take k ++ (y :: ys) ++ xs.drop m)[k]? = some y := by
  have : (xs.take k).length = k := by rw [List.length_take]; omega
  rw [List.append_assoc, List.getElem?_append_right (by omega), this]
  simp
/-! ### comprehensions with tests and tuple targets -/
section
variable {σ : L2.St} {H : Hp} {Q : VK} {K : PySem.W.Frag} {g : TG} {tt : TT} {te : TE} {vs : List Nat}
theorem lcGen {J : It} {n : Nat} {Gd : Hp → Prop} {Y : Nat → Hp → V → Hp → Prop} (w : Walk J n Gd Y) (hn : n ≤ 100000) (hG : ∀ H', Same H H' → Gd H') (hY : ∀ i H2 x H3, Y i H2 x H3 → Same H2 H3) (accs : Nat → List V) (h0 : accs 0 = []) (hlen : ∀ i, (accs i).length ≤ i)
    (hs : ∀ i x H2 H3 (R : VK) (R0 : Hp → Prop), i < n → Same H H2 → Y i H2 x H3 → (∀ y H6, Same H3 H6 → accs (i + 1) = accs i ++ [y] → R y H6) → (∀ H5, Same H3 H5 → accs (i + 1) = accs i → R0 H5) → g x (wipe σ vs) H3 fun σ2 H4 => wipe σ2 vs = wipe σ vs ∧ tt σ2 H4 fun b H5 => if b = true then te σ2 H5 R else R0 H5)
    (hq : ∀ D H2, H D = none → Same H H2 → H2 D = some (.lst (accs n)) → Q (.ref D) H2) : LcW J g tt te vs σ H Q := by
  intro D hD
  refine lc_it w (fun i H2 => Same H H2 ∧ H2 D = some (.lst (accs i))) ⟨Same.new hD, by rw [h0]; exact upd_same⟩ (fun i H2 _ p => hG H2 p.1) (fun i x H2 H3 hi p y => ?_) (fun H2 p => hq D H2 hD p.1 p.2)
  have s3 := hY i H2 x H3 y
  exact hs i x H2 H3 (fun y H4 => ∃ acc, H4 D = some (.lst acc) ∧ acc.length < sizeLine ∧ (Same H (upd H4 D (.lst (acc ++ [y]))) ∧ upd H4 D (.lst (acc ++ [y])) D = some (.lst (accs (i + 1))))) (fun H' => Same H H' ∧ H' D = some (.lst (accs (i + 1)))) hi p.1 y
    (fun y H6 s6 e => ⟨accs i, s6 _ _ (s3 _ _ p.2), szlt (by have := hlen i; omega), Same.mut (p.1.trans (s3.trans s6)) hD, by rw [e]; exact upd_same⟩)
    (fun H5 s5 e => ⟨p.1.trans (s3.trans s5), by rw [e]; exact s5 _ _ (s3 _ _ p.2)⟩)
theorem lcGL {a : Addr} {xs : List V} (hx : SqL K H a xs) (hn : xs.length ≤ 100000) (accs : Nat → List V) (h0 : accs 0 = []) (hlen : ∀ i, (accs i).length ≤ i)
    (hs : ∀ i x H2 (R : VK) (R0 : Hp → Prop), xs[i]? = some x → Same H H2 → (∀ y H6, Same H2 H6 → accs (i + 1) = accs i ++ [y] → R y H6) → (∀ H5, Same H2 H5 → accs (i + 1) = accs i → R0 H5) → g x (wipe σ vs) H2 fun σ2 H4 => wipe σ2 vs = wipe σ vs ∧ tt σ2 H4 fun b H5 => if b = true then te σ2 H5 R else R0 H5)
    (hq : ∀ D H2, H D = none → Same H H2 → H2 D = some (.lst (accs xs.length)) → Q (.ref D) H2) : ∃ b, V.ref a = .ref b ∧ (∃ ys, SqL K H b ys) ∧ LcW (Itl K b) g tt te vs σ H Q :=
  ⟨a, rfl, ⟨xs, hx⟩, lcGen walk_list hn (fun H' s => Same.seq s hx) (fun i H2 x H3 y => by rw [y.1]; exact Same.refl _) accs h0 hlen (fun i x H2 H3 R R0 _ s2 y k1 k0 => by
    obtain ⟨e, hi⟩ := y
    subst e
    exact hs i x _ R R0 hi s2 k1 k0) hq⟩
theorem lcGE {a : Addr} {xs : List V} (hx : SqL K H a xs) (hn : xs.length ≤ 100000) (accs : Nat → List V) (h0 : accs 0 = []) (hlen : ∀ i, (accs i).length ≤ i)
    (hs : ∀ i x T H2 (R : VK) (R0 : Hp → Prop), xs[i]? = some x → Same H H2 → H2 T = some (.tup [.int (i : Nat), x]) → (∀ y H6, Same H2 H6 → accs (i + 1) = accs i ++ [y] → R y H6) → (∀ H5, Same H2 H5 → accs (i + 1) = accs i → R0 H5) → g (.ref T) (wipe σ vs) H2 fun σ2 H4 => wipe σ2 vs = wipe σ vs ∧ tt σ2 H4 fun b H5 => if b = true then te σ2 H5 R else R0 H5)
    (hq : ∀ D H2, H D = none → Same H H2 → H2 D = some (.lst (accs xs.length)) → Q (.ref D) H2) : ∃ b ys, [V.ref a] = [.ref b] ∧ SqL K H b ys ∧ LcW (Ite K b) g tt te vs σ H Q :=
  ⟨a, xs, rfl, hx, lcGen walk_enum hn (fun H' s => Same.seq s hx) (fun i H2 x H3 y => by
    obtain ⟨T, x', y', _, hT, e, _⟩ := y
    rw [e]; exact Same.new hT) accs h0 hlen (fun i x H2 H3 R R0 _ s2 y k1 k0 => by
    obtain ⟨T, x', y', rfl, hT, e, h4, h5⟩ := y
    cases h4
    subst e
    exact hs i y' T _ R R0 h5 (s2.trans (Same.new hT)) upd_same k1 k0) hq⟩
theorem lcGR {n : Nat} (hn : n ≤ 100000) (accs : Nat → List V) (h0 : accs 0 = []) (hlen : ∀ i, (accs i).length ≤ i)
    (hs : ∀ i H2 (R : VK) (R0 : Hp → Prop), i < n → Same H H2 → (∀ y H6, Same H2 H6 → accs (i + 1) = accs i ++ [y] → R y H6) → (∀ H5, Same H2 H5 → accs (i + 1) = accs i → R0 H5) → g (.int (i : Nat)) (wipe σ vs) H2 fun σ2 H4 => wipe σ2 vs = wipe σ vs ∧ tt σ2 H4 fun b H5 => if b = true then te σ2 H5 R else R0 H5)
    (hq : ∀ D H2, H D = none → Same H H2 → H2 D = some (.lst (accs n)) → Q (.ref D) H2) : ∃ j : Int, [V.int n] = [V.int j] ∧ -(2 ^ 62) ≤ j ∧ j < 2 ^ 62 ∧ LcW (Itr 0 j.toNat) g tt te vs σ H Q :=
  ⟨n, rfl, by omega, by omega, lcGen (n := ((n : Int)).toNat) walk_range (by omega) (fun _ _ => trivial) (fun i H2 x H3 y => by rw [y.1]; exact Same.refl _) accs h0 hlen (fun i x H2 H3 R R0 hi s2 y k1 k0 => by
    obtain ⟨e, e2⟩ := y
    subst e
    have e3 : x = .int (i : Nat) := by rw [e2]; exact congrArg V.int (Int.zero_add _)
    subst e3
    exact hs i _ R R0 (by omega) s2 k1 k0) (by rw [Int.toNat_natCast]; exact hq)⟩
theorem wp_lcE {tl : TA} (h : tl σ H fun us H1 => ∃ b ys, us = [.ref b] ∧ SqL K H1 b ys ∧ LcW (Ite K b) g tt te vs σ H1 Q) : tLc (iEnum K tl) g tt te vs σ H Q := h
theorem inV_int {k : Int} {is : List Int} : inV (.int k) (is.map V.int) = decide (k ∈ is) := by
  unfold inV
  rw [List.any_map, Bool.eq_iff_iff, List.any_eq_true, decide_eq_true_eq]
  constructor
  · rintro ⟨x, hx, e⟩
    have e2 : (x == k) = true := e
    rw [beq_iff_eq] at e2
    rw [← e2]; exact hx
  · intro h
    refine ⟨k, h, ?_⟩
    show (k == k) = true
    exact beq_self_eq_true _
theorem wp_notInI {p : Addr} {k : Int} {is : List Int} (hx : SqL K H p (is.map V.int) ∨ SqT K H p (is.map V.int)) (h : Q (.bl (!decide (k ∈ is))) H) : rIn K true (.int k) (.ref p) H Q := by
  refine ⟨p, is.map V.int, rfl, hx, rfl, by rw [List.all_map, List.all_eq_true]; intro x _; rfl, ?_⟩
  show Q (.bl (!inV (.int k) (is.map V.int))) H
  rw [inV_int]; exact h
end
/-- what stays of a list without these places -/
def keepG {α : Type} (is : List Int) (xs : List α) : Nat → List α
  | 0 => []
  | i + 1 => if (i : Int) ∈ is then keepG is xs i else keepG is xs i ++ (xs[i]?).toList
theorem keepG_len {α : Type} {is : List Int} {xs : List α} : ∀ i, (keepG is xs i).length ≤ i
  | 0 => Nat.le_refl _
  | i + 1 => by
    unfold keepG
    have := keepG_len (is := is) (xs := xs) i
    split
    · omega
    · rw [List.length_append]
      cases xs[i]? <;> simp <;> omega
theorem keepG_mem {α : Type} {is : List Int} {xs : List α} {y : α} : ∀ {i}, y ∈ keepG is xs i → y ∈ xs
  | 0, h => absurd h (by simp [keepG])
  | i + 1, h => by
    unfold keepG at h
    split at h
    · exact keepG_mem h
    · rcases List.mem_append.mp h with h | h
      · exact keepG_mem h
      · cases e : xs[i]? with
        | none => rw [e] at h; simp at h
        | some z =>
          rw [e] at h
          simp at h
          rw [h]
          exact List.mem_of_getElem? e
theorem Rws.keep {H : Hp} {ss : List V} {rs : List Row} (h : Rws H ss rs) (is : List Int) : ∀ n, Rws H (keepG is ss n) (keepG is rs n)
  | 0 => .nil
  | n + 1 => by
    unfold keepG
    split
    · exact h.keep is n
    · refine (h.keep is n).app ?_
      cases e : ss[n]? with
      | none =>
        have : rs[n]? = none := by
          rw [List.getElem?_eq_none_iff] at e ⊢
          rw [← h.len]; exact e
        rw [this]
        exact .nil
      | some x =>
        obtain ⟨r, e1, e2⟩ := h.at e
        rw [e1]
        exact .cons e2 .nil
def flipR (r : Row) : Row := ⟨r.v, r.u, r.lo, r.hi, r.w⟩
theorem OkR.flip {T : Int} {ns : List (List Nat)} {r : Row} (k : OkR T ns r) : OkR T ns (flipR r) := ⟨k.v, k.u, k.ne.symm, k.l0, k.l1, k.h0, k.h1, k.w0, k.w1⟩
/-- rows that are good make good spans -/
theorem Rws.sp {H : Hp} {T : Int} {ns : List (List Nat)} {ss : List V} {rs : List Row} (h : Rws H ss rs) (k : ∀ r ∈ rs, OkR T ns r) : ∀ x ∈ ss, IsSp H T ns x := by
  induction h with
  | nil => simp
  | @cons x r xs rs h1 t ih =>
    intro z hz
    rcases List.mem_cons.mp hz with rfl | hz
    · exact ⟨r, h1, k r List.mem_cons_self⟩
    · exact ih (fun y hy => k y (List.mem_cons_of_mem _ hy)) z hz
theorem Rws.okr {H : Hp} {T : Int} {ns : List (List Nat)} {ss : List V} {rs : List Row} (h : Rws H ss rs) (k : ∀ x ∈ ss, IsSp H T ns x) : ∀ r ∈ rs, OkR T ns r := by
  induction h with
  | nil => simp
  | @cons x r xs rs h1 t ih =>
    intro z hz
    rcases List.mem_cons.mp hz with rfl | hz
    · obtain ⟨r', k1, k2⟩ := k x List.mem_cons_self
      rw [h1.inj k1]
      exact k2
    · exact ih (fun y hy => k y (List.mem_cons_of_mem _ hy)) z hz
theorem sm_rows {H : Hp} {n : Nat} {x y : V} {r : Row} (h : IsRow H x r) (k : IsRow H y r) : Sm H (n + 2) x y := by
  obtain ⟨p, rfl, h⟩ := h
  obtain ⟨q, rfl, k⟩ := k
  refine sm_tup h k (by simp [rowV]) fun y hy => ?_
  simp only [rowV, List.mem_cons, List.not_mem_nil, or_false] at hy
  rcases hy with rfl | rfl | rfl | rfl | rfl
  · exact sm_str
  · exact sm_str
  · exact sm_int
  · exact sm_int
  · exact sm_int
theorem sm_rws {H : Hp} {n : Nat} {a b : Addr} {xs ys : List V} {rs : List Row} (ha : H a = some (.lst xs)) (hb : H b = some (.lst ys)) (h : Rws H xs rs) (k : Rws H ys rs) (hl : rs.length ≤ 1000) : Sm H (n + 3) (.ref a) (.ref b) :=
  .inr ⟨a, b, xs, ys, rfl, rfl, .inl ⟨ha, hb⟩, by rw [h.len, k.len], by rw [k.len]; exact hl, fun i x y hx hy => by
    obtain ⟨r, e1, e2⟩ := h.at hx
    obtain ⟨s, e3, e4⟩ := k.at hy
    rw [e1] at e3
    cases e3
    exact sm_rows e2 e4⟩
section
variable {σ : L2.St} {H : Hp} {Q : VK} {K : PySem.W.Frag} {g : TG} {te : TE} {vs : List Nat}
/-- a comprehension that makes new things: I speaks of what is known (G), the list itself aside -/
theorem lcInvL {a : Addr} {xs : List V} (hx : SqL K H a xs) (hn : xs.length ≤ 100000) (I : Nat → List V → Hp → Prop) (h0 : I 0 [] H)
    (hs : ∀ i x acc G H2 (R : VK), xs[i]? = some x → Same H G → Same G H2 → I i acc G → (∀ y G' H6, Same G G' → Same G' H6 → Same H2 H6 → (∀ q o, H2 q = some o → G q = none → G' q = none) → I (i + 1) (acc ++ [y]) G' → R y H6) → g x (wipe σ vs) H2 fun σ2 H4 => wipe σ2 vs = wipe σ vs ∧ te σ2 H4 R)
    (hq : ∀ D acc G H2, H D = none → Same H G → Same G H2 → H2 D = some (.lst acc) → acc.length ≤ xs.length → I xs.length acc G → G D = none → Q (.ref D) H2) : ∃ b, V.ref a = .ref b ∧ (∃ ys, SqL K H b ys) ∧ LcW (Itl K b) g tYes te vs σ H Q := by
  refine ⟨a, rfl, ⟨xs, hx⟩, ?_⟩
  intro D hD
  refine lc_it (walk_list (xs := xs)) (fun i H2 => ∃ acc G, Same H G ∧ Same G H2 ∧ G D = none ∧ H2 D = some (.lst acc) ∧ acc.length ≤ i ∧ I i acc G) ⟨[], H, Same.refl _, Same.new hD, hD, upd_same, Nat.le_refl _, h0⟩ (fun i H2 _ p => ?_) (fun i x H2 H3 hi p y => ?_) (fun H2 p => ?_)
  · obtain ⟨acc, G, s1, s2, _⟩ := p
    exact Same.seq (s1.trans s2) hx
  · obtain ⟨e, hi2⟩ := y
    subst e
    obtain ⟨acc, G, s1, s2, gD, hD2, hl, hI⟩ := p
    have z := hs i x acc G _ (fun y H4 => ∃ acc', H4 D = some (.lst acc') ∧ acc'.length < sizeLine ∧ ∃ acc2 G2, Same H G2 ∧ Same G2 (upd H4 D (.lst (acc' ++ [y]))) ∧ G2 D = none ∧ upd H4 D (.lst (acc' ++ [y])) D = some (.lst acc2) ∧ acc2.length ≤ i + 1 ∧ I (i + 1) acc2 G2) hi2 s1 s2 hI
      (fun y G' H6 t1 t2 t3 t4 hI2 => ⟨acc, t3 _ _ hD2, szlt (by omega), acc ++ [y], G', s1.trans t1, Same.mut t2 (t4 _ _ hD2 gD), t4 _ _ hD2 gD, upd_same, by rw [List.length_append]; simp; omega, hI2⟩)
    exact z
  · obtain ⟨acc, G, s1, s2, gD, hD2, hl, hI⟩ := p
    exact hq D acc G H2 hD s1 s2 hD2 hl hI gD
end
theorem wp_star {σ : L2.St} {H : Hp} {K : PySem.W.Frag} {tl : TA} {QA : List V → Hp → Prop} {p : Addr} {xs : List V} (hx : SqT K H p xs ∨ SqL K H p xs) (h : tl σ H fun ys H2 => QA (xs ++ ys) H2) : ∃ p' xs, V.ref p = V.ref p' ∧ (SqT K H p' xs ∨ SqL K H p' xs) ∧ tl σ H fun ys H2 => QA (xs ++ ys) H2 := ⟨p, xs, rfl, hx, h⟩
theorem wp_starT {σ : L2.St} {H : Hp} {K : PySem.W.Frag} {te : TE} {tl : TA} {QA : List V → Hp → Prop} (h : te σ H fun x H1 => ∃ p xs, x = V.ref p ∧ (SqT K H1 p xs ∨ SqL K H1 p xs) ∧ tl σ H1 fun ys H2 => QA (xs ++ ys) H2) : StX.tStar K te tl σ H QA := h
theorem Rws.set {H : Hp} {x : V} {r : Row} (hx : IsRow H x r) : ∀ {ss : List V} {rs : List Row} (i : Nat), Rws H ss rs → Rws H (ss.set i x) (rs.set i r)
  | _, _, _, .nil => .nil
  | _, _, 0, .cons _ t => .cons hx t
  | _, _, i + 1, .cons h t => .cons h (t.set hx i)
section
variable {σ : L2.St} {H : Hp} {Q : VK} {ta : TE} {tl tk : TA} {K : PySem.W.Frag} {sp : Sp} {E : XK} {C : Addr} {m : Str}
def MetWD (C : Addr) (m : Str) (sp : Sp) (dvs : List V) (E : XK) (t : TA) (σ : L2.St) (Q : VK) (x : V) (H1 : Hp) : Prop := ∃ a dx fs, x = .ref a ∧ H1 a = some (.ins C dx fs) ∧ fs.lookup m = none ∧ t σ H1 fun vs H2 => sp (x :: (vs ++ dvs)) H2 Q E
theorem wp_methD {d : V} (h : ta σ H fun x H1 => MetWD C m sp [d] E tl σ Q x H1) : tMeth C m sp [d] E ta tl σ H Q := h
theorem met_atD {a dx : Addr} {fs : List (Str × V)} {dvs : List V} (ha : H a = some (.ins C dx fs)) (hl : fs.lookup m = none) (q : tl σ H fun vs H2 => sp (.ref a :: (vs ++ dvs)) H2 Q E) : MetWD C m sp dvs E tl σ Q (.ref a) H := ⟨a, dx, fs, rfl, ha, hl, q⟩
def MetWR (C : Addr) (m : Str) (sp : Sp) (E : XK) (t : TA) (σ : L2.St) (Q : VK) (x : V) (H1 : Hp) : Prop := ∃ a dx fs, x = .ref a ∧ H1 a = some (.ins C dx fs) ∧ fs.lookup m = none ∧ t σ H1 fun vs H2 => sp (x :: vs) H2 Q E
theorem wp_methR (h : ta σ H fun x H1 => MetWR C m sp E tl σ Q x H1) : tMethR C m sp E ta tl σ H Q := h
theorem met_atR {a dx : Addr} {fs : List (Str × V)} (ha : H a = some (.ins C dx fs)) (hl : fs.lookup m = none) (q : tl σ H fun vs H2 => sp (.ref a :: vs) H2 Q E) : MetWR C m sp E tl σ Q (.ref a) H := ⟨a, dx, fs, rfl, ha, hl, q⟩
end
theorem wp_yes {σ : L2.St} {H : Hp} {QT : Bool → Hp → Prop} (h : QT true H) : tYes σ H QT := h
theorem Sees.new' {P : Pl} {q : Addr} {G H : Hp} (o : HO) (s : Sees P G H) (hq : H q = none) : ∃ G', Sees P G' (upd H q o) ∧ Same G G' ∧ G' q = some o := ⟨_, s.new hq, Same.new (s.sub.free hq), upd_same⟩
theorem net_at {C : Addr} {H : Hp} {a : Addr} {T : Int} {ns : List (List Nat)} {ss : List V} (h : IsNet C H a T ns ss) : ∃ dx le ls, H a = some (.ins C dx (netF T le ls)) := by
  obtain ⟨dx, le, ls, h, _⟩ := h
  exact ⟨dx, le, ls, h⟩
theorem keepG_nil {α : Type} {xs : List α} : ∀ n, keepG [] xs n = xs.take n
  | 0 => rfl
  | n + 1 => by
    show (if (n : Int) ∈ ([] : List Int) then _ else keepG [] xs n ++ (xs[n]?).toList) = _
    rw [if_neg (by simp), keepG_nil n, List.take_succ]
theorem keepG_none {α : Type} {xs : List α} : keepG [] xs xs.length = xs := by rw [keepG_nil, List.take_length]
theorem flip_flip (rs : List Row) : (rs.map flipR).map flipR = rs := by
  rw [List.map_map]
  exact List.map_id rs
theorem Sees.grow {P : Pl} {G G' H H' : Hp} (s : Sees P G H) (g : Same G G') (u : Same G' H') (h : Same H H') (kp : ∀ q o, H q = some o → G q = none → G' q = none) : Sees P G' H' := by
  obtain ⟨n, c, hp⟩ := s.pool
  exact ⟨⟨n, c, h _ _ hp⟩, g _ _ s.cell, s.few, kp _ _ hp s.free, u⟩
end RM
namespace RM
open PySem PySem.Spec PyProof.Rows L2
/-! ### methods with a star parameter, with keywords -/
section
variable {X : Cx} {k j : Nat} {C : Addr} {m : Str} {sp : Sp} {apos pos : Pos} {e o : Expr} {es : List Expr} {ta : TE} {t tk : TA}
theorem cxUp0 : StX.CXUp CX0 := fun _ _ _ _ _ _ _ _ _ _ _ z => z
theorem fun_star {P : Program} {w : World} {K : PySem.W.Frag} {mg : Str → Option Value} {base : Heap} {x qual pv : Str} {params : Arguments} {body : List Stmt} {scope : Scope} {f : Addr} {fd : FuncData} {N ps : List Str}
    (F : FunD K x qual params body scope [] [] f fd) (S : FnScope N (ps ++ [pv]) scope)
    (hb : ∀ (kV doc pm : Value) (an : Option Addr) (cdv ct : Value) (us rest : List Value), us.length = ps.length → bindArgs (PySem.W.fnOf x qual params body scope .none kV doc pm an cdv ct) ⟨us ++ rest, []⟩ = (newTuple rest >>= fun t => pure (ps.zip us ++ [(pv, t)])))
    (hbody : ∀ (cdv : Value) (A : Around) (outer : List Env) (s : Shared) (H : Hp) (vs : List V) (Q : VK) (E : XK), Room k (A.deeper (envOfC qual scope s.heap.objs.size f cdv)) → sp vs H Q E →
      ∃ t, PSs (cxOf CX0 P w K mg base N qual scope f cdv A outer s H E) body t ∧ t { nx := fun _ H' => Q .non H', rt := Q } (L2.start N vs) H) :
    FnR P w K mg base CX0 (k + 1) f (fun vs H Q E => ∃ ws rest, vs = ws ++ rest ∧ ws.length = ps.length ∧ rest.length ≤ sizeLine ∧ ∀ p, H p = none → sp (ws ++ [V.ref p]) (upd H p (.tup rest)) Q E) := by
  obtain ⟨oc, od, dV, kV, doc, pm, an, cdv, ct, osl, rfl, lk, hcd, hD, _⟩ := F.ex
  rcases hD with ⟨_, rfl⟩ | ⟨e, _⟩
  · exact StX.fn_star lk hcd S cxUp0 (hb kV doc pm an cdv ct) fun A outer s H vs Q E hr h => hbody cdv A outer s H vs Q E hr h
  · exact absurd rfl e
/-- what is handed to a star parameter: a new tuple -/
def StarW (sp : Sp) : Sp := fun vs H Q E => ∃ x rest, vs = x :: rest ∧ rest.length ≤ 1000 ∧ ∀ p, H p = none → sp [x, V.ref p] (upd H p (.tup rest)) Q E
/-- a method def m(self, *v) -/
structure MetS (P : Program) (w : World) (K : PySem.W.Frag) (mg : Str → Option Value) (base : Heap) (k : Nat) (C : Addr) (m : Str) (sp : Sp) : Prop where
  ex : ∃ f : Addr, Cls K C ∧ Meth K C m f ∧ FnR P w K mg base CX0 k f (StarW sp)
theorem MetS.of {P : Program} {w : World} {K : PySem.W.Frag} {mg : Str → Option Value} {base : Heap} {f : Addr} {p0 : Str} (c : Cls K C) (hm : Meth K C m f)
    (F : FnR P w K mg base CX0 k f (fun vs H Q E => ∃ ws rest, vs = ws ++ rest ∧ ws.length = [p0].length ∧ rest.length ≤ sizeLine ∧ ∀ p, H p = none → sp (ws ++ [V.ref p]) (upd H p (.tup rest)) Q E)) : MetS P w K mg base k C m sp :=
  ⟨f, c, hm, F.imp fun vs H Q E ⟨x, rest, e, hl, q⟩ => ⟨[x], rest, e, rfl, szl (by omega), q⟩⟩
/-- o.m(es, kws) as it is run -/
def MC (X : Cx) (o : Expr) (m : Str) (apos pos : Pos) (es : List Expr) (kws : List Keyword) (pl : Sem Bool) : Prop :=
  eval (.Call (.Attribute o m apos) es kws pos) X.env = (eval o X.env >>= fun ov => standAt apos.atName >>= fun _ => holding [ov] (getMethod ov m pl) >>= fun q =>
    callWith pos q.1 q.2 (backTo pos (starEach es X.env)) (backToKw pos (keywordEach kws X.env)))
def NoStar (X : Cx) (pos : Pos) (e : Expr) (es : List Expr) : Prop := starEach (e :: es) X.env = (false, eval e X.env) :: starEach es X.env ∧ (backTo pos (starEach es X.env)).any (·.1) = false
theorem pe_mtS {pl : Sem Bool} (c : MetS X.prog X.w X.K X.mg X.base k C m sp) (hr : Room j X.A) (hk : k ≤ j) (he : PE X o ta) (ha : PA X (e :: es) t) (hst : NoStar X pos e es := by exact ⟨rfl, rfl⟩) (ht : MC X o m apos pos (e :: es) [] pl := by exact rfl) :
    PE X (.Call (.Attribute o m apos) (e :: es) [] pos) (tMethR C m (StarW sp) E0 ta t) := by
  obtain ⟨f, hc, hm, F⟩ := c.ex
  exact pe_methR (pl := pl) he hc hm F (hr.mono hk) C8.pass0 ha hst.1 hst.2 ht
theorem pe_mtS0 {pl : Sem Bool} (c : MetS X.prog X.w X.K X.mg X.base k C m sp) (hr : Room j X.A) (hk : k ≤ j) (he : PE X o ta) (ht : MC X o m apos pos [] [] pl := by exact rfl) :
    PE X (.Call (.Attribute o m apos) [] [] pos) (tMethR C m (StarW sp) E0 ta tNil) := by
  obtain ⟨f, hc, hm, F⟩ := c.ex
  refine ⟨fun pins s σ H Q I h => PySem.W.methodCall_KW (pl := pl) (thn (he.run pins s σ H _ I h) fun u s1 hu => ?_) ht⟩
  obtain ⟨x, H1, I1, rx, a, dx, fs, rfl, ea, l, q⟩ := hu
  cases rx
  refine getmeth_ok I1 ea hc hm l (PySem.W.callWith_K0 (first := [.ref a]) I1.kIn hm.kp ?_)
  exact wpAny_call (run_fnR (us := [.ref a]) (vs := [.ref a]) F (hr.mono hk) C8.pass0 I1 (.cons rfl .nil) q)
/-- a method called with keywords: n the number of positional values, self among them -/
structure MetK (P : Program) (w : World) (K : PySem.W.Frag) (mg : Str → Option Value) (base : Heap) (k : Nat) (C : Addr) (m : Str) (sp : Sp) (n : Nat) (ks : List Str) : Prop where
  ex : ∃ (f : Addr) (fd : FuncData) (ps : List Str), Cls K C ∧ Meth K C m f ∧ FnOk P w K mg base CX0 k f fd ps sp ∧ KBn K fd ps n ks (fun us ws => us ++ ws) (fun us ws => us ++ ws)
def tMethK (C : Addr) (m : Str) (n r : Nat) (sp : Sp) (ta : TE) (t tk : TA) : TE := fun σ H Q => ta σ H fun x H1 => ∃ a dx fs, x = .ref a ∧ H1 a = some (.ins C dx fs) ∧ fs.lookup m = none ∧ t σ H1 fun vs H2 => tk σ H2 fun zs H3 => (x :: vs).length = n ∧ zs.length = r ∧ sp (x :: (vs ++ zs)) H3 Q E0
def KwOk (X : Cx) (pos : Pos) (e : Expr) (es : List Expr) (kws : List Keyword) (ks : List Str) : Prop :=
  (backToKw pos (keywordEach kws X.env)).all (·.1.isSome) = true ∧ (backToKw pos (keywordEach kws X.env)).filterMap (·.1) = ks ∧ starEach (e :: es) X.env = (false, eval e X.env) :: starEach es X.env ∧
    ((backTo pos (starEach (e :: es) X.env)).any (·.1) || (backToKw pos (keywordEach kws X.env)).any (·.1.isNone)) = false
theorem pe_mtK {pl : Sem Bool} {n r : Nat} {ks : List Str} {kws : List Keyword} (c : MetK X.prog X.w X.K X.mg X.base k C m sp n ks) (hr : Room j X.A) (hk : k ≤ j) (he : PE X o ta) (ha : PA X (e :: es) t) (hkw : PK X kws tk)
    (hq : KwOk X pos e es kws ks := by exact ⟨rfl, rfl, rfl, rfl⟩) (ht : MC X o m apos pos (e :: es) kws pl := by exact rfl) (hl : ks.length = r := by rfl) : PE X (.Call (.Attribute o m apos) (e :: es) kws pos) (tMethK C m n r sp ta t tk) := by
  subst hl
  obtain ⟨f, fd, ps, hc, hm, F, hb⟩ := c.ex
  refine ⟨fun pins s σ H Q I h => PySem.W.methodCall_KW (pl := pl) (thn (he.run pins s σ H _ I h) fun u s1 hu => ?_) ht⟩
  obtain ⟨x, H1, I1, rx, a, dx, fs, rfl, ea, l, q⟩ := hu
  cases rx
  refine getmeth_ok I1 ea hc hm l (PySem.W.callWith_KW (first := [.ref a]) (h₀ := X.base) I.ok.mod.kin hm.kp hq.1 (thn (ha.run pos pins s1 σ H1 _ I1 q) fun us s2 hu => ?_) hq.2.2.2 hq.2.2.1)
  obtain ⟨vs, H2, I2, r, q2⟩ := hu
  refine thn (hkw.run pos pins s2 σ H2 _ I2 q2) fun ws s3 hw => ?_
  obtain ⟨zs, H3, I3, rz, l1, l2, q3⟩ := hw
  refine ⟨I3.kIn, ?_⟩
  rw [hq.2.1]
  exact run_fnN (us := .ref a :: us) (vs := .ref a :: vs) F (hr.mono hk) hb C8.pass0 I3 (.cons rfl r) rz l1 l2 q3
/-- keyword-only parameters, all given in their order; no positional defaults -/
theorem kbn_all {K : PySem.W.Frag} {x qual : Str} {params : Arguments} {body : List Stmt} {scope : Scope} {kws : List (Str × V)} {f : Addr} {fd : FuncData} {ps : List Str} (F : FunD K x qual params body scope [] kws f fd) (n : Nat) (ks : List Str)
    (h : ∀ (kV doc pm : Value) (an : Option Addr) (cdv ct : Value) (us ws : List Value), us.length = n → ws.length = ks.length → bindArgs (PySem.W.fnOf x qual params body scope .none kV doc pm an cdv ct) ⟨us, ks.zip ws⟩ = pure (ps.zip (us ++ ws))) : KBn K fd ps n ks (fun us ws => us ++ ws) (fun us ws => us ++ ws) := by
  obtain ⟨oc, od, dV, kV, doc, pm, an, cdv, ct, osl, rfl, lk, hcd, hD, _⟩ := F.ex
  rcases hD with ⟨_, rfl⟩ | ⟨e, _⟩
  · exact ⟨fun s us ws _ l1 l2 => .of_eq (h kV doc pm an cdv ct us ws l1 l2), fun r1 r2 => r1.append r2⟩
  · exact absurd rfl e
end
end RM
namespace RM
open PySem PySem.Spec PyProof.Rows L2
section
variable {σ : L2.St} {H : Hp} {Q : VK} {ta : TE} {tl tk : TA} {sp : Sp} {C : Addr} {m : Str}
def MetWK (C : Addr) (m : Str) (n r : Nat) (sp : Sp) (t tk : TA) (σ : L2.St) (Q : VK) (x : V) (H1 : Hp) : Prop := ∃ a dx fs, x = .ref a ∧ H1 a = some (.ins C dx fs) ∧ fs.lookup m = none ∧ t σ H1 fun vs H2 => tk σ H2 fun zs H3 => (x :: vs).length = n ∧ zs.length = r ∧ sp (x :: (vs ++ zs)) H3 Q E0
theorem wp_methK {n r : Nat} (h : ta σ H fun x H1 => MetWK C m n r sp tl tk σ Q x H1) : tMethK C m n r sp ta tl tk σ H Q := h
theorem met_atK {a dx : Addr} {fs : List (Str × V)} {n r : Nat} (ha : H a = some (.ins C dx fs)) (hl : fs.lookup m = none) (q : tl σ H fun vs H2 => tk σ H2 fun zs H3 => (V.ref a :: vs).length = n ∧ zs.length = r ∧ sp (.ref a :: (vs ++ zs)) H3 Q E0) : MetWK C m n r sp tl tk σ Q (.ref a) H := ⟨a, dx, fs, rfl, ha, hl, q⟩
end
end RM
namespace RM
open PySem PySem.Spec PyProof.Rows L2
/-! ### list(d.values()) -/
def tListVals (te : TE) : TE := fun σ H Q => te σ H fun x H1 => ∃ (d : Addr) (kvs : List (Key × V)), x = .ref d ∧ H1 d = some (.dK kvs) ∧ ∀ p, H1 p = none → Q (.ref p) (upd H1 p (.lst (kvs.map (·.2))))
theorem kv_snd : ∀ {kvs : List (Key × V)} {vs : List (Key × Value)}, KV kvs vs → Vals (kvs.map (·.2)) (vs.map (·.2))
  | _, _, .nil => .nil
  | _, _, .cons h t => .cons h.2 (kv_snd t)
section
variable {X : Cx} {e : Expr} {te : TE} {p apos cpos pos : Pos}
abbrev valsE (e : Expr) (apos cpos : Pos) : Expr := .Call (.Attribute e "values" apos) [] [] cpos
theorem pe_listVals (hc : X.calm = true) (he : PE X e te) (hg : Gl X "list") (hm : X.mg "list" = none) (hv : bootBuiltins "list" = some (.type "list")) (hb : attributeBase e "values" X.env (eval e X.env) = eval e X.env := by rfl) (hl : (apos.endLine == cpos.line) = true := by rfl)
    (hs : starEach [valsE e apos cpos] X.env = (false, eval (valsE e apos cpos) X.env) :: starEach [] X.env := by rfl) : PE X (.Call (.Name "list" p) [valsE e apos cpos] [] pos) (tListVals te) := by
  refine ⟨fun pins s σ H Q I hq => wpAny_Call_Name_kw (ld_blt I hg hm hv (PyProof.Rows.callWith_type1 ?_ hs rfl))⟩
  rw [hs]; show wpAny _ _ (spliced ((false, eval (valsE e apos cpos) X.env) :: backTo pos (starEach [] X.env))) _ _ s
  refine Calls.spliced_cons (wpAny_Call_method (T := "dict") (id := "dict.values") hb rfl hl F.plainAttrs_dict F.slot_dict_values F.type_dict_values (thn (he.run pins s σ H _ I hq) fun u s1 hu => ?_))
  obtain ⟨x, H1, I1, rx, d, kvs, rfl, hd, q⟩ := hu
  cases rx
  obtain ⟨hz, hs0, vs, kv, hdo⟩ := I1.hok d _ hd
  obtain ⟨ep, hat⟩ := hdo.dictAt
  have lk : kvs.length = vs.length := Paired.length kv
  have I2 : Inv X pins σ H1 { s1 with heap := s1.heap.push { cls := .type "dict_values", data := .fields #[.ref d] } } := I1.kept (t' := s1.toks) fun b ob w => Heap.get?_push_of_some _ w
  refine ⟨hdo.typeIs, hdo.mapOf.noDict, (?_ : wpAny _ _ (callWith cpos (.builtin "dict.values") [.ref d] [] []) _ X.xe s1)⟩
  refine method_meetsIn F.slot_dict_values F.entry_dict_values rfl (PySem.evalArgs_none ⟨rfl, hdo.typeIs, F.args_dict_values_1 _, _, meets_dict_values (mixKind X.prog X.w) d hs0, ⟨vs, hdo⟩, Calls.spliced_nil ?_⟩)
  refine PySem.W.kdl_call (PySem.W.kdl_values (knd := mixKind X.prog X.w) (kvs := vs) (ep := ep) (r := s1.heap.objs.size) (d := d)) (I1.ok.hd hc) ⟨⟨_, Heap.get?_push_size _ rfl, rfl, rfl⟩, hat.push _⟩ (by omega) fun h' tk acc c' hk hD hacc => ?_
  have ev : acc.toList = vs.map (·.2) := PySem.W.kdl_vals_eq acc.toList (by rw [Array.length_toList]; exact hacc.1) fun j v w => hacc.2 j v (by rw [← Array.getElem?_toList]; exact w)
  have hvv : Vals (kvs.map (·.2)) acc.toList := by rw [ev]; exact kv_snd kv
  exact ⟨.ref _, _, I2.laid (t' := tk) hk (Nat.le_refl _) (show ObjOk X.prog X.w _ _ _ (.lst (kvs.map (·.2))) from ⟨by rw [List.length_map]; exact hz, acc.toList, c', hvv, by rw [Array.toArray_toList]; exact hD⟩), rfl, q _ (I2.hok.fresh (Nat.le_refl _))⟩
end
end RM
namespace RM
open PySem PySem.Spec PyProof.Rows L2
/-! ### dict comprehensions -/
section
variable {σ : L2.St} {H : Hp} {Q : VK} {K : PySem.W.Frag} {g : TG} {tt : TT} {tk tv ta : TE} {vs : List Nat}
def DcW (J : It) (g : TG) (tt : TT) (tk tv : TE) (vs : List Nat) (σ : L2.St) (H1 : Hp) (Q : VK) : Prop := tDc (fun _ H R => R J H) g tt tk tv vs σ H1 Q
theorem wp_dcL (h : ta σ H fun x H1 => ∃ a, x = .ref a ∧ (∃ xs, SqL K H1 a xs) ∧ DcW (Itl K a) g tt tk tv vs σ H1 Q) : tDc (iList K ta) g tt tk tv vs σ H Q := h
theorem dcL {a : Addr} {xs : List V} (hx : SqL K H a xs) (hn : xs.length ≤ 100000) (kv : Nat → List (Key × V)) (h0 : kv 0 = []) (hlen : ∀ i, (kv i).length ≤ i)
    (hs : ∀ i x H2 (R : V → V → Hp → Prop), xs[i]? = some x → Same H H2 → (∀ k z H5, Same H2 H5 → kv (i + 1) = putK (kv i) k z → R (kV k) z H5) → g x (wipe σ vs) H2 fun σ2 H3 => wipe σ2 vs = wipe σ vs ∧ tk σ2 H3 fun y H4 => tv σ2 H4 fun z H5 => R y z H5)
    (hq : ∀ D H2, H D = none → Same H H2 → H2 D = some (.dK (kv xs.length)) → Q (.ref D) H2) : ∃ b, V.ref a = .ref b ∧ (∃ ys, SqL K H b ys) ∧ DcW (Itl K b) g tYes tk tv vs σ H Q := by
  refine ⟨a, rfl, ⟨xs, hx⟩, ?_⟩
  intro D hD
  refine ⟨fun i m H2 => m = xs.length - i ∧ i ≤ xs.length ∧ Same H H2 ∧ H2 D = some (.dK (kv i)), ⟨xs.length, by simp, Nat.zero_le _, Same.new hD, by rw [h0]; exact upd_same⟩, ?_⟩
  rintro i m H2 ⟨rfl, hi, s1, hD2⟩
  have hx2 := Same.seq s1 hx
  rcases Nat.lt_or_ge i xs.length with h | h
  · right
    refine ⟨⟨xs, xs[i], hx2, List.getElem?_eq_getElem h⟩, fun H' => Same H H' ∧ H' D = some (.dK (kv (i + 1))), fun H' hN => ⟨xs.length - (i + 1), by omega, rfl, by omega, hN⟩, fun x H' hy => ?_⟩
    obtain ⟨e, hy⟩ := hy
    subst e
    have hxi := hy xs hx2
    exact hs i x _ (fun y z H5 => ∃ kvs k, y = kV k ∧ H5 D = some (.dK kvs) ∧ kvs.length < sizeLine ∧ (Same H (upd H5 D (.dK (putK kvs k z))) ∧ upd H5 D (.dK (putK kvs k z)) D = some (.dK (kv (i + 1))))) hxi s1 fun k z H5 s5 e => ⟨kv i, k, rfl, s5 _ _ hD2, szlt (by have := hlen i; omega), Same.mut (s1.trans s5) hD, by rw [e]; exact upd_same⟩
  · left
    have e : i = xs.length := by omega
    subst e
    exact ⟨⟨xs, hx2, Nat.le_refl _⟩, hq D H2 hD s1 hD2⟩
end
end RM
namespace RM
open PySem PySem.Spec PyProof.Rows L2
/-! ### dicts: items, walks -/
theorem u1 {n : Nat} {A : Around} (h : Room n A) : A.units + 1 < cLine := by have := h.units; omega
section
variable {σ : L2.St} {H : Hp} {Q : VK} {K : PySem.W.Frag} {g : TG} {tt : TT} {tk tv te td ty tx : TE} {vs : List Nat} {kvs : List (Key × V)} {d : Addr} {v : V}
theorem wp_dgetE (h : td σ H fun x H1 => ty σ H1 fun y H2 => ∃ a v, x = .ref a ∧ DGet H2 a y (some v) ∧ Q v H2) : tDGet td ty σ H Q := h
theorem dget_at {R : V → Prop} {k : Key} (hd : Rd H d (.dK kvs)) (hv : valV kvs k = some v) (q : R v) : ∃ a v, V.ref d = .ref a ∧ DGet H a (kV k) (some v) ∧ R v := ⟨d, v, rfl, .inl ⟨kvs, k, hd, rfl, hv.symm⟩, q⟩
theorem dget_s {R : V → Prop} {l : List Nat} (hd : Rd H d (.dK kvs)) (hv : valV kvs (.inr (S l)) = some v) (q : R v) : ∃ a v, V.ref d = .ref a ∧ DGet H a (.str (S l)) (some v) ∧ R v := ⟨d, v, rfl, .inl ⟨kvs, .inr (S l), hd, rfl, hv.symm⟩, q⟩
theorem wp_dnew (h : ∀ p, H p = none → Q (.ref p) (upd H p (.dK []))) : tDNewK σ H Q := h
theorem wp_lockE {t : TE} (hd : H d = some (.dK kvs)) (h : ∀ od, t σ (upd H d (.frz od (.dK kvs))) fun v H' => H' d = some (.frz od (.dK kvs)) ∧ Q v (upd H' d (.dK kvs))) : tLockE t σ H Q := ⟨d, _, hd, True.intro, h⟩
theorem unl {od : Obj} {H' : Hp} (hd : H d = some (.dK kvs)) (s : Same (upd H d (.frz od (.dK kvs))) H') : Same H (upd H' d (.dK kvs)) := fun a o h => by
  by_cases e : a = d
  · subst e; rw [hd] at h; cases h; exact upd_same
  · rw [upd_ne e]; exact s _ _ (by rw [upd_ne e]; exact h)
theorem frz_at {od : Obj} {H2 : Hp} (s : Same (upd H d (.frz od (.dK kvs))) H2) : H2 d = some (.frz od (.dK kvs)) := s _ _ upd_same
theorem frz_ne {od : Obj} {H2 : Hp} {a : Addr} {o : HO} (hd : H d = some (.dK kvs)) (s : Same (upd H d (.frz od (.dK kvs))) H2) (h : H a = some o) (n : ∀ kvs, o ≠ .dK kvs) : H2 a = some o := s _ _ (by
  rw [upd_ne (fun e => by rw [e, hd] at h; cases h; exact n _ rfl)]; exact h)
/-- a dict comprehension over a dict's keys -/
theorem lock_dc (hd : H d = some (.dK kvs)) (hn : kvs.length ≤ 100000) (hv : ∀ H' (R : VK), R (.ref d) H' → td σ H' R)
    (kv : Nat → List (Key × V)) (h0 : kv 0 = []) (hlen : ∀ i, (kv i).length ≤ i)
    (hs : ∀ i k x od H2 (R : V → V → Hp → Prop), kvs[i]? = some (k, x) → Same (upd H d (.frz od (.dK kvs))) H2 → (∀ k' z H5, Same H2 H5 → kv (i + 1) = putK (kv i) k' z → R (kV k') z H5) →
      g (kV k) (wipe σ vs) H2 fun σ2 H3 => wipe σ2 vs = wipe σ vs ∧ tk σ2 H3 fun y H4 => tv σ2 H4 fun z H5 => R y z H5)
    (hq : ∀ D H2, H D = none → Same H H2 → H2 D = some (.dK (kv kvs.length)) → Q (.ref D) H2) : tLockE (tDc (iKeys td) g tYes tk tv vs) σ H Q := by
  refine wp_lockE hd fun od => ?_
  refine hv _ _ ⟨d, od, rfl, .inl ⟨kvs, upd_same, ?_⟩⟩
  intro D hD
  have nDd : D ≠ d := fun e => by rw [e, upd_same] at hD; cases hD
  have hD' : H D = none := by rw [upd_ne nDd] at hD; exact hD
  refine ⟨fun i m H2 => m = kvs.length - i ∧ i ≤ kvs.length ∧ Same (upd H d (.frz od (.dK kvs))) H2 ∧ H2 D = some (.dK (kv i)), ⟨kvs.length, by simp, Nat.zero_le _, Same.new hD, by rw [h0]; exact upd_same⟩, ?_⟩
  rintro i m H2 ⟨rfl, hi, s1, hD2⟩
  have hf := frz_at s1
  rcases Nat.lt_or_ge i kvs.length with h | h
  · right
    refine ⟨⟨hf, h⟩, fun H' => Same (upd H d (.frz od (.dK kvs))) H' ∧ H' D = some (.dK (kv (i + 1))), fun H' hN => ⟨kvs.length - (i + 1), by omega, rfl, by omega, hN⟩, fun x H' hy => ?_⟩
    obtain ⟨e, k, v, hkv, rfl⟩ := hy
    subst e
    exact hs i k v od _ (fun y z H5 => ∃ kvs' k, y = kV k ∧ H5 D = some (.dK kvs') ∧ kvs'.length < sizeLine ∧ (Same (upd H d (.frz od (.dK kvs))) (upd H5 D (.dK (putK kvs' k z))) ∧ upd H5 D (.dK (putK kvs' k z)) D = some (.dK (kv (i + 1))))) hkv s1 fun k z H5 s5 e => ⟨kv i, k, rfl, s5 _ _ hD2, szlt (by have := hlen i; omega), Same.mut (s1.trans s5) hD, by rw [e]; exact upd_same⟩
  · left
    have e : i = kvs.length := by omega
    subst e
    exact ⟨⟨hf, Nat.le_refl _⟩, hf, hq D _ hD' (unl hd s1) (by rw [upd_ne nDd]; exact hD2)⟩
/-- d.setdefault(k, []).append(x) and the like -/
theorem wp_dsetd (h : td σ H fun x H1 => ∃ a, x = .ref a ∧ IsD H1 a ∧ ty σ H1 fun y H2 => tx σ H2 fun z H3 => ∃ (kvs : List (Key × V)) (k : Key), H3 a = some (.dK kvs) ∧ y = kV k ∧ kvs.length < sizeLine ∧
  (∀ v, valV kvs k = some v → Q v H3) ∧ (valV kvs k = none → Q z (upd H3 a (.dK (putK kvs k z))))) : tDSetd td ty tx σ H Q := h
theorem wp_lv (h : te σ H fun x H1 => ∃ (d : Addr) (kvs : List (Key × V)), x = .ref d ∧ H1 d = some (.dK kvs) ∧ ∀ p, H1 p = none → Q (.ref p) (upd H1 p (.lst (kvs.map (·.2))))) : tListVals te σ H Q := h
end
/-- a dict by names -/
def dN (f : List Nat → V) (ns : List (List Nat)) : List (Key × V) := ns.map fun l => (.inr (S l), f l)
theorem dN_len {f : List Nat → V} {ns : List (List Nat)} : (dN f ns).length = ns.length := List.length_map ..
theorem key_inj {a b : List Nat} (h : (Sum.inr (S a) : Key) = .inr (S b)) : a = b := by
  injection h with h
  exact S_inj h
theorem dN_val {f : List Nat → V} {l : List Nat} : ∀ {ns : List (List Nat)}, l ∈ ns → valV (dN f ns) (.inr (S l)) = some (f l)
  | m :: ns, h => by
    by_cases e : m = l
    · subst e
      exact valV_pos rfl
    · show valV ((Sum.inr (S m), f m) :: dN f ns) _ = _
      have ne : ¬ ((Sum.inr (S m), f m) : Key × V).1 = (Sum.inr (S l) : Key) := fun z => e (key_inj z)
      rw [valV_neg ne]
      exact dN_val ((List.mem_cons.mp h).resolve_left (Ne.symm e))
theorem dN_none {f : List Nat → V} {l : List Nat} : ∀ {ns : List (List Nat)}, l ∉ ns → valV (dN f ns) (.inr (S l)) = none
  | [], _ => rfl
  | m :: ns, h => by
    show valV ((Sum.inr (S m), f m) :: dN f ns) _ = _
    have ne : ¬ ((Sum.inr (S m), f m) : Key × V).1 = (Sum.inr (S l) : Key) := fun z => h (by rw [key_inj z]; exact List.mem_cons_self)
    rw [valV_neg ne]
    exact dN_none fun z => h (List.mem_cons_of_mem _ z)
theorem dN_put {f : List Nat → V} {l : List Nat} {ns : List (List Nat)} (h : l ∉ ns) : putK (dN f ns) (.inr (S l)) (f l) = dN f (ns ++ [l]) := by
  rw [putK_new _ (dN_none h)]
  unfold dN
  rw [List.map_append]
  rfl
theorem dN_at {f : List Nat → V} {ns : List (List Nat)} {i : Nat} {k : Key} {x : V} (h : (dN f ns)[i]? = some (k, x)) : ∃ l, ns[i]? = some l ∧ k = .inr (S l) ∧ x = f l := by
  unfold dN at h
  rw [List.getElem?_map] at h
  obtain ⟨l, hl, e⟩ := Option.map_eq_some_iff.mp h
  cases e
  exact ⟨l, hl, rfl, rfl⟩
theorem dN_congr {f g : List Nat → V} {ns : List (List Nat)} (h : ∀ l ∈ ns, f l = g l) : dN f ns = dN g ns := List.map_congr_left fun l hl => by rw [h l hl]
theorem take_snoc {α : Type} {ns : List α} {i : Nat} {l : α} (h : ns[i]? = some l) : ns.take (i + 1) = ns.take i ++ [l] := by
  obtain ⟨hl, e⟩ := List.getElem?_eq_some_iff.mp h
  rw [← e, List.take_append_getElem]
end RM
namespace RM
open PySem PySem.Spec PyProof.Rows L2 ItX
/-! ### for x in o: o of an own class whose __iter__ hands out a young iterator -/
/-- a def that may know how large the heap was when it was called -/
structure FnN (P : Program) (w : World) (K : PySem.W.Frag) (mg : Str → Option Value) (base : Heap) (k : Nat) (f : Addr) (fd : FuncData) (ps : List Str) (sp : Nat → Sp) : Prop where
  len : ∀ n vs H Q E, sp n vs H Q E → vs.length = ps.length
  run : ∀ A outer s H (args : Args) us vs Q E, Room k A → Env0 P w K mg base A outer s H → BindsTo s fd args (ps.zip us) → Vals vs us → sp s.heap.objs.size vs H Q E →
    codeAny (model P w) A (.call (.ref f) args) (CR CX0 outer P w H s Q E) s
theorem fn_young {P : Program} {w : World} {K : PySem.W.Frag} {mg : Str → Option Value} {base : Heap} {k : Nat} {f : Addr} {x qual : Str} {params : Arguments} {body : List Stmt} {scope : Scope} {fd : FuncData} {N ps : List Str} {sp : Nat → Sp}
    (F : FunD K x qual params body scope [] [] f fd) (S : FnScope N ps scope) (len : ∀ n vs H Q E, sp n vs H Q E → vs.length = ps.length)
    (hb : ∀ cdv A outer (s : Shared) H vs Q E, Room k (A.deeper (envOfC qual scope s.heap.objs.size f cdv)) → sp s.heap.objs.size vs H Q E →
      ∃ t, PSs (cxOf CX0 P w K mg base N qual scope f cdv A outer s H E) body t ∧ t { nx := fun _ H' => Q .non H', rt := Q } (L2.start N vs) H) : FnN P w K mg base (k + 1) f fd ps sp := by
  obtain ⟨oc, od, dV, kV, doc, pm, an, cdv, ct, osl, rfl, look, cod, _⟩ := F.ex
  refine ⟨len, ?_⟩
  intro A outer s H args us vs Q E room env bnd rel prem
  have cnt := len _ _ _ _ _ prem
  have up : ∀ b o, base.get? b = some o → s.heap.get? b = some o := fun b o z => (env.bs b o z).1
  have inK : K.In s.heap := env.mod.kin.keeps up
  refine codeAny_call_function room.depth (inK _ _ look) rfl S.co S.gen rfl (PySem.W.codeRec_of inK cod) (bnd _ _ _ _ ?_)
  refine wpAny_newFunctionEnv_cells S.kind ?_ fun en he s1 z => ?_
  · rintro ⟨m, v⟩ hm
    cases S.par m (List.of_mem_zip hm).1 with
    | inl q => exact .inl q
    | inr q => exact .inr ⟨q, PySem.W.cellsFrom_some _ _ _ (.inl q)⟩
  subst he
  refine ⟨(env.mod.nolimit.keeps up).keeps z.toInCall.keep, codeAny_func ?_⟩
  obtain ⟨t, ht, hq⟩ := hb cdv A outer s H vs Q E (room.deeper _) prem
  have I0 := inv_start (CX := CX0) (E := E) S room.hd env cnt rel z
  refine wpAny_mono (ht.run [] s1 (L2.start N vs) H _ I0 hq) (fun fl s' hs => ?_) fun _ _ hs => hs
  cases fl with
  | ret u =>
    obtain ⟨v, σ', H', J, rv, q⟩ := hs
    exact ⟨v, H', J.os, J.bare, J.base, J.hok, rv, q⟩
  | next =>
    obtain ⟨σ', H', J, q⟩ := hs
    exact ⟨V.non, H', J.os, J.bare, J.base, J.hok, rfl, q⟩
  | brk => exact hs.choose_spec.choose_spec.2.elim
  | cont => exact hs.choose_spec.choose_spec.2.elim
/-- an iterator over the locked dict d -/
def KeyIt (d : Addr) (o : Obj) (n it : Addr) : HO := .ext fun h => ∃ (es : Array DictEntry) (ep : Nat), o.data = .dict es ep ∧ h.IsKeyIter it d 0 n ep
def rIterK (n : Nat) : List V → Hp → VK → Prop := fun xs H Q => ∃ (d : Addr) (o : Obj) (kvs : List (Key × V)), xs = [.ref d] ∧ H d = some (.frz o (.dK kvs)) ∧ ∀ it, H it = none → n ≤ it → Q (.ref it) (upd H it (KeyIt d o kvs.length it))
section
variable {X : Cx}
theorem call_iterK : CallR X (.builtin "iter") (rIterK X.s_0.heap.objs.size) := by
  intro pins s σ H xs us Q I r h
  obtain ⟨d, o, kvs, rfl, hd, q⟩ := h
  obtain ⟨u, rfl, ru⟩ := r.one
  cases ru
  obtain ⟨hs, hgd, hx, es, ep, vs, hdt, hsz, kv, hm⟩ := I.frzK hd
  refine Calls.call_function_entry (by decide +kernel) (by decide +kernel) PySem.W.kdk_entry_iter (PySem.W.kdk_args_iter _) ?_
  unfold Builtin.«iter»
  refine wpAny_bind (m := someArgs "iter" 1 2 _) (wpAny_of_eq (a := [Value.ref d]) (by first | rfl | kernel_rfl!) ?_)
  show wpAny _ _ (pyIter (.ref d) >>= _) _ _ _
  refine wpAny_bind (iter_keys hs hgd hx hdt ?_)
  have ki : (s.heap.push { cls := .type "dict_keyiterator", data := .fields #[.ref d, .int 0 0, .int es.size 0, .int ep 0] }).IsKeyIter s.heap.objs.size d 0 kvs.length ep := ⟨_, Heap.get?_push_size _ rfl, rfl, by rw [hsz] <;> rfl⟩
  have ko : ∀ {H2 : Hp}, ObjOk X.prog X.w H2 (s.heap.push { cls := .type "dict_keyiterator", data := .fields #[.ref d, .int 0 0, .int es.size 0, .int ep 0] }) s.heap.objs.size (KeyIt d o kvs.length s.heap.objs.size) := fun {H2} =>
    ⟨⟨es, ep, hdt, ki⟩, ⟨_, Heap.get?_push_size _ rfl⟩, fun h1 h2 z kk => by
      obtain ⟨es', ep', e1, ob, e2, e3, e4⟩ := z
      exact ⟨es', ep', e1, ob, kk _ e2, e3, e4⟩⟩
  exact wpAny_pure ⟨_, rfl, .ref s.heap.objs.size, _, I.laid (t' := s.toks) (fun b u e => Heap.get?_push_of_some _ e) (Nat.le_refl _) ko, rfl, q _ (I.hok.fresh (Nat.le_refl _)) I.sz⟩
end
/-- __iter__ of the class at C -/
structure ItrN (P : Program) (w : World) (K : PySem.W.Frag) (mg : Str → Option Value) (base : Heap) (n : Nat) (C : Addr) (sp : Nat → Sp) : Prop where
  ex : ∃ (f : Addr) (fd : FuncData) (ps : List Str), PySem.W.findIn K (.ref C) "__iter__" = some (some (.ref f)) ∧ PySem.W.isFn K (.ref f) = true ∧ FnN P w K mg base n f fd ps sp ∧ Binds K fd ps []
/-- what __iter__ promises: iter(self.F), F a list or a locked dict -/
def spYoung (K : PySem.W.Frag) (C : Addr) (F : Str) (n : Nat) : Sp := fun vs H Q _ => ∃ a dx fs l zs, vs = [.ref a] ∧ H a = some (.ins C dx fs) ∧ fs.lookup F = some (.ref l) ∧ SqL K H l zs ∧ ∀ it, H it = none → n ≤ it → Q (.ref it) (upd H it (ItO l it 0))
def spYoungK (C : Addr) (F : Str) (n : Nat) : Sp := fun vs H Q _ => ∃ a dx fs d o kvs, vs = [.ref a] ∧ H a = some (.ins C dx fs) ∧ fs.lookup F = some (.ref d) ∧ H d = some (.frz o (.dK kvs)) ∧ ∀ it, H it = none → n ≤ it → Q (.ref it) (upd H it (KeyIt d o kvs.length it))
theorem dropH_upd' {H : Hp} {a : Addr} {o : HO} (h : H a = none) : dropH (upd H a o) a = H := by
  funext b
  by_cases e : b = a
  · rw [e, dropH_same, h]
  · rw [dropH_ne e, upd_ne e]
def iOwnL (K : PySem.W.Frag) (C : Addr) (F : Str) (te : TE) : TI := fun σ H R => te σ H fun x H1 => ∃ a dx fs l zs, x = .ref a ∧ H1 a = some (.ins C dx fs) ∧ fs.lookup F = some (.ref l) ∧ SqL K H1 l zs ∧ R (Itl K l) H1
def iOwnK (C : Addr) (F : Str) (te : TE) : TI := fun σ H R => te σ H fun x H1 => ∃ a dx fs d o kvs, x = .ref a ∧ H1 a = some (.ins C dx fs) ∧ fs.lookup F = some (.ref d) ∧ H1 d = some (.frz o (.dK kvs)) ∧ R (Itk d o kvs) H1
section
variable {X : Cx} {tg e : Expr} {te : TE} {C : Addr} {F : Str} {n j : Nat} {pins : List (Addr × Obj)} {σ : L2.St} {H : Hp} {s : Shared} {A : Around} {f : Addr} {fd : FuncData} {ps : List Str} {sp : Nat → Sp}
theorem run_young {E' : Value → Shared → Prop} (sb : Sub X n A) (G : FnN X.prog X.w X.K X.mg X.base n f fd ps sp) (hb : Binds X.K fd ps []) (I : Inv X pins σ H s) {us : List Value} {vs : List V} {Q : VK} (r : Vals vs us) (h : sp s.heap.objs.size vs H Q E0) :
    wpAny (model X.prog X.w) A (call (.ref f) us) (EP X pins σ Q) E' s := by
  have e0 : Env0 X.prog X.w X.K X.mg X.base A X.stack s H := by
    have e := I.env0
    exact ⟨by rw [sb.fr]; exact e.frames, e.mod, e.bs, e.bsz, e.funs, e.frf, e.hok, e.bare⟩
  have hl := G.len _ _ _ _ _ h
  have bt := hb s us I.kIn (by rw [List.append_nil, ← r.length]; exact hl)
  rw [List.append_nil] at bt
  refine wpAny_call (codeAny_mono (G.run A X.stack s H ⟨us, []⟩ us vs Q E0 sb.room e0 bt r h) fun r s' hq => ?_)
  match r with
  | .error e => exact hq.elim
  | .ok (.ret u) => exact I.after hq
  | .ok .next => exact hq.elim
  | .ok .brk => exact hq.elim
  | .ok .cont => exact hq.elim
theorem pi_ownL (G : ItrN X.prog X.w X.K X.mg X.base n C (spYoung X.K C F)) (hr : Room j X.A) (hk : n ≤ j) (he : PE X e te) : PI X tg e (iOwnL X.K C F te) := by
  obtain ⟨f, fd, ps, hs, hf, FN, hb⟩ := G.ex
  refine ⟨fun pins s σ H R I h => ?_⟩
  refine thn (he.run pins s σ H _ I h) fun u s1 ⟨x, H1, I1, rx, a, dx, fs, l, zs, ex, ea, lk, sq, q⟩ => ?_
  subst ex
  obtain rfl : u = Value.ref a := rx
  obtain ⟨od, J⟩ := inst_of I1 ea
  obtain ⟨m, hF⟩ := I1.fr
  refine PySem.W.owit_iter hF I1.ok.mod.kin J hs hf ?_
  refine wpAny_mono (run_young (us := [.ref a]) (vs := [.ref a]) (Q := fun v H2 => ∃ it, v = .ref it ∧ H1 it = none ∧ s1.heap.objs.size ≤ it ∧ H2 = upd H1 it (ItO l it 0)) ⟨hr.mono hk, rfl⟩ FN hb I1 (.cons rfl .nil) ⟨a, dx, fs, l, zs, rfl, ea, lk, sq, fun it h1 h2 => ⟨it, rfl, h1, h2, rfl⟩⟩) (fun u s2 hu => ?_) fun _ _ e => e
  obtain ⟨v, H2, I2, rv, it, rfl, hn, hle, rfl⟩ := hu
  cases rv
  have ito := itO_get I2 upd_same
  have hT : s2.TypeIs (.ref it) "list_iterator" := ⟨_, ito, rfl⟩
  unfold PySem.W.OwitIt
  show wpAny _ _ (typeOf (.ref it) >>= fun t => typeLookup t "__next__") _ _ _
  refine wpAny_bind (wpAny_typeOf hT (wpAny_of_eq slot_listiter_next.lookup ?_))
  have hi' : upd H1 it (ItO l it 0) it = some (ItO l it 0) := upd_same
  have fp := inv_fp I2 hi' (Nat.le_trans I1.sz hle)
  unfold ItO at hi'
  have I3 := inv_drop I2 hi'
  rw [dropH_upd' hn] at I3 fp
  refine ⟨it, [it], fun i h => h.IsListIter it l i, Itl X.K l, H1, rfl, I3, turn_list l it, ⟨_, ito, rfl, rfl⟩, fun b hb => ?_, q⟩
  rw [List.mem_singleton.mp hb]
  exact fp
theorem pi_ownK (G : ItrN X.prog X.w X.K X.mg X.base n C (spYoungK C F)) (hr : Room j X.A) (hk : n ≤ j) (he : PE X e te) : PI X tg e (iOwnK C F te) := by
  obtain ⟨f, fd, ps, hs, hf, FN, hb⟩ := G.ex
  refine ⟨fun pins s σ H R I h => ?_⟩
  refine thn (he.run pins s σ H _ I h) fun u s1 ⟨x, H1, I1, rx, a, dx, fs, d, o, kvs, ex, ea, lk, fz, q⟩ => ?_
  subst ex
  obtain rfl : u = Value.ref a := rx
  obtain ⟨od, J⟩ := inst_of I1 ea
  obtain ⟨m, hF⟩ := I1.fr
  refine PySem.W.owit_iter hF I1.ok.mod.kin J hs hf ?_
  refine wpAny_mono (run_young (us := [.ref a]) (vs := [.ref a]) (Q := fun v H2 => ∃ it, v = .ref it ∧ H1 it = none ∧ s1.heap.objs.size ≤ it ∧ H2 = upd H1 it (KeyIt d o kvs.length it)) ⟨hr.mono hk, rfl⟩ FN hb I1 (.cons rfl .nil) ⟨a, dx, fs, d, o, kvs, rfl, ea, lk, fz, fun it h1 h2 => ⟨it, rfl, h1, h2, rfl⟩⟩) (fun u s2 hu => ?_) fun _ _ e => e
  obtain ⟨v, H2, I2, rv, it, rfl, hn, hle, rfl⟩ := hu
  cases rv
  have hi' : upd H1 it (KeyIt d o kvs.length it) it = some (KeyIt d o kvs.length it) := upd_same
  have hok := I2.hok it _ hi'
  obtain ⟨es, ep, hdt, ki⟩ := hok.1
  have hT : s2.TypeIs (.ref it) "dict_keyiterator" := ki.typeIs
  unfold PySem.W.OwitIt
  show wpAny _ _ (typeOf (.ref it) >>= fun t => typeLookup t "__next__") _ _ _
  refine wpAny_bind (wpAny_typeOf hT (wpAny_of_eq PySem.F.slot_dict_keyiterator_next.lookup ?_))
  have fp := inv_fp I2 hi' (Nat.le_trans I1.sz hle)
  unfold KeyIt at hi'
  have I3 := inv_drop I2 hi'
  rw [dropH_upd' hn] at I3 fp
  refine ⟨it, [it], fun i h => h.IsKeyIter it d i kvs.length ep, Itk d o kvs, H1, rfl, I3, turn_keys it hdt, ki, fun b hb => ?_, q⟩
  rw [List.mem_singleton.mp hb]
  exact fp
end
end RM
namespace RM
open PySem PySem.Spec PyProof.Rows L2
/-! ### o[k] of an own class, dict(d), x not in y, walks over locked dicts -/
/-- a class's __getitem__ -/
structure SpcG (P : Program) (w : World) (K : PySem.W.Frag) (mg : Str → Option Value) (base : Heap) (n : Nat) (C : Addr) (sp : Sp) : Prop where
  ex : ∃ (f : Addr) (fd : FuncData) (ps : List Str), PySem.W.findIn K (.ref C) "__getitem__" = some (some (.ref f)) ∧ PySem.W.isFn K (.ref f) = true ∧ PySem.W.fnIn K f = true ∧ FnOk P w K mg base CX0 n f fd ps sp ∧ Binds K fd ps []
theorem FunD.isIn {K : PySem.W.Frag} {x qual : Str} {params : Arguments} {body : List Stmt} {scope : Scope} {dvs : List V} {kws : List (Str × V)} {f : Addr} {fd : FuncData} (F : FunD K x qual params body scope dvs kws f fd) : PySem.W.fnIn K f = true := by
  obtain ⟨oc, od, dV, kV, doc, pm, an, cdv, ct, osl, rfl, look, cod, _⟩ := F.ex
  unfold PySem.W.fnIn
  rw [look]
def tSubOwn (C : Addr) (sp : Sp) (ta ti : TE) : TE := fun σ H Q => ta σ H fun x H1 => ti σ H1 fun y H2 => ∃ a dx fs, x = .ref a ∧ H2 a = some (.ins C dx fs) ∧ sp [.ref a, y] H2 Q E0
section
variable {X : Cx} {o i : Expr} {pos : Pos} {ta ti : TE} {C : Addr} {n j : Nat} {sp : Sp}
theorem pe_subOwn (S : SpcG X.prog X.w X.K X.mg X.base n C sp) (hr : Room j X.A) (hk : n + 1 ≤ j) (ho : PE X o ta) (hi : PE X i ti)
    (hsl : ∀ (a : Addr) (v : Value), subscripted i true (.ref a) v = runValue (.builtin "lifetime.subscript" ⟨[.ref a, v], []⟩)) : PE X (.Subscript o i pos) (tSubOwn C sp ta ti) := by
  obtain ⟨f, fd, ps, hs, hf, hin, F, hb⟩ := S.ex
  refine ⟨fun pins s σ H Q I h => ?_⟩
  refine Subscript_ (thn (ho.run pins s σ H _ I h) fun u s1 ⟨x, H1, I1, rx, q1⟩ => thn (hi.run pins s1 σ H1 _ I1 q1) fun iv s2 ⟨y, H2, I2, ry, a, dx, fs, ex, ea, q2⟩ => ?_)
  subst ex
  obtain rfl : u = Value.ref a := rx
  obtain ⟨od, J⟩ := inst_of I2 ea
  obtain ⟨m, hF⟩ := I2.fr
  refine PySem.W.sub_K hF I2.ok.mod.kin J hs hin hf ?_ (hsl a iv)
  exact run_at (us := [.ref a, iv]) (vs := [.ref a, y]) (Sub.in1 ⟨hr.mono hk, rfl⟩) F hb I2 (.cons rfl (.cons ry .nil)) q2
def rDictOf : List V → Hp → VK → Prop := fun xs H Q => ∃ (a : Addr) (kvs : List (Key × V)), xs = [.ref a] ∧ Rd H a (.dK kvs) ∧ ∀ p, H p = none → Q (.ref p) (upd H p (.dK kvs))
theorem callDictOf : CallR X (.type "dict") rDictOf := by
  intro pins s σ H xs us Q I r h
  obtain ⟨a, kvs, rfl, hd, q⟩ := h
  obtain ⟨u, rfl, ru⟩ := r.one
  cases ru
  exact d_copyOf I hd fun p s' hp I' => ⟨.ref p, _, I', rfl, q p hp⟩
def rNotInX (K : PySem.W.Frag) : R2 := fun x y H Q => rIn K true x y H Q ∨ ∃ a o, y = .ref a ∧ DGet H a x o ∧ Q (.bl (!o.isSome)) H
theorem op_notInX (hu : X.A.units + 1 < cLine) : OpR X (compareOp .NotIn) (rNotInX X.K) := by
  intro pins s σ H x y v u Q I rx ry h
  rcases h with h | ⟨a, o, rfl, g, q⟩
  · exact op_notIn_seq pins s σ H x y v u Q I rx ry h
  · obtain rfl : u = Value.ref a := ry
    exact d_notIn hu I g rx fun s3 I3 => ⟨.bl (!o.isSome), H, I3, rfl, q⟩
end
section
variable {σ : L2.St} {H : Hp} {Q : VK} {K : PySem.W.Frag} {g : TG} {tb : TS} {D : Ends} {te td ty ta ti : TE} {kvs : List (Key × V)} {d C : Addr} {F : Str} {v : V} {sp : Sp}
theorem wp_subOwn (h : ta σ H fun x H1 => ti σ H1 fun y H2 => ∃ a dx fs, x = .ref a ∧ H2 a = some (.ins C dx fs) ∧ sp [.ref a, y] H2 Q E0) : tSubOwn C sp ta ti σ H Q := h
theorem wp_dictOf {a : Addr} (hd : Rd H a (.dK kvs)) (h : ∀ p, H p = none → Q (.ref p) (upd H p (.dK kvs))) : rDictOf [.ref a] H Q := ⟨a, kvs, rfl, hd, h⟩
theorem wp_notInXL {x y : V} (h : rIn K true x y H Q) : rNotInX K x y H Q := .inl h
theorem wp_notInXD {a : Addr} {l : List Nat} (hd : Rd H a (.dK kvs)) (h : Q (.bl (!(valV kvs (.inr (S l))).isSome)) H) : rNotInX K (.str (S l)) (.ref a) H Q := .inr ⟨a, _, rfl, .inl ⟨kvs, .inr (S l), hd, rfl, rfl⟩, h⟩
theorem wp_din (h : ty σ H fun y H1 => td σ H1 fun x H2 => ∃ a o, x = .ref a ∧ DGet H2 a y o ∧ Q (.bl o.isSome) H2) : tDIn ty td σ H Q := h
theorem din_s {R : Option V → Prop} {l : List Nat} (hd : Rd H d (.dK kvs)) (q : R (valV kvs (.inr (S l)))) : ∃ a o, V.ref d = .ref a ∧ DGet H a (.str (S l)) o ∧ R o := ⟨d, _, rfl, .inl ⟨kvs, .inr (S l), hd, rfl, rfl⟩, q⟩
end
section
variable {σ : L2.St} {H : Hp} {K : PySem.W.Frag} {g : TG} {tb : TS} {D : Ends} {td te : TE} {kvs : List (Key × V)} {d C : Addr} {F : Str} {od : Obj}
theorem wp_lock {t : TS} (hd : H d = some (.dK kvs)) (h : ∀ od, t ⟨fun σ' H' => H' d = some (.frz od (.dK kvs)) ∧ D.nx σ' (upd H' d (.dK kvs)), fun v H' => H' d = some (.frz od (.dK kvs)) ∧ D.rt v (upd H' d (.dK kvs)), fun σ' H' => H' d = some (.frz od (.dK kvs)) ∧ D.bk σ' (upd H' d (.dK kvs)), fun σ' H' => H' d = some (.frz od (.dK kvs)) ∧ D.ct σ' (upd H' d (.dK kvs))⟩ σ (upd H d (.frz od (.dK kvs)))) : tLock t D σ H := ⟨d, _, hd, True.intro, h⟩
theorem wp_forItems (h : td σ H fun x H1 => ∃ d o kvs, x = .ref d ∧ H1 d = some (.frz o (.dK kvs)) ∧ ForW (Iti d o kvs) g tb D σ H1) : tFor (iItems td) g tb D σ H := h
theorem wp_forOwnL (h : te σ H fun x H1 => ∃ a dx fs l zs, x = .ref a ∧ H1 a = some (.ins C dx fs) ∧ fs.lookup F = some (.ref l) ∧ SqL K H1 l zs ∧ ForW (Itl K l) g tb D σ H1) : tFor (iOwnL K C F te) g tb D σ H := h
theorem wp_forOwnK (h : te σ H fun x H1 => ∃ a dx fs d o kvs, x = .ref a ∧ H1 a = some (.ins C dx fs) ∧ fs.lookup F = some (.ref d) ∧ H1 d = some (.frz o (.dK kvs)) ∧ ForW (Itk d o kvs) g tb D σ H1) : tFor (iOwnK C F te) g tb D σ H := h
theorem loopItems (hf : H d = some (.frz od (.dK kvs))) (Pv : Nat → L2.St → Hp → Prop) (h0 : Pv 0 σ H) (hG : ∀ i σ' H', i ≤ kvs.length → Pv i σ' H' → H' d = some (.frz od (.dK kvs)))
    (hs : ∀ i k x T σ' H', kvs[i]? = some (k, x) → Pv i σ' H' → H' T = none → g (.ref T) σ' (upd H' T (.tup [kV k, x])) fun σ2 H2 => tb { D with nx := Pv (i + 1), ct := Pv (i + 1), bk := D.nx } σ2 H2) (hd : ∀ σ' H', Pv kvs.length σ' H' → D.nx σ' H') :
    ∃ d' o kvs', V.ref d = .ref d' ∧ H d' = some (.frz o (.dK kvs')) ∧ ForW (Iti d' o kvs') g tb D σ H := by
  refine ⟨d, od, kvs, rfl, hf, for_it walk_items Pv h0 hG (fun i v σ' H1 H2 hi p y => ?_) hd⟩
  obtain ⟨T, x, y', h1, h2, h3, h4, h5⟩ := y
  obtain ⟨⟨k, z⟩, e1, e2⟩ := Option.map_eq_some_iff.mp h4
  obtain ⟨⟨k', z'⟩, e3, e4⟩ := Option.map_eq_some_iff.mp h5
  rw [e1] at e3
  cases e3
  cases e2
  cases e4
  subst h1
  rw [h3]
  exact hs i k z T σ' H1 e1 p h2
theorem loopOwnL {a dx l : Addr} {fs : List (Str × V)} {xs : List V} (ha : H a = some (.ins C dx fs)) (hl : fs.lookup F = some (.ref l)) (hx : SqL K H l xs) (Pv : Nat → L2.St → Hp → Prop) (h0 : Pv 0 σ H) (hG : ∀ i σ' H', i ≤ xs.length → Pv i σ' H' → SqL K H' l xs)
    (hs : ∀ i x σ' H', xs[i]? = some x → Pv i σ' H' → g x σ' H' fun σ2 H2 => tb { D with nx := Pv (i + 1), ct := Pv (i + 1), bk := D.nx } σ2 H2) (hd : ∀ σ' H', Pv xs.length σ' H' → D.nx σ' H') :
    ∃ a' dx fs l zs, V.ref a = .ref a' ∧ H a' = some (.ins C dx fs) ∧ fs.lookup F = some (.ref l) ∧ SqL K H l zs ∧ ForW (Itl K l) g tb D σ H := ⟨a, dx, fs, l, xs, rfl, ha, hl, hx, for_list Pv h0 hG hs hd⟩
theorem loopOwnK {a dx : Addr} {fs : List (Str × V)} (ha : H a = some (.ins C dx fs)) (hl : fs.lookup F = some (.ref d)) (hf : H d = some (.frz od (.dK kvs))) (Pv : Nat → L2.St → Hp → Prop) (h0 : Pv 0 σ H) (hG : ∀ i σ' H', i ≤ kvs.length → Pv i σ' H' → H' d = some (.frz od (.dK kvs)))
    (hs : ∀ i k x σ' H', kvs[i]? = some (k, x) → Pv i σ' H' → g (kV k) σ' H' fun σ2 H2 => tb { D with nx := Pv (i + 1), ct := Pv (i + 1), bk := D.nx } σ2 H2) (hd : ∀ σ' H', Pv kvs.length σ' H' → D.nx σ' H') :
    ∃ a' dx fs d o kvs, V.ref a = .ref a' ∧ H a' = some (.ins C dx fs) ∧ fs.lookup F = some (.ref d) ∧ H d = some (.frz o (.dK kvs)) ∧ ForW (Itk d o kvs) g tb D σ H := by
  refine ⟨a, dx, fs, d, od, kvs, rfl, ha, hl, hf, for_it walk_keys Pv h0 hG (fun i v σ' H1 H2 hi p y => ?_) hd⟩
  obtain ⟨e, k, z, e1, rfl⟩ := y
  rw [e]
  exact hs i k z σ' H1 e1 p
/-- {a: x, ..}: a dict written out -/
theorem wp_disp {Q : VK} {trs : List (TE × TE)} (h : ∀ p, H p = none → tPairs trs σ (upd H p (.dK [])) fun ps H2 => H2 p = some (.dK []) ∧ ∃ kvs : List (Key × V), ps = kvs.map (fun kv => (kV kv.1, kv.2)) ∧ kvs.length ≤ 15 ∧ Q (.ref p) (upd H2 p (.dK (mergeK [] kvs)))) : tDisp trs σ H Q := h
end
end RM
namespace RM
open PySem PySem.Spec PyProof.Rows L2
/-! ### timetables -/
abbrev tmF (T : Int) (d : Addr) : List (Str × V) := [("_round_length", .int T), ("_minutes", .ref d)]
theorem lk_mT {T : Int} {d : Addr} : (tmF T d).lookup ("_round_length" : Str) = some (.int T) := rfl
theorem lk_md {T : Int} {d : Addr} : (tmF T d).lookup ("_minutes" : Str) = some (.ref d) := rfl
theorem pt_m2 {T : Int} {d : Addr} : putF "_minutes" (.ref d) (netF1 T) = tmF T d := by
  unfold putF
  rw [if_neg (by decide)]
  rfl
def mD (m : List Nat → Int) (ns : List (List Nat)) : List (Key × V) := dN (fun l => .int (m l)) ns
def IsTimes (C : Addr) (H : Hp) (a : Addr) (T : Int) (ns : List (List Nat)) (m : List Nat → Int) : Prop := ∃ dx d, H a = some (.ins C dx (tmF T d)) ∧ H d = some (.dK (mD m ns))
theorem IsTimes.mono {C : Addr} {H H' : Hp} (e : Same H H') {a : Addr} {T : Int} {ns : List (List Nat)} {m : List Nat → Int} (h : IsTimes C H a T ns m) : IsTimes C H' a T ns m := by
  obtain ⟨dx, d, h1, h2⟩ := h
  exact ⟨dx, d, e _ _ h1, e _ _ h2⟩
structure OkTm (T : Int) (ns : List (List Nat)) (m : List Nat → Int) : Prop where
  t0 : 3 ≤ T
  t1 : T ≤ 120
  few : ns.length ≤ 1000
  nm : ∀ l ∈ ns, Nm l
  m0 : ∀ l ∈ ns, 0 ≤ m l
  m1 : ∀ l ∈ ns, m l ≤ T - 1
theorem isN_int {i : Int} : decide (V.int i = .non) = false := decide_eq_false (by simp)
theorem isN_non : decide (V.non = .non) = true := decide_eq_true rfl
section
variable {σ : L2.St} {H : Hp} {K : PySem.W.Frag} {g : TG} {tb : TS} {D : Ends} {d C : Addr} {F : Str} {od : Obj} {f : List Nat → V} {ns : List (List Nat)}
theorem loopItemsN (hf : H d = some (.frz od (.dK (dN f ns)))) (Pv : Nat → L2.St → Hp → Prop) (h0 : Pv 0 σ H) (hG : ∀ i σ' H', i ≤ ns.length → Pv i σ' H' → H' d = some (.frz od (.dK (dN f ns))))
    (hs : ∀ i l T σ' H', ns[i]? = some l → Pv i σ' H' → H' T = none → g (.ref T) σ' (upd H' T (.tup [.str (S l), f l])) fun σ2 H2 => tb { D with nx := Pv (i + 1), ct := Pv (i + 1), bk := D.nx } σ2 H2) (hd : ∀ σ' H', Pv ns.length σ' H' → D.nx σ' H') :
    ∃ d' o kvs', V.ref d = .ref d' ∧ H d' = some (.frz o (.dK kvs')) ∧ ForW (Iti d' o kvs') g tb D σ H :=
  loopItems hf Pv h0 (fun i σ' H' hi => hG i σ' H' (by rw [dN_len] at hi; exact hi)) (fun i k x T σ' H' hk p hT => by
    obtain ⟨l, hl, rfl, rfl⟩ := dN_at hk
    exact hs i l T σ' H' hl p hT) (by rw [dN_len]; exact hd)
theorem loopOwnKN {a dx : Addr} {fs : List (Str × V)} (ha : H a = some (.ins C dx fs)) (hl : fs.lookup F = some (.ref d)) (hf : H d = some (.frz od (.dK (dN f ns)))) (Pv : Nat → L2.St → Hp → Prop) (h0 : Pv 0 σ H) (hG : ∀ i σ' H', i ≤ ns.length → Pv i σ' H' → H' d = some (.frz od (.dK (dN f ns))))
    (hs : ∀ i l σ' H', ns[i]? = some l → Pv i σ' H' → g (.str (S l)) σ' H' fun σ2 H2 => tb { D with nx := Pv (i + 1), ct := Pv (i + 1), bk := D.nx } σ2 H2) (hd : ∀ σ' H', Pv ns.length σ' H' → D.nx σ' H') :
    ∃ a' dx fs d o kvs, V.ref a = .ref a' ∧ H a' = some (.ins C dx fs) ∧ fs.lookup F = some (.ref d) ∧ H d = some (.frz o (.dK kvs)) ∧ ForW (Itk d o kvs) g tb D σ H :=
  loopOwnK ha hl hf Pv h0 (fun i σ' H' hi => hG i σ' H' (by rw [dN_len] at hi; exact hi)) (fun i k x σ' H' hk p => by
    obtain ⟨l, hl, rfl, rfl⟩ := dN_at hk
    exact hs i l σ' H' hl p) (by rw [dN_len]; exact hd)
end
theorem dN_some {f : List Nat → V} {l : List Nat} {ns : List (List Nat)} : (valV (dN f ns) (.inr (S l))).isSome = decide (l ∈ ns) := by
  by_cases h : l ∈ ns
  · rw [dN_val h, decide_eq_true h]
    rfl
  · rw [dN_none h, decide_eq_false h]
    rfl
/-- the minutes that pass, or None -/
def pas (T : Int) (m : List Nat → Int) (r : Row) : V := if r.lo + (m r.v - m r.u - r.lo) % T ≤ r.hi then .int (r.lo + (m r.v - m r.u - r.lo) % T) else .non
theorem pas_key {T lo x y i : Int} (h0 : 0 ≤ i) (h1 : i < T) : (lo + i + x - y) % T = 0 ↔ i = (y - x - lo) % T := by
  have e : lo + i + x - y = i - (y - x - lo) := by omega
  rw [e, ← Int.emod_eq_emod_iff_emod_sub_eq_zero, Int.emod_eq_of_lt h0 h1]
end RM
namespace RM
open PySem PySem.Spec PyProof.Rows L2
/-! ### comprehensions that draw from the pool -/
section
variable {K : PySem.W.Frag} {σ : L2.St} {H : Hp} {g : TG} {te : TE} {vs : List Nat} {Q : VK}
theorem lcP {J : It} {n : Nat} {Gd : Hp → Prop} {Y : Nat → Hp → V → Hp → Prop} (w : Walk J n Gd Y) (hn : n ≤ 100000) {P : Pl} {G : Hp} (hs : Sees P G H) (hG : ∀ H', Sees P G H' → Gd H') (hY : ∀ i H2 x H3, Y i H2 x H3 → H3 = H2) (I : Nat → List V → Prop) (h0 : I 0 [])
    (st : ∀ i x acc G2 H2 (R : VK), i < n → Y i H2 x H2 → Same G G2 → Sees P G2 H2 → acc.length ≤ i → I i acc → (∀ y H3, Sees P G2 H3 → I (i + 1) (acc ++ [y]) → R y H3) → g x (wipe σ vs) H2 fun σ2 H4 => wipe σ2 vs = wipe σ vs ∧ te σ2 H4 R)
    (hq : ∀ D acc H2, H D = none → Sees P G H2 → H2 D = some (.lst acc) → acc.length ≤ n → I n acc → Q (.ref D) H2) : LcW J g tYes te vs σ H Q := by
  intro D hD
  obtain ⟨gD, nD⟩ := hs.fresh hD
  refine lc_it w (fun i H2 => ∃ acc, Sees P G H2 ∧ H2 D = some (.lst acc) ∧ acc.length ≤ i ∧ I i acc) ⟨[], hs.set gD nD, upd_same, Nat.le_refl _, h0⟩ (fun i H2 _ p => ?_) (fun i x H2 H3 hi p y => ?_) (fun H2 p => ?_)
  · obtain ⟨acc, s, _⟩ := p
    exact hG _ s
  · obtain ⟨acc, s, d, l, hI⟩ := p
    have e := hY _ _ _ _ y
    rw [e] at y ⊢
    have z := st i x acc (upd G D (.lst acc)) H2 (fun y H4 => ∃ acc', H4 D = some (.lst acc') ∧ acc'.length < sizeLine ∧ ∃ acc2, Sees P G (upd H4 D (.lst (acc' ++ [y]))) ∧ upd H4 D (.lst (acc' ++ [y])) D = some (.lst acc2) ∧ acc2.length ≤ i + 1 ∧ I (i + 1) acc2) hi y (Same.new gD) (s.with gD d nD) l hI
      (fun y H3 s3 hI2 => ⟨acc, s3.sub _ _ upd_same, szlt (by omega), acc ++ [y], (s3.back s gD).1.set gD nD, upd_same, by simp; omega, hI2⟩)
    exact z
  · obtain ⟨acc, s, d, l, hI⟩ := p
    exact hq D acc H2 hD s d l hI
theorem lcPR {n : Int} (n0 : 0 ≤ n) (hn : n ≤ 100000) {P : Pl} {G : Hp} (hs : Sees P G H) (I : Nat → List V → Prop) (h0 : I 0 [])
    (st : ∀ (i : Nat) acc G2 H2 (R : VK), (i : Int) < n → Same G G2 → Sees P G2 H2 → acc.length ≤ i → I i acc → (∀ y H3, Sees P G2 H3 → I (i + 1) (acc ++ [y]) → R y H3) → g (.int (i : Nat)) (wipe σ vs) H2 fun σ2 H4 => wipe σ2 vs = wipe σ vs ∧ te σ2 H4 R)
    (hq : ∀ D acc H2, H D = none → Sees P G H2 → H2 D = some (.lst acc) → (acc.length : Int) ≤ n → I n.toNat acc → Q (.ref D) H2) : ∃ j : Int, [V.int n] = [V.int j] ∧ -(2 ^ 62) ≤ j ∧ j < 2 ^ 62 ∧ LcW (Itr 0 j.toNat) g tYes te vs σ H Q :=
  ⟨n, rfl, by omega, by omega, lcP walk_range (by omega) hs (fun _ _ => trivial) (fun i H2 x H3 y => y.1) I h0 (fun i x acc G2 H2 R hi y s1 s2 l hI k => by
    have e3 : x = .int (i : Nat) := by rw [y.2]; exact congrArg V.int (Int.zero_add _)
    subst e3
    exact st i acc G2 H2 R (by omega) s1 s2 l hI k) (fun D acc H2 hD s d l hI => hq D acc H2 hD s d (by omega) hI)⟩
theorem lcPL {a : Addr} {xs : List V} (hn : xs.length ≤ 100000) {P : Pl} {G : Hp} (hs : Sees P G H) (hx : SqL K H a xs) (hx2 : ∀ H', Sees P G H' → SqL K H' a xs) (I : Nat → List V → Prop) (h0 : I 0 [])
    (st : ∀ (i : Nat) x acc G2 H2 (R : VK), xs[i]? = some x → Same G G2 → Sees P G2 H2 → acc.length ≤ i → I i acc → (∀ y H3, Sees P G2 H3 → I (i + 1) (acc ++ [y]) → R y H3) → g x (wipe σ vs) H2 fun σ2 H4 => wipe σ2 vs = wipe σ vs ∧ te σ2 H4 R)
    (hq : ∀ D acc H2, H D = none → Sees P G H2 → H2 D = some (.lst acc) → acc.length ≤ xs.length → I xs.length acc → Q (.ref D) H2) : ∃ b, V.ref a = .ref b ∧ (∃ ys, SqL K H b ys) ∧ LcW (Itl K b) g tYes te vs σ H Q :=
  ⟨a, rfl, ⟨xs, hx⟩, lcP walk_list hn hs hx2 (fun i H2 x H3 y => y.1) I h0 (fun i x acc G2 H2 R hi y s1 s2 l hI k => st i x acc G2 H2 R y.2 s1 s2 l hI k) hq⟩
end
/-! ### ''.join(list) -/
def rJoin (K : PySem.W.Frag) : V → List V → Hp → VK → Prop := fun x xs H Q => ∃ a p, ∃ ys : List Str, x = .str a ∧ xs = [.ref p] ∧ (SqL K H p (ys.map V.str) ∨ SqT K H p (ys.map V.str)) ∧
  (ys.map (·.length)).sum + ys.length * a.length ≤ 16777216 ∧ Q (.str (Txt.join a ys)) H
theorem joinL_nil : ∀ cs : List Nat, TL.joinL [] (cs.map fun c => [c]) = cs
  | [] => rfl
  | [_] => rfl
  | a :: b :: r => by
    show [a] ++ ([] ++ TL.joinL [] ((b :: r).map fun c => [c])) = a :: b :: r
    rw [joinL_nil (b :: r)]
    rfl
theorem join_S (cs : List Nat) : Txt.join (S []) (cs.map fun c => S [c]) = S cs := by
  have h : TL.tl (Txt.join (S []) (cs.map fun c => S [c])) = cs := by
    rw [TL.join_eq, TL.tl_join, List.map_map]
    exact joinL_nil cs
  generalize Txt.join (S []) (cs.map fun c => S [c]) = z at h
  obtain ⟨⟨l⟩⟩ := z
  have h2 : l = cs := h
  rw [h2]
theorem wp_join1 {K : PySem.W.Frag} {H : Hp} {Q : VK} {p : Addr} {cs : List Nat} (hp : H p = some (.lst (cs.map fun c => V.str (S [c])))) (hn : cs.length ≤ 1000) (h : Q (.str (S cs)) H) : rJoin K (.str (S [])) [.ref p] H Q := by
  refine ⟨S [], p, cs.map fun c => S [c], rfl, rfl, .inl (sq_of (by rw [List.map_map]; exact hp)), ?_, by rw [join_S]; exact h⟩
  have e : ((cs.map fun c => S [c]).map (·.length)).sum = cs.length := by
    clear hp hn h
    induction cs with
    | nil => rfl
    | cons c r ih =>
      rw [List.map_cons, List.map_cons, List.sum_cons, ih, List.length_cons]
      show 1 + r.length = _
      omega
  have e2 : (S []).length = 0 := rfl
  rw [e, e2, Nat.mul_zero]
  omega
/-! ### defs with try -/
theorem wp_m1 {r : V → List V → Hp → VK → Prop} {to te : TE} {σ : L2.St} {H : Hp} {Q : VK} (h : to σ H fun x H1 => (∃ a, x = .str a) ∧ te σ H1 fun y H2 => r x [y] H2 Q) : tM1 r to te σ H Q := h
end RM
namespace RM
open PySem PySem.Spec PyProof.Rows L2 ItX
/-! ### operators that the text defines, dicts compared, lists of own objects over a dict, static methods -/
/-- a class's operator op against an int on the right -/
structure SpcI (P : Program) (w : World) (K : PySem.W.Frag) (mg : Str → Option Value) (base : Heap) (n : Nat) (C : Addr) (op : Operator) (sp : Sp) : Prop where
  ex : ∃ (f : Addr) (fd : FuncData) (ps : List Str) (fo ro rc : Option Value), PySem.W.selfFirst K C = true ∧ PySem.W.findIn K (.ref C) (PySem.dunder op.info.2) = some (some (.ref f)) ∧ PySem.W.isFn K (.ref f) = true ∧
    PySem.W.findIn K (.ref C) (dunderR op.info.2) = some rc ∧ (rc = none ∨ ∃ g : Addr, rc = some (.ref g)) ∧ PySem.W.findIn K (.type "int") (PySem.dunder op.info.2) = some fo ∧ PySem.W.findIn K (.type "int") (dunderR op.info.2) = some ro ∧
    PySem.W.subIn K (.type "int") (.ref C) = some false ∧ FnOk P w K mg base CX0 n f fd ps sp ∧ Binds K fd ps []
theorem SpcI.of {P : Program} {w : World} {K : PySem.W.Frag} {mg : Str → Option Value} {base : Heap} {n : Nat} {op : Operator} {sp : Sp} {x nm rn : Str} {f : Addr} {fd : FuncData} {ps : List Str} (b : bBinI x nm rn K = true) (m : Meth K (He.ga K x) nm f)
    (F : FnOk P w K mg base CX0 n f fd ps sp) (hb : Binds K fd ps []) (e1 : PySem.dunder op.info.2 = nm := by decide +kernel) (e2 : dunderR op.info.2 = rn := by decide +kernel) : SpcI P w K mg base n (He.ga K x) op sp := by
  obtain ⟨b1, b⟩ := He.ba b
  obtain ⟨b2, b⟩ := He.ba b
  obtain ⟨b3, b⟩ := He.ba b
  obtain ⟨b4, b5⟩ := He.ba b
  obtain ⟨rc, h1, h2⟩ := okR_ok b2
  obtain ⟨fo, h3⟩ := Option.isSome_iff_exists.mp b3
  obtain ⟨ro, h4⟩ := Option.isSome_iff_exists.mp b4
  exact ⟨f, fd, ps, fo, ro, rc, b1, by rw [e1]; exact m.at_, m.fn, by rw [e2]; exact h1, h2, by rw [e1]; exact h3, by rw [e2]; exact h4, of_decide_eq_true b5, F, hb⟩
def rOwnI (C : Addr) (sp : Sp) : R2 := fun x y H Q => ∃ a dx fs i, x = .ref a ∧ y = .int i ∧ H a = some (.ins C dx fs) ∧ sp [.ref a, .int i] H (fun v H' => ∃ b, v = .ref b ∧ Q v H') E0
section
variable {X : Cx} {n : Nat} {C : Addr} {sp : Sp} {op : Operator}
theorem op_ownI (S : SpcI X.prog X.w X.K X.mg X.base n C op sp) (hr : Room n X.A) : OpR X (binaryOp op) (rOwnI C sp) := by
  obtain ⟨f, fd, ps, fo, ro, rc, k1, k2, k3, k4, k5, k6, k7, k8, F, hb⟩ := S.ex
  intro pins s σ H x y v u Q I rx ry h
  obtain ⟨a, dx, fs, i, rfl, rfl, ha, h⟩ := h
  cases rx
  obtain ⟨t, rfl⟩ := ry
  obtain ⟨od, J⟩ := inst_of I ha
  obtain ⟨m, hF⟩ := I.fr
  refine PySem.W.ksp_binT (T := "int") hF I.ok.mod.kin J rfl k1 k2 k3 k4 k5 k6 k7 k8 ?_
  refine wpAny_mono (run_at (us := [.ref a, .int i t]) (vs := [.ref a, .int i]) ⟨hr, rfl⟩ F hb I (.cons rfl (.cons ⟨t, rfl⟩ .nil)) h) (fun v s' hv => ?_) fun _ _ e => e
  obtain ⟨z, H', I', rz, b, rfl, q⟩ := hv
  cases rz
  exact ⟨.ref b, H', I', rfl, q⟩
end
/-! #### dicts whose values are ints -/
def eqKV (ks ls : List (Key × V)) : Bool := (ks.length == ls.length) && ks.all fun p => match valV ls p.1 with
  | some v => decide (v = p.2)
  | none => false
def IntVs (ks : List (Key × V)) : Prop := ∀ p ∈ ks, ∃ i, p.2 = V.int i
theorem hitsI {A : Around} {s : Shared} {ls : List (Key × V)} {vb : List (Key × Value)} (rb : KV ls vb) (hl : IntVs ls) : ∀ {ks : List (Key × V)} {va : List (Key × Value)}, KV ks va → IntVs ks →
    PySem.W.KeqHits A s vb va (ks.all fun p => match valV ls p.1 with
      | some v => decide (v = p.2)
      | none => false)
  | _, _, .nil, _ => .nil
  | p :: ks, q :: qs, .cons h t, hk => by
    obtain ⟨h1, h2⟩ := h
    obtain ⟨k, v⟩ := q
    have h1' : p.1 = k := h1
    have ih := hitsI (A := A) (s := s) rb hl t fun p' hm => hk p' (List.mem_cons_of_mem _ hm)
    obtain ⟨i, ei⟩ := hk p List.mem_cons_self
    have rr : RelO (valV ls p.1) (valueAt vb p.1) := rb.val p.1
    rw [List.all_cons]
    cases e : valV ls p.1 with
    | none =>
      rw [e] at rr
      have z : valueAt vb p.1 = none := RelO.none_of rr
      rw [h1'] at z
      exact .miss z
    | some y =>
      rw [e] at rr
      obtain ⟨u, hu, ru⟩ := rr.some_of
      have hy : ∃ j, y = V.int j := by
        unfold valV at e
        obtain ⟨kv, e1, e2⟩ := Option.map_eq_some_iff.mp e
        obtain ⟨j, ej⟩ := hl kv (List.mem_of_find?_eq_some e1)
        exact ⟨j, by rw [← e2, ej]⟩
      obtain ⟨j, rfl⟩ := hy
      obtain ⟨t', rfl⟩ := ru
      rw [ei] at h2
      obtain ⟨t2, rfl⟩ : ∃ t, v = Value.int i t := h2
      rw [h1'] at hu
      have q := SeqAt.EqAt.int_int (A := A) (s := s) i t2 j t'
      have e3 : decide (V.int j = p.2) = (i == j) := by
        rw [ei, Bool.eq_iff_iff, decide_eq_true_eq, beq_iff_eq]
        exact ⟨fun z => by cases z; rfl, fun z => by rw [z]⟩
      show PySem.W.KeqHits A s vb _ (decide (V.int j = p.2) && _)
      rw [e3]
      exact .hit hu q ih
def rEqDK : R2 := fun x y H Q => ∃ a b ks ls, x = .ref a ∧ y = .ref b ∧ H a = some (.dK ks) ∧ H b = some (.dK ls) ∧ IntVs ks ∧ IntVs ls ∧ Q (.bl (eqKV ks ls)) H
section
variable {X : Cx}
theorem op_eqDK (hu : X.A.units < cLine) : OpR X (compareOp .Eq) rEqDK := by
  intro pins s σ H x y v u Q I rx ry h
  obtain ⟨a, b, ks, ls, rfl, rfl, ea, eb, ia, ib, q⟩ := h
  obtain rfl : v = Value.ref a := rx
  obtain rfl : u = Value.ref b := ry
  obtain ⟨_, ya, va, ra, da⟩ := (show ObjOk X.prog X.w H s.heap a (.dK ks) from I.hok a _ ea)
  obtain ⟨_, yb, vb, rb, db⟩ := (show ObjOk X.prog X.w H s.heap b (.dK ls) from I.hok b _ eb)
  refine PySem.W.keq_eq (knd := mixKind X.prog X.w) ya yb da db hu (fun _ => hitsI rb ib ra ia) ⟨.bl _, H, I, ?_, q⟩
  show _ = Value.bool (eqKV ks ls)
  unfold eqKV
  rw [ra.length, rb.length]
end
/-! #### list(o), o of an own class whose __iter__ hands out an iterator over a locked dict -/
section
variable {X : Cx} {pins : List (Addr × Obj)} {σ : L2.St} {H : Hp} {s : Shared} {n : Nat} {A : Around} {f C it q d : Addr} {o : Obj} {i m : Nat} {kvs : List (Key × V)} {es : Array DictEntry} {ep : Nat}
theorem fpUpd {b : Addr} {u : HO} (h : FpOk X pins H b) (hb : b ≠ q) : FpOk X pins (upd H q u) b := ⟨by rw [upd_ne hb]; exact h.1, h.2⟩
/-- the loop that fills the list at q from the iterator at it -/
theorem it_loopK {Rs : Result → Shared → Prop} (hod : o.data = .dict es ep) (hh : A.in1.handled = none) (hz : kvs.length < 100000) (hdq : d ≠ q) (hiq : it ≠ q)
    (hdone : ∀ H' s', Inv X pins σ H' s' → (∀ b o, b ≠ q → H b = some o → H' b = some o) → H' q = some (.lst (kvs.map fun kv => kV kv.1)) → Rs (.ok (.ret .none)) s') :
    ∀ (m i : Nat) (H' : Hp) (s : Shared), kvs.length - i = m → i ≤ kvs.length → Inv X pins σ H' s → (∀ b o, b ≠ q → H b = some o → H' b = some o) → H' d = some (.frz o (.dK kvs)) → FpOk X pins H' it → s.heap.IsKeyIter it d i kvs.length ep → H' q = some (.lst ((kvs.map fun kv => kV kv.1).take i)) →
      codeAny (model X.prog X.w) A (.builtin "list.extend.loop" ⟨[.ref q, .ref it, .none], []⟩) Rs s := by
  have el : (kvs.map fun kv => kV kv.1).length = kvs.length := List.length_map ..
  intro m
  induction m with
  | zero =>
    intro i H' s hm hi I hk hl hf st hq
    have ei : i = kvs.length := by omega
    obtain ⟨f0, f1, f2, f3, f4, f5⟩ := hf
    refine codeAny_builtin PySem.F.entry_extend_loop ?_
    rw [Around.under_plainId PySem.F.plain_extend_loop _]
    show wpAny _ A.in1 (pyNext (.ref it) >>= _) _ _ s
    obtain ⟨hs, hgd, hx, es', ep', vs, hdt, hsz, kv, hm⟩ := I.frzK hl
    obtain ⟨rfl, rfl⟩ := dict_ep hod hdt
    refine wpAny_bind (next_key_end hh st hgd hdt hsz (by omega) fun h' eb => ?_)
    refine wpAny_pure ?_
    have I2 := I.turned (t' := s.toks) (fun b ob hb e => eb b ob hb e) f0 f1 f3 f4 f5
    refine hdone _ _ I2 hk ?_
    rw [hq, ei, ← el, List.take_length]
  | succ m ih =>
    intro i H' s hm hi I hk hl hf st hq
    have hlt : i < kvs.length := by omega
    have ⟨f0, f1, f2, f3, f4, f5⟩ := hf
    refine codeAny_builtin PySem.F.entry_extend_loop ?_
    rw [Around.under_plainId PySem.F.plain_extend_loop _]
    show wpAny _ A.in1 (pyNext (.ref it) >>= _) _ _ s
    obtain ⟨hs, hgd, hx, es', ep', vs, hdt, hsz, kv, hm⟩ := I.frzK hl
    obtain ⟨rfl, rfl⟩ := dict_ep hod hdt
    obtain ⟨⟨k, v⟩, hkv⟩ : ∃ p, kvs[i]? = some p := ⟨kvs[i], List.getElem?_eq_getElem hlt⟩
    obtain ⟨u, hu, ru⟩ := kv_get kv hkv
    have hl2 : kvs.length = vs.length := Paired.length kv
    refine wpAny_bind (wpAny_pyNext_dict_item (by rw [hl2] at st; exact st) hm hu fun key h' hkey st' sb => ?_)
    have I2 : Inv X pins σ H' { s with heap := h' } := I.turned (t' := s.toks) (fun b ob hb e => (sb.2 b hb).trans e) f0 f1 f3 f4 f5
    show wpAny _ A.in1 (updateSeq q (·.push key) >>= _) _ _ _
    obtain ⟨z, its2, k2, r2, hl3, e2⟩ := I2.lstM hq
    have hz2 : its2.length = i := by rw [← hl3, List.length_take, el]; omega
    refine wpAny_bind (wpAny_updateSeq e2 rfl (wpAny_pure ⟨plainId_quiet PySem.F.plain_extend_loop _, ?_⟩) (by rw [List.size_toArray, hz2]; exact Nat.le_trans (Nat.le_of_lt hlt) (szl (by omega))) (by show (its2.toArray.push key).size ≤ sizeLine + 1; rw [Array.size_push, List.size_toArray, hz2]; exact Nat.succ_le_succ (szl (by omega))))
    have I3 := I2.lset (f := (·.push key)) (its' := its2 ++ [key]) (ys := (kvs.map fun kv => kV kv.1).take i ++ [kV k]) (t' := s.toks) hq e2 (by simp) (r2.append (.cons (relV_key (show keyIs k key = true from hkey)) .nil)) (by rw [List.length_append, List.length_take, el]; exact szl (by show _ + 1 ≤ _; omega))
    refine ih (i + 1) _ _ (by omega) hlt I3 (fun b o h1 e => by rw [upd_ne h1]; exact hk b o h1 e) (by rw [upd_ne hdq]; exact hl) (fpUpd hf hiq) ?_ ?_
    · rw [hl2]
      exact st'.at fun ob e => (Heap.get?_update_other _ _ (Ne.symm hiq)).trans e
    · rw [upd_same]
      have e3 : (kvs.map fun kv => kV kv.1)[i]? = some (kV k) := by rw [List.getElem?_map, hkv]; rfl
      rw [List.take_succ, e3]
      rfl
/-- list(o) -/
def rListOwnK (K : PySem.W.Frag) (C : Addr) (F : Str) (spL : Sp) : List V → Hp → VK → Prop := fun xs H Q => ∃ a dx fs d o kvs, xs = [.ref a] ∧ H a = some (.ins C dx fs) ∧ fs.lookup F = some (.ref d) ∧ H d = some (.frz o (.dK kvs)) ∧ kvs.length < 100000 ∧
  (∀ H1 (R : VK), Same H H1 → (∀ k : Int, 0 ≤ k → k < 100000 → R (.int k) H1) → spL [.ref a] H1 R E0) ∧ ∀ q H', H q = none → Same H H' → H' q = some (.lst (kvs.map fun kv => kV kv.1)) → Q (.ref q) H'
theorem call_listItK {F : Str} {spL : Sp} (SI : ItrN X.prog X.w X.K X.mg X.base n C (spYoungK C F)) (SL : Spc X.prog X.w X.K X.mg X.base n C "__len__" spL) (hr : Room (n + 3) X.A) : CallR X (.type "list") (rListOwnK X.K C F spL) := by
  obtain ⟨fI, fdI, psI, hsI, hfI, FI, bI⟩ := SI.ex
  obtain ⟨fL, fdL, psL, hsL, hfL, FL, bL⟩ := SL.ex
  intro pins s σ H xs us Q I rv h
  obtain ⟨a, dx, fs, d, o, kvs, rfl, ha, lk, hd, hz, hL, h⟩ := h
  obtain ⟨u, rfl, ru⟩ := rv.one
  cases ru
  have sb : Sub X (n + 1) X.A.in1.in1 := Sub.in1 (Sub.in1 (⟨hr, rfl⟩ : Sub X (n + 3) X.A))
  refine callType_codes (Q₁ := fun obj s₁ => obj = .ref s.heap.objs.size ∧ s₁ = { s with heap := s.heap.push { cls := .type "list", data := .seq #[] } }) PySem.F.called_list (PySem.F.typeCall_list_1 _) PySem.F.entry_list_init
    (code_list_new _ ⟨rfl, rfl⟩) fun obj s₁ h₁ => ?_
  obtain ⟨rfl, rfl⟩ := h₁
  have hS : (s.heap.push { cls := .type "list", data := .seq #[] }).get? s.heap.objs.size = some { cls := .type "list", data := .seq #[] } := Heap.get?_push_size _ rfl
  refine ⟨⟨_, hS, rfl⟩, PySem.F.args_list_init_2 _ _, ?_⟩
  have fr : H s.heap.objs.size = none := I.hok.fresh (Nat.le_refl _)
  have h := fun H' => h _ H' fr
  generalize hqe : s.heap.objs.size = q at *
  have I1 : Inv X pins σ (upd H q (.lst [])) { s with heap := s.heap.push { cls := .type "list", data := .seq #[] } } := by
    have z := I.lnew (its := []) (ys := []) (t' := s.toks) .nil (Nat.zero_le _)
    rw [hqe] at z
    exact z
  show wpAny _ _ (do let old ← Builtin.List.listItems (.ref q); Builtin.List.listUpdate (.ref q) (fun _ => #[]); letGo old.toList.reverse; Builtin.List.listExtendWith (.ref q) (.ref a) .none) _ _ _
  refine wpAny_bind ?_
  unfold Builtin.List.listItems
  refine wpAny_bind (wpAny_seqItems hS rfl (wpAny_pure ?_))
  show wpAny _ _ (updateSeq q (fun _ => #[]) >>= fun _ => letGo (#[] : Array Value).toList.reverse >>= fun _ => Builtin.List.listExtendWith (.ref q) (.ref a) .none) _ _ _
  refine wpAny_bind (wpAny_updateSeq hS rfl ?_)
  have I2 := I1.lset (f := fun _ => #[]) (its := []) (its' := []) (ys := []) (t' := s.toks) upd_same hS rfl .nil (Nat.zero_le _)
  rw [upd_upd] at I2
  refine wpAny_bind (wpAny_letGo ?_)
  have sHq : Same H (upd H q (.lst [])) := Same.new fr
  have ha2 : upd H q (.lst []) a = some (.ins C dx fs) := sHq _ _ ha
  have hd2 : upd H q (.lst []) d = some (.frz o (.dK kvs)) := sHq _ _ hd
  have hne : q ≠ a := ne_of (H := upd H q (.lst [])) upd_same ha2 (fun z => nomatch z)
  have hdq : d ≠ q := ne_of_none hd fr
  obtain ⟨od, J⟩ := inst_of I2 ha2
  obtain ⟨m0, hF⟩ := I2.fr
  show wpAny _ X.A.in1.in1 (Builtin.List.listExtendWith (.ref q) (.ref a) .none) _ _ _
  unfold Builtin.List.listExtendWith
  refine wpAny_bind (J.type.here ?_)
  have h1 : Builtin.List.listSameRef (.ref q) (.ref a) = false := by simp [Builtin.List.listSameRef, hne]
  have h2 : (Value.ref C == Value.type "list") = false := rfl
  have h3 : (Value.ref C == Value.type "tuple") = false := rfl
  simp only [h1, h2, h3, Bool.or_false, Bool.false_eq_true, if_false]
  refine wpAny_bind (PySem.W.owit_iter hF I2.ok.mod.kin J hsI hfI ?_)
  have I2s := I2.sz
  refine wpAny_mono (run_young (us := [.ref a]) (vs := [.ref a]) (Q := fun v H2 => ∃ it, v = .ref it ∧ upd H q (.lst []) it = none ∧ X.s_0.heap.objs.size ≤ it ∧ H2 = upd (upd H q (.lst [])) it (KeyIt d o kvs.length it)) (sb.mono (Nat.le_succ _)) FI bI I2 (.cons rfl .nil) ⟨a, dx, fs, d, o, kvs, rfl, ha2, lk, hd2, fun it h1 h2 => ⟨it, rfl, h1, Nat.le_trans I2s h2, rfl⟩⟩) (fun u s' hu => ?_) (fun _ _ e => e)
  obtain ⟨v, H2, I3, rv3, it, rfl, hn, hle, rfl⟩ := hu
  cases rv3
  have hi' : upd (upd H q (.lst [])) it (KeyIt d o kvs.length it) it = some (KeyIt d o kvs.length it) := upd_same
  have hok := I3.hok it _ hi'
  obtain ⟨es, ep, hdt, ki⟩ := hok.1
  have hT : s'.TypeIs (.ref it) "dict_keyiterator" := ki.typeIs
  unfold PySem.W.OwitIt
  show wpAny _ _ (typeOf (.ref it) >>= fun t => typeLookup t "__next__") _ _ _
  refine wpAny_bind (wpAny_typeOf hT (wpAny_of_eq PySem.F.slot_dict_keyiterator_next.lookup ?_))
  show wpAny _ _ _ _ _ _
  have fp := inv_fp I3 hi' hle
  unfold KeyIt at hi'
  have I4 := inv_drop I3 hi'
  rw [dropH_upd' hn] at I4 fp
  have niq : it ≠ q := fun e => by rw [e, upd_same] at hn; cases hn
  obtain ⟨od', J'⟩ := inst_of I4 ha2
  obtain ⟨m1, hF'⟩ := I4.fr
  refine wpAny_bind (wpAny_holding ?_)
  unfold Builtin.List.listLengthHint
  refine wpAny_bind (wpAny_bind (J'.type.here ((PySem.W.looks_findIn I4.kIn hsL).here ?_)))
  refine PySem.W.KFB.if_not rfl ?_
  refine PySem.W.KFB.if_so rfl ?_
  refine wpAny_bind (wpAny_rule (wpAny_bind (wpAny_attempt ?_)))
  refine PySem.W.len_K hF' I4.ok.mod.kin J' hsL hfL ?_
  have I5p := I4.pinned (fun b hb => by rw [List.mem_singleton.mp hb]; exact fp : ∀ b ∈ [it], FpOk X pins (upd H q (.lst [])) b) (fun b hb => by
    rw [List.mem_singleton.mp hb]
    obtain ⟨oi, e, c, dd⟩ := ki
    exact ⟨oi, e, fun v z => by rw [dd] at z; cases z⟩)
  have ki4 := ki
  refine wpAny_mono (run_at (E' := fun _ _ => False) (us := [.ref a]) (vs := [.ref a]) (Q := fun v H2 => ∃ k : Int, v = .int k ∧ 0 ≤ k ∧ k < 100000 ∧ H2 = upd H q (.lst [])) sb.in1 FL bL I5p (.cons rfl .nil) (hL _ _ sHq fun k k0 k1 => ⟨k, rfl, k0, k1, rfl⟩)) (fun u s2 hu => ?_) fun _ _ e => e.elim
  obtain ⟨v2, H2, I6p, rv4, k, rfl, k0, k1, rfl⟩ := hu
  obtain ⟨tk, rfl⟩ := rv4
  refine ⟨⟨k0, by omega⟩, ?_⟩
  have ki6 : s2.heap.IsKeyIter it d 0 kvs.length ep := ki4.at fun ob e => (I6p.pin (it, ob) (List.mem_append_right _ (List.mem_append_right _ (mem_pinsAt (List.mem_singleton.mpr rfl) e)))).1
  have I6 := I6p.unpinned.tok (s2.toks + 1)
  refine wpAny_bind (wpAny_of_eq (a := some k) rfl ?_)
  refine PySem.W.KFB.if_not (notLongL (szl (by omega))) ?_
  refine wpAny_pure ?_
  have fin : ∀ (s3 : Shared), Inv X pins σ (upd H q (.lst [])) s3 → s3.heap.IsKeyIter it d 0 kvs.length ep → codeAny (model X.prog X.w) X.A.in1 (.builtin "list.extend.loop" ⟨[.ref q, .ref it, .none], []⟩) (wants (fun r s₂ => r = .none ∧ EP X pins σ Q (.ref q) s₂) X.xe) s3 := fun s3 I7 st => by
    refine it_loopK (A := X.A.in1) (H := upd H q (.lst [])) hdt hr.hd hz hdq niq (fun H3 s4 I8 hk3 hq3 => ⟨rfl, .ref q, H3, I8, rfl, h H3 (fun b ob e => hk3 b ob (ne_of_none e fr) (sHq _ _ e)) hq3⟩) kvs.length 0 _ s3 rfl (Nat.zero_le _) I7 (fun _ _ _ e => e) hd2 fp st upd_same
  refine wpAny_ite_split (fun _ => ?_) (fun _ => wpAny_pure ⟨plainId_quiet PySem.F.plain_extend_loop _, fin _ I6 ki6⟩)
  obtain ⟨z, its, k3, r3, hl3, e3⟩ := I6.lstM upd_same
  cases r3
  refine wpAny_bind (wpAny_rule ?_)
  refine wpAny_bind ?_
  show wpAny _ _ (updateSeq q (·.push .none) >>= fun _ => updateSeq q (·.pop)) _ _ _
  refine wpAny_bind (wpAny_updateSeq e3 rfl ?_)
  have I7 := I6.lset (f := (·.push Value.none)) (its' := [Value.none]) (ys := [.non]) (t' := s2.toks + 1) upd_same e3 (by simp) (.cons rfl .nil) (by rw [List.length_singleton, sizeLine_eq]; decide)
  obtain ⟨z4, its4, k4, r4, hl4, e4⟩ := I7.lstM upd_same
  obtain ⟨u4, rfl, ru4⟩ := r4.one
  refine wpAny_updateSeq e4 rfl ?_ (by show 1 ≤ sizeLine; rw [sizeLine_eq]; decide) (by show 0 ≤ sizeLine + 1; exact Nat.zero_le _)
  refine wpAny_pure ⟨plainId_quiet PySem.F.plain_extend_loop _, fin _ ?_ ?_⟩
  · have I8 := I7.lset (f := (·.pop)) (its := [u4]) (its' := []) (ys := []) (t' := s2.toks + 1) upd_same e4 (by rfl) .nil (Nat.zero_le _)
    rw [upd_upd, upd_upd] at I8
    exact I8
  · exact (ki6.at fun ob e => (Heap.get?_update_other _ _ (Ne.symm niq)).trans e).at fun ob e => (Heap.get?_update_other _ _ (Ne.symm niq)).trans e
end
/-! #### C.m(x, *rest), a static method -/
def smP (K : PySem.W.Frag) (C : Addr) (m : Str) : Addr := match PySem.W.findCls K (.ref C) (.type "type") m with
  | some (.get _ (.ref p) _ _) => p
  | _ => 0
def smG (K : PySem.W.Frag) (C : Addr) (m : Str) : Addr := match PySem.W.recIn K (smP K C m) "staticmethod" with
  | some (.ref g :: _) => g
  | _ => 0
def isSM (K : PySem.W.Frag) (C : Addr) (m : Str) : Bool := match PySem.W.findCls K (.ref C) (.type "type") m with
  | some (.get (.builtin z) (.ref _) .none (.ref C')) => decide (z = "staticmethod.__get__") && decide (C' = C)
  | _ => false
def isSG (K : PySem.W.Frag) (C : Addr) (m : Str) : Bool := match PySem.W.recIn K (smP K C m) "staticmethod" with
  | some (.ref _ :: _) => true
  | _ => false
/-- C.m is a static method: its record at p, its def at g -/
structure SMet (K : PySem.W.Frag) (C : Addr) (m : Str) (p g : Addr) : Prop where
  at_ : PySem.W.findCls K (.ref C) (.type "type") m = some (.get (.builtin "staticmethod.__get__") (.ref p) .none (.ref C))
  rc : ∃ rest, PySem.W.recIn K p "staticmethod" = some (.ref g :: rest)
  kp : PySem.W.keepIn K (.ref g) = true
def bSMet (x m : Str) (K : PySem.W.Frag) : Bool := isSM K (He.ga K x) m && (isSG K (He.ga K x) m && PySem.W.keepIn K (.ref (smG K (He.ga K x) m)))
theorem bSMet_ok {x m : Str} {K : PySem.W.Frag} (h : bSMet x m K = true) : SMet K (He.ga K x) m (smP K (He.ga K x) m) (smG K (He.ga K x) m) := by
  obtain ⟨h1, h⟩ := He.ba h
  obtain ⟨h2, h3⟩ := He.ba h
  refine ⟨?_, ?_, h3⟩
  · unfold isSM at h1
    unfold smP
    split at h1
    · rename_i z p C' e
      obtain ⟨q1, q2⟩ := He.ba h1
      rw [e, of_decide_eq_true q1, of_decide_eq_true q2]
    · exact absurd h1 Bool.false_ne_true
  · unfold isSG at h2
    unfold smG
    split at h2
    · rename_i g r e
      rw [e]
      exact ⟨r, rfl⟩
    · exact absurd h2 Bool.false_ne_true
structure SMS (CX : CXT) (P : Program) (w : World) (K : PySem.W.Frag) (mg : Str → Option Value) (base : Heap) (k : Nat) (x : Str) (C : Addr) (m : Str) (sp : Sp) : Prop where
  ex : ∃ p g : Addr, mg x = some (.ref C) ∧ ClX.CRead K C (.type "type") ∧ SMet K C m p g ∧ FnR P w K mg base CX k g (StarW sp)
theorem SMS.of {CX : CXT} {P : Program} {w : World} {K : PySem.W.Frag} {mg : Str → Option Value} {base : Heap} {k : Nat} {x m : Str} {C p g : Addr} {sp : Sp} {p0 : Str} (hm : mg x = some (.ref C)) (r : ClX.CRead K C (.type "type")) (c : SMet K C m p g)
    (F : FnR P w K mg base CX k g (fun vs H Q E => ∃ ws rest, vs = ws ++ rest ∧ ws.length = [p0].length ∧ rest.length ≤ sizeLine ∧ ∀ p, H p = none → sp (ws ++ [V.ref p]) (upd H p (.tup rest)) Q E)) : SMS CX P w K mg base k x C m sp :=
  ⟨p, g, hm, r, c, F.imp fun vs H Q E ⟨x, rest, e, hl, q⟩ => ⟨[x], rest, e, rfl, szl (by omega), q⟩⟩
def tSMeth (sp : Sp) (E : XK) (t : TA) : TE := fun σ H Q => t σ H fun vs H2 => StarW sp vs H2 Q E
section
variable {X : Cx} {CX : CXT} {k j : Nat} {x m : Str} {C : Addr} {sp : Sp} {E : XK} {e : Expr} {es : List Expr} {p0 pos apos : Pos} {t : TA} {pl : Sem Bool}
theorem pe_smS (c : SMS CX X.prog X.w X.K X.mg X.base k x C m sp) (hr : Room j X.A) (hk : k ≤ j) (hg : Gl X x) (hx : Passes CX X E) (ha : PA X (e :: es) t) (hdb : (x == ("__debug__" : Str)) = false := by decide)
    (hst : starEach (e :: es) X.env = (false, eval e X.env) :: starEach es X.env := by rfl) (hpl : (backTo pos (starEach es X.env)).any (·.1) = false := by rfl)
    (ht : MC X (.Name x p0) m apos pos (e :: es) [] pl := by exact rfl) :
    PE X (.Call (.Attribute (.Name x p0) m apos) (e :: es) [] pos) (tSMeth sp E t) := by
  obtain ⟨q, g, hm, r, cm, F⟩ := c.ex
  obtain ⟨rest, hp⟩ := cm.rc
  refine ⟨fun pins s σ H Q I h => ?_⟩
  refine PySem.W.methodCall_KW (pl := pl) (thn ((pe_clsv (pos := p0) hg hm hdb).run pins s σ H (fun v H1 => v = .ref C ∧ H1 = H) I ⟨rfl, rfl⟩) fun u s1 ⟨v, H1, I1, rx, q1⟩ => ?_) ht
  obtain ⟨rfl, rfl⟩ := q1
  obtain rfl : u = Value.ref C := rx
  refine PySem.W.method_cls I1.kIn r.ga (PySem.W.cls_bind I1.kIn r.rd cm.at_ ?_)
  refine wpAny_call (PySem.W.sm_get (s := { s1 with toks := s1.toks + 1 }) I1.kIn hp (PySem.W.handed_on rfl ?_))
  have I2 := I1.tok (s1.toks + 1)
  refine PySem.W.callWith_K (h₀ := X.base) (first := []) I2.ok.mod.kin cm.kp (thn (ha.run pos pins _ σ _ _ I2 h) fun us s3 ⟨vs, H2, I3, rv, q2⟩ => ⟨I3.kIn, ?_⟩) hst hpl
  exact wpAny_call (run_fnR (us := us) (vs := vs) F (hr.mono hk) hx I3 rv q2)
end
/-! #### len(d), walks over dicts and tuples -/
def rLenD : List V → Hp → VK → Prop := fun xs H Q => ∃ a kvs, xs = [V.ref a] ∧ Rd H a (.dK kvs) ∧ Q (.int kvs.length) H
section
variable {X : Cx}
theorem call_lenDR : CallR X (.builtin "len") rLenD := by
  intro pins s σ H xs us Q I r h
  obtain ⟨a, kvs, rfl, ha, q⟩ := h
  obtain ⟨u, rfl, ru⟩ := r.one
  cases ru
  exact d_len I ha fun t s' I' => ⟨.int kvs.length, H, I', ⟨t, rfl⟩, q⟩
end
section
variable {σ : L2.St} {H : Hp} {Q : VK} {K : PySem.W.Frag} {g : TG} {tb : TS} {tt : TT} {tk tv td ta : TE} {tl : TA} {vs : List Nat} {D : Ends} {kvs : List (Key × V)} {d C : Addr} {od : Obj} {F : Str} {sp : Sp} {E : XK}
theorem wp_lenD {a : Addr} (hd : Rd H a (.dK kvs)) (h : Q (.int kvs.length) H) : rLenD [.ref a] H Q := ⟨a, kvs, rfl, hd, h⟩
theorem wp_listD {p : Addr} (hd : H p = some (.dK kvs)) (h : ∀ q, H q = none → Q (.ref q) (upd H q (.lst (kvs.map fun kv => kV kv.1)))) : rListD [.ref p] H Q := ⟨p, kvs, rfl, hd, h⟩
theorem wp_smeth (h : tl σ H fun vs H2 => StarW sp vs H2 Q E) : tSMeth sp E tl σ H Q := h
theorem wp_forKeys (h : td σ H fun x H1 => ∃ d o, x = .ref d ∧ ((∃ kvs, H1 d = some (.frz o (.dK kvs)) ∧ ForW (Itk d o kvs) g tb D σ H1) ∨ ∃ kvs, H1 d = some (.frz o (.dT kvs)) ∧ ForW (Itkt d o kvs) g tb D σ H1)) : tFor (iKeys td) g tb D σ H := h
theorem loopKeysN {f : List Nat → V} {ns : List (List Nat)} (hf : H d = some (.frz od (.dK (dN f ns)))) (Pv : Nat → L2.St → Hp → Prop) (h0 : Pv 0 σ H) (hG : ∀ i σ' H', i ≤ ns.length → Pv i σ' H' → H' d = some (.frz od (.dK (dN f ns))))
    (hs : ∀ i l σ' H', ns[i]? = some l → Pv i σ' H' → g (.str (S l)) σ' H' fun σ2 H2 => tb { D with nx := Pv (i + 1), ct := Pv (i + 1), bk := D.nx } σ2 H2) (hd : ∀ σ' H', Pv ns.length σ' H' → D.nx σ' H') :
    ∃ d' o, V.ref d = .ref d' ∧ ((∃ kvs, H d' = some (.frz o (.dK kvs)) ∧ ForW (Itk d' o kvs) g tb D σ H) ∨ ∃ kvs, H d' = some (.frz o (.dT kvs)) ∧ ForW (Itkt d' o kvs) g tb D σ H) := by
  refine ⟨d, od, rfl, .inl ⟨_, hf, for_it walk_keys Pv h0 (fun i σ' H' hi => hG i σ' H' (by rw [dN_len] at hi; exact hi)) (fun i v σ' H1 H2 hi p y => ?_) (by rw [dN_len]; exact hd)⟩⟩
  obtain ⟨e, k, z, e1, rfl⟩ := y
  obtain ⟨l, hl, rfl, rfl⟩ := dN_at e1
  rw [e]
  exact hs i l σ' H1 hl p
theorem wp_dcT (h : ta σ H fun x H1 => ∃ a, x = .ref a ∧ (∃ xs, SqT K H1 a xs) ∧ DcW (Itt K a) g tt tk tv vs σ H1 Q) : tDc (iTup K ta) g tt tk tv vs σ H Q := h
theorem Same.seqT {H' : Hp} {a : Addr} {xs : List V} (e : Same H H') (h : SqT K H a xs) : SqT K H' a xs := by
  unfold SqT Rd at h ⊢
  rcases h with h | h
  · rcases h with h | ⟨o, h⟩
    · exact .inl (.inl (e _ _ h))
    · exact .inl (.inr ⟨o, e _ _ h⟩)
  · exact .inr h
theorem dcT {a : Addr} {xs : List V} (hx : SqT K H a xs) (hn : xs.length ≤ 100000) (kv : Nat → List (Key × V)) (h0 : kv 0 = []) (hlen : ∀ i, (kv i).length ≤ i)
    (hs : ∀ i x H2 (R : V → V → Hp → Prop), xs[i]? = some x → Same H H2 → (∀ k z H5, Same H2 H5 → kv (i + 1) = putK (kv i) k z → R (kV k) z H5) → g x (wipe σ vs) H2 fun σ2 H3 => wipe σ2 vs = wipe σ vs ∧ tk σ2 H3 fun y H4 => tv σ2 H4 fun z H5 => R y z H5)
    (hq : ∀ D H2, H D = none → Same H H2 → H2 D = some (.dK (kv xs.length)) → Q (.ref D) H2) : ∃ b, V.ref a = .ref b ∧ (∃ ys, SqT K H b ys) ∧ DcW (Itt K b) g tYes tk tv vs σ H Q := by
  refine ⟨a, rfl, ⟨xs, hx⟩, ?_⟩
  intro D hD
  refine dc_tup (xs := xs) (fun i H2 => i ≤ xs.length ∧ Same H H2 ∧ H2 D = some (.dK (kv i))) ⟨Nat.zero_le _, Same.new hD, by rw [h0]; exact upd_same⟩ (fun i H2 _ p => Same.seqT p.2.1 hx) (fun i x H2 hxi p => ?_) (fun H2 p => hq D H2 hD p.2.1 p.2.2)
  obtain ⟨hi, s1, hD2⟩ := p
  have hlt : i < xs.length := (List.getElem?_eq_some_iff.mp hxi).1
  exact hs i x _ (fun y z H5 => ∃ kvs k, y = kV k ∧ H5 D = some (.dK kvs) ∧ kvs.length < sizeLine ∧ (i + 1 ≤ xs.length ∧ Same H (upd H5 D (.dK (putK kvs k z))) ∧ upd H5 D (.dK (putK kvs k z)) D = some (.dK (kv (i + 1))))) hxi s1 fun k z H5 s5 e => ⟨kv i, k, rfl, s5 _ _ hD2, szlt (by have := hlen i; omega), hlt, Same.mut (s1.trans s5) hD, by rw [e]; exact upd_same⟩
end
end RM
namespace RM
open PySem PySem.Spec PyProof.Rows L2
/-! ### timetables: dicts that are built, told, changed -/
section
variable {σ : L2.St} {H : Hp} {Q : VK} {K : PySem.W.Frag} {g : TG} {tt : TT} {tk tv td te : TE} {vs : List Nat} {kvs : List (Key × V)} {d : Addr} {v : V}
/-- a dict comprehension over the keys of a dict that an expression tells -/
theorem lock_dcF (hd : H d = some (.dK kvs)) (hn : kvs.length ≤ 100000) (hv : ∀ od (R : VK), R (.ref d) (upd H d (.frz od (.dK kvs))) → td σ (upd H d (.frz od (.dK kvs))) R)
    (kv : Nat → List (Key × V)) (h0 : kv 0 = []) (hlen : ∀ i, (kv i).length ≤ i)
    (hs : ∀ i k x od H2 (R : V → V → Hp → Prop), kvs[i]? = some (k, x) → Same (upd H d (.frz od (.dK kvs))) H2 → (∀ k' z H5, Same H2 H5 → kv (i + 1) = putK (kv i) k' z → R (kV k') z H5) →
      g (kV k) (wipe σ vs) H2 fun σ2 H3 => wipe σ2 vs = wipe σ vs ∧ tk σ2 H3 fun y H4 => tv σ2 H4 fun z H5 => R y z H5)
    (hq : ∀ D H2, H D = none → Same H H2 → H2 D = some (.dK (kv kvs.length)) → Q (.ref D) H2) : tLockE (tDc (iKeys td) g tYes tk tv vs) σ H Q := by
  refine wp_lockE hd fun od => ?_
  refine hv od _ ⟨d, od, rfl, .inl ⟨kvs, upd_same, ?_⟩⟩
  intro D hD
  have nDd : D ≠ d := fun e => by rw [e, upd_same] at hD; cases hD
  have hD' : H D = none := by rw [upd_ne nDd] at hD; exact hD
  refine ⟨fun i m H2 => m = kvs.length - i ∧ i ≤ kvs.length ∧ Same (upd H d (.frz od (.dK kvs))) H2 ∧ H2 D = some (.dK (kv i)), ⟨kvs.length, by simp, Nat.zero_le _, Same.new hD, by rw [h0]; exact upd_same⟩, ?_⟩
  rintro i m H2 ⟨rfl, hi, s1, hD2⟩
  have hf := frz_at s1
  rcases Nat.lt_or_ge i kvs.length with h | h
  · right
    refine ⟨⟨hf, h⟩, fun H' => Same (upd H d (.frz od (.dK kvs))) H' ∧ H' D = some (.dK (kv (i + 1))), fun H' hN => ⟨kvs.length - (i + 1), by omega, rfl, by omega, hN⟩, fun x H' hy => ?_⟩
    obtain ⟨e, k, v, hkv, rfl⟩ := hy
    subst e
    exact hs i k v od _ (fun y z H5 => ∃ kvs' k, y = kV k ∧ H5 D = some (.dK kvs') ∧ kvs'.length < sizeLine ∧ (Same (upd H d (.frz od (.dK kvs))) (upd H5 D (.dK (putK kvs' k z))) ∧ upd H5 D (.dK (putK kvs' k z)) D = some (.dK (kv (i + 1))))) hkv s1 fun k z H5 s5 e => ⟨kv i, k, rfl, s5 _ _ hD2, szlt (by have := hlen i; omega), Same.mut (s1.trans s5) hD, by rw [e]; exact upd_same⟩
  · left
    have e : i = kvs.length := by omega
    subst e
    exact ⟨⟨hf, Nat.le_refl _⟩, hf, hq D _ hD' (unl hd s1) (by rw [upd_ne nDd]; exact hD2)⟩
theorem take_new {l : List Nat} {i : Nat} {ns : List (List Nat)} (nd : ns.Nodup) (hl : ns[i]? = some l) : l ∉ ns.take i := by
  intro hm
  have e := take_snoc hl
  have z : (ns.take (i + 1)).Nodup := nd.sublist (List.take_sublist _ _)
  rw [e] at z
  exact (List.nodup_append.mp z).2.2 l hm l (List.mem_singleton.mpr rfl) rfl
theorem lock_dcN {f : List Nat → V} {ns : List (List Nat)} (σ0 : L2.St) (h : List Nat → V) (hw : wipe σ vs = σ0) (nd : ns.Nodup) (hd : H d = some (.dK (dN f ns))) (hn : ns.length ≤ 100000) (hv : ∀ od (R : VK), R (.ref d) (upd H d (.frz od (.dK (dN f ns)))) → td σ (upd H d (.frz od (.dK (dN f ns)))) R)
    (hs : ∀ (i : Nat) (l : List Nat) od H2 (R : V → V → Hp → Prop), ns[i]? = some l → Same (upd H d (.frz od (.dK (dN f ns)))) H2 → (∀ H5, Same H2 H5 → R (.str (S l)) (h l) H5) →
      g (.str (S l)) σ0 H2 fun σ2 H3 => wipe σ2 vs = σ0 ∧ tk σ2 H3 fun y H4 => tv σ2 H4 fun z H5 => R y z H5)
    (hq : ∀ D H2, H D = none → Same H H2 → H2 D = some (.dK (dN h ns)) → Q (.ref D) H2) : tLockE (tDc (iKeys td) g tYes tk tv vs) σ H Q := by
  refine lock_dcF hd (by rw [dN_len]; exact hn) hv (fun i => dN h (ns.take i)) rfl (fun i => by rw [dN_len, List.length_take]; omega) (fun i k x od H2 R hk s kR => ?_) (fun D H2 h1 s h2 => hq D H2 h1 s (by rw [h2, dN_len, List.take_length]))
  obtain ⟨l, hl, rfl, rfl⟩ := dN_at hk
  rw [hw]
  refine hs i l od H2 R hl s fun H5 s5 => kR (.inr (S l)) (h l) H5 s5 ?_
  show dN h (ns.take (i + 1)) = _
  rw [take_snoc hl, dN_put (take_new nd hl)]
theorem dput_s {R : Hp → Prop} {l : List Nat} (hd : H d = some (.dK kvs)) (hl : kvs.length < 100000) (h : R (upd H d (.dK (putK kvs (.inr (S l)) v)))) : rSetD (.ref d) (.str (S l)) v H R := ⟨d, _, rfl, DPut.k (k := .inr (S l)) hd (szlt hl), h⟩
end
/-- the minutes of a list, by names -/
def asg : List (List Nat) → List Int → List Nat → Int
  | n :: ns, i :: is, l => if l = n then i else asg ns is l
  | _, _, _ => 0
theorem asg_at {l : List Nat} {j : Int} : ∀ {ns : List (List Nat)} {is : List Int} {k : Nat}, ns.Nodup → ns[k]? = some l → is[k]? = some j → asg ns is l = j
  | n :: ns, i :: is, 0, _, h1, h2 => by
    cases h1; cases h2
    exact if_pos rfl
  | n :: ns, i :: is, k + 1, nd, h1, h2 => by
    obtain ⟨hn, nd⟩ := List.nodup_cons.mp nd
    have e : l ≠ n := fun e => hn (e ▸ List.mem_of_getElem? h1)
    show (if l = n then i else asg ns is l) = j
    rw [if_neg e]
    exact asg_at nd h1 h2
theorem asg_mem {l : List Nat} : ∀ {ns : List (List Nat)} {is : List Int}, l ∈ ns → ns.length ≤ is.length → asg ns is l ∈ is
  | n :: ns, i :: is, h, hl => by
    show (if l = n then i else asg ns is l) ∈ _
    by_cases e : l = n
    · rw [if_pos e]; exact List.mem_cons_self
    · rw [if_neg e]
      exact List.mem_cons_of_mem _ (asg_mem ((List.mem_cons.mp h).resolve_left e) (by simpa using hl))
def rotG {α : Type} (f : Nat) (ns : List α) : List α := ns.drop f ++ ns.take f
theorem rot_perm {α : Type} (f : Nat) (ns : List α) : (rotG f ns).Perm ns := (List.perm_append_comm).trans (List.Perm.of_eq (List.take_append_drop f ns))
theorem rot_len {α : Type} (f : Nat) (ns : List α) : (rotG f ns).length = ns.length := (rot_perm f ns).length_eq
theorem rot_at {α : Type} {f k : Nat} {ns : List α} (hf : f ≤ ns.length) (hk : k < ns.length) : (rotG f ns)[k]? = ns[(k + f) % ns.length]? := by
  unfold rotG
  by_cases h : k + f < ns.length
  · rw [Nat.mod_eq_of_lt h, List.getElem?_append_left (by rw [List.length_drop]; omega), List.getElem?_drop, Nat.add_comm f k]
  · have e : (k + f) % ns.length = k - (ns.length - f) := by
      rw [Nat.mod_eq_sub_mod (by omega), Nat.mod_eq_of_lt (by omega)]
      omega
    rw [List.getElem?_append_right (by rw [List.length_drop]; omega), List.length_drop, List.getElem?_take, e, if_pos (by omega)]
theorem rot0 {α : Type} (ns : List α) : rotG 0 ns = ns := by unfold rotG; simp
/-- a new timetable is handed out -/
def NewTm (C : Addr) (G H : Hp) (T : Int) (ns : List (List Nat)) (m : List Nat → Int) (Q : VK) : Prop := ∀ a G' H', Same G G' → Same G' H' → Same H H' → (∀ q o, H q = some o → G q = none → G' q = none) → IsTimes C G' a T ns m → Q (.ref a) H'
theorem NewTm.sees {C : Addr} {P : Pl} {G H : Hp} {T : Int} {ns : List (List Nat)} {m : List Nat → Int} {Q : VK} (hs : Sees P G H) (k : ∀ a G' H', Same G G' → Same H H' → (∀ q o, H q = some o → G q = none → G' q = none) → IsTimes C G' a T ns m → Sees P G' H' → Q (.ref a) H') : NewTm C G H T ns m Q :=
  fun a G' H' s1 s2 s3 kp n => k a G' H' s1 s3 kp n (hs.grow s1 s2 s3 kp)
theorem IsTimes.congr {C : Addr} {H : Hp} {a : Addr} {T : Int} {ns : List (List Nat)} {m m' : List Nat → Int} (h : IsTimes C H a T ns m) (e : ∀ l ∈ ns, m l = m' l) : IsTimes C H a T ns m' := by
  obtain ⟨dx, d, h1, h2⟩ := h
  refine ⟨dx, d, h1, ?_⟩
  rw [h2]
  unfold mD
  rw [dN_congr fun l hl => by rw [e l hl]]
theorem OkTm.congr {T : Int} {ns : List (List Nat)} {m m' : List Nat → Int} (h : OkTm T ns m) (e : ∀ l ∈ ns, m l = m' l) : OkTm T ns m' := ⟨h.t0, h.t1, h.few, h.nm, fun l hl => by rw [← e l hl]; exact h.m0 l hl, fun l hl => by rw [← e l hl]; exact h.m1 l hl⟩
theorem mD_congr {ns : List (List Nat)} {m m' : List Nat → Int} (e : ∀ l ∈ ns, m l = m' l) : mD m ns = mD m' ns := by
  unfold mD
  exact dN_congr fun l hl => by rw [e l hl]
theorem intVs_mD {m : List Nat → Int} {ns : List (List Nat)} : IntVs (mD m ns) := fun p hp => by
  unfold mD dN at hp
  obtain ⟨l, _, rfl⟩ := List.mem_map.mp hp
  exact ⟨m l, rfl⟩
/-- == of two dicts of minutes -/
theorem eqKV_iff {m m' : List Nat → Int} {ns ms : List (List Nat)} : eqKV (mD m ns) (mD m' ms) = true ↔ ns.length = ms.length ∧ ∀ l ∈ ns, l ∈ ms ∧ m' l = m l := by
  unfold eqKV mD
  rw [Bool.and_eq_true, beq_iff_eq, dN_len, dN_len, List.all_eq_true]
  refine and_congr Iff.rfl ⟨fun h l hl => ?_, fun h p hp => ?_⟩
  · have z := h (.inr (S l), .int (m l)) (List.mem_map.mpr ⟨l, hl, rfl⟩)
    by_cases e : l ∈ ms
    · refine ⟨e, ?_⟩
      simp only [dN_val e] at z
      have z2 := of_decide_eq_true z
      injection z2
    · simp only [dN_none e] at z
      cases z
  · obtain ⟨l, hl, rfl⟩ := List.mem_map.mp hp
    obtain ⟨e, e2⟩ := h l hl
    show (match valV (dN (fun l => .int (m' l)) ms) (.inr (S l)) with
      | some v => decide (v = V.int (m l))
      | none => false) = true
    rw [dN_val e]
    exact decide_eq_true (by rw [e2])
/-- two dicts of minutes are told to be the same -/
def SmD (H : Hp) (n : Nat) (u v : V) : Prop := ∃ (a b : Addr) (f : List Nat → V) (ns : List (List Nat)) (j : Nat), n = j + 2 ∧ u = .ref a ∧ v = .ref b ∧ a ≠ b ∧ H a = some (.dK (dN f ns)) ∧ H b = some (.dK (dN f ns)) ∧ ns.length ≤ 1000 ∧ (∀ l ∈ ns, Asc l) ∧ ∀ l ∈ ns, Sc (f l)
theorem smD_m {H : Hp} {n : Nat} {a b : Addr} {m : List Nat → Int} {ns : List (List Nat)} (ne : a ≠ b) (ha : H a = some (.dK (mD m ns))) (hb : H b = some (.dK (mD m ns))) (hl : ns.length ≤ 1000) (hn : ∀ l ∈ ns, Asc l) : SmD H (n + 2) (.ref a) (.ref b) :=
  ⟨a, b, _, ns, n, rfl, rfl, rfl, ne, ha, hb, hl, hn, fun l _ => .inr (.inr (.inl ⟨_, rfl⟩))⟩
theorem NewTm.up {C : Addr} {G H H2 : Hp} {T : Int} {ns : List (List Nat)} {m : List Nat → Int} {Q : VK} (s : Same H H2) (k : NewTm C G H T ns m Q) : NewTm C G H2 T ns m Q :=
  fun a G' H' s1 s2 s3 kp it => k a G' H' s1 s2 (s.trans s3) (fun q o hq hG => kp q o (s _ _ hq) hG) it
/-- a list of one's own, of things that are O -/
structure OtG (P : Pl) (L : Addr) (G0 : Hp) (O : Hp → V → Prop) (n : Nat) (G H : Hp) (xs : List V) : Prop where
  l : Lcl P L xs G H
  s : Same G0 G
  o : ∀ x ∈ xs, O G x
  n : xs.length ≤ n
def Ups (O : Hp → V → Prop) : Prop := ∀ G G' x, Same G G' → O G x → O G' x
theorem OtG.new {P : Pl} {L q : Addr} {G0 : Hp} {O : Hp → V → Prop} {n : Nat} {G H : Hp} {xs : List V} {o : HO} (u : Ups O) (h : OtG P L G0 O n G H xs) (hq : H q = none) : OtG P L G0 O n (upd G q o) (upd H q o) xs :=
  have g := h.l.s.sub.free hq
  ⟨h.l.new hq, h.s.trans (Same.new g), fun x hx => u _ _ _ (Same.new g) (h.o x hx), h.n⟩
/-- a call that makes one new thing and leaves all else -/
theorem OtG.made {P : Pl} {L q : Addr} {G0 : Hp} {O : Hp → V → Prop} {n : Nat} {G H H' : Hp} {xs : List V} {o : HO} (u : Ups O) (h : OtG P L G0 O n G H xs) (s : Same H H') (hq : H q = none) (hq' : H' q = some o) : OtG P L G0 O n (upd G q o) H' xs :=
  have g := h.l.s.sub.free hq
  have nqp := (h.l.s.fresh hq).2
  have nL : L ≠ q := ne_of_none h.l.h hq
  ⟨⟨(h.l.s.same s).with g hq' nqp, s _ _ h.l.h, by rw [upd_ne nL]; exact h.l.g, h.l.ne⟩, h.s.trans (Same.new g), fun x hx => u _ _ _ (Same.new g) (h.o x hx), h.n⟩
theorem OtG.mono {P : Pl} {L : Addr} {G0 : Hp} {O : Hp → V → Prop} {n m : Nat} {G H : Hp} {xs : List V} (h : OtG P L G0 O n G H xs) (e : n ≤ m) : OtG P L G0 O m G H xs := ⟨h.l, h.s, h.o, Nat.le_trans h.n e⟩
theorem OtG.draw {P : Pl} {L : Addr} {G0 : Hp} {O : Hp → V → Prop} {n : Nat} {G H H' : Hp} {xs : List V} (h : OtG P L G0 O n G H xs) (s : Sees P (upd G L (.lst xs)) H') : OtG P L G0 O n G H' xs := ⟨h.l.out s, h.s, h.o, h.n⟩
theorem app_otG {P : Pl} {L o : Addr} {G0 : Hp} {O : Hp → V → Prop} {n : Nat} {G H : Hp} {xs zs : List V} {R : V → Hp → Prop} (u : Ups O) (ho : H o = none) (h : OtG P L G0 O n G H xs) (hn : n ≤ 90) (hO : O (upd G o (.lst zs)) (.ref o)) (k : ∀ ys G2 H2, OtG P L G0 O (n + 1) G2 H2 ys → Same G G2 → R .non H2) : rAppend (.ref L) [.ref o] (upd H o (.lst zs)) R := by
  have g := h.l.s.sub.free ho
  have h2 := h.new (o := .lst zs) u ho
  refine wp_append h2.l.h (by have := h.n; omega) (k (xs ++ [.ref o]) _ _ ⟨h2.l.put, h2.s, fun x hx => ?_, by have := h.n; simp; omega⟩ (Same.new g))
  rcases List.mem_append.mp hx with e | e
  · exact h2.o x e
  · rw [List.mem_singleton.mp e]
    exact hO
theorem putK_le (c : List (Key × V)) (k : Key) (x : V) : (putK c k x).length ≤ c.length + 1 := by
  unfold putK
  split <;> simp
end RM
namespace RM
open PySem PySem.Spec PyProof.Rows L2
/-! ### max(xs, default=d), sorted names, comprehensions with a test, own operators between two objects -/
section
variable {prog : Program} {w : World} {A : Around} {R : Result → Shared → Prop} {I S : Addr} {fp wr : List Addr} {n : Nat} {P : Nat → Value → Prop} {St : Nat → Heap → Prop} {bt : Nat → Nat → Bool} {dv : Value} {s0 : Shared}
/-- what the list of the best holds behind j items -/
def Bst (P : Nat → Value → Prop) (bt : Nat → Nat → Bool) : Nat → Array Value → Prop
  | 0, d => d = #[]
  | i + 1, d => ∃ v, P (argBest bt i) v ∧ d = #[v, v]
def lsO (d : Array Value) (c : Nat) : Obj := { cls := .type "list", dict := none, data := .seq d c, slots := #[] }
def Kpt (wr : List Addr) (S : Addr) (h h' : Heap) : Prop := ∀ b o, b ∉ wr → b ≠ S → h.get? b = some o → h'.get? b = some o
theorem mxd_loop (W : Walks prog w A.in1 I fp wr n P St) (hc : CmpOf prog w A.in1 .Gt P bt) (hS : S ∉ fp)
    (fin0 : n = 0 → ∀ h t, Kpt wr S s0.heap h → R (.ok (.ret dv)) { s0 with heap := h, toks := t }) (fin : ∀ i v h t, n = i + 1 → P (argBest bt i) v → Kpt wr S s0.heap h → R (.ok (.ret v)) { s0 with heap := h, toks := t }) :
    ∀ (m j : Nat) (h : Heap) (t c : Nat) (d : Array Value), n - j = m → j ≤ n → St j h → Bst P bt j d → h.get? S = some (lsO d c) → Kpt wr S s0.heap h →
      codeAny (model prog w) A (.builtin "max.loop" ⟨[.ref I, .none, .ref S], [("default", dv)]⟩) R { s0 with heap := h, toks := t } := by
  have nS : S ∉ wr := fun z => hS (W.sub _ z)
  have nm : (toString "max" ++ toString ".loop" : String) = "max.loop" := by decide
  intro m
  induction m with
  | zero =>
    intro j h t c d hm hj st hB hd kp
    obtain rfl : j = n := by omega
    apply codeAny_builtin F.entry_max_loop
    rw [Around.under_plainId F.plain_max_loop _]
    show wpAny _ A.in1 (seqItems? (.ref S) >>= _) _ _ _
    apply wpAny_bind
    apply wpAny_seqItems hd rfl
    show wpAny _ A.in1 (tryCatch (pyNext (.ref I)) _ >>= _) _ _ _
    apply wpAny_bind
    apply wpAny_tryCatch
    refine W.done _ _ _ st fun h' tk kk => ?_
    have hd2 := kk S _ nS hd
    have kp2 : Kpt wr S s0.heap h' := fun b o b1 b2 e => kk b o b1 (kp b o b1 b2 e)
    match j, hB, fin0, fin with
    | 0, hB, fin0, _ =>
      have e : d = #[] := hB
      subst e
      show wpAny _ A.in1 (rule _ >>= _) _ _ _
      exact wpAny_bind (wpAny_rule (wpAny_pure (fin0 rfl _ _ kp2)))
    | i + 1, hB, _, fin =>
      obtain ⟨v, hv, rfl⟩ := hB
      show wpAny _ A.in1 (updateSeq S (fun _ => #[]) >>= _) _ _ _
      refine wpAny_bind (wpAny_updateSeq hd2 rfl (wpAny_bind (wpAny_letGo (wpAny_pure (fin i v _ _ rfl hv fun b o b1 b2 e => ?_)))))
      rw [Heap.get?_update_other _ _ (Ne.symm b2)]
      exact kp2 b o b1 b2 e
  | succ m ih =>
    intro j h t c d hm hj st hB hd kp
    have hlt : j < n := by omega
    apply codeAny_builtin F.entry_max_loop
    rw [Around.under_plainId F.plain_max_loop _]
    show wpAny _ A.in1 (seqItems? (.ref S) >>= _) _ _ _
    apply wpAny_bind
    apply wpAny_seqItems hd rfl
    show wpAny _ A.in1 (tryCatch (pyNext (.ref I)) _ >>= _) _ _ _
    apply wpAny_bind
    apply wpAny_tryCatch
    refine W.item j _ _ _ hlt st fun v h' tk pv st' kk => ?_
    have hd2 := kk S _ nS hd
    have kp2 : Kpt wr S s0.heap h' := fun b o b1 b2 e => kk b o b1 (kp b o b1 b2 e)
    have put : ∀ (h2 : Heap) (f : Array Value → Array Value), h2 = h'.update S (Obj.mapSeq f) → St (j + 1) h2 ∧ Kpt wr S s0.heap h2 := fun h2 f e => by
      subst e
      refine ⟨W.frame _ _ _ st' fun b hb o e => ?_, fun b o b1 b2 e => ?_⟩
      · rw [Heap.get?_update_other _ _ (fun z : S = b => hS (by rw [z]; exact hb))]; exact e
      · rw [Heap.get?_update_other _ _ (Ne.symm b2)]; exact kp2 b o b1 b2 e
    match j, hB with
    | 0, hB =>
      have e : d = #[] := hB
      subst e
      show wpAny _ A.in1 (updateSeq S (fun _ => #[v, v]) >>= _) _ _ _
      apply wpAny_bind
      apply wpAny_updateSeq hd2 rfl
      rw [nm]
      have z := put _ (fun _ => #[v, v]) rfl
      exact wpAny_pure ⟨plainId_quiet F.plain_max_loop _, ih 1 _ _ _ #[v, v] (by omega) (by omega) z.1 ⟨v, pv, rfl⟩ (Heap.get?_update_self _ hd2 rfl) z.2⟩
    | i + 1, hB =>
      obtain ⟨u, hu, rfl⟩ := hB
      show wpAny _ A.in1 (tryCatch (holding [v, v] (richCompare .Gt v u >>= _)) _ >>= _) _ _ _
      apply wpAny_bind
      apply wpAny_tryCatch
      apply wpAny_holding
      apply wpAny_bind
      refine hc (i + 1) (argBest bt i) v u _ _ _ pv hu ?_
      refine wpAny_bind (wpAny_holding (wpAny_truthy_bool (wpAny_bind (wpAny_letGo (wpAny_pure ?_)))))
      by_cases hb : bt (i + 1) (argBest bt i) = true
      · rw [hb]
        simp only [if_true]
        apply wpAny_bind
        apply wpAny_updateSeq hd2 rfl
        refine wpAny_bind (wpAny_letGo ?_)
        rw [nm]
        have z := put _ (fun _ => #[v, v]) rfl
        exact wpAny_pure ⟨plainId_quiet F.plain_max_loop _, ih (i + 2) _ _ _ #[v, v] (by omega) (by omega) z.1 ⟨v, by simp only [argBest, hb, if_true]; exact pv, rfl⟩ (Heap.get?_update_self _ hd2 rfl) z.2⟩
      · rw [Bool.not_eq_true] at hb
        rw [hb]
        simp only [Bool.false_eq_true, if_false]
        refine wpAny_bind (wpAny_letGo ?_)
        rw [nm]
        exact wpAny_pure ⟨plainId_quiet F.plain_max_loop _, ih (i + 2) _ _ _ #[u, u] (by omega) (by omega) st' ⟨u, by simp only [argBest, hb, Bool.false_eq_true, if_false]; exact hu, rfl⟩ hd2 kp2⟩
end
theorem args_maxD (a v : Value) : argsOk "max" ⟨[a], [(Str.ofString "default", v)]⟩ := by unfold argsOk; kernel_rfl
/-- max(xs, default=d) of a list of ints -/
def rMaxD (K : PySem.W.Frag) : List V → List V → Hp → VK → Prop := fun vs zs H Q => ∃ (a : Addr) (ns : List Int) (d : Int), vs = [.ref a] ∧ zs = [.int d] ∧ SqL K H a (ns.map V.int) ∧ (ns = [] → Q (.int d) H) ∧ ∀ m, m ∈ ns → (∀ y, y ∈ ns → y ≤ m) → Q (.int m) H
section
variable {X : Cx}
theorem cr_maxD (hcalm : X.calm = true) : CallRK X (.builtin "max") ["default"] (rMaxD X.K) := by
  intro pins s σ H xs zs us ws Q I r rz h
  obtain ⟨a, ns, d, rfl, rfl, hs, q0, q⟩ := h
  obtain ⟨u, rfl, ru⟩ := r.one
  cases ru
  obtain ⟨wd, rfl, rd⟩ := rz.one
  obtain ⟨td, rfl⟩ := rd
  obtain ⟨its, rv, hl, _⟩ := I.list hs
  have hi := rv.ints
  obtain ⟨ys, e⟩ := hi.allInts.items
  have hn : numsOf (intItems ys).toList = ns := by rw [← e]; exact hi.numsOf
  rw [nums_intItems] at hn
  subst hn
  have hl2 := hl.isList
  rw [e] at hl2
  have nm : (toString "max" ++ toString ".loop" : String) = "max.loop" := by decide
  refine kmk_tree F.kind_max F.plain_max F.entry_max (args_maxD _ _) ?_
  show wpAny _ X.A.in1 (Builtin.Builtins.bindParams "max" ["key", "default"] 0 ⟨[], [(Str.ofString "default", .int d td)]⟩ >>= _) _ _ s
  refine wpAny_bind (wpAny_of_eq (show Builtin.Builtins.bindParams "max" ["key", "default"] 0 ⟨[], [(Str.ofString "default", .int d td)]⟩ = pure [none, some (.int d td)] from rfl) ?_)
  apply wpAny_bind
  apply wpAny_pure
  apply wpAny_bind
  refine iter_intList hl2 fun s₂ es st hfp hlI => ?_
  subst es
  refine wpAny_bind (wpAny_newObj_type ?_ (by size_fits))
  rw [nm]
  have W := Walks.list (prog := X.prog) (w := X.w) (A := X.A.in1) (I.ok.hd hcalm) s.heap.objs.size a hlI (intItems ys)
  have ez : (intItems ys).size = ys.size := by simp [intItems]
  have hS : (s.heap.push { cls := .type "list_iterator", data := .fields #[.ref a, .int 0 0] }).objs.size ∉ [s.heap.objs.size, a] := fun hm => Nat.lt_irrefl _ (hfp _ hm)
  have old : ∀ {h : Heap}, Kpt [s.heap.objs.size] (s.heap.push { cls := .type "list_iterator", data := .fields #[.ref a, .int 0 0] }).objs.size s.heap h → ∀ b o, s.heap.get? b = some o → h.get? b = some o := fun kp b o e => by
    have hb := Heap.lt_size e
    refine kp b o (fun hm => ?_) (fun z => ?_) e
    · rw [List.mem_singleton.mp hm] at hb; exact Nat.lt_irrefl _ hb
    · rw [z, Heap.size_push] at hb; exact absurd hb (Nat.not_lt.mpr (Nat.le_succ _))
  refine wpAny_pure ⟨plainId_quiet F.plain_max_loop _, mxd_loop (s0 := s) (bt := fun i j => decide (numAt ys i > numAt ys j)) W (CmpOf.ints_gt (numAt ys) fun _ _ => intItems_at) hS (fun e0 h t kp => ?_) (fun i v h t ei pv kp => ?_) _ 0 _ _ 0 #[] rfl (Nat.zero_le _) (W.frame _ _ _ st fun b _ o e => Heap.get?_push_of_some _ e) rfl (Heap.get?_push_size _ rfl) (fun b o _ _ e => Heap.get?_push_of_some _ (Heap.get?_push_of_some _ e))⟩
  · rw [ez] at e0
    have en : (ys.toList.map (·.1)) = [] := List.eq_nil_of_length_eq_zero (by rw [List.length_map, Array.length_toList]; exact e0)
    exact ⟨.int d, H, I.kept (t' := t) (old kp), ⟨td, rfl⟩, q0 en⟩
  · rw [ez] at ei
    obtain ⟨tk, rfl⟩ := intItems_at pv
    obtain ⟨h1, h2⟩ := argBest_gt (numAt ys) i
    refine ⟨.int _, H, I.kept (t' := t) (old kp), ⟨tk, rfl⟩, q _ ?_ fun y hy => ?_⟩
    · rw [numAt_eq]; exact PySem.getD_mem (by rw [List.length_map, Array.length_toList]; omega)
    · obtain ⟨j, hj, rfl⟩ := mem_getD hy
      rw [List.length_map, Array.length_toList] at hj
      rw [← numAt_eq]; exact h2 j (by omega)
end
/-! #### walks over a locked dict that an exception may leave -/
section
variable {X : Cx} {E : XK}
theorem takes_unlock {p : Addr} {od : Obj} {u : HO} (tk : Takes X (fun cls d _ H => E cls d H)) (hn : ∀ o' u', X.H_0 p ≠ some (.frz o' u')) : Takes X (fun cls d _ H => H p = some (.frz od u) ∧ E cls d (upd H p u)) :=
  fun v s' ⟨a, B, sI, pins, σ, H, cls, d, e, I, nb, up, sky, na, os, ag, w⟩ => tk v s' ⟨a, B, sI, pins, σ, upd H p u, cls, d, e, I.unlock w.1 hn, nb, up, sky, by rw [upd_ne (fun z => by rw [z, w.1] at na; cases na)]; exact na, os, ag, w.2⟩
theorem pxBy (tk : Takes X (fun cls d _ H => E cls d H)) : Passes (L2.CX X.prog X.w) X E := passes_call tk fun _ _ _ _ h => h
def unlX (p : Addr) (od : Obj) (u : HO) (E : XK) : XK := fun cls d H => H p = some (.frz od u) ∧ E cls d (upd H p u)
def tLockX (t : XK → TS) (E : XK) : TS := fun D σ H => ∃ d u, H d = some u ∧ Mut (some u) ∧ ∀ od, t (unlX d od u E) ⟨fun σ' H' => H' d = some (.frz od u) ∧ D.nx σ' (upd H' d u), fun v H' => H' d = some (.frz od u) ∧ D.rt v (upd H' d u), fun σ' H' => H' d = some (.frz od u) ∧ D.bk σ' (upd H' d u), fun σ' H' => H' d = some (.frz od u) ∧ D.ct σ' (upd H' d u)⟩ σ (upd H d (.frz od u))
theorem ps_lockX {st : Stmt} {t : XK → TS} (tk : Takes X (fun cls d _ H => E cls d H)) (h : ∀ E1, Takes X (fun cls d _ H => E1 cls d H) → PS X st (t E1)) : PS X st (tLockX t E) := by
  refine ⟨fun pins s σ H D I hw => ?_⟩
  obtain ⟨d, u, hd, mu, hw⟩ := hw
  obtain ⟨od, I1⟩ := I.lock hd mu
  have hn := I.nofrz hd mu
  refine thn ((h (unlX d od u E) (takes_unlock tk hn)).run pins s σ _ _ I1 (hw od)) fun f s1 q => ?_
  match f with
  | .next => exact q.elim fun σ' q => q.elim fun H' q => ⟨σ', _, q.1.unlock q.2.1 hn, q.2.2⟩
  | .brk => exact q.elim fun σ' q => q.elim fun H' q => ⟨σ', _, q.1.unlock q.2.1 hn, q.2.2⟩
  | .cont => exact q.elim fun σ' q => q.elim fun H' q => ⟨σ', _, q.1.unlock q.2.1 hn, q.2.2⟩
  | .ret v => exact q.elim fun x q => q.elim fun σ' q => q.elim fun H' q => ⟨x, σ', _, q.1.unlock q.2.2.1 hn, q.2.1, q.2.2.2⟩
theorem wp_lockX {t : XK → TS} {D : Ends} {σ : L2.St} {H : Hp} {d : Addr} {kvs : List (Key × V)} (hd : H d = some (.dK kvs)) (h : ∀ od, t (unlX d od (.dK kvs) E) ⟨fun σ' H' => H' d = some (.frz od (.dK kvs)) ∧ D.nx σ' (upd H' d (.dK kvs)), fun v H' => H' d = some (.frz od (.dK kvs)) ∧ D.rt v (upd H' d (.dK kvs)), fun σ' H' => H' d = some (.frz od (.dK kvs)) ∧ D.bk σ' (upd H' d (.dK kvs)), fun σ' H' => H' d = some (.frz od (.dK kvs)) ∧ D.ct σ' (upd H' d (.dK kvs))⟩ σ (upd H d (.frz od (.dK kvs)))) : tLockX t E D σ H := ⟨d, _, hd, True.intro, h⟩
/-- what was raised under the lock was raised before -/
theorem Rzd.unl {C : Addr} {fs : List (Str × V)} {H : Hp} {d : Addr} {kvs : List (Key × V)} {od : Obj} (hd : H d = some (.dK kvs)) (h : Rzd C fs E H) : Rzd C fs (unlX d od (.dK kvs) E) (upd H d (.frz od (.dK kvs))) := fun x H' s hx hf => by
  have nx : x ≠ d := fun e => by rw [e, upd_same] at hx; cases hx
  rw [upd_ne nx] at hx
  exact ⟨s _ _ upd_same, h x _ (RM.unl hd s) hx (by rw [upd_ne nx]; exact hf)⟩
end
/-! #### names in order -/
def srt (ns : List (List Nat)) : List (List Nat) := ns.mergeSort fun a b => decide (a ≤ b)
theorem srt_perm (ns : List (List Nat)) : (srt ns).Perm ns := List.mergeSort_perm _ _
theorem srt_pw (ns : List (List Nat)) : (srt ns).Pairwise (fun a b => a ≤ b) := by
  have z := List.pairwise_mergeSort (le := fun a b : List Nat => decide (a ≤ b)) (fun a b c h1 h2 => decide_eq_true (List.le_trans (of_decide_eq_true h1) (of_decide_eq_true h2))) (fun a b => by
    rcases List.le_total a b with h | h
    · rw [decide_eq_true h]; rfl
    · rw [decide_eq_true h, Bool.or_true]) ns
  exact z.imp fun h => of_decide_eq_true h
theorem srt_uniq {zs ns : List (List Nat)} (p : zs.Perm ns) (h : zs.Pairwise (fun a b => a ≤ b)) : zs = srt ns :=
  (p.trans (srt_perm ns).symm).eq_of_pairwise (fun _ _ _ _ h1 h2 => List.le_antisymm h1 h2) h (srt_pw ns)
theorem srt_mem {l : List Nat} {ns : List (List Nat)} : l ∈ srt ns ↔ l ∈ ns := (srt_perm ns).mem_iff
theorem srt_nodup {ns : List (List Nat)} (h : ns.Nodup) : (srt ns).Nodup := (srt_perm ns).nodup_iff.mpr h
theorem srt_len (ns : List (List Nat)) : (srt ns).length = ns.length := (srt_perm ns).length_eq
theorem srt_filter {ns : List (List Nat)} (f : List Nat → Bool) : srt ((srt ns).filter f) = (srt ns).filter f := (srt_uniq (List.Perm.refl _) ((srt_pw ns).sublist List.filter_sublist)).symm
theorem rising_pw : ∀ {p : Str} {l : List Str}, risingS p l = true → (p :: l).Pairwise fun a b => a.cps.toList ≤ b.cps.toList
  | p, [], _ => by simp
  | p, x :: r, h => by
    have h' : (!ltCps x.cps.toList p.cps.toList && risingS x r) = true := h
    obtain ⟨h1, h2⟩ := Bool.and_eq_true_iff.mp h'
    have ih := rising_pw h2
    have hpx : p.cps.toList ≤ x.cps.toList := by
      rw [PyProof.Rows.ltCps_eq, Bool.not_eq_true', decide_eq_false_iff_not] at h1
      exact List.not_lt.mp h1
    refine List.pairwise_cons.mpr ⟨fun y hy => ?_, ih⟩
    rcases List.mem_cons.mp hy with rfl | hy
    · exact hpx
    · exact List.le_trans hpx ((List.pairwise_cons.mp ih).1 y hy)
theorem sorted_srt {zs : List Str} {ns : List (List Nat)} (p : zs.Perm (ns.map S)) (h : sortedS zs = true) : zs = (srt ns).map S := by
  have hp : zs.Pairwise fun a b => a.cps.toList ≤ b.cps.toList := by
    cases zs with
    | nil => simp
    | cons x r => exact rising_pw h
  have e1 : zs = (zs.map fun x => x.cps.toList).map S := by
    rw [List.map_map]
    have : (S ∘ fun x : Str => x.cps.toList) = id := by funext x; exact S_tl x
    rw [this, List.map_id]
  have p1 : (zs.map fun x => x.cps.toList).Perm ns := by
    have z := p.map fun x : Str => x.cps.toList
    rw [List.map_map] at z
    have : ((fun x : Str => x.cps.toList) ∘ S) = id := rfl
    rw [this, List.map_id] at z
    exact z
  have h2 : (zs.map fun x => x.cps.toList).Pairwise (fun a b => a ≤ b) := List.pairwise_map.mpr hp
  rw [e1, srt_uniq p1 h2]
def rSortD : List V → Hp → VK → Prop := fun xs H Q => ∃ (a : Addr) (kvs : List (Key × V)) (ks : List Str), xs = [.ref a] ∧ Rd H a (.dK kvs) ∧ kvs.map (·.1) = ks.map Sum.inr ∧ ks.length < 64 ∧ ∀ ys p, ys.Perm ks → sortedS ys = true → H p = none → Q (.ref p) (upd H p (.lst (ys.map V.str)))
section
variable {X : Cx} {σ : L2.St} {H : Hp} {Q : VK} {K : PySem.W.Frag} {g : TG} {tt : TT} {tk tv td ty tx : TE} {vs : List Nat} {kvs : List (Key × V)} {d : Addr} {v : V}
theorem callSortD (hc : X.calm = true) : CallR X (.builtin "sorted") rSortD := call_sortedD hc
theorem wp_sortD {f : List Nat → V} {ns : List (List Nat)} (hd : Rd H d (.dK (dN f ns))) (hn : ns.length < 64) (k : ∀ p, H p = none → Q (.ref p) (upd H p (.lst ((srt ns).map sv)))) : rSortD [.ref d] H Q := by
  refine ⟨d, _, ns.map S, rfl, hd, by unfold dN; rw [List.map_map, List.map_map]; rfl, by rw [List.length_map]; exact hn, fun ys p hy hs hp => ?_⟩
  rw [sorted_srt hy hs, List.map_map]
  exact k p hp
theorem wp_sortS {a : Addr} {ns : List (List Nat)} (ha : SqL K H a (ns.map sv)) (hn : ns.length < 64) (k : ∀ p, H p = none → Q (.ref p) (upd H p (.lst ((srt ns).map sv)))) : rSortedS K [.ref a] H Q := by
  refine ⟨a, ns.map S, rfl, by rw [List.map_map]; exact ha, by rw [List.length_map]; exact hn, fun ys p hy hs hp => ?_⟩
  rw [sorted_srt hy hs, List.map_map]
  exact k p hp
/-- a dict comprehension over a list of names, with a test -/
theorem dcLN {a : Addr} {ns : List (List Nat)} (σ0 : L2.St) (h : List Nat → V) (p : List Nat → Bool) (hw : wipe σ vs = σ0) (nd : ns.Nodup) (hx : SqL K H a (ns.map sv)) (hn : ns.length ≤ 100000)
    (hs : ∀ (i : Nat) (l : List Nat) H2 (R : V → V → Hp → Prop) (R0 : Hp → Prop), ns[i]? = some l → Same H H2 → (p l = true → ∀ H5, Same H2 H5 → R (.str (S l)) (h l) H5) → (p l = false → ∀ H5, Same H2 H5 → R0 H5) →
      g (.str (S l)) σ0 H2 fun σ2 H3 => wipe σ2 vs = σ0 ∧ tt σ2 H3 fun b H4 => if b = true then tk σ2 H4 fun y H5 => tv σ2 H5 fun z H6 => R y z H6 else R0 H4)
    (hq : ∀ D H2, H D = none → Same H H2 → H2 D = some (.dK (dN h (ns.filter p))) → Q (.ref D) H2) : ∃ b, V.ref a = .ref b ∧ (∃ ys, SqL K H b ys) ∧ DcW (Itl K b) g tt tk tv vs σ H Q := by
  have el : (ns.map sv).length = ns.length := List.length_map ..
  refine ⟨a, rfl, ⟨_, hx⟩, ?_⟩
  intro D hD
  refine ⟨fun i m H2 => m = ns.length - i ∧ i ≤ ns.length ∧ Same H H2 ∧ H2 D = some (.dK (dN h ((ns.take i).filter p))), ⟨ns.length, by simp, Nat.zero_le _, Same.new hD, upd_same⟩, ?_⟩
  rintro i m H2 ⟨rfl, hi, s1, hD2⟩
  have hx2 := Same.seq s1 hx
  rcases Nat.lt_or_ge i ns.length with hlt | hge
  · right
    have hi2 : i < (ns.map sv).length := by omega
    refine ⟨⟨_, (ns.map sv)[i], hx2, List.getElem?_eq_getElem hi2⟩, fun H' => Same H H' ∧ H' D = some (.dK (dN h ((ns.take (i + 1)).filter p))), fun H' hN => ⟨ns.length - (i + 1), by omega, rfl, by omega, hN⟩, fun x H' hy => ?_⟩
    obtain ⟨e, hy⟩ := hy
    subst e
    have hxi := hy _ hx2
    rw [List.getElem?_map] at hxi
    obtain ⟨l, hl, rfl⟩ := Option.map_eq_some_iff.mp hxi
    rw [hw]
    have et := take_snoc hl
    refine hs i l _ (fun y z H5 => ∃ kvs k, y = kV k ∧ H5 D = some (.dK kvs) ∧ kvs.length < sizeLine ∧ (Same H (upd H5 D (.dK (putK kvs k z))) ∧ upd H5 D (.dK (putK kvs k z)) D = some (.dK (dN h ((ns.take (i + 1)).filter p))))) (fun H' => Same H H' ∧ H' D = some (.dK (dN h ((ns.take (i + 1)).filter p)))) hl s1 (fun hp H5 s5 => ?_) (fun hp H5 s5 => ⟨s1.trans s5, ?_⟩)
    · refine ⟨_, .inr (S l), rfl, s5 _ _ hD2, szlt ?_, Same.mut (s1.trans s5) hD, ?_⟩
      · rw [dN_len]
        have := List.length_filter_le p (ns.take i)
        rw [List.length_take] at this
        omega
      · rw [upd_same, dN_put (fun hm => take_new nd hl ((List.mem_filter.mp hm).1)), et, List.filter_append]
        simp [hp]
    · rw [s5 _ _ hD2, et, List.filter_append]
      simp [hp]
  · left
    have e : i = ns.length := by omega
    subst e
    rw [List.take_length] at hD2
    exact ⟨⟨_, hx2, by omega⟩, hq D H2 hD s1 hD2⟩
theorem wp_dget2 (h : td σ H fun x H1 => ∃ a, x = .ref a ∧ IsD H1 a ∧ ty σ H1 fun y H2 => tx σ H2 fun z H3 => ∃ o, DGet H3 a y o ∧ Q (o.getD z) H3) : tDGet2 td ty tx σ H Q := h
theorem isd_at {R : Addr → Prop} (hd : Rd H d (.dK kvs)) (q : R d) : ∃ a, V.ref d = .ref a ∧ IsD H a ∧ R a := ⟨d, rfl, .inl ⟨kvs, hd⟩, q⟩
theorem dg_s {R : Option V → Prop} {l : List Nat} (hd : Rd H d (.dK kvs)) (q : R (valV kvs (.inr (S l)))) : ∃ o, DGet H d (.str (S l)) o ∧ R o := ⟨_, .inl ⟨kvs, .inr (S l), hd, rfl, rfl⟩, q⟩
end
end RM
namespace RM
open PySem PySem.Spec PyProof.Rows L2
/-! ### errors that are due; try suites; lists of truth values compared -/
/-- an error that is due: its class and its fields -/
structure Er where
  c : Str
  fs : List (Str × V)
def eN (n : Int) : Er := ⟨"BadNumber", [("number", .int n)]⟩
def eS (c : Str) (l : List Nat) : Er := ⟨c, [("name", sv l)]⟩
def eU (n : Int) : Er := ⟨"UnknownSpan", [("number", .int n)]⟩
def eT (a b : Int) : Er := ⟨"TooMany", [("limit", .int b), ("count", .int a)]⟩
/-- what a check says: nothing, or that error -/
def Ck (K : PySem.W.Frag) (r : Option Er) (E : XK) (H : Hp) (Q : VK) : Prop := ∀ H', Same H H' → (r = none → Q .non H') ∧ ∀ e, r = some e → Rzd (He.ga K e.c) e.fs E H'
theorem Ck.non {K : PySem.W.Frag} {r : Option Er} {E : XK} {H : Hp} {Q : VK} (h : Ck K r E H Q) (e : r = none) : Q .non H := (h H (Same.refl _)).1 e
theorem Ck.rz {K : PySem.W.Frag} {r : Option Er} {e : Er} {E : XK} {H : Hp} {Q : VK} (h : Ck K r E H Q) (q : r = some e) : Rzd (He.ga K e.c) e.fs E H := (h H (Same.refl _)).2 e q
theorem Ck.mono {K : PySem.W.Frag} {r : Option Er} {E : XK} {H H2 : Hp} {Q : VK} (h : Ck K r E H Q) (s : Same H H2) : Ck K r E H2 Q := fun H' s2 => h H' (s.trans s2)
theorem Ck.seq {K : PySem.W.Frag} {a b : Option Er} {E : XK} {H : Hp} {Q Q' : VK} (h : Ck K (a.or b) E H Q) (k : ∀ H', Same H H' → a = none → Ck K b E H' Q → Q' .non H') : Ck K a E H Q' := by
  intro H' s
  cases a with
  | none =>
      refine ⟨fun _ => k H' s rfl fun H2 s2 => ?_, fun e q => nomatch q⟩
      have z := h H2 (s.trans s2)
      rw [Option.none_or] at z
      exact z
  | some e =>
      exact ⟨(fun q => nomatch q), fun e' q => (h H' s).2 e' (by rw [← q]; rfl)⟩
theorem Ck.fst {K : PySem.W.Frag} {a b : Option Er} {E : XK} {H : Hp} {Q : VK} (h : Ck K (a.or b) E H Q) (e : a = none) : Ck K b E H Q := by rw [e, Option.none_or] at h; exact h
theorem wp_rs {C : Addr} {fs : List Str} {E : XK} {ta : TA} {D : Ends} {σ : L2.St} {H : Hp} (h : ta σ H fun vs H1 => RsW C fs E vs H1) : tRs C fs E ta D σ H := h
def cFold {α : Type} (f : α → Option Er) : List α → Option Er
  | [] => none
  | x :: r => (f x).or (cFold f r)
theorem cFold_drop {α : Type} {f : α → Option Er} {xs : List α} {i : Nat} {x : α} (h : xs[i]? = some x) : cFold f (xs.drop i) = (f x).or (cFold f (xs.drop (i + 1))) := by
  obtain ⟨hl, e⟩ := List.getElem?_eq_some_iff.mp h
  rw [List.drop_eq_getElem_cons hl, e]
  rfl
theorem wp_tryMk {K : PySem.W.Frag} {i : Nat} {C : Addr} {sp : Sp} {ta : TA} {l : List (Value × Sui)} {D : Ends} {σ : L2.St} {H : Hp} (h : ta σ H fun vs H1 => MkW C sp (WE (wAsM K i (fun _ _ _ _ => False) D l) σ) (fun _ H2 => D.nx σ H2) vs H1) :
    tTry K i (fun W => tDrop (tMakeS C sp (WE W) ta)) l D σ H := h
theorem wAs_no {K : PySem.W.Frag} {i : Nat} {Wo : WX} {D : Ends} {c : Value} {ts : Sui} {r : List (Value × Sui)} {cls : Value} {d : Option Addr} {σ : L2.St} {H : Hp} (h : PySem.W.exmOne K cls c = some false) (k : wAsM K i Wo D r cls d σ H) : wAsM K i Wo D ((c, ts) :: r) cls d σ H := ⟨false, h, (fun q => nomatch q), fun _ => k⟩
theorem wAs_yes {K : PySem.W.Frag} {i : Nat} {Wo : WX} {D : Ends} {c : Value} {ts : Sui} {r : List (Value × Sui)} {cls : Value} {d : Option Addr} {σ : L2.St} {H : Hp} (h : PySem.W.exmOne K cls c = some true)
    (k : ∀ a, H a = none → ts a cls d { nx := fun σ' H' => D.nx (σ'.set i none) H', rt := D.rt, bk := fun σ' H' => D.bk (σ'.set i none) H', ct := fun σ' H' => D.ct (σ'.set i none) H' } (σ.set i (some (.ref a))) H) : wAsM K i Wo D ((c, ts) :: r) cls d σ H := ⟨true, h, fun _ => k, (fun q => nomatch q)⟩
theorem wp_isX {K : PySem.W.Frag} {a D dd : Addr} {fs : List (Str × V)} {c : V} {cv : Value} {b : Bool} {H : Hp} {Q : VK} (h : H dd = some (.xd fs)) (i : ExI K D) (hcv : ∀ u, RelV c u → u = cv) (e : PySem.W.kitOne K (.ref D) cv = some b) (q : Q (.bl b) H) : rIsX K a (.ref D) (some dd) [.ref a, c] H Q :=
  ⟨D, dd, fs, c, cv, b, rfl, rfl, rfl, i, h, hcv, e, q⟩
theorem wp_xfV {i : Nat} {a C dd : Addr} {f : Str} {σ : L2.St} {H : Hp} {Q : VK} {fs : List (Str × V)} {v : V} (hv : σ[i]? = some (some (.ref a))) (h : H dd = some (.xd fs)) (hl : fs.lookup f = some v) (q : Q v H) : tXf a (.ref C) (some dd) C f (tVar i) σ H Q :=
  ⟨.ref a, hv, rfl, rfl, dd, fs, v, rfl, h, hl, q⟩
theorem wp_tryCall {K : PySem.W.Frag} {i : Nat} {sp : Sp} {ta : TA} {l : List (Value × Sui)} {D : Ends} {σ : L2.St} {H : Hp} (h : ta σ H fun vs H1 => sp vs H1 (fun _ H2 => D.nx σ H2) (WE (wAsM K i (fun _ _ _ _ => False) D l) σ)) :
    tTry K i (fun W => tDrop (tCallS sp (WE W) ta)) l D σ H := h
def bD2 (bs : List Bool) : List PyData := bs.map .bool
section
variable {K : PySem.W.Frag} {H : Hp} {Q : VK} {a b : Addr}
theorem dp_bools2 : ∀ bs : List Bool, DpAll K H (bs.map V.bl) (bD2 bs)
  | [] => .nil
  | b :: bs => .cons (.bl b) (dp_bools2 bs)
theorem sh_bools2 : ∀ bs : List Bool, PyData.canLayAll0 (bD2 bs) = true ∧ PyData.depthAll (bD2 bs) = 0
  | [] => ⟨rfl, rfl⟩
  | b :: bs => by
    obtain ⟨h1, h2⟩ := sh_bools2 bs
    refine ⟨?_, ?_⟩
    · show (true && PyData.canLayAll0 (bD2 bs)) = true
      rw [h1]; rfl
    · show max 0 (PyData.depthAll (bD2 bs)) = 0
      rw [h2]; rfl
theorem eqv_bools2 : ∀ bs : List Bool, PyData.eqvAll (bD2 bs) (bD2 bs) = true
  | [] => rfl
  | b :: bs => by
    show (PyData.eqv (.bool b) (.bool b) && PyData.eqvAll (bD2 bs) (bD2 bs)) = true
    rw [eqv_bools2 bs]
    cases b <;> rfl
theorem wp_neBs2 {bs : List Bool} (h1 : H a = some (.lst (bs.map V.bl))) (h2 : H b = some (.lst (bs.map V.bl))) (q : Q (.bl false) H) : rNeD K (.ref a) (.ref b) H Q := by
  have sh : SeqAt.shaped (.list (bD2 bs)) = true := by
    obtain ⟨z1, z2⟩ := sh_bools2 bs
    show (PyData.canLayAll0 (bD2 bs) && decide (PyData.depthAll (bD2 bs) + 1 ≤ 64)) = true
    rw [z1, z2]; rfl
  refine ⟨.list (bD2 bs), .list (bD2 bs), .lst (sq_of h1) (dp_bools2 _), .lst (sq_of h2) (dp_bools2 _), sh, sh, ?_⟩
  show Q (.bl (!PyData.eqvAll (bD2 bs) (bD2 bs))) H
  rw [eqv_bools2]
  exact q
theorem wp_eqNil2 {xs : List V} {ds : List PyData} (h1 : H a = some (.lst xs)) (h2 : H b = some (.lst [])) (hd : DpAll K H xs ds) (sh : SeqAt.shaped (.list ds) = true) (q : Q (.bl (decide (ds = []))) H) : rEqD K (.ref a) (.ref b) H Q := by
  refine ⟨.list ds, .list [], .lst (sq_of h1) hd, .lst (sq_of h2) .nil, sh, rfl, ?_⟩
  show Q (.bl (PyData.eqvAll ds [])) H
  cases ds with
  | nil => exact q
  | cons d r => exact q
end
theorem wp_eqBs2 {K : PySem.W.Frag} {H : Hp} {Q : VK} {a b : Addr} {bs : List Bool} (h1 : H a = some (.lst (bs.map V.bl))) (h2 : H b = some (.lst (bs.map V.bl))) (q : Q (.bl true) H) : rEqD K (.ref a) (.ref b) H Q := by
  have sh : SeqAt.shaped (.list (bD2 bs)) = true := by
    obtain ⟨z1, z2⟩ := sh_bools2 bs
    show (PyData.canLayAll0 (bD2 bs) && decide (PyData.depthAll (bD2 bs) + 1 ≤ 64)) = true
    rw [z1, z2]; rfl
  refine ⟨.list (bD2 bs), .list (bD2 bs), .lst (sq_of h1) (dp_bools2 _), .lst (sq_of h2) (dp_bools2 _), sh, sh, ?_⟩
  show Q (.bl (PyData.eqvAll (bD2 bs) (bD2 bs))) H
  rw [eqv_bools2]
  exact q
theorem wp_neNil {K : PySem.W.Frag} {H : Hp} {Q : VK} {a b : Addr} {bs : List Bool} (h1 : H a = some (.lst (bs.map V.bl))) (h2 : H b = some (.lst [])) (q : Q (.bl (!decide (bs = []))) H) : rNeD K (.ref a) (.ref b) H Q := by
  have sh : SeqAt.shaped (.list (bD2 bs)) = true := by
    obtain ⟨z1, z2⟩ := sh_bools2 bs
    show (PyData.canLayAll0 (bD2 bs) && decide (PyData.depthAll (bD2 bs) + 1 ≤ 64)) = true
    rw [z1, z2]; rfl
  refine ⟨.list (bD2 bs), .list [], .lst (sq_of h1) (dp_bools2 _), .lst (sq_of h2) .nil, sh, rfl, ?_⟩
  show Q (.bl (!PyData.eqvAll (bD2 bs) [])) H
  cases bs with
  | nil => exact q
  | cons d r => exact q
theorem cFold_none {α : Type} {f : α → Option Er} : ∀ {xs : List α}, (∀ x ∈ xs, f x = none) → cFold f xs = none
  | [], _ => rfl
  | x :: r, h => by
    show (f x).or (cFold f r) = none
    rw [h x List.mem_cons_self, cFold_none fun y hy => h y (List.mem_cons_of_mem _ hy)]
    rfl
theorem cFold_at {α : Type} {f : α → Option Er} {er : Er} {l : α} : ∀ {xs : List α} {i : Nat}, xs[i]? = some l → (∀ x ∈ xs.take i, f x = none) → f l = some er → cFold f xs = some er
  | x :: r, 0, h, _, e => by
    cases h
    show (f l).or (cFold f r) = _
    rw [e]
    rfl
  | x :: r, i + 1, h, n, e => by
    show (f x).or (cFold f r) = _
    rw [n x (by simp), Option.none_or]
    exact cFold_at (i := i) h (fun y hy => n y (by rw [List.take_succ_cons]; exact List.mem_cons_of_mem _ hy)) e
theorem cFold_all {α : Type} {f : α → Option Er} : ∀ {xs : List α}, cFold f xs = none → ∀ x ∈ xs, f x = none
  | x :: r, h, y, hy => by
    have h' : (f x).or (cFold f r) = none := h
    obtain ⟨h1, h2⟩ := Option.or_eq_none_iff.mp h'
    rcases List.mem_cons.mp hy with rfl | hy
    · exact h1
    · exact cFold_all h2 y hy
end RM
namespace RM
open PySem PySem.Spec PyProof.Rows L2
/-! ### shifts; lists made over the keys of a dict -/
abbrev shF (d : Addr) : List (Str × V) := [("_moves", .ref d)]
theorem lk_sm {d : Addr} : (shF d).lookup ("_moves" : Str) = some (.ref d) := rfl
theorem pt_sm {d : Addr} : putF "_moves" (.ref d) [] = shF d := rfl
def IsShift (C : Addr) (H : Hp) (a : Addr) (ms : List (List Nat)) (f : List Nat → Int) : Prop := ∃ dx d, H a = some (.ins C dx (shF d)) ∧ H d = some (.dK (mD f ms))
def IsShiftR (C : Addr) (H : Hp) (a : Addr) (ms : List (List Nat)) (f : List Nat → Int) : Prop := ∃ dx d, H a = some (.ins C dx (shF d)) ∧ Rd H d (.dK (mD f ms))
theorem rdMono {H H' : Hp} {d : Addr} {o : HO} (e : Same H H') (h : Rd H d o) : Rd H' d o := by
  rcases h with h | ⟨ob, h⟩
  · exact .inl (e _ _ h)
  · exact .inr ⟨ob, e _ _ h⟩
theorem IsShift.mono {C : Addr} {H H' : Hp} (e : Same H H') {a : Addr} {ms : List (List Nat)} {f : List Nat → Int} (h : IsShift C H a ms f) : IsShift C H' a ms f := by
  obtain ⟨dx, d, h1, h2⟩ := h
  exact ⟨dx, d, e _ _ h1, e _ _ h2⟩
theorem IsShiftR.mono {C : Addr} {H H' : Hp} (e : Same H H') {a : Addr} {ms : List (List Nat)} {f : List Nat → Int} (h : IsShiftR C H a ms f) : IsShiftR C H' a ms f := by
  obtain ⟨dx, d, h1, h2⟩ := h
  exact ⟨dx, d, e _ _ h1, rdMono e h2⟩
theorem IsShift.rd {C : Addr} {H : Hp} {a : Addr} {ms : List (List Nat)} {f : List Nat → Int} (h : IsShift C H a ms f) : IsShiftR C H a ms f := by
  obtain ⟨dx, d, h1, h2⟩ := h
  exact ⟨dx, d, h1, .inl h2⟩
theorem IsShiftR.lock {C : Addr} {H : Hp} {p : Addr} {kvs : List (Key × V)} {od : Obj} (hp : H p = some (.dK kvs)) {a : Addr} {ms : List (List Nat)} {f : List Nat → Int} (h : IsShift C H a ms f) : IsShiftR C (upd H p (.frz od (.dK kvs))) a ms f := by
  obtain ⟨dx, d, h1, h2⟩ := h
  have nap : a ≠ p := fun e => by rw [e, hp] at h1; cases h1
  refine ⟨dx, d, (upd_ne nap).trans h1, ?_⟩
  by_cases e : d = p
  · subst e
    rw [hp] at h2
    cases h2
    exact .inr ⟨od, upd_same⟩
  · exact .inl ((upd_ne e).trans h2)
theorem IsShift.congr {C : Addr} {H : Hp} {a : Addr} {ms : List (List Nat)} {f g : List Nat → Int} (h : IsShift C H a ms f) (e : ∀ l ∈ ms, f l = g l) : IsShift C H a ms g := by
  obtain ⟨dx, d, h1, h2⟩ := h
  exact ⟨dx, d, h1, by rw [h2, mD_congr e]⟩
/-- the names whose entry is not 0, in order -/
def nzs (f : List Nat → Int) (ns : List (List Nat)) : List (List Nat) := (srt ns).filter fun l => !decide (f l = 0)
theorem nzs_mem {f : List Nat → Int} {ns : List (List Nat)} {l : List Nat} : l ∈ nzs f ns ↔ l ∈ ns ∧ f l ≠ 0 := by
  unfold nzs
  rw [List.mem_filter, srt_mem]
  simp
theorem nzs_nodup {f : List Nat → Int} {ns : List (List Nat)} (h : ns.Nodup) : (nzs f ns).Nodup := (srt_nodup h).sublist List.filter_sublist
theorem nzs_len (f : List Nat → Int) (ns : List (List Nat)) : (nzs f ns).length ≤ ns.length := by
  have := List.length_filter_le (fun l => !decide (f l = 0)) (srt ns)
  rw [srt_len] at this
  exact this
theorem nzs_pw (f : List Nat → Int) (ns : List (List Nat)) : (nzs f ns).Pairwise (fun a b => a ≤ b) := (srt_pw ns).sublist List.filter_sublist
theorem nzs_congr {f g : List Nat → Int} {ns : List (List Nat)} (h : ∀ l ∈ ns, f l = g l) : nzs f ns = nzs g ns := List.filter_congr fun l hl => by rw [h l (srt_mem.mp hl)]
/-- the same entries make the same names -/
theorem nzs_eq {f g : List Nat → Int} {ns ms : List (List Nat)} (nd : ns.Nodup) (md : ms.Nodup) (h : ∀ l, (l ∈ ns ∧ f l ≠ 0) ↔ (l ∈ ms ∧ g l ≠ 0)) : nzs f ns = nzs g ms := by
  have p : (nzs f ns).Perm (nzs g ms) := (List.perm_ext_iff_of_nodup (nzs_nodup nd) (nzs_nodup md)).mpr fun l => by rw [nzs_mem, nzs_mem]; exact h l
  exact p.eq_of_pairwise (fun _ _ _ _ h1 h2 => List.le_antisymm h1 h2) (nzs_pw f ns) (nzs_pw g ms)
/-- a new shift is handed out -/
def NewSh (C : Addr) (G H : Hp) (ms : List (List Nat)) (f : List Nat → Int) (Q : VK) : Prop := ∀ a G' H', Same G G' → Same G' H' → Same H H' → (∀ q o, H q = some o → G q = none → G' q = none) → IsShift C G' a ms f → Q (.ref a) H'
theorem NewSh.sees {C : Addr} {P : Pl} {G H : Hp} {ms : List (List Nat)} {f : List Nat → Int} {Q : VK} (hs : Sees P G H) (k : ∀ a G' H', Same G G' → Same H H' → (∀ q o, H q = some o → G q = none → G' q = none) → IsShift C G' a ms f → Sees P G' H' → Q (.ref a) H') : NewSh C G H ms f Q :=
  fun a G' H' s1 s2 s3 kp n => k a G' H' s1 s3 kp n (hs.grow s1 s2 s3 kp)
theorem NewSh.up {C : Addr} {G H H2 : Hp} {ms : List (List Nat)} {f : List Nat → Int} {Q : VK} (s : Same H H2) (k : NewSh C G H ms f Q) : NewSh C G H2 ms f Q :=
  fun a G' H' s1 s2 s3 kp it => k a G' H' s1 s2 (s.trans s3) (fun q o hq hG => kp q o (s _ _ hq) hG) it
section
variable {σ : L2.St} {H : Hp} {Q : VK} {K : PySem.W.Frag} {g : TG} {tt : TT} {te td : TE} {vs : List Nat} {d : Addr} {f : List Nat → V} {ns : List (List Nat)}
theorem wp_lcKeys (h : td σ H fun x H1 => ∃ d o, x = .ref d ∧ ((∃ kvs, H1 d = some (.frz o (.dK kvs)) ∧ LcW (Itk d o kvs) g tt te vs σ H1 Q) ∨ ∃ kvs, H1 d = some (.frz o (.dT kvs)) ∧ LcW (Itkt d o kvs) g tt te vs σ H1 Q)) : tLc (iKeys td) g tt te vs σ H Q := h
theorem lcKeysN {od : Obj} (σ0 : L2.St) (h : List Nat → V) (p : List Nat → Bool) (hw : wipe σ vs = σ0) (hf : H d = some (.frz od (.dK (dN f ns)))) (hn : ns.length ≤ 100000)
    (hs : ∀ (i : Nat) (l : List Nat) H2 (R : VK) (R0 : Hp → Prop), ns[i]? = some l → Same H H2 → (p l = true → ∀ H5, Same H2 H5 → R (h l) H5) → (p l = false → ∀ H5, Same H2 H5 → R0 H5) →
      g (.str (S l)) σ0 H2 fun σ2 H4 => wipe σ2 vs = σ0 ∧ tt σ2 H4 fun b H5 => if b = true then te σ2 H5 R else R0 H5)
    (hq : ∀ D H2, H D = none → Same H H2 → H2 D = some (.lst ((ns.filter p).map h)) → Q (.ref D) H2) : LcW (Itk d od (dN f ns)) g tt te vs σ H Q := by
  refine lcGen walk_keys (by rw [dN_len]; exact hn) (fun H' s => s _ _ hf) (fun i H2 x H3 y => by rw [y.1]; exact Same.refl _) (fun i => ((ns.take i).filter p).map h) rfl (fun i => by
    rw [List.length_map]
    exact Nat.le_trans (List.length_filter_le _ _) (by rw [List.length_take]; omega)) (fun i x H2 H3 R R0 _ s2 y k1 k0 => ?_) (fun D H2 hD s2 h2 => hq D H2 hD s2 (by rw [h2, dN_len, List.take_length]))
  obtain ⟨e, k, v, hk, rfl⟩ := y
  subst e
  obtain ⟨l, hl, rfl, rfl⟩ := dN_at hk
  rw [hw]
  have et := take_snoc hl
  refine hs i l _ R R0 hl s2 (fun hp H5 s5 => k1 _ _ s5 ?_) (fun hp H5 s5 => k0 _ s5 ?_)
  · rw [et, List.filter_append, List.map_append]
    simp [hp]
  · rw [et, List.filter_append, List.map_append]
    simp [hp]
/-- [.. for name in d ..] -/
theorem lock_lcN (σ0 : L2.St) (h : List Nat → V) (p : List Nat → Bool) (hw : wipe σ vs = σ0) (hd : H d = some (.dK (dN f ns))) (hn : ns.length ≤ 100000) (hv : ∀ od (R : VK), R (.ref d) (upd H d (.frz od (.dK (dN f ns)))) → td σ (upd H d (.frz od (.dK (dN f ns)))) R)
    (hs : ∀ (i : Nat) (l : List Nat) od H2 (R : VK) (R0 : Hp → Prop), ns[i]? = some l → Same (upd H d (.frz od (.dK (dN f ns)))) H2 → (p l = true → ∀ H5, Same H2 H5 → R (h l) H5) → (p l = false → ∀ H5, Same H2 H5 → R0 H5) →
      g (.str (S l)) σ0 H2 fun σ2 H4 => wipe σ2 vs = σ0 ∧ tt σ2 H4 fun b H5 => if b = true then te σ2 H5 R else R0 H5)
    (hq : ∀ D H2, H D = none → Same H H2 → H2 D = some (.lst ((ns.filter p).map h)) → Q (.ref D) H2) : tLockE (tLc (iKeys td) g tt te vs) σ H Q := by
  refine wp_lockE hd fun od => wp_lcKeys (hv od _ ⟨d, od, rfl, .inl ⟨_, upd_same, ?_⟩⟩)
  refine lcKeysN σ0 h p hw upd_same hn (fun i l H2 R R0 hl s k1 k0 => hs i l od H2 R R0 hl s k1 k0) (fun D H2 hD s h2 => ?_)
  have nD : D ≠ d := fun e => by rw [e, upd_same] at hD; cases hD
  rw [upd_ne nD] at hD
  exact ⟨s _ _ upd_same, hq D _ hD (unl hd s) (by rw [upd_ne nD]; exact h2)⟩
/-- x = [.. for name in d ..] -/
theorem lock_lcS {D0 : Ends} {j : Nat} (σ0 : L2.St) (h : List Nat → V) (p : List Nat → Bool) (hw : wipe σ vs = σ0) (hd : H d = some (.dK (dN f ns))) (hn : ns.length ≤ 100000) (hv : ∀ od (R : VK), R (.ref d) (upd H d (.frz od (.dK (dN f ns)))) → td σ (upd H d (.frz od (.dK (dN f ns)))) R)
    (hs : ∀ (i : Nat) (l : List Nat) od H2 (R : VK) (R0 : Hp → Prop), ns[i]? = some l → Same (upd H d (.frz od (.dK (dN f ns)))) H2 → (p l = true → ∀ H5, Same H2 H5 → R (h l) H5) → (p l = false → ∀ H5, Same H2 H5 → R0 H5) →
      g (.str (S l)) σ0 H2 fun σ2 H4 => wipe σ2 vs = σ0 ∧ tt σ2 H4 fun b H5 => if b = true then te σ2 H5 R else R0 H5)
    (hq : ∀ D H2, H D = none → Same H H2 → H2 D = some (.lst ((ns.filter p).map h)) → D0.nx (σ.set j (some (.ref D))) H2) : tLock (tAsg (tLc (iKeys td) g tt te vs) (gName j)) D0 σ H := by
  refine wp_lock hd fun od => ?_
  show tLc (iKeys td) g tt te vs σ (upd H d (.frz od (.dK (dN f ns)))) fun v H' => gName j v σ H' fun σ' H' => H' d = some (.frz od (.dK (dN f ns))) ∧ D0.nx σ' (upd H' d (.dK (dN f ns)))
  refine wp_lcKeys (hv od _ ⟨d, od, rfl, .inl ⟨_, upd_same, ?_⟩⟩)
  refine lcKeysN σ0 h p hw upd_same hn (fun i l H2 R R0 hl s k1 k0 => hs i l od H2 R R0 hl s k1 k0) (fun D H2 hD s h2 => ?_)
  have nD : D ≠ d := fun e => by rw [e, upd_same] at hD; cases hD
  rw [upd_ne nD] at hD
  exact ⟨s _ _ upd_same, hq D _ hD (unl hd s) (by rw [upd_ne nD]; exact h2)⟩
theorem wp_ckw {r : List V → List V → Hp → VK → Prop} {tl tk : TA} (h : tl σ H fun vs H1 => tk σ H1 fun zs H2 => r vs zs H2 Q) : tCKw r tl tk σ H Q := h
end
/-! #### dicts built in any order, names perhaps twice -/
def stepD (fm : (List Nat → Int) × List (List Nat)) (lv : List Nat × Int) : (List Nat → Int) × List (List Nat) := (fun x => if x = lv.1 then lv.2 else fm.1 x, if lv.1 ∈ fm.2 then fm.2 else fm.2 ++ [lv.1])
def bldD (ps : List (List Nat × Int)) : (List Nat → Int) × List (List Nat) := ps.foldl stepD (fun _ => 0, [])
theorem bldD_snoc (ps : List (List Nat × Int)) (p : List Nat × Int) : bldD (ps ++ [p]) = stepD (bldD ps) p := by unfold bldD; rw [List.foldl_append]; rfl
theorem putK_old {f : List Nat → Int} {l : List Nat} {v : Int} : ∀ {ns : List (List Nat)}, ns.Nodup → l ∈ ns → putK (mD f ns) (.inr (S l)) (.int v) = mD (fun x => if x = l then v else f x) ns := by
  intro ns nd hl
  unfold putK
  have e : ((mD f ns).any fun kv => decide (kv.1 = (.inr (S l) : Key))) = true := by
    rw [List.any_eq_true]
    exact ⟨(.inr (S l), .int (f l)), List.mem_map.mpr ⟨l, hl, rfl⟩, decide_eq_true rfl⟩
  rw [if_pos e]
  unfold mD dN
  rw [List.map_map]
  refine List.map_congr_left fun x _ => ?_
  show (if (Sum.inr (S x) : Key) = .inr (S l) then _ else _) = _
  by_cases h : x = l
  · subst h
    rw [if_pos rfl]
    show (Sum.inr (S x), V.int v) = (Sum.inr (S x), V.int (if x = x then v else f x))
    rw [if_pos rfl]
  · rw [if_neg (fun z => h (key_inj z))]
    show (Sum.inr (S x), V.int (f x)) = (Sum.inr (S x), V.int (if x = l then v else f x))
    rw [if_neg h]
theorem bldD_inv {lim : Nat} : ∀ (n : Nat) (ps : List (List Nat × Int)), ps.length = n → (bldD ps).2.Nodup ∧ (∀ l, l ∈ (bldD ps).2 ↔ l ∈ ps.map (·.1)) ∧ (bldD ps).2.length ≤ n ∧ ∀ l ∈ (bldD ps).2, (l, (bldD ps).1 l) ∈ ps
  | 0, ps, h => by
    rw [List.eq_nil_of_length_eq_zero h]
    exact ⟨List.nodup_nil, by simp [bldD], Nat.le_refl _, by simp [bldD]⟩
  | n + 1, ps, h => by
    obtain ⟨qs, p, rfl⟩ : ∃ qs p, ps = qs ++ [p] := ⟨ps.dropLast, ps.getLast (by intro e; rw [e] at h; cases h), (List.dropLast_concat_getLast _).symm⟩
    obtain ⟨h1, h2, h3, h4⟩ := bldD_inv (lim := lim) n qs (by simpa using h)
    rw [bldD_snoc]
    unfold stepD
    refine ⟨?_, fun l => ?_, ?_, fun l hl => ?_⟩
    · by_cases e : p.1 ∈ (bldD qs).2
      · simp only [e, if_true]; exact h1
      · simp only [e, if_false]
        exact List.nodup_append.mpr ⟨h1, by simp, fun a ha b hb hab => e (by rw [List.mem_singleton.mp hb] at hab; rw [← hab]; exact ha)⟩
    · rw [List.map_append, List.mem_append, ← h2]
      by_cases e : p.1 ∈ (bldD qs).2
      · simp only [e, if_true]
        exact ⟨.inl, fun z => z.elim id fun z => by rw [show l = p.1 by simpa using z]; exact e⟩
      · simp only [e, if_false]
        rw [List.mem_append]
        simp
    · by_cases e : p.1 ∈ (bldD qs).2
      · simp only [e, if_true]; omega
      · simp only [e, if_false, List.length_append, List.length_cons, List.length_nil]; omega
    · show (l, if l = p.1 then p.2 else (bldD qs).1 l) ∈ _
      by_cases e2 : l = p.1
      · rw [if_pos e2, e2]
        exact List.mem_append_right _ (List.mem_singleton.mpr rfl)
      · rw [if_neg e2]
        refine List.mem_append_left _ (h4 l ?_)
        have hl2 : l ∈ (if p.1 ∈ (bldD qs).2 then (bldD qs).2 else (bldD qs).2 ++ [p.1]) := hl
        by_cases e : p.1 ∈ (bldD qs).2
        · rw [if_pos e] at hl2; exact hl2
        · rw [if_neg e] at hl2
          rcases List.mem_append.mp hl2 with z | z
          · exact z
          · exact absurd (List.mem_singleton.mp z) e2
/-- names that are different: nothing is lost -/
theorem bldD_nodup : ∀ (n : Nat) (ns : List (List Nat)) (is : List Int), ns.length = n → is.length = n → ns.Nodup → (bldD (ns.zip is)).2 = ns ∧ ∀ l ∈ ns, (bldD (ns.zip is)).1 l = asg ns is l
  | 0, ns, is, h1, h2, _ => by
    rw [List.eq_nil_of_length_eq_zero h1]
    exact ⟨rfl, by simp⟩
  | n + 1, ns, is, h1, h2, nd => by
    obtain ⟨ms, m, rfl⟩ : ∃ qs p, ns = qs ++ [p] := ⟨ns.dropLast, ns.getLast (by intro e; rw [e] at h1; cases h1), (List.dropLast_concat_getLast _).symm⟩
    obtain ⟨js, j, rfl⟩ : ∃ qs p, is = qs ++ [p] := ⟨is.dropLast, is.getLast (by intro e; rw [e] at h2; cases h2), (List.dropLast_concat_getLast _).symm⟩
    have l1 : ms.length = n := by simpa using h1
    have l2 : js.length = n := by simpa using h2
    obtain ⟨d1, _, d3⟩ := List.nodup_append.mp nd
    have nm : m ∉ ms := fun h => d3 m h m (List.mem_singleton.mpr rfl) rfl
    obtain ⟨e1, e2⟩ := bldD_nodup n ms js l1 l2 d1
    rw [List.zip_append (by omega), show [m].zip [j] = [(m, j)] from rfl, bldD_snoc]
    unfold stepD
    simp only [e1, nm, if_false]
    refine ⟨by first | rfl | trivial, fun l hl => ?_⟩
    have at1 : ∀ k, (ms ++ [m])[k]? = some l → (js ++ [j])[k]? = some (asg (ms ++ [m]) (js ++ [j]) l) := fun k hk => by
      have hkl : k < (js ++ [j]).length := by
        have := (List.getElem?_eq_some_iff.mp hk).1
        simp at this ⊢; omega
      rw [asg_at nd hk (List.getElem?_eq_getElem hkl)]
      exact List.getElem?_eq_getElem hkl
    by_cases e : l = m
    · rw [if_pos e]
      have z := at1 ms.length (by rw [e, List.getElem?_append_right (Nat.le_refl _)]; simp)
      rw [l1, ← l2, List.getElem?_append_right (Nat.le_refl _)] at z
      simpa using z
    · rw [if_neg e]
      have hl2 : l ∈ ms := by
        rcases List.mem_append.mp hl with z | z
        · exact z
        · exact absurd (List.mem_singleton.mp z) e
      rw [e2 l hl2]
      obtain ⟨k, hk, ek⟩ := List.getElem_of_mem hl2
      have hk2 : ms[k]? = some l := by rw [← ek]; exact List.getElem?_eq_getElem hk
      have z := at1 k (by rw [List.getElem?_append_left hk]; exact hk2)
      rw [List.getElem?_append_left (by omega)] at z
      exact asg_at d1 hk2 z
theorem wp_neBl {a b : Bool} {H : Hp} {Q : VK} (h : Q (.bl (!decide (a = b))) H) : rNe (.bl a) (.bl b) H Q := ⟨rfl, by
  have e : decide (V.bl a = V.bl b) = decide (a = b) := by simp
  rw [e]; exact h⟩
/-- a thing that a call made is put at the list's end -/
theorem app_otG2 {P : Pl} {L : Addr} {G0 : Hp} {O : Hp → V → Prop} {n : Nat} {G H : Hp} {xs : List V} {x : V} {R : V → Hp → Prop} (h : OtG P L G0 O n G H xs) (hn : n ≤ 90) (hO : O G x) (k : ∀ ys H2, OtG P L G0 O (n + 1) G H2 ys → R .non H2) : rAppend (.ref L) [x] H R := by
  refine wp_append h.l.h (by have := h.n; omega) (k (xs ++ [x]) _ ⟨h.l.put, h.s, fun y hy => ?_, by have := h.n; simp; omega⟩)
  rcases List.mem_append.mp hy with e | e
  · exact h.o y e
  · rw [List.mem_singleton.mp e]; exact hO
end RM
namespace RM
open PySem PySem.Spec PyProof.Rows L2 ItX
/-! ### operators between two objects of one own class, -o, abs(o), k * o, *o in a list display -/
def rOwnO (C : Addr) (sp : Sp) : R2 := fun x y H Q => ∃ a dx fs b dy gs, x = .ref a ∧ y = .ref b ∧ H a = some (.ins C dx fs) ∧ H b = some (.ins C dy gs) ∧ sp [.ref a, .ref b] H (fun v H' => ∃ c, v = .ref c ∧ Q v H') E0
section
variable {X : Cx} {n : Nat} {C : Addr} {sp : Sp} {op : Operator} {nm : Str}
theorem op_ownO (S : Spc X.prog X.w X.K X.mg X.base n C nm sp) (hsf : PySem.W.selfFirst X.K C = true) (hr : Room n X.A) (e1 : PySem.dunder op.info.2 = nm := by decide +kernel) : OpR X (binaryOp op) (rOwnO C sp) := by
  obtain ⟨f, fd, ps, hs, hf, F, hb⟩ := S.ex
  intro pins s σ H x y v u Q I rx ry h
  obtain ⟨a, dx, fs, b, dy, gs, rfl, rfl, ha, hb2, h⟩ := h
  cases rx
  cases ry
  obtain ⟨od, J⟩ := inst_of I ha
  obtain ⟨od2, J2⟩ := inst_of I hb2
  obtain ⟨m, hF⟩ := I.fr
  refine PySem.W.binop_K hF I.ok.mod.kin J J2.type hsf (by rw [e1]; exact hs) hf ?_
  refine wpAny_mono (run_at (us := [.ref a, .ref b]) (vs := [.ref a, .ref b]) ⟨hr, rfl⟩ F hb I (.cons rfl (.cons rfl .nil)) h) (fun v s' hv => ?_) fun _ _ e => e
  obtain ⟨z, H', I', rz, c, rfl, q⟩ := hv
  cases rz
  exact ⟨.ref c, H', I', rfl, q⟩
end
/-! #### the items of an own object that iterates over its dict -/
section
variable {X : Cx} {pins : List (Addr × Obj)} {σ : L2.St} {H : Hp} {s : Shared} {n : Nat} {A : Around} {f C it q d : Addr} {o : Obj} {i m : Nat} {kvs : List (Key × V)} {es : Array DictEntry} {ep : Nat}
theorem it_loopKr {Rs : Result → Shared → Prop} (hod : o.data = .dict es ep) (hh : A.in1.handled = none) (hz : kvs.length < 100000) (hdq : d ≠ q) (hiq : it ≠ q)
    (hdone : ∀ H' s', Inv X pins σ H' s' → (∀ b o, b ≠ q → H b = some o → H' b = some o) → H' q = some (.lst (kvs.map fun kv => kV kv.1)) → Rs (.ok (.ret (.ref q))) s') :
    ∀ (m i : Nat) (H' : Hp) (s : Shared), kvs.length - i = m → i ≤ kvs.length → Inv X pins σ H' s → (∀ b o, b ≠ q → H b = some o → H' b = some o) → H' d = some (.frz o (.dK kvs)) → FpOk X pins H' it → s.heap.IsKeyIter it d i kvs.length ep → H' q = some (.lst ((kvs.map fun kv => kV kv.1).take i)) →
      codeAny (model X.prog X.w) A (.builtin "list.extend.loop" ⟨[.ref q, .ref it, .ref q], []⟩) Rs s := by
  have el : (kvs.map fun kv => kV kv.1).length = kvs.length := List.length_map ..
  intro m
  induction m with
  | zero =>
    intro i H' s hm hi I hk hl hf st hq
    have ei : i = kvs.length := by omega
    obtain ⟨f0, f1, f2, f3, f4, f5⟩ := hf
    refine codeAny_builtin PySem.F.entry_extend_loop ?_
    rw [Around.under_plainId PySem.F.plain_extend_loop _]
    show wpAny _ A.in1 (pyNext (.ref it) >>= _) _ _ s
    obtain ⟨hs, hgd, hx, es', ep', vs, hdt, hsz, kv, hm⟩ := I.frzK hl
    obtain ⟨rfl, rfl⟩ := dict_ep hod hdt
    refine wpAny_bind (next_key_end hh st hgd hdt hsz (by omega) fun h' eb => ?_)
    refine wpAny_pure ?_
    have I2 := I.turned (t' := s.toks) (fun b ob hb e => eb b ob hb e) f0 f1 f3 f4 f5
    refine hdone _ _ I2 hk ?_
    rw [hq, ei, ← el, List.take_length]
  | succ m ih =>
    intro i H' s hm hi I hk hl hf st hq
    have hlt : i < kvs.length := by omega
    have ⟨f0, f1, f2, f3, f4, f5⟩ := hf
    refine codeAny_builtin PySem.F.entry_extend_loop ?_
    rw [Around.under_plainId PySem.F.plain_extend_loop _]
    show wpAny _ A.in1 (pyNext (.ref it) >>= _) _ _ s
    obtain ⟨hs, hgd, hx, es', ep', vs, hdt, hsz, kv, hm⟩ := I.frzK hl
    obtain ⟨rfl, rfl⟩ := dict_ep hod hdt
    obtain ⟨⟨k, v⟩, hkv⟩ : ∃ p, kvs[i]? = some p := ⟨kvs[i], List.getElem?_eq_getElem hlt⟩
    obtain ⟨u, hu, ru⟩ := kv_get kv hkv
    have hl2 : kvs.length = vs.length := Paired.length kv
    refine wpAny_bind (wpAny_pyNext_dict_item (by rw [hl2] at st; exact st) hm hu fun key h' hkey st' sb => ?_)
    have I2 : Inv X pins σ H' { s with heap := h' } := I.turned (t' := s.toks) (fun b ob hb e => (sb.2 b hb).trans e) f0 f1 f3 f4 f5
    show wpAny _ A.in1 (updateSeq q (·.push key) >>= _) _ _ _
    obtain ⟨z, its2, k2, r2, hl3, e2⟩ := I2.lstM hq
    have hz2 : its2.length = i := by rw [← hl3, List.length_take, el]; omega
    refine wpAny_bind (wpAny_updateSeq e2 rfl (wpAny_pure ⟨plainId_quiet PySem.F.plain_extend_loop _, ?_⟩) (by rw [List.size_toArray, hz2]; exact Nat.le_trans (Nat.le_of_lt hlt) (szl (by omega))) (by show (its2.toArray.push key).size ≤ sizeLine + 1; rw [Array.size_push, List.size_toArray, hz2]; exact Nat.succ_le_succ (szl (by omega))))
    have I3 := I2.lset (f := (·.push key)) (its' := its2 ++ [key]) (ys := (kvs.map fun kv => kV kv.1).take i ++ [kV k]) (t' := s.toks) hq e2 (by simp) (r2.append (.cons (relV_key (show keyIs k key = true from hkey)) .nil)) (by rw [List.length_append, List.length_take, el]; exact szl (by show _ + 1 ≤ _; omega))
    refine ih (i + 1) _ _ (by omega) hlt I3 (fun b o h1 e => by rw [upd_ne h1]; exact hk b o h1 e) (by rw [upd_ne hdq]; exact hl) (fpUpd hf hiq) ?_ ?_
    · rw [hl2]
      exact st'.at fun ob e => (Heap.get?_update_other _ _ (Ne.symm hiq)).trans e
    · rw [upd_same]
      have e3 : (kvs.map fun kv => kV kv.1)[i]? = some (kV k) := by rw [List.getElem?_map, hkv]; rfl
      rw [List.take_succ, e3]
      rfl
/-- what * asks of such an object -/
def StOwn (C : Addr) (F : Str) (spL : Sp) (x : V) (H : Hp) (R : List V → Hp → Prop) : Prop := ∃ a dx fs d kvs, x = .ref a ∧ H a = some (.ins C dx fs) ∧ fs.lookup F = some (.ref d) ∧ H d = some (.dK kvs) ∧ kvs.length < 100000 ∧
  (∀ od H1 (R : VK), Same (upd H d (.frz od (.dK kvs))) H1 → (∀ k : Int, 0 ≤ k → k < 100000 → R (.int k) H1) → spL [.ref a] H1 R E0) ∧ ∀ H', Same H H' → R (kvs.map fun kv => kV kv.1) H'
theorem star_own {F : Str} {spL : Sp} {x : V} {v : Value} {E : Value → Shared → Prop} {R : List V → Hp → Prop} {Q : List Value → Shared → Prop} (SI : ItrN X.prog X.w X.K X.mg X.base n C (spYoungK C F)) (SL : Spc X.prog X.w X.K X.mg X.base n C "__len__" spL) (hr : Room (n + 2) X.A)
    (I : Inv X pins σ H s) (rx : RelV x v) (h : StOwn C F spL x H R) (hQ : ∀ us xs H' s', Inv X pins σ H' s' → Vals xs us → R xs H' → Q us s') : PySem.W.StarOf (model X.prog X.w) X.A E v Q s := by
  obtain ⟨fI, fdI, psI, hsI, hfI, FI, bI⟩ := SI.ex
  obtain ⟨fL, fdL, psL, hsL, hfL, FL, bL⟩ := SL.ex
  obtain ⟨a, dx, fs, d, kvs, rfl, ha, lk, hd0, hz, hL, h⟩ := h
  cases rx
  obtain ⟨o, I0⟩ := I.lock hd0 True.intro
  have hnf := I.nofrz hd0 True.intro
  have nad : a ≠ d := fun z => by rw [z, hd0] at ha; cases ha
  have ha0 : upd H d (.frz o (.dK kvs)) a = some (.ins C dx fs) := (upd_ne nad).trans ha
  have hd : upd H d (.frz o (.dK kvs)) d = some (.frz o (.dK kvs)) := upd_same
  have sb : Sub X (n + 1) X.A.in1 := Sub.in1 (⟨hr, rfl⟩ : Sub X (n + 2) X.A)
  obtain ⟨odz, Jz⟩ := inst_of I0 ha0
  unfold PySem.W.StarOf notIterableAtAll
  refine wpAny_bind (wpAny_bind (Jz.type.here ((PySem.W.looks_findIn I0.kIn hsI).here ?_)))
  refine wpAny_pure ⟨rfl, ?_⟩
  have fr : upd H d (.frz o (.dK kvs)) s.heap.objs.size = none := I0.hok.fresh (Nat.le_refl _)
  have sH0 : ∀ H3, Same (upd H d (.frz o (.dK kvs))) H3 → Same H (upd H3 d (.dK kvs)) := fun H3 z => unl hd0 z
  unfold collect
  refine wpAny_bind (wpAny_runValue (codeAny_builtin PySem.F.entry_proto_collect ?_))
  rw [Around.under_plainId PySem.F.plain_proto_collect _]
  show wpAny _ X.A.in1 (newList [] >>= fun l => again (.builtin "list.__iadd__" ⟨[l, .ref a], []⟩)) _ _ s
  refine wpAny_bind (wpAny_newObj_type ?_)
  refine wpAny_pure ⟨plainId_quiet PySem.F.plain_list_iadd _, codeAny_builtin PySem.F.entry_list_iadd ?_⟩
  rw [Around.under_plainId PySem.F.plain_list_iadd _]
  have hL := hL o
  generalize hH0 : upd H d (.frz o (.dK kvs)) = H0 at I0 ha0 hd hL fr sH0
  have hd' := hd
  generalize hqe : s.heap.objs.size = q at *
  have I1 : Inv X pins σ (upd H0 q (.lst [])) { s with heap := s.heap.push { cls := .type "list", data := .seq ([] : List Value).toArray } } := by
    have z := I0.lnew (its := []) (ys := []) (t' := s.toks) .nil (Nat.zero_le _)
    rw [hqe] at z
    exact z
  have sHq : Same H0 (upd H0 q (.lst [])) := Same.new fr
  have ha2 : upd H0 q (.lst []) a = some (.ins C dx fs) := sHq _ _ ha0
  have hd2 : upd H0 q (.lst []) d = some (.frz o (.dK kvs)) := sHq _ _ hd'
  have hne : q ≠ a := ne_of (H := upd H0 q (.lst [])) upd_same ha2 (fun z => nomatch z)
  have hdq : d ≠ q := ne_of_none hd' fr
  obtain ⟨od, J⟩ := inst_of I1 ha2
  obtain ⟨m0, hF⟩ := I1.fr
  show wpAny _ X.A.in1 (Builtin.List.listExtendWith (.ref q) (.ref a) (.ref q)) _ _ _
  unfold Builtin.List.listExtendWith
  refine wpAny_bind (J.type.here ?_)
  have h1 : Builtin.List.listSameRef (.ref q) (.ref a) = false := by simp [Builtin.List.listSameRef, hne]
  have h2 : (Value.ref C == Value.type "list") = false := rfl
  have h3 : (Value.ref C == Value.type "tuple") = false := rfl
  simp only [h1, h2, h3, Bool.or_false, Bool.false_eq_true, if_false]
  refine wpAny_bind (PySem.W.owit_iter hF I1.ok.mod.kin J hsI hfI ?_)
  have I2s := I1.sz
  refine wpAny_mono (run_young (us := [.ref a]) (vs := [.ref a]) (Q := fun v H2 => ∃ it, v = .ref it ∧ upd H0 q (.lst []) it = none ∧ X.s_0.heap.objs.size ≤ it ∧ H2 = upd (upd H0 q (.lst [])) it (KeyIt d o kvs.length it)) (sb.mono (Nat.le_succ _)) FI bI I1 (.cons rfl .nil) ⟨a, dx, fs, d, o, kvs, rfl, ha2, lk, hd2, fun it h1 h2 => ⟨it, rfl, h1, Nat.le_trans I2s h2, rfl⟩⟩) (fun u s' hu => ?_) (fun _ _ e => e)
  obtain ⟨v, H2, I3, rv3, it, rfl, hn, hle, rfl⟩ := hu
  cases rv3
  have hi' : upd (upd H0 q (.lst [])) it (KeyIt d o kvs.length it) it = some (KeyIt d o kvs.length it) := upd_same
  have hok := I3.hok it _ hi'
  obtain ⟨es, ep, hdt, ki⟩ := hok.1
  have hT : s'.TypeIs (.ref it) "dict_keyiterator" := ki.typeIs
  unfold PySem.W.OwitIt
  show wpAny _ _ (typeOf (.ref it) >>= fun t => typeLookup t "__next__") _ _ _
  refine wpAny_bind (wpAny_typeOf hT (wpAny_of_eq PySem.F.slot_dict_keyiterator_next.lookup ?_))
  show wpAny _ _ _ _ _ _
  have fp := inv_fp I3 hi' hle
  unfold KeyIt at hi'
  have I4 := inv_drop I3 hi'
  rw [dropH_upd' hn] at I4 fp
  have niq : it ≠ q := fun e => by rw [e, upd_same] at hn; cases hn
  obtain ⟨od', J'⟩ := inst_of I4 ha2
  obtain ⟨m1, hF'⟩ := I4.fr
  refine wpAny_bind (wpAny_holding ?_)
  unfold Builtin.List.listLengthHint
  refine wpAny_bind (wpAny_bind (J'.type.here ((PySem.W.looks_findIn I4.kIn hsL).here ?_)))
  refine PySem.W.KFB.if_not rfl ?_
  refine PySem.W.KFB.if_so rfl ?_
  refine wpAny_bind (wpAny_rule (wpAny_bind (wpAny_attempt ?_)))
  refine PySem.W.len_K hF' I4.ok.mod.kin J' hsL hfL ?_
  have I5p := I4.pinned (fun b hb => by rw [List.mem_singleton.mp hb]; exact fp : ∀ b ∈ [it], FpOk X pins (upd H0 q (.lst [])) b) (fun b hb => by
    rw [List.mem_singleton.mp hb]
    obtain ⟨oi, e, c, dd⟩ := ki
    exact ⟨oi, e, fun v z => by rw [dd] at z; cases z⟩)
  have ki4 := ki
  refine wpAny_mono (run_at (E' := fun _ _ => False) (us := [.ref a]) (vs := [.ref a]) (Q := fun v H2 => ∃ k : Int, v = .int k ∧ 0 ≤ k ∧ k < 100000 ∧ H2 = upd H0 q (.lst [])) sb.in1 FL bL I5p (.cons rfl .nil) (hL _ _ sHq fun k k0 k1 => ⟨k, rfl, k0, k1, rfl⟩)) (fun u s2 hu => ?_) fun _ _ e => e.elim
  obtain ⟨v2, H2, I6p, rv4, k, rfl, k0, k1, rfl⟩ := hu
  obtain ⟨tk, rfl⟩ := rv4
  refine ⟨⟨k0, by omega⟩, ?_⟩
  have ki6 : s2.heap.IsKeyIter it d 0 kvs.length ep := ki4.at fun ob e => (I6p.pin (it, ob) (List.mem_append_right _ (List.mem_append_right _ (mem_pinsAt (List.mem_singleton.mpr rfl) e)))).1
  have I6 := I6p.unpinned.tok (s2.toks + 1)
  refine wpAny_bind (wpAny_of_eq (a := some k) rfl ?_)
  refine PySem.W.KFB.if_not (notLongL (szl (by omega))) ?_
  refine wpAny_pure ?_
  have fin : ∀ (Rs : Result → Shared → Prop) (s3 : Shared), (∀ H3 s4, Inv X pins σ H3 s4 → (∀ b o, b ≠ q → upd H0 q (.lst []) b = some o → H3 b = some o) → H3 q = some (.lst (kvs.map fun kv => kV kv.1)) → Rs (.ok (.ret (.ref q))) s4) → Inv X pins σ (upd H0 q (.lst [])) s3 → s3.heap.IsKeyIter it d 0 kvs.length ep → codeAny (model X.prog X.w) X.A (.builtin "list.extend.loop" ⟨[.ref q, .ref it, .ref q], []⟩) Rs s3 := fun Rs s3 hR I7 st =>
    it_loopKr (A := X.A) (H := upd H0 q (.lst [])) hdt hr.hd hz hdq niq hR kvs.length 0 _ s3 rfl (Nat.zero_le _) I7 (fun _ _ _ e => e) hd2 fp st upd_same
  have own : ∀ (H3 : Hp) (s4 : Shared) (its : List Value), Inv X pins σ H3 s4 → (∀ b o, b ≠ q → upd H0 q (.lst []) b = some o → H3 b = some o) → Vals (kvs.map fun kv => kV kv.1) its → Q its.toArray.toList s4 := fun H3 s4 its I8 hk3 r9 => by
    have sH3 : Same H0 H3 := fun b ob e => hk3 b ob (ne_of_none e fr) (sHq _ _ e)
    rw [show its.toArray.toList = its by simp]
    exact hQ _ _ _ _ (I8.unlock (sH3 _ _ hd') hnf) r9 (h _ (sH0 _ sH3))
  refine wpAny_ite_split (fun _ => ?_) (fun _ => wpAny_pure ⟨plainId_quiet PySem.F.plain_extend_loop _, fin _ _ (fun H3 s4 I8 hk3 hq3 => ?_) I6 ki6⟩)
  rotate_left
  · obtain ⟨z, its, k9, r9, hl9, e9⟩ := I8.lstM hq3
    show wpAny _ X.A (load q >>= _) Q E s4
    exact wpAny_bind (wpAny_load e9 (wpAny_pure (own _ _ _ I8 hk3 r9)))
  obtain ⟨z, its, k3, r3, hl3, e3⟩ := I6.lstM upd_same
  cases r3
  refine wpAny_bind (wpAny_rule ?_)
  refine wpAny_bind ?_
  show wpAny _ _ (updateSeq q (·.push .none) >>= fun _ => updateSeq q (·.pop)) _ _ _
  refine wpAny_bind (wpAny_updateSeq e3 rfl ?_)
  have I7 := I6.lset (f := (·.push Value.none)) (its' := [Value.none]) (ys := [.non]) (t' := s2.toks + 1) upd_same e3 (by simp) (.cons rfl .nil) (by rw [List.length_singleton, sizeLine_eq]; decide)
  obtain ⟨z4, its4, k4, r4, hl4, e4⟩ := I7.lstM upd_same
  obtain ⟨u4, rfl, ru4⟩ := r4.one
  refine wpAny_updateSeq e4 rfl ?_ (by show 1 ≤ sizeLine; rw [sizeLine_eq]; decide) (by show 0 ≤ sizeLine + 1; exact Nat.zero_le _)
  refine wpAny_pure ⟨plainId_quiet PySem.F.plain_extend_loop _, fin _ _ (fun H3 s4 I8 hk3 hq3 => ?_) ?_ ?_⟩
  · obtain ⟨z, its, k9, r9, hl9, e9⟩ := I8.lstM hq3
    show wpAny _ X.A (load q >>= _) Q E s4
    exact wpAny_bind (wpAny_load e9 (wpAny_pure (own _ _ _ I8 hk3 r9)))
  · have I8 := I7.lset (f := (·.pop)) (its := [u4]) (its' := []) (ys := []) (t' := s2.toks + 1) upd_same e4 (by rfl) .nil (Nat.zero_le _)
    rw [upd_upd, upd_upd] at I8
    exact I8
  · exact (ki6.at fun ob e => (Heap.get?_update_other _ _ (Ne.symm niq)).trans e).at fun ob e => (Heap.get?_update_other _ _ (Ne.symm niq)).trans e
end
/-- *o in a display or a call, o an object that iterates over its dict -/
def tStarO (C : Addr) (F : Str) (spL : Sp) (te : TE) (t : TA) : TA := fun σ H Q => te σ H fun x H1 => StOwn C F spL x H1 fun xs H2 => t σ H2 fun ys H3 => Q (xs ++ ys) H3
section
variable {X : Cx} {n : Nat} {C : Addr} {F : Str} {spL : Sp} {e : Expr} {es : List Expr} {te : TE} {t : TA} {p : Pos}
theorem pa_starOwn (SI : ItrN X.prog X.w X.K X.mg X.base n C (spYoungK C F)) (SL : Spc X.prog X.w X.K X.mg X.base n C "__len__" spL) (hr : Room (n + 2) X.A) (he : PE X e te) (ha : PA X es t)
    (hs : starEach (.Starred e p :: es) X.env = (true, eval e X.env) :: starEach es X.env := by rfl) : PA X (.Starred e p :: es) (tStarO C F spL te t) := by
  refine ⟨fun pos pins s σ H Q I h => ?_⟩
  refine PySem.W.items_star (thn (he.run pins s σ H _ I h) fun v s1 ⟨y, H1, I1, ry, st⟩ => ?_) hs
  refine star_own SI SL hr I1 ry st fun us xs H2 s2 I2 rv q => ?_
  exact thn (ha.run pos pins s2 σ H2 _ I2 q) fun ws s3 ⟨vs, H3, I3, r3, q3⟩ => ⟨xs ++ vs, H3, I3, rv.append r3, q3⟩
end
/-- -o -/
def rNegO (C : Addr) (sp : Sp) : V → Hp → VK → Prop := fun x H Q => ∃ a dx fs, x = .ref a ∧ H a = some (.ins C dx fs) ∧ sp [.ref a] H Q E0
section
variable {X : Cx} {n : Nat} {C : Addr} {sp : Sp}
theorem op_negO (S : Spc X.prog X.w X.K X.mg X.base n C "__neg__" sp) (hr : Room n X.A) : UnR X (unaryOp .USub) (rNegO C sp) := by
  obtain ⟨f, fd, ps, hs, hf, F, hb⟩ := S.ex
  intro pins s σ H x v Q I rx h
  obtain ⟨a, dx, fs, rfl, ha, h⟩ := h
  cases rx
  obtain ⟨od, J⟩ := inst_of I ha
  obtain ⟨m, hF⟩ := I.fr
  refine PySem.W.ksp_neg hF I.ok.mod.kin J hs hf ?_
  exact run_at (us := [.ref a]) (vs := [.ref a]) ⟨hr, rfl⟩ F hb I (.cons rfl .nil) h
end
/-- abs(o) -/
def rAbsO (C : Addr) (sp : Sp) : List V → Hp → VK → Prop := fun xs H Q => ∃ a dx fs, xs = [.ref a] ∧ H a = some (.ins C dx fs) ∧ sp [.ref a] H Q E0
section
variable {X : Cx} {n : Nat} {C : Addr} {sp : Sp}
theorem call_absO (S : Spc X.prog X.w X.K X.mg X.base n C "__abs__" sp) (hr : Room (n + 1) X.A) : CallR X (.builtin "abs") (rAbsO C sp) := by
  obtain ⟨f, fd, ps, hs, hf, F, hb⟩ := S.ex
  intro pins s σ H xs us Q I r h
  obtain ⟨a, dx, fs, rfl, ha, h⟩ := h
  obtain ⟨u, rfl, ru⟩ := r.one
  cases ru
  obtain ⟨od, J⟩ := inst_of I ha
  refine PySem.Calls.call_function_entry kind_abs plain_abs entry_abs (args_abs _) ?_
  unfold Builtin.«abs»
  refine wpAny_bind (m := oneArg "abs" _) (wpAny_pure ?_)
  refine wpAny_bind (m := callSpecial? (.ref a) (Str.ofString "__abs__")) (PySem.W.special_fn I.kIn J hs (beq_iff_eq.mp hf) (wpAny_mono (run_at (us := [.ref a]) (vs := [.ref a]) (Sub.in1 ⟨hr, rfl⟩) F hb I (.cons rfl .nil) h) (fun v s' hv => ?_) fun _ _ e => e))
  exact wpAny_pure ⟨_, rfl, hv⟩
end
end RM
namespace RM
open PySem PySem.Spec PyProof.Rows L2
/-! ### o[k], the class's own __getitem__, which may raise -/
structure SpcGX (P : Program) (w : World) (K : PySem.W.Frag) (mg : Str → Option Value) (base : Heap) (n : Nat) (C : Addr) (sp : Sp) : Prop where
  ex : ∃ (f : Addr) (fd : FuncData) (ps : List Str), PySem.W.findIn K (.ref C) "__getitem__" = some (some (.ref f)) ∧ PySem.W.isFn K (.ref f) = true ∧ PySem.W.fnIn K f = true ∧ FnOk P w K mg base (L2.CX P w) n f fd ps sp ∧ Binds K fd ps []
section
variable {X : Cx} {CX : CXT} {pins : List (Addr × Obj)} {σ : L2.St} {H : Hp} {s : Shared} {n : Nat} {A : Around} {f C : Addr} {fd : FuncData} {ps : List Str} {sp : Sp} {E : XK}
/-- a def that may raise, run somewhere below the body -/
theorem run_atX (sb : Sub X n A) (F : FnOk X.prog X.w X.K X.mg X.base CX n f fd ps sp) (hb : Binds X.K fd ps []) (hx : Passes CX X E) (I : Inv X pins σ H s) {us : List Value} {vs : List V} {Q : VK} (r : Vals vs us) (h : sp vs H Q E) :
    wpAny (model X.prog X.w) A (call (.ref f) us) (EP X pins σ Q) X.xe s := by
  have e0 : Env0 X.prog X.w X.K X.mg X.base A X.stack s H := by
    have e := I.env0
    exact ⟨by rw [sb.fr]; exact e.frames, e.mod, e.bs, e.bsz, e.funs, e.frf, e.hok, e.bare⟩
  have hl := F.len _ _ _ _ h
  have hl2 : (us ++ ([] : List Value)).length = ps.length := by rw [List.append_nil, ← r.length]; exact hl
  have bt := hb s us I.kIn hl2
  rw [List.append_nil] at bt
  refine wpAny_call (codeAny_mono (F.run A X.stack s H ⟨us, []⟩ us vs Q E sb.room e0 bt r h) fun r s' hq => ?_)
  cases r with
  | error e => exact hx pins σ H s e s' I hq
  | ok fl =>
    cases fl with
    | ret u => exact I.after hq
    | next => exact False.elim hq
    | brk => exact False.elim hq
    | cont => exact False.elim hq
def tSubOwnX (C : Addr) (sp : Sp) (E : XK) (ta ti : TE) : TE := fun σ H Q => ta σ H fun x H1 => ti σ H1 fun y H2 => ∃ a dx fs, x = .ref a ∧ H2 a = some (.ins C dx fs) ∧ sp [.ref a, y] H2 Q E
end
section
variable {X : Cx} {o i : Expr} {pos : Pos} {ta ti : TE} {C : Addr} {n j : Nat} {sp : Sp} {E : XK}
theorem pe_subOwnX (S : SpcGX X.prog X.w X.K X.mg X.base n C sp) (hr : Room j X.A) (hk : n + 1 ≤ j) (hx : Passes (L2.CX X.prog X.w) X E) (ho : PE X o ta) (hi : PE X i ti)
    (hsl : ∀ (a : Addr) (v : Value), subscripted i true (.ref a) v = runValue (.builtin "lifetime.subscript" ⟨[.ref a, v], []⟩)) : PE X (.Subscript o i pos) (tSubOwnX C sp E ta ti) := by
  obtain ⟨f, fd, ps, hs, hf, hin, F, hb⟩ := S.ex
  refine ⟨fun pins s σ H Q I h => ?_⟩
  refine Subscript_ (thn (ho.run pins s σ H _ I h) fun u s1 ⟨x, H1, I1, rx, q1⟩ => thn (hi.run pins s1 σ H1 _ I1 q1) fun iv s2 ⟨y, H2, I2, ry, a, dx, fs, ex, ea, q2⟩ => ?_)
  subst ex
  obtain rfl : u = Value.ref a := rx
  obtain ⟨od, J⟩ := inst_of I2 ea
  obtain ⟨m, hF⟩ := I2.fr
  refine PySem.W.sub_K hF I2.ok.mod.kin J hs hin hf ?_ (hsl a iv)
  exact run_atX (us := [.ref a, iv]) (vs := [.ref a, y]) (Sub.in1 ⟨hr.mono hk, rfl⟩) F hb hx I2 (.cons rfl (.cons ry .nil)) q2
end
section
variable {σ : L2.St} {H : Hp} {Q : VK} {ta ti : TE} {C : Addr} {sp : Sp} {E : XK}
theorem wp_subOwnX (h : ta σ H fun x H1 => ti σ H1 fun y H2 => ∃ a dx fs, x = .ref a ∧ H2 a = some (.ins C dx fs) ∧ sp [.ref a, y] H2 Q E) : tSubOwnX C sp E ta ti σ H Q := h
end
end RM
namespace RM
open PySem PySem.Spec PyProof.Rows L2 ItX
/-! ### o OP k that may raise; k * o by the reflected method -/
structure SpcIX (P : Program) (w : World) (K : PySem.W.Frag) (mg : Str → Option Value) (base : Heap) (n : Nat) (C : Addr) (op : Operator) (sp : Sp) : Prop where
  ex : ∃ (f : Addr) (fd : FuncData) (ps : List Str) (fo ro rc : Option Value), PySem.W.selfFirst K C = true ∧ PySem.W.findIn K (.ref C) (PySem.dunder op.info.2) = some (some (.ref f)) ∧ PySem.W.isFn K (.ref f) = true ∧
    PySem.W.findIn K (.ref C) (dunderR op.info.2) = some rc ∧ (rc = none ∨ ∃ g : Addr, rc = some (.ref g)) ∧ PySem.W.findIn K (.type "int") (PySem.dunder op.info.2) = some fo ∧ PySem.W.findIn K (.type "int") (dunderR op.info.2) = some ro ∧
    PySem.W.subIn K (.type "int") (.ref C) = some false ∧ FnOk P w K mg base (L2.CX P w) n f fd ps sp ∧ Binds K fd ps []
theorem SpcIX.of {P : Program} {w : World} {K : PySem.W.Frag} {mg : Str → Option Value} {base : Heap} {n : Nat} {op : Operator} {sp : Sp} {x nm rn : Str} {f : Addr} {fd : FuncData} {ps : List Str} (b : bBinI x nm rn K = true) (m : Meth K (He.ga K x) nm f)
    (F : FnOk P w K mg base (L2.CX P w) n f fd ps sp) (hb : Binds K fd ps []) (e1 : PySem.dunder op.info.2 = nm := by decide +kernel) (e2 : dunderR op.info.2 = rn := by decide +kernel) : SpcIX P w K mg base n (He.ga K x) op sp := by
  obtain ⟨b1, b⟩ := He.ba b
  obtain ⟨b2, b⟩ := He.ba b
  obtain ⟨b3, b⟩ := He.ba b
  obtain ⟨b4, b5⟩ := He.ba b
  obtain ⟨rc, h1, h2⟩ := okR_ok b2
  obtain ⟨fo, h3⟩ := Option.isSome_iff_exists.mp b3
  obtain ⟨ro, h4⟩ := Option.isSome_iff_exists.mp b4
  exact ⟨f, fd, ps, fo, ro, rc, b1, by rw [e1]; exact m.at_, m.fn, by rw [e2]; exact h1, h2, by rw [e1]; exact h3, by rw [e2]; exact h4, of_decide_eq_true b5, F, hb⟩
def tOwnIX (C : Addr) (sp : Sp) (E : XK) (ta tb : TE) : TE := fun σ H Q => ta σ H fun x H1 => tb σ H1 fun y H2 => ∃ a dx fs i, x = .ref a ∧ y = .int i ∧ H2 a = some (.ins C dx fs) ∧ sp [.ref a, .int i] H2 (fun v H' => ∃ b, v = .ref b ∧ Q v H') E
def tOwnIS (C : Addr) (sp : Sp) (E : L2.St → XK) (ta tb : TE) : TE := fun σ H Q => ta σ H fun x H1 => tb σ H1 fun y H2 => ∃ a dx fs i, x = .ref a ∧ y = .int i ∧ H2 a = some (.ins C dx fs) ∧ sp [.ref a, .int i] H2 (fun v H' => ∃ b, v = .ref b ∧ Q v H') (E σ)
section
variable {X : Cx} {a b : Expr} {pos : Pos} {ta tb : TE} {C : Addr} {n j : Nat} {sp : Sp} {E : XK} {W : WX} {op : Operator}
theorem pe_ownIX (S : SpcIX X.prog X.w X.K X.mg X.base n C op sp) (hr : Room j X.A) (hk : n ≤ j) (hx : Passes (L2.CX X.prog X.w) X E) (ha : PE X a ta) (hb : PE X b tb) : PE X (.BinOp a op b pos) (tOwnIX C sp E ta tb) := by
  obtain ⟨f, fd, ps, fo, ro, rc, k1, k2, k3, k4, k5, k6, k7, k8, F, hbd⟩ := S.ex
  refine ⟨fun pins s σ H Q I h => wpAny_BinOp (binT ha hb I h fun v u s2 x y H2 I2 rx ry q => ?_)⟩
  obtain ⟨a, dx, fs, i, rfl, rfl, hA, q⟩ := q
  cases rx
  obtain ⟨t, rfl⟩ := ry
  obtain ⟨od, J⟩ := inst_of I2 hA
  obtain ⟨m, hF⟩ := I2.fr
  refine PySem.W.ksp_binT (T := "int") hF I2.ok.mod.kin J rfl k1 k2 k3 k4 k5 k6 k7 k8 ?_
  refine wpAny_mono (run_atX (us := [.ref a, .int i t]) (vs := [.ref a, .int i]) (⟨hr.mono hk, rfl⟩ : Sub X n X.A) F hbd hx I2 (.cons rfl (.cons ⟨t, rfl⟩ .nil)) q) (fun v s' hv => ?_) fun _ _ e => e
  obtain ⟨z, H', I', rz, b, rfl, q⟩ := hv
  cases rz
  exact ⟨.ref b, H', I', rfl, q⟩
theorem pe_ownIS (S : SpcIX X.prog X.w X.K X.mg X.base n C op sp) (hr : Room j X.A) (hk : n ≤ j) (tk : Takes X W) (ha : PE X a ta) (hb : PE X b tb) : PE X (.BinOp a op b pos) (tOwnIS C sp (WE W) ta tb) := by
  obtain ⟨f, fd, ps, fo, ro, rc, k1, k2, k3, k4, k5, k6, k7, k8, F, hbd⟩ := S.ex
  refine ⟨fun pins s σ H Q I h => wpAny_BinOp (binT ha hb I h fun v u s2 x y H2 I2 rx ry q => ?_)⟩
  obtain ⟨a, dx, fs, i, rfl, rfl, hA, q⟩ := q
  cases rx
  obtain ⟨t, rfl⟩ := ry
  obtain ⟨od, J⟩ := inst_of I2 hA
  obtain ⟨m, hF⟩ := I2.fr
  refine PySem.W.ksp_binT (T := "int") hF I2.ok.mod.kin J rfl k1 k2 k3 k4 k5 k6 k7 k8 ?_
  refine wpAny_mono (run_fnS (E := WE W) (us := [.ref a, .int i t]) (vs := [.ref a, .int i]) F (hr.mono hk) hbd (passAt tk σ) I2 (.cons rfl (.cons ⟨t, rfl⟩ .nil)) q) (fun v s' hv => ?_) fun _ _ e => e
  obtain ⟨z, H', I', rz, b, rfl, q⟩ := hv
  cases rz
  exact ⟨.ref b, H', I', rfl, q⟩
end
/-! #### k * o -/
structure SpcR (P : Program) (w : World) (K : PySem.W.Frag) (mg : Str → Option Value) (base : Heap) (n : Nat) (C : Addr) (sp : Sp) : Prop where
  ex : ∃ (f g : Addr) (fd : FuncData) (ps : List Str), PySem.W.selfFirst K C = true ∧ PySem.W.findIn K (.ref C) (PySem.dunder "mul") = some (some (.ref g)) ∧ PySem.W.findIn K (.ref C) (dunderR "mul") = some (some (.ref f)) ∧ PySem.W.isFn K (.ref f) = true ∧
    PySem.W.subIn K (.ref C) (.type "int") = some false ∧ FnOk P w K mg base CX0 n f fd ps sp ∧ Binds K fd ps []
theorem SpcR.of {P : Program} {w : World} {K : PySem.W.Frag} {mg : Str → Option Value} {base : Heap} {n : Nat} {sp : Sp} {x : Str} {f : Addr} {fd : FuncData} {ps : List Str} (b : bRefI x K = true) (m : Meth K (He.ga K x) "__rmul__" f)
    (F : FnOk P w K mg base CX0 n f fd ps sp) (hb : Binds K fd ps []) : SpcR P w K mg base n (He.ga K x) sp := by
  have e1 : PySem.dunder "mul" = "__mul__" := by decide +kernel
  have e2 : dunderR "mul" = "__rmul__" := by decide +kernel
  obtain ⟨b1, b⟩ := He.ba b
  obtain ⟨b2, b3⟩ := He.ba b
  obtain ⟨g, h1⟩ := isRf_ok b2
  exact ⟨f, g, fd, ps, b1, by rw [e1]; exact h1, by rw [e2]; exact m.at_, m.fn, of_decide_eq_true b3, F, hb⟩
theorem int_mul_own (a : Int) (t : Tok) (l C dx : Addr) :
    Meets (Builtin.«int.__mul__» ⟨[.int a t, .ref l], []⟩) (fun _ R s => s.heap.get? l = some (PySem.W.instObj C dx) ∧ R (.ok (.ret Value.notImplemented)) s) :=
  .of_wp fun prog w A R s h => by obtain ⟨hp, g, d, tk, os⟩ := s; obtain ⟨hl, h⟩ := h; unfold PySem.W.instObj at hl; wp_walk; exact ⟨_, rfl, h⟩
theorem mul_refl {prog : Program} {w : World} {A : Around} {E : Value → Shared → Prop} {s : Shared} {K : PySem.W.Frag} {h₀ : Heap} {L x C f g dx : Addr} {m : Str → Option Value} {od : Option Obj} {i : Int} {t : Tok} {Q : Value → Shared → Prop} (F : Fr h₀ L s.heap m) (X₀ : K.In h₀) (I : PySem.W.InstAt s.heap x (PySem.W.instObj C dx) C od)
    (hc : PySem.W.selfFirst K C = true) (hm : PySem.W.findIn K (.ref C) (PySem.dunder "mul") = some (some (.ref g))) (hs : PySem.W.findIn K (.ref C) (dunderR "mul") = some (some (.ref f))) (hf : PySem.W.isFn K (.ref f) = true) (hsub : PySem.W.subIn K (.ref C) (.type "int") = some false)
    (h : wpAny (model prog w) A (call (.ref f) [.ref x, .int i t]) (PySem.W.CmpBack Q) E s) : wpAny (model prog w) A (binaryOp .Mult (.int i t) (.ref x)) Q E s := by
  have X := X₀.keeps F.keep
  obtain ⟨cd, rest, hcd, hmro⟩ := PySem.W.ksp_first hc
  have one := PySem.W.ksp_try X I hs hf h
  have hat := I.at_
  obtain ⟨hh, g', d, tt, os⟩ := s
  have L1 : PySem.W.Looks (model prog w) hh (typeOf (.ref x)) (.ref C) := I.type
  have L2 : PySem.W.Looks (model prog w) hh (typeOf (.int i t)) (.type "int") := PySem.W.Looks.of_pure rfl
  have L3 : PySem.W.Looks (model prog w) hh (fillsNumberSlot (.ref C) "mul") true := PySem.W.fills_K X hcd hmro hm
  have L4 : PySem.W.Looks (model prog w) hh (fillsNumberSlot (.type "int") "mul") true := PySem.W.Looks.of_pure PySem.F.fills_int_mul
  have L5 : PySem.W.Looks (model prog w) hh (isSubtype (.ref C) (.type "int")) false := PySem.W.looks_subIn X hsub
  have L7 : PySem.W.Looks (model prog w) hh (numberSlotInPython (.type "int") "mul") false := PySem.W.Looks.of_pure rfl
  have hne : (Value.type "int" == Value.ref C) = false := Bool.eq_false_iff.mpr fun q => by cases beq_iff_eq.mp q
  unfold binaryOp
  refine wpAny_holding (wpAny_bind ?_)
  unfold binaryOp1
  refine wpAny_bind (L2.at (wpAny_bind (L1.at (wpAny_bind (L4.at ?_)))))
  simp only [hne, Bool.false_eq_true, if_false]
  refine wpAny_bind (L3.at ?_)
  simp only [Bool.and_self, if_true]
  refine wpAny_bind (L5.at ?_)
  simp only [Bool.false_eq_true, if_false, Bool.not_false, Bool.and_self, if_true]
  refine wpAny_bind (L7.at ?_)
  simp only [Bool.false_eq_true, if_false, if_true]
  refine wpAny_bind (wpAny_tryMethod_declines (T := "int") (PySem.typeIs_int _ i t) PySem.F.slot_int_mul (PySem.call_meets PySem.F.slot_int_mul (PySem.typeIs_int _ i t) PySem.F.entry_int_mul (PySem.F.args_int_mul_2 _ _) (int_mul_own i t x C dx) ⟨hat, rfl, ?_⟩))
  refine wpAny_bind (wpAny_mono one (fun r s' hr' => ?_) fun _ _ e => e)
  obtain ⟨v, rfl, hq⟩ := hr'
  refine wpAny_bind (wpAny_rule (wpAny_pure ?_))
  exact wpAny_pure hq
def rRefI (C : Addr) (sp : Sp) : R2 := fun x y H Q => ∃ a dx fs i, x = .int i ∧ y = .ref a ∧ H a = some (.ins C dx fs) ∧ sp [.ref a, .int i] H (fun v H' => ∃ b, v = .ref b ∧ Q v H') E0
section
variable {X : Cx} {n : Nat} {C : Addr} {sp : Sp}
theorem op_refI (S : SpcR X.prog X.w X.K X.mg X.base n C sp) (hr : Room n X.A) : OpR X (binaryOp .Mult) (rRefI C sp) := by
  obtain ⟨f, g, fd, ps, k1, k2, k3, k4, k5, F, hb⟩ := S.ex
  intro pins s σ H x y v u Q I rx ry h
  obtain ⟨a, dx, fs, i, rfl, rfl, ha, h⟩ := h
  cases ry
  obtain ⟨t, rfl⟩ := rx
  obtain ⟨od, J⟩ := inst_of I ha
  obtain ⟨m, hF⟩ := I.fr
  refine mul_refl hF I.ok.mod.kin J k1 k2 k3 k4 k5 ?_
  refine wpAny_mono (run_at (us := [.ref a, .int i t]) (vs := [.ref a, .int i]) ⟨hr, rfl⟩ F hb I (.cons rfl (.cons ⟨t, rfl⟩ .nil)) h) (fun v s' hv => ?_) fun _ _ e => e
  obtain ⟨z, H', I', rz, b, rfl, q⟩ := hv
  cases rz
  exact ⟨.ref b, H', I', rfl, q⟩
end
end RM
namespace RM
open PySem PySem.Spec PyProof.Rows L2 ItX
/-! ### shifts as functions on names; dicts made over a list with names perhaps twice -/
/-- the names in the order of their first occurrence -/
def dds (xs : List (List Nat)) : List (List Nat) := (bldD (xs.map fun l => (l, 0))).2
theorem dds_snoc (xs : List (List Nat)) (l : List Nat) : dds (xs ++ [l]) = if l ∈ dds xs then dds xs else dds xs ++ [l] := by
  unfold dds
  rw [List.map_append]
  show (bldD (_ ++ [(l, 0)])).2 = _
  rw [bldD_snoc]
  rfl
theorem dds_inv (xs : List (List Nat)) : (dds xs).Nodup ∧ (∀ l, l ∈ dds xs ↔ l ∈ xs) ∧ (dds xs).length ≤ xs.length := by
  obtain ⟨h1, h2, h3, _⟩ := bldD_inv (lim := 0) xs.length (xs.map fun l => (l, 0)) (List.length_map ..)
  refine ⟨h1, fun l => ?_, h3⟩
  unfold dds
  rw [h2, List.map_map]
  have e : xs.map ((fun p : List Nat × Int => p.1) ∘ fun l => (l, 0)) = xs := by
    rw [show ((fun p : List Nat × Int => p.1) ∘ fun l => (l, 0)) = id from rfl, List.map_id]
  rw [e]
theorem putK_again {f : List Nat → Int} {l : List Nat} {ns : List (List Nat)} (nd : ns.Nodup) (hl : l ∈ ns) : putK (mD f ns) (.inr (S l)) (.int (f l)) = mD f ns := by
  rw [putK_old nd hl]
  exact mD_congr fun x _ => by by_cases h : x = l <;> simp [h]
theorem putK_dds {f : List Nat → Int} {l : List Nat} {xs : List (List Nat)} : putK (mD f (dds xs)) (.inr (S l)) (.int (f l)) = mD f (dds (xs ++ [l])) := by
  rw [dds_snoc]
  by_cases h : l ∈ dds xs
  · rw [if_pos h, putK_again (dds_inv xs).1 h]
  · rw [if_neg h]
    unfold mD
    rw [dN_put (f := fun l => .int (f l)) h]
section
variable {σ : L2.St} {H : Hp} {Q : VK} {K : PySem.W.Frag} {g : TG} {tt : TT} {tk tv te td : TE} {vs : List Nat} {d : Addr}
/-- a dict comprehension over a list of names, some perhaps twice, without a test -/
theorem dcLD {a : Addr} {ns : List (List Nat)} (σ0 : L2.St) (m : List Nat → Int) (hw : wipe σ vs = σ0) (hx : SqL K H a (ns.map sv)) (hn : ns.length ≤ 90000)
    (hs : ∀ (i : Nat) (l : List Nat) H2 (R : V → V → Hp → Prop) (R0 : Hp → Prop), ns[i]? = some l → Same H H2 → (∀ H5, Same H2 H5 → R (.str (S l)) (.int (m l)) H5) →
      g (.str (S l)) σ0 H2 fun σ2 H3 => wipe σ2 vs = σ0 ∧ tt σ2 H3 fun b H4 => if b = true then tk σ2 H4 fun y H5 => tv σ2 H5 fun z H6 => R y z H6 else R0 H4)
    (hq : ∀ D H2, H D = none → Same H H2 → H2 D = some (.dK (mD m (dds ns))) → Q (.ref D) H2) : ∃ b, V.ref a = .ref b ∧ (∃ ys, SqL K H b ys) ∧ DcW (Itl K b) g tt tk tv vs σ H Q := by
  have el : (ns.map sv).length = ns.length := List.length_map ..
  refine ⟨a, rfl, ⟨_, hx⟩, ?_⟩
  intro D hD
  refine ⟨fun i m' H2 => m' = ns.length - i ∧ i ≤ ns.length ∧ Same H H2 ∧ H2 D = some (.dK (mD m (dds (ns.take i)))), ⟨ns.length, by simp, Nat.zero_le _, Same.new hD, upd_same⟩, ?_⟩
  rintro i m' H2 ⟨rfl, hi, s1, hD2⟩
  have hx2 := Same.seq s1 hx
  rcases Nat.lt_or_ge i ns.length with hlt | hge
  · right
    have hi2 : i < (ns.map sv).length := by omega
    refine ⟨⟨_, (ns.map sv)[i], hx2, List.getElem?_eq_getElem hi2⟩, fun H' => Same H H' ∧ H' D = some (.dK (mD m (dds (ns.take (i + 1))))), fun H' hN => ⟨ns.length - (i + 1), by omega, rfl, by omega, hN⟩, fun x H' hy => ?_⟩
    obtain ⟨e, hy⟩ := hy
    subst e
    have hxi := hy _ hx2
    rw [List.getElem?_map] at hxi
    obtain ⟨l, hl, rfl⟩ := Option.map_eq_some_iff.mp hxi
    rw [hw]
    have et := take_snoc hl
    refine hs i l _ (fun y z H5 => ∃ kvs k, y = kV k ∧ H5 D = some (.dK kvs) ∧ kvs.length < sizeLine ∧ (Same H (upd H5 D (.dK (putK kvs k z))) ∧ upd H5 D (.dK (putK kvs k z)) D = some (.dK (mD m (dds (ns.take (i + 1))))))) (fun H' => Same H H' ∧ H' D = some (.dK (mD m (dds (ns.take (i + 1)))))) hl s1 (fun H5 s5 => ?_)
    refine ⟨_, .inr (S l), rfl, s5 _ _ hD2, szlt ?_, Same.mut (s1.trans s5) hD, ?_⟩
    · unfold mD
      rw [dN_len]
      have := (dds_inv (ns.take i)).2.2
      rw [List.length_take] at this
      omega
    · rw [upd_same, putK_dds, et]
  · left
    have e : i = ns.length := by omega
    subst e
    rw [List.take_length] at hD2
    exact ⟨⟨_, hx2, by omega⟩, hq D H2 hD s1 hD2⟩
/-- a dict comprehension over an own object that iterates over its dict -/
theorem lock_dcO {C a dx : Addr} {F : Str} {fs : List (Str × V)} {f : List Nat → V} {ns : List (List Nat)} (σ0 : L2.St) (h : List Nat → V) (hw : wipe σ vs = σ0) (nd : ns.Nodup) (ha : H a = some (.ins C dx fs)) (lk : fs.lookup F = some (.ref d)) (hd : H d = some (.dK (dN f ns))) (hn : ns.length ≤ 100000)
    (hv : ∀ od (R : VK), R (.ref a) (upd H d (.frz od (.dK (dN f ns)))) → td σ (upd H d (.frz od (.dK (dN f ns)))) R)
    (hs : ∀ (i : Nat) (l : List Nat) od H2 (R : V → V → Hp → Prop), ns[i]? = some l → Same (upd H d (.frz od (.dK (dN f ns)))) H2 → (∀ H5, Same H2 H5 → R (.str (S l)) (h l) H5) →
      g (.str (S l)) σ0 H2 fun σ2 H3 => wipe σ2 vs = σ0 ∧ tk σ2 H3 fun y H4 => tv σ2 H4 fun z H5 => R y z H5)
    (hq : ∀ D H2, H D = none → Same H H2 → H2 D = some (.dK (dN h ns)) → Q (.ref D) H2) : tLockE (tDc (iOwnK C F td) g tYes tk tv vs) σ H Q := by
  have el : (dN f ns).length = ns.length := dN_len
  have nad : a ≠ d := fun e => by rw [e, hd] at ha; cases ha
  refine wp_lockE hd fun od => ?_
  refine hv od _ ⟨a, dx, fs, d, od, _, rfl, (upd_ne nad).trans ha, lk, upd_same, ?_⟩
  intro D hD
  have nDd : D ≠ d := fun e => by rw [e, upd_same] at hD; cases hD
  have hD' : H D = none := by rw [upd_ne nDd] at hD; exact hD
  refine ⟨fun i m H2 => m = ns.length - i ∧ i ≤ ns.length ∧ Same (upd H d (.frz od (.dK (dN f ns)))) H2 ∧ H2 D = some (.dK (dN h (ns.take i))), ⟨ns.length, by simp, Nat.zero_le _, Same.new hD, upd_same⟩, ?_⟩
  rintro i m H2 ⟨rfl, hi, s1, hD2⟩
  have hf := frz_at s1
  rcases Nat.lt_or_ge i ns.length with hlt | hge
  · right
    refine ⟨⟨hf, by omega⟩, fun H' => Same (upd H d (.frz od (.dK (dN f ns)))) H' ∧ H' D = some (.dK (dN h (ns.take (i + 1)))), fun H' hN => ⟨ns.length - (i + 1), by omega, rfl, by omega, hN⟩, fun x H' hy => ?_⟩
    obtain ⟨e, k, v, hkv, rfl⟩ := hy
    subst e
    obtain ⟨l, hl, rfl, rfl⟩ := dN_at hkv
    rw [hw]
    refine hs i l od _ (fun y z H5 => ∃ kvs' k, y = kV k ∧ H5 D = some (.dK kvs') ∧ kvs'.length < sizeLine ∧ (Same (upd H d (.frz od (.dK (dN f ns)))) (upd H5 D (.dK (putK kvs' k z))) ∧ upd H5 D (.dK (putK kvs' k z)) D = some (.dK (dN h (ns.take (i + 1)))))) hl s1 fun H5 s5 => ⟨_, .inr (S l), rfl, s5 _ _ hD2, szlt (by rw [dN_len, List.length_take]; omega), Same.mut (s1.trans s5) hD, ?_⟩
    rw [upd_same, take_snoc hl, dN_put (take_new nd hl)]
  · left
    have e : i = ns.length := by omega
    subst e
    rw [List.take_length] at hD2
    exact ⟨⟨hf, by omega⟩, hf, hq D _ hD' (unl hd s1) (by rw [upd_ne nDd]; exact hD2)⟩
theorem wp_starO {C : Addr} {F : Str} {spL : Sp} {t : TA} {R : List V → Hp → Prop} (h : te σ H fun x H1 => StOwn C F spL x H1 fun xs H2 => t σ H2 fun ys H3 => R (xs ++ ys) H3) : tStarO C F spL te t σ H R := h
theorem wp_ownIX {C : Addr} {sp : Sp} {E : XK} {ta tb : TE} (h : ta σ H fun x H1 => tb σ H1 fun y H2 => ∃ a dx fs i, x = .ref a ∧ y = .int i ∧ H2 a = some (.ins C dx fs) ∧ sp [.ref a, .int i] H2 (fun v H' => ∃ b, v = .ref b ∧ Q v H') E) : tOwnIX C sp E ta tb σ H Q := h
theorem wp_ownIS {C : Addr} {sp : Sp} {E : L2.St → XK} {ta tb : TE} (h : ta σ H fun x H1 => tb σ H1 fun y H2 => ∃ a dx fs i, x = .ref a ∧ y = .int i ∧ H2 a = some (.ins C dx fs) ∧ sp [.ref a, .int i] H2 (fun v H' => ∃ b, v = .ref b ∧ Q v H') (E σ)) : tOwnIS C sp E ta tb σ H Q := h
end
/-! #### functions on names that are 0 outside of U -/
structure OkU (U : List (List Nat)) : Prop where
  nd : U.Nodup
  few : U.length ≤ 16
  nm : ∀ l ∈ U, Nm l
def Zo (U : List (List Nat)) (e : List Nat → Int) : Prop := ∀ l, l ∉ U → e l = 0
theorem Zo.mem {U : List (List Nat)} {e : List Nat → Int} (z : Zo U e) {l : List Nat} (h : e l ≠ 0) : l ∈ U := by
  by_cases hl : l ∈ U
  · exact hl
  · exact absurd (z l hl) h
theorem OkU.len {U : List (List Nat)} (u : OkU U) (e : List Nat → Int) : (nzs e U).length ≤ 16 := Nat.le_trans (nzs_len e U) u.few
theorem OkU.names {U : List (List Nat)} (u : OkU U) {e : List Nat → Int} {l : List Nat} (h : l ∈ nzs e U) : Nm l := u.nm l (nzs_mem.mp h).1
theorem OkU.asc {U : List (List Nat)} (u : OkU U) {e : List Nat → Int} : ∀ l ∈ nzs e U, Asc l := fun _ h => nm_asc (u.names h)
/-- the entry, 0 if there is none -/
def ent (ns : List (List Nat)) (m : List Nat → Int) (l : List Nat) : Int := if l ∈ ns then m l else 0
theorem ent_nzs {U : List (List Nat)} {e : List Nat → Int} (z : Zo U e) {l : List Nat} : ent (nzs e U) e l = e l := by
  unfold ent
  split
  · rfl
  · rename_i h
    by_cases he : e l = 0
    · rw [he]
    · exact absurd (nzs_mem.mpr ⟨z.mem he, he⟩) h
theorem val_ent {m : List Nat → Int} {ns : List (List Nat)} {l : List Nat} : (valV (mD m ns) (.inr (S l))).getD (.int 0) = .int (ent ns m l) := by
  unfold ent mD
  by_cases e : l ∈ ns
  · rw [if_pos e, dN_val e]; rfl
  · rw [if_neg e, dN_none e]; rfl
theorem ent_out {U ns : List (List Nat)} {m : List Nat → Int} (h : ∀ l ∈ ns, l ∈ U) : Zo U (ent ns m) := fun l hl => if_neg fun z => hl (h l z)
theorem ent_in {ns : List (List Nat)} {m : List Nat → Int} {l : List Nat} (h : l ∈ ns) : ent ns m l = m l := if_pos h
theorem nz_one {U : List (List Nat)} {e r : List Nat → Int} (u : U.Nodup) (h : ∀ l, e l = 0 → r l = 0) : nzs r (nzs e U) = nzs r U :=
  nzs_eq (nzs_nodup u) u fun l => ⟨fun ⟨a, b⟩ => ⟨(nzs_mem.mp a).1, b⟩, fun ⟨a, b⟩ => ⟨nzs_mem.mpr ⟨a, fun z => b (h l z)⟩, b⟩⟩
theorem nz_two {U : List (List Nat)} {e f r : List Nat → Int} (u : U.Nodup) (h : ∀ l, e l = 0 → f l = 0 → r l = 0) : nzs r (dds (nzs e U ++ nzs f U)) = nzs r U :=
  nzs_eq (dds_inv _).1 u fun l => by
    rw [(dds_inv _).2.1, List.mem_append, nzs_mem, nzs_mem]
    refine ⟨fun ⟨a, b⟩ => ⟨a.elim (·.1) (·.1), b⟩, fun ⟨a, b⟩ => ⟨?_, b⟩⟩
    by_cases he : e l = 0
    · exact .inr ⟨a, fun z => b (h l he z)⟩
    · exact .inl ⟨a, he⟩
/-- a new shift is handed out -/
def NwS (C : Addr) (H : Hp) (U : List (List Nat)) (e : List Nat → Int) (Q : VK) : Prop := ∀ a H', Same H H' → IsShift C H' a (nzs e U) e → Q (.ref a) H'
theorem NwS.congr {C : Addr} {H : Hp} {U : List (List Nat)} {e f : List Nat → Int} {Q : VK} (h : NwS C H U e Q) (q : ∀ l, f l = e l) : NwS C H U f Q := by
  rw [show f = e from funext q]; exact h
theorem rd_lock {H : Hp} {p b : Addr} {kvs ks : List (Key × V)} {od : Obj} (hp : H p = some (.dK kvs)) (h : Rd H b (.dK ks)) : Rd (upd H p (.frz od (.dK kvs))) b (.dK ks) := by
  by_cases e : b = p
  · subst e
    rcases h with h | ⟨o, h⟩
    · rw [hp] at h; cases h; exact .inr ⟨od, upd_same⟩
    · rw [hp] at h; cases h
  · rcases h with h | ⟨o, h⟩
    · exact .inl ((upd_ne e).trans h)
    · exact .inr ⟨o, (upd_ne e).trans h⟩
theorem for_own {C a dx d : Addr} {F : Str} {fs : List (Str × V)} {g : TG} {tb : TS} {D : Ends} {σ : L2.St} {H : Hp} (ha : H a = some (.ins C dx fs)) (lk : fs.lookup F = some (.ref d)) (h : ∃ d' o kvs, V.ref d = .ref d' ∧ H d' = some (.frz o (.dK kvs)) ∧ ForW (Itk d' o kvs) g tb D σ H) :
    ∃ a' dx fs d o kvs, V.ref a = .ref a' ∧ H a' = some (.ins C dx fs) ∧ fs.lookup F = some (.ref d) ∧ H d = some (.frz o (.dK kvs)) ∧ ForW (Itk d o kvs) g tb D σ H := by
  obtain ⟨d', o, kvs, e, h1, h2⟩ := h
  cases e
  exact ⟨a, dx, fs, d, o, kvs, rfl, ha, lk, h1, h2⟩
theorem keys_x {d : Addr} {σ : L2.St} {H : Hp} {g : TG} {tb : TS} {D : Ends} (h : ∃ d' o, V.ref d = .ref d' ∧ ((∃ kvs, H d' = some (.frz o (.dK kvs)) ∧ ForW (Itk d' o kvs) g tb D σ H) ∨ ∃ kvs, H d' = some (.frz o (.dT kvs)) ∧ ForW (Itkt d' o kvs) g tb D σ H)) {od : Obj} {kvs : List (Key × V)} (hd : H d = some (.frz od (.dK kvs))) :
    ∃ d' o kvs, V.ref d = .ref d' ∧ H d' = some (.frz o (.dK kvs)) ∧ ForW (Itk d' o kvs) g tb D σ H := by
  obtain ⟨d', o, e, h⟩ := h
  cases e
  rcases h with ⟨kv, h1, h2⟩ | ⟨kv, h1, h2⟩
  · exact ⟨d, o, kv, rfl, h1, h2⟩
  · rw [hd] at h1; cases h1
/-- two own lists that are filled while the pool is drawn from -/
structure Two (P : Pl) (w s : Addr) (xs ys : List V) (G H : Hp) : Prop where
  se : Sees P G H
  hw : H w = some (.lst xs)
  hs : H s = some (.lst ys)
  gw : G w = none
  gs : G s = none
  ws : w ≠ s
  nw : w ≠ P.p
  ns : s ≠ P.p
theorem Two.in_ {P : Pl} {w s : Addr} {xs ys : List V} {G H : Hp} (t : Two P w s xs ys G H) : Sees P (upd (upd G w (.lst xs)) s (.lst ys)) H :=
  (t.se.with t.gw t.hw t.nw).with (by rw [upd_ne t.ws.symm]; exact t.gs) t.hs t.ns
theorem Two.out {P : Pl} {w s : Addr} {xs ys : List V} {G H H' : Hp} (t : Two P w s xs ys G H) (h : Sees P (upd (upd G w (.lst xs)) s (.lst ys)) H') : Two P w s xs ys G H' := by
  obtain ⟨h1, h2⟩ := h.back (t.se.with t.gw t.hw t.nw) (by rw [upd_ne t.ws.symm]; exact t.gs)
  obtain ⟨h3, h4⟩ := h1.back t.se t.gw
  exact ⟨h3, h4, h2, t.gw, t.gs, t.ws, t.nw, t.ns⟩
theorem Two.putw {P : Pl} {w s : Addr} {xs ys zs : List V} {G H : Hp} (t : Two P w s xs ys G H) : Two P w s zs ys G (upd H w (.lst zs)) := ⟨t.se.set t.gw t.nw, upd_same, by rw [upd_ne t.ws.symm]; exact t.hs, t.gw, t.gs, t.ws, t.nw, t.ns⟩
theorem Two.puts {P : Pl} {w s : Addr} {xs ys zs : List V} {G H : Hp} (t : Two P w s xs ys G H) : Two P w s xs zs G (upd H s (.lst zs)) := ⟨t.se.set t.gs t.ns, by rw [upd_ne t.ws]; exact t.hw, upd_same, t.gw, t.gs, t.ws, t.nw, t.ns⟩
theorem wp_dnotin {σ : L2.St} {H : Hp} {Q : VK} {ty td : TE} (h : ty σ H fun y H1 => td σ H1 fun x H2 => ∃ a o, x = .ref a ∧ DGet H2 a y o ∧ Q (.bl (!o.isSome)) H2) : tDNotIn ty td σ H Q := h
theorem dnin_s {H : Hp} {R : Option V → Prop} {d : Addr} {kvs : List (Key × V)} {l : List Nat} (hd : Rd H d (.dK kvs)) (q : R (valV kvs (.inr (S l)))) : ∃ a o, V.ref d = .ref a ∧ DGet H a (.str (S l)) o ∧ R o := ⟨d, _, rfl, .inl ⟨kvs, .inr (S l), hd, rfl, rfl⟩, q⟩
end RM
namespace RM
open PySem PySem.Spec PyProof.Rows L2
/-! ### texts: f'..', s.split(t), int(s) -/
def tFS (ts : List TE) : TE := fun σ H Q => tJs ts Str.empty σ H fun out H1 => Q (.str out) H1
def rSplt : V → List V → Hp → VK → Prop := fun x xs H Q => ∃ a b, x = .str a ∧ xs = [.str b] ∧ (b.length == 0) = false ∧ a.length + 2 ≤ sizeLine ∧ rNewStrs (Txt.split a b) H Q
def rIntS : List V → Hp → VK → Prop := fun xs H Q => ∃ a n, xs = [.str a] ∧ PySem.intText? a = some n ∧ a.length ≤ 640 ∧ Q (.int n) H
section
variable {X : Cx}
theorem pe_fs {v1 v2 : Expr} {rest : List Expr} {ts : List TE} {pos : Pos} (h : PJ X (v1 :: v2 :: rest) ts) : PE X (.JoinedStr (v1 :: v2 :: rest) pos) (tFS ts) := pe_joined h
theorem mt_splt : MtR X "str.split" rSplt := mt_split
theorem call_intS : CallR X (.type "int") rIntS := call_int_str
end
section
variable {σ : L2.St} {H : Hp} {Q : VK} {K : PySem.W.Frag} {te : TE} {ts : List TE} {acc : Str} {R : Str → Hp → Prop}
theorem wp_fs (h : tJs ts Str.empty σ H fun out H1 => Q (.str out) H1) : tFS ts σ H Q := h
theorem wp_js0 (h : R acc H) : tJs [] acc σ H R := h
theorem wp_js (h : te σ H fun x H1 => ∃ y : Str, x = .str y ∧ (acc ++ y).length ≤ sizeLine ∧ tJs ts (acc ++ y) σ H1 R) : tJs (te :: ts) acc σ H R := h
theorem wp_fmt (h : te σ H fun x H1 => (∃ y : Str, x = .str y ∧ y.length ≤ sizeLine ∧ Q (.str y) H1) ∨ ∃ i : Int, x = .int i ∧ i.natAbs.log2 < 1920 ∧ Q (.str (toString i)) H1) : tFmt te σ H Q := h
theorem wp_intS {a : Str} {n : Int} (h : PySem.intText? a = some n) (hl : a.length ≤ 640) (q : Q (.int n) H) : rIntS [.str a] H Q := ⟨a, n, rfl, h, hl, q⟩
end
end RM
namespace RM
open PySem PySem.Spec PyProof.Rows L2
/-! ### a text's words between blanks -/
def wds : List Nat → List (List Nat)
  | [] => [[]]
  | c :: t => if c = 32 then [] :: wds t else match wds t with
    | [] => [[c]]
    | w :: r => (c :: w) :: r
theorem wds_ne : ∀ t, wds t ≠ []
  | [] => by simp [wds]
  | c :: t => by
    unfold wds
    split
    · simp
    · split <;> simp
theorem wds_free : ∀ (t : List Nat) (w : List Nat), w ∈ wds t → 32 ∉ w
  | [], w, h => by
    rw [List.mem_singleton.mp (show w ∈ [[]] from h)]
    simp
  | c :: t, w, h => by
    unfold wds at h
    by_cases e : c = 32
    · rw [if_pos e] at h
      rcases List.mem_cons.mp h with rfl | h
      · simp
      · exact wds_free t w h
    · rw [if_neg e] at h
      have ih := wds_free t
      revert h ih
      cases wds t with
      | nil =>
        intro h _
        rw [List.mem_singleton.mp h]
        simp only [List.mem_singleton]
        exact fun z => e z.symm
      | cons v r =>
        intro h ih
        rcases List.mem_cons.mp h with rfl | h
        · intro z
          rcases List.mem_cons.mp z with z | z
          · exact e z.symm
          · exact ih v List.mem_cons_self z
        · exact ih w (List.mem_cons_of_mem _ h)
theorem joinL_cons {c x : Nat} {w : List Nat} {r : List (List Nat)} : TL.joinL [c] ((x :: w) :: r) = x :: TL.joinL [c] (w :: r) := by
  cases r <;> rfl
theorem joinL_nilc {c : Nat} {r : List (List Nat)} (h : r ≠ []) : TL.joinL [c] ([] :: r) = c :: TL.joinL [c] r := by
  cases r with
  | nil => exact absurd rfl h
  | cons a b => rfl
theorem joinL_wds : ∀ t, TL.joinL [32] (wds t) = t
  | [] => rfl
  | c :: t => by
    have ih := joinL_wds t
    have ne := wds_ne t
    unfold wds
    by_cases e : c = 32
    · rw [if_pos e, joinL_nilc ne, ih, e]
    · rw [if_neg e]
      revert ih ne
      cases wds t with
      | nil => exact fun _ h => absurd rfl h
      | cons w r =>
        intro ih _
        show TL.joinL [32] ((c :: w) :: r) = _
        rw [joinL_cons, ih]
theorem joinL_injN {c : Nat} : ∀ (n : Nat) (ps qs : List (List Nat)), (ps.map (·.length + 1)).sum ≤ n → ps ≠ [] → qs ≠ [] → (∀ p ∈ ps, c ∉ p) → (∀ q ∈ qs, c ∉ q) → TL.joinL [c] ps = TL.joinL [c] qs → ps = qs
  | _, [], _, _, h, _, _, _, _ => absurd rfl h
  | _, _, [], _, _, h, _, _, _ => absurd rfl h
  | 0, (x :: ps), _, hn, _, _, _, _, _ => by
    simp only [List.map_cons, List.sum_cons] at hn
    omega
  | n + 1, [] :: ps, [] :: qs, hn, _, _, fp, fq, e => by
    cases ps with
    | nil =>
      cases qs with
      | nil => rfl
      | cons b r =>
        have e2 : ([] : List Nat) = c :: TL.joinL [c] (b :: r) := e.trans (joinL_nilc (by simp))
        cases e2
    | cons a r =>
      cases qs with
      | nil =>
        have e2 : c :: TL.joinL [c] (a :: r) = ([] : List Nat) := (joinL_nilc (by simp)).symm.trans e
        cases e2
      | cons b t =>
        rw [joinL_nilc (by simp), joinL_nilc (by simp)] at e
        simp only [List.map_cons, List.sum_cons, List.length_nil] at hn
        rw [joinL_injN n (a :: r) (b :: t) (by simp only [List.map_cons, List.sum_cons]; omega) (by simp) (by simp) (fun p h => fp p (List.mem_cons_of_mem _ h)) (fun p h => fq p (List.mem_cons_of_mem _ h)) (List.cons.inj e).2]
  | n + 1, [] :: ps, (y :: q) :: qs, hn, _, _, fp, fq, e => by
    rw [joinL_cons] at e
    cases ps with
    | nil => cases e
    | cons a r =>
      rw [joinL_nilc (by simp)] at e
      exact absurd ((List.cons.inj e).1 ▸ List.mem_cons_self) (fq _ List.mem_cons_self)
  | n + 1, (x :: p) :: ps, [] :: qs, hn, _, _, fp, fq, e => by
    rw [joinL_cons] at e
    cases qs with
    | nil => cases e
    | cons a r =>
      rw [joinL_nilc (by simp)] at e
      exact absurd ((List.cons.inj e).1 ▸ List.mem_cons_self) (fp _ List.mem_cons_self)
  | n + 1, (x :: p) :: ps, (y :: q) :: qs, hn, _, _, fp, fq, e => by
    rw [joinL_cons, joinL_cons] at e
    obtain ⟨e1, e2⟩ := List.cons.inj e
    simp only [List.map_cons, List.sum_cons, List.length_cons] at hn
    have z := joinL_injN n (p :: ps) (q :: qs) (by simp only [List.map_cons, List.sum_cons]; omega) (by simp) (by simp) (fun w h => by
      rcases List.mem_cons.mp h with rfl | h
      · exact fun z => fp _ List.mem_cons_self (List.mem_cons_of_mem _ z)
      · exact fp w (List.mem_cons_of_mem _ h)) (fun w h => by
      rcases List.mem_cons.mp h with rfl | h
      · exact fun z => fq _ List.mem_cons_self (List.mem_cons_of_mem _ z)
      · exact fq w (List.mem_cons_of_mem _ h)) e2
    obtain ⟨z1, z2⟩ := List.cons.inj z
    rw [e1, z1, z2]
theorem joinL_inj {c : Nat} {ps qs : List (List Nat)} (h1 : ps ≠ []) (h2 : qs ≠ []) (fp : ∀ p ∈ ps, c ∉ p) (fq : ∀ q ∈ qs, c ∉ q) (e : TL.joinL [c] ps = TL.joinL [c] qs) : ps = qs := joinL_injN _ ps qs (Nat.le_refl _) h1 h2 fp fq e
theorem wds_join {ws : List (List Nat)} (ne : ws ≠ []) (f : ∀ w ∈ ws, 32 ∉ w) : wds (TL.joinL [32] ws) = ws := joinL_inj (wds_ne _) ne (wds_free _) f (joinL_wds _)
theorem S_ofTl (z : Str) : S (TL.tl z) = z := by
  obtain ⟨⟨l⟩⟩ := z
  rfl
theorem split_S (t : List Nat) : Txt.split (S t) (S [32]) = (wds t).map S := by
  have h : TL.joinL [32] ((Txt.split (S t) (S [32])).map TL.tl) = t := by
    have z := StrLaws.join_split (S t) (S [32])
    have z2 := congrArg TL.tl z
    rw [TL.tl_join] at z2
    exact z2
  have ne : (Txt.split (S t) (S [32])).map TL.tl ≠ [] := fun e => by
    have z := PyProof.Rows.split_pos (S t) (S [32])
    rw [List.map_eq_nil_iff.mp e] at z
    simp at z
  have f : ∀ w ∈ (Txt.split (S t) (S [32])).map TL.tl, 32 ∉ w := fun w hw => by
    obtain ⟨p, hp, rfl⟩ := List.mem_map.mp hw
    exact StrLaws.split_free (S t) 32 p hp
  have e := wds_join ne f
  rw [h] at e
  rw [e, List.map_map]
  have : (S ∘ TL.tl) = id := funext S_ofTl
  rw [this, List.map_id]
theorem wp_splW {H : Hp} {Q : VK} {t : List Nat} (h1 : t.length ≤ 90000) (h : ∀ p, H p = none → Q (.ref p) (upd H p (.lst ((wds t).map sv)))) : rSplt (.str (S t)) [.str (S [32])] H Q :=
  ⟨S t, S [32], rfl, rfl, by decide +kernel, szl (by rw [S_len]; omega), fun p hp => by
    rw [split_S, List.map_map]
    exact h p hp⟩
theorem wds_snoc : ∀ (t : List Nat) (c : Nat), ∃ (a : List (List Nat)) (w : List Nat), wds t = a ++ [w] ∧ wds (t ++ [c]) = if c = 32 then a ++ [w, []] else a ++ [w ++ [c]]
  | [], c => ⟨[], [], rfl, by
    show wds [c] = _
    unfold wds
    by_cases e : c = 32
    · rw [if_pos e, if_pos e]; rfl
    · rw [if_neg e, if_neg e]; rfl⟩
  | d :: t, c => by
    obtain ⟨a, w, h1, h2⟩ := wds_snoc t c
    rw [List.cons_append]
    unfold wds
    rw [h1, h2]
    by_cases e : d = 32
    · rw [if_pos e, if_pos e]
      refine ⟨[] :: a, w, rfl, ?_⟩
      by_cases f : c = 32
      · rw [if_pos f, if_pos f]; rfl
      · rw [if_neg f, if_neg f]; rfl
    · rw [if_neg e, if_neg e]
      cases a with
      | nil =>
        refine ⟨[], d :: w, rfl, ?_⟩
        by_cases f : c = 32
        · rw [if_pos f, if_pos f]; rfl
        · rw [if_neg f, if_neg f]; rfl
      | cons b r =>
        refine ⟨(d :: b) :: r, w, rfl, ?_⟩
        by_cases f : c = 32
        · rw [if_pos f, if_pos f]; rfl
        · rw [if_neg f, if_neg f]; rfl
theorem join_S2 (ws : List (List Nat)) : Txt.join (S [32]) (ws.map S) = S (TL.joinL [32] ws) := by
  have h : TL.tl (Txt.join (S [32]) (ws.map S)) = TL.joinL [32] ws := by
    rw [TL.join_eq, TL.tl_join, List.map_map]
    have : (TL.tl ∘ S) = id := funext fun l => rfl
    rw [this, List.map_id]
  rw [← h, S_ofTl]
/-! #### numbers in texts -/
def isDg (c : Nat) : Prop := 48 ≤ c ∧ c ≤ 57
instance : DecidablePred isDg := fun c => inferInstanceAs (Decidable (48 ≤ c ∧ c ≤ 57))
def numO (w : List Nat) : Option Nat := if 1 ≤ w.length ∧ w.length ≤ 9 ∧ (w.all fun c => decide (isDg c)) = true then (if w[0]? = some 48 ∧ w ≠ [48] then none else some (PySem.NumText.digitsVal w)) else none
def noV : Option Nat → V
  | none => .non
  | some n => .int n
/-- a word read as a step -/
def rdW (w : List Nat) : Option (Nat × Int) := match numO (w.take (w.length - 1)) with
  | none => none
  | some n => if w[w.length - 1]? = some 43 then some (n, 1) else if w[w.length - 1]? = some 45 then some (n, -1) else none
def spelt (s : Nat × Int) : List Nat := TL.numL s.1 ++ [if s.2 = 1 then 43 else 45]
theorem numL_head : ∀ (n : Nat), n ≠ 0 → (TL.numL n)[0]? ≠ some 48 := by
  intro n
  induction n using Nat.strongRecOn with
  | _ n ih =>
    intro h0
    by_cases h : n < 10
    · rw [TL.numL_lt h]
      intro z
      have := Option.some.inj z
      omega
    · rw [TL.numL_step (by omega)]
      have ne := TL.numL_ne (n / 10)
      have z := ih (n / 10) (by omega) (by omega)
      cases hh : TL.numL (n / 10) with
      | nil => exact absurd hh ne
      | cons a b =>
        rw [hh] at z
        exact z
theorem numO_numL {n : Nat} (h : n < 10 ^ 9) : numO (TL.numL n) = some n := by
  have l := TL.numL_len (k := 9) (by decide) h
  have ne := TL.numL_ne n
  have l0 : 1 ≤ (TL.numL n).length := List.length_pos_iff.mpr ne
  have a : ((TL.numL n).all fun c => decide (isDg c)) = true := List.all_eq_true.mpr fun c hc => decide_eq_true (TL.numL_digits n c hc)
  unfold numO
  rw [if_pos ⟨l0, l, a⟩, if_neg, TL.numL_val]
  intro z
  by_cases h0 : n = 0
  · subst h0
    exact z.2 (TL.numL_lt (by decide))
  · exact numL_head n h0 z.1
theorem spelt_ne (s : Nat × Int) : spelt s ≠ [] := by unfold spelt; simp
theorem spelt_len {s : Nat × Int} (h : s.1 < 10 ^ 9) : (spelt s).length ≤ 10 := by
  have l := TL.numL_len (k := 9) (by decide) h
  unfold spelt
  rw [List.length_append, List.length_singleton]
  omega
theorem spelt_free (s : Nat × Int) : 32 ∉ spelt s := by
  unfold spelt
  intro h
  rcases List.mem_append.mp h with h | h
  · exact TL.numL_free (.inl (by decide)) h
  · have z := List.mem_singleton.mp h
    split at z <;> omega
theorem rdW_spelt {s : Nat × Int} (h : s.1 < 10 ^ 9) (hd : s.2 = 1 ∨ s.2 = -1) : rdW (spelt s) = some s := by
  obtain ⟨n, d⟩ := s
  have e1 : (spelt (n, d)).length - 1 = (TL.numL n).length := by unfold spelt; simp
  have e2 : (spelt (n, d)).take (TL.numL n).length = TL.numL n := by unfold spelt; simp
  have e3 : (spelt (n, d))[(TL.numL n).length]? = some (if d = 1 then 43 else 45) := by unfold spelt; simp
  unfold rdW
  rw [e1, e2, numO_numL h, e3]
  rcases hd with hd | hd
  · obtain rfl : d = 1 := hd
    rfl
  · obtain rfl : d = -1 := hd
    rfl
theorem numS (n : Nat) : ((toString ((n : Nat) : Int) : String) : Str) = S (TL.numL n) := by
  rw [← TL.tl_num n]
theorem log2_ok {n : Nat} (h : n < 10 ^ 10) : ((n : Nat) : Int).natAbs.log2 < 1920 := by
  rw [Int.natAbs_natCast]
  by_cases hz : n = 0
  · subst hz; decide
  · exact Nat.lt_trans ((Nat.log2_lt hz).mpr (show n < 2 ^ 40 by omega)) (by decide)
theorem wp_strN {n : Nat} {H : Hp} {Q : VK} (h : n < 10 ^ 10) (q : Q (.str (S (TL.numL n))) H) : rStrInt [.int n] H Q := wp_strInt (log2_ok h) (by rw [numS]; exact q)
theorem S_app (a b : List Nat) : S a ++ S b = S (a ++ b) := by
  rw [← S_ofTl (S a ++ S b), TL.tl_append]
theorem wp_addN {a b : List Nat} {H : Hp} {Q : VK} (hl : a.length + b.length ≤ 100000) (q : Q (.str (S (a ++ b))) H) : rAddStr (.str (S a)) (.str (S b)) H Q := wp_addStr (by rw [S_len, S_len]; exact hl) (by rw [S_app]; exact q)
theorem ixN_last {n : Nat} (h : 0 < n) : ixN n (-1) = some (n - 1) := by
  unfold ixN
  rw [if_neg (by omega), if_pos (by omega), show (-1 + (n : Int)).toNat = n - 1 by omega]
theorem at_last {α : Type} {xs : List α} (h : 0 < xs.length) : atI xs (-1) = xs[xs.length - 1]? := by
  unfold atI
  rw [ixN_last h]
  rfl
/-- tuples (number, direction) -/
inductive Steps (H : Hp) : List V → List (Nat × Int) → Prop
  | nil : Steps H [] []
  | cons {x : Addr} {s : Nat × Int} {xs : List V} {ss : List (Nat × Int)} (h : H x = some (.tup [.int s.1, .int s.2])) (r : Steps H xs ss) : Steps H (.ref x :: xs) (s :: ss)
theorem Steps.mono {H H' : Hp} (e : Same H H') : ∀ {xs : List V} {ss : List (Nat × Int)}, Steps H xs ss → Steps H' xs ss
  | _, _, .nil => .nil
  | _, _, .cons h r => .cons (e _ _ h) (r.mono e)
theorem Steps.len {H : Hp} : ∀ {xs : List V} {ss : List (Nat × Int)}, Steps H xs ss → xs.length = ss.length
  | _, _, .nil => rfl
  | _, _, .cons _ r => by rw [List.length_cons, List.length_cons, r.len]
theorem Steps.at_ {H : Hp} : ∀ {xs : List V} {ss : List (Nat × Int)} {i : Nat} {v : V}, Steps H xs ss → xs[i]? = some v → ∃ (x : Addr) (s : Nat × Int), v = .ref x ∧ ss[i]? = some s ∧ H x = some (.tup [.int s.1, .int s.2])
  | _, _, 0, _, .cons h _, hv => by cases hv; exact ⟨_, _, rfl, rfl, h⟩
  | _, _, i + 1, _, .cons _ r, hv => r.at_ (i := i) (by simpa using hv)
theorem Steps.app {H : Hp} {ys : List V} {ts : List (Nat × Int)} (k : Steps H ys ts) : ∀ {xs : List V} {ss : List (Nat × Int)}, Steps H xs ss → Steps H (xs ++ ys) (ss ++ ts)
  | _, _, .nil => k
  | _, _, .cons h r => .cons h (Steps.app k r)
theorem sm_steps {H : Hp} {n : Nat} {a b : Addr} {xs ys : List V} {ss : List (Nat × Int)} (ha : H a = some (.lst xs)) (hb : H b = some (.lst ys)) (h : Steps H xs ss) (k : Steps H ys ss) (hl : ss.length ≤ 1000) : Sm H (n + 3) (.ref a) (.ref b) := by
  refine .inr ⟨a, b, xs, ys, rfl, rfl, .inl ⟨ha, hb⟩, h.len.trans k.len.symm, by rw [k.len]; exact hl, fun i x y hx hy => ?_⟩
  obtain ⟨x, s, rfl, e1, h1⟩ := h.at_ hx
  obtain ⟨y, t, rfl, e2, h2⟩ := k.at_ hy
  rw [e1] at e2
  cases e2
  refine .inr ⟨x, y, _, _, rfl, rfl, .inr ⟨h1, h2⟩, rfl, by simp, fun i u v hu hv => ?_⟩
  rw [hu] at hv
  cases hv
  match i, hu with
  | 0, hu => cases hu; exact sm_int
  | 1, hu => cases hu; exact sm_int
/-- the words of a text, none of the empty text -/
def wdz (t : List Nat) : List (List Nat) := if t = [] then [] else wds t
def spell (ss : List (Nat × Int)) : List Nat := TL.joinL [32] (ss.map spelt)
theorem wdz_spell (ss : List (Nat × Int)) : wdz (spell ss) = ss.map spelt := by
  cases ss with
  | nil => rfl
  | cons s r =>
    have ne : ((s :: r).map spelt) ≠ [] := by simp
    have z := wds_join ne fun w hw => by
      obtain ⟨q, _, rfl⟩ := List.mem_map.mp hw
      exact spelt_free q
    unfold wdz spell
    rw [if_neg, z]
    intro e
    rw [e] at z
    cases r with
    | nil => exact spelt_ne s (List.cons.inj z).1.symm
    | cons a b => cases (List.cons.inj z).2
theorem sum_le {ws : List (List Nat)} {b : Nat} (h : ∀ w ∈ ws, w.length ≤ b) : ((ws.map S).map (·.length)).sum ≤ ws.length * b := by
  induction ws with
  | nil => simp
  | cons w r ih =>
    have z := ih fun x hx => h x (List.mem_cons_of_mem _ hx)
    have y := h w List.mem_cons_self
    rw [List.map_cons, List.map_cons, List.sum_cons, List.length_cons, S_len, Nat.add_mul]
    omega
theorem wp_joinW {K : PySem.W.Frag} {H : Hp} {Q : VK} {p : Addr} {ws : List (List Nat)} (hp : H p = some (.lst (ws.map sv))) (hn : ws.length ≤ 1000) (hw : ∀ w ∈ ws, w.length ≤ 10000) (q : Q (.str (S (TL.joinL [32] ws))) H) : rJoin K (.str (S [32])) [.ref p] H Q := by
  refine ⟨S [32], p, ws.map S, rfl, rfl, .inl (sq_of (by rw [List.map_map]; exact hp)), ?_, by rw [join_S2]; exact q⟩
  have z := sum_le hw
  have e : (S [32]).length = 1 := rfl
  rw [e, List.length_map]
  have : ws.length * 10000 ≤ 1000 * 10000 := Nat.mul_le_mul_right _ hn
  omega
theorem joinL_len : ∀ {ws : List (List Nat)} {b : Nat}, (∀ w ∈ ws, w.length ≤ b) → (TL.joinL [32] ws).length ≤ ws.length * (b + 1)
  | [], _, _ => Nat.zero_le _
  | [w], b, h => by
    have := h w List.mem_cons_self
    show w.length ≤ 1 * (b + 1)
    omega
  | w :: v :: r, b, h => by
    have z := joinL_len (ws := v :: r) fun x hx => h x (List.mem_cons_of_mem _ hx)
    have y := h w List.mem_cons_self
    show (w ++ ([32] ++ TL.joinL [32] (v :: r))).length ≤ (v :: r).length.succ * (b + 1)
    rw [List.length_append, List.length_append, Nat.succ_mul, List.length_singleton]
    omega
theorem wds_len : ∀ t, (wds t).length ≤ t.length + 1
  | [] => Nat.le_refl _
  | c :: t => by
    have z := wds_len t
    unfold wds
    split
    · simp only [List.length_cons]; omega
    · revert z
      cases wds t <;> (intro z; simp only [List.length_cons, List.length_nil] at z ⊢; omega)
theorem wds_word : ∀ t w, w ∈ wds t → w.length ≤ t.length
  | [], w, h => by rw [List.mem_singleton.mp (show w ∈ [[]] from h)]; exact Nat.le_refl _
  | c :: t, w, h => by
    have ih := wds_word t
    unfold wds at h
    split at h
    · rcases List.mem_cons.mp h with rfl | h
      · simp
      · have := ih w h
        simp only [List.length_cons]; omega
    · revert h ih
      cases wds t with
      | nil =>
        intro _ h
        rw [List.mem_singleton.mp h]
        simp
      | cons v r =>
        intro ih h
        rcases List.mem_cons.mp h with rfl | h
        · have := ih v List.mem_cons_self
          simp only [List.length_cons]; omega
        · have := ih w (List.mem_cons_of_mem _ h)
          simp only [List.length_cons]; omega
end RM
namespace RM
open PySem PySem.Spec PyProof.Rows L2
local macro_rules | `(tactic| walk_at "vn") => `(tactic| (first
  | with_reducible refine wp_v0 ?_
  | with_reducible refine wp_v1 ?_
  | with_reducible refine wp_v2 ?_
  | with_reducible refine wp_v3 ?_
  | with_reducible refine wp_v4 ?_
  | with_reducible refine wp_v5 ?_
  | with_reducible refine wp_v6 ?_
  | with_reducible refine wp_v7 ?_
  | with_reducible refine wp_v8 ?_
  | with_reducible refine wp_v9 ?_
  | with_reducible refine wp_v10 ?_
  | with_reducible refine wp_v11 ?_
  | with_reducible refine wp_v12 ?_
  | with_reducible refine wp_v13 ?_
  | with_reducible refine wp_v14 ?_
  | with_reducible refine wp_v15 ?_
  | with_reducible refine wp_v16 ?_
  | with_reducible refine wp_v17 ?_
  | with_reducible refine wp_v18 ?_
  | with_reducible refine wp_v19 ?_
  | with_reducible refine wp_v20 ?_
  | with_reducible refine wp_v21 ?_
  | with_reducible refine wp_v22 ?_
  | with_reducible refine wp_v23 ?_
  | with_reducible refine wp_v24 ?_
  | with_reducible refine wp_v25 ?_))
local macro_rules | `(tactic| walk_at "gn") => `(tactic| (first
  | with_reducible refine wp_g0 ?_
  | with_reducible refine wp_g1 ?_
  | with_reducible refine wp_g2 ?_
  | with_reducible refine wp_g3 ?_
  | with_reducible refine wp_g4 ?_
  | with_reducible refine wp_g5 ?_
  | with_reducible refine wp_g6 ?_
  | with_reducible refine wp_g7 ?_
  | with_reducible refine wp_g8 ?_
  | with_reducible refine wp_g9 ?_
  | with_reducible refine wp_g10 ?_
  | with_reducible refine wp_g11 ?_
  | with_reducible refine wp_g12 ?_
  | with_reducible refine wp_g13 ?_
  | with_reducible refine wp_g14 ?_
  | with_reducible refine wp_g15 ?_
  | with_reducible refine wp_g16 ?_
  | with_reducible refine wp_g17 ?_
  | with_reducible refine wp_g18 ?_
  | with_reducible refine wp_g19 ?_
  | with_reducible refine wp_g20 ?_
  | with_reducible refine wp_g21 ?_
  | with_reducible refine wp_g22 ?_
  | with_reducible refine wp_g23 ?_
  | with_reducible refine wp_g24 ?_
  | with_reducible refine wp_g25 ?_))
local macro_rules | `(tactic| walk_at "h") => `(tactic| (first
  | assumption
  | exact upd_same
  | exact (Sees.sub (by assumption) _ _ (by assumption))
  | exact (Sees.sub (by assumption) _ _ upd_same)
  | exact (Sees.sub (by assumption) _ _ (Eq.trans (upd_ne (by first | assumption | exact Ne.symm (by assumption))) (by assumption)))
  | exact (Sees.cell (by assumption))
  | exact (Sees.sub (by assumption) _ _ (Sees.cell (by assumption))) | fail "h"))
local macro_rules | `(tactic| walk_at "sq") => `(tactic| (first | assumption | exact sq_of (by walk_at "h") | fail "sq"))
local macro_rules | `(tactic| walk_at "tq") => `(tactic| (first | assumption | exact st_of (by walk_at "h") | fail "tq"))
local macro_rules | `(tactic| walk_at "isi") => `(tactic| (first
  | with_reducible refine is_non_int ?_
  | with_reducible refine is_non_bool ?_
  | with_reducible refine is_non_str ?_
  | with_reducible refine is_non_dict ?_
  | with_reducible refine is_non_list ?_
  | with_reducible refine is_non_tuple ?_
  | with_reducible refine is_bl_int ?_
  | with_reducible refine is_bl_bool ?_
  | with_reducible refine is_bl_str ?_
  | with_reducible refine is_bl_dict ?_
  | with_reducible refine is_bl_list ?_
  | with_reducible refine is_bl_tuple ?_
  | with_reducible refine is_int_int ?_
  | with_reducible refine is_int_bool ?_
  | with_reducible refine is_int_str ?_
  | with_reducible refine is_int_dict ?_
  | with_reducible refine is_int_list ?_
  | with_reducible refine is_int_tuple ?_
  | with_reducible refine is_str_int ?_
  | with_reducible refine is_str_bool ?_
  | with_reducible refine is_str_str ?_
  | with_reducible refine is_str_dict ?_
  | with_reducible refine is_str_list ?_
  | with_reducible refine is_str_tuple ?_
  | ((with_reducible refine' is_lst_int ?k1 ?_); (case k1 => walk_at "h"))
  | ((with_reducible refine' is_lst_bool ?k1 ?_); (case k1 => walk_at "h"))
  | ((with_reducible refine' is_lst_str ?k1 ?_); (case k1 => walk_at "h"))
  | ((with_reducible refine' is_lst_dict ?k1 ?_); (case k1 => walk_at "h"))
  | ((with_reducible refine' is_lst_list ?k1 ?_); (case k1 => walk_at "h"))
  | ((with_reducible refine' is_lst_tuple ?k1 ?_); (case k1 => walk_at "h"))
  | ((with_reducible refine' is_tup_int ?k1 ?_); (case k1 => walk_at "h"))
  | ((with_reducible refine' is_tup_bool ?k1 ?_); (case k1 => walk_at "h"))
  | ((with_reducible refine' is_tup_str ?k1 ?_); (case k1 => walk_at "h"))
  | ((with_reducible refine' is_tup_dict ?k1 ?_); (case k1 => walk_at "h"))
  | ((with_reducible refine' is_tup_list ?k1 ?_); (case k1 => walk_at "h"))
  | ((with_reducible refine' is_tup_tuple ?k1 ?_); (case k1 => walk_at "h"))
  | ((with_reducible refine' is_dK_int ?k1 ?_); (case k1 => walk_at "h"))
  | ((with_reducible refine' is_dK_bool ?k1 ?_); (case k1 => walk_at "h"))
  | ((with_reducible refine' is_dK_str ?k1 ?_); (case k1 => walk_at "h"))
  | ((with_reducible refine' is_dK_dict ?k1 ?_); (case k1 => walk_at "h"))
  | ((with_reducible refine' is_dK_list ?k1 ?_); (case k1 => walk_at "h"))
  | ((with_reducible refine' is_dK_tuple ?k1 ?_); (case k1 => walk_at "h"))
  | fail "isi"))
local macro_rules | `(tactic| walk_at "len") => `(tactic| (first | assumption | omega | (simp only [List.length_map, List.length_append, List.length_cons, List.length_nil] <;> omega) | decide | fail "len"))
local macro_rules | `(tactic| walk_at "at") => `(tactic| (first | exact at0 | exact at1 | exact at2 | exact at3 | exact at4 | rfl | assumption | fail "at"))
local macro_rules | `(tactic| walk_at "one") => `(tactic| (first
  | with_reducible refine wp_seq ?_
  | with_reducible refine wp_asg ?_
  | ((with_reducible refine is_var ?_); walk_at "vn")
  | ((with_reducible refine is_gname ?_); walk_at "gn")
  | with_reducible refine wp_c ?_
  | with_reducible refine wp_op ?_
  | with_reducible refine wp_cb ?_
  | with_reducible refine wp_cons ?_
  | with_reducible refine wp_nil ?_
  | with_reducible refine wp_call ?_
  | with_reducible refine wp_ret ?_
  | with_reducible refine wp_dgetE ?_
  | with_reducible refine wp_forItems ?_
  | with_reducible refine wp_forOwnL ?_
  | with_reducible refine wp_forOwnK ?_
  | with_reducible refine wp_subOwn ?_
  | with_reducible refine wp_din ?_
  | with_reducible refine wp_next ?_
  | with_reducible refine wp_rI0 ?_
  | with_reducible refine wp_int1 ?_
  | with_reducible refine wp_test ?_
  | with_reducible refine wp_bl ?_
  | with_reducible refine wp_ifS ?_
  | with_reducible refine wp_drop ?_
  | with_reducible refine wp_eqI ?_
  | with_reducible refine wp_eqS ?_
  | with_reducible refine wp_eqB ?_
  | with_reducible refine wp_neI ?_
  | with_reducible refine wp_neS ?_
  | with_reducible refine wp_min2 ?_
  | with_reducible refine wp_max2 ?_
  | with_reducible refine wp_find ?_
  | with_reducible refine wp_B ?_
  | with_reducible refine wp_not ?_
  | with_reducible refine wp_and ?_
  | with_reducible refine wp_or ?_
  | with_reducible refine wp_notV ?_
  | with_reducible refine wp_andV ?_
  | with_reducible refine wp_orV ?_
  | with_reducible refine wp_ifE ?_
  | with_reducible refine wp_chain ?_
  | with_reducible refine wp_slice ?_
  | with_reducible refine wp_noPart ?_
  | with_reducible refine wp_part ?_
  | with_reducible refine wp_partI ?_
  | with_reducible refine wp_for1 ?_
  | with_reducible refine wp_for2 ?_
  | with_reducible refine wp_forL ?_
  | with_reducible refine wp_forT ?_
  | with_reducible refine wp_forS ?_
  | with_reducible refine wp_lcL ?_
  | with_reducible refine wp_lcT ?_
  | with_reducible refine wp_lcS ?_
  | with_reducible refine wp_lc1 ?_
  | with_reducible refine wp_lcE ?_
  | with_reducible refine wp_starT ?_
  | with_reducible refine wp_brk ?_
  | with_reducible refine wp_cont ?_
  | with_reducible refine wp_bm ?_
  | with_reducible refine wp_bm0 ?_
  | with_reducible refine wp_gsub ?_
  | with_reducible refine wp_inS ?_
  | with_reducible refine wp_notInS ?_
  | with_reducible refine wp_un ?_
  | with_reducible refine wp_rU ?_
  | with_reducible refine wp_tup ?_
  | with_reducible refine wp_lst ?_
  | with_reducible refine ty_str ?_
  | with_reducible refine ite_t ?_
  | with_reducible refine ite_f ?_
  | with_reducible refine ite_nt ?_
  | with_reducible refine ite_nff ?_
  | ((with_reducible refine' ite_T ?k1 ?_); (case k1 => omega))
  | ((with_reducible refine' ite_F ?k1 ?_); (case k1 => omega))
  | ((with_reducible refine' ite_nT ?k1 ?_); (case k1 => omega))
  | ((with_reducible refine' ite_nF ?k1 ?_); (case k1 => omega))
  | ((with_reducible refine' wp_rI ?k1 ?_); (case k1 => (first | omega | exact ⟨by omega, by omega⟩ | exact .inr ⟨by decide, by decide⟩ | exact .inl ⟨by omega, by omega⟩ | exact .inl ⟨by decide, by decide⟩ | exact ⟨by decide, by decide, by decide⟩)))
  | ((with_reducible refine' wp_ixL ?k1 ?k2 ?_); (case k1 => walk_at "sq"); (case k2 => walk_at "at"))
  | ((with_reducible refine' wp_setL0 ?k1 ?_); (case k1 => walk_at "h"))
  | ((with_reducible refine' wp_setL1 ?k1 ?_); (case k1 => walk_at "h"))
  | ((with_reducible refine' wp_setL ?k1 ?k2 ?_); (case k1 => walk_at "h"); (case k2 => walk_at "at"))
  | ((with_reducible refine' wp_ixT ?k1 ?k2 ?_); (case k1 => walk_at "tq"); (case k2 => walk_at "at"))
  | ((with_reducible refine' wp_lenL ?k1 ?_); (case k1 => walk_at "sq"))
  | ((with_reducible refine' wp_lenT ?k1 ?_); (case k1 => walk_at "tq"))
  | ((with_reducible refine' wp_sliceS ?k1 ?_); (case k1 => walk_at "len"))
  | ((with_reducible refine is_isi ?_); walk_at "isi")
  | ((with_reducible refine' wp_lenS ?k1 ?_); (case k1 => walk_at "len"))
  | ((with_reducible refine' wp_addS ?k1 ?_); (case k1 => walk_at "len"))
  | ((with_reducible refine' wp_lenStr ?k1 ?_); (case k1 => walk_at "len"))
  | ((with_reducible refine' ty_list ?k1 ?_); (case k1 => walk_at "sq"))
  | ((with_reducible refine' wp_addStr ?k1 ?_); (case k1 => walk_at "len"))
  | with_reducible refine wp_fldC ?_
  | with_reducible refine wp_sfldC ?_
  | with_reducible refine wp_prop ?_
  | with_reducible refine wp_meth ?_
  | with_reducible refine wp_methD ?_
  | with_reducible refine wp_methK ?_
  | with_reducible refine wp_yes ?_
  | with_reducible refine wp_methR ?_
  | with_reducible refine wp_make ?_
  | with_reducible refine wp_isN ?_
  | with_reducible refine wp_enum ?_
  | with_reducible refine wp_gcons ?_
  | with_reducible refine wp_gnil ?_
  | ((with_reducible refine' wp_gtup ?k1 ?k2 ?_); (case k1 => walk_at "tq"); (case k2 => first | rfl | fail "gtup"))
  | ((with_reducible refine' fld_at ?k1 lk_T ?_); (case k1 => walk_at "h"))
  | ((with_reducible refine' fld_at ?k1 lk_e ?_); (case k1 => walk_at "h"))
  | ((with_reducible refine' fld_at ?k1 lk_mT ?_); (case k1 => walk_at "h"))
  | ((with_reducible refine' fld_at ?k1 lk_md ?_); (case k1 => walk_at "h"))
  | ((with_reducible refine' fld_at ?k1 lk_s ?_); (case k1 => walk_at "h"))
  | ((with_reducible refine' fld_at ?k1 lk_sm ?_); (case k1 => walk_at "h"))
  | with_reducible refine wp_dget2 ?_
  | with_reducible refine wp_ckw ?_
  | with_reducible refine wp_smeth ?_
  | with_reducible refine wp_forKeys ?_
  | with_reducible refine wp_dcL ?_
  | with_reducible refine wp_dcT ?_
  | with_reducible refine wp_subOwnX ?_
  | with_reducible refine wp_starO ?_
  | with_reducible refine wp_ownIX ?_
  | with_reducible refine wp_ownIS ?_
  | with_reducible refine wp_ownOX ?_
  | with_reducible refine wp_lcKeysF ?_
  | with_reducible refine wp_lcZ ?_
  | with_reducible refine wp_makeSt ?_
  | with_reducible refine wp_callS0 ?_
  | with_reducible refine wp_fs ?_
  | with_reducible refine wp_js ?_
  | with_reducible refine wp_js0 ?_
  | with_reducible refine wp_fmt ?_
  | with_reducible refine wp_cms ?_
  | with_reducible refine wp_cmk ?_
  | with_reducible refine wp_tru ?_
  | ((with_reducible refine' wp_isC ?k1 ?_); (case k1 => walk_at "h"))
  | fail "no step"))
local macro_rules | `(tactic| walk_at "st") => `(tactic| (repeat' walk_at "one"))
def sp_write_walk (K : PySem.W.Frag) : Sp := fun vs H Q _ => ∃ (a : Addr) (xs : List V) (ss : List (Nat × Int)), vs = [.ref a] ∧ H a = some (.lst xs) ∧ Steps H xs ss ∧ ss.length ≤ 1000 ∧ (∀ s ∈ ss, s.1 < 10 ^ 9 ∧ (s.2 = 1 ∨ s.2 = -1)) ∧ ∀ H', Same H H' → Q (.str (S (spell ss))) H' 
abbrev N_write_walk : List Str := ["walk", "signs", "number", "direction"]
theorem st_write_walk {a0 : V} : L2.start N_write_walk [a0] = [some a0, none, none, none] := rfl
def t_write_walk (K : PySem.W.Frag) : TS :=
  (tSeq ((tAsg ((tDisp ((tC (.int 1), tC (.str (S [43]))) :: (((tUn (rU fun i => .int (-i)) (tC (.int 1))), tC (.str (S [45]))) :: [])))) (gName 1)))
    ((tRet ((tM1 (rJoin K) (tC (.str (S [32]))) ((tLc ((iList K (tVar 0))) ((gTup K 2 (gCons (gName 2) (gCons (gName 3) gNil)))) (tYes) ((tFS (((tFmt (tVar 2))) :: (((tFmt ((tDGet (tVar 1) (tVar 3))))) :: [])))) [2, 3])))))))

theorem pure_write_walk (K : PySem.W.Frag) (vs : List V) (H : Hp) (Q : VK) (E : XK) (h : sp_write_walk K vs H Q E) : t_write_walk K { nx := fun _ H' => Q .non H', rt := Q } (L2.start N_write_walk vs) H := by
  obtain ⟨a, xs, ss, rfl, ha, hs, few, ok, k⟩ := h
  rw [st_write_walk]
  unfold t_write_walk
  have el := hs.len
  walk_at "st"
  refine wp_disp fun D hD => ?_
  show tC _ _ _ _
  walk_at "st"
  show tUn _ _ _ _ _
  walk_at "st"
  refine ⟨upd_same, [(.inl 1, .str (S [43])), (.inl (-1), .str (S [45]))], rfl, by simp, ?_⟩
  have s0 : Same H (upd (upd H D (.dK [])) D (.dK (mergeK [] [(.inl 1, .str (S [43])), (.inl (-1), .str (S [45]))]))) := Same.mut (Same.new hD) hD
  have hD2 : upd (upd H D (.dK [])) D (.dK (mergeK [] [(.inl 1, .str (S [43])), (.inl (-1), .str (S [45]))])) D = some (.dK [(.inl 1, .str (S [43])), (.inl (-1), .str (S [45]))]) := upd_same
  revert s0 hD2
  generalize upd (upd H D (.dK [])) D (.dK (mergeK [] [(.inl 1, .str (S [43])), (.inl (-1), .str (S [45]))])) = H1
  intro s0 hD2
  walk_at "st"
  refine wp_m1 ?_
  walk_at "st"
  refine ⟨⟨_, rfl⟩, ?_⟩
  walk_at "st"
  refine lcGL (sq_of (s0 _ _ ha)) (by omega) (fun i => ((ss.take i).map fun s => .str (S (spelt s)))) rfl (fun i => by simp only [List.length_map, List.length_take]; omega) (fun i x H2 R R0 hi s2 k1 k0 => ?_) (fun B H2 hB s2 hB2 => ?_)
  · obtain ⟨y, s, rfl, he, hy⟩ := (hs.mono (s0.trans s2)).at_ hi
    obtain ⟨n, d⟩ := s
    obtain ⟨b1, b2⟩ := ok (n, d) (List.mem_of_getElem? he)
    have b1 : n < 10 ^ 9 := b1
    have hD3 := s2 _ _ hD2
    have hy : H2 y = some (.tup [.int (n : Nat), .int d]) := hy
    rw [show wipe ([some (.ref a), some (.ref D), none, none] : L2.St) [2, 3] = [some (.ref a), some (.ref D), none, none] from rfl]
    walk_at "st"
    refine ⟨rfl, ?_⟩
    walk_at "st"
    refine .inr ⟨_, rfl, log2_ok (by omega), ?_⟩
    rw [numS]
    have ln := TL.numL_len (k := 9) (by decide) b1
    refine ⟨_, rfl, szl (by rw [show Str.empty ++ S (TL.numL n) = S (TL.numL n) from S_app [] _, S_len]; omega), ?_⟩
    rw [show Str.empty ++ S (TL.numL n) = S (TL.numL n) from S_app [] _]
    walk_at "st"
    rcases b2 with b2 | b2
    · obtain rfl : d = 1 := b2
      refine dget_at (k := .inl 1) (.inl hD3) rfl (.inl ⟨_, rfl, szl (by decide), _, rfl, szl (by rw [S_app, S_len, List.length_append, List.length_singleton]; omega), ?_⟩)
      rw [S_app]
      walk_at "st"
      exact k1 _ _ (Same.refl _) (by rw [take_snoc he, List.map_append]; rfl)
    · obtain rfl : d = -1 := b2
      refine dget_at (k := .inl (-1)) (.inl hD3) rfl (.inl ⟨_, rfl, szl (by decide), _, rfl, szl (by rw [S_app, S_len, List.length_append, List.length_singleton]; omega), ?_⟩)
      rw [S_app]
      walk_at "st"
      exact k1 _ _ (Same.refl _) (by rw [take_snoc he, List.map_append]; rfl)
  rw [el, List.take_length] at hB2
  walk_at "st"
  refine wp_joinW (ws := ss.map spelt) (by rw [List.map_map]; exact hB2) (by rw [List.length_map]; omega) (fun w hw => ?_) ?_
  · obtain ⟨q, hq, rfl⟩ := List.mem_map.mp hw
    have := spelt_len (ok q hq).1
    omega
  walk_at "st"
  exact k _ (s0.trans s2)
theorem len_write_walk (K : PySem.W.Frag) (vs : List V) (H : Hp) (Q : VK) (E : XK) (h : sp_write_walk K vs H Q E) : vs.length = 1 := by
  obtain ⟨_, _, _, rfl, _⟩ := h
  rfl
theorem c_write_walk {K : PySem.W.Frag} {a : Addr} {xs : List V} {ss : List (Nat × Int)} {H : Hp} {Q : VK} {E : XK} (ha : H a = some (.lst xs)) (hs : Steps H xs ss) (few : ss.length ≤ 1000) (ok : ∀ s ∈ ss, s.1 < 10 ^ 9 ∧ (s.2 = 1 ∨ s.2 = -1)) (k : ∀ H', Same H H' → Q (.str (S (spell ss))) H') : sp_write_walk K [.ref a] H Q E := ⟨a, xs, ss, rfl, ha, hs, few, ok, k⟩
def sp_l_pool (K : PySem.W.Frag) : Sp := fun vs H Q _ => ∃ (a : Addr) (ns : List Int), vs = [.ref a] ∧ SqL K H a (ns.map V.int) ∧ ns.length ≤ 63 ∧ ∀ (P : Pl) (G H' : Hp), Same H G → Sees P G H' → Q (.ref P.p) H'
abbrev N_l_pool : List Str := ["_law_script", "_law_cells", "_law_number", "_law_cell"]
theorem st_l_pool {a0 : V} : L2.start N_l_pool [a0] = [some a0, none, none, none] := rfl
def t_l_pool (K : PySem.W.Frag) : TS :=
  (tSeq ((tAsg (tLc ((iList K (tVar 0))) ((gName 3)) (tYes) ((tCB rInt1 ((tCons (tVar 3) (tNil))))) [3]) (gName 1)))
    ((tSeq ((tAsg (tC (.int 0)) (gName 2)))
    ((tSeq ((tIfS ((tAnd ((tTest (tOp (rI0 fun i j => .bl (decide (j < i))) ((tCB (rLenS K) ((tCons (tVar 1) (tNil))))) (tC (.int 0))))) ((tTest (tOp (rI0 fun i j => .bl (decide (j ≤ i))) ((tOp (rIxL K) (tVar 1) (tC (.int 0)))) ((tOp (rI CPow fun i j => .int (i ^ j.toNat)) (tC (.int 10)) (tC (.int 18))))))))) ((tAsg ((tOp (rIxL K) (tVar 1) (tC (.int 0)))) (gName 2))) (tNext)))
    ((tRet ((tLst ((tCons (tVar 2) ((tCons (tC (.int 0)) ((tCons (tVar 1) (tNil))))))))))))))))

theorem pure_l_pool (K : PySem.W.Frag) (vs : List V) (H : Hp) (Q : VK) (E : XK) (h : sp_l_pool K vs H Q E) : t_l_pool K { nx := fun _ H' => Q .non H', rt := Q } (L2.start N_l_pool vs) H := by
  obtain ⟨a, ns, rfl, hx, hn, k⟩ := h
  rw [st_l_pool]
  unfold t_l_pool
  walk_at "st"
  refine lcMapL hx (by rw [List.length_map]; omega) (fun x => [some (.ref a), none, none, some x]) (fun x => ⟨rfl, rfl⟩) id (fun x H2 hxm _ R hR => ?_) (fun D H2 hD s2 hl => ?_)
  · obtain ⟨n, _, rfl⟩ := List.mem_map.mp hxm
    walk_at "st"
    exact hR _ (Same.refl _)
  rw [List.map_id] at hl
  have fin : ∀ n : Int, [V.int n, V.int 0, V.ref D].length ≤ sizeLine ∧ ∀ p, H2 p = none → Q (.ref p) (upd H2 p (.lst [V.int n, V.int 0, V.ref D])) := fun n => ⟨szl (by simp), fun p hp => by
    have e : D ≠ p := ne_of_none hl hp
    exact k ⟨p, D, ns⟩ H2 _ s2 ⟨⟨n, 0, upd_same⟩, hl, hn, hp, Same.new hp⟩⟩
  walk_at "st"
  refine ite_dec (fun h1 => ?_) (fun h1 => ?_)
  · walk_at "st"
    refine wp_ixLI (by walk_at "sq") (by omega) h1 fun x _ => ?_
    walk_at "st"
    refine ite_dec (fun h2 => ?_) (fun h2 => ?_)
    · walk_at "st"
      refine wp_ixLI (by walk_at "sq") (by omega) h1 fun y _ => ?_
      walk_at "st"
      exact fin _
    · walk_at "st"
      exact fin _
  · walk_at "st"
    exact fin _
theorem len_l_pool (K : PySem.W.Frag) (vs : List V) (H : Hp) (Q : VK) (E : XK) (h : sp_l_pool K vs H Q E) : vs.length = 1 := by
  obtain ⟨a, ns, rfl, _⟩ := h
  rfl
theorem c_l_pool {K : PySem.W.Frag} {a : Addr} {ns : List Int} {H : Hp} {Q : VK} {E : XK} (hx : SqL K H a (ns.map V.int)) (hn : ns.length ≤ 63) (k : ∀ (P : Pl) (G H' : Hp), Same H G → Sees P G H' → Q (.ref P.p) H') : sp_l_pool K [.ref a] H Q E :=
  ⟨a, ns, rfl, hx, hn, k⟩

def sp_l_draw (K : PySem.W.Frag) : Sp := fun vs H Q _ => ∃ (P : Pl) (m : Int) (G : Hp), vs = [.ref P.p, .int m] ∧ 0 < m ∧ m < 1073741824 ∧ Sees P G H ∧ ∀ d H', 0 ≤ d → d < m → Sees P G H' → Q (.int d) H'
abbrev N_l_draw : List Str := ["_law_pool_here", "_law_many", "_law_found", "_law_cells", "_law_near", "_law_head", "_law_mixed"]
theorem st_l_draw {a0 a1 : V} : L2.start N_l_draw [a0, a1] = [some a0, some a1, none, none, none, none, none] := rfl
def t_l_draw (K : PySem.W.Frag) : TS :=
  (tSeq ((tIfS ((tTest (tOp (rI0 fun i j => .bl (decide (j < i))) ((tOp (rIxL K) (tVar 0) (tC (.int 0)))) (tC (.int 1))))) ((tSeq ((tAsg ((tOp (rI (fun _ j => 0 < j) fun i j => .int (i % j)) ((tCB rInt1 ((tCons ((tOp (rIxL K) (tVar 0) (tC (.int 0)))) (tNil))))) (tVar 1))) (gName 2)))
    ((tSeq ((tAsg ((tOp (rI CDiv fun i j => .int (i / j)) ((tOp (rIxL K) (tVar 0) (tC (.int 0)))) (tVar 1))) (gSub (tVar 0) (tC (.int 0)) rSetL)))
    ((tRet (tVar 2))))))) (tNext)))
    ((tSeq ((tAsg ((tOp (rI0 fun i j => .int (i + j)) ((tOp (rIxL K) (tVar 0) (tC (.int 1)))) (tC (.int 1)))) (gSub (tVar 0) (tC (.int 1)) rSetL)))
    ((tSeq ((tAsg ((tOp (rIxL K) (tVar 0) (tC (.int 2)))) (gName 3)))
    ((tSeq ((tAsg (tC (.int 0)) (gName 4)))
    ((tSeq ((tAsg (tC (.int 0)) (gName 5)))
    ((tSeq ((tIfS ((tTest (tOp (rI0 fun i j => .bl (decide (j < i))) ((tCB (rLenS K) ((tCons (tVar 3) (tNil))))) (tC (.int 0))))) ((tSeq ((tAsg ((tOp (rIxL K) (tVar 3) ((tOp (rI (fun _ j => 0 < j) fun i j => .int (i % j)) ((tCB rInt1 ((tCons ((tOp (rIxL K) (tVar 0) (tC (.int 1)))) (tNil))))) ((tCB (rLenS K) ((tCons (tVar 3) (tNil))))))))) (gName 4)))
    ((tAsg ((tOp (rIxL K) (tVar 3) (tC (.int 0)))) (gName 5))))) (tNext)))
    ((tSeq ((tAsg ((tOp (rI (fun _ j => 0 < j) fun i j => .int (i % j)) ((tCB rInt1 ((tCons ((tOp (rI0 fun i j => .int (i + j)) ((tOp (rI0 fun i j => .int (i + j)) ((tOp (rI0 fun i j => .int (i + j)) ((tOp (rI CMul fun i j => .int (i * j)) (tVar 4) (tC (.int 48271)))) ((tOp (rI CMul fun i j => .int (i * j)) (tVar 5) (tC (.int 16807)))))) ((tOp (rI CMul fun i j => .int (i * j)) ((tOp (rIxL K) (tVar 0) (tC (.int 1)))) (tC (.int 69621)))))) (tC (.int 7)))) (tNil))))) (tC (.int 2147483647)))) (gName 6)))
    ((tSeq ((tAsg ((tOp (rI (fun _ j => 0 < j) fun i j => .int (i % j)) ((tCB rInt1 ((tCons ((tOp (rI0 fun i j => .int (i + j)) ((tOp (rI0 fun i j => .int (i + j)) ((tOp (rI CMul fun i j => .int (i * j)) (tVar 6) (tVar 6))) ((tOp (rI CMul fun i j => .int (i * j)) (tVar 6) (tC (.int 40692)))))) ((tOp (rI CMul fun i j => .int (i * j)) ((tOp (rIxL K) (tVar 0) (tC (.int 1)))) (tC (.int 7919)))))) (tNil))))) (tC (.int 1000000007)))) (gName 6)))
    ((tRet ((tOp (rI (fun _ j => 0 < j) fun i j => .int (i % j)) ((tCB rInt1 ((tCons ((tOp (rI CDiv fun i j => .int (i / j)) (tVar 6) (tC (.int 11)))) (tNil))))) (tVar 1))))))))))))))))))))

theorem pure_l_draw (K : PySem.W.Frag) (vs : List V) (H : Hp) (Q : VK) (E : XK) (h : sp_l_draw K vs H Q E) : t_l_draw K { nx := fun _ H' => Q .non H', rt := Q } (L2.start N_l_draw vs) H := by
  obtain ⟨P, m, G, rfl, hm, hm2, hs, k⟩ := h
  obtain ⟨n, c, hp⟩ := hs.pool
  rw [st_l_draw]
  unfold t_l_draw
  walk_at "st"
  refine ite_dec (fun h1 => ?_) (fun h1 => ?_)
  · walk_at "st"
    exact k _ _ (Int.emod_nonneg _ (by omega)) (Int.emod_lt_of_pos _ hm) (hs.drawn _ _)
  · walk_at "st"
    have hs2 := hs.drawn n (c + 1)
    have hp2 : upd H P.p (.lst [.int n, .int (c + 1), .ref P.l]) P.p = some (.lst [.int n, .int (c + 1), .ref P.l]) := upd_same
    revert hs2 hp2
    generalize upd H P.p (.lst [.int n, .int (c + 1), .ref P.l]) = H2
    intro hs2 hp2
    walk_at "st"
    refine ite_dec (fun h2 => ?_) (fun h2 => ?_)
    · walk_at "st"
      refine wp_ixLI (by walk_at "sq") (Int.emod_nonneg _ (by omega)) (Int.emod_lt_of_pos _ h2) fun x _ => ?_
      walk_at "st"
      refine wp_ixLI (by walk_at "sq") (by omega) h2 fun y _ => ?_
      walk_at "st"
      exact k _ _ (Int.emod_nonneg _ (by omega)) (Int.emod_lt_of_pos _ hm) hs2
    · walk_at "st"
      exact k _ _ (Int.emod_nonneg _ (by omega)) (Int.emod_lt_of_pos _ hm) hs2
theorem len_l_draw (K : PySem.W.Frag) (vs : List V) (H : Hp) (Q : VK) (E : XK) (h : sp_l_draw K vs H Q E) : vs.length = 2 := by
  obtain ⟨P, m, G, rfl, _⟩ := h
  rfl
theorem c_l_draw {K : PySem.W.Frag} {P : Pl} {G H : Hp} {m : Int} {Q : VK} {E : XK} (hs : Sees P G H) (h0 : 0 < m ∧ m < 1073741824) (k : ∀ d H', 0 ≤ d → d < m → Sees P G H' → Q (.int d) H') : sp_l_draw K [.ref P.p, .int m] H Q E :=
  ⟨P, m, G, rfl, h0.1, h0.2, hs, k⟩

def sp_l_is_int (K : PySem.W.Frag) : Sp := fun vs H Q _ => ∃ (i : Int), vs = [.int i] ∧ Q (.bl true) H
abbrev N_l_is_int : List Str := ["_law_thing"]
theorem st_l_is_int {a0 : V} : L2.start N_l_is_int [a0] = [some a0] := rfl
def t_l_is_int (K : PySem.W.Frag) : TS :=
  (tRet ((tAndV ((tCB (rIsi K) ((tCons (tVar 0) ((tCons (tC (.ty "int")) (tNil))))))) ((tNotV ((tCB (rIsi K) ((tCons (tVar 0) ((tCons (tC (.ty "bool")) (tNil))))))))))))

theorem pure_l_is_int (K : PySem.W.Frag) (vs : List V) (H : Hp) (Q : VK) (E : XK) (h : sp_l_is_int K vs H Q E) : t_l_is_int K { nx := fun _ H' => Q .non H', rt := Q } (L2.start N_l_is_int vs) H := by
  obtain ⟨i, rfl, k⟩ := h
  rw [st_l_is_int]
  unfold t_l_is_int
  walk_at "st"
  exact k
theorem len_l_is_int (K : PySem.W.Frag) (vs : List V) (H : Hp) (Q : VK) (E : XK) (h : sp_l_is_int K vs H Q E) : vs.length = 1 := by
  obtain ⟨P, rfl, _⟩ := h
  rfl
theorem c_l_is_int {K : PySem.W.Frag} {i : Int} {H : Hp} {Q : VK} {E : XK} (k : Q (.bl true) H) : sp_l_is_int K [.int i] H Q E := ⟨i, rfl, k⟩
def sp_l_same (K : PySem.W.Frag) (n : Nat) : Sp := fun vs H Q _ => ∃ (u v : V), vs = [u, v] ∧ Sm H n u v ∧ ∀ H', Same H H' → Q (.bl true) H'
theorem sp0_l_same (K : PySem.W.Frag) {vs : List V} {H : Hp} {Q : VK} {E : XK} (h : sp_l_same K 0 vs H Q E) : False := by
  obtain ⟨u, v, _, h, _⟩ := h
  exact h
theorem c_l_same {K : PySem.W.Frag} {n : Nat} {u v : V} {H : Hp} {Q : VK} {E : XK} (h : Sm H n u v) (k : ∀ H', Same H H' → Q (.bl true) H') : sp_l_same K n [u, v] H Q E := ⟨u, v, rfl, h, k⟩
abbrev N_l_same : List Str := ["_law_actual", "_law_due_here", "_law_key", "_law_k"]
theorem st_l_same {a0 a1 : V} : L2.start N_l_same [a0, a1] = [some a0, some a1, none, none] := rfl
def t_l_same (K : PySem.W.Frag) (n : Nat) : TS :=
  (tSeq ((tIfS ((tTest (tOp rIsN (tVar 1) (tC .non)))) ((tRet ((tOp rIsN (tVar 0) (tC .non))))) (tNext)))
    ((tSeq ((tIfS ((tB ((tCB (rIsi K) ((tCons (tVar 1) ((tCons (tC (.ty "bool")) (tNil))))))))) ((tRet ((tAndV ((tCB (rIsi K) ((tCons (tVar 0) ((tCons (tC (.ty "bool")) (tNil))))))) ((tOp rEq (tVar 0) (tVar 1))))))) (tNext)))
    ((tSeq ((tIfS ((tB ((tCB (rIsi K) ((tCons (tVar 1) ((tCons (tC (.ty "int")) (tNil))))))))) ((tRet ((tAndV ((tCall (sp_l_is_int K) [] E0 ((tCons (tVar 0) (tNil))))) ((tOp rEq (tVar 0) (tVar 1))))))) (tNext)))
    ((tSeq ((tIfS ((tB ((tCB (rIsi K) ((tCons (tVar 1) ((tCons (tC (.ty "str")) (tNil))))))))) ((tRet ((tAndV ((tCB (rIsi K) ((tCons (tVar 0) ((tCons (tC (.ty "str")) (tNil))))))) ((tOp rEq (tVar 0) (tVar 1))))))) (tNext)))
    ((tSeq ((tIfS ((tB ((tCB (rIsi K) ((tCons (tVar 1) ((tCons (tC (.ty "dict")) (tNil))))))))) ((tSeq (tNever)
    ((tSeq (tNever)
    ((tRet (tC (.bl true)))))))) (tNext)))
    ((tSeq ((tIfS ((tAnd ((tB ((tCB (rIsi K) ((tCons (tVar 1) ((tCons (tC (.ty "list")) (tNil))))))))) ((tNot ((tB ((tCB (rIsi K) ((tCons (tVar 0) ((tCons (tC (.ty "list")) (tNil))))))))))))) ((tRet (tC (.bl false)))) (tNext)))
    ((tSeq ((tIfS ((tAnd ((tB ((tCB (rIsi K) ((tCons (tVar 1) ((tCons (tC (.ty "tuple")) (tNil))))))))) ((tNot ((tB ((tCB (rIsi K) ((tCons (tVar 0) ((tCons (tC (.ty "tuple")) (tNil))))))))))))) ((tRet (tC (.bl false)))) (tNext)))
    ((tSeq ((tIfS ((tTest (tOp rNe ((tCB (rLenS K) ((tCons (tVar 0) (tNil))))) ((tCB (rLenS K) ((tCons (tVar 1) (tNil)))))))) ((tRet (tC (.bl false)))) (tNext)))
    ((tSeq ((tFor ((iRng1 ((tCons ((tCB (rLenS K) ((tCons (tVar 1) (tNil))))) (tNil))))) (gName 3) ((tIfS ((tNot ((tB ((tCall (sp_l_same K n) [] E0 ((tCons ((tOp (rIx K) (tVar 0) (tVar 3))) ((tCons ((tOp (rIx K) (tVar 1) (tVar 3))) (tNil))))))))))) ((tRet (tC (.bl false)))) (tNext)))))
    ((tRet (tC (.bl true)))))))))))))))))))))

theorem pure_l_same (K : PySem.W.Frag) (n : Nat) (vs : List V) (H : Hp) (Q : VK) (E : XK) (h : sp_l_same K (n + 1) vs H Q E) : t_l_same K n { nx := fun _ H' => Q .non H', rt := Q } (L2.start N_l_same vs) H := by
  obtain ⟨u, v, rfl, h, k⟩ := h
  rw [st_l_same]
  unfold t_l_same
  rcases h with ⟨rfl, h⟩ | ⟨a, b, xs, ys, rfl, rfl, h, hl, hk, hr⟩
  · rcases h with rfl | ⟨c, rfl⟩ | ⟨i, rfl⟩ | ⟨z, rfl⟩
    · walk_at "st"
      rw [decide_eq_true rfl]
      walk_at "st"
      exact k _ (Same.refl _)
    · walk_at "st"
      rw [decide_eq_false (by simp)]
      walk_at "st"
      rw [decide_eq_true rfl]
      exact k _ (Same.refl _)
    · walk_at "st"
      rw [decide_eq_false (by simp)]
      walk_at "st"
      refine c_l_is_int ?_
      walk_at "st"
      rw [decide_eq_true rfl]
      exact k _ (Same.refl _)
    · walk_at "st"
      rw [decide_eq_false (by simp)]
      walk_at "st"
      rw [decide_eq_true rfl]
      exact k _ (Same.refl _)
  · rcases h with ⟨ha, hb⟩ | ⟨ha, hb⟩
    · walk_at "st"
      rw [decide_eq_false (by simp)]
      walk_at "st"
      refine loop1 (by omega) (fun i σ' H' => ∃ x y, σ' = [some (.ref a), some (.ref b), x, y] ∧ Same H H') ⟨_, _, rfl, Same.refl _⟩ ?_ ?_
      · rintro i σ' H' hi ⟨x, y, rfl, s2⟩
        have hyi : i < ys.length := by omega
        have hxi : i < xs.length := by omega
        walk_at "st"
        refine wp_rixL (sq_of (s2 _ _ ha)) (at_nth (List.getElem?_eq_getElem hxi)) ?_
        walk_at "st"
        refine wp_rixL (sq_of (s2 _ _ hb)) (at_nth (List.getElem?_eq_getElem hyi)) ?_
        walk_at "st"
        refine c_l_same ((hr i _ _ (List.getElem?_eq_getElem hxi) (List.getElem?_eq_getElem hyi)).mono s2) fun H3 s3 => ?_
        walk_at "st"
        exact ⟨_, _, rfl, s2.trans s3⟩
      · rintro σ' H' ⟨x, y, rfl, s2⟩
        walk_at "st"
        exact k _ s2
    · walk_at "st"
      rw [decide_eq_false (by simp)]
      walk_at "st"
      refine loop1 (by omega) (fun i σ' H' => ∃ x y, σ' = [some (.ref a), some (.ref b), x, y] ∧ Same H H') ⟨_, _, rfl, Same.refl _⟩ ?_ ?_
      · rintro i σ' H' hi ⟨x, y, rfl, s2⟩
        have hyi : i < ys.length := by omega
        have hxi : i < xs.length := by omega
        walk_at "st"
        refine wp_rixT (st_of (s2 _ _ ha)) (at_nth (List.getElem?_eq_getElem hxi)) ?_
        walk_at "st"
        refine wp_rixT (st_of (s2 _ _ hb)) (at_nth (List.getElem?_eq_getElem hyi)) ?_
        walk_at "st"
        refine c_l_same ((hr i _ _ (List.getElem?_eq_getElem hxi) (List.getElem?_eq_getElem hyi)).mono s2) fun H3 s3 => ?_
        walk_at "st"
        exact ⟨_, _, rfl, s2.trans s3⟩
      · rintro σ' H' ⟨x, y, rfl, s2⟩
        walk_at "st"
        exact k _ s2
theorem len_l_same (K : PySem.W.Frag) (n : Nat) (vs : List V) (H : Hp) (Q : VK) (E : XK) (h : sp_l_same K n vs H Q E) : vs.length = 2 := by
  obtain ⟨u, v, rfl, _⟩ := h
  rfl
def sp_l_step (K : PySem.W.Frag) : Sp := fun vs H Q _ => ∃ (P : Pl) (G : Hp), vs = [.ref P.p] ∧ Sees P G H ∧ ∀ (x : Addr) (n : Nat) (d : Int) G' H', n < 10 ^ 9 → (d = 1 ∨ d = -1) → Same G G' → Sees P G' H' → G' x = some (.tup [.int n, .int d]) → Q (.ref x) H' 
abbrev N_l_step : List Str := ["_law_pool_here", "_law_number"]
theorem st_l_step {a0 : V} : L2.start N_l_step [a0] = [some a0, none] := rfl
def t_l_step (K : PySem.W.Frag) : TS :=
  (tSeq ((tAsg ((tCall (sp_l_draw K) [] E0 ((tCons (tVar 0) ((tCons (tC (.int 24)) (tNil))))))) (gName 1)))
    ((tSeq ((tIfS ((tTest (tOp rEq ((tCall (sp_l_draw K) [] E0 ((tCons (tVar 0) ((tCons (tC (.int 4)) (tNil))))))) (tC (.int 0))))) ((tAsg ((tCall (sp_l_draw K) [] E0 ((tCons (tVar 0) ((tCons ((tOp (rI CPow fun i j => .int (i ^ j.toNat)) (tC (.int 10)) (tC (.int 9)))) (tNil))))))) (gName 1))) (tNext)))
    ((tRet ((tTup ((tCons (tVar 1) ((tCons ((tOp (rI0 fun i j => .int (i - j)) (tC (.int 1)) ((tOp (rI CMul fun i j => .int (i * j)) (tC (.int 2)) ((tCall (sp_l_draw K) [] E0 ((tCons (tVar 0) ((tCons (tC (.int 2)) (tNil))))))))))) (tNil))))))))))))

theorem pure_l_step (K : PySem.W.Frag) (vs : List V) (H : Hp) (Q : VK) (E : XK) (h : sp_l_step K vs H Q E) : t_l_step K { nx := fun _ H' => Q .non H', rt := Q } (L2.start N_l_step vs) H := by
  obtain ⟨P, G, rfl, hs, k⟩ := h
  rw [st_l_step]
  unfold t_l_step
  walk_at "st"
  refine c_l_draw hs (by omega) fun n H1 n0 n1 hs1 => ?_
  walk_at "st"
  refine c_l_draw hs1 (by omega) fun m H2 m0 m1 hs2 => ?_
  walk_at "st"
  refine ite_dec (fun h => ?_) (fun h => ?_)
  · walk_at "st"
    rw [show ((10 : Int) ^ (Int.toNat 9)) = 1000000000 from rfl]
    refine c_l_draw hs2 (by omega) fun n H3 n0 n1 hs3 => ?_
    walk_at "st"
    refine c_l_draw hs3 (by omega) fun e H4 e0 e1 hs4 => ?_
    walk_at "st"
    refine ⟨by simp [sizeLine_eq], fun p hp => ?_⟩
    obtain ⟨j, rfl⟩ : ∃ j : Nat, n = j := ⟨Int.toNat n, by omega⟩
    obtain ⟨G5, hs5, s5, g5⟩ := hs4.new' (.tup [.int (j : Nat), .int (1 - 2 * e)]) hp
    exact k p j (1 - 2 * e) G5 _ (by omega) (by omega) s5 hs5 g5
  · walk_at "st"
    refine c_l_draw hs2 (by omega) fun e H4 e0 e1 hs4 => ?_
    walk_at "st"
    refine ⟨by simp [sizeLine_eq], fun p hp => ?_⟩
    obtain ⟨j, rfl⟩ : ∃ j : Nat, n = j := ⟨Int.toNat n, by omega⟩
    obtain ⟨G5, hs5, s5, g5⟩ := hs4.new' (.tup [.int (j : Nat), .int (1 - 2 * e)]) hp
    exact k p j (1 - 2 * e) G5 _ (by omega) (by omega) s5 hs5 g5
theorem len_l_step (K : PySem.W.Frag) (vs : List V) (H : Hp) (Q : VK) (E : XK) (h : sp_l_step K vs H Q E) : vs.length = 1 := by
  obtain ⟨_, _, rfl, _⟩ := h
  rfl
theorem c_l_step {K : PySem.W.Frag} {P : Pl} {G H : Hp} {Q : VK} {E : XK} (hs : Sees P G H) (k : ∀ (x : Addr) (n : Nat) (d : Int) G' H', n < 10 ^ 9 → (d = 1 ∨ d = -1) → Same G G' → Sees P G' H' → G' x = some (.tup [.int n, .int d]) → Q (.ref x) H') : sp_l_step K [.ref P.p] H Q E := ⟨P, G, rfl, hs, k⟩
def sp_l_spelt (K : PySem.W.Frag) : Sp := fun vs H Q _ => ∃ (x : Addr) (n : Nat) (d : Int), vs = [.ref x] ∧ H x = some (.tup [.int n, .int d]) ∧ n < 10 ^ 9 ∧ (d = 1 ∨ d = -1) ∧ Q (.str (S (spelt (n, d)))) H
abbrev N_l_spelt : List Str := ["_law_step_here"]
theorem st_l_spelt {a0 : V} : L2.start N_l_spelt [a0] = [some a0] := rfl
def t_l_spelt (K : PySem.W.Frag) : TS :=
  (tSeq ((tIfS ((tTest (tOp rEq ((tOp (rIxT K) (tVar 0) (tC (.int 1)))) (tC (.int 1))))) ((tRet ((tOp rAddStr ((tCB rStrInt ((tCons ((tOp (rIxT K) (tVar 0) (tC (.int 0)))) (tNil))))) (tC (.str (S [43]))))))) (tNext)))
    ((tRet ((tOp rAddStr ((tCB rStrInt ((tCons ((tOp (rIxT K) (tVar 0) (tC (.int 0)))) (tNil))))) (tC (.str (S [45]))))))))

theorem pure_l_spelt (K : PySem.W.Frag) (vs : List V) (H : Hp) (Q : VK) (E : XK) (h : sp_l_spelt K vs H Q E) : t_l_spelt K { nx := fun _ H' => Q .non H', rt := Q } (L2.start N_l_spelt vs) H := by
  obtain ⟨x, n, d, rfl, hx, b1, b2, k⟩ := h
  rw [st_l_spelt]
  unfold t_l_spelt
  have ln := TL.numL_len (k := 9) (by decide) b1
  rcases b2 with rfl | rfl
  · walk_at "st"
    refine wp_strN (by omega) ?_
    walk_at "st"
    exact k
  · walk_at "st"
    refine wp_strN (by omega) ?_
    walk_at "st"
    exact k
theorem len_l_spelt (K : PySem.W.Frag) (vs : List V) (H : Hp) (Q : VK) (E : XK) (h : sp_l_spelt K vs H Q E) : vs.length = 1 := by
  obtain ⟨_, _, _, rfl, _⟩ := h
  rfl
theorem c_l_spelt {K : PySem.W.Frag} {x : Addr} {n : Nat} {d : Int} {H : Hp} {Q : VK} {E : XK} (hx : H x = some (.tup [.int n, .int d])) (b1 : n < 10 ^ 9) (b2 : d = 1 ∨ d = -1) (k : Q (.str (S (spelt (n, d)))) H) : sp_l_spelt K [.ref x] H Q E := ⟨x, n, d, rfl, hx, b1, b2, k⟩
def ODA : List (List Nat) := [[], [43], [45], [53], [48, 53, 43], [48, 48, 45], [53, 42], [45, 53, 43], [43, 53], [53, 43, 43], [53, 43, 45], Y_1234567890_45_, Y_0123456789_43_]
def ODB : List (List Nat) := [[97, 43], [53, 97, 45], [65], [48], [48, 43], [48, 45], [49, 48, 45], Y_123456789_43_, Y_999999999_45_]
def ODDS : List (List Nat) := ODA ++ ODB
abbrev ODD1 : List V := ODA.map sv
abbrev ODD2 : List V := ODB.map sv
def sp_l_odd (K : PySem.W.Frag) : Sp := fun vs H Q _ => ∃ (P : Pl) (G : Hp), vs = [.ref P.p] ∧ Sees P G H ∧ ∀ (w : List Nat) H', w.length ≤ 20 → Sees P G H' → Q (.str (S w)) H' 
abbrev N_l_odd : List Str := ["_law_pool_here", "_law_odd_here"]
theorem st_l_odd {a0 : V} : L2.start N_l_odd [a0] = [some a0, none] := rfl
def t_l_odd (K : PySem.W.Frag) : TS :=
  (tSeq ((tAsg ((tLst ((tCons (tC (.str (S []))) ((tCons (tC (.str (S [43]))) ((tCons (tC (.str (S [45]))) ((tCons (tC (.str (S [53]))) ((tCons (tC (.str (S [48, 53, 43]))) ((tCons (tC (.str (S [48, 48, 45]))) ((tCons (tC (.str (S [53, 42]))) ((tCons (tC (.str (S [45, 53, 43]))) ((tCons (tC (.str (S [43, 53]))) ((tCons (tC (.str (S [53, 43, 43]))) ((tCons (tC (.str (S [53, 43, 45]))) ((tCons (tC (.str (S Y_1234567890_45_))) ((tCons (tC (.str (S Y_0123456789_43_))) (tNil))))))))))))))))))))))))))))) (gName 1)))
    ((tSeq ((tAsg ((tOp rCat (tVar 1) ((tLst ((tCons (tC (.str (S [97, 43]))) ((tCons (tC (.str (S [53, 97, 45]))) ((tCons (tC (.str (S [65]))) ((tCons (tC (.str (S [48]))) ((tCons (tC (.str (S [48, 43]))) ((tCons (tC (.str (S [48, 45]))) ((tCons (tC (.str (S [49, 48, 45]))) ((tCons (tC (.str (S Y_123456789_43_))) ((tCons (tC (.str (S Y_999999999_45_))) (tNil))))))))))))))))))))))) (gName 1)))
    ((tRet ((tOp (rIxL K) (tVar 1) ((tCall (sp_l_draw K) [] E0 ((tCons (tVar 0) ((tCons (tC (.int 22)) (tNil))))))))))))))

theorem pure_l_odd (K : PySem.W.Frag) (vs : List V) (H : Hp) (Q : VK) (E : XK) (h : sp_l_odd K vs H Q E) : t_l_odd K { nx := fun _ H' => Q .non H', rt := Q } (L2.start N_l_odd vs) H := by
  obtain ⟨P, G, rfl, hs, k⟩ := h
  rw [st_l_odd]
  unfold t_l_odd
  walk_at "st"
  refine ⟨by simp [sizeLine_eq], fun a ha => ?_⟩
  obtain ⟨ga, na⟩ := hs.fresh ha
  walk_at "st"
  refine ⟨by simp [sizeLine_eq], fun b hb => ?_⟩
  walk_at "st"
  refine wp_cat ((upd_ne (ne_of_none upd_same hb)).trans upd_same) upd_same (by simp) fun c hc => ?_
  have hs1 := hs.set (o := .lst ODD1) ga na
  obtain ⟨gb, nb⟩ := hs1.fresh hb
  have hs2 := hs1.set (o := .lst ODD2) gb nb
  obtain ⟨gc, nc⟩ := hs2.fresh hc
  have hs3 := hs2.new (o := .lst (ODD1 ++ ODD2)) hc
  walk_at "st"
  refine c_l_draw hs3 (by omega) fun d H1 d0 d1 hs4 => ?_
  obtain ⟨hs5, hc5⟩ := hs4.back (hs2) gc
  walk_at "st"
  have e : ODD1 ++ ODD2 = ODDS.map sv := rfl
  rw [e] at hc5
  have el : ODDS.length = 22 := rfl
  have hj : d.toNat < ODDS.length := by omega
  have e2 : d = ((d.toNat : Nat) : Int) := by omega
  have hw : ODDS[d.toNat]? = some ODDS[d.toNat] := List.getElem?_eq_getElem hj
  have hl : ∀ w ∈ ODDS, w.length ≤ 20 := by decide +kernel
  refine wp_ixL (sq_of hc5) (by rw [e2, atI_nat (by rw [List.getElem?_map, hw]; rfl)]) ?_
  walk_at "st"
  exact k _ H1 (hl _ (List.getElem_mem hj)) hs5
theorem len_l_odd (K : PySem.W.Frag) (vs : List V) (H : Hp) (Q : VK) (E : XK) (h : sp_l_odd K vs H Q E) : vs.length = 1 := by
  obtain ⟨_, _, rfl, _⟩ := h
  rfl
theorem c_l_odd {K : PySem.W.Frag} {P : Pl} {G H : Hp} {Q : VK} {E : XK} (hs : Sees P G H) (k : ∀ (w : List Nat) H', w.length ≤ 20 → Sees P G H' → Q (.str (S w)) H') : sp_l_odd K [.ref P.p] H Q E := ⟨P, G, rfl, hs, k⟩
def sp_l_sign (K : PySem.W.Frag) : Sp := fun vs H Q _ => ∃ (P : Pl) (G : Hp), vs = [.ref P.p] ∧ Sees P G H ∧ ∀ (c : Nat) H', Sees P G H' → Q (.str (S [c])) H' 
abbrev N_l_sign : List Str := ["_law_pool_here", "_law_signs"]
theorem st_l_sign {a0 : V} : L2.start N_l_sign [a0] = [some a0, none] := rfl
def t_l_sign (K : PySem.W.Frag) : TS :=
  (tSeq ((tAsg (tC (.str (S Y__32__33__34__35__36__38__39__40__41__42__43__44__45__46__47_0123456789_58__59__60__61__62__63__64_ABCDEFGHIJKLMNOPQRSTUVWXYZ_91__92__93__94__95__96_abcdefghijklmnopqrstuvwxyz_123__124__125__126_))) (gName 1)))
    ((tRet ((tOp rIxS (tVar 1) ((tCall (sp_l_draw K) [] E0 ((tCons (tVar 0) ((tCons (tC (.int 94)) (tNil))))))))))))

theorem pure_l_sign (K : PySem.W.Frag) (vs : List V) (H : Hp) (Q : VK) (E : XK) (h : sp_l_sign K vs H Q E) : t_l_sign K { nx := fun _ H' => Q .non H', rt := Q } (L2.start N_l_sign vs) H := by
  obtain ⟨P, G, rfl, hs, k⟩ := h
  rw [st_l_sign]
  unfold t_l_sign
  walk_at "st"
  refine c_l_draw hs (by omega) fun d H1 d0 d1 hs1 => ?_
  walk_at "st"
  refine wp_ixSM (by decide +kernel) d0 (Int.lt_of_lt_of_le d1 (by decide +kernel)) fun c hc _ => ?_
  walk_at "st"
  exact k c H1 hs1
theorem len_l_sign (K : PySem.W.Frag) (vs : List V) (H : Hp) (Q : VK) (E : XK) (h : sp_l_sign K vs H Q E) : vs.length = 1 := by
  obtain ⟨_, _, rfl, _⟩ := h
  rfl
theorem c_l_sign {K : PySem.W.Frag} {P : Pl} {G H : Hp} {Q : VK} {E : XK} (hs : Sees P G H) (k : ∀ (c : Nat) H', Sees P G H' → Q (.str (S [c])) H') : sp_l_sign K [.ref P.p] H Q E := ⟨P, G, rfl, hs, k⟩
theorem cut_from {α : Type} {xs : List α} {k : Nat} : cutG xs (some (k : Int)) none = xs.drop k := by
  unfold cutG
  rw [HT.sIx_nat, HT.sIx_none]
  by_cases h : k ≤ xs.length
  · rw [Nat.min_eq_left h]
    exact List.take_of_length_le (by rw [List.length_drop]; omega)
  · rw [Nat.min_eq_right (by omega), List.drop_of_length_le (Nat.le_refl _), List.drop_of_length_le (by omega)]
    simp
def sp_l_changed (K : PySem.W.Frag) : Sp := fun vs H Q _ => ∃ (P : Pl) (G : Hp) (L : Addr) (xs : List V) (ss : List (Nat × Int)), vs = [.ref P.p, .ref L] ∧ Sees P G H ∧ G L = some (.lst xs) ∧ Steps G xs ss ∧ ss.length ≤ 20 ∧ (∀ s ∈ ss, s.1 < 10 ^ 9 ∧ (s.2 = 1 ∨ s.2 = -1)) ∧ ∀ (t : List Nat) G' H', t.length ≤ 900 → Same G G' → Sees P G' H' → Q (.str (S t)) H' 
abbrev N_l_changed : List Str := ["_law_pool_here", "_law_steps", "_law_words_here", "_law_k", "_law_odd_here", "_law_at", "_law_text", "_law_step_here"]
theorem st_l_changed {a0 a1 : V} : L2.start N_l_changed [a0, a1] = [some a0, some a1, none, none, none, none, none, none] := rfl
def t_l_changed (K : PySem.W.Frag) : TS :=
  (tSeq ((tAsg (tLc ((iList K (tVar 1))) ((gName 7)) (tYes) ((tCall (sp_l_spelt K) [] E0 ((tCons (tVar 7) (tNil))))) [7]) (gName 2)))
    ((tSeq ((tFor ((iRng1 ((tCons ((tOp (rI0 fun i j => .int (i + j)) (tC (.int 1)) ((tCall (sp_l_draw K) [] E0 ((tCons (tVar 0) ((tCons (tC (.int 2)) (tNil))))))))) (tNil))))) (gName 3) ((tSeq ((tAsg ((tCall (sp_l_odd K) [] E0 ((tCons (tVar 0) (tNil))))) (gName 4)))
    ((tSeq ((tAsg ((tCall (sp_l_draw K) [] E0 ((tCons (tVar 0) ((tCons ((tOp (rI0 fun i j => .int (i + j)) ((tCB (rLenS K) ((tCons (tVar 2) (tNil))))) (tC (.int 1)))) (tNil))))))) (gName 5)))
    ((tIfS ((tTest (tOp rEq ((tCall (sp_l_draw K) [] E0 ((tCons (tVar 0) ((tCons (tC (.int 2)) (tNil))))))) (tC (.int 0))))) ((tAsg ((tOp rCat ((tOp rCat ((tSl (rSlL K) (tVar 2) tNoPart (tPart (tVar 5)))) ((tLst ((tCons (tVar 4) (tNil))))))) ((tSl (rSlL K) (tVar 2) (tPart (tVar 5)) tNoPart)))) (gName 2))) ((tAsg ((tOp rCat ((tOp rCat ((tSl (rSlL K) (tVar 2) tNoPart (tPart (tVar 5)))) ((tLst ((tCons (tVar 4) (tNil))))))) ((tSl (rSlL K) (tVar 2) (tPart ((tOp (rI0 fun i j => .int (i + j)) (tVar 5) (tC (.int 1))))) tNoPart)))) (gName 2)))))))))))
    ((tSeq ((tAsg ((tM1 (rJoin K) (tC (.str (S [32]))) (tVar 2))) (gName 6)))
    ((tSeq ((tIfS ((tAnd ((tTest (tOp (rI0 fun i j => .bl (decide (j < i))) ((tCB rLenStr ((tCons (tVar 6) (tNil))))) (tC (.int 0))))) ((tTest (tOp rEq ((tCall (sp_l_draw K) [] E0 ((tCons (tVar 0) ((tCons (tC (.int 3)) (tNil))))))) (tC (.int 0))))))) ((tSeq ((tAsg ((tCall (sp_l_draw K) [] E0 ((tCons (tVar 0) ((tCons ((tCB rLenStr ((tCons (tVar 6) (tNil))))) (tNil))))))) (gName 5)))
    ((tAsg ((tOp rAddStr ((tOp rAddStr ((tSl rSlS (tVar 6) tNoPart (tPart (tVar 5)))) ((tCall (sp_l_sign K) [] E0 ((tCons (tVar 0) (tNil))))))) ((tSl rSlS (tVar 6) (tPart ((tOp (rI0 fun i j => .int (i + j)) (tVar 5) (tC (.int 1))))) tNoPart)))) (gName 6))))) (tNext)))
    ((tRet (tVar 6))))))))))

theorem pure_l_changed (K : PySem.W.Frag) (vs : List V) (H : Hp) (Q : VK) (E : XK) (h : sp_l_changed K vs H Q E) : t_l_changed K { nx := fun _ H' => Q .non H', rt := Q } (L2.start N_l_changed vs) H := by
  obtain ⟨P, G, L, xs, ss, rfl, hs, hL, hst, few, ok, k⟩ := h
  rw [st_l_changed]
  unfold t_l_changed
  have el := hst.len
  walk_at "st"
  refine lcGL (sq_of (hs.sub _ _ hL)) (by omega) (fun i => ((ss.take i).map fun s => sv (spelt s))) rfl (fun i => by simp only [List.length_map, List.length_take]; omega) (fun i x H2 R R0 hi s2 k1 k0 => ?_) (fun B H2 hB s2 hB2 => ?_)
  · obtain ⟨y, s, rfl, he, hy⟩ := (hst.mono (hs.sub.trans s2)).at_ hi
    obtain ⟨b1, b2⟩ := ok s (List.mem_of_getElem? he)
    rw [show wipe ([some (.ref P.p), some (.ref L), none, none, none, none, none, none] : L2.St) [7] = [some (.ref P.p), some (.ref L), none, none, none, none, none, none] from rfl]
    walk_at "st"
    refine ⟨rfl, ?_⟩
    walk_at "st"
    refine c_l_spelt hy b1 b2 ?_
    exact k1 _ _ (Same.refl _) (by rw [take_snoc he, List.map_append]; rfl)
  rw [el, List.take_length] at hB2
  obtain ⟨gB, nB⟩ := hs.fresh hB
  have hs2 := (hs.same s2).with gB hB2 nB
  have g0 : Same G (upd G B (.lst (ss.map fun s => sv (spelt s)))) := Same.new gB
  have eB : upd G B (.lst (ss.map fun s => sv (spelt s))) B = some (.lst ((ss.map spelt).map sv)) := by rw [upd_same, List.map_map]; rfl
  revert hs2 g0 eB
  generalize upd G B (.lst (ss.map fun s => sv (spelt s))) = G1
  intro hs2 g0 eB
  walk_at "st"
  refine c_l_draw hs2 (by omega) fun m H3 m0 m1 hs3 => ?_
  walk_at "st"
  refine loop1 (by omega) (fun i σ' H' => ∃ (W : Addr) (ws : List (List Nat)) (x y z : Option V) (G' : Hp), σ' = [some (.ref P.p), some (.ref L), some (.ref W), x, y, z, none, none] ∧ Same G G' ∧ Sees P G' H' ∧ G' W = some (.lst (ws.map sv)) ∧ ws.length ≤ 20 + i ∧ ∀ w ∈ ws, w.length ≤ 20) ⟨B, ss.map spelt, _, _, _, G1, rfl, g0, hs3, eB, by rw [List.length_map]; omega, fun w hw => ?_⟩ ?_ ?_
  · obtain ⟨q, hq, rfl⟩ := List.mem_map.mp hw
    have := spelt_len (ok q hq).1
    omega
  · rintro i σ' H' hi ⟨W, ws, x, y, z, G2, rfl, g2, hs4, hW, lw0, ok2⟩
    have elw : (ws.map sv).length = ws.length := List.length_map ..
    walk_at "st"
    refine c_l_odd hs4 fun w H5 lw hs5' => ?_
    walk_at "st"
    have hWx := hs5'.sub _ _ hW
    walk_at "st"
    refine c_l_draw hs5' (by omega) fun at_ H6 a0 a1 hs6 => ?_
    obtain ⟨a, rfl⟩ : ∃ a : Nat, at_ = a := ⟨at_.toNat, by omega⟩
    walk_at "st"
    refine c_l_draw hs6 (by omega) fun e H7 e0 e1 hs5 => ?_
    have hW5 := hW
    walk_at "st"
    refine ite_dec (fun h => ?_) (fun h => ?_)
    · walk_at "st"
      refine wp_sliceL (sq_of (hs5.sub _ _ hW5)) fun b1 hb1 => ?_
      rw [cutG_to (by rw [List.length_map]; omega), ← List.map_take]
      obtain ⟨Ga, hsa, ga, ea⟩ := hs5.new' (.lst ((ws.take a).map sv)) hb1
      walk_at "st"
      refine ⟨by simp [sizeLine_eq], fun b2 hb2 => ?_⟩
      obtain ⟨Gb, hsb, gb, eb⟩ := hsa.new' (.lst [.str (S w)]) hb2
      walk_at "st"
      refine wp_cat (hsb.sub _ _ (gb _ _ ea)) (hsb.sub _ _ eb) (by rw [List.length_map, List.length_take, List.length_singleton]; omega) fun b3 hb3 => ?_
      obtain ⟨Gc, hsc, gc, ec⟩ := hsb.new' (.lst ((ws.take a).map sv ++ [.str (S w)])) hb3
      walk_at "st"
      refine wp_sliceL (sq_of (hsc.sub _ _ (gc _ _ (gb _ _ (ga _ _ hW5))))) fun b4 hb4 => ?_
      rw [show (cutG (ws.map sv) (some ((a : Nat) : Int)) none) = (ws.drop (a)).map sv by rw [List.map_drop, ← cut_from] <;> rfl]
      obtain ⟨Gd, hsd, gd, ed⟩ := hsc.new' (.lst ((ws.drop (a)).map sv)) hb4
      walk_at "st"
      refine wp_cat (hsd.sub _ _ (gd _ _ ec)) (hsd.sub _ _ ed) (by rw [List.length_append, List.length_map, List.length_map, List.length_take, List.length_drop, List.length_singleton]; omega) fun b5 hb5 => ?_
      obtain ⟨Ge, hse, ge, ee⟩ := hsd.new' (.lst ((ws.take a).map sv ++ [.str (S w)] ++ (ws.drop (a)).map sv)) hb5
      walk_at "st"
      refine ⟨b5, ws.take a ++ [w] ++ ws.drop (a), _, _, _, Ge, rfl, ((((g2.trans ga).trans gb).trans gc).trans gd).trans ge, hse, by rw [ee, List.map_append, List.map_append]; rfl, ?_, fun v hv => ?_⟩
      · rw [List.length_append, List.length_append, List.length_take, List.length_drop, List.length_singleton]; omega
      · rcases List.mem_append.mp hv with hv | hv
        · rcases List.mem_append.mp hv with hv | hv
          · exact ok2 v (List.mem_of_mem_take hv)
          · rw [List.mem_singleton.mp hv]; exact lw
        · exact ok2 v (List.mem_of_mem_drop hv)
    · walk_at "st"
      refine wp_sliceL (sq_of (hs5.sub _ _ hW5)) fun b1 hb1 => ?_
      rw [cutG_to (by rw [List.length_map]; omega), ← List.map_take]
      obtain ⟨Ga, hsa, ga, ea⟩ := hs5.new' (.lst ((ws.take a).map sv)) hb1
      walk_at "st"
      refine ⟨by simp [sizeLine_eq], fun b2 hb2 => ?_⟩
      obtain ⟨Gb, hsb, gb, eb⟩ := hsa.new' (.lst [.str (S w)]) hb2
      walk_at "st"
      refine wp_cat (hsb.sub _ _ (gb _ _ ea)) (hsb.sub _ _ eb) (by rw [List.length_map, List.length_take, List.length_singleton]; omega) fun b3 hb3 => ?_
      obtain ⟨Gc, hsc, gc, ec⟩ := hsb.new' (.lst ((ws.take a).map sv ++ [.str (S w)])) hb3
      walk_at "st"
      refine wp_sliceL (sq_of (hsc.sub _ _ (gc _ _ (gb _ _ (ga _ _ hW5))))) fun b4 hb4 => ?_
      rw [show (cutG (ws.map sv) (some (((a : Nat) : Int) + 1)) none) = (ws.drop (a + 1)).map sv by rw [List.map_drop, ← cut_from] <;> rfl]
      obtain ⟨Gd, hsd, gd, ed⟩ := hsc.new' (.lst ((ws.drop (a + 1)).map sv)) hb4
      walk_at "st"
      refine wp_cat (hsd.sub _ _ (gd _ _ ec)) (hsd.sub _ _ ed) (by rw [List.length_append, List.length_map, List.length_map, List.length_take, List.length_drop, List.length_singleton]; omega) fun b5 hb5 => ?_
      obtain ⟨Ge, hse, ge, ee⟩ := hsd.new' (.lst ((ws.take a).map sv ++ [.str (S w)] ++ (ws.drop (a + 1)).map sv)) hb5
      walk_at "st"
      refine ⟨b5, ws.take a ++ [w] ++ ws.drop (a + 1), _, _, _, Ge, rfl, ((((g2.trans ga).trans gb).trans gc).trans gd).trans ge, hse, by rw [ee, List.map_append, List.map_append]; rfl, ?_, fun v hv => ?_⟩
      · rw [List.length_append, List.length_append, List.length_take, List.length_drop, List.length_singleton]; omega
      · rcases List.mem_append.mp hv with hv | hv
        · rcases List.mem_append.mp hv with hv | hv
          · exact ok2 v (List.mem_of_mem_take hv)
          · rw [List.mem_singleton.mp hv]; exact lw
        · exact ok2 v (List.mem_of_mem_drop hv)
  · rintro σ' H' ⟨W, ws, x, y, z, G2, rfl, g2, hs4, hW, lw0, ok2⟩
    have lw1 : ws.length ≤ 22 := by omega
    walk_at "st"
    refine wp_m1 ?_
    walk_at "st"
    refine ⟨⟨_, rfl⟩, ?_⟩
    walk_at "st"
    refine wp_joinW (hs4.sub _ _ hW) (by omega) (fun w hw => by have := ok2 w hw; omega) ?_
    have lj := joinL_len ok2
    have lj2 : (TL.joinL [32] ws).length ≤ 22 * 21 := Nat.le_trans lj (Nat.mul_le_mul_right _ lw1)
    generalize TL.joinL [32] ws = t at lj2
    clear lj
    walk_at "st"
    refine ite_dec (fun h => ?_) (fun h => ?_)
    · walk_at "st"
      refine c_l_draw hs4 (by omega) fun e H5 e0 e1 hs5 => ?_
      walk_at "st"
      refine ite_dec (fun h2 => ?_) (fun h2 => ?_)
      · walk_at "st"
        refine c_l_draw hs5 (by omega) fun at_ H6 a0 a1 hs6 => ?_
        obtain ⟨a, rfl⟩ : ∃ a : Nat, at_ = a := ⟨at_.toNat, by omega⟩
        walk_at "st"
        rw [cutG_to (by omega)]
        refine c_l_sign hs6 fun c H7 hs7 => ?_
        have lt : (t.take a).length ≤ 462 := by rw [List.length_take]; omega
        walk_at "st"
        rw [show cutG t (some (((a : Nat) : Int) + 1)) none = t.drop (a + 1) by rw [← cut_from]; rfl]
        have ld : (t.drop (a + 1)).length ≤ 462 := by rw [List.length_drop]; omega
        walk_at "st"
        exact k _ G2 H7 (by simp only [List.length_append, List.length_singleton, List.length_take, List.length_drop]; omega) g2 hs7
      · walk_at "st"
        exact k t G2 H5 (by omega) g2 hs5
    · walk_at "st"
      exact k t G2 H' (by omega) g2 hs4
theorem len_l_changed (K : PySem.W.Frag) (vs : List V) (H : Hp) (Q : VK) (E : XK) (h : sp_l_changed K vs H Q E) : vs.length = 2 := by
  obtain ⟨_, _, _, _, _, rfl, _⟩ := h
  rfl
theorem c_l_changed {K : PySem.W.Frag} {P : Pl} {G H : Hp} {L : Addr} {xs : List V} {ss : List (Nat × Int)} {Q : VK} {E : XK} (hs : Sees P G H) (hL : G L = some (.lst xs)) (hst : Steps G xs ss) (few : ss.length ≤ 20) (ok : ∀ s ∈ ss, s.1 < 10 ^ 9 ∧ (s.2 = 1 ∨ s.2 = -1)) (k : ∀ (t : List Nat) G' H', t.length ≤ 900 → Same G G' → Sees P G' H' → Q (.str (S t)) H') : sp_l_changed K [.ref P.p, .ref L] H Q E := ⟨P, G, L, xs, ss, rfl, hs, hL, hst, few, ok, k⟩
def sp_l_free (K : PySem.W.Frag) : Sp := fun vs H Q _ => ∃ (P : Pl) (G : Hp), vs = [.ref P.p] ∧ Sees P G H ∧ ∀ (t : List Nat) H', t.length ≤ 100 → Sees P G H' → Q (.str (S t)) H' 
abbrev N_l_free : List Str := ["_law_pool_here", "_law_text", "_law_k", "_law_sign_here"]
theorem st_l_free {a0 : V} : L2.start N_l_free [a0] = [some a0, none, none, none] := rfl
def t_l_free (K : PySem.W.Frag) : TS :=
  (tSeq ((tAsg (tC (.str (S []))) (gName 1)))
    ((tSeq ((tFor ((iRng1 ((tCons ((tCall (sp_l_draw K) [] E0 ((tCons (tVar 0) ((tCons (tC (.int 41)) (tNil))))))) (tNil))))) (gName 2) ((tSeq ((tAsg ((tOp rIxS (tC (.str (S Y_0123456789_43__43__45__45__32_))) ((tCall (sp_l_draw K) [] E0 ((tCons (tVar 0) ((tCons (tC (.int 15)) (tNil))))))))) (gName 3)))
    ((tSeq ((tIfS ((tTest (tOp rEq ((tCall (sp_l_draw K) [] E0 ((tCons (tVar 0) ((tCons (tC (.int 16)) (tNil))))))) (tC (.int 0))))) ((tAsg ((tCall (sp_l_sign K) [] E0 ((tCons (tVar 0) (tNil))))) (gName 3))) (tNext)))
    ((tAsg ((tOp rAddStr (tVar 1) (tVar 3))) (gName 1)))))))))
    ((tRet (tVar 1))))))

theorem pure_l_free (K : PySem.W.Frag) (vs : List V) (H : Hp) (Q : VK) (E : XK) (h : sp_l_free K vs H Q E) : t_l_free K { nx := fun _ H' => Q .non H', rt := Q } (L2.start N_l_free vs) H := by
  obtain ⟨P, G, rfl, hs, k⟩ := h
  rw [st_l_free]
  unfold t_l_free
  walk_at "st"
  refine c_l_draw hs (by omega) fun m H1 m0 m1 hs1 => ?_
  walk_at "st"
  refine loop1 (by omega) (fun i σ' H' => ∃ (t : List Nat) (x y : Option V), σ' = [some (.ref P.p), some (.str (S t)), x, y] ∧ t.length ≤ i ∧ Sees P G H') ⟨[], _, _, rfl, Nat.le_refl _, hs1⟩ ?_ ?_
  · rintro i σ' H' hi ⟨t, x, y, rfl, ht, hs2⟩
    walk_at "st"
    refine c_l_draw hs2 (by omega) fun d H3 d0 d1 hs3 => ?_
    walk_at "st"
    refine wp_ixSM (by decide +kernel) d0 (Int.lt_of_lt_of_le d1 (by decide +kernel)) fun c hc _ => ?_
    walk_at "st"
    refine c_l_draw hs3 (by omega) fun e H4 e0 e1 hs4 => ?_
    walk_at "st"
    refine ite_dec (fun h => ?_) (fun h => ?_)
    · walk_at "st"
      refine c_l_sign hs4 fun c2 H5 hs5 => ?_
      walk_at "st"
      exact ⟨t ++ [c2], _, _, rfl, by rw [List.length_append, List.length_singleton]; omega, hs5⟩
    · walk_at "st"
      exact ⟨t ++ [c], _, _, rfl, by rw [List.length_append, List.length_singleton]; omega, hs4⟩
  · rintro σ' H' ⟨t, x, y, rfl, ht, hs2⟩
    walk_at "st"
    exact k t H' (by omega) hs2
theorem len_l_free (K : PySem.W.Frag) (vs : List V) (H : Hp) (Q : VK) (E : XK) (h : sp_l_free K vs H Q E) : vs.length = 1 := by
  obtain ⟨_, _, rfl, _⟩ := h
  rfl
theorem c_l_free {K : PySem.W.Frag} {P : Pl} {G H : Hp} {Q : VK} {E : XK} (hs : Sees P G H) (k : ∀ (t : List Nat) H', t.length ≤ 100 → Sees P G H' → Q (.str (S t)) H') : sp_l_free K [.ref P.p] H Q E := ⟨P, G, rfl, hs, k⟩
def sp_l_words (K : PySem.W.Frag) : Sp := fun vs H Q _ => ∃ (t : List Nat), vs = [.str (S t)] ∧ t.length ≤ 10000 ∧ ∀ p H', Same H H' → H p = none → H' p = some (.lst ((wds t).map sv)) → Q (.ref p) H' 
abbrev N_l_words : List Str := ["_law_text", "_law_words_here", "_law_sign_here"]
theorem st_l_words {a0 : V} : L2.start N_l_words [a0] = [some a0, none, none] := rfl
def t_l_words (K : PySem.W.Frag) : TS :=
  (tSeq ((tAsg ((tLst ((tCons (tC (.str (S []))) (tNil))))) (gName 1)))
    ((tSeq ((tFor ((iStr (tVar 0))) (gName 2) ((tIfS ((tTest (tOp rEq (tVar 2) (tC (.str (S [32])))))) ((tDrop ((tBM K "list" rAppend (tVar 1) ((tCons (tC (.str (S []))) (tNil))))))) ((tAsg ((tOp rAddStr ((tOp (rIxL K) (tVar 1) ((tUn (rU fun i => .int (-i)) (tC (.int 1)))))) (tVar 2))) (gSub (tVar 1) ((tUn (rU fun i => .int (-i)) (tC (.int 1)))) rSetL)))))))
    ((tRet (tVar 1))))))

theorem pure_l_words (K : PySem.W.Frag) (vs : List V) (H : Hp) (Q : VK) (E : XK) (h : sp_l_words K vs H Q E) : t_l_words K { nx := fun _ H' => Q .non H', rt := Q } (L2.start N_l_words vs) H := by
  obtain ⟨t, rfl, few, k⟩ := h
  rw [st_l_words]
  unfold t_l_words
  walk_at "st"
  refine ⟨by simp [sizeLine_eq], fun W hW => ?_⟩
  walk_at "st"
  refine loopS (l := t) (fun i σ' H' => ∃ y, σ' = [some (.str (S t)), some (.ref W), y] ∧ Same H H' ∧ H' W = some (.lst ((wds (t.take i)).map sv))) ⟨_, rfl, Same.new hW, upd_same⟩ ?_ ?_
  · rintro i c σ' H' hc ⟨y, rfl, s, hW1⟩
    obtain ⟨a, w, e1, e2⟩ := wds_snoc (t.take i) c
    rw [← take_snoc hc] at e2
    rw [e1, List.map_append] at hW1
    have la : a.length ≤ 10000 := by
      have z := congrArg List.length e1
      rw [List.length_append, List.length_singleton] at z
      have y2 := wds_len (t.take i)
      rw [List.length_take] at y2
      omega
    have lw : w.length ≤ 10000 := by
      have y2 := wds_word (t.take i) w (by rw [e1]; simp)
      rw [List.length_take] at y2
      omega
    walk_at "st"
    refine ite_dec (fun h => ?_) (fun h => ?_)
    · obtain rfl : c = 32 := (List.cons.inj (S_inj h)).1
      walk_at "st"
      refine wp_append hW1 (by rw [List.length_append, List.length_map]; simp; omega) ?_
      walk_at "st"
      refine ⟨_, rfl, Same.mut s hW, ?_⟩
      rw [upd_same, e2, if_pos rfl]
      simp
    · have hc2 : c ≠ 32 := fun e => h (by rw [e])
      walk_at "st"
      have lx : 0 < (a.map sv ++ [w].map sv).length := by simp
      refine wp_ixL (sq_of hW1) (v := sv w) (by rw [at_last lx]; simp) ?_
      walk_at "st"
      refine wp_setL hW1 (ixN_last lx) ?_
      walk_at "st"
      refine ⟨_, rfl, Same.mut s hW, ?_⟩
      rw [upd_same, e2, if_neg hc2]
      simp
  · rintro σ' H' ⟨y, rfl, s, hW1⟩
    rw [List.take_length] at hW1
    walk_at "st"
    exact k W H' s hW hW1
theorem len_l_words (K : PySem.W.Frag) (vs : List V) (H : Hp) (Q : VK) (E : XK) (h : sp_l_words K vs H Q E) : vs.length = 1 := by
  obtain ⟨_, rfl, _⟩ := h
  rfl
theorem c_l_words {K : PySem.W.Frag} {t : List Nat} {H : Hp} {Q : VK} {E : XK} (few : t.length ≤ 10000) (k : ∀ p H', Same H H' → H p = none → H' p = some (.lst ((wds t).map sv)) → Q (.ref p) H') : sp_l_words K [.str (S t)] H Q E := ⟨t, rfl, few, k⟩
theorem z10d' {c : Nat} : c ∈ Z10 ↔ isDg c := by
  rw [z10]
  rfl
def sp_l_read (K : PySem.W.Frag) : Sp := fun vs H Q _ => ∃ (w : List Nat), vs = [.str (S w)] ∧ w.length ≤ 10000 ∧ (rdW w = none → Q .non H) ∧ ∀ n d, rdW w = some (n, d) → ∀ x H', Same H H' → H x = none → H' x = some (.tup [.int (n : Nat), .int d]) → Q (.ref x) H' 
abbrev N_l_read : List Str := ["_law_word", "_law_number", "_law_sign_here"]
theorem st_l_read {a0 : V} : L2.start N_l_read [a0] = [some a0, none, none] := rfl
def t_l_read (K : PySem.W.Frag) : TS :=
  (tSeq ((tIfS ((tOr ((tTest (tOp (rI0 fun i j => .bl (decide (i < j))) ((tCB rLenStr ((tCons (tVar 0) (tNil))))) (tC (.int 2))))) ((tTest (tOp (rI0 fun i j => .bl (decide (j < i))) ((tCB rLenStr ((tCons (tVar 0) (tNil))))) (tC (.int 10))))))) ((tRet (tC .non))) (tNext)))
    ((tSeq ((tAsg (tC (.int 0)) (gName 1)))
    ((tSeq ((tFor ((iStr ((tSl rSlS (tVar 0) tNoPart (tPart ((tUn (rU fun i => .int (-i)) (tC (.int 1))))))))) (gName 2) ((tSeq ((tIfS ((tTest (tOp rNotInS (tVar 2) (tC (.str (S Z10)))))) ((tRet (tC .non))) (tNext)))
    ((tAsg ((tOp (rI0 fun i j => .int (i + j)) ((tOp (rI CMul fun i j => .int (i * j)) (tVar 1) (tC (.int 10)))) ((tBM K "str" rFind (tC (.str (S Z10))) ((tCons (tVar 2) (tNil))))))) (gName 1)))))))
    ((tSeq ((tIfS ((tAnd ((tTest (tOp rEq ((tOp rIxS (tVar 0) (tC (.int 0)))) (tC (.str (S [48])))))) ((tTest (tOp (rI0 fun i j => .bl (decide (j < i))) ((tCB rLenStr ((tCons (tVar 0) (tNil))))) (tC (.int 2))))))) ((tRet (tC .non))) (tNext)))
    ((tSeq ((tIfS ((tTest (tOp rEq ((tOp rIxS (tVar 0) ((tUn (rU fun i => .int (-i)) (tC (.int 1)))))) (tC (.str (S [43])))))) ((tRet ((tTup ((tCons (tVar 1) ((tCons (tC (.int 1)) (tNil))))))))) (tNext)))
    ((tSeq ((tIfS ((tTest (tOp rEq ((tOp rIxS (tVar 0) ((tUn (rU fun i => .int (-i)) (tC (.int 1)))))) (tC (.str (S [45])))))) ((tRet ((tTup ((tCons (tVar 1) ((tCons ((tUn (rU fun i => .int (-i)) (tC (.int 1)))) (tNil))))))))) (tNext)))
    ((tRet (tC .non))))))))))))))

theorem pure_l_read (K : PySem.W.Frag) (vs : List V) (H : Hp) (Q : VK) (E : XK) (h : sp_l_read K vs H Q E) : t_l_read K { nx := fun _ H' => Q .non H', rt := Q } (L2.start N_l_read vs) H := by
  obtain ⟨w, rfl, few, k0, k⟩ := h
  rw [st_l_read]
  unfold t_l_read
  walk_at "st"
  refine ite_dec (fun h => ?_) (fun h => ?_)
  · walk_at "st"
    refine k0 ?_
    unfold rdW numO
    rw [if_neg fun z => by have z1 := z.1; rw [List.length_take] at z1; omega]
  walk_at "st"
  refine ite_dec (fun h2 => ?_) (fun h2 => ?_)
  · walk_at "st"
    refine k0 ?_
    unfold rdW numO
    rw [if_neg fun z => by have z1 := z.2.1; rw [List.length_take] at z1; omega]
  walk_at "st"
  rw [cutG_last (by omega)]
  have ld : (w.take (w.length - 1)).length = w.length - 1 := by rw [List.length_take]; omega
  refine loopS (l := w.take (w.length - 1)) (fun i σ' H' => ∃ y, σ' = [some (.str (S w)), some (.int (PySem.NumText.digitsVal ((w.take (w.length - 1)).take i) : Nat)), y] ∧ H' = H ∧ ∀ c ∈ (w.take (w.length - 1)).take i, isDg c) ⟨_, rfl, rfl, by simp⟩ ?_ ?_
  · rintro i c σ' H' hc ⟨y, rfl, rfl, hd⟩
    walk_at "st"
    refine ite_ndec (fun h3 => ?_) (fun h3 => ?_)
    · walk_at "st"
      refine k0 ?_
      unfold rdW numO
      rw [if_neg fun z => h3 (z10d'.mpr (of_decide_eq_true (List.all_eq_true.mp z.2.2 c (List.mem_of_getElem? hc))))]
    · have h3 : c ∈ Z10 := h3
      have hg := z10d'.mp h3
      walk_at "st"
      rw [(by decide +kernel : ∀ c ∈ Z10, Txt.find (S Z10) (S [c]) = (c : Int) - 48) c h3]
      walk_at "st"
      refine ⟨some (.str (S [c])), ?_, rfl, fun x hx => ?_⟩
      · rw [take_snoc hc, PySem.NumText.digitsVal_snoc]
        have g1 := hg.1
        rw [show ((PySem.NumText.digitsVal (List.take i (w.take (w.length - 1))) : Nat) : Int) * 10 + ((c : Int) - 48) = ((PySem.NumText.digitsVal (List.take i (w.take (w.length - 1))) * 10 + (c - 48) : Nat) : Int) by omega]
      · rw [take_snoc hc] at hx
        rcases List.mem_append.mp hx with hx | hx
        · exact hd x hx
        · rw [List.mem_singleton.mp hx]; exact hg
  · rintro σ' H' ⟨y, rfl, rfl, hd⟩
    rw [List.take_length] at hd ⊢
    have ha : ((w.take (w.length - 1)).all fun c => decide (isDg c)) = true := List.all_eq_true.mpr fun c hc => decide_eq_true (hd c hc)
    have hl : w[w.length - 1]? = some w[w.length - 1] := List.getElem?_eq_getElem (by omega)
    have h0 : (w.take (w.length - 1))[0]? = w[0]? := by rw [List.getElem?_take, if_pos (by omega)]
    have hne : w[0]? = some 48 → (w.take (w.length - 1) ≠ [48] ↔ 2 < w.length) := fun e => by
      constructor
      · intro z
        by_cases q : 2 < w.length
        · exact q
        · refine absurd ?_ z
          have l1 : (w.take (w.length - 1)).length = 1 := by omega
          obtain ⟨x, hx⟩ := List.length_eq_one_iff.mp l1
          rw [hx] at h0 ⊢
          rw [e] at h0
          cases h0
          rfl
      · intro z e2
        have l1 := congrArg List.length e2
        rw [ld, List.length_singleton] at l1
        omega
    have num : (¬ (w[0]? = some 48 ∧ 2 < w.length)) → numO (w.take (w.length - 1)) = some (PySem.NumText.digitsVal (w.take (w.length - 1))) := fun hn => by
      unfold numO
      rw [if_pos ⟨by omega, by omega, ha⟩, if_neg]
      rintro ⟨z1, z2⟩
      rw [h0] at z1
      exact hn ⟨z1, (hne z1).mp z2⟩
    have bad : w[0]? = some 48 ∧ 2 < w.length → numO (w.take (w.length - 1)) = none := fun hn => by
      unfold numO
      rw [if_pos ⟨by omega, by omega, ha⟩, if_pos ⟨by rw [h0]; exact hn.1, (hne hn.1).mpr hn.2⟩]
    have tail : (¬ (w[0]? = some 48 ∧ 2 < w.length)) → ∀ y, (tSeq ((tIfS ((tTest (tOp rEq ((tOp rIxS (tVar 0) ((tUn (rU fun i => .int (-i)) (tC (.int 1)))))) (tC (.str (S [43])))))) ((tRet ((tTup ((tCons (tVar 1) ((tCons (tC (.int 1)) (tNil))))))))) (tNext)))
    ((tSeq ((tIfS ((tTest (tOp rEq ((tOp rIxS (tVar 0) ((tUn (rU fun i => .int (-i)) (tC (.int 1)))))) (tC (.str (S [45])))))) ((tRet ((tTup ((tCons (tVar 1) ((tCons ((tUn (rU fun i => .int (-i)) (tC (.int 1)))) (tNil))))))))) (tNext)))
    ((tRet (tC .non)))))) { nx := fun _ H' => Q .non H', rt := Q } [some (.str (S w)), some (.int (PySem.NumText.digitsVal (w.take (w.length - 1)) : Nat)), y] H' := fun hn y => by
      have nm := num hn
      walk_at "st"
      refine wp_ixS (by rw [S_len]; omega) (c := w[w.length - 1]) ((at_last (xs := w) (by omega)).trans hl) ?_
      walk_at "st"
      refine ite_dec (fun h3 => ?_) (fun h3 => ?_)
      · have e := (List.cons.inj (S_inj (a := [w[w.length - 1]]) h3)).1
        walk_at "st"
        refine ⟨by simp [sizeLine_eq], fun p hp => k _ 1 ?_ p _ (Same.new hp) hp upd_same⟩
        unfold rdW
        rw [nm, hl, e]
        rfl
      · walk_at "st"
        refine wp_ixS (by rw [S_len]; omega) (c := w[w.length - 1]) ((at_last (xs := w) (by omega)).trans hl) ?_
        walk_at "st"
        have n43 : w[w.length - 1] ≠ 43 := fun e => h3 (by rw [e])
        refine ite_dec (fun h4 => ?_) (fun h4 => ?_)
        · have e := (List.cons.inj (S_inj (a := [w[w.length - 1]]) h4)).1
          walk_at "st"
          refine ⟨by simp [sizeLine_eq], fun p hp => k _ (-1) ?_ p _ (Same.new hp) hp upd_same⟩
          unfold rdW
          rw [nm, hl, e]
          rfl
        · have n45 : w[w.length - 1] ≠ 45 := fun e => h4 (by rw [e])
          walk_at "st"
          refine k0 ?_
          unfold rdW
          rw [nm, hl]
          show (if some _ = some 43 then _ else if some _ = some 45 then _ else _) = none
          rw [if_neg fun z => n43 (Option.some.inj z), if_neg fun z => n45 (Option.some.inj z)]
    have hw0 : w[0]? = some w[0] := List.getElem?_eq_getElem (by omega)
    walk_at "st"
    refine wp_ixS (by rw [S_len]; omega) (c := w[0]) (atI_nat (j := 0) hw0) ?_
    walk_at "st"
    refine ite_dec (fun h3 => ?_) (fun h3 => ?_)
    · have e := (List.cons.inj (S_inj (a := [w[0]]) h3)).1
      walk_at "st"
      refine ite_dec (fun h4 => ?_) (fun h4 => ?_)
      · walk_at "st"
        refine k0 ?_
        unfold rdW
        rw [bad ⟨by rw [hw0, e], by omega⟩]
      · exact tail (fun z => h4 (by omega)) y
    · exact tail (fun z => h3 (by
        have z1 := z.1
        rw [hw0] at z1
        rw [Option.some.inj z1])) y
theorem len_l_read (K : PySem.W.Frag) (vs : List V) (H : Hp) (Q : VK) (E : XK) (h : sp_l_read K vs H Q E) : vs.length = 1 := by
  obtain ⟨_, rfl, _⟩ := h
  rfl
theorem c_l_read {K : PySem.W.Frag} {w : List Nat} {H : Hp} {Q : VK} {E : XK} (few : w.length ≤ 10000) (k0 : rdW w = none → Q .non H) (k : ∀ n d, rdW w = some (n, d) → ∀ x H', Same H H' → H x = none → H' x = some (.tup [.int (n : Nat), .int d]) → Q (.ref x) H') : sp_l_read K [.str (S w)] H Q E := ⟨w, rfl, few, k0, k⟩
theorem Steps.upd {H : Hp} {L : Addr} {zs ws : List V} (hL : H L = some (.lst zs)) : ∀ {xs : List V} {ss : List (Nat × Int)}, Steps H xs ss → Steps (upd H L (.lst ws)) xs ss
  | _, _, .nil => .nil
  | _, _, .cons h r => .cons (by rw [upd_ne (fun e => by rw [e, hL] at h; cases h)]; exact h) (r.upd hL)
/-- what a text is due: its first bad word, or its steps -/
def DueOk (t : List Nat) (H : Hp) (p : Addr) : Prop := (∃ (i : Nat) (w : List Nat), (wdz t)[i]? = some w ∧ rdW w = none ∧ (∀ v ∈ (wdz t).take i, rdW v ≠ none) ∧ H p = some (.lst [.bl false, .int (i : Nat)])) ∨
  ∃ (L : Addr) (xs : List V) (ss : List (Nat × Int)), H p = some (.lst [.bl true, .ref L]) ∧ H L = some (.lst xs) ∧ Steps H xs ss ∧ (wdz t).map rdW = ss.map some ∧ ss.length ≤ 1000
def sp_l_due (K : PySem.W.Frag) : Sp := fun vs H Q _ => ∃ (t : List Nat), vs = [.str (S t)] ∧ t.length ≤ 900 ∧ ∀ p H', Same H H' → DueOk t H' p → Q (.ref p) H' 
abbrev N_l_due : List Str := ["_law_text", "_law_steps", "_law_words_here", "_law_at", "_law_step_here"]
theorem st_l_due {a0 : V} : L2.start N_l_due [a0] = [some a0, none, none, none, none] := rfl
def t_l_due (K : PySem.W.Frag) : TS :=
  (tSeq ((tAsg ((tLst (tNil))) (gName 1)))
    ((tSeq ((tIfS ((tTest (tOp rEq (tVar 0) (tC (.str (S [])))))) ((tRet ((tLst ((tCons (tC (.bl true)) ((tCons (tVar 1) (tNil))))))))) (tNext)))
    ((tSeq ((tAsg ((tCall (sp_l_words K) [] E0 ((tCons (tVar 0) (tNil))))) (gName 2)))
    ((tSeq ((tFor ((iRng1 ((tCons ((tCB (rLenS K) ((tCons (tVar 2) (tNil))))) (tNil))))) (gName 3) ((tSeq ((tAsg ((tCall (sp_l_read K) [] E0 ((tCons ((tOp (rIxL K) (tVar 2) (tVar 3))) (tNil))))) (gName 4)))
    ((tSeq ((tIfS ((tTest (tOp rIsN (tVar 4) (tC .non)))) ((tRet ((tLst ((tCons (tC (.bl false)) ((tCons (tVar 3) (tNil))))))))) (tNext)))
    ((tDrop ((tBM K "list" rAppend (tVar 1) ((tCons (tVar 4) (tNil)))))))))))))
    ((tRet ((tLst ((tCons (tC (.bl true)) ((tCons (tVar 1) (tNil))))))))))))))))

theorem pure_l_due (K : PySem.W.Frag) (vs : List V) (H : Hp) (Q : VK) (E : XK) (h : sp_l_due K vs H Q E) : t_l_due K { nx := fun _ H' => Q .non H', rt := Q } (L2.start N_l_due vs) H := by
  obtain ⟨t, rfl, few, k⟩ := h
  rw [st_l_due]
  unfold t_l_due
  walk_at "st"
  refine ⟨Nat.zero_le _, fun L hL => ?_⟩
  have s0 := Same.new (o := .lst []) hL
  walk_at "st"
  refine ite_dec (fun h => ?_) (fun h => ?_)
  · have e : t = [] := S_inj h
    walk_at "st"
    refine ⟨by simp [sizeLine_eq], fun p hp => ?_⟩
    have s1 := Same.new (o := .lst [.bl true, .ref L]) hp
    walk_at "st"
    refine k p _ (s0.trans s1) (.inr ⟨L, [], [], upd_same, s1 _ _ upd_same, .nil, by rw [e]; rfl, by simp⟩)
  have e : t ≠ [] := fun z => h (by rw [z])
  have ew : wdz t = wds t := if_neg e
  have lw := wds_len t
  walk_at "st"
  refine c_l_words (by omega) fun W H1 s1 hW hW1 => ?_
  have nLW : L ≠ W := ne_of_none upd_same hW
  have hL1 := s1 _ _ (upd_same (H := H) (a := L) (o := .lst []))
  have s01 := s0.trans s1
  have elW : ((wds t).map sv).length = (wds t).length := List.length_map ..
  walk_at "st"
  refine loop1 (by omega) (fun i σ' H' => ∃ x y xs ss, σ' = [some (.str (S t)), some (.ref L), some (.ref W), x, y] ∧ Same H H' ∧ H' W = some (.lst ((wds t).map sv)) ∧ H' L = some (.lst xs) ∧ Steps H' xs ss ∧ ((wds t).take i).map rdW = ss.map some ∧ ∀ (b : Addr) (z : List V), H' b = some (.tup z) → True) ⟨_, _, [], [], rfl, s01, hW1, hL1, .nil, by simp, fun _ _ _ => trivial⟩ ?_ ?_
  · rintro i σ' H' hi ⟨x, y, xs, ss, rfl, s, hW2, hL2, hs, hm, _⟩
    have hi2 : i < (wds t).length := by omega
    have hw : (wds t)[i]? = some (wds t)[i] := List.getElem?_eq_getElem hi2
    generalize (wds t)[i] = w at hw
    have lww := wds_word t w (List.mem_of_getElem? hw)
    have lss : ss.length ≤ i := by
      have z := congrArg List.length hm
      rw [List.length_map, List.length_map, List.length_take] at z
      omega
    walk_at "st"
    refine wp_ixL (sq_of hW2) (at_nth (x := sv w) (by rw [List.getElem?_map, hw]; rfl)) ?_
    walk_at "st"
    refine c_l_read (w := w) (by omega) (fun hn => ?_) (fun n d hr x2 H3 s3 hx hx3 => ?_)
    · walk_at "st"
      refine ite_dec (fun _ => ?_) (fun h => absurd rfl h)
      walk_at "st"
      refine ⟨by simp [sizeLine_eq], fun p hp => ?_⟩
      have s4 := Same.new (o := .lst [.bl false, .int (i : Nat)]) hp
      walk_at "st"
      refine k p _ (s.trans s4) (.inl ⟨i, w, by rw [ew]; exact hw, hn, fun v hv => ?_, upd_same⟩)
      rw [ew] at hv
      intro z
      have y2 : rdW v ∈ ss.map some := by rw [← hm]; exact List.mem_map.mpr ⟨v, hv, rfl⟩
      rw [z] at y2
      obtain ⟨q, _, e2⟩ := List.mem_map.mp y2
      cases e2
    · walk_at "st"
      have hL3 := s3 _ _ hL2
      refine ite_dec (fun h => by cases h) (fun _ => ?_)
      walk_at "st"
      refine wp_append hL3 (by rw [hs.len]; omega) ?_
      walk_at "st"
      have nLx : x2 ≠ L := fun e => by rw [e, hL2] at hx; cases hx
      refine ⟨_, _, xs ++ [.ref x2], ss ++ [(n, d)], rfl, Same.mut (s.trans s3) hL, by rw [upd_ne nLW.symm]; exact s3 _ _ hW2, upd_same, ?_, by rw [take_snoc hw, List.map_append, hm, List.map_append]; simp [hr], fun _ _ _ => trivial⟩
      exact (Steps.app (.cons hx3 .nil) (hs.mono s3)).upd hL3
  · rintro σ' H' ⟨x, y, xs, ss, rfl, s, hW2, hL2, hs, hm, _⟩
    walk_at "st"
    refine ⟨by simp [sizeLine_eq], fun p hp => ?_⟩
    have s4 := Same.new (o := .lst [.bl true, .ref L]) hp
    walk_at "st"
    have el2 : (Int.toNat ((((wds t).map sv).length : Nat) : Int)) = (wds t).length := by rw [Int.toNat_natCast, elW]
    rw [el2, List.take_length] at hm
    have lss : ss.length = (wds t).length := by
      have z := congrArg List.length hm
      rw [List.length_map, List.length_map] at z
      exact z.symm
    refine k p _ (s.trans s4) (.inr ⟨L, xs, ss, upd_same, s4 _ _ hL2, hs.mono s4, by rw [ew]; exact hm, by omega⟩)
theorem len_l_due (K : PySem.W.Frag) (vs : List V) (H : Hp) (Q : VK) (E : XK) (h : sp_l_due K vs H Q E) : vs.length = 1 := by
  obtain ⟨_, rfl, _⟩ := h
  rfl
theorem c_l_due {K : PySem.W.Frag} {t : List Nat} {H : Hp} {Q : VK} {E : XK} (few : t.length ≤ 900) (k : ∀ p H', Same H H' → DueOk t H' p → Q (.ref p) H') : sp_l_due K [.str (S t)] H Q E := ⟨t, rfl, few, k⟩
theorem z10d {c : Nat} : c ∈ Z10 ↔ isDg c := by
  rw [z10]
  rfl
def sp_number_of (K : PySem.W.Frag) : Sp := fun vs H Q _ => ∃ (w : List Nat), vs = [.str (S w)] ∧ w.length ≤ 10000 ∧ ∀ H', Same H H' → Q (noV (numO w)) H'
abbrev N_number_of : List Str := ["word", "sign"]
theorem st_number_of {a0 : V} : L2.start N_number_of [a0] = [some a0, none] := rfl
def t_number_of (K : PySem.W.Frag) : TS :=
  (tSeq ((tIfS ((tOr ((tNot ((tTest (tChain (rI0 fun i j => .bl (decide (i ≤ j))) (rI0 fun i j => .bl (decide (i ≤ j))) (tC (.int 1)) ((tCB rLenStr ((tCons (tVar 0) (tNil))))) (tC (.int 9))))))) ((tNot ((tB ((tCB (rAll K) ((tCons ((tLc ((iStr (tVar 0))) ((gName 1)) (tYes) ((tOp rInS (tVar 1) (tC (.str (S Z10))))) [1])) (tNil))))))))))) ((tRet (tC .non))) (tNext)))
    ((tRet ((tIf ((tAnd ((tTest (tOp rEq ((tOp rIxS (tVar 0) (tC (.int 0)))) (tC (.str (S [48])))))) ((tTest (tOp rNe (tVar 0) (tC (.str (S [48])))))))) (tC .non) ((tCB rIntS ((tCons (tVar 0) (tNil))))))))))

theorem pure_number_of (K : PySem.W.Frag) (vs : List V) (H : Hp) (Q : VK) (E : XK) (h : sp_number_of K vs H Q E) : t_number_of K { nx := fun _ H' => Q .non H', rt := Q } (L2.start N_number_of vs) H := by
  obtain ⟨w, rfl, hl, k⟩ := h
  rw [st_number_of]
  unfold t_number_of
  have no : numO w = none → ∀ H', Same H H' → Q .non H' := fun e H' s => by
    have z := k H' s
    rw [e] at z
    exact z
  walk_at "st"
  refine ite_dec (fun h => ?_) (fun h => ?_)
  · walk_at "st"
    refine ite_ndec (fun h2 => ?_) (fun h2 => ?_)
    · walk_at "st"
      refine no (if_neg fun z => by omega) _ (Same.refl _)
    · walk_at "st"
      refine lcMapS (by omega) (fun x => [some (.str (S w)), some x]) (fun x => ⟨rfl, rfl⟩) (fun c => .bl (decide (isDg c))) (fun c H2 hxm _ R hR => ?_) (fun D H2 hD s2 hD2 => ?_)
      · walk_at "st"
        have z := hR H2 (Same.refl _)
        rw [show decide (isDg c) = decide (c ∈ Z10) from by rw [decide_eq_decide]; exact z10d.symm] at z
        exact z
      walk_at "st"
      refine wp_allL (bs := w.map fun c => decide (isDg c)) (sq_of (by rw [List.map_map]; exact hD2)) ?_
      rw [List.all_map, show (id ∘ fun c => decide (isDg c)) = fun c => decide (isDg c) from rfl]
      cases ha : w.all fun c => decide (isDg c)
      · walk_at "st"
        refine no (if_neg fun z => by rw [ha] at z; exact absurd z.2.2 (by simp)) _ s2
      · walk_at "st"
        cases w with
        | nil => exact absurd h (by simp)
        | cons c r =>
          refine wp_ixS (by rw [S_len]; omega) (c := c) at0 ?_
          walk_at "st"
          have hne : (c :: r) ≠ [] := by simp
          have it : PySem.intText? (S (c :: r)) = some ((PySem.NumText.digitsVal (c :: r) : Nat) : Int) := PySem.intText_digits (x := S (c :: r)) (fun d hd => of_decide_eq_true (List.all_eq_true.mp ha d hd)) hne (by rw [S_len]; omega)
          have fin : ¬ ((c :: r)[0]? = some 48 ∧ c :: r ≠ [48]) → Q (.int (PySem.NumText.digitsVal (c :: r) : Nat)) H2 := fun hn => by
            have z := k H2 s2
            rw [show numO (c :: r) = some (PySem.NumText.digitsVal (c :: r)) from (if_pos ⟨by omega, by omega, ha⟩).trans (if_neg hn)] at z
            exact z
          refine ite_dec (fun h3 => ?_) (fun h3 => ?_)
          · walk_at "st"
            refine ite_ndec (fun h4 => ?_) (fun h4 => ?_)
            · walk_at "st"
              refine no ((if_pos ⟨by omega, by omega, ha⟩).trans (if_pos ⟨?_, fun z => h4 (by rw [z])⟩)) _ s2
              rw [show c = 48 from List.cons.inj (S_inj (a := [c]) h3) |>.1]
              rfl
            · walk_at "st"
              refine wp_intS it (by rw [S_len]; omega) ?_
              walk_at "st"
              exact fin fun z => z.2 (S_inj h4)
          · walk_at "st"
            refine wp_intS it (by rw [S_len]; omega) ?_
            walk_at "st"
            exact fin fun z => h3 (by cases z.1; rfl)
  · walk_at "st"
    refine no (if_neg fun z => by omega) _ (Same.refl _)
theorem len_number_of (K : PySem.W.Frag) (vs : List V) (H : Hp) (Q : VK) (E : XK) (h : sp_number_of K vs H Q E) : vs.length = 1 := by
  obtain ⟨l, rfl, _⟩ := h
  rfl
theorem c_number_of {K : PySem.W.Frag} {w : List Nat} {H : Hp} {Q : VK} {E : XK} (hl : w.length ≤ 10000) (k : ∀ H', Same H H' → Q (noV (numO w)) H') : sp_number_of K [.str (S w)] H Q E := ⟨w, rfl, hl, k⟩
def sp_words_of (K : PySem.W.Frag) : Sp := fun vs H Q _ => ∃ (t : List Nat), vs = [.str (S t)] ∧ t.length ≤ 10000 ∧ ∀ p H', Same H H' → H p = none → H' p = some (.lst ((wdz t).map sv)) → Q (.ref p) H' 
abbrev N_words_of : List Str := ["text"]
theorem st_words_of {a0 : V} : L2.start N_words_of [a0] = [some a0] := rfl
def t_words_of (K : PySem.W.Frag) : TS :=
  (tRet ((tIf ((tTest (tOp rNe (tVar 0) (tC (.str (S [])))))) ((tM1 rSplt (tVar 0) (tC (.str (S [32]))))) ((tLst (tNil))))))

theorem pure_words_of (K : PySem.W.Frag) (vs : List V) (H : Hp) (Q : VK) (E : XK) (h : sp_words_of K vs H Q E) : t_words_of K { nx := fun _ H' => Q .non H', rt := Q } (L2.start N_words_of vs) H := by
  obtain ⟨t, rfl, few, k⟩ := h
  rw [st_words_of]
  unfold t_words_of
  walk_at "st"
  refine ite_ndec (fun h => ?_) (fun h => ?_)
  · have e : t ≠ [] := fun z => h (by rw [z])
    walk_at "st"
    refine wp_m1 ?_
    walk_at "st"
    refine ⟨⟨_, rfl⟩, ?_⟩
    walk_at "st"
    refine wp_splW (by omega) fun p hp => ?_
    walk_at "st"
    refine k p _ (Same.new hp) hp ?_
    rw [upd_same, show wdz t = wds t from if_neg e]
  · have e : t = [] := S_inj h
    walk_at "st"
    refine ⟨Nat.zero_le _, fun p hp => ?_⟩
    refine k p _ (Same.new hp) hp ?_
    rw [upd_same, e]
    rfl
theorem len_words_of (K : PySem.W.Frag) (vs : List V) (H : Hp) (Q : VK) (E : XK) (h : sp_words_of K vs H Q E) : vs.length = 1 := by
  obtain ⟨_, rfl, _⟩ := h
  rfl
theorem c_words_of {K : PySem.W.Frag} {t : List Nat} {H : Hp} {Q : VK} {E : XK} (few : t.length ≤ 10000) (k : ∀ p H', Same H H' → H p = none → H' p = some (.lst ((wdz t).map sv)) → Q (.ref p) H') : sp_words_of K [.str (S t)] H Q E := ⟨t, rfl, few, k⟩
theorem wdz_len (t : List Nat) : (wdz t).length ≤ t.length + 1 := by
  unfold wdz
  split
  · exact Nat.zero_le _
  · exact wds_len t
theorem wdz_word {t w : List Nat} (h : w ∈ wdz t) : w.length ≤ t.length := by
  unfold wdz at h
  split at h
  · cases h
  · exact wds_word t w h
theorem cut_last {w : List Nat} : cutG w none (some (-1)) = w.take (w.length - 1) := by
  cases w with
  | nil => rfl
  | cons c r => exact cutG_last (by simp)
def dirM : List Nat → Int := fun l => if l = [43] then 1 else -1
def dirs : List (Key × V) := mD dirM [[43], [45]]
def sp_read_walk (K : PySem.W.Frag) : Sp := fun vs H Q E => ∃ (t : List Nat), vs = [.str (S t)] ∧ t.length ≤ 900 ∧ (∀ (i : Nat) (w : List Nat), (wdz t)[i]? = some w → rdW w = none → (∀ v ∈ (wdz t).take i, rdW v ≠ none) → Rzd (C_BadWord K) [("why", .non), ("at", .int i)] E H) ∧
  ∀ L xs ss H', (wdz t).map rdW = ss.map some → Same H H' → H L = none → H' L = some (.lst xs) → Steps H' xs ss → Q (.ref L) H' 
abbrev N_read_walk : List Str := ["text", "directions", "walk", "at", "word", "number"]
theorem st_read_walk {a0 : V} : L2.start N_read_walk [a0] = [some a0, none, none, none, none, none] := rfl
def t_read_walk (K : PySem.W.Frag) (E : XK) : TS :=
  (tSeq ((tAsg ((tDisp ((tC (.str (S [43])), tC (.int 1)) :: ((tC (.str (S [45])), (tUn (rU fun i => .int (-i)) (tC (.int 1)))) :: [])))) (gName 1)))
    ((tSeq ((tAsg ((tLst (tNil))) (gName 2)))
    ((tSeq ((tFor ((iEnum K ((tCons ((tCall (sp_words_of K) [] E0 ((tCons (tVar 0) (tNil))))) (tNil))))) (gTup K 2 (gCons (gName 3) (gCons (gName 4) gNil))) ((tSeq ((tAsg ((tCall (sp_number_of K) [] E0 ((tCons ((tSl rSlS (tVar 4) tNoPart (tPart ((tUn (rU fun i => .int (-i)) (tC (.int 1))))))) (tNil))))) (gName 5)))
    ((tSeq ((tIfS ((tOr ((tTest (tOp rIsN (tVar 5) (tC .non)))) ((tB (tDNotIn ((tOp rIxS (tVar 4) ((tUn (rU fun i => .int (-i)) (tC (.int 1)))))) (tVar 1)))))) ((tRs (C_BadWord K) ["at", "why"] E ((tCons (tVar 3) ((tCons (tC .non) (tNil))))))) (tNext)))
    ((tDrop ((tBM K "list" rAppend (tVar 2) ((tCons ((tTup ((tCons (tVar 5) ((tCons ((tDGet (tVar 1) ((tOp rIxS (tVar 4) ((tUn (rU fun i => .int (-i)) (tC (.int 1)))))))) (tNil))))))) (tNil)))))))))))))
    ((tRet (tVar 2))))))))

theorem pure_read_walk (K : PySem.W.Frag) (vs : List V) (H : Hp) (Q : VK) (E : XK) (h : sp_read_walk K vs H Q E) : t_read_walk K E { nx := fun _ H' => Q .non H', rt := Q } (L2.start N_read_walk vs) H := by
  obtain ⟨t, rfl, few, kx, k⟩ := h
  rw [st_read_walk]
  unfold t_read_walk
  walk_at "st"
  refine wp_disp fun D hD => ?_
  show tC _ _ _ _
  walk_at "st"
  show tC _ _ _ _
  walk_at "st"
  refine ⟨upd_same, dirs, rfl, by decide, ?_⟩
  have s0 : Same H (upd (upd H D (.dK [])) D (.dK (mergeK [] dirs))) := Same.mut (Same.new hD) hD
  have hD2 : upd (upd H D (.dK [])) D (.dK (mergeK [] dirs)) D = some (.dK dirs) := by
    rw [upd_same, show mergeK [] dirs = dirs from rfl]
  revert s0 hD2
  generalize upd (upd H D (.dK [])) D (.dK (mergeK [] dirs)) = H1
  intro s0 hD2
  walk_at "st"
  refine ⟨Nat.zero_le _, fun L hL => ?_⟩
  have s1 := s0.trans (Same.new (o := .lst []) hL)
  have hL0 := s0.free hL
  have hD3 := Same.new (o := .lst []) hL _ _ hD2
  walk_at "st"
  refine c_words_of (by omega) fun W H2 s2 hW hW2 => ?_
  have nLW : L ≠ W := ne_of_none upd_same hW
  have hL2 := s2 _ _ (upd_same (H := H1) (a := L) (o := .lst []))
  have hD4 := s2 _ _ hD3
  have s12 := s1.trans s2
  have lz := wdz_len t
  have elW : ((wdz t).map sv).length = (wdz t).length := List.length_map ..
  have nLD : L ≠ D := fun e => by rw [e, hD2] at hL; cases hL
  walk_at "st"
  refine loopE (sq_of hW2) (fun i σ' H' => ∃ x y z xs ss, σ' = [some (.str (S t)), some (.ref D), some (.ref L), x, y, z] ∧ Same H H' ∧ H' D = some (.dK dirs) ∧ H' W = some (.lst ((wdz t).map sv)) ∧ H' L = some (.lst xs) ∧ Steps H' xs ss ∧ ((wdz t).take i).map rdW = ss.map some) ⟨_, _, _, [], [], rfl, s12, hD4, hW2, hL2, .nil, by simp⟩ ?_ ?_ ?_
  · rintro i σ' H' _ ⟨x, y, z, xs, ss, rfl, _, _, h, _⟩
    exact sq_of h
  · rintro i v q σ' H' hv ⟨x, y, z, xs, ss, rfl, s, hD5, hW5, hL5, hs, hm⟩ hq
    rw [List.getElem?_map] at hv
    obtain ⟨w, hw, rfl⟩ := Option.map_eq_some_iff.mp hv
    have lw := wdz_word (List.mem_of_getElem? hw)
    have lss : ss.length ≤ i := by
      have z := congrArg List.length hm
      rw [List.length_map, List.length_map, List.length_take] at z
      omega
    have hi2 : i < (wdz t).length := (List.getElem?_eq_some_iff.mp hw).1
    have sq := Same.new (o := .tup [.int (i : Nat), sv w]) hq
    have bad : ∀ H3, Same (upd H' q (.tup [.int (i : Nat), sv w])) H3 → rdW w = none → Rzd (C_BadWord K) [("why", .non), ("at", .int i)] E H3 := fun H3 s3 hn => (kx i w hw hn fun v hv z => by
      have y2 : rdW v ∈ ss.map some := by rw [← hm]; exact List.mem_map.mpr ⟨v, hv, rfl⟩
      rw [z] at y2
      obtain ⟨r, _, e2⟩ := List.mem_map.mp y2
      cases e2).mono ((s.trans sq).trans s3)
    walk_at "st"
    rw [cut_last]
    refine c_number_of (by rw [List.length_take]; omega) fun H3 s3 => ?_
    walk_at "st"
    cases hn : numO (w.take (w.length - 1)) with
    | none =>
      have hr : rdW w = none := by
        unfold rdW
        rw [hn]
      walk_at "st"
      refine ite_dec (fun _ => ?_) (fun h => absurd rfl h)
      walk_at "st"
      refine wp_rs ?_
      walk_at "st"
      exact rs_of rfl (by decide) (bad _ s3 hr)
    | some n =>
      have l2 : 2 ≤ w.length := by
        unfold numO at hn
        split at hn
        · rename_i z
          have z1 := z.1
          rw [List.length_take] at z1
          omega
        · cases hn
      have hl : w[w.length - 1]? = some w[w.length - 1] := List.getElem?_eq_getElem (by omega)
      generalize w[w.length - 1] = e at hl
      have hat : atI (S w).cps.toList (-1) = some e := (at_last (xs := w) (by omega)).trans hl
      have sA := (s.trans sq).trans s3
      have hD6 := (sq.trans s3) _ _ hD5
      have hW6 := (sq.trans s3) _ _ hW5
      have hL6 := (sq.trans s3) _ _ hL5
      have hs6 := hs.mono (sq.trans s3)
      rw [show noV (some n) = V.int (n : Nat) from rfl]
      walk_at "st"
      refine ite_dec (fun h => by cases h) (fun _ => ?_)
      walk_at "st"
      refine wp_dnotin ?_
      walk_at "st"
      refine wp_ixS (by rw [S_len]; omega) (c := e) hat ?_
      walk_at "st"
      refine dnin_s (l := [e]) (.inl hD6) ?_
      by_cases he : [e] ∈ ([[43], [45]] : List (List Nat))
      · have hv : valV dirs (.inr (S [e])) = some (.int (dirM [e])) := dN_val he
        have hr : rdW w = some (n, dirM [e]) := by
          unfold rdW
          rw [hn, hl]
          rcases List.mem_cons.mp he with h | h
          · rw [(List.cons.inj h).1]; rfl
          · rw [(List.cons.inj (List.mem_singleton.mp h)).1]; rfl
        rw [hv, show (!(some (V.int (dirM [e]))).isSome) = false from rfl]
        walk_at "st"
        refine wp_ixS (by rw [S_len]; omega) (c := e) hat ?_
        walk_at "st"
        refine dget_s (l := [e]) (.inl hD6) hv ?_
        walk_at "st"
        refine ⟨by simp [sizeLine_eq], fun p hp => ?_⟩
        have s7 := Same.new (o := .tup [.int (n : Nat), .int (dirM [e])]) hp
        have hL7 := s7 _ _ hL6
        walk_at "st"
        refine wp_append hL7 (by rw [hs.len]; omega) ?_
        walk_at "st"
        have nWL : W ≠ L := nLW.symm
        refine ⟨_, _, _, xs ++ [.ref p], ss ++ [(n, dirM [e])], rfl, Same.mut (sA.trans s7) hL0, by rw [upd_ne nLD.symm]; exact s7 _ _ hD6, by rw [upd_ne nWL]; exact s7 _ _ hW6, upd_same, (Steps.app (.cons (s := (n, dirM [e])) upd_same .nil) (hs6.mono s7)).upd hL7, by rw [take_snoc hw, List.map_append, hm, List.map_append]; simp [hr]⟩
      · have hv : valV dirs (.inr (S [e])) = none := dN_none he
        have hr : rdW w = none := by
          unfold rdW
          rw [hn, hl]
          show (if some e = some 43 then _ else if some e = some 45 then _ else _) = none
          rw [if_neg fun z => he (by rw [Option.some.inj z]; simp), if_neg fun z => he (by rw [Option.some.inj z]; simp)]
        rw [hv, show (!(none : Option V).isSome) = true from rfl]
        walk_at "st"
        refine wp_rs ?_
        walk_at "st"
        exact rs_of rfl (by decide) (bad _ s3 hr)
  · rintro σ' H' ⟨x, y, z, xs, ss, rfl, s, _, _, hL5, hs, hm⟩
    rw [elW, List.take_length] at hm
    walk_at "st"
    exact k L xs ss H' hm s hL0 hL5 hs
theorem len_read_walk (K : PySem.W.Frag) (vs : List V) (H : Hp) (Q : VK) (E : XK) (h : sp_read_walk K vs H Q E) : vs.length = 1 := by
  obtain ⟨_, rfl, _⟩ := h
  rfl
theorem c_read_walk {K : PySem.W.Frag} {t : List Nat} {H : Hp} {Q : VK} {E : XK} (few : t.length ≤ 900) (kx : ∀ (i : Nat) (w : List Nat), (wdz t)[i]? = some w → rdW w = none → (∀ v ∈ (wdz t).take i, rdW v ≠ none) → Rzd (C_BadWord K) [("why", .non), ("at", .int i)] E H)
    (k : ∀ L xs ss H', (wdz t).map rdW = ss.map some → Same H H' → H L = none → H' L = some (.lst xs) → Steps H' xs ss → Q (.ref L) H') : sp_read_walk K [.str (S t)] H Q E := ⟨t, rfl, few, kx, k⟩
theorem wp_tryT {K : PySem.W.Frag} {i : Nat} {tb : WX → TS} {l : List (Value × Sui)} {D : Ends} {σ : L2.St} {H : Hp} (h : tb (wAsM K i (fun _ _ _ _ => False) D l) D σ H) : tTry K i tb l D σ H := h
theorem wp_callSS {sp : Sp} {EE : L2.St → XK} {t : TA} {σ : L2.St} {H : Hp} {Q : VK} (h : t σ H fun vs H1 => sp vs H1 Q (EE σ)) : tCallS sp EE t σ H Q := h
theorem DueOk.mono {t : List Nat} {H H' : Hp} {p : Addr} (s : Same H H') (h : DueOk t H p) : DueOk t H' p := by
  rcases h with ⟨i, w, h1, h2, h3, h4⟩ | ⟨L, xs, ss, h1, h2, h3, h4, h5⟩
  · exact .inl ⟨i, w, h1, h2, h3, s _ _ h4⟩
  · exact .inr ⟨L, xs, ss, s _ _ h1, s _ _ h2, h3.mono s, h4, h5⟩
theorem no_bad {ws : List (List Nat)} {ss : List (Nat × Int)} {w : List Nat} (hm : ws.map rdW = ss.map some) (h : w ∈ ws) : rdW w ≠ none := fun z => by
  have y : rdW w ∈ ss.map some := by rw [← hm]; exact List.mem_map.mpr ⟨w, h, rfl⟩
  rw [z] at y
  obtain ⟨q, _, e⟩ := List.mem_map.mp y
  cases e
theorem DueOk.bad {t : List Nat} {H : Hp} {p : Addr} {i : Nat} {w : List Nat} (h : DueOk t H p) (hw : (wdz t)[i]? = some w) (hr : rdW w = none) (hg : ∀ v ∈ (wdz t).take i, rdW v ≠ none) : True ∧ H p = some (.lst [.bl false, .int (i : Nat)]) := by
  refine ⟨trivial, ?_⟩
  rcases h with ⟨j, v, h1, h2, h3, h4⟩ | ⟨L, xs, ss, h1, h2, h3, h4, h5⟩
  · have hj : j < (wdz t).length := (List.getElem?_eq_some_iff.mp h1).1
    have hi : i < (wdz t).length := (List.getElem?_eq_some_iff.mp hw).1
    rcases Nat.lt_trichotomy i j with e | e | e
    · exact absurd hr (h3 w (List.mem_of_getElem? (i := i) (by rw [List.getElem?_take, if_pos e]; exact hw)))
    · rw [e]; exact h4
    · exact absurd h2 (hg v (List.mem_of_getElem? (i := j) (by rw [List.getElem?_take, if_pos e]; exact h1)))
  · exact absurd hr (no_bad h4 (List.mem_of_getElem? hw))
theorem DueOk.good {t : List Nat} {H : Hp} {p : Addr} {ss : List (Nat × Int)} (h : DueOk t H p) (hm : (wdz t).map rdW = ss.map some) : ∃ (L : Addr) (xs : List V), H p = some (.lst [.bl true, .ref L]) ∧ H L = some (.lst xs) ∧ Steps H xs ss ∧ ss.length ≤ 1000 := by
  rcases h with ⟨j, v, h1, h2, h3, h4⟩ | ⟨L, xs, ss', h1, h2, h3, h4, h5⟩
  · exact absurd h2 (no_bad hm (List.mem_of_getElem? h1))
  · have e : ss' = ss := by
      have z := h4.symm.trans hm
      have inj : ∀ (a b : List (Nat × Int)), a.map some = b.map some → a = b := fun a b q => by
        have y := congrArg (List.filterMap id) q
        simpa [List.filterMap_map] using y
      exact inj _ _ z
    subst e
    exact ⟨L, xs, h1, h2, h3, h5⟩
def sp_l_kept (K : PySem.W.Frag) : Sp := fun vs H Q _ => ∃ (t : List Nat) (p : Addr), vs = [.str (S t), .ref p] ∧ t.length ≤ 900 ∧ DueOk t H p ∧ ∀ H', Same H H' → Q (.bl true) H' 
abbrev N_l_kept : List Str := ["_law_text", "_law_due_here", "_law_again", "_law_found", "_law_flags", "e", "_law_told"]
theorem st_l_kept {a0 a1 : V} : L2.start N_l_kept [a0, a1] = [some a0, some a1, none, none, none, none, none] := rfl
def t_l_kept (K : PySem.W.Frag) : TS :=
  (tSeq ((tFor ((iRng1 ((tCons (tC (.int 2)) (tNil))))) (gName 2) ((tSeq ((tAsg (tC .non) (gName 3)))
    ((tSeq ((tAsg ((tLst (tNil))) (gName 4)))
    ((tSeq ((tTry K 5 (fun W => ((tAsg ((tCallS (sp_read_walk K) (WE W) ((tCons (tVar 0) (tNil))))) (gName 3)))) [(.ref (C_MinuteError K), fun a cls d => ((tAsg ((tLst ((tCons ((tCB (rIsX K a cls d) ((tCons (tVar 5) ((tCons (tC (.ty "ValueError")) (tNil))))))) ((tCons ((tCB (rIsX K a cls d) ((tCons (tVar 5) ((tCons (tC (.ref (C_BadWord K))) (tNil))))))) ((tCons ((tCB (rIsX K a cls d) ((tCons (tVar 5) ((tCons (tC (.ref (C_BadRow K))) (tNil))))))) ((tCons ((tCB (rIsX K a cls d) ((tCons (tVar 5) ((tCons (tC (.ref (C_BadName K))) (tNil))))))) ((tCons ((tCB (rIsX K a cls d) ((tCons (tVar 5) ((tCons (tC (.ref (C_BadNumber K))) (tNil))))))) ((tCons ((tCB (rIsX K a cls d) ((tCons (tVar 5) ((tCons (tC (.ref (C_BadWalk K))) (tNil))))))) (tNil))))))))))))))) (gName 4))))]))
    ((tIfS ((tB ((tOp (rIxL K) (tVar 1) (tC (.int 0)))))) ((tSeq ((tIfS ((tOr ((tTest (tOp (rNeD K) (tVar 4) ((tLst (tNil)))))) ((tNot ((tB ((tCall (sp_l_same K 3) [] E0 ((tCons (tVar 3) ((tCons ((tOp (rIxL K) (tVar 1) (tC (.int 1)))) (tNil))))))))))))) ((tRet (tC (.bl false)))) (tNext)))
    ((tDrop ((tBM K "list" rAppend (tVar 3) ((tCons ((tTup ((tCons (tC (.int 7)) ((tCons ((tUn (rU fun i => .int (-i)) (tC (.int 1)))) (tNil))))))) (tNil))))))))) ((tSeq ((tAsg (tC .non) (gName 6)))
    ((tSeq ((tTry K 5 (fun W => ((tDrop ((tCallS (sp_read_walk K) (WE W) ((tCons (tVar 0) (tNil)))))))) [(.ref (C_BadWord K), fun a cls d => ((tAsg ((tLst ((tCons ((tXf a cls d (C_BadWord K) "at" (tVar 5))) ((tCons ((tXf a cls d (C_BadWord K) "why" (tVar 5))) (tNil))))))) (gName 6))))]))
    ((tIfS ((tOr ((tTest (tOp (rNeD K) (tVar 4) ((tLst ((tCons (tC (.bl true)) ((tCons (tC (.bl true)) ((tCons (tC (.bl false)) ((tCons (tC (.bl false)) ((tCons (tC (.bl false)) ((tCons (tC (.bl false)) (tNil)))))))))))))))))) ((tNot ((tB ((tCall (sp_l_same K 3) [] E0 ((tCons (tVar 6) ((tCons ((tLst ((tCons ((tOp (rIxL K) (tVar 1) (tC (.int 1)))) ((tCons (tC .non) (tNil))))))) (tNil))))))))))))) ((tRet (tC (.bl false)))) (tNext)))))))))))))))))
    ((tRet (tC (.bl true)))))

theorem pure_l_kept (K : PySem.W.Frag) (XF : XFacts K exs) (vs : List V) (H : Hp) (Q : VK) (E : XK) (h : sp_l_kept K vs H Q E) : t_l_kept K { nx := fun _ H' => Q .non H', rt := Q } (L2.start N_l_kept vs) H := by
  obtain ⟨t, p, rfl, few, hd, k⟩ := h
  rw [st_l_kept]
  unfold t_l_kept
  walk_at "st"
  refine loop1 (by omega) (fun i σ' H' => ∃ a b c d, σ' = [some (.str (S t)), some (.ref p), a, b, c, none, d] ∧ Same H H') ⟨_, _, _, _, rfl, Same.refl _⟩ ?_ ?_
  · rintro i σ' H' hi ⟨a, b, c, d, rfl, s⟩
    have hd' := hd.mono s
    walk_at "st"
    refine ⟨Nat.zero_le _, fun F hF => ?_⟩
    have sF := Same.new (o := .lst []) hF
    have s1 := s.trans sF
    have hd1 := hd'.mono sF
    have hF1 : upd H' F (.lst []) F = some (.lst []) := upd_same
    revert s1 hd1 hF1
    generalize upd H' F (.lst []) = H1
    intro s1 hd1 hF1
    walk_at "st"
    refine wp_tryT ?_
    walk_at "st"
    refine wp_callSS ?_
    walk_at "st"
    have mem : ("BadWord" : Str) ∈ exs := (by decide +kernel : ("BadWord" : Str) ∈ exs)
    have i0 := XF.i _ mem
    refine c_read_walk few (fun j w hw hr hg => ?_) (fun L xs ss H2 hm s2 hL hL2 hs => ?_)
    · intro dd H3 s3 hdd hx
      obtain ⟨-, hp⟩ := hd1.bad hw hr hg
      have hp3 := s3 _ _ hp
      refine wAs_yes (XF.b _ mem) fun ea hea => ?_
      rw [show ([some (.str (S t)), some (.ref p), some (.int (i : Nat)), some .non, some (.ref F), none, d] : L2.St).set 5 (some (.ref ea)) = [some (.str (S t)), some (.ref p), some (.int (i : Nat)), some .non, some (.ref F), some (.ref ea), d] from rfl]
      walk_at "st"
      refine wp_isX hx i0 (fun u hu => hu) (XF.v _ mem) ?_
      walk_at "st"
      refine wp_isX hx i0 (fun u hu => hu) (XF.k _ mem "BadWord" (by decide +kernel)) ?_
      walk_at "st"
      refine wp_isX hx i0 (fun u hu => hu) (XF.k _ mem "BadRow" (by decide +kernel)) ?_
      walk_at "st"
      refine wp_isX hx i0 (fun u hu => hu) (XF.k _ mem "BadName" (by decide +kernel)) ?_
      walk_at "st"
      refine wp_isX hx i0 (fun u hu => hu) (XF.k _ mem "BadNumber" (by decide +kernel)) ?_
      walk_at "st"
      refine wp_isX hx i0 (fun u hu => hu) (XF.k _ mem "BadWalk" (by decide +kernel)) ?_
      walk_at "st"
      refine ⟨by simp [sizeLine_eq], fun b hb => ?_⟩
      have b1 : decide (("BadWord" : Str) = "BadWord") = true := by decide +kernel
      have b2 : decide (("BadWord" : Str) = "BadRow") = false := by decide +kernel
      have b3 : decide (("BadWord" : Str) = "BadName") = false := by decide +kernel
      have b4 : decide (("BadWord" : Str) = "BadNumber") = false := by decide +kernel
      have b5 : decide (("BadWord" : Str) = "BadWalk") = false := by decide +kernel
      rw [b1, b2, b3, b4, b5]
      have sb := s3.trans (Same.new (o := .lst [.bl true, .bl true, .bl false, .bl false, .bl false, .bl false]) hb)
      have hb1 : upd H3 b (.lst [.bl true, .bl true, .bl false, .bl false, .bl false, .bl false]) b = some (.lst ([true, true, false, false, false, false].map V.bl)) := upd_same
      have hp4 := sb _ _ hp
      revert sb hb1 hp4
      generalize upd H3 b (.lst [.bl true, .bl true, .bl false, .bl false, .bl false, .bl false]) = H4
      intro sb hb1 hp4
      walk_at "st"
      rw [show ([some (.str (S t)), some (.ref p), some (.int (i : Nat)), some .non, some (.ref b), some (.ref ea), d] : L2.St).set 5 none = [some (.str (S t)), some (.ref p), some (.int (i : Nat)), some .non, some (.ref b), none, d] from rfl]
      walk_at "st"
      refine wp_tryT ?_
      walk_at "st"
      refine wp_callSS ?_
      walk_at "st"
      refine c_read_walk few (fun j2 w2 hw2 hr2 hg2 => ?_) (fun L xs ss H5 hm _ _ _ _ => absurd hr (no_bad hm (List.mem_of_getElem? hw)))
      intro dd2 H5 s5 hdd2 hx2
      obtain ⟨-, hpB⟩ := (hd1.mono sb).bad hw2 hr2 hg2
      have hp5 := s5 _ _ hpB
      refine wAs_yes ((XF.m "BadWord" (by decide +kernel) "BadWord" (by decide +kernel)).trans (congrArg some (by decide +kernel))) fun eb heb => ?_
      rw [show ([some (.str (S t)), some (.ref p), some (.int (i : Nat)), some .non, some (.ref b), none, some .non] : L2.St).set 5 (some (.ref eb)) = [some (.str (S t)), some (.ref p), some (.int (i : Nat)), some .non, some (.ref b), some (.ref eb), some .non] from rfl]
      walk_at "st"
      refine wp_xfV rfl hx2 (by rfl) ?_
      walk_at "st"
      refine wp_xfV rfl hx2 (by rfl) ?_
      walk_at "st"
      refine ⟨by simp [sizeLine_eq], fun c2 hc2 => ?_⟩
      have sc := s5.trans (Same.new (o := .lst [.int (j2 : Nat), .non]) hc2)
      have hc3 : upd H5 c2 (.lst [.int (j2 : Nat), .non]) c2 = some (.lst [.int (j2 : Nat), .non]) := upd_same
      have hp6 := sc _ _ hpB
      have hb6 := sc _ _ hb1
      have sT := (s1.trans sb).trans sc
      revert hc3 hp6 hb6 sT
      generalize upd H5 c2 (.lst [.int (j2 : Nat), .non]) = H6
      intro hc3 hp6 hb6 sT
      walk_at "st"
      rw [show ([some (.str (S t)), some (.ref p), some (.int (i : Nat)), some .non, some (.ref b), some (.ref eb), some (.ref c2)] : L2.St).set 5 none = [some (.str (S t)), some (.ref p), some (.int (i : Nat)), some .non, some (.ref b), none, some (.ref c2)] from rfl]
      walk_at "st"
      refine ⟨by simp [sizeLine_eq], fun f hf => ?_⟩
      have sf := Same.new (o := .lst [.bl true, .bl true, .bl false, .bl false, .bl false, .bl false]) hf
      walk_at "st"
      refine wp_neBs2 (bs := [true, true, false, false, false, false]) (sf _ _ hb6) upd_same ?_
      have hp7 := sf _ _ hp6
      have hc7 := sf _ _ hc3
      walk_at "st"
      refine ⟨by simp [sizeLine_eq], fun g hg => ?_⟩
      have sg := Same.new (o := .lst [.int (j2 : Nat), .non]) hg
      walk_at "st"
      refine c_l_same (sm_lst (xs := [.int (j2 : Nat), .non]) (sg _ _ hc7) upd_same (by simp) fun x hx => ?_) fun H8 s8 => ?_
      · rcases List.mem_cons.mp hx with rfl | hx
        · exact sm_int
        · rw [List.mem_singleton.mp hx]; exact sm_non
      walk_at "st"
      exact ⟨_, _, _, _, rfl, ((sT.trans sf).trans sg).trans s8⟩
    · obtain ⟨L', xs', hp, hL', hs', l1⟩ := hd1.good hm
      have hp2 := s2 _ _ hp
      walk_at "st"
      refine ⟨Nat.zero_le _, fun f hf => ?_⟩
      have sf := Same.new (o := .lst []) hf
      refine wp_neNil (bs := []) (sf _ _ (s2 _ _ hF1)) upd_same ?_
      have hp3 := sf _ _ hp2
      refine ⟨_, rfl, ?_⟩
      refine ite_ndec (fun h => absurd rfl h) (fun _ => ?_)
      walk_at "st"
      refine c_l_same (sm_steps (sf _ _ hL2) (sf _ _ (s2 _ _ hL')) (hs.mono sf) (hs'.mono (s2.trans sf)) l1) fun H3 s3 => ?_
      have hL3 := s3 _ _ (sf _ _ hL2)
      walk_at "st"
      refine ⟨by simp [sizeLine_eq], fun x hx => ?_⟩
      have sx := Same.new (o := .tup [.int 7, .int (-1)]) hx
      walk_at "st"
      refine wp_append (sx _ _ hL3) (by rw [hs.len]; omega) ?_
      walk_at "st"
      exact ⟨_, _, _, _, rfl, Same.mut ((((s1.trans s2).trans sf).trans s3).trans sx) (s1.free hL)⟩
  · rintro σ' H' ⟨a, b, c, d, rfl, s⟩
    walk_at "st"
    exact k H' s
theorem len_l_kept (K : PySem.W.Frag) (vs : List V) (H : Hp) (Q : VK) (E : XK) (h : sp_l_kept K vs H Q E) : vs.length = 2 := by
  obtain ⟨_, _, rfl, _⟩ := h
  rfl
theorem c_l_kept {K : PySem.W.Frag} {t : List Nat} {p : Addr} {H : Hp} {Q : VK} {E : XK} (few : t.length ≤ 900) (hd : DueOk t H p) (k : ∀ H', Same H H' → Q (.bl true) H') : sp_l_kept K [.str (S t), .ref p] H Q E := ⟨t, p, rfl, few, hd, k⟩
theorem Sees.putL {P : Pl} {G H : Hp} {D : Addr} {zs : List V} (s : Sees P G H) (hl : D ≠ P.l) (nD : D ≠ P.p) : Sees P (upd G D (.lst zs)) (upd H D (.lst zs)) := by
  obtain ⟨n, c, e⟩ := s.pool
  refine ⟨⟨n, c, by rw [upd_ne nD.symm]; exact e⟩, by rw [upd_ne hl.symm]; exact s.cell, s.few, by rw [upd_ne nD.symm]; exact s.free, fun a o h => ?_⟩
  by_cases ea : a = D
  · subst ea; rw [upd_same] at h ⊢; exact h
  · rw [upd_ne ea] at h ⊢
    exact s.sub _ _ h
def sp_law (K : PySem.W.Frag) : Sp := fun vs H Q _ => ∃ (a : Addr) (ns : List Int), vs = [.ref a] ∧ SqL K H a (ns.map V.int) ∧ ns.length ≤ 63 ∧ ∀ H', Q (.bl true) H' 
abbrev N_law : List Str := ["_law_script", "_law_pool_here", "_law_steps", "_law_k", "_law_line", "_law_handed", "_law_text", "_law_way", "_law_step_here"]
theorem st_law {a0 : V} : L2.start N_law [a0] = [some a0, none, none, none, none, none, none, none, none] := rfl
def t_law (K : PySem.W.Frag) : TS :=
  (tSeq ((tAsg ((tCall (sp_l_pool K) [] E0 ((tCons (tVar 0) (tNil))))) (gName 1)))
    ((tSeq ((tAsg ((tLst (tNil))) (gName 2)))
    ((tSeq ((tFor ((iRng1 ((tCons ((tCall (sp_l_draw K) [] E0 ((tCons (tVar 1) ((tCons (tC (.int 20)) (tNil))))))) (tNil))))) (gName 3) ((tDrop ((tBM K "list" rAppend (tVar 2) ((tCons ((tCall (sp_l_step K) [] E0 ((tCons (tVar 1) (tNil))))) (tNil)))))))))
    ((tSeq ((tAsg ((tM1 (rJoin K) (tC (.str (S [32]))) ((tLc ((iList K (tVar 2))) ((gName 8)) (tYes) ((tCall (sp_l_spelt K) [] E0 ((tCons (tVar 8) (tNil))))) [8])))) (gName 4)))
    ((tSeq ((tAsg ((tCB (rListS K) ((tCons (tVar 2) (tNil))))) (gName 5)))
    ((tSeq ((tIfS ((tOr ((tNot ((tB ((tCall (sp_l_same K 3) [] E0 ((tCons ((tCall (sp_write_walk K) [] E0 ((tCons (tVar 5) (tNil))))) ((tCons (tVar 4) (tNil))))))))))) ((tNot ((tB ((tCall (sp_l_same K 3) [] E0 ((tCons (tVar 5) ((tCons (tVar 2) (tNil))))))))))))) ((tRet (tC (.bl false)))) (tNext)))
    ((tSeq ((tDrop ((tBM K "list" rAppend (tVar 5) ((tCons ((tTup ((tCons (tC (.int 3)) ((tCons (tC (.int 1)) (tNil))))))) (tNil)))))))
    ((tSeq ((tIfS ((tOr ((tNot ((tB ((tCall (sp_l_same K 3) [] E0 ((tCons ((tCall (sp_write_walk K) [] E0 ((tCons ((tCB (rListS K) ((tCons (tVar 2) (tNil))))) (tNil))))) ((tCons (tVar 4) (tNil))))))))))) ((tNot ((tB ((tCall (sp_l_kept K) [] E0 ((tCons (tVar 4) ((tCons ((tLst ((tCons (tC (.bl true)) ((tCons (tVar 2) (tNil))))))) (tNil))))))))))))) ((tRet (tC (.bl false)))) (tNext)))
    ((tSeq ((tAsg (tVar 4) (gName 6)))
    ((tSeq ((tAsg ((tCall (sp_l_draw K) [] E0 ((tCons (tVar 1) ((tCons (tC (.int 4)) (tNil))))))) (gName 7)))
    ((C8.tCut ((tIfS ((tTest (tOp rEq (tVar 7) (tC (.int 2))))) ((tAsg ((tCall (sp_l_changed K) [] E0 ((tCons (tVar 1) ((tCons (tVar 2) (tNil))))))) (gName 6))) (tNext)))
    ((C8.tCut ((tIfS ((tTest (tOp rEq (tVar 7) (tC (.int 3))))) ((tAsg ((tCall (sp_l_free K) [] E0 ((tCons (tVar 1) (tNil))))) (gName 6))) (tNext)))
    ((tRet ((tCall (sp_l_kept K) [] E0 ((tCons (tVar 6) ((tCons ((tCall (sp_l_due K) [] E0 ((tCons (tVar 6) (tNil))))) (tNil))))))))))))))))))))))))))))))))

theorem pure_law (K : PySem.W.Frag) (vs : List V) (H : Hp) (Q : VK) (E : XK) (h : sp_law K vs H Q E) : t_law K { nx := fun _ H' => Q .non H', rt := Q } (L2.start N_law vs) H := by
  obtain ⟨z0, cs, rfl, hx, hn, kq⟩ := h
  rw [st_law]
  unfold t_law
  walk_at "st"
  refine c_l_pool hx hn fun P G0 H0 _ hs0 => ?_
  walk_at "st"
  refine ⟨Nat.zero_le _, fun L hL => ?_⟩
  obtain ⟨gL, nL⟩ := hs0.fresh hL
  have nLl : L ≠ P.l := fun e => by rw [e, hs0.cell] at gL; cases gL
  have hs1 := hs0.new (o := .lst []) hL
  walk_at "st"
  refine c_l_draw hs1 (by omega) fun m H2 m0 m1 hs2 => ?_
  walk_at "st"
  refine loop1 (by omega) (fun i σ' H' => ∃ (x : Option V) (xs : List V) (ss : List (Nat × Int)) (G' : Hp), σ' = [some (.ref z0), some (.ref P.p), some (.ref L), x, none, none, none, none, none] ∧ Same G0 G' ∧ Sees P G' H' ∧ G' L = some (.lst xs) ∧ Steps G' xs ss ∧ ss.length ≤ i ∧ ∀ s ∈ ss, s.1 < 10 ^ 9 ∧ (s.2 = 1 ∨ s.2 = -1)) ⟨_, [], [], _, rfl, Same.new gL, hs2, upd_same, .nil, Nat.le_refl _, by simp⟩ ?_ ?_
  · rintro i σ' H' hi ⟨x, xs, ss, G', rfl, g1, hs3, eL, hst, ls, ok⟩
    walk_at "st"
    refine c_l_step hs3 fun y n d G4 H4 b1 b2 g4 hs4 ey => ?_
    walk_at "st"
    have eL4 := g4 _ _ eL
    refine wp_append (hs4.sub _ _ eL4) (by rw [hst.len]; omega) ?_
    walk_at "st"
    refine ⟨_, xs ++ [.ref y], ss ++ [(n, d)], upd G4 L (.lst (xs ++ [.ref y])), rfl, Same.mut (g1.trans g4) gL, hs4.putL nLl nL, upd_same, (Steps.app (.cons (s := (n, d)) ey .nil) (hst.mono g4)).upd eL4, by rw [List.length_append, List.length_singleton]; omega, fun s hs => ?_⟩
    rcases List.mem_append.mp hs with h | h
    · exact ok s h
    · rw [List.mem_singleton.mp h]; exact ⟨b1, b2⟩
  rintro σ' H3 ⟨x, xs, ss, G, rfl, g1, hs, eL, hst, ls, ok⟩
  have ls : ss.length ≤ 19 := by omega
  have el := hst.len
  clear hs2 hs1
  walk_at "st"
  refine wp_m1 ?_
  walk_at "st"
  refine ⟨⟨_, rfl⟩, ?_⟩
  walk_at "st"
  refine lcGL (sq_of (hs.sub _ _ eL)) (by omega) (fun i => ((ss.take i).map fun s => sv (spelt s))) rfl (fun i => by simp only [List.length_map, List.length_take]; omega) (fun i xv H2 R R0 hi s2 k1 k0 => ?_) (fun B H4 hB s4 hB4 => ?_)
  · obtain ⟨y, s, rfl, he, hy⟩ := (hst.mono (hs.sub.trans s2)).at_ hi
    obtain ⟨b1, b2⟩ := ok s (List.mem_of_getElem? he)
    rw [show wipe ([some (.ref z0), some (.ref P.p), some (.ref L), x, none, none, none, none, none] : L2.St) [8] = [some (.ref z0), some (.ref P.p), some (.ref L), x, none, none, none, none, none] from rfl]
    walk_at "st"
    refine ⟨rfl, ?_⟩
    walk_at "st"
    refine c_l_spelt hy b1 b2 ?_
    exact k1 _ _ (Same.refl _) (by rw [take_snoc he, List.map_append]; rfl)
  rw [el, List.take_length] at hB4
  walk_at "st"
  refine wp_joinW (ws := ss.map spelt) (by rw [List.map_map]; exact hB4) (by rw [List.length_map]; omega) (fun w hw => by
    obtain ⟨q, hq, rfl⟩ := List.mem_map.mp hw
    have := spelt_len (ok q hq).1
    omega) ?_
  have lsp : (spell ss).length ≤ 19 * 11 := by
    have z := joinL_len (ws := ss.map spelt) (b := 10) fun w hw => by
      obtain ⟨q, hq, rfl⟩ := List.mem_map.mp hw
      exact spelt_len (ok q hq).1
    rw [List.length_map] at z
    exact Nat.le_trans z (Nat.mul_le_mul_right _ ls)
  rw [show TL.joinL [32] (ss.map spelt) = spell ss from rfl]
  have hsB := hs.same s4
  walk_at "st"
  refine wp_listL (sq_of (hsB.sub _ _ eL)) fun D hD => ?_
  obtain ⟨gD, nD⟩ := hsB.fresh hD
  have sD := Same.new (o := .lst xs) hD
  have hsD := hsB.same sD
  have eD : upd H4 D (.lst xs) D = some (.lst xs) := upd_same
  revert hsD eD
  generalize upd H4 D (.lst xs) = H5
  intro hsD eD
  walk_at "st"
  refine c_write_walk eD (hst.mono hsD.sub) (by omega) ok fun H6 s6 => ?_
  walk_at "st"
  refine c_l_same sm_str fun H7 s7 => ?_
  have s67 := s6.trans s7
  have eD7 := s67 _ _ eD
  have hs7 := hsD.same s67
  walk_at "st"
  refine c_l_same (sm_steps eD7 (hs7.sub _ _ eL) (hst.mono hs7.sub) (hst.mono hs7.sub) (by omega)) fun H8 s8 => ?_
  have eD8 := s8 _ _ eD7
  have hs8 := hs7.same s8
  walk_at "st"
  refine ⟨by simp [sizeLine_eq], fun y hy => ?_⟩
  have sy := Same.new (o := .tup [.int 3, .int 1]) hy
  have hs9 := hs8.same sy
  walk_at "st"
  refine wp_append (sy _ _ eD8) (by rw [el]; omega) ?_
  have hsA := hs9.set (o := .lst (xs ++ [.ref y])) gD nD
  revert hsA
  generalize upd (upd H8 y (.tup [.int 3, .int 1])) D (.lst (xs ++ [.ref y])) = HA
  intro hsA
  walk_at "st"
  refine wp_listL (sq_of (hsA.sub _ _ eL)) fun D2 hD2 => ?_
  have sD2 := Same.new (o := .lst xs) hD2
  have hsC := hsA.same sD2
  walk_at "st"
  refine c_write_walk upd_same (hst.mono hsC.sub) (by omega) ok fun HC s3 => ?_
  have hsC := hsC.same s3
  walk_at "st"
  refine c_l_same sm_str fun HD sHD => ?_
  have hsE := hsC.same sHD
  walk_at "st"
  refine ⟨by simp [sizeLine_eq], fun q hq => ?_⟩
  have sq := Same.new (o := .lst [.bl true, .ref L]) hq
  have hsF := hsE.same sq
  walk_at "st"
  refine c_l_kept (by omega) (.inr ⟨L, xs, ss, upd_same, hsF.sub _ _ eL, hst.mono hsF.sub, ?_, by omega⟩) fun HG sG => ?_
  · rw [wdz_spell, List.map_map]
    exact List.map_congr_left fun s hs => rdW_spelt (ok s hs).1 (ok s hs).2
  have hsG := hsF.same sG
  walk_at "st"
  refine c_l_draw hsG (by omega) fun way HH w0 w1 hsH => ?_
  walk_at "st"
  refine wp_cut (fun σ' H' => ∃ (t : List Nat) (G' : Hp), σ' = [some (.ref z0), some (.ref P.p), some (.ref L), x, some (.str (S (spell ss))), some (.ref D), some (.str (S t)), some (.int way), none] ∧ t.length ≤ 900 ∧ Sees P G' H') ?_ ?_
  · walk_at "st"
    refine ite_dec (fun h => ?_) (fun h => ?_)
    · walk_at "st"
      refine c_l_changed hsH eL hst (by omega) ok fun t G' H' lt _ hst2 => ?_
      walk_at "st"
      exact ⟨t, G', rfl, lt, hst2⟩
    · walk_at "st"
      exact ⟨spell ss, G, rfl, by omega, hsH⟩
  rintro σ' HI ⟨t, G', rfl, lt, hsI⟩
  walk_at "st"
  refine wp_cut (fun σ' H' => ∃ (t : List Nat), σ' = [some (.ref z0), some (.ref P.p), some (.ref L), x, some (.str (S (spell ss))), some (.ref D), some (.str (S t)), some (.int way), none] ∧ t.length ≤ 900) ?_ ?_
  · walk_at "st"
    refine ite_dec (fun h => ?_) (fun h => ?_)
    · walk_at "st"
      refine c_l_free hsI fun t2 H' lt2 hst2 => ?_
      walk_at "st"
      exact ⟨t2, rfl, by omega⟩
    · walk_at "st"
      exact ⟨t, rfl, lt⟩
  rintro σ' HJ ⟨t, rfl, lt⟩
  walk_at "st"
  refine c_l_due lt fun p HK sK hd => ?_
  walk_at "st"
  refine c_l_kept lt hd fun HL sL => ?_
  exact kq _
theorem len_law (K : PySem.W.Frag) (vs : List V) (H : Hp) (Q : VK) (E : XK) (h : sp_law K vs H Q E) : vs.length = 1 := by
  obtain ⟨_, _, rfl, _⟩ := h
  rfl

structure Txt (K : PySem.W.Frag) (mg : Str → Option Value) : Prop where
  f_range : mg "range" = none
  f_list : mg "list" = none
  f_int : mg "int" = none
  f_len : mg "len" = none
  f_bool : mg "bool" = none
  f_isinstance : mg "isinstance" = none
  f_str : mg "str" = none
  f_dict : mg "dict" = none
  f_tuple : mg "tuple" = none
  g_MinuteError : mg "MinuteError" = some (.ref (C_MinuteError K))
  g_BadWalk : mg "BadWalk" = some (.ref (C_BadWalk K))
  g_BadNumber : mg "BadNumber" = some (.ref (C_BadNumber K))
  g_BadName : mg "BadName" = some (.ref (C_BadName K))
  g_BadRow : mg "BadRow" = some (.ref (C_BadRow K))
  g_BadWord : mg "BadWord" = some (.ref (C_BadWord K))
  f_ValueError : mg "ValueError" = none
  xf_BadWord : XfC K (C_BadWord K)
  na_BadWord_why : NoAttr K (C_BadWord K) "why"
  na_BadWord_at : NoAttr K (C_BadWord K) "at"
  f_enumerate : mg "enumerate" = none
  ox_BadWord : OexC K (C_BadWord K)
  c_MOST_DIGITS : ∃ u, mg "MOST_DIGITS" = some u ∧ RelV (.int 9) u
  c_DIGITS : ∃ u, mg "DIGITS" = some u ∧ RelV (.str (S Z10)) u
  f_all : mg "all" = none
  xf : XFacts K exs
section
variable {P : Program} {w : World} {K : PySem.W.Frag} {mg : Str → Option Value} {base : Heap}
theorem sc_write_walk : FnScope N_write_walk ["walk"] (defScope s_write_walk) := ⟨rfl, rfl, rfl, by decide +kernel, rfl, by decide +kernel, by decide +kernel⟩
theorem ok_write_walk {f : Addr} {fd : FuncData} (F : FunD K "write_walk" "write_walk" (defArgs s_write_walk) (defBody s_write_walk) (defScope s_write_walk) [] [] f fd) (T : Txt K mg) : FnOk P w K mg base CX0 1 f fd ["walk"] (sp_write_walk K) := by
  refine F.ok sc_write_walk (len_write_walk K) (fun cdv A outer s H vs Q E hr h => ⟨t_write_walk K, PSs.nox ?_, pure_write_walk K vs H Q E h⟩)
  exact (pss_cons (ps_set (i := 1) sc_write_walk.nd rfl (Or.inr rfl) (pe_disp (pps_cons pe_int (pe_strS (by decide +kernel)) (pps_cons (pe_un un_neg pe_int) (pe_strS (by decide +kernel)) pps_nil)) rfl rfl (by simp) (by decide)))
    (pss_one (ps_ret (pe_join (pe_strS (by decide +kernel)) (pe_lc (own := [("number", 2), ("direction", 3)]) rfl sc_write_walk.nd (pi_list (pv 0)) (blkOk_by (N := N_write_walk) (sc := defScope s_write_walk) (by decide +kernel)) (fun _ _ _ _ _ => (pg_tup rfl (pgs_cons (pg_name (i := 2) sc_write_walk.nd rfl (Or.inl rfl)) (pgs_cons (pg_name (i := 3) sc_write_walk.nd rfl (Or.inl rfl)) pgs_nil)))) (fun _ _ _ _ _ => pts_nil) (fun _ _ _ _ _ => (pe_fs (PJ.cons (pe_fmt (pv 2)) (PJ.cons (pe_fmt (pe_dget (u1 hr) (pv 1) (pv 3) (fun _ _ => rfl))) PJ.nil)))))))))
theorem sc_l_pool : FnScope N_l_pool ["_law_script"] (defScope s_l_pool) := ⟨rfl, rfl, rfl, by decide +kernel, rfl, by decide +kernel, by decide +kernel⟩
theorem ok_l_pool {f : Addr} {fd : FuncData} (F : FunD K "_law_pool" "_law_pool" (defArgs s_l_pool) (defBody s_l_pool) (defScope s_l_pool) [] [] f fd) (T : Txt K mg) : FnOk P w K mg base CX0 1 f fd ["_law_script"] (sp_l_pool K) := by
  refine F.ok sc_l_pool (len_l_pool K) (fun cdv A outer s H vs Q E hr h => ⟨t_l_pool K, PSs.nox ?_, pure_l_pool K vs H Q E h⟩)
  exact (pss_cons (ps_setLc (i := 1) (own := [("_law_cell", 3)]) rfl sc_l_pool.nd rfl rfl (sw_true rfl rfl rfl (by decide +kernel)) (pi_list (pv 0)) (blkOk_by (N := N_l_pool) (sc := defScope s_l_pool) (by decide +kernel)) (fun _ _ _ _ _ => (pg_name (i := 3) sc_l_pool.nd rfl (Or.inl rfl))) (fun _ _ _ _ _ => pts_nil) (fun _ _ _ _ _ => (pe_callTy callInt1 (by rfl) T.f_int (by decide +kernel) (pa_cons (pv 3) pa_nil))))
    (pss_cons (ps_set (i := 2) sc_l_pool.nd rfl (Or.inl rfl) pe_int)
    (pss_cons (ps_if (PW.pt (pw_and (pt_cmpR op_gt (pe_callB callLenSeq (by rfl) T.f_len (by decide +kernel) (pa_cons (pv 1) pa_nil)) pe_int (nomark _)) (pw_and1 (pt_cmpR op_ge (pe_ix ix_list (pv 1) pe_int (fun _ _ => rfl)) (pe_op op_pow pe_int pe_int) (nomark _))))) (pss_one (ps_set (i := 2) sc_l_pool.nd rfl (Or.inl rfl) (pe_ix ix_list (pv 1) pe_int (fun _ _ => rfl)))) pss_nil)
    (pss_one (ps_ret (pe_lst (pa_cons (pv 2) (pa_cons pe_int (pa_cons (pv 1) pa_nil)))))))))
theorem sc_l_draw : FnScope N_l_draw ["_law_pool_here", "_law_many"] (defScope s_l_draw) := ⟨rfl, rfl, rfl, by decide +kernel, rfl, by decide +kernel, by decide +kernel⟩
theorem ok_l_draw {f : Addr} {fd : FuncData} (F : FunD K "_law_draw" "_law_draw" (defArgs s_l_draw) (defBody s_l_draw) (defScope s_l_draw) [] [] f fd) (T : Txt K mg) : FnOk P w K mg base CX0 1 f fd ["_law_pool_here", "_law_many"] (sp_l_draw K) := by
  refine F.ok sc_l_draw (len_l_draw K) (fun cdv A outer s H vs Q E hr h => ⟨t_l_draw K, PSs.nox ?_, pure_l_draw K vs H Q E h⟩)
  exact (pss_cons (ps_if (pt_cmpR op_gt (pe_ix ix_list (pv 0) pe_int (fun _ _ => rfl)) pe_int (nomark _)) (pss_cons (ps_set (i := 2) sc_l_draw.nd rfl (Or.inl rfl) (pe_op op_mod (pe_callTy callInt1 (by rfl) T.f_int (by decide +kernel) (pa_cons (pe_ix ix_list (pv 0) pe_int (fun _ _ => rfl)) pa_nil)) (pv 1)))
    (pss_cons (ps_asg (pe_op op_fdiv (pe_ix ix_list (pv 0) pe_int (fun _ _ => rfl)) (pv 1)) (pg_sub (pv 0) pe_int set_list))
    (pss_one (ps_ret (pv 2))))) pss_nil)
    (pss_cons (ps_asg (pe_op op_add (pe_ix ix_list (pv 0) pe_int (fun _ _ => rfl)) pe_int) (pg_sub (pv 0) pe_int set_list))
    (pss_cons (ps_set (i := 3) sc_l_draw.nd rfl (Or.inl rfl) (pe_ix ix_list (pv 0) pe_int (fun _ _ => rfl)))
    (pss_cons (ps_set (i := 4) sc_l_draw.nd rfl (Or.inl rfl) pe_int)
    (pss_cons (ps_set (i := 5) sc_l_draw.nd rfl (Or.inl rfl) pe_int)
    (pss_cons (ps_if (pt_cmpR op_gt (pe_callB callLenSeq (by rfl) T.f_len (by decide +kernel) (pa_cons (pv 3) pa_nil)) pe_int (nomark _)) (pss_cons (ps_set (i := 4) sc_l_draw.nd rfl (Or.inl rfl) (pe_ix ix_list (pv 3) (pe_op op_mod (pe_callTy callInt1 (by rfl) T.f_int (by decide +kernel) (pa_cons (pe_ix ix_list (pv 0) pe_int (fun _ _ => rfl)) pa_nil)) (pe_callB callLenSeq (by rfl) T.f_len (by decide +kernel) (pa_cons (pv 3) pa_nil))) (fun _ _ => rfl)))
    (pss_one (ps_set (i := 5) sc_l_draw.nd rfl (Or.inl rfl) (pe_ix ix_list (pv 3) pe_int (fun _ _ => rfl))))) pss_nil)
    (pss_cons (ps_set (i := 6) sc_l_draw.nd rfl (Or.inl rfl) (pe_op op_mod (pe_callTy callInt1 (by rfl) T.f_int (by decide +kernel) (pa_cons (pe_op op_add (pe_op op_add (pe_op op_add (pe_op op_mul (pv 4) pe_int) (pe_op op_mul (pv 5) pe_int)) (pe_op op_mul (pe_ix ix_list (pv 0) pe_int (fun _ _ => rfl)) pe_int)) pe_int) pa_nil)) pe_int))
    (pss_cons (ps_set (i := 6) sc_l_draw.nd rfl (Or.inl rfl) (pe_op op_mod (pe_callTy callInt1 (by rfl) T.f_int (by decide +kernel) (pa_cons (pe_op op_add (pe_op op_add (pe_op op_mul (pv 6) (pv 6)) (pe_op op_mul (pv 6) pe_int)) (pe_op op_mul (pe_ix ix_list (pv 0) pe_int (fun _ _ => rfl)) pe_int)) pa_nil)) pe_int))
    (pss_one (ps_ret (pe_op op_mod (pe_callTy callInt1 (by rfl) T.f_int (by decide +kernel) (pa_cons (pe_op op_fdiv (pv 6) pe_int) pa_nil)) (pv 1))))))))))))
theorem sc_l_is_int : FnScope N_l_is_int ["_law_thing"] (defScope s_l_is_int) := ⟨rfl, rfl, rfl, by decide +kernel, rfl, by decide +kernel, by decide +kernel⟩
theorem ok_l_is_int {f : Addr} {fd : FuncData} (F : FunD K "_law_is_int" "_law_is_int" (defArgs s_l_is_int) (defBody s_l_is_int) (defScope s_l_is_int) [] [] f fd) (T : Txt K mg) : FnOk P w K mg base CX0 1 f fd ["_law_thing"] (sp_l_is_int K) := by
  refine F.ok sc_l_is_int (len_l_is_int K) (fun cdv A outer s H vs Q E hr h => ⟨t_l_is_int K, PSs.nox ?_, pure_l_is_int K vs H Q E h⟩)
  exact (pss_one (ps_ret (pe_and (pe_callB call_isi (by rfl) T.f_isinstance (by decide +kernel) (pa_cons (pv 0) (pa_cons (pe_bltn (v := .ty "int") (by rfl) T.f_int (by decide +kernel) rfl) pa_nil))) (pe_one (pe_not (pe_callB call_isi (by rfl) T.f_isinstance (by decide +kernel) (pa_cons (pv 0) (pa_cons (pe_bltn (v := .ty "bool") (by rfl) T.f_bool (by decide +kernel) rfl) pa_nil))))))))
theorem sc_l_same : FnScope N_l_same ["_law_actual", "_law_due_here"] (defScope s_l_same) := ⟨rfl, rfl, rfl, by decide +kernel, rfl, by decide +kernel, by decide +kernel⟩
theorem ok0_l_same {f : Addr} {fd : FuncData} (F : FunD K "_law_same" "_law_same" (defArgs s_l_same) (defBody s_l_same) (defScope s_l_same) [] [] f fd) : FnOk P w K mg base CX0 (2 + 0) f fd ["_law_actual", "_law_due_here"] (sp_l_same K 0) := F.ok sc_l_same (fun _ _ _ _ h => (sp0_l_same K h).elim) (fun _ _ _ _ _ _ _ _ _ h => (sp0_l_same K h).elim)
theorem ok_l_same {f : Addr} {fd : FuncData} (F : FunD K "_law_same" "_law_same" (defArgs s_l_same) (defBody s_l_same) (defScope s_l_same) [] [] f fd) (T : Txt K mg) (G_l_is_int : C8.Cal P w K mg base (1) "_law_is_int" (sp_l_is_int K) []) (n : Nat) (G_l_same : C8.Cal P w K mg base (2 + n) "_law_same" (sp_l_same K n) []) : FnOk P w K mg base CX0 ((2 + n) + 1) f fd ["_law_actual", "_law_due_here"] (sp_l_same K (n + 1)) := by
  refine F.ok sc_l_same (len_l_same K (n + 1)) (fun cdv A outer s H vs Q E hr h => ⟨t_l_same K n, PSs.nox ?_, pure_l_same K n vs H Q E h⟩)
  exact (pss_cons (ps_if (pt_cmpR op_isN1 (pv 1) pe_non (nomark _)) (pss_one (ps_ret (pe_cmpR op_isN1 (pv 0) pe_non (nomark _)))) pss_nil)
    (pss_cons (ps_if (pt_val (pe_callB call_isi (by rfl) T.f_isinstance (by decide +kernel) (pa_cons (pv 1) (pa_cons (pe_bltn (v := .ty "bool") (by rfl) T.f_bool (by decide +kernel) rfl) pa_nil)))) (pss_one (ps_ret (pe_and (pe_callB call_isi (by rfl) T.f_isinstance (by decide +kernel) (pa_cons (pv 0) (pa_cons (pe_bltn (v := .ty "bool") (by rfl) T.f_bool (by decide +kernel) rfl) pa_nil))) (pe_one (pe_cmpR op_eq (pv 0) (pv 1) (nomark _)))))) pss_nil)
    (pss_cons (ps_if (pt_val (pe_callB call_isi (by rfl) T.f_isinstance (by decide +kernel) (pa_cons (pv 1) (pa_cons (pe_bltn (v := .ty "int") (by rfl) T.f_int (by decide +kernel) rfl) pa_nil)))) (pss_one (ps_ret (pe_and (C8.pe_c G_l_is_int hr (by omega) (by rfl) (pa_cons (pv 0) pa_nil)) (pe_one (pe_cmpR op_eq (pv 0) (pv 1) (nomark _)))))) pss_nil)
    (pss_cons (ps_if (pt_val (pe_callB call_isi (by rfl) T.f_isinstance (by decide +kernel) (pa_cons (pv 1) (pa_cons (pe_bltn (v := .ty "str") (by rfl) T.f_str (by decide +kernel) rfl) pa_nil)))) (pss_one (ps_ret (pe_and (pe_callB call_isi (by rfl) T.f_isinstance (by decide +kernel) (pa_cons (pv 0) (pa_cons (pe_bltn (v := .ty "str") (by rfl) T.f_str (by decide +kernel) rfl) pa_nil))) (pe_one (pe_cmpR op_eq (pv 0) (pv 1) (nomark _)))))) pss_nil)
    (pss_cons (ps_if (pt_val (pe_callB call_isi (by rfl) T.f_isinstance (by decide +kernel) (pa_cons (pv 1) (pa_cons (pe_bltn (v := .ty "dict") (by rfl) T.f_dict (by decide +kernel) rfl) pa_nil)))) (pss_cons ps_never
    (pss_cons ps_never
    (pss_one (ps_ret pe_bl)))) pss_nil)
    (pss_cons (ps_if (PW.pt (pw_and (pt_val (pe_callB call_isi (by rfl) T.f_isinstance (by decide +kernel) (pa_cons (pv 1) (pa_cons (pe_bltn (v := .ty "list") (by rfl) T.f_list (by decide +kernel) rfl) pa_nil)))) (pw_and1 (pt_not (pt_val (pe_callB call_isi (by rfl) T.f_isinstance (by decide +kernel) (pa_cons (pv 0) (pa_cons (pe_bltn (v := .ty "list") (by rfl) T.f_list (by decide +kernel) rfl) pa_nil)))))))) (pss_one (ps_ret pe_bl)) pss_nil)
    (pss_cons (ps_if (PW.pt (pw_and (pt_val (pe_callB call_isi (by rfl) T.f_isinstance (by decide +kernel) (pa_cons (pv 1) (pa_cons (pe_bltn (v := .ty "tuple") (by rfl) T.f_tuple (by decide +kernel) rfl) pa_nil)))) (pw_and1 (pt_not (pt_val (pe_callB call_isi (by rfl) T.f_isinstance (by decide +kernel) (pa_cons (pv 0) (pa_cons (pe_bltn (v := .ty "tuple") (by rfl) T.f_tuple (by decide +kernel) rfl) pa_nil)))))))) (pss_one (ps_ret pe_bl)) pss_nil)
    (pss_cons (ps_if (pt_cmpR op_ne (pe_callB callLenSeq (by rfl) T.f_len (by decide +kernel) (pa_cons (pv 0) pa_nil)) (pe_callB callLenSeq (by rfl) T.f_len (by decide +kernel) (pa_cons (pv 1) pa_nil)) (nomark _)) (pss_one (ps_ret pe_bl)) pss_nil)
    (pss_cons (ps_for PassesOwn.never rfl (pi_range1 rfl T.f_range (pa_cons (pe_callB callLenSeq (by rfl) T.f_len (by decide +kernel) (pa_cons (pv 1) pa_nil)) pa_nil)) (pg_name (i := 3) sc_l_same.nd rfl (Or.inl rfl)) (pss_one (ps_if (pt_not (pt_val (C8.pe_c G_l_same hr (by omega) (by rfl) (pa_cons (pe_ix ix_seq (pv 0) (pv 3) (fun _ _ => rfl)) (pa_cons (pe_ix ix_seq (pv 1) (pv 3) (fun _ _ => rfl)) pa_nil))))) (pss_one (ps_ret pe_bl)) pss_nil)))
    (pss_one (ps_ret pe_bl)))))))))))
theorem sc_l_step : FnScope N_l_step ["_law_pool_here"] (defScope s_l_step) := ⟨rfl, rfl, rfl, by decide +kernel, rfl, by decide +kernel, by decide +kernel⟩
theorem ok_l_step {f : Addr} {fd : FuncData} (F : FunD K "_law_step" "_law_step" (defArgs s_l_step) (defBody s_l_step) (defScope s_l_step) [] [] f fd) (T : Txt K mg) (G_l_draw : C8.Cal P w K mg base (1) "_law_draw" (sp_l_draw K) []) : FnOk P w K mg base CX0 2 f fd ["_law_pool_here"] (sp_l_step K) := by
  refine F.ok sc_l_step (len_l_step K) (fun cdv A outer s H vs Q E hr h => ⟨t_l_step K, PSs.nox ?_, pure_l_step K vs H Q E h⟩)
  exact (pss_cons (ps_set (i := 1) sc_l_step.nd rfl (Or.inl rfl) (C8.pe_c G_l_draw hr (by omega) (by rfl) (pa_cons (pv 0) (pa_cons pe_int pa_nil))))
    (pss_cons (ps_if (pt_cmpR op_eq (C8.pe_c G_l_draw hr (by omega) (by rfl) (pa_cons (pv 0) (pa_cons pe_int pa_nil))) pe_int (nomark _)) (pss_one (ps_set (i := 1) sc_l_step.nd rfl (Or.inl rfl) (C8.pe_c G_l_draw hr (by omega) (by rfl) (pa_cons (pv 0) (pa_cons (pe_op op_pow pe_int pe_int) pa_nil))))) pss_nil)
    (pss_one (ps_ret (pe_tup (pa_cons (pv 1) (pa_cons (pe_op op_sub pe_int (pe_op op_mul pe_int (C8.pe_c G_l_draw hr (by omega) (by rfl) (pa_cons (pv 0) (pa_cons pe_int pa_nil))))) pa_nil)))))))
theorem sc_l_spelt : FnScope N_l_spelt ["_law_step_here"] (defScope s_l_spelt) := ⟨rfl, rfl, rfl, by decide +kernel, rfl, by decide +kernel, by decide +kernel⟩
theorem ok_l_spelt {f : Addr} {fd : FuncData} (F : FunD K "_law_spelt" "_law_spelt" (defArgs s_l_spelt) (defBody s_l_spelt) (defScope s_l_spelt) [] [] f fd) (T : Txt K mg) : FnOk P w K mg base CX0 1 f fd ["_law_step_here"] (sp_l_spelt K) := by
  refine F.ok sc_l_spelt (len_l_spelt K) (fun cdv A outer s H vs Q E hr h => ⟨t_l_spelt K, PSs.nox ?_, pure_l_spelt K vs H Q E h⟩)
  exact (pss_cons (ps_if (pt_cmpR op_eq (pe_ix ix_tup (pv 0) pe_int (fun _ _ => rfl)) pe_int (nomark _)) (pss_one (ps_ret (pe_op opAddStr (pe_callTy callStrInt (by rfl) T.f_str (by decide +kernel) (pa_cons (pe_ix ix_tup (pv 0) pe_int (fun _ _ => rfl)) pa_nil)) (pe_strS (by decide +kernel))))) pss_nil)
    (pss_one (ps_ret (pe_op opAddStr (pe_callTy callStrInt (by rfl) T.f_str (by decide +kernel) (pa_cons (pe_ix ix_tup (pv 0) pe_int (fun _ _ => rfl)) pa_nil)) (pe_strS (by decide +kernel))))))
theorem sc_l_odd : FnScope N_l_odd ["_law_pool_here"] (defScope s_l_odd) := ⟨rfl, rfl, rfl, by decide +kernel, rfl, by decide +kernel, by decide +kernel⟩
theorem ok_l_odd {f : Addr} {fd : FuncData} (F : FunD K "_law_odd" "_law_odd" (defArgs s_l_odd) (defBody s_l_odd) (defScope s_l_odd) [] [] f fd) (T : Txt K mg) (G_l_draw : C8.Cal P w K mg base (1) "_law_draw" (sp_l_draw K) []) : FnOk P w K mg base CX0 2 f fd ["_law_pool_here"] (sp_l_odd K) := by
  refine F.ok sc_l_odd (len_l_odd K) (fun cdv A outer s H vs Q E hr h => ⟨t_l_odd K, PSs.nox ?_, pure_l_odd K vs H Q E h⟩)
  exact (pss_cons (ps_set (i := 1) sc_l_odd.nd rfl (Or.inl rfl) (pe_lst (pa_cons (pe_strS (by decide +kernel)) (pa_cons (pe_strS (by decide +kernel)) (pa_cons (pe_strS (by decide +kernel)) (pa_cons (pe_strS (by decide +kernel)) (pa_cons (pe_strS (by decide +kernel)) (pa_cons (pe_strS (by decide +kernel)) (pa_cons (pe_strS (by decide +kernel)) (pa_cons (pe_strS (by decide +kernel)) (pa_cons (pe_strS (by decide +kernel)) (pa_cons (pe_strS (by decide +kernel)) (pa_cons (pe_strS (by decide +kernel)) (pa_cons (pe_strS (by decide +kernel)) (pa_cons (pe_strS (by decide +kernel)) pa_nil)))))))))))))))
    (pss_cons (ps_set (i := 1) sc_l_odd.nd rfl (Or.inl rfl) (pe_op op_cat (pv 1) (pe_lst (pa_cons (pe_strS (by decide +kernel)) (pa_cons (pe_strS (by decide +kernel)) (pa_cons (pe_strS (by decide +kernel)) (pa_cons (pe_strS (by decide +kernel)) (pa_cons (pe_strS (by decide +kernel)) (pa_cons (pe_strS (by decide +kernel)) (pa_cons (pe_strS (by decide +kernel)) (pa_cons (pe_strS (by decide +kernel)) (pa_cons (pe_strS (by decide +kernel)) pa_nil))))))))))))
    (pss_one (ps_ret (pe_ix ix_list (pv 1) (C8.pe_c G_l_draw hr (by omega) (by rfl) (pa_cons (pv 0) (pa_cons pe_int pa_nil))) (fun _ _ => rfl))))))
theorem sc_l_sign : FnScope N_l_sign ["_law_pool_here"] (defScope s_l_sign) := ⟨rfl, rfl, rfl, by decide +kernel, rfl, by decide +kernel, by decide +kernel⟩
theorem ok_l_sign {f : Addr} {fd : FuncData} (F : FunD K "_law_sign" "_law_sign" (defArgs s_l_sign) (defBody s_l_sign) (defScope s_l_sign) [] [] f fd) (T : Txt K mg) (G_l_draw : C8.Cal P w K mg base (1) "_law_draw" (sp_l_draw K) []) : FnOk P w K mg base CX0 2 f fd ["_law_pool_here"] (sp_l_sign K) := by
  refine F.ok sc_l_sign (len_l_sign K) (fun cdv A outer s H vs Q E hr h => ⟨t_l_sign K, PSs.nox ?_, pure_l_sign K vs H Q E h⟩)
  exact (pss_cons (ps_set (i := 1) sc_l_sign.nd rfl (Or.inl rfl) (pe_strS (by decide +kernel)))
    (pss_one (ps_ret (pe_ix ix_str (pv 1) (C8.pe_c G_l_draw hr (by omega) (by rfl) (pa_cons (pv 0) (pa_cons pe_int pa_nil))) (fun _ _ => rfl)))))
theorem sc_l_changed : FnScope N_l_changed ["_law_pool_here", "_law_steps"] (defScope s_l_changed) := ⟨rfl, rfl, rfl, by decide +kernel, rfl, by decide +kernel, by decide +kernel⟩
theorem ok_l_changed {f : Addr} {fd : FuncData} (F : FunD K "_law_changed" "_law_changed" (defArgs s_l_changed) (defBody s_l_changed) (defScope s_l_changed) [] [] f fd) (T : Txt K mg) (G_l_draw : C8.Cal P w K mg base (1) "_law_draw" (sp_l_draw K) []) (G_l_spelt : C8.Cal P w K mg base (1) "_law_spelt" (sp_l_spelt K) []) (G_l_odd : C8.Cal P w K mg base (2) "_law_odd" (sp_l_odd K) []) (G_l_sign : C8.Cal P w K mg base (2) "_law_sign" (sp_l_sign K) []) : FnOk P w K mg base CX0 3 f fd ["_law_pool_here", "_law_steps"] (sp_l_changed K) := by
  refine F.ok sc_l_changed (len_l_changed K) (fun cdv A outer s H vs Q E hr h => ⟨t_l_changed K, PSs.nox ?_, pure_l_changed K vs H Q E h⟩)
  exact (pss_cons (ps_setLc (i := 2) (own := [("_law_step_here", 7)]) rfl sc_l_changed.nd rfl rfl (sw_true rfl rfl rfl (by decide +kernel)) (pi_list (pv 1)) (blkOk_by (N := N_l_changed) (sc := defScope s_l_changed) (by decide +kernel)) (fun _ _ _ _ _ => (pg_name (i := 7) sc_l_changed.nd rfl (Or.inl rfl))) (fun _ _ _ _ _ => pts_nil) (fun _ _ _ _ _ => (C8.pe_c G_l_spelt hr (by omega) (by rfl) (pa_cons (pv 7) pa_nil))))
    (pss_cons (ps_for PassesOwn.never rfl (pi_range1 rfl T.f_range (pa_cons (pe_op op_add pe_int (C8.pe_c G_l_draw hr (by omega) (by rfl) (pa_cons (pv 0) (pa_cons pe_int pa_nil)))) pa_nil)) (pg_name (i := 3) sc_l_changed.nd rfl (Or.inl rfl)) (pss_cons (ps_set (i := 4) sc_l_changed.nd rfl (Or.inl rfl) (C8.pe_c G_l_odd hr (by omega) (by rfl) (pa_cons (pv 0) pa_nil)))
    (pss_cons (ps_set (i := 5) sc_l_changed.nd rfl (Or.inl rfl) (C8.pe_c G_l_draw hr (by omega) (by rfl) (pa_cons (pv 0) (pa_cons (pe_op op_add (pe_callB callLenSeq (by rfl) T.f_len (by decide +kernel) (pa_cons (pv 2) pa_nil)) pe_int) pa_nil))))
    (pss_one (ps_if (pt_cmpR op_eq (C8.pe_c G_l_draw hr (by omega) (by rfl) (pa_cons (pv 0) (pa_cons pe_int pa_nil))) pe_int (nomark _)) (pss_one (ps_set (i := 2) sc_l_changed.nd rfl (Or.inl rfl) (pe_op op_cat (pe_op op_cat (pe_slice sl_list (pv 2) po_none (po_some (pv 5))) (pe_lst (pa_cons (pv 4) pa_nil))) (pe_slice sl_list (pv 2) (po_some (pv 5)) po_none)))) (pss_one (ps_set (i := 2) sc_l_changed.nd rfl (Or.inl rfl) (pe_op op_cat (pe_op op_cat (pe_slice sl_list (pv 2) po_none (po_some (pv 5))) (pe_lst (pa_cons (pv 4) pa_nil))) (pe_slice sl_list (pv 2) (po_some (pe_op op_add (pv 5) pe_int)) po_none)))))))))
    (pss_cons (ps_set (i := 6) sc_l_changed.nd rfl (Or.inl rfl) (pe_join (pe_strS (by decide +kernel)) (pv 2)))
    (pss_cons (ps_if (PW.pt (pw_and (pt_cmpR op_gt (pe_callB callLenStr (by rfl) T.f_len (by decide +kernel) (pa_cons (pv 6) pa_nil)) pe_int (nomark _)) (pw_and1 (pt_cmpR op_eq (C8.pe_c G_l_draw hr (by omega) (by rfl) (pa_cons (pv 0) (pa_cons pe_int pa_nil))) pe_int (nomark _))))) (pss_cons (ps_set (i := 5) sc_l_changed.nd rfl (Or.inl rfl) (C8.pe_c G_l_draw hr (by omega) (by rfl) (pa_cons (pv 0) (pa_cons (pe_callB callLenStr (by rfl) T.f_len (by decide +kernel) (pa_cons (pv 6) pa_nil)) pa_nil))))
    (pss_one (ps_set (i := 6) sc_l_changed.nd rfl (Or.inl rfl) (pe_op opAddStr (pe_op opAddStr (pe_slice sl_str (pv 6) po_none (po_some (pv 5))) (C8.pe_c G_l_sign hr (by omega) (by rfl) (pa_cons (pv 0) pa_nil))) (pe_slice sl_str (pv 6) (po_some (pe_op op_add (pv 5) pe_int)) po_none))))) pss_nil)
    (pss_one (ps_ret (pv 6)))))))
theorem sc_l_free : FnScope N_l_free ["_law_pool_here"] (defScope s_l_free) := ⟨rfl, rfl, rfl, by decide +kernel, rfl, by decide +kernel, by decide +kernel⟩
theorem ok_l_free {f : Addr} {fd : FuncData} (F : FunD K "_law_free" "_law_free" (defArgs s_l_free) (defBody s_l_free) (defScope s_l_free) [] [] f fd) (T : Txt K mg) (G_l_draw : C8.Cal P w K mg base (1) "_law_draw" (sp_l_draw K) []) (G_l_sign : C8.Cal P w K mg base (2) "_law_sign" (sp_l_sign K) []) : FnOk P w K mg base CX0 3 f fd ["_law_pool_here"] (sp_l_free K) := by
  refine F.ok sc_l_free (len_l_free K) (fun cdv A outer s H vs Q E hr h => ⟨t_l_free K, PSs.nox ?_, pure_l_free K vs H Q E h⟩)
  exact (pss_cons (ps_set (i := 1) sc_l_free.nd rfl (Or.inl rfl) (pe_strS (by decide +kernel)))
    (pss_cons (ps_for PassesOwn.never rfl (pi_range1 rfl T.f_range (pa_cons (C8.pe_c G_l_draw hr (by omega) (by rfl) (pa_cons (pv 0) (pa_cons pe_int pa_nil))) pa_nil)) (pg_name (i := 2) sc_l_free.nd rfl (Or.inl rfl)) (pss_cons (ps_set (i := 3) sc_l_free.nd rfl (Or.inl rfl) (pe_ix ix_str (pe_strS (by decide +kernel)) (C8.pe_c G_l_draw hr (by omega) (by rfl) (pa_cons (pv 0) (pa_cons pe_int pa_nil))) (fun _ _ => rfl)))
    (pss_cons (ps_if (pt_cmpR op_eq (C8.pe_c G_l_draw hr (by omega) (by rfl) (pa_cons (pv 0) (pa_cons pe_int pa_nil))) pe_int (nomark _)) (pss_one (ps_set (i := 3) sc_l_free.nd rfl (Or.inl rfl) (C8.pe_c G_l_sign hr (by omega) (by rfl) (pa_cons (pv 0) pa_nil)))) pss_nil)
    (pss_one (ps_set (i := 1) sc_l_free.nd rfl (Or.inl rfl) (pe_op opAddStr (pv 1) (pv 3)))))))
    (pss_one (ps_ret (pv 1)))))
theorem sc_l_words : FnScope N_l_words ["_law_text"] (defScope s_l_words) := ⟨rfl, rfl, rfl, by decide +kernel, rfl, by decide +kernel, by decide +kernel⟩
theorem ok_l_words {f : Addr} {fd : FuncData} (F : FunD K "_law_words" "_law_words" (defArgs s_l_words) (defBody s_l_words) (defScope s_l_words) [] [] f fd) (T : Txt K mg) : FnOk P w K mg base CX0 1 f fd ["_law_text"] (sp_l_words K) := by
  refine F.ok sc_l_words (len_l_words K) (fun cdv A outer s H vs Q E hr h => ⟨t_l_words K, PSs.nox ?_, pure_l_words K vs H Q E h⟩)
  exact (pss_cons (ps_set (i := 1) sc_l_words.nd rfl (Or.inl rfl) (pe_lst (pa_cons (pe_strS (by decide +kernel)) pa_nil)))
    (pss_cons (ps_for PassesOwn.never rfl (pi_str (pv 0)) (pg_name (i := 2) sc_l_words.nd rfl (Or.inl rfl)) (pss_one (ps_if (pt_cmpR op_eq (pv 2) (pe_strS (by decide +kernel)) (nomark _)) (pss_one (ps_expr (pe_bm PySem.F.plainAttrs_list PySem.F.slot_list_append PySem.F.type_list_append mt_append (pv 1) (pa_cons (pe_strS (by decide +kernel)) pa_nil)))) (pss_one (ps_asg (pe_op opAddStr (pe_ix ix_list (pv 1) (pe_un un_neg pe_int) (fun _ _ => rfl)) (pv 2)) (pg_sub (pv 1) (pe_un un_neg pe_int) set_list))))))
    (pss_one (ps_ret (pv 1)))))
theorem sc_l_read : FnScope N_l_read ["_law_word"] (defScope s_l_read) := ⟨rfl, rfl, rfl, by decide +kernel, rfl, by decide +kernel, by decide +kernel⟩
theorem ok_l_read {f : Addr} {fd : FuncData} (F : FunD K "_law_read" "_law_read" (defArgs s_l_read) (defBody s_l_read) (defScope s_l_read) [] [] f fd) (T : Txt K mg) : FnOk P w K mg base CX0 1 f fd ["_law_word"] (sp_l_read K) := by
  refine F.ok sc_l_read (len_l_read K) (fun cdv A outer s H vs Q E hr h => ⟨t_l_read K, PSs.nox ?_, pure_l_read K vs H Q E h⟩)
  exact (pss_cons (ps_if (PW.pt (pw_or (pt_cmpR op_lt (pe_callB callLenStr (by rfl) T.f_len (by decide +kernel) (pa_cons (pv 0) pa_nil)) pe_int (nomark _)) (pw_or1 (pt_cmpR op_gt (pe_callB callLenStr (by rfl) T.f_len (by decide +kernel) (pa_cons (pv 0) pa_nil)) pe_int (nomark _))))) (pss_one (ps_ret pe_non)) pss_nil)
    (pss_cons (ps_set (i := 1) sc_l_read.nd rfl (Or.inl rfl) pe_int)
    (pss_cons (ps_for PassesOwn.never rfl (pi_str (pe_slice sl_str (pv 0) po_none (po_some (pe_un un_neg pe_int)))) (pg_name (i := 2) sc_l_read.nd rfl (Or.inl rfl)) (pss_cons (ps_if (pt_cmpR op_notInS (pv 2) (pe_strS (by decide +kernel)) (by rfl)) (pss_one (ps_ret pe_non)) pss_nil)
    (pss_one (ps_set (i := 1) sc_l_read.nd rfl (Or.inl rfl) (pe_op op_add (pe_op op_mul (pv 1) pe_int) (pe_bm PySem.F.plainAttrs_str PySem.F.slot_str_find PySem.F.type_str_find mtFind (pe_strS (by decide +kernel)) (pa_cons (pv 2) pa_nil)))))))
    (pss_cons (ps_if (PW.pt (pw_and (pt_cmpR op_eq (pe_ix ix_str (pv 0) pe_int (fun _ _ => rfl)) (pe_strS (by decide +kernel)) (nomark _)) (pw_and1 (pt_cmpR op_gt (pe_callB callLenStr (by rfl) T.f_len (by decide +kernel) (pa_cons (pv 0) pa_nil)) pe_int (nomark _))))) (pss_one (ps_ret pe_non)) pss_nil)
    (pss_cons (ps_if (pt_cmpR op_eq (pe_ix ix_str (pv 0) (pe_un un_neg pe_int) (fun _ _ => rfl)) (pe_strS (by decide +kernel)) (nomark _)) (pss_one (ps_ret (pe_tup (pa_cons (pv 1) (pa_cons pe_int pa_nil))))) pss_nil)
    (pss_cons (ps_if (pt_cmpR op_eq (pe_ix ix_str (pv 0) (pe_un un_neg pe_int) (fun _ _ => rfl)) (pe_strS (by decide +kernel)) (nomark _)) (pss_one (ps_ret (pe_tup (pa_cons (pv 1) (pa_cons (pe_un un_neg pe_int) pa_nil))))) pss_nil)
    (pss_one (ps_ret pe_non))))))))
theorem sc_l_due : FnScope N_l_due ["_law_text"] (defScope s_l_due) := ⟨rfl, rfl, rfl, by decide +kernel, rfl, by decide +kernel, by decide +kernel⟩
theorem ok_l_due {f : Addr} {fd : FuncData} (F : FunD K "_law_due" "_law_due" (defArgs s_l_due) (defBody s_l_due) (defScope s_l_due) [] [] f fd) (T : Txt K mg) (G_l_words : C8.Cal P w K mg base (1) "_law_words" (sp_l_words K) []) (G_l_read : C8.Cal P w K mg base (1) "_law_read" (sp_l_read K) []) : FnOk P w K mg base CX0 2 f fd ["_law_text"] (sp_l_due K) := by
  refine F.ok sc_l_due (len_l_due K) (fun cdv A outer s H vs Q E hr h => ⟨t_l_due K, PSs.nox ?_, pure_l_due K vs H Q E h⟩)
  exact (pss_cons (ps_set (i := 1) sc_l_due.nd rfl (Or.inl rfl) (pe_lst pa_nil))
    (pss_cons (ps_if (pt_cmpR op_eq (pv 0) (pe_strS (by decide +kernel)) (nomark _)) (pss_one (ps_ret (pe_lst (pa_cons pe_bl (pa_cons (pv 1) pa_nil))))) pss_nil)
    (pss_cons (ps_set (i := 2) sc_l_due.nd rfl (Or.inl rfl) (C8.pe_c G_l_words hr (by omega) (by rfl) (pa_cons (pv 0) pa_nil)))
    (pss_cons (ps_for PassesOwn.never rfl (pi_range1 rfl T.f_range (pa_cons (pe_callB callLenSeq (by rfl) T.f_len (by decide +kernel) (pa_cons (pv 2) pa_nil)) pa_nil)) (pg_name (i := 3) sc_l_due.nd rfl (Or.inl rfl)) (pss_cons (ps_set (i := 4) sc_l_due.nd rfl (Or.inl rfl) (C8.pe_c G_l_read hr (by omega) (by rfl) (pa_cons (pe_ix ix_list (pv 2) (pv 3) (fun _ _ => rfl)) pa_nil)))
    (pss_cons (ps_if (pt_cmpR op_isN1 (pv 4) pe_non (nomark _)) (pss_one (ps_ret (pe_lst (pa_cons pe_bl (pa_cons (pv 3) pa_nil))))) pss_nil)
    (pss_one (ps_expr (pe_bm PySem.F.plainAttrs_list PySem.F.slot_list_append PySem.F.type_list_append mt_append (pv 1) (pa_cons (pv 4) pa_nil)))))))
    (pss_one (ps_ret (pe_lst (pa_cons pe_bl (pa_cons (pv 1) pa_nil)))))))))
theorem sc_number_of : FnScope N_number_of ["word"] (defScope s_number_of) := ⟨rfl, rfl, rfl, by decide +kernel, rfl, by decide +kernel, by decide +kernel⟩
theorem ok_number_of {f : Addr} {fd : FuncData} (F : FunD K "number_of" "number_of" (defArgs s_number_of) (defBody s_number_of) (defScope s_number_of) [] [] f fd) (T : Txt K mg) : FnOk P w K mg base CX0 1 f fd ["word"] (sp_number_of K) := by
  refine F.ok sc_number_of (len_number_of K) (fun cdv A outer s H vs Q E hr h => ⟨t_number_of K, PSs.nox ?_, pure_number_of K vs H Q E h⟩)
  exact (pss_cons (ps_if (PW.pt (pw_or (pt_not (pt_chain op_le op_le pe_int (pe_callB callLenStr (by rfl) T.f_len (by decide +kernel) (pa_cons (pv 0) pa_nil)) (C8.pe_gc (by rfl) T.c_MOST_DIGITS))) (pw_or1 (pt_not (pt_val (pe_callB (cr_all rfl) (by rfl) T.f_all (by decide +kernel) (pa_cons (pe_lc (own := [("sign", 1)]) rfl sc_number_of.nd (pi_str (pv 0)) (blkOk_by (N := N_number_of) (sc := defScope s_number_of) (by decide +kernel)) (fun _ _ _ _ _ => (pg_name (i := 1) sc_number_of.nd rfl (Or.inl rfl))) (fun _ _ _ _ _ => pts_nil) (fun _ _ _ _ _ => (pe_cmpR op_inS (pv 1) (C8.pe_gc (by rfl) T.c_DIGITS) (by rfl)))) pa_nil))))))) (pss_one (ps_ret pe_non)) pss_nil)
    (pss_one (ps_ret (pe_ifExp (PW.pt (pw_and (pt_cmpR op_eq (pe_ix ix_str (pv 0) pe_int (fun _ _ => rfl)) (pe_strS (by decide +kernel)) (nomark _)) (pw_and1 (pt_cmpR op_ne (pv 0) (pe_strS (by decide +kernel)) (nomark _))))) pe_non (pe_callTy call_intS (by rfl) T.f_int (by decide +kernel) (pa_cons (pv 0) pa_nil))))))
theorem sc_words_of : FnScope N_words_of ["text"] (defScope s_words_of) := ⟨rfl, rfl, rfl, by decide +kernel, rfl, by decide +kernel, by decide +kernel⟩
theorem ok_words_of {f : Addr} {fd : FuncData} (F : FunD K "words_of" "words_of" (defArgs s_words_of) (defBody s_words_of) (defScope s_words_of) [] [] f fd) (T : Txt K mg) : FnOk P w K mg base CX0 1 f fd ["text"] (sp_words_of K) := by
  refine F.ok sc_words_of (len_words_of K) (fun cdv A outer s H vs Q E hr h => ⟨t_words_of K, PSs.nox ?_, pure_words_of K vs H Q E h⟩)
  exact (pss_one (ps_ret (pe_ifExp (pt_cmpR op_ne (pv 0) (pe_strS (by decide +kernel)) (nomark _)) (pe_m1 PySem.F.slot_str_split PySem.F.type_str_split mt_splt (pv 0) (pe_strS (by decide +kernel))) (pe_lst pa_nil))))
theorem sc_read_walk : FnScope N_read_walk ["text"] (defScope s_read_walk) := ⟨rfl, rfl, rfl, by decide +kernel, rfl, by decide +kernel, by decide +kernel⟩
theorem ok_read_walk {f : Addr} {fd : FuncData} (F : FunD K "read_walk" "read_walk" (defArgs s_read_walk) (defBody s_read_walk) (defScope s_read_walk) [] [] f fd) (T : Txt K mg) (GX_BadWord : XMk P w K mg base 1 "BadWord" (C_BadWord K) (spX (C_BadWord K) ["at", "why"])) (G_number_of : C8.Cal P w K mg base (1) "number_of" (sp_number_of K) []) (G_words_of : C8.Cal P w K mg base (1) "words_of" (sp_words_of K) []) : FnOk P w K mg base (L2.CX P w) 3 f fd ["text"] (sp_read_walk K) := by
  refine F.ok sc_read_walk (len_read_walk K) (fun cdv A outer s H vs Q E hr h => ⟨t_read_walk K E, ?_, pure_read_walk K vs H Q E h⟩)
  exact (pss_cons (ps_set (i := 1) sc_read_walk.nd rfl (Or.inl rfl) (pe_disp (pps_cons (pe_strS (by decide +kernel)) pe_int (pps_cons (pe_strS (by decide +kernel)) (pe_un un_neg pe_int) pps_nil)) rfl rfl (by simp) (by decide)))
    (pss_cons (ps_set (i := 2) sc_read_walk.nd rfl (Or.inl rfl) (pe_lst pa_nil))
    (pss_cons (ps_for poOf rfl (pi_enum rfl T.f_enumerate (pa_cons (C8.pe_c G_words_of hr (by omega) (by rfl) (pa_cons (pv 0) pa_nil)) pa_nil)) (pg_tup rfl (pgs_cons (pg_name (i := 3) sc_read_walk.nd rfl (Or.inl rfl)) (pgs_cons (pg_name (i := 4) sc_read_walk.nd rfl (Or.inl rfl)) pgs_nil))) (pss_cons (ps_set (i := 5) sc_read_walk.nd rfl (Or.inl rfl) (C8.pe_c G_number_of hr (by omega) (by rfl) (pa_cons (pe_slice sl_str (pv 4) po_none (po_some (pe_un un_neg pe_int))) pa_nil)))
    (pss_cons (ps_if (PW.pt (pw_or (pt_cmpR op_isN1 (pv 5) pe_non (nomark _)) (pw_or1 (pt_cmp (pc_dnotin (u1 hr) (pe_ix ix_str (pv 4) (pe_un un_neg pe_int) (fun _ _ => rfl)) (pv 1)))))) (pss_one (ps_rs GX_BadWord hr (by omega) rfl tkOf (by rfl) (pa_cons (pv 3) (pa_cons pe_non pa_nil)))) pss_nil)
    (pss_one (ps_expr (pe_bm PySem.F.plainAttrs_list PySem.F.slot_list_append PySem.F.type_list_append mt_append (pv 2) (pa_cons (pe_tup (pa_cons (pv 5) (pa_cons (pe_dget (u1 hr) (pv 1) (pe_ix ix_str (pv 4) (pe_un un_neg pe_int) (fun _ _ => rfl)) (fun _ _ => rfl)) pa_nil))) pa_nil)))))))
    (pss_one (ps_ret (pv 2))))))
theorem sc_l_kept : FnScope N_l_kept ["_law_text", "_law_due_here"] (defScope s_l_kept) := ⟨rfl, rfl, rfl, by decide +kernel, rfl, by decide +kernel, by decide +kernel⟩
theorem ok_l_kept {f : Addr} {fd : FuncData} (F : FunD K "_law_kept" "_law_kept" (defArgs s_l_kept) (defBody s_l_kept) (defScope s_l_kept) [] [] f fd) (T : Txt K mg) (G_read_walk : CalX P w K mg base (3) "read_walk" (sp_read_walk K) []) (G_l_same : C8.Cal P w K mg base (5) "_law_same" (sp_l_same K 3) []) : FnOk P w K mg base CX0 6 f fd ["_law_text", "_law_due_here"] (sp_l_kept K) := by
  refine F.ok sc_l_kept (len_l_kept K) (fun cdv A outer s H vs Q E hr h => ⟨t_l_kept K, PSs.nox ?_, pure_l_kept K T.xf vs H Q E h⟩)
  exact (pss_cons (ps_for PassesOwn.never rfl (pi_range1 rfl T.f_range (pa_cons pe_int pa_nil)) (pg_name (i := 2) sc_l_kept.nd rfl (Or.inl rfl)) (pss_cons (ps_set (i := 3) sc_l_kept.nd rfl (Or.inl rfl) pe_non)
    (pss_cons (ps_set (i := 4) sc_l_kept.nd rfl (Or.inl rfl) (pe_lst pa_nil))
    (pss_cons (ps_try_asm rfl rfl sc_l_kept.nd (i := 5) rfl rfl (fun W pn xe tk po => (pss_one (ps_set (i := 3) sc_l_kept.nd rfl (Or.inl rfl) (pe_cS G_read_walk hr (by omega) (by rfl) tk (pa_cons (pv 0) pa_nil))))) (HdA.cons ⟨by rfl, by decide, .inl T.g_MinuteError⟩ (fun a oe cls d pn hz hf => (pss_one (ps_set (i := 4) sc_l_kept.nd rfl (Or.inl rfl) (pe_lst (pa_cons (pe_callB (call_isX hz hf) (by rfl) T.f_isinstance (by decide +kernel) (pa_cons (pv 5) (pa_cons (pe_bltn (v := .ty "ValueError") (by rfl) T.f_ValueError (by decide +kernel) rfl) pa_nil))) (pa_cons (pe_callB (call_isX hz hf) (by rfl) T.f_isinstance (by decide +kernel) (pa_cons (pv 5) (pa_cons (pe_clsv (by rfl) T.g_BadWord) pa_nil))) (pa_cons (pe_callB (call_isX hz hf) (by rfl) T.f_isinstance (by decide +kernel) (pa_cons (pv 5) (pa_cons (pe_clsv (by rfl) T.g_BadRow) pa_nil))) (pa_cons (pe_callB (call_isX hz hf) (by rfl) T.f_isinstance (by decide +kernel) (pa_cons (pv 5) (pa_cons (pe_clsv (by rfl) T.g_BadName) pa_nil))) (pa_cons (pe_callB (call_isX hz hf) (by rfl) T.f_isinstance (by decide +kernel) (pa_cons (pv 5) (pa_cons (pe_clsv (by rfl) T.g_BadNumber) pa_nil))) (pa_cons (pe_callB (call_isX hz hf) (by rfl) T.f_isinstance (by decide +kernel) (pa_cons (pv 5) (pa_cons (pe_clsv (by rfl) T.g_BadWalk) pa_nil))) pa_nil)))))))))) HdA.nil))
    (pss_one (ps_if (pt_val (pe_ix ix_list (pv 1) pe_int (fun _ _ => rfl))) (pss_cons (ps_if (PW.pt (pw_or (pt_cmpR (op_neD hr.units) (pv 4) (pe_lst pa_nil) (nomark _)) (pw_or1 (pt_not (pt_val (C8.pe_c G_l_same hr (by omega) (by rfl) (pa_cons (pv 3) (pa_cons (pe_ix ix_list (pv 1) pe_int (fun _ _ => rfl)) pa_nil)))))))) (pss_one (ps_ret pe_bl)) pss_nil)
    (pss_one (ps_expr (pe_bm PySem.F.plainAttrs_list PySem.F.slot_list_append PySem.F.type_list_append mt_append (pv 3) (pa_cons (pe_tup (pa_cons pe_int (pa_cons (pe_un un_neg pe_int) pa_nil))) pa_nil))))) (pss_cons (ps_set (i := 6) sc_l_kept.nd rfl (Or.inl rfl) pe_non)
    (pss_cons (ps_try_asm rfl rfl sc_l_kept.nd (i := 5) rfl rfl (fun W pn xe tk po => (pss_one (ps_expr (pe_cS G_read_walk hr (by omega) (by rfl) tk (pa_cons (pv 0) pa_nil))))) (HdA.cons ⟨by rfl, by decide, .inl T.g_BadWord⟩ (fun a oe cls d pn hz hf => (pss_one (ps_set (i := 6) sc_l_kept.nd rfl (Or.inl rfl) (pe_lst (pa_cons (pe_xf T.xf_BadWord T.na_BadWord_at hz hf (pv 5)) (pa_cons (pe_xf T.xf_BadWord T.na_BadWord_why hz hf (pv 5)) pa_nil)))))) HdA.nil))
    (pss_one (ps_if (PW.pt (pw_or (pt_cmpR (op_neD hr.units) (pv 4) (pe_lst (pa_cons pe_bl (pa_cons pe_bl (pa_cons pe_bl (pa_cons pe_bl (pa_cons pe_bl (pa_cons pe_bl pa_nil))))))) (nomark _)) (pw_or1 (pt_not (pt_val (C8.pe_c G_l_same hr (by omega) (by rfl) (pa_cons (pv 6) (pa_cons (pe_lst (pa_cons (pe_ix ix_list (pv 1) pe_int (fun _ _ => rfl)) (pa_cons pe_non pa_nil))) pa_nil)))))))) (pss_one (ps_ret pe_bl)) pss_nil))))))))))
    (pss_one (ps_ret pe_bl)))
theorem sc_law : FnScope N_law ["_law_script"] (defScope s_law) := ⟨rfl, rfl, rfl, by decide +kernel, rfl, by decide +kernel, by decide +kernel⟩
theorem ok_law {f : Addr} {fd : FuncData} (F : FunD K "law" "law" (defArgs s_law) (defBody s_law) (defScope s_law) [] [] f fd) (T : Txt K mg) (G_write_walk : C8.Cal P w K mg base (1) "write_walk" (sp_write_walk K) []) (G_l_pool : C8.Cal P w K mg base (1) "_law_pool" (sp_l_pool K) []) (G_l_draw : C8.Cal P w K mg base (1) "_law_draw" (sp_l_draw K) []) (G_l_same : C8.Cal P w K mg base (5) "_law_same" (sp_l_same K 3) []) (G_l_step : C8.Cal P w K mg base (2) "_law_step" (sp_l_step K) []) (G_l_spelt : C8.Cal P w K mg base (1) "_law_spelt" (sp_l_spelt K) []) (G_l_changed : C8.Cal P w K mg base (3) "_law_changed" (sp_l_changed K) []) (G_l_free : C8.Cal P w K mg base (3) "_law_free" (sp_l_free K) []) (G_l_due : C8.Cal P w K mg base (2) "_law_due" (sp_l_due K) []) (G_l_kept : C8.Cal P w K mg base (6) "_law_kept" (sp_l_kept K) []) : FnOk P w K mg base CX0 7 f fd ["_law_script"] (sp_law K) := by
  refine F.ok sc_law (len_law K) (fun cdv A outer s H vs Q E hr h => ⟨t_law K, PSs.nox ?_, pure_law K vs H Q E h⟩)
  exact (pss_cons (ps_set (i := 1) sc_law.nd rfl (Or.inl rfl) (C8.pe_c G_l_pool hr (by omega) (by rfl) (pa_cons (pv 0) pa_nil)))
    (pss_cons (ps_set (i := 2) sc_law.nd rfl (Or.inl rfl) (pe_lst pa_nil))
    (pss_cons (ps_for PassesOwn.never rfl (pi_range1 rfl T.f_range (pa_cons (C8.pe_c G_l_draw hr (by omega) (by rfl) (pa_cons (pv 1) (pa_cons pe_int pa_nil))) pa_nil)) (pg_name (i := 3) sc_law.nd rfl (Or.inl rfl)) (pss_one (ps_expr (pe_bm PySem.F.plainAttrs_list PySem.F.slot_list_append PySem.F.type_list_append mt_append (pv 2) (pa_cons (C8.pe_c G_l_step hr (by omega) (by rfl) (pa_cons (pv 1) pa_nil)) pa_nil)))))
    (pss_cons (ps_set (i := 4) sc_law.nd rfl (Or.inl rfl) (pe_join (pe_strS (by decide +kernel)) (pe_lc (own := [("_law_step_here", 8)]) rfl sc_law.nd (pi_list (pv 2)) (blkOk_by (N := N_law) (sc := defScope s_law) (by decide +kernel)) (fun _ _ _ _ _ => (pg_name (i := 8) sc_law.nd rfl (Or.inl rfl))) (fun _ _ _ _ _ => pts_nil) (fun _ _ _ _ _ => (C8.pe_c G_l_spelt hr (by omega) (by rfl) (pa_cons (pv 8) pa_nil))))))
    (pss_cons (ps_set (i := 5) sc_law.nd rfl (Or.inl rfl) (pe_callTy callListOf (by rfl) T.f_list (by decide +kernel) (pa_cons (pv 2) pa_nil)))
    (pss_cons (ps_if (PW.pt (pw_or (pt_not (pt_val (C8.pe_c G_l_same hr (by omega) (by rfl) (pa_cons (C8.pe_c G_write_walk hr (by omega) (by rfl) (pa_cons (pv 5) pa_nil)) (pa_cons (pv 4) pa_nil))))) (pw_or1 (pt_not (pt_val (C8.pe_c G_l_same hr (by omega) (by rfl) (pa_cons (pv 5) (pa_cons (pv 2) pa_nil)))))))) (pss_one (ps_ret pe_bl)) pss_nil)
    (pss_cons (ps_expr (pe_bm PySem.F.plainAttrs_list PySem.F.slot_list_append PySem.F.type_list_append mt_append (pv 5) (pa_cons (pe_tup (pa_cons pe_int (pa_cons pe_int pa_nil))) pa_nil)))
    (pss_cons (ps_if (PW.pt (pw_or (pt_not (pt_val (C8.pe_c G_l_same hr (by omega) (by rfl) (pa_cons (C8.pe_c G_write_walk hr (by omega) (by rfl) (pa_cons (pe_callTy callListOf (by rfl) T.f_list (by decide +kernel) (pa_cons (pv 2) pa_nil)) pa_nil)) (pa_cons (pv 4) pa_nil))))) (pw_or1 (pt_not (pt_val (C8.pe_c G_l_kept hr (by omega) (by rfl) (pa_cons (pv 4) (pa_cons (pe_lst (pa_cons pe_bl (pa_cons (pv 2) pa_nil))) pa_nil)))))))) (pss_one (ps_ret pe_bl)) pss_nil)
    (pss_cons (ps_set (i := 6) sc_law.nd rfl (Or.inl rfl) (pv 4))
    (pss_cons (ps_set (i := 7) sc_law.nd rfl (Or.inl rfl) (C8.pe_c G_l_draw hr (by omega) (by rfl) (pa_cons (pv 1) (pa_cons pe_int pa_nil))))
    (C8.pss_cut (ps_if (pt_cmpR op_eq (pv 7) pe_int (nomark _)) (pss_one (ps_set (i := 6) sc_law.nd rfl (Or.inl rfl) (C8.pe_c G_l_changed hr (by omega) (by rfl) (pa_cons (pv 1) (pa_cons (pv 2) pa_nil))))) pss_nil)
    (C8.pss_cut (ps_if (pt_cmpR op_eq (pv 7) pe_int (nomark _)) (pss_one (ps_set (i := 6) sc_law.nd rfl (Or.inl rfl) (C8.pe_c G_l_free hr (by omega) (by rfl) (pa_cons (pv 1) pa_nil)))) pss_nil)
    (pss_one (ps_ret (C8.pe_c G_l_kept hr (by omega) (by rfl) (pa_cons (pv 6) (pa_cons (C8.pe_c G_l_due hr (by omega) (by rfl) (pa_cons (pv 6) pa_nil)) pa_nil)))))))))))))))))
abbrev N_BadWord_init : List Str := ["self", "at", "why"]
theorem sc_BadWord_init : FnScope N_BadWord_init ["self", "at", "why"] (defScope s_BadWord_init) := ⟨rfl, rfl, rfl, by decide +kernel, rfl, by decide +kernel, by decide +kernel⟩
theorem ok_BadWord_init {f : Addr} {fd : FuncData} (F : FunD K "__init__" "BadWord.__init__" (defArgs s_BadWord_init) (defBody s_BadWord_init) (defScope s_BadWord_init) [] [] f fd) (T : Txt K mg) : FnOk P w K mg base CX0 1 f fd ["self", "at", "why"] (spX (C_BadWord K) ["at", "why"]) := by
  refine F.ok sc_BadWord_init (fun vs H Q E h => len_spX h) (fun cdv A outer s H vs Q E hr h => ⟨_, PSs.nox ?_, ini2 T.ox_BadWord T.na_BadWord_at T.na_BadWord_why h⟩)
  exact (pss_cons (ps_ost (pv 0) (pv 1)) (pss_one (ps_ost (pv 0) (pv 2))))
end
theorem facts {P : Program} {w : World} {K : PySem.W.Frag} {h : Heap} {mg : Str → Option Value} {f : Addr} (X : K.In h) (G : h.Ns mainGlobals mg) (hfa : mg ("law" : Str) = some (.ref f)) (c : SaysX bs fas fns K) :
    ∃ fd : FuncData, (∀ (s : Shared) (v : Value), BindsTo s fd ⟨[v], []⟩ [("_law_script", v)]) ∧ ∀ base : Heap, K.In base → base.Ns mainGlobals mg → FnOk P w K mg base CX0 7 f fd ["_law_script"] (sp_law K) := by
  obtain ⟨fd_write_walk, F_write_walk⟩ := c.def_ 0 (d := d_write_walk) rfl
  have g_write_walk := He.glo_ok X G (c.fact 0 (f := .glo "write_walk") rfl)
  obtain ⟨fd_l_pool, F_l_pool⟩ := c.def_ 1 (d := d_l_pool) rfl
  have g_l_pool := He.glo_ok X G (c.fact 1 (f := .glo "_law_pool") rfl)
  obtain ⟨fd_l_draw, F_l_draw⟩ := c.def_ 2 (d := d_l_draw) rfl
  have g_l_draw := He.glo_ok X G (c.fact 2 (f := .glo "_law_draw") rfl)
  obtain ⟨fd_l_is_int, F_l_is_int⟩ := c.def_ 3 (d := d_l_is_int) rfl
  have g_l_is_int := He.glo_ok X G (c.fact 3 (f := .glo "_law_is_int") rfl)
  obtain ⟨fd_l_same, F_l_same⟩ := c.def_ 4 (d := d_l_same) rfl
  have g_l_same := He.glo_ok X G (c.fact 4 (f := .glo "_law_same") rfl)
  obtain ⟨fd_l_step, F_l_step⟩ := c.def_ 5 (d := d_l_step) rfl
  have g_l_step := He.glo_ok X G (c.fact 5 (f := .glo "_law_step") rfl)
  obtain ⟨fd_l_spelt, F_l_spelt⟩ := c.def_ 6 (d := d_l_spelt) rfl
  have g_l_spelt := He.glo_ok X G (c.fact 6 (f := .glo "_law_spelt") rfl)
  obtain ⟨fd_l_odd, F_l_odd⟩ := c.def_ 7 (d := d_l_odd) rfl
  have g_l_odd := He.glo_ok X G (c.fact 7 (f := .glo "_law_odd") rfl)
  obtain ⟨fd_l_sign, F_l_sign⟩ := c.def_ 8 (d := d_l_sign) rfl
  have g_l_sign := He.glo_ok X G (c.fact 8 (f := .glo "_law_sign") rfl)
  obtain ⟨fd_l_changed, F_l_changed⟩ := c.def_ 9 (d := d_l_changed) rfl
  have g_l_changed := He.glo_ok X G (c.fact 9 (f := .glo "_law_changed") rfl)
  obtain ⟨fd_l_free, F_l_free⟩ := c.def_ 10 (d := d_l_free) rfl
  have g_l_free := He.glo_ok X G (c.fact 10 (f := .glo "_law_free") rfl)
  obtain ⟨fd_l_words, F_l_words⟩ := c.def_ 11 (d := d_l_words) rfl
  have g_l_words := He.glo_ok X G (c.fact 11 (f := .glo "_law_words") rfl)
  obtain ⟨fd_l_read, F_l_read⟩ := c.def_ 12 (d := d_l_read) rfl
  have g_l_read := He.glo_ok X G (c.fact 12 (f := .glo "_law_read") rfl)
  obtain ⟨fd_l_due, F_l_due⟩ := c.def_ 13 (d := d_l_due) rfl
  have g_l_due := He.glo_ok X G (c.fact 13 (f := .glo "_law_due") rfl)
  obtain ⟨fd_number_of, F_number_of⟩ := c.def_ 14 (d := d_number_of) rfl
  have g_number_of := He.glo_ok X G (c.fact 14 (f := .glo "number_of") rfl)
  obtain ⟨fd_words_of, F_words_of⟩ := c.def_ 15 (d := d_words_of) rfl
  have g_words_of := He.glo_ok X G (c.fact 15 (f := .glo "words_of") rfl)
  obtain ⟨fd_read_walk, F_read_walk⟩ := c.def_ 16 (d := d_read_walk) rfl
  have g_read_walk := He.glo_ok X G (c.fact 16 (f := .glo "read_walk") rfl)
  obtain ⟨fd_l_kept, F_l_kept⟩ := c.def_ 17 (d := d_l_kept) rfl
  have g_l_kept := He.glo_ok X G (c.fact 17 (f := .glo "_law_kept") rfl)
  obtain ⟨fd_law, F_law⟩ := c.def_ 18 (d := d_law) rfl
  have g_law := He.glo_ok X G (c.fact 18 (f := .glo "law") rfl)
  obtain ⟨fd_BadWord_init, F_BadWord_init⟩ := c.def_ 19 (d := d_BadWord_init) rfl
  have m_BadWord_init := He.meth_ok (c.fact 19 (f := .meth "BadWord" "__init__") rfl)
  have t_f_range := He.free_ok X G (c.fact 20 (f := .free "range") rfl)
  have t_f_list := He.free_ok X G (c.fact 21 (f := .free "list") rfl)
  have t_f_int := He.free_ok X G (c.fact 22 (f := .free "int") rfl)
  have t_f_len := He.free_ok X G (c.fact 23 (f := .free "len") rfl)
  have t_f_bool := He.free_ok X G (c.fact 24 (f := .free "bool") rfl)
  have t_f_isinstance := He.free_ok X G (c.fact 25 (f := .free "isinstance") rfl)
  have t_f_str := He.free_ok X G (c.fact 26 (f := .free "str") rfl)
  have t_f_dict := He.free_ok X G (c.fact 27 (f := .free "dict") rfl)
  have t_f_tuple := He.free_ok X G (c.fact 28 (f := .free "tuple") rfl)
  have t_g_MinuteError := He.glo_ok X G (c.fact 29 (f := .glo "MinuteError") rfl)
  have t_g_BadWalk := He.glo_ok X G (c.fact 30 (f := .glo "BadWalk") rfl)
  have t_g_BadNumber := He.glo_ok X G (c.fact 31 (f := .glo "BadNumber") rfl)
  have t_g_BadName := He.glo_ok X G (c.fact 32 (f := .glo "BadName") rfl)
  have t_g_BadRow := He.glo_ok X G (c.fact 33 (f := .glo "BadRow") rfl)
  have t_g_BadWord := He.glo_ok X G (c.fact 34 (f := .glo "BadWord") rfl)
  have t_f_ValueError := He.free_ok X G (c.fact 35 (f := .free "ValueError") rfl)
  have t_xf_BadWord := bXf_ok (c.b 0 (f := bXf "BadWord") rfl)
  have t_na_BadWord_why := He.noat_ok (c.fact 36 (f := .noat "BadWord" "why") rfl)
  have t_na_BadWord_at := He.noat_ok (c.fact 37 (f := .noat "BadWord" "at") rfl)
  have t_f_enumerate := He.free_ok X G (c.fact 38 (f := .free "enumerate") rfl)
  have t_ox_BadWord := bOex_ok (c.b 1 (f := bOex "BadWord") rfl)
  have t_c_MOST_DIGITS : ∃ u, mg "MOST_DIGITS" = some u ∧ RelV (.int 9) u := (He.int_ok X G (c.fact 39 (f := .int "MOST_DIGITS" (9)) rfl)).elim fun t e => ⟨_, e, ⟨t, rfl⟩⟩
  have z_c_DIGITS : ("0123456789" : Str) = S Z10 := by decide +kernel
  have t_c_DIGITS : ∃ u, mg "DIGITS" = some u ∧ RelV (.str (S Z10)) u := (He.str_ok X G (c.fact 40 (f := .str "DIGITS" "0123456789") rfl)).elim fun t e => ⟨_, e, ⟨t, by rw [z_c_DIGITS]⟩⟩
  have t_f_all := He.free_ok X G (c.fact 41 (f := .free "all") rfl)
  have t_xf := bXall_ok (c.b 2 (f := bXall exs) rfl)
  have T : Txt K mg := ⟨t_f_range, t_f_list, t_f_int, t_f_len, t_f_bool, t_f_isinstance, t_f_str, t_f_dict, t_f_tuple, t_g_MinuteError, t_g_BadWalk, t_g_BadNumber, t_g_BadName, t_g_BadRow, t_g_BadWord, t_f_ValueError, t_xf_BadWord, t_na_BadWord_why, t_na_BadWord_at, t_f_enumerate, t_ox_BadWord, t_c_MOST_DIGITS, t_c_DIGITS, t_f_all, t_xf⟩
  have e := hfa.symm.trans g_law
  cases e
  have b := FunD.bindsA (ps := ["_law_script"]) F_law fun _ _ _ _ _ _ us hl => match us, hl with | [_], _ => rfl
  refine ⟨fd_law, fun s v => b s [v] rfl, fun base _ _ => ?_⟩
  have GX_BadWord : XMk P w K mg base 1 "BadWord" (C_BadWord K) (spX (C_BadWord K) ["at", "why"]) := ⟨_, fd_BadWord_init, _, ⟨t_ox_BadWord, m_BadWord_init.at_, beq_iff_eq.mp m_BadWord_init.fn⟩, ok_BadWord_init F_BadWord_init T, F_BadWord_init.bindsN (ps := ["self", "at", "why"]) (fun _ _ _ _ _ _ us hl => match us, hl with | [_, _, _], _ => rfl), t_g_BadWord⟩
  have G_write_walk : C8.Cal P w K mg base (1) "write_walk" (sp_write_walk K) [] := ⟨_, fd_write_walk, _, [], ok_write_walk F_write_walk T , g_write_walk, F_write_walk.kp, F_write_walk.bindsN (ps := ["walk"]) (fun _ _ _ _ _ _ us hl => match us, hl with | [_], _ => rfl), .nil⟩
  have G_l_pool : C8.Cal P w K mg base (1) "_law_pool" (sp_l_pool K) [] := ⟨_, fd_l_pool, _, [], ok_l_pool F_l_pool T , g_l_pool, F_l_pool.kp, F_l_pool.bindsN (ps := ["_law_script"]) (fun _ _ _ _ _ _ us hl => match us, hl with | [_], _ => rfl), .nil⟩
  have G_l_draw : C8.Cal P w K mg base (1) "_law_draw" (sp_l_draw K) [] := ⟨_, fd_l_draw, _, [], ok_l_draw F_l_draw T , g_l_draw, F_l_draw.kp, F_l_draw.bindsN (ps := ["_law_pool_here", "_law_many"]) (fun _ _ _ _ _ _ us hl => match us, hl with | [_, _], _ => rfl), .nil⟩
  have G_l_is_int : C8.Cal P w K mg base (1) "_law_is_int" (sp_l_is_int K) [] := ⟨_, fd_l_is_int, _, [], ok_l_is_int F_l_is_int T , g_l_is_int, F_l_is_int.kp, F_l_is_int.bindsN (ps := ["_law_thing"]) (fun _ _ _ _ _ _ us hl => match us, hl with | [_], _ => rfl), .nil⟩
  have B_l_same := F_l_same.bindsN (ps := ["_law_actual", "_law_due_here"]) (fun _ _ _ _ _ _ us hl => match us, hl with | [_, _], _ => rfl)
  have R_l_same : ∀ n : Nat, C8.Cal P w K mg base (2 + n) "_law_same" (sp_l_same K n) [] := fun n => by
    induction n with
    | zero => exact ⟨_, fd_l_same, _, [], ok0_l_same F_l_same, g_l_same, F_l_same.kp, B_l_same, .nil⟩
    | succ n ih => exact ⟨_, fd_l_same, _, [], ok_l_same F_l_same T G_l_is_int n ih, g_l_same, F_l_same.kp, B_l_same, .nil⟩
  have G_l_same : C8.Cal P w K mg base (5) "_law_same" (sp_l_same K 3) [] := R_l_same 3
  have G_l_step : C8.Cal P w K mg base (2) "_law_step" (sp_l_step K) [] := ⟨_, fd_l_step, _, [], ok_l_step F_l_step T G_l_draw, g_l_step, F_l_step.kp, F_l_step.bindsN (ps := ["_law_pool_here"]) (fun _ _ _ _ _ _ us hl => match us, hl with | [_], _ => rfl), .nil⟩
  have G_l_spelt : C8.Cal P w K mg base (1) "_law_spelt" (sp_l_spelt K) [] := ⟨_, fd_l_spelt, _, [], ok_l_spelt F_l_spelt T , g_l_spelt, F_l_spelt.kp, F_l_spelt.bindsN (ps := ["_law_step_here"]) (fun _ _ _ _ _ _ us hl => match us, hl with | [_], _ => rfl), .nil⟩
  have G_l_odd : C8.Cal P w K mg base (2) "_law_odd" (sp_l_odd K) [] := ⟨_, fd_l_odd, _, [], ok_l_odd F_l_odd T G_l_draw, g_l_odd, F_l_odd.kp, F_l_odd.bindsN (ps := ["_law_pool_here"]) (fun _ _ _ _ _ _ us hl => match us, hl with | [_], _ => rfl), .nil⟩
  have G_l_sign : C8.Cal P w K mg base (2) "_law_sign" (sp_l_sign K) [] := ⟨_, fd_l_sign, _, [], ok_l_sign F_l_sign T G_l_draw, g_l_sign, F_l_sign.kp, F_l_sign.bindsN (ps := ["_law_pool_here"]) (fun _ _ _ _ _ _ us hl => match us, hl with | [_], _ => rfl), .nil⟩
  have G_l_changed : C8.Cal P w K mg base (3) "_law_changed" (sp_l_changed K) [] := ⟨_, fd_l_changed, _, [], ok_l_changed F_l_changed T G_l_draw G_l_spelt G_l_odd G_l_sign, g_l_changed, F_l_changed.kp, F_l_changed.bindsN (ps := ["_law_pool_here", "_law_steps"]) (fun _ _ _ _ _ _ us hl => match us, hl with | [_, _], _ => rfl), .nil⟩
  have G_l_free : C8.Cal P w K mg base (3) "_law_free" (sp_l_free K) [] := ⟨_, fd_l_free, _, [], ok_l_free F_l_free T G_l_draw G_l_sign, g_l_free, F_l_free.kp, F_l_free.bindsN (ps := ["_law_pool_here"]) (fun _ _ _ _ _ _ us hl => match us, hl with | [_], _ => rfl), .nil⟩
  have G_l_words : C8.Cal P w K mg base (1) "_law_words" (sp_l_words K) [] := ⟨_, fd_l_words, _, [], ok_l_words F_l_words T , g_l_words, F_l_words.kp, F_l_words.bindsN (ps := ["_law_text"]) (fun _ _ _ _ _ _ us hl => match us, hl with | [_], _ => rfl), .nil⟩
  have G_l_read : C8.Cal P w K mg base (1) "_law_read" (sp_l_read K) [] := ⟨_, fd_l_read, _, [], ok_l_read F_l_read T , g_l_read, F_l_read.kp, F_l_read.bindsN (ps := ["_law_word"]) (fun _ _ _ _ _ _ us hl => match us, hl with | [_], _ => rfl), .nil⟩
  have G_l_due : C8.Cal P w K mg base (2) "_law_due" (sp_l_due K) [] := ⟨_, fd_l_due, _, [], ok_l_due F_l_due T G_l_words G_l_read, g_l_due, F_l_due.kp, F_l_due.bindsN (ps := ["_law_text"]) (fun _ _ _ _ _ _ us hl => match us, hl with | [_], _ => rfl), .nil⟩
  have G_number_of : C8.Cal P w K mg base (1) "number_of" (sp_number_of K) [] := ⟨_, fd_number_of, _, [], ok_number_of F_number_of T , g_number_of, F_number_of.kp, F_number_of.bindsN (ps := ["word"]) (fun _ _ _ _ _ _ us hl => match us, hl with | [_], _ => rfl), .nil⟩
  have G_words_of : C8.Cal P w K mg base (1) "words_of" (sp_words_of K) [] := ⟨_, fd_words_of, _, [], ok_words_of F_words_of T , g_words_of, F_words_of.kp, F_words_of.bindsN (ps := ["text"]) (fun _ _ _ _ _ _ us hl => match us, hl with | [_], _ => rfl), .nil⟩
  have G_read_walk : CalX P w K mg base (3) "read_walk" (sp_read_walk K) [] := ⟨_, fd_read_walk, _, [], ok_read_walk F_read_walk T GX_BadWord G_number_of G_words_of, g_read_walk, F_read_walk.kp, F_read_walk.bindsN (ps := ["text"]) (fun _ _ _ _ _ _ us hl => match us, hl with | [_], _ => rfl), .nil⟩
  have G_l_kept : C8.Cal P w K mg base (6) "_law_kept" (sp_l_kept K) [] := ⟨_, fd_l_kept, _, [], ok_l_kept F_l_kept T G_read_walk G_l_same, g_l_kept, F_l_kept.kp, F_l_kept.bindsN (ps := ["_law_text", "_law_due_here"]) (fun _ _ _ _ _ _ us hl => match us, hl with | [_, _], _ => rfl), .nil⟩
  exact ok_law F_law T G_write_walk G_l_pool G_l_draw G_l_same G_l_step G_l_spelt G_l_changed G_l_free G_l_due G_l_kept
end RM
open PySem PySem.W PySem.Calls PyProof.Rows
set_option maxRecDepth 100000 in
set_option maxHeartbeats 0 in
theorem PySem.Challenge.cw_roundminutes_k21_walk_text_holds : PySem.Challenge.rw_roundminutes_k21_walk_text.Holds := by
  w_on; o_law
  refine HandSHeadRun.head_any (r := OpenLaw.row PySem.Challenge.rw_roundminutes_k21_walk_text) (q := view RM.Rw.prog [30]) (H := RM.hk) (ob := RM.ob) (M := 8000) (loose := RM.loose)
    (d := HandSHeadRun.topDef RM.Rw.prog 30) (kwd := []) RM.ob_ok
    (by kernel_rfl) (fun s => by kernel_rfl) RM.run (by kernel_rfl) (by kernel_rfl) (by kernel_rfl) (by rfl) (by first | assumption | decide +kernel) (by decide +kernel) ⟨rfl, rfl, rfl, rfl, rfl, by decide +kernel⟩ ?hw ?hc
  case hw => w_witness2
  case hc =>
    refine L2.walk_ofE (l := PySem.Challenge.rw_roundminutes_k21_walk_text) (n := 63) (k := 7) (x := "_law_script") (CX := L2.CX0) rfl (by decide) (by kernel_rfl) ⟨rfl, by decide, by decide⟩ ?F (fun _ _ _ _ z => z)
    intro w mg fa h Y G hmg0
    obtain ⟨K, KX, c⟩ := Y
    have hmg : mg ("law" : PySem.Str) = some (.ref fa) := by
      have e : (HandSHeadRun.topDef RM.Rw.prog 30).name = ("law" : PySem.Str) := by kernel_rfl
      rw [← e]
      exact hmg0
    obtain ⟨fd, hb, hF⟩ := RM.facts (P := PySem.Challenge.rw_roundminutes_k21_walk_text.prog) (w := w) KX G hmg c
    exact ⟨K, fd, RM.sp_law K, KX, hb, fun H a ns hl _ hS => ⟨a, ns, rfl, hS, hl, fun _ => rfl⟩, hF⟩
