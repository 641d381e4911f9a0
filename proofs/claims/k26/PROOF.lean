import PyProof.Rows.All
import Wide.All
import OpenK.AllK
import Wide.FinOn
import HandS.ForMost
import HandS.ForExc
import HandS.Codes
import HandS.Steps
import HandS.Walk
import HandS.IsInst
import HandS.Defaults
import HandS.More
import HandS.Small
import HandS.AnyAll
import HandS.Head0
import HandS.Head1
import HandS.Head2
import HandS.HeadEnd
import HandS.HeadHook1
import HandS.HeadHook2
import HandS.OwnEq
import HandS.OwnIter
import HandS.IterNext
import HandS.IterVal
import HandS.ClsMeth
import HandS.Property
import HandS.Star
import HandS.MapObj
import HandS.ListItems
import HandS.DictComp
import HandS.SetKeys
import KE.KDictList
import HandS.Wide
import HandS.Conv
import HandS.SortKw
import HandS.ExcInit
import HandS.ExcField
import HandS.ExcOwn
import HandS.WordsExc
import KE.KExcIs
import HandS.Style
import HandS.TupAny
import HandS.Flow
import PySem.Challenge.RW_roundminutes_k26_turns
set_option Elab.async false
set_option linter.all false
set_option maxRecDepth 100000
set_option maxHeartbeats 4000000
namespace RM
open PySem PySem.Spec PyProof.Rows L2 C8
/-! ### texts as lists of signs -/
abbrev S (l : List Nat) : Str := ⟨l.toArray⟩
theorem S_tl (x : Str) : S x.cps.toList = x := SX.S_tl x
theorem S_inj {a b : List Nat} (h : S a = S b) : a = b := SX.S_inj h
theorem S_len (a : List Nat) : (S a).length = a.length := SX.S_len a
theorem S_cat (a b : List Nat) : S a ++ S b = S (a ++ b) := SX.S_cat a b
abbrev sv (l : List Nat) : V := .str (S l)
def Z26 : List Nat := [97, 98, 99, 100, 101, 102, 103, 104, 105, 106, 107, 108, 109, 110, 111, 112, 113, 114, 115, 116, 117, 118, 119, 120, 121, 122]
def Z10 : List Nat := [48, 49, 50, 51, 52, 53, 54, 55, 56, 57]
def Z36 : List Nat := [97, 98, 99, 100, 101, 102, 103, 104, 105, 106, 107, 108, 109, 110, 111, 112, 113, 114, 115, 116, 117, 118, 119, 120, 121, 122, 48, 49, 50, 51, 52, 53, 54, 55, 56, 57]
/-- a letter; a letter or a digit -/
def LT (c : Nat) : Prop := 97 ≤ c ∧ c ≤ 122
def LD (c : Nat) : Prop := (97 ≤ c ∧ c ≤ 122) ∨ (48 ≤ c ∧ c ≤ 57)
instance (c : Nat) : Decidable (LT c) := by unfold LT; infer_instance
instance (c : Nat) : Decidable (LD c) := by unfold LD; infer_instance
theorem z26 {c : Nat} : c ∈ Z26 ↔ LT c := by
  constructor
  · intro h
    exact (by decide : ∀ c ∈ Z26, LT c) c h
  · intro ⟨h1, h2⟩
    obtain ⟨k, rfl⟩ : ∃ k, c = 97 + k := ⟨c - 97, by omega⟩
    exact (by decide : ∀ k, k < 26 → 97 + k ∈ Z26) k (by omega)
theorem z10 {c : Nat} : c ∈ Z10 ↔ (48 ≤ c ∧ c ≤ 57) := by
  constructor
  · intro h
    exact (by decide : ∀ c ∈ Z10, 48 ≤ c ∧ c ≤ 57) c h
  · intro ⟨h1, h2⟩
    obtain ⟨k, rfl⟩ : ∃ k, c = 48 + k := ⟨c - 48, by omega⟩
    exact (by decide : ∀ k, k < 10 → 48 + k ∈ Z10) k (by omega)
theorem z36 {c : Nat} : c ∈ Z36 ↔ LD c := by
  have e : Z36 = Z26 ++ Z10 := rfl
  rw [e, List.mem_append, z26, z10]
  rfl
/-- a name -/
def isNm (l : List Nat) : Bool := decide (1 ≤ l.length) && (decide (l.length ≤ 8) && ((match l with | [] => false | c :: _ => decide (LT c)) && l.all fun c => decide (LD c)))
structure Nm (l : List Nat) : Prop where
  len : l.length ≤ 8
  first : ∃ c r, l = c :: r ∧ LT c
  all : ∀ c ∈ l, LD c
theorem Nm.pos {l : List Nat} (h : Nm l) : 1 ≤ l.length := by
  obtain ⟨c, r, rfl, _⟩ := h.first
  simp
theorem nm_iff {l : List Nat} : isNm l = true ↔ Nm l := by
  unfold isNm
  constructor
  · intro h
    simp only [Bool.and_eq_true, decide_eq_true_eq, List.all_eq_true] at h
    obtain ⟨h1, h2, h3, h4⟩ := h
    cases l with
    | nil => simp at h1
    | cons c r => exact ⟨h2, ⟨c, r, rfl, by simpa using h3⟩, h4⟩
  · intro h
    obtain ⟨h2, ⟨c, r, rfl, h3⟩, h4⟩ := h
    simp only [Bool.and_eq_true, decide_eq_true_eq, List.all_eq_true]
    exact ⟨by simp, h2, by simpa using h3, h4⟩
/-- the digits of j as a text -/
def dg (j : Nat) : List Nat := ((toString ((j : Nat) : Int) : String) : Str).cps.toList
def zn (j : Nat) : List Nat := [122] ++ dg j
theorem zn_nm {j : Nat} (h : j < 13) : Nm (zn j) := nm_iff.mp ((by decide +kernel : ∀ j, j < 13 → isNm (zn j) = true) j h)
theorem zn_nodup : ((List.range 13).map zn).Nodup := by decide +kernel
theorem nodup_sub {α : Type} [DecidableEq α] : ∀ {l m : List α}, l.Nodup → (∀ x ∈ l, x ∈ m) → l.length ≤ m.length
  | [], _, _, _ => Nat.zero_le _
  | x :: l, m, hn, hs => by
    have hx := hs x List.mem_cons_self
    obtain ⟨h1, h2⟩ := List.nodup_cons.mp hn
    have ih := nodup_sub (l := l) (m := m.erase x) h2 fun y hy => by
      have ne : y ≠ x := fun e => h1 (e ▸ hy)
      exact (List.mem_erase_of_ne ne).mpr (hs y (List.mem_cons_of_mem _ hy))
    rw [List.length_erase_of_mem hx] at ih
    have : 0 < m.length := List.length_pos_of_mem hx
    rw [List.length_cons]
    omega
theorem zn_out {ns : List (List Nat)} (h : ∀ i, i < 13 → zn i ∈ ns) : 13 ≤ ns.length := by
  have z := nodup_sub zn_nodup (m := ns) fun x hx => by
    obtain ⟨i, hi, rfl⟩ := List.mem_map.mp hx
    exact h i (List.mem_range.mp hi)
  simpa using z
/-- a slice -/
def cutG {α : Type} (xs : List α) (lo hi : Option Int) : List α := (xs.drop (HT.sIx xs.length 0 lo)).take (HT.sIx xs.length xs.length hi - HT.sIx xs.length 0 lo)
theorem six_nat {n d k : Nat} (h : k ≤ n) : HT.sIx n d (some (k : Int)) = k := by
  unfold HT.sIx
  simp only []
  split <;> omega
theorem cutG_to {α : Type} {xs : List α} {k : Nat} (h : k ≤ xs.length) : cutG xs none (some (k : Int)) = xs.take k := by
  unfold cutG
  rw [six_nat h]
  show (xs.drop 0).take (k - 0) = xs.take k
  simp
theorem cutG_from {α : Type} {xs : List α} {k : Nat} (h : k ≤ xs.length) : cutG xs (some (k : Int)) none = xs.drop k := by
  unfold cutG
  rw [six_nat h]
  show (xs.drop k).take (xs.length - k) = xs.drop k
  rw [← List.length_drop, List.take_length]
/-! ### short names of readings -/
def rAddStr : R2 := fun x y H Q => ∃ i j, x = .str i ∧ y = .str j ∧ i.length + j.length ≤ sizeLine ∧ Q (.str (i ++ j)) H
def rLtStr : R2 := fun x y H Q => ∃ i j, x = .str i ∧ y = .str j ∧ Q (.bl (decide (i.cps.toList < j.cps.toList))) H
def rLenStr : List V → Hp → VK → Prop := fun xs H Q => ∃ z, xs = [.str z] ∧ z.length ≤ sizeLine ∧ Q (.int z.length) H
def rLenS (K : PySem.W.Frag) : List V → Hp → VK → Prop := fun xs H Q => ∃ p ys, xs = [.ref p] ∧ (SqL K H p ys ∨ SqT K H p ys) ∧ Q (.int ys.length) H
def rListS (K : PySem.W.Frag) : List V → Hp → VK → Prop := fun xs H Q => ∃ p ys, xs = [.ref p] ∧ (SqL K H p ys ∨ SqT K H p ys) ∧ ∀ l, H l = none → Q (.ref l) (upd H l (.lst ys))
def rInt1 : List V → Hp → VK → Prop := fun xs H Q => (∃ i, xs = [.int i] ∧ Q (.int i) H) ∨ ∃ k, xs = [.bl k] ∧ Q (.int (if k then 1 else 0)) H
def rStrInt : List V → Hp → VK → Prop := fun xs H Q => ∃ i, xs = [.int i] ∧ i.natAbs.log2 < 1920 ∧ Q (.str (toString i)) H
def rMin2 : List V → Hp → VK → Prop := fun xs H Q => ∃ i j, xs = [.int i, .int j] ∧ Q (.int (if j < i then j else i)) H
def rMax2 : List V → Hp → VK → Prop := fun xs H Q => ∃ i j, xs = [.int i, .int j] ∧ Q (.int (if j > i then j else i)) H
def rAbs : List V → Hp → VK → Prop := fun xs H Q => ∃ i, xs = [.int i] ∧ Q (.int (if i < 0 then -i else i)) H
def rFind : V → List V → Hp → VK → Prop := fun x xs H Q => ∃ a b, x = .str a ∧ xs = [.str b] ∧ Q (.int (Txt.find a b)) H

section
variable {X : Cx}
theorem opAddStr : OpR X (binaryOp .Add) rAddStr := op_add_str
theorem opLtStr : OpR X (compareOp .Lt) rLtStr := op_lt_str
theorem callLenStr : CallR X (.builtin "len") rLenStr := call_len_str
theorem callLenSeq : CallR X (.builtin "len") (rLenS X.K) := call_len_seq
theorem callListOf : CallR X (.type "list") (rListS X.K) := call_list_of
theorem callInt1 : CallR X (.type "int") rInt1 := call_int1
theorem callStrInt : CallR X (.type "str") rStrInt := call_str_int
theorem callMin2 (hc : X.calm = true) : CallR X (.builtin "min") rMin2 := call_min2 hc
theorem callMax2 (hc : X.calm = true) : CallR X (.builtin "max") rMax2 := call_max2 hc
theorem callAbs : CallR X (.builtin "abs") rAbs := call_abs
theorem mtFind : MtR X "str.find" rFind := mt_find
end
theorem Same.new {H : Hp} {p : Addr} {o : HO} (h : H p = none) : Same H (upd H p o) := fun a u e => by
  rw [upd_ne (ne_of_none e h)]
  exact e
theorem Same.mut {H H' : Hp} {p : Addr} {o : HO} (e : Same H H') (h : H p = none) : Same H (upd H' p o) := fun a u ha => by
  rw [upd_ne (ne_of_none ha h)]
  exact e a u ha
theorem szl {n : Nat} (h : n ≤ 100000) : n ≤ sizeLine := Nat.le_trans h (by decide)
theorem szlt {n : Nat} (h : n < 100000) : n < sizeLine := Nat.lt_of_lt_of_le h (by decide)
/-! ### readings from the head -/
section
variable {σ : L2.St} {H : Hp} {Q : VK} {i : Nat} {v : V} {ta tb tc : TE} {tl : TA} {t u : TT} {s1 s2 : TS} {D : Ends} {K : PySem.W.Frag} {r r' : R2} {sp : Sp} {E : XK} {QA : List V → Hp → Prop} {QT : Bool → Hp → Prop}
theorem wp_var (h : σ[i]? = some (some v)) (q : Q v H) : tVar i σ H Q := ⟨v, h, q⟩
theorem wp_c (q : Q v H) : tC v σ H Q := q
theorem wp_op (h : ta σ H fun x H1 => tb σ H1 fun y H2 => r x y H2 Q) : tOp r ta tb σ H Q := h
theorem wp_un {r : V → Hp → VK → Prop} (h : ta σ H fun x H1 => r x H1 Q) : tUn r ta σ H Q := h
theorem wp_nil (h : QA [] H) : tNil σ H QA := h
theorem wp_cons (h : ta σ H fun x H1 => tl σ H1 fun xs H2 => QA (x :: xs) H2) : tCons ta tl σ H QA := h
theorem wp_call (h : tl σ H fun vs H1 => sp vs H1 Q E) : tCall sp [] E tl σ H Q := by
  show tl σ H fun vs H1 => sp (vs ++ []) H1 Q E
  simpa only [List.append_nil] using h
theorem wp_cb {r : List V → Hp → VK → Prop} (h : tl σ H fun vs H1 => r vs H1 Q) : tCB r tl σ H Q := h
theorem wp_tup (h : tl σ H fun xs H1 => xs.length ≤ sizeLine ∧ ∀ p, H1 p = none → Q (.ref p) (upd H1 p (.tup xs))) : tTup tl σ H Q := h
theorem wp_lst (h : tl σ H fun xs H1 => xs.length ≤ sizeLine ∧ ∀ p, H1 p = none → Q (.ref p) (upd H1 p (.lst xs))) : tLst tl σ H Q := h
theorem wp_test (h : ta σ H fun x H1 => ∃ k, x = .bl k ∧ QT k H1) : tTest ta σ H QT := h
theorem wp_B (h : ta σ H fun x H1 => ∃ k, x = .bl k ∧ QT k H1) : tB ta σ H QT := h
theorem wp_bl {k : Bool} {R : Bool → Prop} (h : R k) : ∃ k', V.bl k = .bl k' ∧ R k' := ⟨k, rfl, h⟩
theorem wp_not (h : t σ H fun c H1 => QT (!c) H1) : tNot t σ H QT := h
theorem wp_and (h : t σ H fun c H1 => if c = true then u σ H1 QT else QT false H1) : tAnd t u σ H QT := h
theorem wp_or (h : t σ H fun c H1 => if c = true then QT true H1 else u σ H1 QT) : tOr t u σ H QT := h
theorem wp_notV (h : ta σ H fun x H1 => ∃ c, x = .bl c ∧ Q (.bl (!c)) H1) : tNotV ta σ H Q := h
theorem wp_andV (h : ta σ H fun x H1 => ∃ c, x = .bl c ∧ if c = true then tb σ H1 Q else Q (.bl false) H1) : tAndV ta tb σ H Q := h
theorem wp_orV (h : ta σ H fun x H1 => ∃ c, x = .bl c ∧ if c = true then Q (.bl true) H1 else tb σ H1 Q) : tOrV ta tb σ H Q := h
theorem wp_ifE (h : t σ H fun c H1 => if c = true then ta σ H1 Q else tb σ H1 Q) : tIf t ta tb σ H Q := h
theorem wp_chain (h : ta σ H fun x H1 => tb σ H1 fun y H2 => r x y H2 fun z H3 => ∃ k, z = .bl k ∧ (if k = true then tc σ H3 fun w' H4 => r' y w' H4 Q else Q (.bl false) H3)) : tChain r r' ta tb tc σ H Q := h
theorem wp_slice {r : V → Option Int → Option Int → Hp → VK → Prop} {tlo thi : TO} (h : ta σ H fun x H1 => tlo σ H1 fun l H2 => thi σ H2 fun u H3 => r x l u H3 Q) : tSl r ta tlo thi σ H Q := h
theorem wp_noPart {QO : Option Int → Hp → Prop} (h : QO none H) : tNoPart σ H QO := h
theorem wp_part {QO : Option Int → Hp → Prop} (h : ta σ H fun x H1 => ∃ i, x = .int i ∧ QO (some i) H1) : tPart ta σ H QO := h
theorem wp_partI {k : Int} {R : Int → Prop} (h : R k) : ∃ i, V.int k = .int i ∧ R i := ⟨k, rfl, h⟩
theorem wp_bm {T : String} {r : V → List V → Hp → VK → Prop} (h : ta σ H fun x H1 => tyV K T x H1 ∧ tl σ H1 fun xs H2 => r x xs H2 Q) : tBM K T r ta tl σ H Q := h
theorem wp_bm0 {T : String} {r : V → List V → Hp → VK → Prop} (h : ta σ H fun x H1 => tyV K T x H1 ∧ r x [] H1 Q) : tBM0 K T r ta σ H Q := h
/- operations -/
theorem wp_rI0 {g : Int → Int → V} {a b : Int} (h : Q (g a b) H) : rI0 g (.int a) (.int b) H Q := ⟨a, b, rfl, rfl, h⟩
theorem wp_rI {C : Int → Int → Prop} {g : Int → Int → V} {a b : Int} (hc : C a b) (h : Q (g a b) H) : rI C g (.int a) (.int b) H Q := ⟨a, b, rfl, rfl, hc, h⟩
theorem wp_rU {g : Int → V} {a : Int} (h : Q (g a) H) : rU g (.int a) H Q := ⟨a, rfl, h⟩
theorem wp_eqI {a b : Int} (h : Q (.bl (decide (a = b))) H) : rEq (.int a) (.int b) H Q := ⟨rfl, by
  have e : decide (V.int a = V.int b) = decide (a = b) := by simp
  rw [e]; exact h⟩
theorem wp_eqS {a b : Str} (h : Q (.bl (decide (a = b))) H) : rEq (.str a) (.str b) H Q := ⟨rfl, by
  have e : decide (V.str a = V.str b) = decide (a = b) := by simp
  rw [e]; exact h⟩
theorem wp_eqB {a b : Bool} (h : Q (.bl (decide (a = b))) H) : rEq (.bl a) (.bl b) H Q := ⟨rfl, by
  have e : decide (V.bl a = V.bl b) = decide (a = b) := by simp
  rw [e]; exact h⟩
theorem wp_neI {a b : Int} (h : Q (.bl (!decide (a = b))) H) : rNe (.int a) (.int b) H Q := ⟨rfl, by
  have e : decide (V.int a = V.int b) = decide (a = b) := by simp
  rw [e]; exact h⟩
theorem wp_neS {a b : Str} (h : Q (.bl (!decide (a = b))) H) : rNe (.str a) (.str b) H Q := ⟨rfl, by
  have e : decide (V.str a = V.str b) = decide (a = b) := by simp
  rw [e]; exact h⟩
theorem wp_addStr {a b : Str} (hl : a.length + b.length ≤ 100000) (h : Q (.str (a ++ b)) H) : rAddStr (.str a) (.str b) H Q := ⟨a, b, rfl, rfl, Nat.le_trans hl (by decide), h⟩
theorem wp_ixL {a : Addr} {k : Int} {xs : List V} (hx : SqL K H a xs) (ha : atI xs k = some v) (h : Q v H) : rIxL K (.ref a) (.int k) H Q := ⟨a, xs, k, v, rfl, rfl, hx, ha, h⟩
theorem wp_ixT {a : Addr} {k : Int} {xs : List V} (hx : SqT K H a xs) (ha : atI xs k = some v) (h : Q v H) : rIxT K (.ref a) (.int k) H Q := ⟨a, xs, k, v, rfl, rfl, hx, ha, h⟩
theorem wp_ixS {z : Str} {k : Int} {c : Nat} (hz : z.length ≤ 100000) (ha : atI z.cps.toList k = some c) (h : Q (.str ⟨#[c]⟩) H) : rIxS (.str z) (.int k) H Q := ⟨z, k, c, rfl, rfl, Nat.le_trans hz (by decide), ha, h⟩
theorem wp_inS {c : Nat} {z : Str} (h : Q (.bl (decide (c ∈ z.cps.toList))) H) : rInS (.str ⟨#[c]⟩) (.str z) H Q := ⟨c, z, rfl, rfl, h⟩
theorem wp_notInS {c : Nat} {z : Str} (h : Q (.bl (!decide (c ∈ z.cps.toList))) H) : rNotInS (.str ⟨#[c]⟩) (.str z) H Q := ⟨c, z, rfl, rfl, h⟩
theorem wp_inL {a : Addr} {x : V} {xs : List V} (hx : SqL K H a xs) (h1 : flatV x = true) (h2 : xs.all flatV = true) (h : Q (.bl (inV x xs)) H) : rIn K false x (.ref a) H Q := ⟨a, xs, rfl, .inl hx, h1, h2, h⟩
theorem wp_notInL {a : Addr} {x : V} {xs : List V} (hx : SqL K H a xs) (h1 : flatV x = true) (h2 : xs.all flatV = true) (h : Q (.bl (!inV x xs)) H) : rIn K true x (.ref a) H Q := ⟨a, xs, rfl, .inl hx, h1, h2, h⟩
theorem wp_int1 {a : Int} (h : Q (.int a) H) : rInt1 [.int a] H Q := .inl ⟨a, rfl, h⟩
theorem wp_strInt {a : Int} (hl : a.natAbs.log2 < 1920) (h : Q (.str (toString a)) H) : rStrInt [.int a] H Q := ⟨a, rfl, hl, h⟩
theorem wp_lenStr {z : Str} (hz : z.length ≤ 100000) (h : Q (.int z.length) H) : rLenStr [.str z] H Q := ⟨z, rfl, Nat.le_trans hz (by decide), h⟩
theorem wp_lenL {a : Addr} {xs : List V} (hx : SqL K H a xs) (h : Q (.int xs.length) H) : rLenS K [.ref a] H Q := ⟨a, xs, rfl, .inl hx, h⟩
theorem wp_lenT {a : Addr} {xs : List V} (hx : SqT K H a xs) (h : Q (.int xs.length) H) : rLenS K [.ref a] H Q := ⟨a, xs, rfl, .inr hx, h⟩
theorem wp_min2 {a b : Int} (h : Q (.int (if b < a then b else a)) H) : rMin2 [.int a, .int b] H Q := ⟨a, b, rfl, h⟩
theorem wp_max2 {a b : Int} (h : Q (.int (if b > a then b else a)) H) : rMax2 [.int a, .int b] H Q := ⟨a, b, rfl, h⟩
theorem wp_find {a b : Str} (h : Q (.int (Txt.find a b)) H) : rFind (.str a) [.str b] H Q := ⟨a, b, rfl, rfl, h⟩
theorem wp_listL {a : Addr} {xs : List V} (hx : SqL K H a xs) (h : ∀ l, H l = none → Q (.ref l) (upd H l (.lst xs))) : rListS K [.ref a] H Q := ⟨a, xs, rfl, .inl hx, h⟩
theorem wp_append {a : Addr} {x : V} {xs : List V} (hx : H a = some (.lst xs)) (hl : xs.length < 100000) (h : Q .non (upd H a (.lst (xs ++ [x])))) : rAppend (.ref a) [x] H Q := ⟨a, xs, x, rfl, rfl, hx, Nat.lt_of_lt_of_le hl (by decide), h⟩
theorem ty_list {a : Addr} {xs : List V} {R : Prop} (hx : SqL K H a xs) (h : R) : tyV K "list" (.ref a) H ∧ R := ⟨.inl ⟨rfl, xs, hx⟩, h⟩
theorem ty_str {z : Str} {R : Prop} (h : R) : tyV K "str" (.str z) H ∧ R := ⟨rfl, h⟩
theorem wp_isi {x : V} {n : String} {tv : Value} {b : Bool} (ty : TyX K H x tv) (e : PySem.W.kitOne K tv (.type n) = some b) (h : Q (.bl b) H) : rIsi K [x, .ty n] H Q := ⟨x, .ty n, tv, .type n, b, rfl, .ty n, ty, e, h⟩
theorem pe_strS {X : Cx} {x : Str} {j : Nat} {pos : Pos} {l : List Nat} (h : x = S l) : PE X (.Constant (.str x) j pos) (tC (.str (S l))) := by
  rw [h]
  exact pe_str
theorem wp_addS {a b : List Nat} (hl : a.length + b.length ≤ 100000) (h : Q (.str (S (a ++ b))) H) : rAddStr (.str (S a)) (.str (S b)) H Q := by
  refine wp_addStr (by rw [S_len, S_len]; exact hl) ?_
  rw [S_cat]
  exact h
theorem wp_ixSM {z : List Nat} {k : Int} (hz : z.length ≤ 100000) (h0 : 0 ≤ k) (h1 : k < z.length) (h : ∀ c, c ∈ z → z[k.toNat]? = some c → Q (.str (S [c])) H) : rIxS (.str (S z)) (.int k) H Q := by
  have hl : k.toNat < z.length := by omega
  have e : k = ((k.toNat : Nat) : Int) := by omega
  have y := atI_nat (List.getElem?_eq_getElem hl)
  rw [← e] at y
  exact wp_ixS (by rw [S_len]; exact hz) y (h _ (List.getElem_mem hl) (List.getElem?_eq_getElem hl))
theorem wp_lenS {z : List Nat} (hz : z.length ≤ 100000) (h : Q (.int z.length) H) : rLenStr [.str (S z)] H Q := by
  refine wp_lenStr (by rw [S_len]; exact hz) ?_
  rw [S_len]
  exact h
theorem wp_strIntS {j : Nat} (hj : j < 1000000) (h : Q (.str (S (dg j))) H) : rStrInt [.int j] H Q := by
  refine wp_strInt ?_ ?_
  · have e : (j : Int).natAbs = j := Int.natAbs_natCast j
    rw [e]
    have : j.log2 ≤ j := Nat.log2_le_self j
    by_cases hz : j = 0
    · subst hz; decide
    · exact Nat.lt_trans ((Nat.log2_lt hz).mpr (show j < 2 ^ 20 by omega)) (by decide)
  · have e : (S (dg j)) = ((toString ((j : Nat) : Int) : String) : Str) := S_tl _
    rw [e] at h
    exact h
theorem inV_sv {a : List Nat} {ns : List (List Nat)} : inV (sv a) (ns.map sv) = decide (a ∈ ns) := by
  unfold inV
  rw [List.any_map, Bool.eq_iff_iff, List.any_eq_true, decide_eq_true_eq]
  constructor
  · rintro ⟨x, hx, e⟩
    have e2 : (S x == S a) = true := e
    rw [SX.S_beq_eq, decide_eq_true_eq] at e2
    rw [← e2]; exact hx
  · intro h
    refine ⟨a, h, ?_⟩
    show (S a == S a) = true
    exact beq_self_eq_true _
theorem flat_sv {ns : List (List Nat)} : (ns.map sv).all flatV = true := by
  rw [List.all_map, List.all_eq_true]
  intro x _
  rfl
theorem wp_inSv {p : Addr} {a : List Nat} {ns : List (List Nat)} (hx : SqL K H p (ns.map sv)) (h : Q (.bl (decide (a ∈ ns))) H) : rIn K false (.str (S a)) (.ref p) H Q := by
  refine wp_inL hx rfl flat_sv ?_
  show Q (.bl (inV (sv a) (ns.map sv))) H
  rw [inV_sv]; exact h
theorem wp_notInSv {p : Addr} {a : List Nat} {ns : List (List Nat)} (hx : SqL K H p (ns.map sv)) (h : Q (.bl (!decide (a ∈ ns))) H) : rIn K true (.str (S a)) (.ref p) H Q := by
  refine wp_notInL hx rfl flat_sv ?_
  show Q (.bl (!inV (sv a) (ns.map sv))) H
  rw [inV_sv]; exact h
theorem wp_minL {a : Addr} {ns : List Int} (hx : SqL K H a (ns.map V.int)) (h0 : 0 < ns.length) (h : ∀ m, m ∈ ns → (∀ y ∈ ns, m ≤ y) → Q (.int m) H) : rMin K [.ref a] H Q := ⟨a, ns, rfl, hx, h0, h⟩
theorem wp_maxL {a : Addr} {ns : List Int} (hx : SqL K H a (ns.map V.int)) (h0 : 0 < ns.length) (h : ∀ m, m ∈ ns → (∀ y ∈ ns, y ≤ m) → Q (.int m) H) : rMax K [.ref a] H Q := ⟨a, ns, rfl, hx, h0, h⟩
theorem wp_allL {a : Addr} {bs : List Bool} (hx : SqL K H a (bs.map V.bl)) (h : Q (.bl (bs.all id)) H) : rAll K [.ref a] H Q := ⟨a, bs, rfl, hx, h⟩
theorem wp_anyL {a : Addr} {bs : List Bool} (hx : SqL K H a (bs.map V.bl)) (h : Q (.bl (bs.any id)) H) : rAny K [.ref a] H Q := ⟨a, bs, rfl, hx, h⟩
theorem wp_isiB {b : Bool} (h : Q (.bl true) H) : rIsi K [.bl b, .ty "bool"] H Q := wp_isi (.base (.bl b)) (by unfold PySem.W.kitOne; rw [if_pos (by decide)]) h
theorem wp_sliceS {z : List Nat} {lo hi : Option Int} (hz : z.length ≤ 100000) (h : Q (.str (S (cutG z lo hi))) H) : rSlS (.str (S z)) lo hi H Q := by
  refine ⟨S z, rfl, szl (by rw [S_len]; exact hz), ?_⟩
  have e : cutS (S z) lo hi = S (cutG z lo hi) := by
    unfold cutS cutG
    rw [S_len]
  rw [e]
  exact h
/- statements -/
theorem wp_seq (h : s1 { D with nx := s2 D } σ H) : tSeq s1 s2 D σ H := h
theorem wp_next (h : D.nx σ H) : tNext D σ H := h
theorem wp_brk (h : D.bk σ H) : tBreak D σ H := h
theorem wp_cont (h : D.ct σ H) : tCont D σ H := h
theorem wp_ret (h : ta σ H D.rt) : tRet ta D σ H := h
theorem wp_drop (h : ta σ H fun _ H1 => D.nx σ H1) : tDrop ta D σ H := h
theorem wp_asg {g : TG} (h : ta σ H fun x H1 => g x σ H1 D.nx) : tAsg ta g D σ H := h
theorem wp_gname {QS : L2.St → Hp → Prop} (h : QS (σ.set i (some v)) H) : gName i v σ H QS := h
theorem wp_gsub {ts : TSet} {QS : L2.St → Hp → Prop} (h : ta σ H fun o H1 => tb σ H1 fun k H2 => ts o k v H2 fun H3 => QS σ H3) : gSub ta tb ts v σ H QS := h
theorem wp_setL {QH : Hp → Prop} {a : Addr} {k : Int} {j : Nat} {xs : List V} (hx : H a = some (.lst xs)) (hj : ixN xs.length k = some j) (h : QH (upd H a (.lst (xs.set j v)))) : rSetL (.ref a) (.int k) v H QH := ⟨a, xs, k, j, rfl, rfl, hx, hj, h⟩
theorem wp_setL0 {QH : Hp → Prop} {a : Addr} {x : V} {xs : List V} (hx : H a = some (.lst (x :: xs))) (h : QH (upd H a (.lst (v :: xs)))) : rSetL (.ref a) (.int 0) v H QH :=
  ⟨a, x :: xs, 0, 0, rfl, rfl, hx, by unfold ixN; simp only [List.length_cons]; rw [if_pos (by omega), if_pos (by omega)]; rfl, h⟩
theorem wp_setL1 {QH : Hp → Prop} {a : Addr} {x y : V} {xs : List V} (hx : H a = some (.lst (x :: y :: xs))) (h : QH (upd H a (.lst (x :: v :: xs)))) : rSetL (.ref a) (.int 1) v H QH :=
  ⟨a, x :: y :: xs, 1, 1, rfl, rfl, hx, by unfold ixN; simp only [List.length_cons]; rw [if_pos (by omega), if_pos (by omega)]; rfl, h⟩
theorem is_isi {xs : List V} (h : rIsi K xs H Q) : rIsi K xs H Q := h
theorem is_var (h : tVar i σ H Q) : tVar i σ H Q := h
theorem is_gname {QS : L2.St → Hp → Prop} (h : gName i v σ H QS) : gName i v σ H QS := h
theorem wp_ixLM {a : Addr} {k : Int} {xs : List V} (hx : SqL K H a xs) (h0 : 0 ≤ k) (h1 : k < xs.length) (h : ∀ v, v ∈ xs → xs[k.toNat]? = some v → Q v H) : rIxL K (.ref a) (.int k) H Q := by
  have hl : k.toNat < xs.length := by omega
  have e : k = ((k.toNat : Nat) : Int) := by omega
  have z := atI_nat (List.getElem?_eq_getElem hl)
  rw [← e] at z
  exact wp_ixL hx z (h _ (List.getElem_mem hl) (List.getElem?_eq_getElem hl))
theorem wp_ixLI {a : Addr} {k : Int} {cs : List Int} (hx : SqL K H a (cs.map V.int)) (h0 : 0 ≤ k) (h1 : k < (cs.map V.int).length) (h : ∀ c, c ∈ cs → Q (.int c) H) : rIxL K (.ref a) (.int k) H Q :=
  wp_ixLM hx h0 h1 fun v hv _ => by
    obtain ⟨c, hc, rfl⟩ := List.mem_map.mp hv
    exact h c hc
theorem wp_cut {s1 s2 : TS} (Mid : L2.St → Hp → Prop) (h1 : s1 { D with nx := Mid } σ H) (h2 : ∀ σ' H', Mid σ' H' → s2 D σ' H') : C8.tCut s1 s2 D σ H := ⟨Mid, h1, h2⟩
theorem wp_ifS (h : t σ H fun b H1 => if b = true then s1 D σ H1 else s2 D σ H1) : tIfS t s1 s2 D σ H := h
/- loops -/
def ForW (J : It) (g : TG) (tb : TS) (D : Ends) (σ : L2.St) (H : Hp) : Prop := tFor (fun _ H1 R => R J H1) g tb D σ H
theorem wp_for1 {g : TG} {tb : TS} (h : tl σ H fun vs H1 => ∃ j : Int, vs = [.int j] ∧ -(2 ^ 62) ≤ j ∧ j < 2 ^ 62 ∧ ForW (Itr 0 j.toNat) g tb D σ H1) : tFor (iRng1 tl) g tb D σ H := h
theorem wp_for2 {g : TG} {tb : TS} (h : tl σ H fun vs H1 => ∃ i j : Int, vs = [.int i, .int j] ∧ (-(2 ^ 62) ≤ i ∧ i < 2 ^ 62 ∧ -(2 ^ 62) ≤ j ∧ j < 2 ^ 62) ∧ ForW (Itr i (j - i).toNat) g tb D σ H1) : tFor (iRng2 tl) g tb D σ H := h
theorem wp_forL {g : TG} {tb : TS} (h : ta σ H fun x H1 => ∃ a, x = .ref a ∧ (∃ xs, SqL K H1 a xs) ∧ ForW (Itl K a) g tb D σ H1) : tFor (iList K ta) g tb D σ H := h
theorem wp_forT {g : TG} {tb : TS} (h : ta σ H fun x H1 => ∃ a, x = .ref a ∧ (∃ xs, SqT K H1 a xs) ∧ ForW (Itt K a) g tb D σ H1) : tFor (iTup K ta) g tb D σ H := h
theorem wp_forS {g : TG} {tb : TS} (h : ta σ H fun v H1 => ∃ x, v = .str x ∧ ForW (Its x) g tb D σ H1) : tFor (iStr ta) g tb D σ H := h
theorem loop1 {g : TG} {tb : TS} {n : Int} (b : -4611686018427387904 ≤ n ∧ n < 4611686018427387904) (Pv : Nat → L2.St → Hp → Prop) (h0 : Pv 0 σ H)
    (hs : ∀ (i : Nat) σ' H', (i : Int) < n → Pv i σ' H' → g (.int ((i : Nat) : Int)) σ' H' fun σ2 H2 => tb { D with nx := Pv (i + 1), ct := Pv (i + 1), bk := D.nx } σ2 H2) (hd : ∀ σ' H', Pv n.toNat σ' H' → D.nx σ' H') :
    ∃ j : Int, [V.int n] = [V.int j] ∧ -(2 ^ 62) ≤ j ∧ j < 2 ^ 62 ∧ ForW (Itr 0 j.toNat) g tb D σ H := by
  refine ⟨n, rfl, by omega, by omega, for_range Pv h0 (fun i σ' H' hi p => ?_) hd⟩
  have e0 : (0 : Int) + (i : Int) = (i : Int) := Int.zero_add _
  rw [e0]
  exact hs i σ' H' (by omega) p
theorem loop2 {g : TG} {tb : TS} {lo n : Int} (b : -4611686018427387904 ≤ lo ∧ lo < 4611686018427387904 ∧ -4611686018427387904 ≤ n ∧ n < 4611686018427387904) (Pv : Nat → L2.St → Hp → Prop) (h0 : Pv 0 σ H)
    (hs : ∀ (i : Nat) σ' H', lo + (i : Int) < n → Pv i σ' H' → g (.int (lo + ((i : Nat) : Int))) σ' H' fun σ2 H2 => tb { D with nx := Pv (i + 1), ct := Pv (i + 1), bk := D.nx } σ2 H2) (hd : ∀ σ' H', Pv (n - lo).toNat σ' H' → D.nx σ' H') :
    ∃ i j : Int, [V.int lo, V.int n] = [V.int i, V.int j] ∧ (-(2 ^ 62) ≤ i ∧ i < 2 ^ 62 ∧ -(2 ^ 62) ≤ j ∧ j < 2 ^ 62) ∧ ForW (Itr i (j - i).toNat) g tb D σ H :=
  ⟨lo, n, rfl, ⟨by omega, by omega, by omega, by omega⟩, for_range Pv h0 (fun i σ' H' hi p => hs i σ' H' (by omega) p) hd⟩
theorem loopL {g : TG} {tb : TS} {a : Addr} {xs : List V} (hx : SqL K H a xs) (Pv : Nat → L2.St → Hp → Prop) (h0 : Pv 0 σ H) (hl : ∀ i σ' H', i ≤ xs.length → Pv i σ' H' → SqL K H' a xs)
    (hs : ∀ i x σ' H', xs[i]? = some x → Pv i σ' H' → g x σ' H' fun σ2 H2 => tb { D with nx := Pv (i + 1), ct := Pv (i + 1), bk := D.nx } σ2 H2) (hd : ∀ σ' H', Pv xs.length σ' H' → D.nx σ' H') :
    ∃ b, V.ref a = .ref b ∧ (∃ xs, SqL K H b xs) ∧ ForW (Itl K b) g tb D σ H := ⟨a, rfl, ⟨xs, hx⟩, for_list Pv h0 hl hs hd⟩
theorem loopT {g : TG} {tb : TS} {a : Addr} {xs : List V} (hx : SqT K H a xs) (Pv : Nat → L2.St → Hp → Prop) (h0 : Pv 0 σ H) (hl : ∀ i σ' H', i ≤ xs.length → Pv i σ' H' → SqT K H' a xs)
    (hs : ∀ i x σ' H', xs[i]? = some x → Pv i σ' H' → g x σ' H' fun σ2 H2 => tb { D with nx := Pv (i + 1), ct := Pv (i + 1), bk := D.nx } σ2 H2) (hd : ∀ σ' H', Pv xs.length σ' H' → D.nx σ' H') :
    ∃ b, V.ref a = .ref b ∧ (∃ xs, SqT K H b xs) ∧ ForW (Itt K b) g tb D σ H := ⟨a, rfl, ⟨xs, hx⟩, for_tup Pv h0 hl hs hd⟩
theorem loopS {g : TG} {tb : TS} {l : List Nat} (Pv : Nat → L2.St → Hp → Prop) (h0 : Pv 0 σ H)
    (hs : ∀ i c σ' H', l[i]? = some c → Pv i σ' H' → g (.str (S [c])) σ' H' fun σ2 H2 => tb { D with nx := Pv (i + 1), ct := Pv (i + 1), bk := D.nx } σ2 H2) (hd : ∀ σ' H', Pv l.length σ' H' → D.nx σ' H') :
    ∃ x, V.str (S l) = .str x ∧ ForW (Its x) g tb D σ H := by
  refine ⟨S l, rfl, for_it (walk_str (z := S l)) Pv h0 (fun _ _ _ _ _ => trivial) (fun i x σ' H1 H2 hi p y => ?_) (fun σ' H' p => ?_)⟩
  · obtain ⟨rfl, c, hc, rfl⟩ := y
    exact hs i c σ' H2 (by simpa using hc) p
  · exact hd σ' H' (by simpa using p)
/- comprehensions: each item's value, nothing else changed -/
def LcW (J : It) (g : TG) (tt : TT) (te : TE) (vs : List Nat) (σ : L2.St) (H1 : Hp) (Q : VK) : Prop := tLc (fun _ H R => R J H) g tt te vs σ H1 Q
theorem wp_lcL {g : TG} {tt : TT} {te : TE} {vs : List Nat} (h : ta σ H fun x H1 => ∃ a, x = .ref a ∧ (∃ xs, SqL K H1 a xs) ∧ LcW (Itl K a) g tt te vs σ H1 Q) : tLc (iList K ta) g tt te vs σ H Q := h
theorem wp_lcT {g : TG} {tt : TT} {te : TE} {vs : List Nat} (h : ta σ H fun x H1 => ∃ a, x = .ref a ∧ (∃ xs, SqT K H1 a xs) ∧ LcW (Itt K a) g tt te vs σ H1 Q) : tLc (iTup K ta) g tt te vs σ H Q := h
theorem wp_lcS {g : TG} {tt : TT} {te : TE} {vs : List Nat} (h : ta σ H fun v H1 => ∃ x, v = .str x ∧ LcW (Its x) g tt te vs σ H1 Q) : tLc (iStr ta) g tt te vs σ H Q := h
theorem wp_lc1 {g : TG} {tt : TT} {te : TE} {vs : List Nat} (h : tl σ H fun us H1 => ∃ j : Int, us = [.int j] ∧ -(2 ^ 62) ≤ j ∧ j < 2 ^ 62 ∧ LcW (Itr 0 j.toNat) g tt te vs σ H1 Q) : tLc (iRng1 tl) g tt te vs σ H Q := h
/-- a walk by items, an element that changes nothing: the list of their values -/
theorem lcMap {J : It} {n : Nat} {it : Nat → V} {Gd : Hp → Prop} (w : Walk J n Gd (fun i H x H' => H' = H ∧ x = it i)) (hn : n ≤ 100000) {g : TG} {te : TE} {vs : List Nat} (hG : ∀ H', Same H H' → Gd H') (f : Nat → V)
    (he : ∀ i H2, i < n → Same H H2 → ∀ R : VK, (∀ H3, Same H2 H3 → R (f i) H3) → g (it i) (wipe σ vs) H2 fun σ2 H3 => wipe σ2 vs = wipe σ vs ∧ te σ2 H3 R)
    (hq : ∀ D H2, H D = none → Same H H2 → H2 D = some (.lst ((List.range n).map f)) → Q (.ref D) H2) : LcW J g tYes te vs σ H Q := by
  intro D hD
  refine lc_it w (fun i H2 => Same H H2 ∧ H2 D = some (.lst ((List.range i).map f))) ⟨Same.new hD, upd_same⟩ (fun i H2 _ p => hG H2 p.1) (fun i x H2 H3 hi p y => ?_) (fun H2 p => hq D H2 hD p.1 p.2)
  obtain ⟨rfl, rfl⟩ := y
  have z := he i H3 hi p.1 (fun y H4 => ∃ acc, H4 D = some (.lst acc) ∧ acc.length < sizeLine ∧ (Same H (upd H4 D (.lst (acc ++ [y]))) ∧ upd H4 D (.lst (acc ++ [y])) D = some (.lst ((List.range (i + 1)).map f)))) (fun H4 s4 => ?_)
  · exact z
  · refine ⟨_, s4 _ _ p.2, ?_, Same.mut (p.1.trans s4) hD, ?_⟩
    · rw [List.length_map, List.length_range]
      exact szlt (by omega)
    · rw [List.range_succ, List.map_append]
      exact upd_same
theorem lcMapL {a : Addr} {xs : List V} {j : Nat} {te : TE} (hx : SqL K H a xs) (hn : xs.length ≤ 100000) (σx : V → L2.St) (hw : ∀ x, (wipe σ [j]).set j (some x) = σx x ∧ wipe (σx x) [j] = wipe σ [j]) (f : V → V)
    (he : ∀ x H2, x ∈ xs → Same H H2 → ∀ R : VK, (∀ H3, Same H2 H3 → R (f x) H3) → te (σx x) H2 R)
    (hq : ∀ D H2, H D = none → Same H H2 → H2 D = some (.lst (xs.map f)) → Q (.ref D) H2) : ∃ b, V.ref a = .ref b ∧ (∃ ys, SqL K H b ys) ∧ LcW (Itl K b) (gName j) tYes te [j] σ H Q := by
  refine ⟨a, rfl, ⟨xs, hx⟩, ?_⟩
  intro D hD
  refine lc_list (xs := xs) (fun i H2 => Same H H2 ∧ H2 D = some (.lst ((xs.take i).map f))) ⟨Same.new hD, upd_same⟩ (fun i H2 _ p => Same.seq p.1 hx) (fun i x H3 hi p => ?_) (fun H2 p => hq D H2 hD p.1 (by have q := p.2; rw [List.take_length] at q; exact q))
  obtain ⟨hl, ex⟩ := List.getElem?_eq_some_iff.mp hi
  show wipe ((wipe σ [j]).set j (some x)) [j] = wipe σ [j] ∧ te ((wipe σ [j]).set j (some x)) H3 fun y H4 => ∃ acc, H4 D = some (.lst acc) ∧ acc.length < sizeLine ∧ (Same H (upd H4 D (.lst (acc ++ [y]))) ∧ upd H4 D (.lst (acc ++ [y])) D = some (.lst ((xs.take (i + 1)).map f)))
  rw [(hw x).1]
  refine ⟨(hw x).2, he x H3 (ex ▸ List.getElem_mem hl) p.1 _ fun H4 s4 => ⟨_, s4 _ _ p.2, ?_, Same.mut (p.1.trans s4) hD, ?_⟩⟩
  · rw [List.length_map, List.length_take]
    exact szlt (by omega)
  · rw [← List.take_append_getElem hl, List.map_append, ex]
    exact upd_same
theorem lcMapS {l : List Nat} {j : Nat} {te : TE} (hn : l.length ≤ 100000) (σx : V → L2.St) (hw : ∀ x, (wipe σ [j]).set j (some x) = σx x ∧ wipe (σx x) [j] = wipe σ [j]) (f : Nat → V)
    (he : ∀ c H2, c ∈ l → Same H H2 → ∀ R : VK, (∀ H3, Same H2 H3 → R (f c) H3) → te (σx (.str (S [c]))) H2 R)
    (hq : ∀ D H2, H D = none → Same H H2 → H2 D = some (.lst (l.map f)) → Q (.ref D) H2) : ∃ x, V.str (S l) = .str x ∧ LcW (Its x) (gName j) tYes te [j] σ H Q := by
  refine ⟨S l, rfl, ?_⟩
  intro D hD
  have e0 : (S l).cps.size = l.length := by simp
  refine lc_it (walk_str (z := S l)) (fun i H2 => Same H H2 ∧ H2 D = some (.lst ((l.take i).map f))) ⟨Same.new hD, upd_same⟩ (fun _ _ _ _ => trivial) (fun i x H2 H3 hi p y => ?_) (fun H2 p => hq D H2 hD p.1 (by have q := p.2; rw [e0, List.take_length] at q; exact q))
  obtain ⟨rfl, c, hc, rfl⟩ := y
  have hc : l[i]? = some c := by simpa using hc
  obtain ⟨hl, ex⟩ := List.getElem?_eq_some_iff.mp hc
  show wipe ((wipe σ [j]).set j (some (V.str (S [c])))) [j] = wipe σ [j] ∧ te ((wipe σ [j]).set j (some (V.str (S [c])))) H3 fun y H4 => ∃ acc, H4 D = some (.lst acc) ∧ acc.length < sizeLine ∧ (Same H (upd H4 D (.lst (acc ++ [y]))) ∧ upd H4 D (.lst (acc ++ [y])) D = some (.lst ((l.take (i + 1)).map f)))
  rw [(hw _).1]
  refine ⟨(hw _).2, he c H3 (ex ▸ List.getElem_mem hl) p.1 _ fun H4 s4 => ⟨_, s4 _ _ p.2, ?_, Same.mut (p.1.trans s4) hD, ?_⟩⟩
  · rw [List.length_map, List.length_take]
    exact szlt (by omega)
  · rw [← List.take_append_getElem hl, List.map_append, ex]
    exact upd_same
/- ways -/
theorem ite_dec {c A B : Prop} {dc : Decidable c} (h1 : c → A) (h2 : ¬ c → B) : if decide c = true then A else B := by
  by_cases h : c
  · rw [decide_eq_true h]; exact h1 h
  · rw [decide_eq_false h]; exact h2 h
theorem ite_ndec {c A B : Prop} {dc : Decidable c} (h1 : ¬ c → A) (h2 : c → B) : if (!decide c) = true then A else B := by
  by_cases h : c
  · rw [decide_eq_true h]; exact h2 h
  · rw [decide_eq_false h]; exact h1 h
theorem ite_T {c A B : Prop} {dc : Decidable c} (hc : c) (h : A) : if decide c = true then A else B := by
  rw [decide_eq_true hc]; exact h
theorem ite_F {c A B : Prop} {dc : Decidable c} (hc : ¬ c) (h : B) : if decide c = true then A else B := by
  rw [decide_eq_false hc]; exact h
theorem ite_nT {c A B : Prop} {dc : Decidable c} (hc : ¬ c) (h : A) : if (!decide c) = true then A else B := by
  rw [decide_eq_false hc]; exact h
theorem ite_nF {c A B : Prop} {dc : Decidable c} (hc : c) (h : B) : if (!decide c) = true then A else B := by
  rw [decide_eq_true hc]; exact h
theorem ite_t {A B : Prop} (h : A) : if true = true then A else B := by rw [if_pos rfl]; exact h
theorem ite_f {A B : Prop} (h : B) : if false = true then A else B := by rw [if_neg Bool.false_ne_true]; exact h
theorem ite_nt {A B : Prop} (h : B) : if (!true) = true then A else B := by rw [if_neg (by decide)]; exact h
theorem ite_nff {A B : Prop} (h : A) : if (!false) = true then A else B := by rw [if_pos (by decide)]; exact h
theorem ite_b {b : Bool} {A B : Prop} (h1 : b = true → A) (h2 : b = false → B) : if b = true then A else B := by
  cases b
  · exact h2 rfl
  · exact h1 rfl
theorem ite_nb {b : Bool} {A B : Prop} (h1 : b = false → A) (h2 : b = true → B) : if (!b) = true then A else B := by
  cases b
  · exact h1 rfl
  · exact h2 rfl
end
/- slots -/
section
variable {v : V} {H : Hp} {QS : L2.St → Hp → Prop} {r : L2.St}
theorem wp_g0 {a0 : Option V} (h : QS (some v :: r) H) : gName 0 v (a0 :: r) H QS := h
theorem wp_g1 {a0 a1 : Option V} (h : QS (a0 :: some v :: r) H) : gName 1 v (a0 :: a1 :: r) H QS := h
theorem wp_g2 {a0 a1 a2 : Option V} (h : QS (a0 :: a1 :: some v :: r) H) : gName 2 v (a0 :: a1 :: a2 :: r) H QS := h
theorem wp_g3 {a0 a1 a2 a3 : Option V} (h : QS (a0 :: a1 :: a2 :: some v :: r) H) : gName 3 v (a0 :: a1 :: a2 :: a3 :: r) H QS := h
theorem wp_g4 {a0 a1 a2 a3 a4 : Option V} (h : QS (a0 :: a1 :: a2 :: a3 :: some v :: r) H) : gName 4 v (a0 :: a1 :: a2 :: a3 :: a4 :: r) H QS := h
theorem wp_g5 {a0 a1 a2 a3 a4 a5 : Option V} (h : QS (a0 :: a1 :: a2 :: a3 :: a4 :: some v :: r) H) : gName 5 v (a0 :: a1 :: a2 :: a3 :: a4 :: a5 :: r) H QS := h
theorem wp_g6 {a0 a1 a2 a3 a4 a5 a6 : Option V} (h : QS (a0 :: a1 :: a2 :: a3 :: a4 :: a5 :: some v :: r) H) : gName 6 v (a0 :: a1 :: a2 :: a3 :: a4 :: a5 :: a6 :: r) H QS := h
theorem wp_g7 {a0 a1 a2 a3 a4 a5 a6 a7 : Option V} (h : QS (a0 :: a1 :: a2 :: a3 :: a4 :: a5 :: a6 :: some v :: r) H) : gName 7 v (a0 :: a1 :: a2 :: a3 :: a4 :: a5 :: a6 :: a7 :: r) H QS := h
theorem wp_g8 {a0 a1 a2 a3 a4 a5 a6 a7 a8 : Option V} (h : QS (a0 :: a1 :: a2 :: a3 :: a4 :: a5 :: a6 :: a7 :: some v :: r) H) : gName 8 v (a0 :: a1 :: a2 :: a3 :: a4 :: a5 :: a6 :: a7 :: a8 :: r) H QS := h
theorem wp_g9 {a0 a1 a2 a3 a4 a5 a6 a7 a8 a9 : Option V} (h : QS (a0 :: a1 :: a2 :: a3 :: a4 :: a5 :: a6 :: a7 :: a8 :: some v :: r) H) : gName 9 v (a0 :: a1 :: a2 :: a3 :: a4 :: a5 :: a6 :: a7 :: a8 :: a9 :: r) H QS := h
theorem wp_g10 {a0 a1 a2 a3 a4 a5 a6 a7 a8 a9 a10 : Option V} (h : QS (a0 :: a1 :: a2 :: a3 :: a4 :: a5 :: a6 :: a7 :: a8 :: a9 :: some v :: r) H) : gName 10 v (a0 :: a1 :: a2 :: a3 :: a4 :: a5 :: a6 :: a7 :: a8 :: a9 :: a10 :: r) H QS := h
theorem wp_g11 {a0 a1 a2 a3 a4 a5 a6 a7 a8 a9 a10 a11 : Option V} (h : QS (a0 :: a1 :: a2 :: a3 :: a4 :: a5 :: a6 :: a7 :: a8 :: a9 :: a10 :: some v :: r) H) : gName 11 v (a0 :: a1 :: a2 :: a3 :: a4 :: a5 :: a6 :: a7 :: a8 :: a9 :: a10 :: a11 :: r) H QS := h
theorem wp_g12 {a0 a1 a2 a3 a4 a5 a6 a7 a8 a9 a10 a11 a12 : Option V} (h : QS (a0 :: a1 :: a2 :: a3 :: a4 :: a5 :: a6 :: a7 :: a8 :: a9 :: a10 :: a11 :: some v :: r) H) : gName 12 v (a0 :: a1 :: a2 :: a3 :: a4 :: a5 :: a6 :: a7 :: a8 :: a9 :: a10 :: a11 :: a12 :: r) H QS := h
theorem wp_g13 {a0 a1 a2 a3 a4 a5 a6 a7 a8 a9 a10 a11 a12 a13 : Option V} (h : QS (a0 :: a1 :: a2 :: a3 :: a4 :: a5 :: a6 :: a7 :: a8 :: a9 :: a10 :: a11 :: a12 :: some v :: r) H) : gName 13 v (a0 :: a1 :: a2 :: a3 :: a4 :: a5 :: a6 :: a7 :: a8 :: a9 :: a10 :: a11 :: a12 :: a13 :: r) H QS := h
theorem wp_g14 {a0 a1 a2 a3 a4 a5 a6 a7 a8 a9 a10 a11 a12 a13 a14 : Option V} (h : QS (a0 :: a1 :: a2 :: a3 :: a4 :: a5 :: a6 :: a7 :: a8 :: a9 :: a10 :: a11 :: a12 :: a13 :: some v :: r) H) : gName 14 v (a0 :: a1 :: a2 :: a3 :: a4 :: a5 :: a6 :: a7 :: a8 :: a9 :: a10 :: a11 :: a12 :: a13 :: a14 :: r) H QS := h
theorem wp_g15 {a0 a1 a2 a3 a4 a5 a6 a7 a8 a9 a10 a11 a12 a13 a14 a15 : Option V} (h : QS (a0 :: a1 :: a2 :: a3 :: a4 :: a5 :: a6 :: a7 :: a8 :: a9 :: a10 :: a11 :: a12 :: a13 :: a14 :: some v :: r) H) : gName 15 v (a0 :: a1 :: a2 :: a3 :: a4 :: a5 :: a6 :: a7 :: a8 :: a9 :: a10 :: a11 :: a12 :: a13 :: a14 :: a15 :: r) H QS := h
theorem wp_g16 {a0 a1 a2 a3 a4 a5 a6 a7 a8 a9 a10 a11 a12 a13 a14 a15 a16 : Option V} (h : QS (a0 :: a1 :: a2 :: a3 :: a4 :: a5 :: a6 :: a7 :: a8 :: a9 :: a10 :: a11 :: a12 :: a13 :: a14 :: a15 :: some v :: r) H) : gName 16 v (a0 :: a1 :: a2 :: a3 :: a4 :: a5 :: a6 :: a7 :: a8 :: a9 :: a10 :: a11 :: a12 :: a13 :: a14 :: a15 :: a16 :: r) H QS := h
theorem wp_g17 {a0 a1 a2 a3 a4 a5 a6 a7 a8 a9 a10 a11 a12 a13 a14 a15 a16 a17 : Option V} (h : QS (a0 :: a1 :: a2 :: a3 :: a4 :: a5 :: a6 :: a7 :: a8 :: a9 :: a10 :: a11 :: a12 :: a13 :: a14 :: a15 :: a16 :: some v :: r) H) : gName 17 v (a0 :: a1 :: a2 :: a3 :: a4 :: a5 :: a6 :: a7 :: a8 :: a9 :: a10 :: a11 :: a12 :: a13 :: a14 :: a15 :: a16 :: a17 :: r) H QS := h
theorem wp_g18 {a0 a1 a2 a3 a4 a5 a6 a7 a8 a9 a10 a11 a12 a13 a14 a15 a16 a17 a18 : Option V} (h : QS (a0 :: a1 :: a2 :: a3 :: a4 :: a5 :: a6 :: a7 :: a8 :: a9 :: a10 :: a11 :: a12 :: a13 :: a14 :: a15 :: a16 :: a17 :: some v :: r) H) : gName 18 v (a0 :: a1 :: a2 :: a3 :: a4 :: a5 :: a6 :: a7 :: a8 :: a9 :: a10 :: a11 :: a12 :: a13 :: a14 :: a15 :: a16 :: a17 :: a18 :: r) H QS := h
theorem wp_g19 {a0 a1 a2 a3 a4 a5 a6 a7 a8 a9 a10 a11 a12 a13 a14 a15 a16 a17 a18 a19 : Option V} (h : QS (a0 :: a1 :: a2 :: a3 :: a4 :: a5 :: a6 :: a7 :: a8 :: a9 :: a10 :: a11 :: a12 :: a13 :: a14 :: a15 :: a16 :: a17 :: a18 :: some v :: r) H) : gName 19 v (a0 :: a1 :: a2 :: a3 :: a4 :: a5 :: a6 :: a7 :: a8 :: a9 :: a10 :: a11 :: a12 :: a13 :: a14 :: a15 :: a16 :: a17 :: a18 :: a19 :: r) H QS := h
theorem wp_g20 {a0 a1 a2 a3 a4 a5 a6 a7 a8 a9 a10 a11 a12 a13 a14 a15 a16 a17 a18 a19 a20 : Option V} (h : QS (a0 :: a1 :: a2 :: a3 :: a4 :: a5 :: a6 :: a7 :: a8 :: a9 :: a10 :: a11 :: a12 :: a13 :: a14 :: a15 :: a16 :: a17 :: a18 :: a19 :: some v :: r) H) : gName 20 v (a0 :: a1 :: a2 :: a3 :: a4 :: a5 :: a6 :: a7 :: a8 :: a9 :: a10 :: a11 :: a12 :: a13 :: a14 :: a15 :: a16 :: a17 :: a18 :: a19 :: a20 :: r) H QS := h
theorem wp_g21 {a0 a1 a2 a3 a4 a5 a6 a7 a8 a9 a10 a11 a12 a13 a14 a15 a16 a17 a18 a19 a20 a21 : Option V} (h : QS (a0 :: a1 :: a2 :: a3 :: a4 :: a5 :: a6 :: a7 :: a8 :: a9 :: a10 :: a11 :: a12 :: a13 :: a14 :: a15 :: a16 :: a17 :: a18 :: a19 :: a20 :: some v :: r) H) : gName 21 v (a0 :: a1 :: a2 :: a3 :: a4 :: a5 :: a6 :: a7 :: a8 :: a9 :: a10 :: a11 :: a12 :: a13 :: a14 :: a15 :: a16 :: a17 :: a18 :: a19 :: a20 :: a21 :: r) H QS := h
theorem wp_g22 {a0 a1 a2 a3 a4 a5 a6 a7 a8 a9 a10 a11 a12 a13 a14 a15 a16 a17 a18 a19 a20 a21 a22 : Option V} (h : QS (a0 :: a1 :: a2 :: a3 :: a4 :: a5 :: a6 :: a7 :: a8 :: a9 :: a10 :: a11 :: a12 :: a13 :: a14 :: a15 :: a16 :: a17 :: a18 :: a19 :: a20 :: a21 :: some v :: r) H) : gName 22 v (a0 :: a1 :: a2 :: a3 :: a4 :: a5 :: a6 :: a7 :: a8 :: a9 :: a10 :: a11 :: a12 :: a13 :: a14 :: a15 :: a16 :: a17 :: a18 :: a19 :: a20 :: a21 :: a22 :: r) H QS := h
theorem wp_g23 {a0 a1 a2 a3 a4 a5 a6 a7 a8 a9 a10 a11 a12 a13 a14 a15 a16 a17 a18 a19 a20 a21 a22 a23 : Option V} (h : QS (a0 :: a1 :: a2 :: a3 :: a4 :: a5 :: a6 :: a7 :: a8 :: a9 :: a10 :: a11 :: a12 :: a13 :: a14 :: a15 :: a16 :: a17 :: a18 :: a19 :: a20 :: a21 :: a22 :: some v :: r) H) : gName 23 v (a0 :: a1 :: a2 :: a3 :: a4 :: a5 :: a6 :: a7 :: a8 :: a9 :: a10 :: a11 :: a12 :: a13 :: a14 :: a15 :: a16 :: a17 :: a18 :: a19 :: a20 :: a21 :: a22 :: a23 :: r) H QS := h
theorem wp_g24 {a0 a1 a2 a3 a4 a5 a6 a7 a8 a9 a10 a11 a12 a13 a14 a15 a16 a17 a18 a19 a20 a21 a22 a23 a24 : Option V} (h : QS (a0 :: a1 :: a2 :: a3 :: a4 :: a5 :: a6 :: a7 :: a8 :: a9 :: a10 :: a11 :: a12 :: a13 :: a14 :: a15 :: a16 :: a17 :: a18 :: a19 :: a20 :: a21 :: a22 :: a23 :: some v :: r) H) : gName 24 v (a0 :: a1 :: a2 :: a3 :: a4 :: a5 :: a6 :: a7 :: a8 :: a9 :: a10 :: a11 :: a12 :: a13 :: a14 :: a15 :: a16 :: a17 :: a18 :: a19 :: a20 :: a21 :: a22 :: a23 :: a24 :: r) H QS := h
theorem wp_g25 {a0 a1 a2 a3 a4 a5 a6 a7 a8 a9 a10 a11 a12 a13 a14 a15 a16 a17 a18 a19 a20 a21 a22 a23 a24 a25 : Option V} (h : QS (a0 :: a1 :: a2 :: a3 :: a4 :: a5 :: a6 :: a7 :: a8 :: a9 :: a10 :: a11 :: a12 :: a13 :: a14 :: a15 :: a16 :: a17 :: a18 :: a19 :: a20 :: a21 :: a22 :: a23 :: a24 :: some v :: r) H) : gName 25 v (a0 :: a1 :: a2 :: a3 :: a4 :: a5 :: a6 :: a7 :: a8 :: a9 :: a10 :: a11 :: a12 :: a13 :: a14 :: a15 :: a16 :: a17 :: a18 :: a19 :: a20 :: a21 :: a22 :: a23 :: a24 :: a25 :: r) H QS := h
end
section
variable {v : V} {H : Hp} {Q : VK} {r : L2.St}
theorem wp_v0 (q : Q v H) : tVar 0 (some v :: r) H Q := ⟨v, rfl, q⟩
theorem wp_v1 {a0 : Option V} (q : Q v H) : tVar 1 (a0 :: some v :: r) H Q := ⟨v, rfl, q⟩
theorem wp_v2 {a0 a1 : Option V} (q : Q v H) : tVar 2 (a0 :: a1 :: some v :: r) H Q := ⟨v, rfl, q⟩
theorem wp_v3 {a0 a1 a2 : Option V} (q : Q v H) : tVar 3 (a0 :: a1 :: a2 :: some v :: r) H Q := ⟨v, rfl, q⟩
theorem wp_v4 {a0 a1 a2 a3 : Option V} (q : Q v H) : tVar 4 (a0 :: a1 :: a2 :: a3 :: some v :: r) H Q := ⟨v, rfl, q⟩
theorem wp_v5 {a0 a1 a2 a3 a4 : Option V} (q : Q v H) : tVar 5 (a0 :: a1 :: a2 :: a3 :: a4 :: some v :: r) H Q := ⟨v, rfl, q⟩
theorem wp_v6 {a0 a1 a2 a3 a4 a5 : Option V} (q : Q v H) : tVar 6 (a0 :: a1 :: a2 :: a3 :: a4 :: a5 :: some v :: r) H Q := ⟨v, rfl, q⟩
theorem wp_v7 {a0 a1 a2 a3 a4 a5 a6 : Option V} (q : Q v H) : tVar 7 (a0 :: a1 :: a2 :: a3 :: a4 :: a5 :: a6 :: some v :: r) H Q := ⟨v, rfl, q⟩
theorem wp_v8 {a0 a1 a2 a3 a4 a5 a6 a7 : Option V} (q : Q v H) : tVar 8 (a0 :: a1 :: a2 :: a3 :: a4 :: a5 :: a6 :: a7 :: some v :: r) H Q := ⟨v, rfl, q⟩
theorem wp_v9 {a0 a1 a2 a3 a4 a5 a6 a7 a8 : Option V} (q : Q v H) : tVar 9 (a0 :: a1 :: a2 :: a3 :: a4 :: a5 :: a6 :: a7 :: a8 :: some v :: r) H Q := ⟨v, rfl, q⟩
theorem wp_v10 {a0 a1 a2 a3 a4 a5 a6 a7 a8 a9 : Option V} (q : Q v H) : tVar 10 (a0 :: a1 :: a2 :: a3 :: a4 :: a5 :: a6 :: a7 :: a8 :: a9 :: some v :: r) H Q := ⟨v, rfl, q⟩
theorem wp_v11 {a0 a1 a2 a3 a4 a5 a6 a7 a8 a9 a10 : Option V} (q : Q v H) : tVar 11 (a0 :: a1 :: a2 :: a3 :: a4 :: a5 :: a6 :: a7 :: a8 :: a9 :: a10 :: some v :: r) H Q := ⟨v, rfl, q⟩
theorem wp_v12 {a0 a1 a2 a3 a4 a5 a6 a7 a8 a9 a10 a11 : Option V} (q : Q v H) : tVar 12 (a0 :: a1 :: a2 :: a3 :: a4 :: a5 :: a6 :: a7 :: a8 :: a9 :: a10 :: a11 :: some v :: r) H Q := ⟨v, rfl, q⟩
theorem wp_v13 {a0 a1 a2 a3 a4 a5 a6 a7 a8 a9 a10 a11 a12 : Option V} (q : Q v H) : tVar 13 (a0 :: a1 :: a2 :: a3 :: a4 :: a5 :: a6 :: a7 :: a8 :: a9 :: a10 :: a11 :: a12 :: some v :: r) H Q := ⟨v, rfl, q⟩
theorem wp_v14 {a0 a1 a2 a3 a4 a5 a6 a7 a8 a9 a10 a11 a12 a13 : Option V} (q : Q v H) : tVar 14 (a0 :: a1 :: a2 :: a3 :: a4 :: a5 :: a6 :: a7 :: a8 :: a9 :: a10 :: a11 :: a12 :: a13 :: some v :: r) H Q := ⟨v, rfl, q⟩
theorem wp_v15 {a0 a1 a2 a3 a4 a5 a6 a7 a8 a9 a10 a11 a12 a13 a14 : Option V} (q : Q v H) : tVar 15 (a0 :: a1 :: a2 :: a3 :: a4 :: a5 :: a6 :: a7 :: a8 :: a9 :: a10 :: a11 :: a12 :: a13 :: a14 :: some v :: r) H Q := ⟨v, rfl, q⟩
theorem wp_v16 {a0 a1 a2 a3 a4 a5 a6 a7 a8 a9 a10 a11 a12 a13 a14 a15 : Option V} (q : Q v H) : tVar 16 (a0 :: a1 :: a2 :: a3 :: a4 :: a5 :: a6 :: a7 :: a8 :: a9 :: a10 :: a11 :: a12 :: a13 :: a14 :: a15 :: some v :: r) H Q := ⟨v, rfl, q⟩
theorem wp_v17 {a0 a1 a2 a3 a4 a5 a6 a7 a8 a9 a10 a11 a12 a13 a14 a15 a16 : Option V} (q : Q v H) : tVar 17 (a0 :: a1 :: a2 :: a3 :: a4 :: a5 :: a6 :: a7 :: a8 :: a9 :: a10 :: a11 :: a12 :: a13 :: a14 :: a15 :: a16 :: some v :: r) H Q := ⟨v, rfl, q⟩
theorem wp_v18 {a0 a1 a2 a3 a4 a5 a6 a7 a8 a9 a10 a11 a12 a13 a14 a15 a16 a17 : Option V} (q : Q v H) : tVar 18 (a0 :: a1 :: a2 :: a3 :: a4 :: a5 :: a6 :: a7 :: a8 :: a9 :: a10 :: a11 :: a12 :: a13 :: a14 :: a15 :: a16 :: a17 :: some v :: r) H Q := ⟨v, rfl, q⟩
theorem wp_v19 {a0 a1 a2 a3 a4 a5 a6 a7 a8 a9 a10 a11 a12 a13 a14 a15 a16 a17 a18 : Option V} (q : Q v H) : tVar 19 (a0 :: a1 :: a2 :: a3 :: a4 :: a5 :: a6 :: a7 :: a8 :: a9 :: a10 :: a11 :: a12 :: a13 :: a14 :: a15 :: a16 :: a17 :: a18 :: some v :: r) H Q := ⟨v, rfl, q⟩
theorem wp_v20 {a0 a1 a2 a3 a4 a5 a6 a7 a8 a9 a10 a11 a12 a13 a14 a15 a16 a17 a18 a19 : Option V} (q : Q v H) : tVar 20 (a0 :: a1 :: a2 :: a3 :: a4 :: a5 :: a6 :: a7 :: a8 :: a9 :: a10 :: a11 :: a12 :: a13 :: a14 :: a15 :: a16 :: a17 :: a18 :: a19 :: some v :: r) H Q := ⟨v, rfl, q⟩
theorem wp_v21 {a0 a1 a2 a3 a4 a5 a6 a7 a8 a9 a10 a11 a12 a13 a14 a15 a16 a17 a18 a19 a20 : Option V} (q : Q v H) : tVar 21 (a0 :: a1 :: a2 :: a3 :: a4 :: a5 :: a6 :: a7 :: a8 :: a9 :: a10 :: a11 :: a12 :: a13 :: a14 :: a15 :: a16 :: a17 :: a18 :: a19 :: a20 :: some v :: r) H Q := ⟨v, rfl, q⟩
theorem wp_v22 {a0 a1 a2 a3 a4 a5 a6 a7 a8 a9 a10 a11 a12 a13 a14 a15 a16 a17 a18 a19 a20 a21 : Option V} (q : Q v H) : tVar 22 (a0 :: a1 :: a2 :: a3 :: a4 :: a5 :: a6 :: a7 :: a8 :: a9 :: a10 :: a11 :: a12 :: a13 :: a14 :: a15 :: a16 :: a17 :: a18 :: a19 :: a20 :: a21 :: some v :: r) H Q := ⟨v, rfl, q⟩
theorem wp_v23 {a0 a1 a2 a3 a4 a5 a6 a7 a8 a9 a10 a11 a12 a13 a14 a15 a16 a17 a18 a19 a20 a21 a22 : Option V} (q : Q v H) : tVar 23 (a0 :: a1 :: a2 :: a3 :: a4 :: a5 :: a6 :: a7 :: a8 :: a9 :: a10 :: a11 :: a12 :: a13 :: a14 :: a15 :: a16 :: a17 :: a18 :: a19 :: a20 :: a21 :: a22 :: some v :: r) H Q := ⟨v, rfl, q⟩
theorem wp_v24 {a0 a1 a2 a3 a4 a5 a6 a7 a8 a9 a10 a11 a12 a13 a14 a15 a16 a17 a18 a19 a20 a21 a22 a23 : Option V} (q : Q v H) : tVar 24 (a0 :: a1 :: a2 :: a3 :: a4 :: a5 :: a6 :: a7 :: a8 :: a9 :: a10 :: a11 :: a12 :: a13 :: a14 :: a15 :: a16 :: a17 :: a18 :: a19 :: a20 :: a21 :: a22 :: a23 :: some v :: r) H Q := ⟨v, rfl, q⟩
theorem wp_v25 {a0 a1 a2 a3 a4 a5 a6 a7 a8 a9 a10 a11 a12 a13 a14 a15 a16 a17 a18 a19 a20 a21 a22 a23 a24 : Option V} (q : Q v H) : tVar 25 (a0 :: a1 :: a2 :: a3 :: a4 :: a5 :: a6 :: a7 :: a8 :: a9 :: a10 :: a11 :: a12 :: a13 :: a14 :: a15 :: a16 :: a17 :: a18 :: a19 :: a20 :: a21 :: a22 :: a23 :: a24 :: some v :: r) H Q := ⟨v, rfl, q⟩
end
/-! ### small words about heaps -/
theorem sq_of {K : PySem.W.Frag} {H : Hp} {a : Addr} {xs : List V} (h : H a = some (.lst xs)) : SqL K H a xs := SqL.of h
theorem st_of {K : PySem.W.Frag} {H : Hp} {a : Addr} {xs : List V} (h : H a = some (.tup xs)) : SqT K H a xs := SqT.of h
theorem at_in {α : Type} {xs : List α} {i : Int} (h0 : 0 ≤ i) (h1 : i < xs.length) : ∃ v, atI xs i = some v ∧ v ∈ xs ∧ xs[i.toNat]? = some v := by
  have hl : i.toNat < xs.length := by omega
  have e : i = ((i.toNat : Nat) : Int) := by omega
  have h := atI_nat (List.getElem?_eq_getElem hl)
  rw [← e] at h
  exact ⟨_, h, List.getElem_mem hl, List.getElem?_eq_getElem hl⟩
theorem at0 {α : Type} {x : α} {xs : List α} : atI (x :: xs) 0 = some x := atI_nat (j := 0) rfl
theorem at1 {α : Type} {x y : α} {xs : List α} : atI (x :: y :: xs) 1 = some y := atI_nat (j := 1) rfl
/-! ### the pool: what a draw may change -/
structure Pl where
  p : Addr
  l : Addr
  cs : List Int
/-- the pool stands at P.p, its cells at P.l; G: all that is known besides, P.p not among it -/
structure Sees (P : Pl) (G H : Hp) : Prop where
  pool : ∃ (n c : Int), H P.p = some (.lst [.int n, .int c, .ref P.l])
  cell : G P.l = some (.lst (P.cs.map V.int))
  few : P.cs.length ≤ 63
  free : G P.p = none
  sub : Same G H
theorem Sees.more {P : Pl} {G G' H : Hp} (s : Sees P G H) (g : Same G G') (h : Same G' H) (hp : G' P.p = none) : Sees P G' H :=
  ⟨s.pool, g _ _ s.cell, s.few, hp, h⟩
/-- a thing outside of G that stands in H is known too -/
theorem Sees.with {P : Pl} {q : Addr} {o : HO} {G H : Hp} (s : Sees P G H) (hq : G q = none) (hH : H q = some o) (hqp : q ≠ P.p) : Sees P (upd G q o) H := by
  refine s.more (Same.new hq) (fun a u e => ?_) (by rw [upd_ne hqp.symm]; exact s.free)
  by_cases h : a = q
  · subst h; rw [upd_same] at e; cases e; exact hH
  · rw [upd_ne h] at e; exact s.sub _ _ e
/-- .. and may be forgotten behind a call -/
theorem Sees.back {P : Pl} {q : Addr} {o : HO} {G H H' : Hp} (s : Sees P (upd G q o) H') (s0 : Sees P G H) (hq : G q = none) : Sees P G H' ∧ H' q = some o :=
  ⟨⟨s.pool, s0.cell, s.few, s0.free, Same.trans (Same.new hq) s.sub⟩, s.sub _ _ upd_same⟩
theorem Sees.fresh {P : Pl} {q : Addr} {G H : Hp} (s : Sees P G H) (hq : H q = none) : G q = none ∧ q ≠ P.p := by
  refine ⟨s.sub.free hq, fun e => ?_⟩
  obtain ⟨n, c, h⟩ := s.pool
  rw [e, h] at hq
  cases hq
/-- a local object is made, or changed -/
theorem Sees.set {P : Pl} {q : Addr} {o : HO} {G H : Hp} (s : Sees P G H) (hq : G q = none) (hqp : q ≠ P.p) : Sees P G (upd H q o) := by
  obtain ⟨n, c, h⟩ := s.pool
  exact ⟨⟨n, c, by rw [upd_ne hqp.symm]; exact h⟩, s.cell, s.few, s.free, Same.mut s.sub hq⟩
/-- .. and known for good -/
theorem Sees.new {P : Pl} {q : Addr} {o : HO} {G H : Hp} (s : Sees P G H) (hq : H q = none) : Sees P (upd G q o) (upd H q o) := by
  obtain ⟨h1, h2⟩ := s.fresh hq
  exact (s.set h1 h2).with h1 upd_same h2
theorem Sees.drawn {P : Pl} {G H : Hp} (s : Sees P G H) (n c : Int) : Sees P G (upd H P.p (.lst [.int n, .int c, .ref P.l])) :=
  ⟨⟨n, c, upd_same⟩, s.cell, s.few, s.free, Same.mut s.sub s.free⟩
/-- what a call that leaves all as it was leaves -/
theorem Sees.same {P : Pl} {G H H' : Hp} (s : Sees P G H) (h : Same H H') : Sees P G H' := by
  obtain ⟨n, c, e⟩ := s.pool
  exact ⟨⟨n, c, h _ _ e⟩, s.cell, s.few, s.free, s.sub.trans h⟩
end RM
namespace RM
open PySem PySem.Spec PyProof.Rows L2
/-! ### own classes: the operators that the text defines -/
section
variable {X : Cx} {pins : List (Addr × Obj)} {σ : L2.St} {H : Hp} {s : Shared} {n : Nat} {A : Around} {f C : Addr} {fd : FuncData} {ps : List Str} {sp : Sp}
/-- a def run somewhere below the body -/
theorem run_at {E' : Value → Shared → Prop} (sb : Sub X n A) (F : FnOk X.prog X.w X.K X.mg X.base CX0 n f fd ps sp) (hb : Binds X.K fd ps []) (I : Inv X pins σ H s) {us : List Value} {vs : List V} {Q : VK} (r : Vals vs us) (h : sp vs H Q E0) :
    wpAny (model X.prog X.w) A (call (.ref f) us) (EP X pins σ Q) E' s := by
  have e0 : Env0 X.prog X.w X.K X.mg X.base A X.stack s H := by
    have e := I.env0
    exact ⟨by rw [sb.fr]; exact e.frames, e.mod, e.bs, e.bsz, e.funs, e.frf, e.hok, e.bare⟩
  have hl := F.len _ _ _ _ h
  have hl2 : (us ++ ([] : List Value)).length = ps.length := by rw [List.append_nil, ← r.length]; exact hl
  have bt := hb s us I.kIn hl2
  rw [List.append_nil] at bt
  refine wpAny_call (codeAny_mono (F.run A X.stack s H ⟨us, []⟩ us vs Q E0 sb.room e0 bt r h) fun r s' hq => ?_)
  cases r with
  | error e => exact False.elim hq
  | ok fl =>
    cases fl with
    | ret u => exact I.after hq
    | next => exact False.elim hq
    | brk => exact False.elim hq
    | cont => exact False.elim hq
/-- a class's method by a special name -/
structure Spc (P : Program) (w : World) (K : PySem.W.Frag) (mg : Str → Option Value) (base : Heap) (n : Nat) (C : Addr) (nm : Str) (sp : Sp) : Prop where
  ex : ∃ (f : Addr) (fd : FuncData) (ps : List Str), PySem.W.findIn K (.ref C) nm = some (some (.ref f)) ∧ PySem.W.isFn K (.ref f) = true ∧ FnOk P w K mg base CX0 n f fd ps sp ∧ Binds K fd ps []
theorem inst_of {a dx : Addr} {fs : List (Str × V)} (I : Inv X pins σ H s) (ha : H a = some (.ins C dx fs)) : ∃ od, PySem.W.InstAt s.heap a (PySem.W.instObj C dx) C (some od) := by
  obtain ⟨mA, J, _⟩ := ins_get I.hok ha
  obtain ⟨od, J, _⟩ := J.look
  exact ⟨od, J⟩
/-- len(o) -/
def rLenOwn (C : Addr) (sp : Sp) : List V → Hp → VK → Prop := fun xs H Q => ∃ a dx fs, xs = [.ref a] ∧ H a = some (.ins C dx fs) ∧ sp [.ref a] H (fun v H' => ∃ k : Int, v = .int k ∧ 0 ≤ k ∧ k < 100000 ∧ Q (.int k) H') E0
theorem call_lenOwn (S : Spc X.prog X.w X.K X.mg X.base n C "__len__" sp) (hr : Room (n + 1) X.A) : CallR X (.builtin "len") (rLenOwn C sp) := by
  obtain ⟨f, fd, ps, hs, hf, F, hb⟩ := S.ex
  intro pins s σ H xs us Q I r h
  obtain ⟨a, dx, fs, rfl, ha, h⟩ := h
  obtain ⟨u, rfl, ru⟩ := r.one
  cases ru
  obtain ⟨od, J⟩ := inst_of I ha
  obtain ⟨m, hF⟩ := I.fr
  refine PySem.W.len_K hF I.ok.mod.kin J hs hf ?_
  refine wpAny_mono (run_at (us := [.ref a]) (vs := [.ref a]) (Sub.in1 ⟨hr, rfl⟩) F hb I (.cons rfl .nil) h) (fun v s' hv => ?_) fun _ _ e => e
  obtain ⟨x, H', I', rx, k, rfl, h0, h1, q⟩ := hv
  obtain ⟨t, rfl⟩ := rx
  refine ⟨⟨h0, by omega⟩, .int k, H', I'.tok _, ⟨_, rfl⟩, q⟩
/-- x in o, x not in o -/
def rInOwn (C : Addr) (sp : Sp) (neg : Bool) : R2 := fun x y H Q => ∃ a dx fs, y = .ref a ∧ H a = some (.ins C dx fs) ∧ sp [.ref a, x] H (fun v H' => ∃ k : Bool, v = .bl k ∧ Q (.bl (if neg then !k else k)) H') E0
theorem op_inOwn (S : Spc X.prog X.w X.K X.mg X.base n C "__contains__" sp) (hr : Room n X.A) : OpR X (compareOp .In) (rInOwn C sp false) := by
  obtain ⟨f, fd, ps, hs, hf, F, hb⟩ := S.ex
  intro pins s σ H x y v u Q I rx ry h
  obtain ⟨a, dx, fs, rfl, ha, h⟩ := h
  cases ry
  obtain ⟨od, J⟩ := inst_of I ha
  obtain ⟨m, hF⟩ := I.fr
  refine PySem.W.in_K hF I.ok.mod.kin J hs hf ?_
  refine wpAny_mono (run_at (us := [.ref a, v]) (vs := [.ref a, x]) ⟨hr, rfl⟩ F hb I (.cons rfl (.cons rx .nil)) h) (fun v s' hv => ?_) fun _ _ e => e
  obtain ⟨z, H', I', rz, k, rfl, q⟩ := hv
  cases rz
  exact wpAny_truthy_bool ⟨.bl k, H', I', rfl, q⟩
theorem op_notInOwn (S : Spc X.prog X.w X.K X.mg X.base n C "__contains__" sp) (hr : Room n X.A) : OpR X (compareOp .NotIn) (rInOwn C sp true) := by
  obtain ⟨f, fd, ps, hs, hf, F, hb⟩ := S.ex
  intro pins s σ H x y v u Q I rx ry h
  obtain ⟨a, dx, fs, rfl, ha, h⟩ := h
  cases ry
  obtain ⟨od, J⟩ := inst_of I ha
  obtain ⟨m, hF⟩ := I.fr
  refine PySem.W.notIn_K hF I.ok.mod.kin J hs hf ?_
  refine wpAny_mono (run_at (us := [.ref a, v]) (vs := [.ref a, x]) ⟨hr, rfl⟩ F hb I (.cons rfl (.cons rx .nil)) h) (fun v s' hv => ?_) fun _ _ e => e
  obtain ⟨z, H', I', rz, k, rfl, q⟩ := hv
  cases rz
  exact wpAny_truthy_bool ⟨.bl (!k), H', I', rfl, q⟩
/-- o == p, two instances of one class -/
def rEqOwn (C : Addr) (sp : Sp) : R2 := fun x y H Q => ∃ a dx fs b dy gs, x = .ref a ∧ H a = some (.ins C dx fs) ∧ y = .ref b ∧ H b = some (.ins C dy gs) ∧ sp [.ref a, .ref b] H (fun v H' => ∃ k : Bool, v = .bl k ∧ Q (.bl k) H') E0
theorem op_eqOwn (S : Spc X.prog X.w X.K X.mg X.base n C "__eq__" sp) (hr : Room n X.A) : OpR X (compareOp .Eq) (rEqOwn C sp) := by
  obtain ⟨f, fd, ps, hs, hf, F, hb⟩ := S.ex
  intro pins s σ H x y v u Q I rx ry h
  obtain ⟨a, dx, fs, b, dy, gs, rfl, ha, rfl, hb', h⟩ := h
  cases rx
  cases ry
  obtain ⟨od, J⟩ := inst_of I ha
  obtain ⟨od', J'⟩ := inst_of I hb'
  obtain ⟨m, hF⟩ := I.fr
  show wpAny (model X.prog X.w) X.A (richCompare .Eq (.ref a) (.ref b)) (EP X pins σ Q) X.xe s
  refine PySem.W.cmp_K (op := .Eq) (tb := .ref C) hr.units0 hF I.ok.mod.kin J J'.type (by simp [PySem.W.notFirst]) hs hf ?_
  refine wpAny_mono (run_at (us := [.ref a, .ref b]) (vs := [.ref a, .ref b]) ⟨hr, rfl⟩ F hb I (.cons rfl (.cons rfl .nil)) h) (fun v s' hv => ?_) fun _ _ e => e
  obtain ⟨z, H', I', rz, k, rfl, q⟩ := hv
  cases rz
  exact ⟨.bl k, H', I', rfl, q⟩
end
end RM
namespace RM
open PySem PySem.Spec PyProof.Rows L2
/-! ### list(o), o of an own class whose __iter__ hands out a list's iterator and that has a __len__ -/
/-- at it an iterator over the list at l, the next place is i (its object left open) -/
def ItS (l it : Addr) (i : Nat) : HO := .ext fun h => h.IsListIter it l i
section
variable {X : Cx} {pins : List (Addr × Obj)} {σ : L2.St} {H : Hp} {s : Shared} {n : Nat} {A : Around} {f C l it q : Addr} {fd : FuncData} {ps : List Str} {sp : Sp} {i : Nat}
theorem itS_ok {P : Program} {w : World} {h : Heap} (e : h.IsListIter it l i) : ObjOk P w H h it (ItS l it i) := by
  obtain ⟨o, ho, hr⟩ := id e
  refine ⟨e, ⟨o, ho⟩, fun h1 h2 x k => ?_⟩
  obtain ⟨o1, ho1, hr1⟩ := x
  exact ⟨o1, k _ ho1, hr1⟩
theorem itS_get (I : Inv X pins σ H s) (e : H it = some (ItS l it i)) : s.heap.IsListIter it l i := (I.hok it _ e).1
theorem endit {Q : Option Value → Shared → Prop} {items : Array Value} {E : Value → Shared → Prop} {prog : Program} {w : World} (hh : A.handled = none) (hit : s.heap.IsListIter it l i) (hl : s.heap.IsList l items) (hx : items[i]? = none)
    (hQ : ∀ h', (∃ o, h'.get? it = some o) → (∀ b o, b ≠ it → s.heap.get? b = some o → h'.get? b = some o) → Q none { s with heap := h' }) : wpAny (model prog w) A (pyNext (.ref it)) Q E s := by
  obtain ⟨o, ho, hc, hd⟩ := id hit
  obtain ⟨ol, hol, _, nl, hdl⟩ := hl
  unfold pyNext
  refine wpAny_bind (wpAny_attempt (wpAny_callSpecial?_slot (name := Str.ofString "__next__") hit.typeIs slot_listiter_next
    (wpAny_call_entry slot_listiter_next hit.typeIs entry_listiter_next ?_ (args_listiter_next _))))
  show wpAny _ _ (field (.ref it) 0 >>= _) _ _ s
  refine wpAny_bind (wpAny_field ho hd (x := .ref l) rfl ?_)
  show wpAny _ _ (if (Value.ref l == Value.none) = true then _ else _) _ _ s
  rw [if_neg (show ¬ ((Value.ref l == Value.none) = true) from Bool.false_ne_true)]
  show wpAny _ _ (field (.ref it) 1 >>= _) _ _ s
  refine wpAny_bind (wpAny_field ho hd (x := .int i 0) rfl ?_)
  show wpAny _ _ (seqItems? (.ref l) >>= _) _ _ s
  refine wpAny_bind (wpAny_seqItems hol hdl ?_)
  simp only [Int.toNat_natCast, hx]
  refine wpAny_bind (wpAny_rule (wpAny_bind (wpAny_setField ho hd (by simp) ?_)))
  show wpAny _ _ (newExc (.type "StopIteration") [] >>= _) _ _ _
  refine wpAny_bind ?_
  simp only [newExc, newTuple]
  refine wpAny_bind (wpAny_newObj_type ?_ (by size_fits))
  refine wpAny_bind (m := firstArgMember _ _) (wpAny_of_eq (a := Value.none) (by first | rfl | (simp only [firstArgMember]; rfl)) ?_)
  refine wpAny_newObj_type ?_ (by size_fits)
  simp only [raiseNew]
  refine wpAny_bind (wpAny_handled ?_)
  rw [show A.in1.handled = none from hh]
  refine wpAny_bind (wpAny_pure (wpAny_throw ?_))
  refine wpAny_bind (wpAny_isInstance (T := "StopIteration") (b := true) ⟨_, Heap.get?_push_size _ rfl, rfl⟩ isSubtype_stop ?_)
  have nf : (Obj.mapFields (fun x => x.setIfInBounds 0 Value.none) o).isFreed = false := by
    obtain ⟨oc, od, dt, sl⟩ := o
    simp only at hc hd
    subst hc hd
    rfl
  refine wpAny_pure (hQ _ ⟨_, Heap.get?_push_of_some _ (Heap.get?_push_of_some _ (Heap.get?_update_self _ ho nf))⟩ fun b o hb e => Heap.get?_push_of_some _ (Heap.get?_push_of_some _ ?_))
  exact (Heap.get?_update_other _ _ (Ne.symm hb)).trans e
/-- the loop that fills the list at q from the iterator at it -/
theorem it_loop {zs : List V} {Rs : Result → Shared → Prop} (hh : A.in1.handled = none) (hz : zs.length < 100000) (hlq : l ≠ q) (hli : l ≠ it) (hiq : it ≠ q)
    (hdone : ∀ H' s', Inv X pins σ H' s' → (∀ b o, b ≠ it → b ≠ q → H b = some o → H' b = some o) → H' q = some (.lst zs) → Rs (.ok (.ret .none)) s') :
    ∀ (m i : Nat) (H' : Hp) (s : Shared), zs.length - i = m → i ≤ zs.length → Inv X pins σ H' s → (∀ b o, b ≠ it → b ≠ q → H b = some o → H' b = some o) → SqL X.K H' l zs → H' it = some (ItS l it i) → H' q = some (.lst (zs.take i)) →
      codeAny (model X.prog X.w) A (.builtin "list.extend.loop" ⟨[.ref q, .ref it, .none], []⟩) Rs s := by
  intro m
  induction m with
  | zero =>
    intro i H' s hm hi I hk hl hI hq
    have ei : i = zs.length := by omega
    refine codeAny_builtin PySem.F.entry_extend_loop ?_
    rw [Around.under_plainId PySem.F.plain_extend_loop _]
    show wpAny _ A.in1 (pyNext (.ref it) >>= _) _ _ s
    obtain ⟨its, rv, pl, _⟩ := I.list hl
    refine wpAny_bind (endit hh (itS_get I hI) pl.isList (by rw [List.getElem?_toArray]; exact List.getElem?_eq_none (by rw [← rv.length]; omega)) fun h' he hk' => ?_)
    refine wpAny_pure ?_
    obtain ⟨oe, heo⟩ := he
    have mu : Mut (H' it) := by rw [hI]; exact True.intro
    have ok2 : ObjOk X.prog X.w (upd H' it (.ext fun h => ∃ o, h.get? it = some o)) h' it (.ext fun h => ∃ o, h.get? it = some o) := ⟨⟨oe, heo⟩, ⟨oe, heo⟩, fun h1 h2 ⟨o, x⟩ k => ⟨o, k _ x⟩⟩
    have I2 := I.write (x := it) (e := it) (t' := s.toks) mu (.inl rfl) (fun b u hb e => hk' b u hb e) ⟨oe, heo⟩ ok2
    refine hdone _ _ I2 (fun b o h1 h2 e => by rw [upd_ne h1]; exact hk b o h1 h2 e) ?_
    rw [upd_ne (Ne.symm hiq), hq, ei, List.take_length]
  | succ m ih =>
    intro i H' s hm hi I hk hl hI hq
    have hlt : i < zs.length := by omega
    refine codeAny_builtin PySem.F.entry_extend_loop ?_
    rw [Around.under_plainId PySem.F.plain_extend_loop _]
    show wpAny _ A.in1 (pyNext (.ref it) >>= _) _ _ s
    obtain ⟨its, rv, pl, _⟩ := I.list hl
    obtain ⟨u, hu, ru⟩ := rv.get (List.getElem?_eq_getElem hlt)
    refine wpAny_bind (wpAny_pyNext_list_item (itS_get I hI) pl.isList (x := u) (by rw [List.getElem?_toArray]; exact hu) fun h' st sb => ?_)
    have mu : Mut (H' it) := by rw [hI]; exact True.intro
    obtain ⟨oe, heo, hoe⟩ := id st
    have I2 := I.write (x := it) (e := it) (t' := s.toks) mu (.inl rfl) (fun b o hb e => (sb.2 b hb).trans e) ⟨oe, heo⟩ (itS_ok (H := upd H' it (ItS l it (i + 1))) (P := X.prog) (w := X.w) st)
    have hq2 : upd H' it (ItS l it (i + 1)) q = some (.lst (zs.take i)) := by rw [upd_ne (Ne.symm hiq)]; exact hq
    show wpAny _ A.in1 (updateSeq q (·.push u) >>= _) _ _ _
    obtain ⟨z, its2, k2, r2, hl2, e2⟩ := I2.lstM hq2
    have hz2 : its2.length = i := by rw [← hl2, List.length_take]; omega
    refine wpAny_bind (wpAny_updateSeq e2 rfl (wpAny_pure ⟨plainId_quiet PySem.F.plain_extend_loop _, ?_⟩) (by rw [List.size_toArray, hz2]; exact Nat.le_trans (Nat.le_of_lt hlt) (szl (by omega))) (by show (its2.toArray.push u).size ≤ sizeLine + 1; rw [Array.size_push, List.size_toArray, hz2]; exact Nat.succ_le_succ (szl (by omega))))
    have I3 := I2.lset (f := (·.push u)) (its' := its2 ++ [u]) (ys := zs.take i ++ [zs[i]]) (t' := s.toks) hq2 e2 (by simp) (r2.append (.cons ru .nil)) (by rw [List.length_append, List.length_take]; exact szl (by show _ + 1 ≤ _; omega))
    refine ih (i + 1) _ _ (by omega) hlt I3 (fun b o h1 h2 e => by rw [upd_ne h2, upd_ne h1]; exact hk b o h1 h2 e) ?_ ?_ ?_
    · have e1 : upd (upd H' it (ItS l it (i + 1))) q (.lst (zs.take i ++ [zs[i]])) l = H' l := by rw [upd_ne hlq, upd_ne hli]
      unfold SqL Rd at hl ⊢
      simp only [e1]
      exact hl
    · rw [upd_ne hiq]; exact upd_same
    · rw [List.take_append_getElem]; exact upd_same
/-- list(o) -/
def rListOwn (K : PySem.W.Frag) (C : Addr) (spI spL : Sp) : List V → Hp → VK → Prop := fun xs H Q => ∃ a dx fs, xs = [.ref a] ∧ H a = some (.ins C dx fs) ∧ ∀ q, H q = none →
  spI [.ref a] (upd H q (.lst [])) (fun v H1 => ∃ it l zs, v = .ref it ∧ H1 it = some (ItO l it 0) ∧ SqL K H1 l zs ∧ zs.length < 100000 ∧ l ≠ q ∧ l ≠ it ∧ it ≠ q ∧ H1 q = some (.lst []) ∧ H1 a = some (.ins C dx fs) ∧
    spL [.ref a] H1 (fun v2 H2 => ∃ k : Int, v2 = .int k ∧ 0 ≤ k ∧ k < 100000 ∧ H2 = H1 ∧ ∀ H3, (∀ b o, b ≠ it → b ≠ q → H1 b = some o → H3 b = some o) → H3 q = some (.lst zs) → Q (.ref q) H3) E0) E0
theorem call_listIt {spI spL : Sp} (SI : Spc X.prog X.w X.K X.mg X.base n C "__iter__" spI) (SL : Spc X.prog X.w X.K X.mg X.base n C "__len__" spL) (hr : Room (n + 3) X.A) : CallR X (.type "list") (rListOwn X.K C spI spL) := by
  obtain ⟨fI, fdI, psI, hsI, hfI, FI, bI⟩ := SI.ex
  obtain ⟨fL, fdL, psL, hsL, hfL, FL, bL⟩ := SL.ex
  intro pins s σ H xs us Q I rv h
  obtain ⟨a, dx, fs, rfl, ha, h⟩ := h
  obtain ⟨u, rfl, ru⟩ := rv.one
  cases ru
  have sb : Sub X (n + 1) X.A.in1.in1 := Sub.in1 (Sub.in1 (⟨hr, rfl⟩ : Sub X (n + 3) X.A))
  refine callType_codes (Q₁ := fun obj s₁ => obj = .ref s.heap.objs.size ∧ s₁ = { s with heap := s.heap.push { cls := .type "list", data := .seq #[] } }) PySem.F.called_list (PySem.F.typeCall_list_1 _) PySem.F.entry_list_init
    (code_list_new _ ⟨rfl, rfl⟩) fun obj s₁ h₁ => ?_
  obtain ⟨rfl, rfl⟩ := h₁
  have hS : (s.heap.push { cls := .type "list", data := .seq #[] }).get? s.heap.objs.size = some { cls := .type "list", data := .seq #[] } := Heap.get?_push_size _ rfl
  refine ⟨⟨_, hS, rfl⟩, PySem.F.args_list_init_2 _ _, ?_⟩
  have fr : H s.heap.objs.size = none := I.hok.fresh (Nat.le_refl _)
  have h := h _ fr
  generalize hqe : s.heap.objs.size = q at *
  have I1 : Inv X pins σ (upd H q (.lst [])) { s with heap := s.heap.push { cls := .type "list", data := .seq #[] } } := by
    have z := I.lnew (its := []) (ys := []) (t' := s.toks) .nil (Nat.zero_le _)
    rw [hqe] at z
    exact z
  show wpAny _ _ (do let old ← Builtin.List.listItems (.ref q); Builtin.List.listUpdate (.ref q) (fun _ => #[]); letGo old.toList.reverse; Builtin.List.listExtendWith (.ref q) (.ref a) .none) _ _ _
  refine wpAny_bind ?_
  unfold Builtin.List.listItems
  refine wpAny_bind (wpAny_seqItems hS rfl (wpAny_pure ?_))
  show wpAny _ _ (updateSeq q (fun _ => #[]) >>= fun _ => letGo (#[] : Array Value).toList.reverse >>= fun _ => Builtin.List.listExtendWith (.ref q) (.ref a) .none) _ _ _
  refine wpAny_bind (wpAny_updateSeq hS rfl ?_)
  have I2 := I1.lset (f := fun _ => #[]) (its := []) (its' := []) (ys := []) (t' := s.toks) upd_same hS rfl .nil (Nat.zero_le _)
  rw [upd_upd] at I2
  refine wpAny_bind (wpAny_letGo ?_)
  have ha2 : upd H q (.lst []) a = some (.ins C dx fs) := by rw [upd_ne (ne_of_none ha fr)]; exact ha
  have hne : q ≠ a := ne_of (H := upd H q (.lst [])) upd_same ha2 (fun z => nomatch z)
  obtain ⟨od, J⟩ := inst_of I2 ha2
  obtain ⟨m0, hF⟩ := I2.fr
  show wpAny _ X.A.in1.in1 (Builtin.List.listExtendWith (.ref q) (.ref a) .none) _ _ _
  unfold Builtin.List.listExtendWith
  refine wpAny_bind (J.type.here ?_)
  have h1 : Builtin.List.listSameRef (.ref q) (.ref a) = false := by simp [Builtin.List.listSameRef, hne]
  have h2 : (Value.ref C == Value.type "list") = false := rfl
  have h3 : (Value.ref C == Value.type "tuple") = false := rfl
  simp only [h1, h2, h3, Bool.or_false, Bool.false_eq_true, if_false]
  refine wpAny_bind (PySem.W.owit_iter hF I2.ok.mod.kin J hsI hfI ?_)
  refine wpAny_mono (run_at (us := [.ref a]) (vs := [.ref a]) (sb.mono (Nat.le_succ _)) FI bI I2 (.cons rfl .nil) h) (fun u s' hu => ?_) (fun _ _ e => e)
  obtain ⟨v, H1, I3, rv3, it, l, zs, rfl, hit, hlz, hz, n1, n2, n3, hq1, ha3, hL⟩ := hu
  cases rv3
  have ito := itO_get I3 hit
  have hT : s'.TypeIs (.ref it) "list_iterator" := ⟨_, ito, rfl⟩
  unfold PySem.W.OwitIt
  show wpAny _ _ (typeOf (.ref it) >>= fun t => typeLookup t "__next__") _ _ _
  refine wpAny_bind (wpAny_typeOf hT (wpAny_of_eq slot_listiter_next.lookup ?_))
  show wpAny _ _ _ _ _ _
  obtain ⟨od', J'⟩ := inst_of I3 ha3
  obtain ⟨m1, hF'⟩ := I3.fr
  refine wpAny_bind (wpAny_holding ?_)
  unfold Builtin.List.listLengthHint
  refine wpAny_bind (wpAny_bind (J'.type.here ((PySem.W.looks_findIn I3.kIn hsL).here ?_)))
  refine PySem.W.KFB.if_not rfl ?_
  refine PySem.W.KFB.if_so rfl ?_
  refine wpAny_bind (wpAny_rule (wpAny_bind (wpAny_attempt ?_)))
  refine PySem.W.len_K hF' I3.ok.mod.kin J' hsL hfL ?_
  refine wpAny_mono (run_at (E' := fun _ _ => False) (us := [.ref a]) (vs := [.ref a]) sb.in1 FL bL I3 (.cons rfl .nil) hL) (fun u s2 hu => ?_) fun _ _ e => e.elim
  obtain ⟨v2, H2, I4, rv4, k, rfl, k0, k1, e2, hend⟩ := hu
  obtain ⟨tk, rfl⟩ := rv4
  subst e2
  refine ⟨⟨k0, by omega⟩, ?_⟩
  have I5 := I4.tok (s2.toks + 1)
  refine wpAny_bind (wpAny_of_eq (a := some k) rfl ?_)
  refine PySem.W.KFB.if_not (notLongL (szl (by omega))) ?_
  refine wpAny_pure ?_
  have st := itS_ok (H := upd H2 it (ItS l it 0)) (P := X.prog) (w := X.w) (i := 0) (⟨_, itO_get I5 hit, rfl, rfl⟩ : Heap.IsListIter _ it l 0)
  have mu : Mut (H2 it) := by rw [hit]; exact True.intro
  have I6 := I5.write (x := it) (e := it) (t' := s2.toks + 1) mu (.inl rfl) (fun _ _ _ e => e) ⟨_, itO_get I5 hit⟩ st
  have fin : ∀ (t' : Nat) (s3 : Shared), Inv X pins σ (upd H2 it (ItS l it 0)) s3 → codeAny (model X.prog X.w) X.A.in1 (.builtin "list.extend.loop" ⟨[.ref q, .ref it, .none], []⟩) (wants (fun r s₂ => r = .none ∧ EP X pins σ Q (.ref q) s₂) X.xe) s3 := fun t' s3 I7 => by
    have kk : ∀ b o, b ≠ it → b ≠ q → H2 b = some o → upd H2 it (ItS l it 0) b = some o := fun b o h1 _ e => by rw [upd_ne h1]; exact e
    refine it_loop (A := X.A.in1) (H := H2) (zs := zs) (hr.hd) hz n1 n2 n3 (fun H3 s4 I8 hk3 hq3 => ⟨rfl, .ref q, H3, I8, rfl, hend H3 hk3 hq3⟩) zs.length 0 _ s3 rfl (Nat.zero_le _) I7 kk ?_ upd_same ?_
    · have e1 : upd H2 it (ItS l it 0) l = H2 l := upd_ne n2
      unfold SqL Rd at hlz ⊢
      simp only [e1]
      exact hlz
    · rw [upd_ne (Ne.symm n3)]; exact hq1
  refine wpAny_ite_split (fun _ => ?_) (fun _ => wpAny_pure ⟨plainId_quiet PySem.F.plain_extend_loop _, fin 0 _ I6⟩)
  have hq6 : upd H2 it (ItS l it 0) q = some (.lst []) := by rw [upd_ne (Ne.symm n3)]; exact hq1
  obtain ⟨z, its, k3, r3, hl3, e3⟩ := I6.lstM hq6
  cases r3
  refine wpAny_bind (wpAny_rule ?_)
  refine wpAny_bind ?_
  show wpAny _ _ (updateSeq q (·.push .none) >>= fun _ => updateSeq q (·.pop)) _ _ _
  refine wpAny_bind (wpAny_updateSeq e3 rfl ?_)
  have I7 := I6.lset (f := (·.push Value.none)) (its' := [Value.none]) (ys := [.non]) (t' := s2.toks + 1) hq6 e3 (by simp) (.cons rfl .nil) (by rw [List.length_singleton, sizeLine_eq]; decide)
  obtain ⟨z4, its4, k4, r4, hl4, e4⟩ := I7.lstM upd_same
  obtain ⟨u4, rfl, ru4⟩ := r4.one
  refine wpAny_updateSeq e4 rfl ?_ (by show 1 ≤ sizeLine; rw [sizeLine_eq]; decide) (by show 0 ≤ sizeLine + 1; exact Nat.zero_le _)
  refine wpAny_pure ⟨plainId_quiet PySem.F.plain_extend_loop _, fin 0 _ ?_⟩
  have I8 := I7.lset (f := (·.pop)) (its := [u4]) (its' := []) (ys := []) (t' := s2.toks + 1) upd_same e4 (by rfl) .nil (Nat.zero_le _)
  rw [upd_upd] at I8
  have hH : upd (upd H2 it (ItS l it 0)) q (.lst []) = upd H2 it (ItS l it 0) := by
    funext b
    by_cases hb : b = q
    · rw [hb, upd_same, hq6]
    · rw [upd_ne hb]
  rw [hH] at I8
  exact I8
end
end RM
namespace RM
open PySem PySem.Spec PyProof.Rows L2
/-! ### attributes, properties, class values: readings that ask nothing of the written part -/
section
variable {X : Cx} {C : Addr} {o e value : Expr} {f : Str} {pos pos' : Pos} {ta tv : TE}
theorem pe_imp {t t' : TE} (h : PE X e t) (k : ∀ σ H Q, t' σ H Q → t σ H Q) : PE X e t' := ⟨fun pins s σ H Q I q => h.run pins s σ H Q I (k σ H Q q)⟩
def tFldC (C : Addr) (ta : TE) (f : Str) : TE := fun σ H Q => ta σ H fun x H1 => ∃ a dx fs v, x = .ref a ∧ H1 a = some (.ins C dx fs) ∧ fs.lookup f = some v ∧ Q v H1
def sFldC (C : Addr) (ta tv : TE) (f : Str) : TS := fun D σ H => tv σ H fun y H1 => ta σ H1 fun x H2 => ∃ a dx fs, x = .ref a ∧ H2 a = some (.ins C dx fs) ∧ fs.length < 1000 ∧ D.nx σ (upd H2 a (.ins C dx (putF f y fs)))
theorem pe_fldC (c : Cls X.K C) (n : NoAttr X.K C f) (he : PE X e ta) (hb : attributeBase e f X.env (eval e X.env) = eval e X.env := by rfl) : PE X (.Attribute e f pos) (tFldC C ta f) := by
  refine ⟨fun pins s σ H Q I h => ?_⟩
  refine attr_of hb (thn (he.run pins s σ H _ I h) fun u s1 hu => ?_)
  obtain ⟨x, H1, I1, rx, a, dx, fs, v, ex, ea, l, q⟩ := hu
  subst ex
  obtain rfl : u = Value.ref a := rx
  exact getattr_ok I1 ea c n l fun u' s2 I2 ru => ⟨v, H1, I2, ru, q⟩
theorem ps_fldC (c : Cls X.K C) (n : NoAttr X.K C f) (ha : PE X o ta) (hv : PE X value tv) (hs : swapsWith value (some (.Attribute o f pos')) pos.line X.env = pure false := by rfl) : PS X (.Assign [.Attribute o f pos'] value pos) (sFldC C ta tv f) := by
  refine ⟨fun pins s σ H D I h => ?_⟩
  refine plainObj_wpAny_Assign_Attribute (thn (hv.run pins s σ H _ I h) fun u s1 hu => ?_) hs
  obtain ⟨y, H1, I1, ry, q⟩ := hu
  refine thn (ha.run pins s1 σ H1 _ I1 q) fun ov s2 ho => ?_
  obtain ⟨x, H2, I2, rx, a, dx, fs, ex, ea, l, q2⟩ := ho
  subst ex
  obtain rfl : ov = Value.ref a := rx
  exact setattr_ok I2 ea c n l ry fun s3 I3 => ⟨σ, _, I3, q2⟩
/-- a class's name as a value; an int that stands in the class -/
theorem pe_clsv {x : Str} (hg : Gl X x) (hm : X.mg x = some (.ref C)) (hd : (x == ("__debug__" : Str)) = false := by decide) : PE X (.Name x pos) (tC (.ref C)) := pe_glob hg hm rfl hd
theorem pe_cint {x : Str} {i : Int} {p : Pos} (hg : Gl X x) (hm : X.mg x = some (.ref C)) (r : ClX.CRead X.K C (.type "type")) (k : ∃ u, ClX.CVal X.K C (.type "type") f (.int i) u) (hd : (x == ("__debug__" : Str)) = false := by decide)
    (hb : attributeBase (.Name x p) f X.env (eval (.Name x p) X.env) = eval (.Name x p) X.env := by rfl) : PE X (.Attribute (.Name x p) f pos) (tC (.int i)) :=
  pe_imp (ClX.pe_cval (pe_clsv hg hm hd) hb) fun σ H Q q => by
    obtain ⟨u, k⟩ := k
    exact ⟨C, .type "type", .int i, u, rfl, r, k, q⟩
/-- a property of the class, read -/
structure Prp (P : Program) (w : World) (K : PySem.W.Frag) (mg : Str → Option Value) (base : Heap) (k : Nat) (C : Addr) (f : Str) (sp : Sp) : Prop where
  ex : ∃ (p g : Addr) (fd : FuncData) (ps : List Str), PropOf K C f p g ∧ FnOk P w K mg base CX0 k g fd ps sp ∧ Binds K fd ps []
theorem pe_prp {k j : Nat} {sp : Sp} (c : Cls X.K C) (p : Prp X.prog X.w X.K X.mg X.base k C f sp) (hr : Room j X.A) (hk : k + 1 ≤ j) (he : PE X e ta) (hab : attributeBase e f X.env (eval e X.env) = eval e X.env := by rfl) :
    PE X (.Attribute e f pos) (tProp C sp [] E0 ta) := by
  obtain ⟨pa, g, fd, ps, hp, F, hb⟩ := p.ex
  exact pe_prop he c hp F (hr.mono hk) hb .nil (fun _ _ _ _ _ _ _ h => h.elim) hab
end
/-! ### isinstance against built-in types and one own class -/
section
variable {X : Cx} {K : PySem.W.Frag} {H : Hp} {Q : VK}
def rIsC (C : Addr) : List V → Hp → VK → Prop := fun xs H Q => ∃ a dx fs, xs = [.ref a, .ref C] ∧ H a = some (.ins C dx fs) ∧ Q (.bl true) H
theorem callIsC {C : Addr} (c : C8.InsC X.K C) : CallR X (.builtin "isinstance") (rIsC C) := C8.call_isC c
theorem isi_of {x : V} {a b : String} {r : Bool} (ty : TyOf K H x (.type a)) (h : kitB a b = some r) (q : Q (.bl r) H) : rIsi K [x, .ty b] H Q := wp_isi (.base ty) (kit_ty h) q
theorem is_non_int (q : Q (.bl false) H) : rIsi K [.non, .ty "int"] H Q := isi_of (.non) (by decide +kernel) q
theorem is_non_bool (q : Q (.bl false) H) : rIsi K [.non, .ty "bool"] H Q := isi_of (.non) (by decide +kernel) q
theorem is_non_str (q : Q (.bl false) H) : rIsi K [.non, .ty "str"] H Q := isi_of (.non) (by decide +kernel) q
theorem is_non_dict (q : Q (.bl false) H) : rIsi K [.non, .ty "dict"] H Q := isi_of (.non) (by decide +kernel) q
theorem is_non_list (q : Q (.bl false) H) : rIsi K [.non, .ty "list"] H Q := isi_of (.non) (by decide +kernel) q
theorem is_non_tuple (q : Q (.bl false) H) : rIsi K [.non, .ty "tuple"] H Q := isi_of (.non) (by decide +kernel) q
theorem is_bl_int {b : Bool} (q : Q (.bl true) H) : rIsi K [.bl b, .ty "int"] H Q := isi_of (.bl b) (by decide +kernel) q
theorem is_bl_bool {b : Bool} (q : Q (.bl true) H) : rIsi K [.bl b, .ty "bool"] H Q := isi_of (.bl b) (by decide +kernel) q
theorem is_bl_str {b : Bool} (q : Q (.bl false) H) : rIsi K [.bl b, .ty "str"] H Q := isi_of (.bl b) (by decide +kernel) q
theorem is_bl_dict {b : Bool} (q : Q (.bl false) H) : rIsi K [.bl b, .ty "dict"] H Q := isi_of (.bl b) (by decide +kernel) q
theorem is_bl_list {b : Bool} (q : Q (.bl false) H) : rIsi K [.bl b, .ty "list"] H Q := isi_of (.bl b) (by decide +kernel) q
theorem is_bl_tuple {b : Bool} (q : Q (.bl false) H) : rIsi K [.bl b, .ty "tuple"] H Q := isi_of (.bl b) (by decide +kernel) q
theorem is_int_int {i : Int} (q : Q (.bl true) H) : rIsi K [.int i, .ty "int"] H Q := isi_of (.int i) (by decide +kernel) q
theorem is_int_bool {i : Int} (q : Q (.bl false) H) : rIsi K [.int i, .ty "bool"] H Q := isi_of (.int i) (by decide +kernel) q
theorem is_int_str {i : Int} (q : Q (.bl false) H) : rIsi K [.int i, .ty "str"] H Q := isi_of (.int i) (by decide +kernel) q
theorem is_int_dict {i : Int} (q : Q (.bl false) H) : rIsi K [.int i, .ty "dict"] H Q := isi_of (.int i) (by decide +kernel) q
theorem is_int_list {i : Int} (q : Q (.bl false) H) : rIsi K [.int i, .ty "list"] H Q := isi_of (.int i) (by decide +kernel) q
theorem is_int_tuple {i : Int} (q : Q (.bl false) H) : rIsi K [.int i, .ty "tuple"] H Q := isi_of (.int i) (by decide +kernel) q
theorem is_str_int {z : Str} (q : Q (.bl false) H) : rIsi K [.str z, .ty "int"] H Q := isi_of (.str z) (by decide +kernel) q
theorem is_str_bool {z : Str} (q : Q (.bl false) H) : rIsi K [.str z, .ty "bool"] H Q := isi_of (.str z) (by decide +kernel) q
theorem is_str_str {z : Str} (q : Q (.bl true) H) : rIsi K [.str z, .ty "str"] H Q := isi_of (.str z) (by decide +kernel) q
theorem is_str_dict {z : Str} (q : Q (.bl false) H) : rIsi K [.str z, .ty "dict"] H Q := isi_of (.str z) (by decide +kernel) q
theorem is_str_list {z : Str} (q : Q (.bl false) H) : rIsi K [.str z, .ty "list"] H Q := isi_of (.str z) (by decide +kernel) q
theorem is_str_tuple {z : Str} (q : Q (.bl false) H) : rIsi K [.str z, .ty "tuple"] H Q := isi_of (.str z) (by decide +kernel) q
theorem is_lst_int {a : Addr} {xs : List V} (e : H a = some (.lst xs)) (q : Q (.bl false) H) : rIsi K [.ref a, .ty "int"] H Q := isi_of (.lst e) (by decide +kernel) q
theorem is_lst_bool {a : Addr} {xs : List V} (e : H a = some (.lst xs)) (q : Q (.bl false) H) : rIsi K [.ref a, .ty "bool"] H Q := isi_of (.lst e) (by decide +kernel) q
theorem is_lst_str {a : Addr} {xs : List V} (e : H a = some (.lst xs)) (q : Q (.bl false) H) : rIsi K [.ref a, .ty "str"] H Q := isi_of (.lst e) (by decide +kernel) q
theorem is_lst_dict {a : Addr} {xs : List V} (e : H a = some (.lst xs)) (q : Q (.bl false) H) : rIsi K [.ref a, .ty "dict"] H Q := isi_of (.lst e) (by decide +kernel) q
theorem is_lst_list {a : Addr} {xs : List V} (e : H a = some (.lst xs)) (q : Q (.bl true) H) : rIsi K [.ref a, .ty "list"] H Q := isi_of (.lst e) (by decide +kernel) q
theorem is_lst_tuple {a : Addr} {xs : List V} (e : H a = some (.lst xs)) (q : Q (.bl false) H) : rIsi K [.ref a, .ty "tuple"] H Q := isi_of (.lst e) (by decide +kernel) q
theorem is_tup_int {a : Addr} {xs : List V} (e : H a = some (.tup xs)) (q : Q (.bl false) H) : rIsi K [.ref a, .ty "int"] H Q := isi_of (.tup e) (by decide +kernel) q
theorem is_tup_bool {a : Addr} {xs : List V} (e : H a = some (.tup xs)) (q : Q (.bl false) H) : rIsi K [.ref a, .ty "bool"] H Q := isi_of (.tup e) (by decide +kernel) q
theorem is_tup_str {a : Addr} {xs : List V} (e : H a = some (.tup xs)) (q : Q (.bl false) H) : rIsi K [.ref a, .ty "str"] H Q := isi_of (.tup e) (by decide +kernel) q
theorem is_tup_dict {a : Addr} {xs : List V} (e : H a = some (.tup xs)) (q : Q (.bl false) H) : rIsi K [.ref a, .ty "dict"] H Q := isi_of (.tup e) (by decide +kernel) q
theorem is_tup_list {a : Addr} {xs : List V} (e : H a = some (.tup xs)) (q : Q (.bl false) H) : rIsi K [.ref a, .ty "list"] H Q := isi_of (.tup e) (by decide +kernel) q
theorem is_tup_tuple {a : Addr} {xs : List V} (e : H a = some (.tup xs)) (q : Q (.bl true) H) : rIsi K [.ref a, .ty "tuple"] H Q := isi_of (.tup e) (by decide +kernel) q
theorem is_dK_int {a : Addr} {kvs : List (Key × V)} (e : H a = some (.dK kvs)) (q : Q (.bl false) H) : rIsi K [.ref a, .ty "int"] H Q := isi_of (.dK e) (by decide +kernel) q
theorem is_dK_bool {a : Addr} {kvs : List (Key × V)} (e : H a = some (.dK kvs)) (q : Q (.bl false) H) : rIsi K [.ref a, .ty "bool"] H Q := isi_of (.dK e) (by decide +kernel) q
theorem is_dK_str {a : Addr} {kvs : List (Key × V)} (e : H a = some (.dK kvs)) (q : Q (.bl false) H) : rIsi K [.ref a, .ty "str"] H Q := isi_of (.dK e) (by decide +kernel) q
theorem is_dK_dict {a : Addr} {kvs : List (Key × V)} (e : H a = some (.dK kvs)) (q : Q (.bl true) H) : rIsi K [.ref a, .ty "dict"] H Q := isi_of (.dK e) (by decide +kernel) q
theorem is_dK_list {a : Addr} {kvs : List (Key × V)} (e : H a = some (.dK kvs)) (q : Q (.bl false) H) : rIsi K [.ref a, .ty "list"] H Q := isi_of (.dK e) (by decide +kernel) q
theorem is_dK_tuple {a : Addr} {kvs : List (Key × V)} (e : H a = some (.dK kvs)) (q : Q (.bl false) H) : rIsi K [.ref a, .ty "tuple"] H Q := isi_of (.dK e) (by decide +kernel) q
end
/-! ### what the head tells, by Bools -/
section
open PySem.W
def gAd (K : Frag) (C : Addr) (f : Str) : Addr := match recIn K (He.ma K C f) "property" with
  | some (.ref g :: _) => g
  | _ => 0
def bProp (x f : Str) (K : Frag) : Bool :=
  He.eqO (findIn K (.ref (He.ga K x)) f) (some (some (.ref (He.ma K (He.ga K x) f)))) && (He.eqO (specialIn K (.ref (He.ma K (He.ga K x) f)) "__get__") (some (some (.builtin "property.__get__"))) &&
    (decide (takesIn K (.ref (He.ma K (He.ga K x) f)) = some true) && (match recIn K (He.ma K (He.ga K x) f) "property" with
      | some (.ref _ :: _) => true
      | _ => false)))
theorem bProp_ok {x f : Str} {K : Frag} (h : bProp x f K = true) : PropOf K (He.ga K x) f (He.ma K (He.ga K x) f) (gAd K (He.ga K x) f) := by
  obtain ⟨h1, h⟩ := He.ba h
  obtain ⟨h2, h⟩ := He.ba h
  obtain ⟨h3, h4⟩ := He.ba h
  refine ⟨He.eqO_ok h1, He.eqO_ok h2, of_decide_eq_true h3, ?_⟩
  unfold gAd
  cases e : recIn K (He.ma K (He.ga K x) f) "property" with
  | none => rw [e] at h4; cases h4
  | some l =>
    rw [e] at h4
    cases l with
    | nil => cases h4
    | cons v r =>
      cases v with
      | ref g => exact ⟨r, rfl⟩
      | _ => cases h4
def bRead (x : Str) (K : Frag) : Bool := readsIn K (He.ga K x) (.type "type") && He.eqO (specialIn K (.ref (He.ga K x)) "__getattribute__") (some (some (.builtin "type.__getattribute__")))
theorem bRead_ok {x : Str} {K : Frag} (h : bRead x K = true) : ClX.CRead K (He.ga K x) (.type "type") := by
  obtain ⟨h1, h2⟩ := He.ba h
  exact ⟨h1, He.eqO_ok h2⟩
def bCval (x f : Str) (i : Int) (K : Frag) : Bool := match findCls K (.ref (He.ga K x)) (.type "type") f with
  | some (.val (.int j _)) => decide (j = i)
  | _ => false
theorem bCval_ok {x f : Str} {i : Int} {K : Frag} (h : bCval x f i K = true) : ∃ u, ClX.CVal K (He.ga K x) (.type "type") f (.int i) u := by
  unfold bCval at h
  cases e : findCls K (.ref (He.ga K x)) (.type "type") f with
  | none => rw [e] at h; cases h
  | some c =>
    rw [e] at h
    cases c with
    | val u =>
      cases u with
      | int j t =>
        have ej : j = i := of_decide_eq_true h
        subst ej
        exact ⟨_, e, ⟨t, rfl⟩⟩
      | _ => cases h
    | _ => cases h
def bIns (x : Str) (K : Frag) : Bool := He.eqO (findIn K (.ref (He.ga K x)) "__class__") (some (some (.builtin "object.__class__"))) && (He.eqO (specialIn K (.builtin "object.__class__") "__get__") (some (some (.builtin "getset_descriptor.__get__"))) &&
  (decide (takesIn K (.builtin "object.__class__") = some true) && decide (mroIn K (He.ga K x) (.type "object") = some true)))
theorem bIns_ok {x : Str} {K : Frag} (c : Cls K (He.ga K x)) (h : bIns x K = true) : C8.InsC K (He.ga K x) := by
  obtain ⟨h1, h⟩ := He.ba h
  obtain ⟨h2, h⟩ := He.ba h
  obtain ⟨h3, h4⟩ := He.ba h
  exact ⟨c, He.eqO_ok h1, He.eqO_ok h2, of_decide_eq_true h3, of_decide_eq_true h4, by unfold kitOne; rw [if_pos (by simp)]⟩
/-- a def of the text, by a way to its address -/
structure DX where
  at_ : Frag → Addr
  name : Str
  qual : Str
  params : Arguments
  body : List Stmt
  scope : Scope
  dfl : List He.Dv := []
  kwd : List (Str × He.Dv) := []
def fnX (K : Frag) (a : Addr) : He.FnW := match K.lookup a with
  | some ⟨_, _, .func fd, _⟩ => some (fd.name, fd.qualname, fd.params, fd.body, fd.scope, fd.globals, fd.closure, fd.builtins)
  | _ => none
def DX.val (d : DX) : He.FnW := some (d.name, d.qual, d.params, .stmts d.body, d.scope, mainGlobals, [], builtinsNs)
def DX.ok (K : Frag) (d : DX) : Bool := keepIn K (.ref (d.at_ K)) && (match K.lookup (d.at_ K) with
  | some ⟨_, _, .func fd, _⟩ => codeIn K fd.code d.qual && (He.dflB K fd.defaults (d.dfl.map (He.Dv.v K)) && He.kwdB K fd.kwdefaults (d.kwd.map fun q => (q.1, q.2.v K)))
  | _ => false)
theorem DX.funD {K : Frag} {d : DX} (e : fnX K (d.at_ K) = d.val) (c : d.ok K = true) : ∃ fd, FunD K d.name d.qual d.params d.body d.scope (d.dfl.map (He.Dv.v K)) (d.kwd.map fun q => (q.1, q.2.v K)) (d.at_ K) fd := by
  obtain ⟨kp, c2⟩ := He.ba c
  unfold fnX at e
  split at e
  · rename_i oc od fd osl q
    rw [q] at c2
    obtain ⟨k1, k2⟩ := He.ba c2
    obtain ⟨k3, k4⟩ := He.ba k2
    obtain ⟨n1, n2, n3, n4, n5, n6, n7, n8, n9, n10, n11, n12, n13, n14, n15⟩ := fd
    unfold DX.val at e
    simp only [Option.some.injEq, Prod.mk.injEq] at e
    obtain ⟨h1, h2, h3, h4, h5, h6, h7, h8⟩ := e
    subst h1 h2 h3 h4 h5 h6 h7 h8
    exact ⟨_, ⟨oc, od, n8, n9, n10, n11, n12, n13, n14, osl, rfl, q, k1, He.dflB_ok k3, He.kwdB_ok k4⟩, kp⟩
  · cases e
abbrev AlX : Type := Bool × List He.FnW
def obsX (bs : List (Frag → Bool)) (fa : List He.Fa) (fn : List DX) (K : Frag) : AlX := ((bs.all fun b => b K) && ((fa.all fun f => f.ok K) && fn.all fun d => d.ok K), fn.map fun d => fnX K (d.at_ K))
def valX (fn : List DX) : AlX := (true, fn.map DX.val)
def SaysX (bs : List (Frag → Bool)) (fa : List He.Fa) (fn : List DX) (K : Frag) : Prop := obsX bs fa fn K = valX fn
def obsXG (n : Nat) (bs : List (Frag → Bool)) (fa : List He.Fa) (fn : List DX) (g : Addr → Option Obj) : AlX := obsX bs fa fn (He.frG g (cStatics :: He.asD g n))
def hookX (n : Nat) (bs : List (Frag → Bool)) (fa : List He.Fa) (fn : List DX) : Hook where
  α := AlX
  obs := fun s => obsXG n bs fa fn s.heap.get?
  val := fun _ => valX fn
  says := fun _ h => ∃ K : Frag, K.In h ∧ SaysX bs fa fn K
  of := fun _ _ e => ⟨_, He.frG_in, e⟩
  keeps := fun _ _ _ ⟨K, hK, c⟩ k => ⟨K, Frag.In.keeps hK k, c⟩
theorem obsXG_eq {n : Nat} {bs : List (Frag → Bool)} {fa : List He.Fa} {fn : List DX} {g : Addr → Option Obj} {s : Shared} (h : ∀ a, g a = s.heap.get? a) : obsXG n bs fa fn g = (hookX n bs fa fn).obs s := by
  have e : g = s.heap.get? := funext h
  rw [e] <;> rfl
variable {bs : List (Frag → Bool)} {fa : List He.Fa} {fn : List DX} {K : Frag}
theorem SaysX.b (c : SaysX bs fa fn K) (i : Nat) {f : Frag → Bool} (h : bs[i]? = some f := by rfl) : f K = true :=
  List.all_eq_true.mp (He.ba (show ((bs.all fun b => b K) && ((fa.all fun f => f.ok K) && fn.all fun d => d.ok K)) = true from congrArg (fun z : AlX => z.1) c)).1 f (List.mem_of_getElem? h)
theorem SaysX.fact (c : SaysX bs fa fn K) (i : Nat) {f : He.Fa} (h : fa[i]? = some f := by rfl) : f.ok K = true :=
  List.all_eq_true.mp (He.ba (He.ba (show ((bs.all fun b => b K) && ((fa.all fun f => f.ok K) && fn.all fun d => d.ok K)) = true from congrArg (fun z : AlX => z.1) c)).2).1 f (List.mem_of_getElem? h)
theorem SaysX.def_ (c : SaysX bs fa fn K) (i : Nat) {d : DX} (h : fn[i]? = some d := by rfl) : ∃ fd, FunD K d.name d.qual d.params d.body d.scope (d.dfl.map (He.Dv.v K)) (d.kwd.map fun q => (q.1, q.2.v K)) (d.at_ K) fd := by
  have c2 := (He.ba (He.ba (show ((bs.all fun b => b K) && ((fa.all fun f => f.ok K) && fn.all fun d => d.ok K)) = true from congrArg (fun z : AlX => z.1) c)).2).2
  have e : fn.map (fun d => fnX K (d.at_ K)) = fn.map DX.val := congrArg (fun z : AlX => z.2) c
  have e2 : (fn.map fun d => fnX K (d.at_ K))[i]? = (fn.map DX.val)[i]? := by rw [e]
  rw [List.getElem?_map, List.getElem?_map, h] at e2
  exact DX.funD (Option.some.inj e2) (List.all_eq_true.mp c2 d (List.mem_of_getElem? h))
end
end RM
namespace RM
open PySem PySem.Spec PyProof.Rows L2
/-! ### defs that raise -/
section
variable {P : Program} {w : World} {K : PySem.W.Frag} {mg : Str → Option Value} {base : Heap} {N : List Str} {qual : Str} {scope : Scope} {f : Addr} {cd : Value} {A : Around} {outer : List Env} {s : Shared} {H : Hp} {E : XK}
/-- the wish about exceptions inside a def -/
theorem tkOf : Takes (cxOf (L2.CX P w) P w K mg base N qual scope f cd A outer s H E) (fun cls d _ H => E cls d H) := takes_of rfl rfl rfl rfl
theorem pxOf : Passes (L2.CX P w) (cxOf (L2.CX P w) P w K mg base N qual scope f cd A outer s H E) E := passes_call tkOf fun _ _ _ _ h => h
theorem poOf : PassesOwn (model P w) (A.deeper (envOfC qual scope s.heap.objs.size f cd)) (envOfC qual scope s.heap.objs.size f cd) (cxOf (L2.CX P w) P w K mg base N qual scope f cd A outer s H E).xe := passes_of rfl
end
/-! ### an exception with fields -/
/-- it was raised: class C, these fields, all else as it was -/
def Rzd (C : Addr) (fs : List (Str × V)) (E : XK) (H : Hp) : Prop := ∀ (d : Addr) (H' : Hp), Same H H' → H d = none → H' d = some (.xd fs) → E (.ref C) (some d) H'
theorem Rzd.mono {C : Addr} {fs : List (Str × V)} {E : XK} {H H2 : Hp} (h : Rzd C fs E H) (s : Same H H2) : Rzd C fs E H2 := fun d H' s2 hd hx => h d H' (s.trans s2) (s.free hd) hx
/-- what an exception class must say -/
structure ExK (K : PySem.W.Frag) (C fI : Addr) : Prop where
  o : OexC K C
  i : PySem.W.findIn K (.ref C) "__init__" = some (some (.ref fI))
  t : PySem.W.typeIn K (.ref fI) = some (.type "function")
/-- an exception class that may be made: sp is its __init__ -/
structure XMk (P : Program) (w : World) (K : PySem.W.Frag) (mg : Str → Option Value) (base : Heap) (k : Nat) (x : Str) (C : Addr) (sp : Sp) : Prop where
  ex : ∃ (fI : Addr) (fd : FuncData) (ps : List Str), ExK K C fI ∧ FnOk P w K mg base CX0 k fI fd ps sp ∧ Binds K fd ps [] ∧ mg x = some (.ref C)
/-- the promise of an __init__ that stores its arguments -/
def spX (C : Addr) (fs : List Str) : Sp := fun vs H Q _ => ∃ (a : Addr) (ws : List V), vs = .ref a :: ws ∧ ws.length = fs.length ∧ H a = some (exo a C none) ∧
  ∀ (dx : Addr) (H' : Hp), H dx = none → dx ≠ a → (∀ b o, b ≠ a → b ≠ dx → H b = some o → H' b = some o) → H' a = some (exo a C (some dx)) → H' dx = some (exd dx (fs.zip ws).reverse) → Q .non H'
theorem len_spX {C : Addr} {fs : List Str} {vs : List V} {H : Hp} {Q : VK} {E : XK} (h : spX C fs vs H Q E) : vs.length = fs.length + 1 := by
  obtain ⟨a, ws, rfl, hl, _⟩ := h
  rw [List.length_cons, hl]
section
variable {K : PySem.W.Frag} {C : Addr} {f g p0 p1 p2 : Str} {vs : List V} {H : Hp} {Q : VK} {E : XK}
theorem ini1 (o : OexC K C) (n : PySem.W.findIn K (.ref C) f = some none) (h : spX C [f] vs H Q E) : tOst K f (tVar 0) (tVar 1) { nx := fun _ H' => Q .non H', rt := Q } (L2.start [p0, p1] vs) H := by
  obtain ⟨a, ws, rfl, hl, ha, k⟩ := h
  match ws, hl with
  | [v], _ =>
    refine ⟨v, rfl, .ref a, rfl, a, C, rfl, o, n, .inl ⟨ha, fun dx hdx nd => k dx _ hdx nd (fun b u h1 h2 hb => ?_) upd_same (by rw [upd_ne nd]; exact upd_same)⟩⟩
    rw [upd_ne h1, upd_ne h2]; exact hb
theorem ini2 (o : OexC K C) (n : PySem.W.findIn K (.ref C) f = some none) (n2 : PySem.W.findIn K (.ref C) g = some none) (h : spX C [f, g] vs H Q E) :
    tSeq (tOst K f (tVar 0) (tVar 1)) (tOst K g (tVar 0) (tVar 2)) { nx := fun _ H' => Q .non H', rt := Q } (L2.start [p0, p1, p2] vs) H := by
  obtain ⟨a, ws, rfl, hl, ha, k⟩ := h
  match ws, hl with
  | [v, z], _ =>
    refine ⟨v, rfl, .ref a, rfl, a, C, rfl, o, n, .inl ⟨ha, fun dx hdx nd => ?_⟩⟩
    refine ⟨z, rfl, .ref a, rfl, a, C, rfl, o, n2, .inr ⟨dx, _, upd_same, by rw [upd_ne nd]; exact upd_same, by simp, ?_⟩⟩
    refine k dx _ hdx nd (fun b u h1 h2 hb => ?_) (by rw [upd_ne nd.symm]; exact upd_same) upd_same
    rw [upd_ne h2, upd_ne h1, upd_ne h2]; exact hb
end
/-- raise C(..): the made exception flies -/
def RsW (C : Addr) (fs : List Str) (E : XK) (vs : List V) (H1 : Hp) : Prop := vs.length ≤ 1000 ∧ ∀ a, H1 a = none → spX C fs (.ref a :: (vs ++ [])) (upd H1 a (exo a C none))
  (fun v H2 => v = .non ∧ ∃ (d : Addr) (gs : List (Str × V)), H2 a = some (exo a C (some d)) ∧ H2 d = some (exd d gs) ∧ H1 d = none ∧ E (.ref C) (some d) (upd (L2.del H2 a) d (.xd gs))) (fun _ _ _ => False)
def tRs (C : Addr) (fs : List Str) (E : XK) (ta : TA) : TS := fun _ σ H => ta σ H fun vs H1 => RsW C fs E vs H1
theorem rs_of {C : Addr} {fs : List Str} {E : XK} {vs : List V} {H1 : Hp} (hl : vs.length = fs.length) (hf : fs.length ≤ 1000) (h : Rzd C (fs.zip vs).reverse E H1) : RsW C fs E vs H1 := by
  refine ⟨by omega, fun a ha => ⟨a, vs, by rw [List.append_nil], hl, upd_same, fun dx H' hdx nd hk h1 h2 => ⟨rfl, dx, _, h1, h2, ?_, ?_⟩⟩⟩
  · rw [upd_ne nd] at hdx; exact hdx
  · rw [upd_ne nd] at hdx
    refine h dx _ (fun b o hb => ?_) hdx upd_same
    have nb : b ≠ a := ne_of_none hb ha
    have nd2 : b ≠ dx := ne_of_none hb hdx
    rw [upd_ne nd2, L2.del_ne nb]
    exact hk b o nb nd2 (by rw [upd_ne nb]; exact hb)
section
variable {X : Cx} {k j : Nat} {x : Str} {C : Addr} {fs : List Str} {e : Expr} {es : List Expr} {p pos pos' : Pos} {ta : TA} {t : TA} {E : XK} {W : WX} {sp : Sp} {dvs : List V}
theorem ps_rs (c : XMk X.prog X.w X.K X.mg X.base k x C (spX C fs)) (hr : Room j X.A) (hk : k + 1 ≤ j) (calm : X.calm = true) (tk : Takes X (fun cls d _ H => E cls d H)) (hg : Gl X x) (ha : PA X (e :: es) ta)
    (hdb : (x == ("__debug__" : Str)) = false := by decide) (he : starEach (e :: es) X.env = (false, eval e X.env) :: starEach es X.env := by rfl) (hpl : (backTo pos (starEach es X.env)).any (·.1) = false := by rfl) :
    PS X (.Raise (some (.Call (.Name x p) (e :: es) [] pos)) none pos') (tRs C fs E ta) := by
  obtain ⟨fI, fd, ps, q, F, hb, hm⟩ := c.ex
  have mk := pmk_oex (p := p) (pos := pos) (dvs := []) (ds := []) q.o q.i q.t F (hr.mono hk) hb .nil C8.pass0 hg hm ha hdb he hpl
  exact ps_raise (pos := pos') calm tk mk
/-! ### calls of what may raise -/
structure CalX (P : Program) (w : World) (K : PySem.W.Frag) (mg : Str → Option Value) (base : Heap) (k : Nat) (x : Str) (sp : Sp) (dvs : List V) : Prop where
  ex : ∃ (f : Addr) (fd : FuncData) (ps : List Str) (ds : List Value), FnOk P w K mg base (L2.CX P w) k f fd ps sp ∧ mg x = some (.ref f) ∧ PySem.W.keepIn K (.ref f) = true ∧ Binds K fd ps ds ∧ Vals dvs ds
structure MakX (P : Program) (w : World) (K : PySem.W.Frag) (mg : Str → Option Value) (base : Heap) (k : Nat) (x : Str) (C : Addr) (sp : Sp) (dvs : List V) : Prop where
  ex : ∃ (f : Addr) (fd : FuncData) (ps : List Str) (ds : List Value), Mk K C f ∧ FnOk P w K mg base (L2.CX P w) k f fd ps sp ∧ mg x = some (.ref C) ∧ Binds K fd ps ds ∧ Vals dvs ds
theorem pe_cX (c : CalX X.prog X.w X.K X.mg X.base k x sp dvs) (hr : Room j X.A) (hk : k ≤ j) (hg : Gl X x) (hx : Passes (L2.CX X.prog X.w) X E) (ha : PA X (e :: es) t)
    (hdb : (x == ("__debug__" : Str)) = false := by decide) (he : starEach (e :: es) X.env = (false, eval e X.env) :: starEach es X.env := by rfl) (hpl : (backTo pos (starEach es X.env)).any (·.1) = false := by rfl) :
    PE X (.Call (.Name x p) (e :: es) [] pos) (tCall sp dvs E t) := by
  obtain ⟨f, fd, ps, ds, F, hm, kp, b, d⟩ := c.ex
  exact pe_call F (hr.mono hk) hg hm kp b d hx ha hdb he hpl
theorem pe_mkX (c : MakX X.prog X.w X.K X.mg X.base k x C sp dvs) (hr : Room j X.A) (hk : k + 1 ≤ j) (hg : Gl X x) (hx : Passes (L2.CX X.prog X.w) X E) (ha : PA X (e :: es) t)
    (hdb : (x == ("__debug__" : Str)) = false := by decide) (he : starEach (e :: es) X.env = (false, eval e X.env) :: starEach es X.env := by rfl) (hpl : (backTo pos (starEach es X.env)).any (·.1) = false := by rfl) :
    PE X (.Call (.Name x p) (e :: es) [] pos) (tMake C sp dvs E t) := by
  obtain ⟨f, fd, ps, ds, M, F, hm, b, d⟩ := c.ex
  exact pe_make M F (hr.mono hk) hg hm b d hx ha hdb he hpl
/-! ### the same inside a try: the wish may speak of the slots -/
theorem pe_cS (c : CalX X.prog X.w X.K X.mg X.base k x sp []) (hr : Room j X.A) (hk : k ≤ j) (hg : Gl X x) (tk : Takes X W) (ha : PA X (e :: es) t)
    (hdb : (x == ("__debug__" : Str)) = false := by decide) (he : starEach (e :: es) X.env = (false, eval e X.env) :: starEach es X.env := by rfl) (hpl : (backTo pos (starEach es X.env)).any (·.1) = false := by rfl) :
    PE X (.Call (.Name x p) (e :: es) [] pos) (tCallS sp (WE W) t) := by
  obtain ⟨f, fd, ps, ds, F, hm, kp, b, d⟩ := c.ex
  cases d
  exact pe_callS F (hr.mono hk) hg hm kp b (passAt tk) ha hdb he hpl
def tMakeS (C : Addr) (sp : Sp) (E : L2.St → XK) (t : TA) : TE := fun σ H Q => t σ H fun vs H1 => ∀ x dx, H1 x = none → H1 dx = none → dx ≠ x → sp (.ref x :: vs) (upd (upd H1 dx (.own x)) x (.ins C dx [])) (fun v H2 => v = .non ∧ Q (.ref x) H2) (E σ)
theorem run_mkS {pins : List (Addr × Obj)} {σ : L2.St} {H : Hp} {s : Shared} {Q : VK} {us : List Value} {vs : List V} {f : Addr} {fd : FuncData} {ps : List Str} (M : Mk X.K C f) (F : FnOk X.prog X.w X.K X.mg X.base (L2.CX X.prog X.w) k f fd ps sp) (hr : Room (k + 1) X.A) (hb : Binds X.K fd ps []) (tk : Takes X W)
    (I : Inv X pins σ H s) (r : Vals vs us) (h : ∀ x dx, H x = none → H dx = none → dx ≠ x → sp (.ref x :: vs) (upd (upd H dx (.own x)) x (.ins C dx [])) (fun v H2 => v = .non ∧ Q (.ref x) H2) (WE W σ)) :
    wpAny (model X.prog X.w) X.A (call (.ref C) us) (EP X pins σ Q) X.xe s := by
  have want := h (s.heap.objs.size + 1) s.heap.objs.size (I.hok.fresh (Nat.le_succ _)) (I.hok.fresh (Nat.le_refl _)) (Nat.ne_of_lt (Nat.lt_succ_self _))
  have J := Inv.made (C := C) I
  have rel : Vals (V.ref (s.heap.objs.size + 1) :: vs) (Value.ref (s.heap.objs.size + 1) :: us) := .cons rfl r
  have cnt : (Value.ref (s.heap.objs.size + 1) :: us ++ ([] : List Value)).length = ps.length := by
    rw [List.append_nil, ← rel.length]
    exact F.len _ _ _ _ want
  have bnd := hb _ (Value.ref (s.heap.objs.size + 1) :: us) J.kIn cnt
  rw [List.append_nil] at bnd
  refine wpAny_call (make_map (f := f) I.kIn M.makes M.init (beq_iff_eq.mp M.fn) (codeAny_mono (F.run _ X.stack _ _ ⟨_, []⟩ _ _ _ _ (hr.make C us []) (J.env0.make C us []) bnd rel want) fun r s' z => ?_))
  match r with
  | .error e => exact passAt tk σ pins _ _ e s' J z
  | .ok (.ret u) =>
    obtain ⟨v, H', I3, rv, ev, q3⟩ := J.after z
    subst ev
    exact ⟨rv, V.ref (s.heap.objs.size + 1), H', I3, rfl, q3⟩
  | .ok .next => exact z.elim
  | .ok .brk => exact z.elim
  | .ok .cont => exact z.elim
theorem pe_mkS (c : MakX X.prog X.w X.K X.mg X.base k x C sp []) (hr : Room j X.A) (hk : k + 1 ≤ j) (hg : Gl X x) (tk : Takes X W) (ha : PA X (e :: es) t)
    (hdb : (x == ("__debug__" : Str)) = false := by decide) (he : starEach (e :: es) X.env = (false, eval e X.env) :: starEach es X.env := by rfl) (hpl : (backTo pos (starEach es X.env)).any (·.1) = false := by rfl) :
    PE X (.Call (.Name x p) (e :: es) [] pos) (tMakeS C sp (WE W) t) := by
  obtain ⟨f, fd, ps, ds, M, F, hm, b, d⟩ := c.ex
  cases d
  refine ⟨fun pins s σ H Q I h => wpAny_Call_Name_kw (ld_glob I hg hm ?_ hdb)⟩
  refine PySem.W.callWith_K (h₀ := X.base) I.ok.mod.kin M.kp (thn (ha.run pos pins s σ H _ I h) fun us s1 ⟨vs, H1, I1, r, q⟩ => ⟨I1.kIn, ?_⟩) he hpl
  exact run_mkS M F (hr.mono hk) b tk I1 r q
end
/-! ### try: body, some clauses 'except x as n' with one name n -/
abbrev Sui := Addr → Value → Option Addr → TS
def wAsM (K : PySem.W.Frag) (i : Nat) (Wout : WX) (D : Ends) : List (Value × Sui) → WX
  | [] => Wout
  | (c, ts) :: r => fun cls d σ H => ∃ b, PySem.W.exmOne K cls c = some b ∧
      (b = true → ∀ a, H a = none → ts a cls d { nx := fun σ' H' => D.nx (σ'.set i none) H', rt := D.rt, bk := fun σ' H' => D.bk (σ'.set i none) H', ct := fun σ' H' => D.ct (σ'.set i none) H' } (σ.set i (some (.ref a))) H) ∧ (b = false → wAsM K i Wout D r cls d σ H)
def tTry (K : PySem.W.Frag) (i : Nat) (tb : WX → TS) (l : List (Value × Sui)) : TS := fun D σ H => tb (wAsM K i (fun _ _ _ _ => False) D l) D σ H
inductive HdA (X : Cx) (n : Str) : List ExceptHandler → List (Value × Sui) → Prop
  | nil : HdA X n [] []
  | cons {x : Str} {c : Value} {ts : Sui} {b0 : Stmt} {more : List Stmt} {np hp : Pos} {hds : List ExceptHandler} {l : List (Value × Sui)} (nm : Names X x c)
      (su : ∀ (a : Addr) (oe : Obj) (cls : Value) (d : Option Addr) (pn : List (Addr × Obj)), Zc cls d oe → (∃ vs, oe.data = .fields vs) → PSs (X.suite a ((a, oe) :: pn)) (b0 :: more) (ts a cls d)) (r : HdA X n hds l) :
      HdA X n (.ExceptHandler (some (.Name x np)) (some n) (b0 :: more) hp :: hds) ((c, ts) :: l)
section
variable {X : Cx} {body : List Stmt} {h0 : ExceptHandler} {hds : List ExceptHandler} {l : List (Value × Sui)} {pos : Pos} {tb : WX → TS} {n : Str} {i : Nat}
theorem ps_try_asm (stk : X.stack = X.env :: X.outer) (frm : X.env.frame = some X.env.locals) (nod : X.N.Nodup) (at_ : X.N[i]? = some n) (loc : X.env.kindOf n = some .local)
    (hb : ∀ (W : WX) (pn : List (Addr × Obj)) (xe : Value → Shared → Prop), Takes (X.tr pn xe) W → PassesOwn (model X.prog X.w) X.A X.env xe → PSs (X.tr pn xe) body (tb W))
    (hh : HdA X n (h0 :: hds) l) : PS X (.Try body (h0 :: hds) [] [] pos) (tTry X.K i tb l) := by
  refine ⟨fun pins s σ H D I h => ?_⟩
  have ok := I.ok
  have frs' : X.A.frames = some (X.env :: X.outer) := by rw [ok.frames, stk]
  refine wpAny_Try_except ?_
  have runs := (hb (wAsM X.K i (fun _ _ _ _ => False) D l) (X.pn ++ pins) (fun e s₁ => wpAny (model X.prog X.w) X.A (noteFrame e X.env) (fun _ s₂ => wpAny (model X.prog X.w) X.A (setFlight e none) (fun _ s₃ =>
    wpAny (model X.prog X.w) X.A (handleBy e X.env (h0 :: hds)) (SP X pins D) X.xe s₃) X.xe s₂) X.xe s₁) ?_ PassesOwn.looking).run [] s σ H D (I.toTry _) h
  · refine wpAny_mono runs (fun f s1 z => ?_) fun _ _ z => z
    match f with
    | .next => exact z.elim fun σ' z => z.elim fun H' z => wpAny_execs_nil ⟨σ', H', z.1.ofTry ok, z.2⟩
    | .brk => exact z.elim fun σ' z => z.elim fun H' z => ⟨σ', H', z.1.ofTry ok, z.2⟩
    | .cont => exact z.elim fun σ' z => z.elim fun H' z => ⟨σ', H', z.1.ofTry ok, z.2⟩
    | .ret u => exact z.elim fun v z => z.elim fun σ' z => z.elim fun H' z => ⟨v, σ', H', z.1.ofTry ok, z.2.1, z.2.2⟩
  · rintro u s' ⟨a, B, sI, pins', σ', H', cls, d, rfl, J0, nb, up, sky, na, os, ag, wish⟩
    have J : Inv X pins σ' H' sI := J0.ofTry ok
    rw [show (X.tr (X.pn ++ pins) _).stack = X.env :: X.outer from stk] at sky
    show wpAny (model X.prog X.w) X.A (noteFrame (.ref a) X.env) _ _ _
    refine Sky.land Zc.steady frs' frm sky fun h3 fl3 up3 => ?_
    have J3 : Inv X pins σ' H' { s' with heap := h3 } := J.landed nb fl3.1 (up.trans up3) os ag
    obtain ⟨oe3, vs3, he3, hz3, hd3⟩ := fl3.there
    have out : a ∉ frs (X.env :: X.outer) := fun hm => by
      obtain ⟨_, o', e', no⟩ := fl3.2.2.1.mem hm
      rw [he3] at e'
      cases e'
      exact no _ hd3
    have nL : a ≠ X.env.locals := fun z => out (List.mem_filterMap.mpr ⟨X.env, List.mem_cons_self, by rw [frm, z]⟩)
    have nF : a ∉ X.fs := fun hm => (List.mem_filterMap.mp hm).elim fun e z => out (List.mem_filterMap.mpr ⟨e, List.mem_cons_of_mem _ z.1, z.2⟩)
    have S3 := J3.suite he3 hd3 na nL nF
    have go : ∀ {hs' : List ExceptHandler} {l' : List (Value × Sui)}, HdA X n hs' l' → wAsM X.K i (fun _ _ _ _ => False) D l' cls d σ' H' →
        wpAny (model X.prog X.w) X.A (handleBy (.ref a) X.env hs') (SP X pins D) X.xe { s' with heap := h3 } := by
      intro hs' l' hk
      induction hk with
      | nil => exact fun z => z.elim
      | @cons x c ts b0 more np hp hds2 l2 nm su r ih =>
        rintro ⟨b, hb1, yes, no⟩
        refine wpAny_handleBy_cons (codeAny_handlers_test ?_) (by intro q; cases q)
        have lt : PySem.W.Looks (model X.prog X.w) h3 (typeOf (.ref a)) cls := fun A Q E s k q => wpAny_typeOf_ref (k _ _ he3) (by rw [hz3.1]; exact q)
        have lm := PySem.W.exm_one (M := model X.prog X.w) J3.kIn lt hb1
        have nam : ∀ {Q : Value → Shared → Prop} {E : Value → Shared → Prop}, Q c { s' with heap := h3 } → wpAny (model X.prog X.w) (X.A.mark (some (.ref a))) (eval (.Name x np) X.env) Q E { s' with heap := h3 } := fun {Q E} q => by
          rcases nm with ⟨n1, n2, n3 | ⟨n3, n4, n5⟩⟩
          · exact ld_glob (X := X.suite a ((a, oe3) :: (X.pn ++ pins))) S3 n1 n3 q n2
          · exact ld_blt (X := X.suite a ((a, oe3) :: (X.pn ++ pins))) S3 n1 n3 n4 q n5 n2
        refine nam (lm.here ?_)
        match b, yes, no with
        | false, _, no => exact ih (no rfl)
        | true, yes, _ =>
          refine codeAny_handlers_suite_as ?_
          refine HandSPX.lands_againZ fl3 fun h4 fl4 up4 => ?_
          have J4 : Inv X pins σ' H' { s' with heap := h4 } := J.landed nb fl4.1 ((up.trans up3).trans up4) os ag
          obtain ⟨oe4, vs4, he4, hz4, hd4⟩ := fl4.there
          refine store_ok (X := X.suite a ((a, oe4) :: (X.pn ++ pins))) (v := .ref a) (J4.suite he4 hd4 na nL nF) nod at_ (.inl loc) rfl (fun s5 S5 => ?_) (.inr loc)
          refine wpAny_mono ((su a oe4 cls d (X.pn ++ pins) hz4 ⟨_, hd4⟩).run [] s5 _ H' _ S5 (yes rfl a na)) (fun f s6 z => ?_) (fun _ _ z => z.elim)
          have over : ∀ {σ6 : L2.St} {H6 : Hp} {Q : Shared → Prop}, Inv (X.suite a ((a, oe4) :: (X.pn ++ pins))) [] σ6 H6 s6 → (∀ s7, Inv X pins (σ6.set i none) H6 s7 → Q s7) →
              wpAny (model X.prog X.w) X.A (do bindName X.env n .none; unbindBehindTheSuite X.env n hp) (fun _ s7 => Q s7) X.xe s6 := fun S6 hq => gone_ok (S6.unsuite ok) nod at_ loc hq
          match f with
          | .next => exact z.elim fun σ6 z => z.elim fun H6 z => over z.1 fun s7 J7 => ⟨_, _, J7, z.2⟩
          | .brk => exact z.elim fun σ6 z => z.elim fun H6 z => over z.1 fun s7 J7 => ⟨_, _, J7, z.2⟩
          | .cont => exact z.elim fun σ6 z => z.elim fun H6 z => over z.1 fun s7 J7 => ⟨_, _, J7, z.2⟩
          | .ret u => exact z.elim fun v z => z.elim fun σ6 z => z.elim fun H6 z => over z.1 fun s7 J7 => ⟨_, _, _, J7, z.2.1, z.2.2⟩
    exact go hh wish
end
/-! ### isinstance(e, T) in an except suite -/
structure ExI (K : PySem.W.Frag) (D : Addr) : Prop where
  cl : (PySem.W.clsIn K D).isSome = true
  hg : PySem.W.findIn K (.ref D) "__getattribute__" = some (some (.builtin "BaseException.__getattribute__"))
  hk : PySem.W.findIn K (.ref D) "__getattr__" = some none
  hs : PySem.W.subIn K (.ref D) (.type "BaseException") = some true
  ha : PySem.W.findIn K (.ref D) "__class__" = some (some (.builtin "object.__class__"))
  hn : PySem.W.specialIn K (.builtin "object.__class__") "__get__" = some (some (.builtin "getset_descriptor.__get__"))
  ht : PySem.W.takesIn K (.builtin "object.__class__") = some true
  hm : PySem.W.mroIn K D (.type "object") = some true
def rIsX (K : PySem.W.Frag) (a : Addr) (cls : Value) (d : Option Addr) : List V → Hp → VK → Prop := fun xs H Q => ∃ (D dd : Addr) (fs : List (Str × V)) (c : V) (cv : Value) (b : Bool), xs = [.ref a, c] ∧ cls = .ref D ∧ d = some dd ∧ ExI K D ∧ H dd = some (.xd fs) ∧ (∀ u, RelV c u → u = cv) ∧ PySem.W.kitOne K (.ref D) cv = some b ∧ Q (.bl b) H
theorem call_isX {X : Cx} {a : Addr} {oe : Obj} {cls : Value} {d : Option Addr} {pn : List (Addr × Obj)} (hz : Zc cls d oe) (hf : ∃ vs, oe.data = .fields vs) : CallR (X.suite a ((a, oe) :: pn)) (.builtin "isinstance") (rIsX X.K a cls d) := by
  intro pins s σ H xs us Q I r h
  obtain ⟨D, dd, fs, c, cv, b, rfl, rfl, rfl, C, hdd, hcv, e, q⟩ := h
  obtain ⟨u, z, rfl, ru, rz⟩ := vals2 r
  cases ru
  have ez := hcv _ rz
  subst ez
  obtain ⟨hget, _⟩ := I.pin (a, oe) (List.mem_append.mpr (.inl List.mem_cons_self))
  obtain ⟨vs, hv⟩ := hf
  have hx : ObjOk X.prog X.w H s.heap dd (.xd fs) := I.hok dd _ hdd
  obtain ⟨mA, hns, _⟩ := hx
  obtain ⟨od, ho, _⟩ := lookIn_ns hns
  have J : PySem.W.InstAt s.heap a oe D (some od) := ⟨hget, hz.1, by unfold PySem.W.notCls; rw [hv] <;> rfl, by rw [hz.2]; exact ho⟩
  exact PySem.W.kia_one (PySem.W.kitx_exc C.cl C.hg C.hk C.hs C.ha C.hn C.ht C.hm) I.kIn J e (fun z => nomatch z) fun tk => ⟨.bl b, H, I.kept (t' := tk) fun _ _ z => z, rfl, q⟩
/-! ### what the head tells of exception classes -/
section
open PySem.W
def mroVE (C : Addr) : List Value → Bool
  | .ref a :: bm => decide (a = C) && HandSPX.refsVE bm
  | _ => false
theorem mroVE_ok {C : Addr} {l : List Value} (h : mroVE C l = true) : ∃ bm, l = .ref C :: bm ∧ HandSPX.refsVE bm = true := by
  cases l with
  | nil => exact absurd h Bool.false_ne_true
  | cons v bm =>
    cases v with
    | ref a =>
      obtain ⟨z1, z2⟩ := He.ba h
      exact ⟨bm, by rw [of_decide_eq_true z1], z2⟩
    | _ => exact absurd h Bool.false_ne_true
def sixVE : List (Option Value) → Bool
  | [_, _, _, _, k4, _] => decide (k4 = some (.builtin "ValueError.__new__"))
  | _ => false
theorem sixVE_ok : ∀ {l : List (Option Value)}, sixVE l = true → ∃ k0 k1 k2 k3 k5, l = [k0, k1, k2, k3, some (.builtin "ValueError.__new__"), k5]
  | [k0, k1, k2, k3, k4, k5], h => ⟨k0, k1, k2, k3, k5, by rw [show k4 = some (.builtin "ValueError.__new__") from of_decide_eq_true h]⟩
def clsVE (C : Addr) : Option Obj → Bool
  | some ⟨c, _, .cls cd, sl⟩ => decide (c = .type "type") && (cd.hasDict && (!cd.hasDel && (mroVE C cd.mro && sixVE sl.toList)))
  | _ => false
theorem clsVE_ok {C : Addr} {o : Option Obj} (h : clsVE C o = true) : ∃ nm q N bs bm sn sub ab col dd k0 k1 k2 k3 k5, o = some (excClassObj nm q C N bs bm true sn sub ab col dd k0 k1 k2 k3 k5 "ValueError.__new__") ∧ HandSPX.refsVE bm = true := by
  cases o with
  | none => exact absurd h Bool.false_ne_true
  | some ob =>
    obtain ⟨c, dd, da, sl⟩ := ob
    cases da with
    | cls cd =>
      obtain ⟨nm, bs, mro, N, qn, hd, sn, sb, ab, co, del⟩ := cd
      obtain ⟨q1, h⟩ := He.ba h
      obtain ⟨q2, h⟩ := He.ba h
      obtain ⟨q3, h⟩ := He.ba h
      obtain ⟨q4, q5⟩ := He.ba h
      have q2 : hd = true := q2
      have q3 : (!del) = true := q3
      have q4 : mroVE C mro = true := q4
      obtain ⟨bm, e4, r4⟩ := mroVE_ok q4
      obtain ⟨k0, k1, k2, k3, k5, e5⟩ := sixVE_ok q5
      have e1 : c = .type "type" := of_decide_eq_true q1
      have e3 : del = false := by
        cases del
        · rfl
        · cases q3
      have esl : sl = #[k0, k1, k2, k3, some (.builtin "ValueError.__new__"), k5] := by
        rw [← Array.toArray_toList (xs := sl), e5]
      rw [e1, q2, e3, e4, esl]
      exact ⟨nm, qn, N, bs, bm, sn, sb, ab, co, dd, k0, k1, k2, k3, k5, rfl, r4⟩
    | _ => exact absurd h Bool.false_ne_true
def bOex (x : Str) (K : Frag) : Bool := clsVE (He.ga K x) (K.lookup (He.ga K x)) && (He.eqO (findIn K (.ref (He.ga K x)) "__setattr__") (some (some (.builtin "object.__setattr__"))) && (decide (subIn K (.ref (He.ga K x)) (.type "BaseException") = some true) && (decide (typeIn K (.ref (He.ga K x)) = some (.type "type")) && keepIn K (.ref (He.ga K x)))))
theorem bOex_ok {x : Str} {K : Frag} (h : bOex x K = true) : OexC K (He.ga K x) := by
  obtain ⟨h1, h⟩ := He.ba h
  obtain ⟨h2, h⟩ := He.ba h
  obtain ⟨h3, h⟩ := He.ba h
  obtain ⟨h4, h5⟩ := He.ba h
  exact ⟨clsVE_ok h1, He.eqO_ok h2, of_decide_eq_true h3, of_decide_eq_true h4, h5⟩
def bExi (x : Str) (K : Frag) : Bool := (clsIn K (He.ga K x)).isSome && (He.eqO (findIn K (.ref (He.ga K x)) "__getattribute__") (some (some (.builtin "BaseException.__getattribute__"))) && (He.eqO (findIn K (.ref (He.ga K x)) "__getattr__") (some none) &&
  (decide (subIn K (.ref (He.ga K x)) (.type "BaseException") = some true) && (He.eqO (findIn K (.ref (He.ga K x)) "__class__") (some (some (.builtin "object.__class__"))) && (He.eqO (specialIn K (.builtin "object.__class__") "__get__") (some (some (.builtin "getset_descriptor.__get__"))) &&
  (decide (takesIn K (.builtin "object.__class__") = some true) && decide (mroIn K (He.ga K x) (.type "object") = some true)))))))
theorem bExi_ok {x : Str} {K : Frag} (h : bExi x K = true) : ExI K (He.ga K x) := by
  obtain ⟨h1, h⟩ := He.ba h
  obtain ⟨h2, h⟩ := He.ba h
  obtain ⟨h3, h⟩ := He.ba h
  obtain ⟨h4, h⟩ := He.ba h
  obtain ⟨h5, h⟩ := He.ba h
  obtain ⟨h6, h⟩ := He.ba h
  obtain ⟨h7, h8⟩ := He.ba h
  exact ⟨h1, He.eqO_ok h2, He.eqO_ok h3, of_decide_eq_true h4, He.eqO_ok h5, He.eqO_ok h6, of_decide_eq_true h7, of_decide_eq_true h8⟩
/-- what is asked of the exception classes ns -/
structure XFacts (K : Frag) (ns : List Str) : Prop where
  i : ∀ x ∈ ns, ExI K (He.ga K x)
  v : ∀ x ∈ ns, kitOne K (.ref (He.ga K x)) (.type "ValueError") = some true
  b : ∀ x ∈ ns, exmOne K (.ref (He.ga K x)) (.ref (He.ga K "MinuteError")) = some true
  m : ∀ x ∈ ns, ∀ y ∈ ns, exmOne K (.ref (He.ga K x)) (.ref (He.ga K y)) = some (decide (x = y))
  k : ∀ x ∈ ns, ∀ y ∈ ns, kitOne K (.ref (He.ga K x)) (.ref (He.ga K y)) = some (decide (x = y))
def bXall (ns : List Str) (K : Frag) : Bool := ns.all fun x => bExi x K && (decide (kitOne K (.ref (He.ga K x)) (.type "ValueError") = some true) && (decide (exmOne K (.ref (He.ga K x)) (.ref (He.ga K "MinuteError")) = some true) &&
  ns.all fun y => decide (exmOne K (.ref (He.ga K x)) (.ref (He.ga K y)) = some (decide (x = y))) && decide (kitOne K (.ref (He.ga K x)) (.ref (He.ga K y)) = some (decide (x = y)))))
theorem bXall_ok {ns : List Str} {K : Frag} (h : bXall ns K = true) : XFacts K ns := by
  have h2 := List.all_eq_true.mp h
  have p : ∀ x ∈ ns, bExi x K = true ∧ kitOne K (.ref (He.ga K x)) (.type "ValueError") = some true ∧ exmOne K (.ref (He.ga K x)) (.ref (He.ga K "MinuteError")) = some true ∧
      ∀ y ∈ ns, exmOne K (.ref (He.ga K x)) (.ref (He.ga K y)) = some (decide (x = y)) ∧ kitOne K (.ref (He.ga K x)) (.ref (He.ga K y)) = some (decide (x = y)) := fun x hx => by
    obtain ⟨a1, a⟩ := He.ba (h2 x hx)
    obtain ⟨a2, a⟩ := He.ba a
    obtain ⟨a3, a4⟩ := He.ba a
    refine ⟨a1, of_decide_eq_true a2, of_decide_eq_true a3, fun y hy => ?_⟩
    obtain ⟨b1, b2⟩ := He.ba (List.all_eq_true.mp a4 y hy)
    exact ⟨of_decide_eq_true b1, of_decide_eq_true b2⟩
  exact ⟨fun x hx => bExi_ok (p x hx).1, fun x hx => (p x hx).2.1, fun x hx => (p x hx).2.2.1, fun x hx y hy => ((p x hx).2.2.2 y hy).1, fun x hx y hy => ((p x hx).2.2.2 y hy).2⟩
def bXf (x : Str) (K : Frag) : Bool := xfB K (He.ga K x)
theorem bXf_ok {x : Str} {K : Frag} (h : bXf x K = true) : XfC K (He.ga K x) := xfB_ok h
end
/-! ### what is asked of own operators -/
def okR (o : Option (Option Value)) : Bool := match o with
  | some none => true
  | some (some (.ref _)) => true
  | _ => false
theorem okR_ok {o : Option (Option Value)} (h : okR o = true) : ∃ rc, o = some rc ∧ (rc = none ∨ ∃ g : Addr, rc = some (.ref g)) := by
  unfold okR at h
  split at h
  · exact ⟨_, rfl, .inl rfl⟩
  · exact ⟨_, rfl, .inr ⟨_, rfl⟩⟩
  · cases h
def bBinI (x nm rn : Str) (K : PySem.W.Frag) : Bool := PySem.W.selfFirst K (He.ga K x) && (okR (PySem.W.findIn K (.ref (He.ga K x)) rn) && ((PySem.W.findIn K (.type "int") nm).isSome && ((PySem.W.findIn K (.type "int") rn).isSome && decide (PySem.W.subIn K (.type "int") (.ref (He.ga K x)) = some false))))
def bSelf (x : Str) (K : PySem.W.Frag) : Bool := PySem.W.selfFirst K (He.ga K x)
def isRf (o : Option (Option Value)) : Bool := match o with
  | some (some (.ref _)) => true
  | _ => false
theorem isRf_ok {o : Option (Option Value)} (h : isRf o = true) : ∃ g : Addr, o = some (some (.ref g)) := by
  unfold isRf at h
  split at h
  · exact ⟨_, rfl⟩
  · cases h
def bRefI (x : Str) (K : PySem.W.Frag) : Bool := PySem.W.selfFirst K (He.ga K x) && (isRf (PySem.W.findIn K (.ref (He.ga K x)) "__mul__") && decide (PySem.W.subIn K (.ref (He.ga K x)) (.type "int") = some false))
def bBin2 (x y nm rn : Str) (K : PySem.W.Frag) : Bool := PySem.W.selfFirst K (He.ga K x) && (PySem.W.selfFirst K (He.ga K y) && (okR (PySem.W.findIn K (.ref (He.ga K x)) rn) && (isRf (PySem.W.findIn K (.ref (He.ga K y)) nm) && (okR (PySem.W.findIn K (.ref (He.ga K y)) rn) && (decide (PySem.W.subIn K (.ref (He.ga K y)) (.ref (He.ga K x)) = some false) && decide (He.ga K x ≠ He.ga K y))))))
end RM
namespace RM
open PySem PySem.Spec PyProof.Rows L2
/-- the record of a classmethod, its def -/
def cmP (K : PySem.W.Frag) (C : Addr) (m : Str) : Addr := match PySem.W.findCls K (.ref C) (.type "type") m with
  | some (.get _ (.ref p) _ _) => p
  | _ => 0
def cmG (K : PySem.W.Frag) (C : Addr) (m : Str) : Addr := match PySem.W.recIn K (cmP K C m) "classmethod" with
  | some (.ref g :: _) => g
  | _ => 0
def isCM (K : PySem.W.Frag) (C : Addr) (m : Str) : Bool := match PySem.W.findCls K (.ref C) (.type "type") m with
  | some (.get (.builtin z) (.ref _) .none (.ref C')) => decide (z = "classmethod.__get__") && decide (C' = C)
  | _ => false
def isCG (K : PySem.W.Frag) (C : Addr) (m : Str) : Bool := match PySem.W.recIn K (cmP K C m) "classmethod" with
  | some (.ref _ :: _) => true
  | _ => false
def bCMet (x m : Str) (K : PySem.W.Frag) : Bool := isCM K (He.ga K x) m && (isCG K (He.ga K x) m && PySem.W.fnIn K (cmG K (He.ga K x) m))
theorem bCMet_ok {x m : Str} {K : PySem.W.Frag} (h : bCMet x m K = true) : ClX.CMet K (He.ga K x) (.type "type") m (cmP K (He.ga K x) m) (cmG K (He.ga K x) m) := by
  obtain ⟨h1, h⟩ := He.ba h
  obtain ⟨h2, h3⟩ := He.ba h
  refine ⟨?_, ?_, h3⟩
  · unfold isCM at h1
    unfold cmP
    split at h1
    · rename_i z p C' e
      obtain ⟨q1, q2⟩ := He.ba h1
      rw [e, of_decide_eq_true q1, of_decide_eq_true q2]
    · exact absurd h1 Bool.false_ne_true
  · unfold isCG at h2
    unfold cmG
    split at h2
    · rename_i g r e
      rw [e]
      exact ⟨r, rfl⟩
    · exact absurd h2 Bool.false_ne_true
end RM
namespace RM
open PySem PySem.Spec PyProof.Rows L2
def Y_walk : List Nat := [119, 97, 108, 107]
def Y_span : List Nat := [115, 112, 97, 110]
def Y_names : List Nat := [110, 97, 109, 101, 115]
def Y_length : List Nat := [108, 101, 110, 103, 116, 104]
abbrev C_MinuteError (K : PySem.W.Frag) : Addr := He.ga K "MinuteError"
abbrev C_BadNumber (K : PySem.W.Frag) : Addr := He.ga K "BadNumber"
abbrev C_UnknownEvent (K : PySem.W.Frag) : Addr := He.ga K "UnknownEvent"
abbrev C_WrongNames (K : PySem.W.Frag) : Addr := He.ga K "WrongNames"
abbrev C_UnknownSpan (K : PySem.W.Frag) : Addr := He.ga K "UnknownSpan"
abbrev C_BrokenSpan (K : PySem.W.Frag) : Addr := He.ga K "BrokenSpan"
abbrev C_BadWalk (K : PySem.W.Frag) : Addr := He.ga K "BadWalk"
abbrev C_Net (K : PySem.W.Frag) : Addr := He.ga K "Net"
abbrev C_Times (K : PySem.W.Frag) : Addr := He.ga K "Times"
def exs : List Str := ["BadNumber", "UnknownEvent", "WrongNames", "UnknownSpan", "BrokenSpan", "BadWalk"]
theorem obsX_app {bs bs2 : List (PySem.W.Frag → Bool)} {fa1 fa2 : List He.Fa} {fn1 fn2 : List DX} {K : PySem.W.Frag} (h1 : obsX bs fa1 fn1 K = valX fn1) (h2 : obsX bs2 fa2 fn2 K = valX fn2) : obsX (bs ++ bs2) (fa1 ++ fa2) (fn1 ++ fn2) K = valX (fn1 ++ fn2) := by
  have a1 := congrArg (fun z : AlX => z.1) h1
  have a2 := congrArg (fun z : AlX => z.2) h1
  have b1 := congrArg (fun z : AlX => z.1) h2
  have b2 := congrArg (fun z : AlX => z.2) h2
  simp only [obsX, valX, Bool.and_eq_true] at a1 a2 b1 b2
  unfold obsX valX
  rw [List.map_append, List.map_append, a2, b2, List.all_append, List.all_append, List.all_append, a1.1, a1.2.1, a1.2.2, b1.1, b1.2.1, b1.2.2]
  rfl
abbrev RunP (r : PySem.W.OpenRow) (n : Nat) (bs : List (PySem.W.Frag → Bool)) (fa : List He.Fa) (fn : List DX) (M : Nat) (w : World) : Prop :=
  ∀ os : OsState, (HandSHeadRun.endF (HandSHeadRun.stepQ (HandSHeadRun.denQ HandSHeadRun.tabQ) r.prog w) M r.prog w os).map (fun s => obsXG n bs fa fn (HandSHeadRun.getT s)) = some (valX fn)
theorem run_two {r : PySem.W.OpenRow} {q : Program} {n : Nat} {bs bs2 : List (PySem.W.Frag → Bool)} {fa1 fa2 : List He.Fa} {fn1 fn2 : List DX} {M : Nat} {loose : List Str} {w : World}
    (h1 : HandSHeadRun.RunEq r q (hookX n bs fa1 fn1) (fun s => obsXG n bs fa1 fn1 (HandSHeadRun.getT s)) M loose w) (h2 : RunP r n bs2 fa2 fn2 M w) :
    HandSHeadRun.RunEq r q (hookX n (bs ++ bs2) (fa1 ++ fa2) (fn1 ++ fn2)) (fun s => obsXG n (bs ++ bs2) (fa1 ++ fa2) (fn1 ++ fn2) (HandSHeadRun.getT s)) M loose w := by
  intro os
  have e1 := h1 os
  have e2 := h2 os
  generalize HandSHeadRun.endF (HandSHeadRun.stepQ (HandSHeadRun.denQ HandSHeadRun.tabQ) r.prog w) M r.prog w os = o at e1 e2 ⊢
  cases o with
  | none => cases e2
  | some s =>
    have e1 := Option.some.inj e1
    have e2 := Option.some.inj e2
    exact congrArg some (Prod.ext (congrArg (fun z => z.1) e1) (Prod.ext (congrArg (fun z => z.2.1) e1) (obsX_app (congrArg (fun z => z.2.2) e1) e2)))
def top (i : Nat) : Stmt := PySem.Challenge.pw_roundminutes_k26_turns.main.body.getD i (.Pass ⟨0, 0, 0, 0⟩)
def inClass (st : Stmt) (j : Nat) : Stmt := (C8.clsBody st).getD j (.Pass ⟨0, 0, 0, 0⟩)
abbrev s_check_range : Stmt := top 20
abbrev s_check_round_length : Stmt := top 21
abbrev s_check_count : Stmt := top 22
abbrev s_is_name : Stmt := top 17
abbrev s_check_name : Stmt := top 18
abbrev s_check_event : Stmt := top 23
abbrev s_check_known : Stmt := top 24
abbrev s_check_span : Stmt := top 25
abbrev s_check_net : Stmt := top 26
abbrev s_Net_init : Stmt := inClass (top 27) 5
abbrev s_l_pool : Stmt := top 42
abbrev s_l_draw : Stmt := top 43
abbrev s_l_word : Stmt := top 45
abbrev s_l_names : Stmt := top 46
abbrev s_l_length : Stmt := top 48
abbrev s_l_changes : Stmt := top 50
abbrev s_l_weight : Stmt := top 49
abbrev s_l_some : Stmt := top 44
abbrev s_l_window : Stmt := top 51
abbrev s_l_span : Stmt := top 52
abbrev s_l_case : Stmt := top 53
abbrev s_l_walk : Stmt := top 63
abbrev s_l_begin : Stmt := top 58
abbrev s_l_finish : Stmt := top 59
abbrev s_l_labels : Stmt := top 61
abbrev s_l_path : Stmt := top 62
abbrev s_l_ring : Stmt := top 64
abbrev s_l_spoilt : Stmt := top 65
abbrev s_l_loose : Stmt := top 68
abbrev s_l_steps : Stmt := top 69
abbrev s_l_stranger : Stmt := top 47
abbrev s_l_faulty : Stmt := top 70
abbrev s_Net_spans : Stmt := inClass (top 27) 9
abbrev s_Net_round_length : Stmt := inClass (top 27) 7
abbrev s_Net_contains : Stmt := inClass (top 27) 13
abbrev s_Times_round_length : Stmt := inClass (top 40) 2
abbrev s_Times_contains : Stmt := inClass (top 40) 7
abbrev s_check_names : Stmt := top 29
abbrev s_Times_getitem : Stmt := inClass (top 40) 4
abbrev s_on_span : Stmt := top 30
abbrev s_on_all_spans : Stmt := top 31
abbrev s_kept_minutes : Stmt := top 32
abbrev s_ends : Stmt := top 36
abbrev s_sum_over : Stmt := top 34
abbrev s_turn_of : Stmt := top 37
abbrev s_turn : Stmt := top 38
abbrev s_Times_init : Stmt := inClass (top 40) 0
abbrev s_Times_minutes : Stmt := inClass (top 40) 3
abbrev s_l_is_int : Stmt := top 54
abbrev s_l_same : Stmt := top 55
abbrev s_l_gone : Stmt := top 56
abbrev s_l_all_gone : Stmt := top 57
abbrev s_l_turn : Stmt := top 60
abbrev s_l_sides : Stmt := top 66
abbrev s_l_fault : Stmt := top 67
abbrev s_l_unfit : Stmt := top 71
abbrev s_l_told : Stmt := top 72
abbrev s_l_kept : Stmt := top 73
abbrev s_law : Stmt := top 74
abbrev s_BadNumber_init : Stmt := inClass (top 4) 0
abbrev s_BadWalk_init : Stmt := inClass (top 12) 0
abbrev s_BrokenSpan_init : Stmt := inClass (top 10) 0
abbrev s_WrongNames_init : Stmt := inClass (top 8) 0
abbrev s_Net_iter : Stmt := inClass (top 27) 12
abbrev s_Times_iter : Stmt := inClass (top 40) 6
def d_check_range : DX := ⟨fun K => He.ga K "check_range", "check_range", "check_range", defArgs s_check_range, defBody s_check_range, defScope s_check_range, [], []⟩
def d_check_round_length : DX := ⟨fun K => He.ga K "check_round_length", "check_round_length", "check_round_length", defArgs s_check_round_length, defBody s_check_round_length, defScope s_check_round_length, [], []⟩
def d_check_count : DX := ⟨fun K => He.ga K "check_count", "check_count", "check_count", defArgs s_check_count, defBody s_check_count, defScope s_check_count, [], []⟩
def d_is_name : DX := ⟨fun K => He.ga K "is_name", "is_name", "is_name", defArgs s_is_name, defBody s_is_name, defScope s_is_name, [], []⟩
def d_check_name : DX := ⟨fun K => He.ga K "check_name", "check_name", "check_name", defArgs s_check_name, defBody s_check_name, defScope s_check_name, [], []⟩
def d_check_event : DX := ⟨fun K => He.ga K "check_event", "check_event", "check_event", defArgs s_check_event, defBody s_check_event, defScope s_check_event, [], []⟩
def d_check_known : DX := ⟨fun K => He.ga K "check_known", "check_known", "check_known", defArgs s_check_known, defBody s_check_known, defScope s_check_known, [], []⟩
def d_check_span : DX := ⟨fun K => He.ga K "check_span", "check_span", "check_span", defArgs s_check_span, defBody s_check_span, defScope s_check_span, [], []⟩
def d_check_net : DX := ⟨fun K => He.ga K "check_net", "check_net", "check_net", defArgs s_check_net, defBody s_check_net, defScope s_check_net, [], []⟩
def d_Net_init : DX := ⟨fun K => He.ma K (He.ga K "Net") "__init__", "__init__", "Net.__init__", defArgs s_Net_init, defBody s_Net_init, defScope s_Net_init, [], []⟩
def d_l_pool : DX := ⟨fun K => He.ga K "_law_pool", "_law_pool", "_law_pool", defArgs s_l_pool, defBody s_l_pool, defScope s_l_pool, [], []⟩
def d_l_draw : DX := ⟨fun K => He.ga K "_law_draw", "_law_draw", "_law_draw", defArgs s_l_draw, defBody s_l_draw, defScope s_l_draw, [], []⟩
def d_l_word : DX := ⟨fun K => He.ga K "_law_word", "_law_word", "_law_word", defArgs s_l_word, defBody s_l_word, defScope s_l_word, [], []⟩
def d_l_names : DX := ⟨fun K => He.ga K "_law_names", "_law_names", "_law_names", defArgs s_l_names, defBody s_l_names, defScope s_l_names, [], []⟩
def d_l_length : DX := ⟨fun K => He.ga K "_law_length", "_law_length", "_law_length", defArgs s_l_length, defBody s_l_length, defScope s_l_length, [], []⟩
def d_l_changes : DX := ⟨fun K => He.ga K "_law_changes", "_law_changes", "_law_changes", defArgs s_l_changes, defBody s_l_changes, defScope s_l_changes, [], []⟩
def d_l_weight : DX := ⟨fun K => He.ga K "_law_weight", "_law_weight", "_law_weight", defArgs s_l_weight, defBody s_l_weight, defScope s_l_weight, [], []⟩
def d_l_some : DX := ⟨fun K => He.ga K "_law_some", "_law_some", "_law_some", defArgs s_l_some, defBody s_l_some, defScope s_l_some, [], []⟩
def d_l_window : DX := ⟨fun K => He.ga K "_law_window", "_law_window", "_law_window", defArgs s_l_window, defBody s_l_window, defScope s_l_window, [], []⟩
def d_l_span : DX := ⟨fun K => He.ga K "_law_span", "_law_span", "_law_span", defArgs s_l_span, defBody s_l_span, defScope s_l_span, [], []⟩
def d_l_case : DX := ⟨fun K => He.ga K "_law_case", "_law_case", "_law_case", defArgs s_l_case, defBody s_l_case, defScope s_l_case, [], []⟩
def d_l_walk : DX := ⟨fun K => He.ga K "_law_walk", "_law_walk", "_law_walk", defArgs s_l_walk, defBody s_l_walk, defScope s_l_walk, [], []⟩
def d_l_begin : DX := ⟨fun K => He.ga K "_law_begin", "_law_begin", "_law_begin", defArgs s_l_begin, defBody s_l_begin, defScope s_l_begin, [], []⟩
def d_l_finish : DX := ⟨fun K => He.ga K "_law_finish", "_law_finish", "_law_finish", defArgs s_l_finish, defBody s_l_finish, defScope s_l_finish, [], []⟩
def d_l_labels : DX := ⟨fun K => He.ga K "_law_labels", "_law_labels", "_law_labels", defArgs s_l_labels, defBody s_l_labels, defScope s_l_labels, [], []⟩
def d_l_path : DX := ⟨fun K => He.ga K "_law_path", "_law_path", "_law_path", defArgs s_l_path, defBody s_l_path, defScope s_l_path, [], []⟩
def d_l_ring : DX := ⟨fun K => He.ga K "_law_ring", "_law_ring", "_law_ring", defArgs s_l_ring, defBody s_l_ring, defScope s_l_ring, [], []⟩
def d_l_spoilt : DX := ⟨fun K => He.ga K "_law_spoilt", "_law_spoilt", "_law_spoilt", defArgs s_l_spoilt, defBody s_l_spoilt, defScope s_l_spoilt, [], []⟩
def d_l_loose : DX := ⟨fun K => He.ga K "_law_loose", "_law_loose", "_law_loose", defArgs s_l_loose, defBody s_l_loose, defScope s_l_loose, [], []⟩
def d_l_steps : DX := ⟨fun K => He.ga K "_law_steps", "_law_steps", "_law_steps", defArgs s_l_steps, defBody s_l_steps, defScope s_l_steps, [], []⟩
def d_l_stranger : DX := ⟨fun K => He.ga K "_law_stranger", "_law_stranger", "_law_stranger", defArgs s_l_stranger, defBody s_l_stranger, defScope s_l_stranger, [], []⟩
def d_l_faulty : DX := ⟨fun K => He.ga K "_law_faulty", "_law_faulty", "_law_faulty", defArgs s_l_faulty, defBody s_l_faulty, defScope s_l_faulty, [], []⟩
def d_Net_spans : DX := ⟨fun K => gAd K (He.ga K "Net") "spans", "spans", "Net.spans", defArgs s_Net_spans, defBody s_Net_spans, defScope s_Net_spans, [], []⟩
def d_Net_round_length : DX := ⟨fun K => gAd K (He.ga K "Net") "round_length", "round_length", "Net.round_length", defArgs s_Net_round_length, defBody s_Net_round_length, defScope s_Net_round_length, [], []⟩
def d_Net_contains : DX := ⟨fun K => He.ma K (He.ga K "Net") "__contains__", "__contains__", "Net.__contains__", defArgs s_Net_contains, defBody s_Net_contains, defScope s_Net_contains, [], []⟩
def d_Times_round_length : DX := ⟨fun K => gAd K (He.ga K "Times") "round_length", "round_length", "Times.round_length", defArgs s_Times_round_length, defBody s_Times_round_length, defScope s_Times_round_length, [], []⟩
def d_Times_contains : DX := ⟨fun K => He.ma K (He.ga K "Times") "__contains__", "__contains__", "Times.__contains__", defArgs s_Times_contains, defBody s_Times_contains, defScope s_Times_contains, [], []⟩
def d_check_names : DX := ⟨fun K => He.ga K "check_names", "check_names", "check_names", defArgs s_check_names, defBody s_check_names, defScope s_check_names, [], []⟩
def d_Times_getitem : DX := ⟨fun K => He.ma K (He.ga K "Times") "__getitem__", "__getitem__", "Times.__getitem__", defArgs s_Times_getitem, defBody s_Times_getitem, defScope s_Times_getitem, [], []⟩
def d_on_span : DX := ⟨fun K => He.ga K "on_span", "on_span", "on_span", defArgs s_on_span, defBody s_on_span, defScope s_on_span, [], []⟩
def d_on_all_spans : DX := ⟨fun K => He.ga K "on_all_spans", "on_all_spans", "on_all_spans", defArgs s_on_all_spans, defBody s_on_all_spans, defScope s_on_all_spans, [], []⟩
def d_kept_minutes : DX := ⟨fun K => He.ga K "kept_minutes", "kept_minutes", "kept_minutes", defArgs s_kept_minutes, defBody s_kept_minutes, defScope s_kept_minutes, [], []⟩
def d_ends : DX := ⟨fun K => He.ga K "ends", "ends", "ends", defArgs s_ends, defBody s_ends, defScope s_ends, [], []⟩
def d_sum_over : DX := ⟨fun K => He.ga K "sum_over", "sum_over", "sum_over", defArgs s_sum_over, defBody s_sum_over, defScope s_sum_over, [], []⟩
def d_turn_of : DX := ⟨fun K => He.ga K "turn_of", "turn_of", "turn_of", defArgs s_turn_of, defBody s_turn_of, defScope s_turn_of, [], []⟩
def d_turn : DX := ⟨fun K => He.ga K "turn", "turn", "turn", defArgs s_turn, defBody s_turn, defScope s_turn, [], []⟩
def d_Times_init : DX := ⟨fun K => He.ma K (He.ga K "Times") "__init__", "__init__", "Times.__init__", defArgs s_Times_init, defBody s_Times_init, defScope s_Times_init, [], []⟩
def d_Times_minutes : DX := ⟨fun K => gAd K (He.ga K "Times") "minutes", "minutes", "Times.minutes", defArgs s_Times_minutes, defBody s_Times_minutes, defScope s_Times_minutes, [], []⟩
def d_l_is_int : DX := ⟨fun K => He.ga K "_law_is_int", "_law_is_int", "_law_is_int", defArgs s_l_is_int, defBody s_l_is_int, defScope s_l_is_int, [], []⟩
def d_l_same : DX := ⟨fun K => He.ga K "_law_same", "_law_same", "_law_same", defArgs s_l_same, defBody s_l_same, defScope s_l_same, [], []⟩
def d_l_gone : DX := ⟨fun K => He.ga K "_law_gone", "_law_gone", "_law_gone", defArgs s_l_gone, defBody s_l_gone, defScope s_l_gone, [], []⟩
def d_l_all_gone : DX := ⟨fun K => He.ga K "_law_all_gone", "_law_all_gone", "_law_all_gone", defArgs s_l_all_gone, defBody s_l_all_gone, defScope s_l_all_gone, [], []⟩
def d_l_turn : DX := ⟨fun K => He.ga K "_law_turn", "_law_turn", "_law_turn", defArgs s_l_turn, defBody s_l_turn, defScope s_l_turn, [], []⟩
def d_l_sides : DX := ⟨fun K => He.ga K "_law_sides", "_law_sides", "_law_sides", defArgs s_l_sides, defBody s_l_sides, defScope s_l_sides, [], []⟩
def d_l_fault : DX := ⟨fun K => He.ga K "_law_fault", "_law_fault", "_law_fault", defArgs s_l_fault, defBody s_l_fault, defScope s_l_fault, [], []⟩
def d_l_unfit : DX := ⟨fun K => He.ga K "_law_unfit", "_law_unfit", "_law_unfit", defArgs s_l_unfit, defBody s_l_unfit, defScope s_l_unfit, [], []⟩
def d_l_told : DX := ⟨fun K => He.ga K "_law_told", "_law_told", "_law_told", defArgs s_l_told, defBody s_l_told, defScope s_l_told, [], []⟩
def d_l_kept : DX := ⟨fun K => He.ga K "_law_kept", "_law_kept", "_law_kept", defArgs s_l_kept, defBody s_l_kept, defScope s_l_kept, [], []⟩
def d_law : DX := ⟨fun K => He.ga K "law", "law", "law", defArgs s_law, defBody s_law, defScope s_law, [], []⟩
def d_Net_iter : DX := ⟨fun K => He.ma K (He.ga K "Net") "__iter__", "__iter__", "Net.__iter__", defArgs s_Net_iter, defBody s_Net_iter, defScope s_Net_iter, [], []⟩
def d_Times_iter : DX := ⟨fun K => He.ma K (He.ga K "Times") "__iter__", "__iter__", "Times.__iter__", defArgs s_Times_iter, defBody s_Times_iter, defScope s_Times_iter, [], []⟩
def d_BadNumber_init : DX := ⟨fun K => He.ma K (He.ga K "BadNumber") "__init__", "__init__", "BadNumber.__init__", defArgs s_BadNumber_init, defBody s_BadNumber_init, defScope s_BadNumber_init, [], []⟩
def d_BadWalk_init : DX := ⟨fun K => He.ma K (He.ga K "BadWalk") "__init__", "__init__", "BadWalk.__init__", defArgs s_BadWalk_init, defBody s_BadWalk_init, defScope s_BadWalk_init, [], []⟩
def d_BrokenSpan_init : DX := ⟨fun K => He.ma K (He.ga K "BrokenSpan") "__init__", "__init__", "BrokenSpan.__init__", defArgs s_BrokenSpan_init, defBody s_BrokenSpan_init, defScope s_BrokenSpan_init, [], []⟩
def d_WrongNames_init : DX := ⟨fun K => He.ma K (He.ga K "WrongNames") "__init__", "__init__", "WrongNames.__init__", defArgs s_WrongNames_init, defBody s_WrongNames_init, defScope s_WrongNames_init, [], []⟩
def fns1 : List DX := [d_check_range, d_check_round_length, d_check_count, d_is_name, d_check_name, d_check_event, d_check_known, d_check_span, d_check_net, d_Net_init, d_l_pool, d_l_draw, d_l_word, d_l_names, d_l_length, d_l_changes, d_l_weight, d_l_some, d_l_window, d_l_span, d_l_case, d_l_walk, d_l_begin, d_l_finish, d_l_labels, d_l_path, d_l_ring, d_l_spoilt, d_l_loose, d_l_steps, d_l_stranger, d_l_faulty, d_Net_spans]
def fns2 : List DX := [d_Net_round_length, d_Net_contains, d_Times_round_length, d_Times_contains, d_check_names, d_Times_getitem, d_on_span, d_on_all_spans, d_kept_minutes, d_ends, d_sum_over, d_turn_of, d_turn, d_Times_init, d_Times_minutes, d_l_is_int, d_l_same, d_l_gone, d_l_all_gone, d_l_turn, d_l_sides, d_l_fault, d_l_unfit, d_l_told, d_l_kept, d_law, d_Net_iter, d_Times_iter, d_BadNumber_init, d_BadWalk_init, d_BrokenSpan_init, d_WrongNames_init]
def fns : List DX := [d_check_range, d_check_round_length, d_check_count, d_is_name, d_check_name, d_check_event, d_check_known, d_check_span, d_check_net, d_Net_init, d_l_pool, d_l_draw, d_l_word, d_l_names, d_l_length, d_l_changes, d_l_weight, d_l_some, d_l_window, d_l_span, d_l_case, d_l_walk, d_l_begin, d_l_finish, d_l_labels, d_l_path, d_l_ring, d_l_spoilt, d_l_loose, d_l_steps, d_l_stranger, d_l_faulty, d_Net_spans, d_Net_round_length, d_Net_contains, d_Times_round_length, d_Times_contains, d_check_names, d_Times_getitem, d_on_span, d_on_all_spans, d_kept_minutes, d_ends, d_sum_over, d_turn_of, d_turn, d_Times_init, d_Times_minutes, d_l_is_int, d_l_same, d_l_gone, d_l_all_gone, d_l_turn, d_l_sides, d_l_fault, d_l_unfit, d_l_told, d_l_kept, d_law, d_Net_iter, d_Times_iter, d_BadNumber_init, d_BadWalk_init, d_BrokenSpan_init, d_WrongNames_init]
theorem fns_eq : fns1 ++ fns2 = fns := rfl
def bs : List (PySem.W.Frag → Bool) := [bRead "Net", bCval "Net" "EVENTS" 12, bCval "Net" "SPANS" 24, bCval "Net" "LONGEST" 120, bCval "Net" "SHORTEST" 3, bCval "Net" "HEAVIEST" 99, bOex "BrokenSpan", bOex "BadNumber", bOex "WrongNames", bOex "BadWalk", bXf "BadNumber", bXf "WrongNames", bXf "BrokenSpan", bXf "BadWalk", bXall exs, bProp "Net" "spans", bProp "Net" "round_length", bProp "Times" "round_length", bProp "Times" "minutes"]
def fas : List He.Fa := [.glo "check_range", .glo "check_round_length", .glo "check_count", .glo "is_name", .glo "check_name", .glo "check_event", .glo "check_known", .glo "check_span", .glo "check_net", .mkr "Net", .glo "_law_pool", .glo "_law_draw", .glo "_law_word", .glo "_law_names", .glo "_law_length", .glo "_law_changes", .glo "_law_weight", .glo "_law_some", .glo "_law_window", .glo "_law_span", .glo "_law_case", .glo "_law_walk", .glo "_law_begin", .glo "_law_finish", .glo "_law_labels", .glo "_law_path", .glo "_law_ring", .glo "_law_spoilt", .glo "_law_loose", .glo "_law_steps", .glo "_law_stranger", .glo "_law_faulty", .meth "Net" "__contains__", .meth "Times" "__contains__", .glo "check_names", .meth "Times" "__getitem__", .glo "on_span", .glo "on_all_spans", .glo "kept_minutes", .glo "ends", .glo "sum_over", .glo "turn_of", .glo "turn", .mkr "Times", .glo "_law_is_int", .glo "_law_same", .glo "_law_gone", .glo "_law_all_gone", .glo "_law_turn", .glo "_law_sides", .glo "_law_fault", .glo "_law_unfit", .glo "_law_told", .glo "_law_kept", .glo "law", .meth "Net" "__iter__", .meth "Times" "__iter__", .meth "BadNumber" "__init__", .meth "BadWalk" "__init__", .meth "BrokenSpan" "__init__", .meth "WrongNames" "__init__", .free "list", .cls "Net", .noat "Net" "_round_length", .noat "Net" "_events", .noat "Net" "_spans", .glo "Net", .free "len", .free "enumerate", .int "LONGEST_NAME" (8), .str "LETTERS" "abcdefghijklmnopqrstuvwxyz", .str "DIGITS" "0123456789", .free "all", .free "int", .free "range", .free "str", .free "min", .free "max", .free "dict", .glo "MinuteError", .free "isinstance", .glo "UnknownSpan", .glo "UnknownEvent", .glo "BadWalk", .glo "BrokenSpan", .glo "WrongNames", .glo "BadNumber", .free "ValueError", .cls "Times", .noat "BrokenSpan" "number", .noat "BadNumber" "number", .noat "WrongNames" "name", .free "iter", .noat "Times" "_round_length", .noat "Times" "_minutes", .noat "BadWalk" "at", .free "sum", .free "bool", .free "tuple", .glo "Times"]
abbrev Rw : PySem.W.OpenRow := PySem.W.OpenLaw.row PySem.Challenge.rw_roundminutes_k26_turns
abbrev hk : PySem.W.Hook := hookX 5 bs fas fns
def ob (s : PySem.W.SharedT) : AlX := obsXG 5 bs fas fns (HandSHeadRun.getT s)
theorem ob_ok (s : PySem.W.SharedT) : ob s = hk.obs s.abs := obsXG_eq (HandSHeadRun.getT_eq s)
def loose : List Str := [("_wall" : Str), ("MinuteError" : Str), ("BadName" : Str), ("BadNumber" : Str), ("UnknownEvent" : Str), ("DoubleEvent" : Str), ("SameEvent" : Str), ("WrongNames" : Str), ("UnknownSpan" : Str), ("BrokenSpan" : Str), ("TooMany" : Str), ("BadWalk" : Str), ("LETTERS" : Str), ("DIGITS" : Str), ("LONGEST_NAME" : Str), ("is_name" : Str), ("check_name" : Str), ("check_range" : Str), ("check_round_length" : Str), ("check_count" : Str), ("check_event" : Str), ("check_known" : Str), ("check_span" : Str), ("check_net" : Str), ("Net" : Str), ("check_names" : Str), ("on_span" : Str), ("on_all_spans" : Str), ("kept_minutes" : Str), ("sum_over" : Str), ("ends" : Str), ("turn_of" : Str), ("turn" : Str), ("Times" : Str), ("_law_pool" : Str), ("_law_draw" : Str), ("_law_some" : Str), ("_law_word" : Str), ("_law_names" : Str), ("_law_stranger" : Str), ("_law_length" : Str), ("_law_weight" : Str), ("_law_changes" : Str), ("_law_window" : Str), ("_law_span" : Str), ("_law_case" : Str), ("_law_is_int" : Str), ("_law_same" : Str), ("_law_gone" : Str), ("_law_all_gone" : Str), ("_law_begin" : Str), ("_law_finish" : Str), ("_law_turn" : Str), ("_law_labels" : Str), ("_law_path" : Str), ("_law_walk" : Str), ("_law_ring" : Str), ("_law_spoilt" : Str), ("_law_sides" : Str), ("_law_fault" : Str), ("_law_loose" : Str), ("_law_steps" : Str), ("_law_faulty" : Str), ("_law_unfit" : Str), ("_law_told" : Str), ("_law_kept" : Str)]
theorem run0 (w : World) : HandSHeadRun.RunEq Rw (PySem.W.view Rw.prog [74]) (hookX 5 [] [] []) (fun s => obsXG 5 [] [] [] (HandSHeadRun.getT s)) 8000 loose w := by
  intro os
  kernel_rfl
theorem run1 (w : World) : RunP Rw 5 bs [] [] 8000 w := by
  intro os
  kernel_rfl
theorem run2 (w : World) : RunP Rw 5 [] fas [] 8000 w := by
  intro os
  kernel_rfl
theorem run3 (w : World) : RunP Rw 5 [] [] fns1 8000 w := by
  intro os
  kernel_rfl
theorem run4 (w : World) : RunP Rw 5 [] [] fns2 8000 w := by
  intro os
  kernel_rfl
theorem run (w : World) : HandSHeadRun.RunEq Rw (PySem.W.view Rw.prog [74]) hk ob 8000 loose w := by
  have z := run_two (run_two (run_two (run_two (run0 w) (run1 w)) (run2 w)) (run3 w)) (run4 w)
  simp only [List.nil_append, List.append_nil, fns_eq] at z
  exact z
end RM
namespace RM
open PySem PySem.Spec PyProof.Rows L2
/-! ### readings of classes, tuples, lists -/
section
variable {σ : L2.St} {H : Hp} {Q : VK} {v : V} {ta tb tc : TE} {tl : TA} {t u : TT} {D : Ends} {K : PySem.W.Frag} {sp : Sp} {E : XK} {QA : List V → Hp → Prop} {C : Addr} {f m : Str}
theorem wp_fldC (h : ta σ H fun x H1 => ∃ a dx fs v, x = .ref a ∧ H1 a = some (.ins C dx fs) ∧ fs.lookup f = some v ∧ Q v H1) : tFldC C ta f σ H Q := h
theorem fld_at {a dx : Addr} {fs : List (Str × V)} {R : V → Prop} (ha : H a = some (.ins C dx fs)) (hl : fs.lookup f = some v) (q : R v) : ∃ a' dx fs v, V.ref a = .ref a' ∧ H a' = some (.ins C dx fs) ∧ fs.lookup f = some v ∧ R v := ⟨a, dx, fs, v, rfl, ha, hl, q⟩
theorem wp_sfldC {v : TE} (h : v σ H fun y H1 => ta σ H1 fun x H2 => ∃ a dx fs, x = .ref a ∧ H2 a = some (.ins C dx fs) ∧ fs.length < 1000 ∧ D.nx σ (upd H2 a (.ins C dx (putF f y fs)))) : sFldC C ta v f D σ H := h
theorem sfld_at {a dx : Addr} {fs gs : List (Str × V)} {R : Hp → Prop} (ha : H a = some (.ins C dx fs)) (hl : fs.length < 1000) (e : putF f v fs = gs) (q : R (upd H a (.ins C dx gs))) : ∃ a' dx fs, V.ref a = .ref a' ∧ H a' = some (.ins C dx fs) ∧ fs.length < 1000 ∧ R (upd H a' (.ins C dx (putF f v fs))) := ⟨a, dx, fs, rfl, ha, hl, by rw [e]; exact q⟩
theorem wp_prop (h : ta σ H fun x H1 => ∃ a dx fs, x = .ref a ∧ H1 a = some (.ins C dx fs) ∧ sp [.ref a] H1 Q E) : tProp C sp [] E ta σ H Q := h
theorem own_at {a dx : Addr} {fs : List (Str × V)} {R : Addr → Prop} (ha : H a = some (.ins C dx fs)) (q : R a) : ∃ a' dx fs, V.ref a = .ref a' ∧ H a' = some (.ins C dx fs) ∧ R a' := ⟨a, dx, fs, rfl, ha, q⟩
def MetW (C : Addr) (m : Str) (sp : Sp) (E : XK) (t : TA) (σ : L2.St) (Q : VK) (x : V) (H1 : Hp) : Prop := ∃ a dx fs, x = .ref a ∧ H1 a = some (.ins C dx fs) ∧ fs.lookup m = none ∧ t σ H1 fun vs H2 => sp (x :: (vs ++ [])) H2 Q E
theorem wp_meth (h : ta σ H fun x H1 => MetW C m sp E tl σ Q x H1) : tMeth C m sp [] E ta tl σ H Q := h
theorem met_at {a dx : Addr} {fs : List (Str × V)} (ha : H a = some (.ins C dx fs)) (hl : fs.lookup m = none) (q : tl σ H fun vs H2 => sp (.ref a :: vs) H2 Q E) : MetW C m sp E tl σ Q (.ref a) H := ⟨a, dx, fs, rfl, ha, hl, by simpa only [List.append_nil] using q⟩
def MkW (C : Addr) (sp : Sp) (E : XK) (Q : VK) (vs : List V) (H1 : Hp) : Prop := ∀ x dx, H1 x = none → H1 dx = none → dx ≠ x → sp (.ref x :: vs) (upd (upd H1 dx (.own x)) x (.ins C dx [])) (fun v H2 => v = .non ∧ Q (.ref x) H2) E
theorem wp_make (h : tl σ H fun vs H1 => MkW C sp E Q vs H1) : tMake C sp [] E tl σ H Q := by
  show tl σ H fun vs H1 => ∀ x dx, H1 x = none → H1 dx = none → dx ≠ x → sp (.ref x :: (vs ++ [])) (upd (upd H1 dx (.own x)) x (.ins C dx [])) (fun v H2 => v = .non ∧ Q (.ref x) H2) E
  simp only [List.append_nil]
  exact h
theorem wp_gtup {n : Nat} {a : Addr} {xs : List V} {gs : TGs} {QS : L2.St → Hp → Prop} (hx : SqT K H a xs) (hn : xs.length = n) (h : gs xs σ H QS) : gTup K n gs (.ref a) σ H QS := ⟨a, xs, rfl, hx, hn, h⟩
theorem wp_gcons {g : TG} {gs : TGs} {r : List V} {QS : L2.St → Hp → Prop} (h : g v σ H fun σ' H' => gs r σ' H' QS) : gCons g gs (v :: r) σ H QS := ⟨v, r, rfl, h⟩
theorem wp_gnil {QS : L2.St → Hp → Prop} (h : QS σ H) : gNil [] σ H QS := ⟨rfl, h⟩
theorem wp_enum {g : TG} {tb : TS} (h : tl σ H fun vs H1 => ∃ a xs, vs = [.ref a] ∧ SqL K H1 a xs ∧ ForW (Ite K a) g tb D σ H1) : tFor (iEnum K tl) g tb D σ H := h
theorem loopE {g : TG} {tb : TS} {a : Addr} {xs : List V} (hx : SqL K H a xs) (Pv : Nat → L2.St → Hp → Prop) (h0 : Pv 0 σ H) (hl : ∀ i σ' H', i ≤ xs.length → Pv i σ' H' → SqL K H' a xs)
    (hs : ∀ i x T σ' H', xs[i]? = some x → Pv i σ' H' → H' T = none → g (.ref T) σ' (upd H' T (.tup [.int (i : Nat), x])) fun σ2 H2 => tb { D with nx := Pv (i + 1), ct := Pv (i + 1), bk := D.nx } σ2 H2) (hd : ∀ σ' H', Pv xs.length σ' H' → D.nx σ' H') :
    ∃ b ys, [V.ref a] = [.ref b] ∧ SqL K H b ys ∧ ForW (Ite K b) g tb D σ H := by
  refine ⟨a, xs, rfl, hx, for_it walk_enum Pv h0 hl (fun i v σ' H1 H2 hi p y => ?_) hd⟩
  obtain ⟨T, x, y', h1, h2, h3, h4, h5⟩ := y
  subst h1
  cases h4
  rw [h3]
  exact hs i y' T σ' H1 h5 p h2
theorem wp_cat {l b : Addr} {xs zs : List V} (h1 : H l = some (.lst xs)) (h2 : H b = some (.lst zs)) (hl : xs.length + zs.length ≤ 100000) (k : ∀ p, H p = none → Q (.ref p) (upd H p (.lst (xs ++ zs)))) : rCat (.ref l) (.ref b) H Q := ⟨l, b, xs, zs, rfl, rfl, h1, h2, szl hl, k⟩
theorem wp_sliceL {a : Addr} {xs : List V} {lo hi : Option Int} (hx : SqL K H a xs) (k : ∀ p, H p = none → Q (.ref p) (upd H p (.lst (cutG xs lo hi)))) : rSlL K (.ref a) lo hi H Q := ⟨a, xs, rfl, hx, k⟩
theorem wp_rixL {a : Addr} {k : Int} {xs : List V} (hx : SqL K H a xs) (ha : atI xs k = some v) (h : Q v H) : rIx K (.ref a) (.int k) H Q := .inl ⟨a, xs, k, v, rfl, rfl, hx, ha, h⟩
theorem wp_rixT {a : Addr} {k : Int} {xs : List V} (hx : SqT K H a xs) (ha : atI xs k = some v) (h : Q v H) : rIx K (.ref a) (.int k) H Q := .inr (.inl ⟨a, xs, k, v, rfl, rfl, hx, ha, h⟩)
theorem wp_isN {x : V} (h : Q (.bl (decide (x = .non))) H) : rIsN x .non H Q := ⟨rfl, h⟩
theorem wp_isC {a dx : Addr} {fs : List (Str × V)} (ha : H a = some (.ins C dx fs)) (h : Q (.bl true) H) : rIsC C [.ref a, .ref C] H Q := ⟨a, dx, fs, rfl, ha, h⟩
theorem wp_iterL {l : Addr} {zs : List V} (hx : SqL K H l zs) (h : ∀ it, H it = none → Q (.ref it) (upd H it (ItO l it 0))) : rIter K [.ref l] H Q := ⟨l, zs, rfl, hx, h⟩
theorem at_nth {α : Type} {xs : List α} {i : Nat} {x : α} (h : xs[i]? = some x) : atI xs (i : Int) = some x := atI_nat h
end
/-! ### the same data, told by the law -/
def Sc (v : V) : Prop := v = .non ∨ (∃ b, v = .bl b) ∨ (∃ i, v = .int i) ∨ ∃ z, v = .str z
def Sm (H : Hp) : Nat → V → V → Prop
  | 0, _, _ => False
  | n + 1, u, v => (u = v ∧ Sc u) ∨ ∃ (a b : Addr) (xs ys : List V), u = .ref a ∧ v = .ref b ∧ ((H a = some (.lst xs) ∧ H b = some (.lst ys)) ∨ (H a = some (.tup xs) ∧ H b = some (.tup ys))) ∧
      xs.length = ys.length ∧ ys.length ≤ 1000 ∧ ∀ (i : Nat) (x y : V), xs[i]? = some x → ys[i]? = some y → Sm H n x y
theorem Sm.mono {H H' : Hp} (e : Same H H') : ∀ {n : Nat} {u v : V}, Sm H n u v → Sm H' n u v
  | 0, _, _, h => h.elim
  | n + 1, u, v, h => by
    rcases h with h | ⟨a, b, xs, ys, h1, h2, h3, h4, h5, h6⟩
    · exact .inl h
    · refine .inr ⟨a, b, xs, ys, h1, h2, ?_, h4, h5, fun i x y hx hy => Sm.mono e (h6 i x y hx hy)⟩
      rcases h3 with ⟨p, q⟩ | ⟨p, q⟩
      · exact .inl ⟨e _ _ p, e _ _ q⟩
      · exact .inr ⟨e _ _ p, e _ _ q⟩
section
variable {H : Hp} {n : Nat}
theorem sm_int {i : Int} : Sm H (n + 1) (.int i) (.int i) := .inl ⟨rfl, .inr (.inr (.inl ⟨i, rfl⟩))⟩
theorem sm_str {z : Str} : Sm H (n + 1) (.str z) (.str z) := .inl ⟨rfl, .inr (.inr (.inr ⟨z, rfl⟩))⟩
theorem sm_bl {b : Bool} : Sm H (n + 1) (.bl b) (.bl b) := .inl ⟨rfl, .inr (.inl ⟨b, rfl⟩)⟩
theorem sm_non : Sm H (n + 1) .non .non := .inl ⟨rfl, .inl rfl⟩
theorem sm_lst {a b : Addr} {xs : List V} (h1 : H a = some (.lst xs)) (h2 : H b = some (.lst xs)) (hl : xs.length ≤ 1000) (h : ∀ x ∈ xs, Sm H n x x) : Sm H (n + 1) (.ref a) (.ref b) :=
  .inr ⟨a, b, xs, xs, rfl, rfl, .inl ⟨h1, h2⟩, rfl, hl, fun i x y hx hy => by
    rw [hx] at hy
    cases hy
    exact h x (List.mem_of_getElem? hx)⟩
theorem sm_tup {a b : Addr} {xs : List V} (h1 : H a = some (.tup xs)) (h2 : H b = some (.tup xs)) (hl : xs.length ≤ 1000) (h : ∀ x ∈ xs, Sm H n x x) : Sm H (n + 1) (.ref a) (.ref b) :=
  .inr ⟨a, b, xs, xs, rfl, rfl, .inr ⟨h1, h2⟩, rfl, hl, fun i x y hx hy => by
    rw [hx] at hy
    cases hy
    exact h x (List.mem_of_getElem? hx)⟩
theorem sm_names {a b : Addr} {ns : List (List Nat)} (h1 : H a = some (.lst (ns.map sv))) (h2 : H b = some (.lst (ns.map sv))) (hl : ns.length ≤ 1000) : Sm H (n + 2) (.ref a) (.ref b) :=
  sm_lst h1 h2 (by simpa using hl) fun x hx => by
    obtain ⟨l, _, rfl⟩ := List.mem_map.mp hx
    exact sm_str
end
/-! ### rows: the spans -/
structure Row where
  u : List Nat
  v : List Nat
  lo : Int
  hi : Int
  w : Int
deriving DecidableEq
def rowV (r : Row) : List V := [sv r.u, sv r.v, .int r.lo, .int r.hi, .int r.w]
structure OkR (T : Int) (ns : List (List Nat)) (r : Row) : Prop where
  u : r.u ∈ ns
  v : r.v ∈ ns
  ne : r.u ≠ r.v
  l0 : 0 ≤ r.lo
  l1 : r.lo ≤ T - 1
  h0 : r.lo ≤ r.hi
  h1 : r.hi ≤ r.lo + T - 3
  w0 : 0 ≤ r.w
  w1 : r.w ≤ 99
def IsRow (H : Hp) (x : V) (r : Row) : Prop := ∃ p, x = .ref p ∧ H p = some (.tup (rowV r))
def IsSp (H : Hp) (T : Int) (ns : List (List Nat)) (x : V) : Prop := ∃ r, IsRow H x r ∧ OkR T ns r
theorem IsRow.mono {H H' : Hp} (e : Same H H') {x : V} {r : Row} (h : IsRow H x r) : IsRow H' x r := by
  obtain ⟨p, h1, h2⟩ := h
  exact ⟨p, h1, e _ _ h2⟩
theorem IsSp.mono {H H' : Hp} (e : Same H H') {T : Int} {ns : List (List Nat)} {x : V} (h : IsSp H T ns x) : IsSp H' T ns x := by
  obtain ⟨r, h1, h2⟩ := h
  exact ⟨r, h1.mono e, h2⟩
theorem sm_row {H : Hp} {n : Nat} {x : V} {r : Row} (h : IsRow H x r) : Sm H (n + 2) x x := by
  obtain ⟨p, rfl, h⟩ := h
  refine sm_tup h h (by simp [rowV]) fun y hy => ?_
  simp only [rowV, List.mem_cons, List.not_mem_nil, or_false] at hy
  rcases hy with rfl | rfl | rfl | rfl | rfl
  · exact sm_str
  · exact sm_str
  · exact sm_int
  · exact sm_int
  · exact sm_int
theorem sm_spans {H : Hp} {n : Nat} {a b : Addr} {T : Int} {ns : List (List Nat)} {ss : List V} (h1 : H a = some (.lst ss)) (h2 : H b = some (.lst ss)) (hl : ss.length ≤ 1000) (h : ∀ x ∈ ss, IsSp H T ns x) : Sm H (n + 3) (.ref a) (.ref b) :=
  sm_lst h1 h2 hl fun x hx => by
    obtain ⟨r, h, _⟩ := h x hx
    exact sm_row h
/-- what a net may be made of -/
structure OkNs (T : Int) (ns : List (List Nat)) : Prop where
  t0 : 3 ≤ T
  t1 : T ≤ 120
  few : ns.length ≤ 12
  nodup : ns.Nodup
  nm : ∀ l ∈ ns, Nm l
structure OkSp (H : Hp) (T : Int) (ns : List (List Nat)) (ss : List V) : Prop where
  few : ss.length ≤ 24
  sp : ∀ x ∈ ss, IsSp H T ns x
theorem OkSp.mono {H H' : Hp} (e : Same H H') {T : Int} {ns : List (List Nat)} {ss : List V} (h : OkSp H T ns ss) : OkSp H' T ns ss := ⟨h.few, fun x hx => (h.sp x hx).mono e⟩
/-! ### == of names and rows -/
def nD (ns : List (List Nat)) : List PyData := ns.map fun l => .str (S l)
def rD (r : Row) : PyData := .tuple [.str (S r.u), .str (S r.v), .int r.lo, .int r.hi, .int r.w]
theorem S_beq (a b : List Nat) : (S a == S b) = decide (a = b) := SX.S_beq_eq ..
theorem eqv_names : ∀ {a b : List (List Nat)}, PyData.eqvAll (nD a) (nD b) = decide (a = b)
  | [], [] => rfl
  | [], _ :: _ => rfl
  | _ :: _, [] => rfl
  | x :: a, y :: b => by
    show ((S x == S y) && PyData.eqvAll (nD a) (nD b)) = _
    rw [eqv_names, S_beq, ← Bool.decide_and]
    exact decide_eq_decide.mpr (by simp)
theorem eqv_row {a b : Row} : PyData.eqv (rD a) (rD b) = decide (a = b) := by
  show ((S a.u == S b.u) && ((S a.v == S b.v) && ((a.lo == b.lo) && ((a.hi == b.hi) && ((a.w == b.w) && true))))) = _
  rw [S_beq, S_beq, Bool.eq_iff_iff]
  obtain ⟨u, v, l, h, w⟩ := a
  obtain ⟨u', v', l', h', w'⟩ := b
  simp
theorem eqv_rows : ∀ {a b : List Row}, PyData.eqvAll (a.map rD) (b.map rD) = decide (a = b)
  | [], [] => rfl
  | [], _ :: _ => rfl
  | _ :: _, [] => rfl
  | x :: a, y :: b => by
    show (PyData.eqv (rD x) (rD y) && PyData.eqvAll (a.map rD) (b.map rD)) = _
    rw [eqv_rows, eqv_row, ← Bool.decide_and]
    exact decide_eq_decide.mpr (by simp)
inductive Rws (H : Hp) : List V → List Row → Prop
  | nil : Rws H [] []
  | cons {x : V} {r : Row} {xs : List V} {rs : List Row} : IsRow H x r → Rws H xs rs → Rws H (x :: xs) (r :: rs)
theorem rws_ex {H : Hp} {T : Int} {ns : List (List Nat)} : ∀ {ss : List V}, (∀ x ∈ ss, IsSp H T ns x) → ∃ rs, Rws H ss rs
  | [], _ => ⟨[], .nil⟩
  | x :: ss, h => by
    obtain ⟨rs, h2⟩ := rws_ex fun y hy => h y (List.mem_cons_of_mem _ hy)
    obtain ⟨r, h1, _⟩ := h x List.mem_cons_self
    exact ⟨r :: rs, .cons h1 h2⟩
theorem Rws.mono {H H' : Hp} (e : Same H H') : ∀ {ss : List V} {rs : List Row}, Rws H ss rs → Rws H' ss rs
  | _, _, .nil => .nil
  | _, _, .cons h t => .cons (h.mono e) (t.mono e)
theorem Rws.len {H : Hp} : ∀ {ss : List V} {rs : List Row}, Rws H ss rs → ss.length = rs.length
  | _, _, .nil => rfl
  | _, _, .cons _ t => by rw [List.length_cons, List.length_cons, t.len]
theorem Rws.at {H : Hp} : ∀ {ss : List V} {rs : List Row} {i : Nat} {x : V}, Rws H ss rs → ss[i]? = some x → ∃ r, rs[i]? = some r ∧ IsRow H x r
  | _, _, 0, x, .cons h _, e => by
    cases e
    exact ⟨_, rfl, h⟩
  | _, _, i + 1, x, .cons _ t, e => Rws.at (i := i) t e
theorem IsRow.inj {H : Hp} {x : V} {a b : Row} (h : IsRow H x a) (k : IsRow H x b) : a = b := by
  obtain ⟨p, rfl, h⟩ := h
  obtain ⟨q, e, k⟩ := k
  cases e
  rw [h] at k
  obtain ⟨u, v, l, h, w⟩ := a
  obtain ⟨u', v', l', h', w'⟩ := b
  simp only [rowV, Option.some.injEq, HO.tup.injEq, List.cons.injEq, V.str.injEq, V.int.injEq, and_true] at k
  obtain ⟨k1, k2, k3, k4, k5⟩ := k
  rw [S_inj k1, S_inj k2, k3, k4, k5]
section
variable {K : PySem.W.Frag} {H : Hp}
theorem dp_names : ∀ ns : List (List Nat), DpAll K H (ns.map sv) (nD ns)
  | [] => .nil
  | l :: ns => .cons (.str _) (dp_names ns)
theorem dp_row {x : V} {r : Row} (h : IsRow H x r) : Dp K H x (rD r) := by
  obtain ⟨p, rfl, h⟩ := h
  exact .tup (st_of h) (.cons (.str _) (.cons (.str _) (.cons (.int _) (.cons (.int _) (.cons (.int _) .nil)))))
theorem dp_rows : ∀ {ss : List V} {rs : List Row}, Rws H ss rs → DpAll K H ss (rs.map rD)
  | _, _, .nil => .nil
  | _, _, .cons h t => .cons (dp_row h) (dp_rows t)
end
def Asc (l : List Nat) : Prop := ∀ c ∈ l, c < 127
theorem nm_asc {l : List Nat} (h : Nm l) : Asc l := fun c hc => by rcases h.all c hc with h | h <;> omega
theorem asc_ok {l : List Nat} (h : Asc l) : PyData.strOk (S l) = true := by
  unfold PyData.strOk
  rw [show (S l).cps = l.toArray from rfl, List.all_toArray, List.all_eq_true]
  intro c hc
  have := h c hc
  exact decide_eq_true (by omega)
theorem lay_names : ∀ {ns : List (List Nat)}, (∀ l ∈ ns, Asc l) → PyData.canLayAll0 (nD ns) = true ∧ PyData.depthAll (nD ns) = 0
  | [], _ => ⟨rfl, rfl⟩
  | l :: ns, h => by
    obtain ⟨h1, h2⟩ := lay_names (ns := ns) fun x hx => h x (List.mem_cons_of_mem _ hx)
    refine ⟨?_, ?_⟩
    · show (PyData.strOk (S l) && PyData.canLayAll0 (nD ns)) = true
      rw [asc_ok (h l List.mem_cons_self), h1]
      rfl
    · show max 0 (PyData.depthAll (nD ns)) = 0
      rw [h2]
      rfl
theorem sh_names {ns : List (List Nat)} (h : ∀ l ∈ ns, Asc l) : SeqAt.shaped (.list (nD ns)) = true := by
  obtain ⟨h1, h2⟩ := lay_names h
  show (PyData.canLayAll0 (nD ns) && decide (PyData.depthAll (nD ns) + 1 ≤ 64)) = true
  rw [h1, h2]
  rfl
structure AscR (r : Row) : Prop where
  u : Asc r.u
  v : Asc r.v
theorem lay_row {r : Row} (h : AscR r) : PyData.canLay0 (rD r) = true ∧ PyData.depth (rD r) = 1 := by
  refine ⟨?_, rfl⟩
  show (PyData.strOk (S r.u) && (PyData.strOk (S r.v) && _)) = true
  rw [asc_ok h.u, asc_ok h.v]
  rfl
theorem sh_row {r : Row} (h : AscR r) : SeqAt.shaped (rD r) = true := by
  obtain ⟨h1, h2⟩ := lay_row h
  show (PyData.canLay0 (rD r) && decide (PyData.depth (rD r) ≤ 64)) = true
  rw [h1, h2]
  rfl
theorem lay_rows : ∀ {rs : List Row}, (∀ r ∈ rs, AscR r) → PyData.canLayAll0 (rs.map rD) = true ∧ PyData.depthAll (rs.map rD) ≤ 1
  | [], _ => ⟨rfl, Nat.zero_le _⟩
  | l :: ns, h => by
    obtain ⟨h1, h2⟩ := lay_rows (rs := ns) fun x hx => h x (List.mem_cons_of_mem _ hx)
    obtain ⟨h3, h4⟩ := lay_row (h l List.mem_cons_self)
    refine ⟨?_, ?_⟩
    · show (PyData.canLay0 (rD l) && PyData.canLayAll0 (ns.map rD)) = true
      rw [h3, h1]
      rfl
    · show max (PyData.depth (rD l)) (PyData.depthAll (ns.map rD)) ≤ 1
      omega
theorem sh_rows {rs : List Row} (h : ∀ r ∈ rs, AscR r) : SeqAt.shaped (.list (rs.map rD)) = true := by
  obtain ⟨h1, h2⟩ := lay_rows h
  show (PyData.canLayAll0 (rs.map rD) && decide (PyData.depthAll (rs.map rD) + 1 ≤ 64)) = true
  rw [h1]
  exact decide_eq_true (by omega)
theorem Rws.all {H : Hp} {T : Int} {ns : List (List Nat)} (hn : ∀ l ∈ ns, Nm l) {ss : List V} {rs : List Row} (h : ∀ x ∈ ss, IsSp H T ns x) (t : Rws H ss rs) : ∀ r ∈ rs, OkR T ns r ∧ AscR r := by
  induction t with
  | nil => simp
  | @cons x r xs rs h1 t ih =>
    intro q hq
    rcases List.mem_cons.mp hq with rfl | hq
    · obtain ⟨r', k1, k2⟩ := h x List.mem_cons_self
      have e := k1.inj h1
      subst e
      exact ⟨k2, nm_asc (hn _ k2.u), nm_asc (hn _ k2.v)⟩
    · exact ih (fun y hy => h y (List.mem_cons_of_mem _ hy)) q hq
section
variable {K : PySem.W.Frag} {H : Hp} {Q : VK} {a b : Addr}
theorem wp_eqN {ns ms : List (List Nat)} (h1 : H a = some (.lst (ns.map sv))) (h2 : H b = some (.lst (ms.map sv))) (k1 : ∀ l ∈ ns, Asc l) (k2 : ∀ l ∈ ms, Asc l) (q : Q (.bl (decide (ns = ms))) H) : rEqD K (.ref a) (.ref b) H Q := by
  refine ⟨.list (nD ns), .list (nD ms), .lst (sq_of h1) (dp_names _), .lst (sq_of h2) (dp_names _), sh_names k1, sh_names k2, ?_⟩
  show Q (.bl (PyData.eqvAll (nD ns) (nD ms))) H
  rw [eqv_names]
  exact q
theorem wp_neN {ns ms : List (List Nat)} (h1 : H a = some (.lst (ns.map sv))) (h2 : H b = some (.lst (ms.map sv))) (k1 : ∀ l ∈ ns, Asc l) (k2 : ∀ l ∈ ms, Asc l) (q : Q (.bl (!decide (ns = ms))) H) : rNeD K (.ref a) (.ref b) H Q := by
  refine ⟨.list (nD ns), .list (nD ms), .lst (sq_of h1) (dp_names _), .lst (sq_of h2) (dp_names _), sh_names k1, sh_names k2, ?_⟩
  show Q (.bl (!PyData.eqvAll (nD ns) (nD ms))) H
  rw [eqv_names]
  exact q
theorem wp_eqR {ss ts : List V} {rs qs : List Row} (h1 : H a = some (.lst ss)) (h2 : H b = some (.lst ts)) (r1 : Rws H ss rs) (r2 : Rws H ts qs) (k1 : ∀ r ∈ rs, AscR r) (k2 : ∀ r ∈ qs, AscR r) (q : Q (.bl (decide (rs = qs))) H) : rEqD K (.ref a) (.ref b) H Q := by
  refine ⟨.list (rs.map rD), .list (qs.map rD), .lst (sq_of h1) (dp_rows r1), .lst (sq_of h2) (dp_rows r2), sh_rows k1, sh_rows k2, ?_⟩
  show Q (.bl (PyData.eqvAll (rs.map rD) (qs.map rD))) H
  rw [eqv_rows]
  exact q
theorem wp_neR {ss ts : List V} {rs qs : List Row} (h1 : H a = some (.lst ss)) (h2 : H b = some (.lst ts)) (r1 : Rws H ss rs) (r2 : Rws H ts qs) (k1 : ∀ r ∈ rs, AscR r) (k2 : ∀ r ∈ qs, AscR r) (q : Q (.bl (!decide (rs = qs))) H) : rNeD K (.ref a) (.ref b) H Q := by
  refine ⟨.list (rs.map rD), .list (qs.map rD), .lst (sq_of h1) (dp_rows r1), .lst (sq_of h2) (dp_rows r2), sh_rows k1, sh_rows k2, ?_⟩
  show Q (.bl (!PyData.eqvAll (rs.map rD) (qs.map rD))) H
  rw [eqv_rows]
  exact q
theorem wp_neRow {x y : V} {r s : Row} (h1 : IsRow H x r) (h2 : IsRow H y s) (k1 : AscR r) (k2 : AscR s) (q : Q (.bl (!decide (r = s))) H) : rNeD K x y H Q := by
  refine ⟨rD r, rD s, dp_row h1, dp_row h2, sh_row k1, sh_row k2, ?_⟩
  rw [eqv_row]
  exact q
end
/-! ### nets -/
abbrev netF (T : Int) (le ls : Addr) : List (Str × V) := [("_round_length", .int T), ("_events", .ref le), ("_spans", .ref ls)]
def IsNet (C : Addr) (H : Hp) (a : Addr) (T : Int) (ns : List (List Nat)) (ss : List V) : Prop := ∃ dx le ls, H a = some (.ins C dx (netF T le ls)) ∧ H le = some (.lst (ns.map sv)) ∧ H ls = some (.lst ss)
theorem IsNet.mono {C : Addr} {H H' : Hp} (e : Same H H') {a : Addr} {T : Int} {ns : List (List Nat)} {ss : List V} (h : IsNet C H a T ns ss) : IsNet C H' a T ns ss := by
  obtain ⟨dx, le, ls, h1, h2, h3⟩ := h
  exact ⟨dx, le, ls, e _ _ h1, e _ _ h2, e _ _ h3⟩
theorem lk_T {T : Int} {le ls : Addr} : (netF T le ls).lookup ("_round_length" : Str) = some (.int T) := rfl
theorem lk_e {T : Int} {le ls : Addr} : (netF T le ls).lookup ("_events" : Str) = some (.ref le) := rfl
theorem lk_s {T : Int} {le ls : Addr} : (netF T le ls).lookup ("_spans" : Str) = some (.ref ls) := rfl
abbrev netF1 (T : Int) : List (Str × V) := [("_round_length", .int T)]
abbrev netF2 (T : Int) (le : Addr) : List (Str × V) := [("_round_length", .int T), ("_events", .ref le)]
theorem pt_1 {T : Int} : putF "_round_length" (.int T) [] = netF1 T := rfl
theorem pt_2 {T : Int} {le : Addr} : putF "_events" (.ref le) (netF1 T) = netF2 T le := by
  unfold putF
  rw [if_neg (by decide)]
  rfl
theorem pt_3 {T : Int} {le ls : Addr} : putF "_spans" (.ref ls) (netF2 T le) = netF T le ls := by
  unfold putF
  rw [if_neg (by decide)]
  unfold putF
  rw [if_neg (by decide)]
  rfl
/-- all but one thing -/
def rmv (G : Hp) (q : Addr) : Hp := fun a => if a = q then none else G a
theorem rmv_same {G : Hp} {q : Addr} : rmv G q q = none := by unfold rmv; rw [if_pos rfl]
theorem rmv_ne {G : Hp} {q a : Addr} (h : a ≠ q) : rmv G q a = G a := by unfold rmv; rw [if_neg h]
theorem rmv_sub {G : Hp} {q : Addr} : Same (rmv G q) G := fun a o h => by
  by_cases e : a = q
  · rw [e, rmv_same] at h; cases h
  · rw [rmv_ne e] at h; exact h
theorem Same.rmv {G G' : Hp} {q : Addr} (s : Same G G') (h : G q = none) : Same G (rmv G' q) := fun a o ha => by
  rw [rmv_ne (ne_of_none ha h)]
  exact s _ _ ha
theorem Sees.less {P : Pl} {G H : Hp} {q : Addr} {ys : List V} (s : Sees P G H) (hq : G q = some (.lst ys)) (hc : q ≠ P.l) : Sees P (rmv G q) H :=
  ⟨s.pool, by rw [rmv_ne hc.symm]; exact s.cell, s.few, by
    by_cases e : P.p = q
    · rw [e]; exact rmv_same
    · rw [rmv_ne e]; exact s.free, Same.trans rmv_sub s.sub⟩
theorem IsRow.rmv {G : Hp} {q : Addr} {ys : List V} {x : V} {r : Row} (hq : G q = some (.lst ys)) (h : IsRow G x r) : IsRow (rmv G q) x r := by
  obtain ⟨p, rfl, hp⟩ := h
  exact ⟨p, rfl, by rw [rmv_ne (fun e => by rw [e, hq] at hp; cases hp)]; exact hp⟩
theorem IsSp.rmv {G : Hp} {q : Addr} {ys : List V} {T : Int} {ns : List (List Nat)} {x : V} (hq : G q = some (.lst ys)) (h : IsSp G T ns x) : IsSp (rmv G q) T ns x := by
  obtain ⟨r, h1, h2⟩ := h
  exact ⟨r, h1.rmv hq, h2⟩
/-- a list of one's own that is changed: outside of G -/
structure Lcl (P : Pl) (L : Addr) (xs : List V) (G H : Hp) : Prop where
  s : Sees P G H
  h : H L = some (.lst xs)
  g : G L = none
  ne : L ≠ P.p
theorem Lcl.new {P : Pl} {L q : Addr} {xs : List V} {G H : Hp} {o : HO} (l : Lcl P L xs G H) (hq : H q = none) : Lcl P L xs (upd G q o) (upd H q o) :=
  have e : L ≠ q := ne_of_none l.h hq
  ⟨l.s.new hq, by rw [upd_ne e]; exact l.h, by rw [upd_ne e]; exact l.g, l.ne⟩
theorem Lcl.put {P : Pl} {L : Addr} {xs ys : List V} {G H : Hp} (l : Lcl P L xs G H) : Lcl P L ys G (upd H L (.lst ys)) := ⟨l.s.set l.g l.ne, upd_same, l.g, l.ne⟩
theorem Lcl.in_ {P : Pl} {L : Addr} {xs : List V} {G H : Hp} (l : Lcl P L xs G H) : Sees P (upd G L (.lst xs)) H := l.s.with l.g l.h l.ne
theorem Lcl.out {P : Pl} {L : Addr} {xs : List V} {G H H' : Hp} (l : Lcl P L xs G H) (s : Sees P (upd G L (.lst xs)) H') : Lcl P L xs G H' :=
  have z := s.back l.s l.g
  ⟨z.1, z.2, l.g, l.ne⟩
/-! ### rows in parts of lists -/
theorem Rws.app {H : Hp} : ∀ {a : List V} {ra : List Row} {b : List V} {rb : List Row}, Rws H a ra → Rws H b rb → Rws H (a ++ b) (ra ++ rb)
  | _, _, _, _, .nil, k => k
  | _, _, _, _, .cons h t, k => .cons h (t.app k)
theorem Rws.take {H : Hp} : ∀ {a : List V} {ra : List Row} (n : Nat), Rws H a ra → Rws H (a.take n) (ra.take n)
  | _, _, 0, _ => .nil
  | _, _, _ + 1, .nil => .nil
  | _, _, n + 1, .cons h t => .cons h (t.take n)
theorem Rws.drop {H : Hp} : ∀ {a : List V} {ra : List Row} (n : Nat), Rws H a ra → Rws H (a.drop n) (ra.drop n)
  | _, _, 0, h => h
  | _, _, _ + 1, .nil => .nil
  | _, _, n + 1, .cons _ t => t.drop n
theorem IsSp.up {H : Hp} {T T' : Int} {ns ns' : List (List Nat)} {x : V} (h : IsSp H T ns x) (e : T ≤ T') (m : ∀ l ∈ ns, l ∈ ns') : IsSp H T' ns' x := by
  obtain ⟨r, h1, h2⟩ := h
  exact ⟨r, h1, m _ h2.u, m _ h2.v, h2.ne, h2.l0, by have := h2.l1; omega, h2.h0, by have := h2.h1; omega, h2.w0, h2.w1⟩
theorem six_neg {n d : Nat} (h : 0 < n) : HT.sIx n d (some (-1)) = n - 1 := by
  unfold HT.sIx
  simp only []
  split <;> omega
theorem cutG_last {α : Type} {xs : List α} (h : 0 < xs.length) : cutG xs none (some (-1)) = xs.take (xs.length - 1) := by
  unfold cutG
  rw [six_neg h]
  show (xs.drop 0).take (xs.length - 1 - 0) = _
  simp
theorem cutG_to1 {α : Type} {xs : List α} {k : Int} (h0 : 0 ≤ k) (h : k ≤ xs.length) : cutG xs none (some k) = xs.take k.toNat := by
  obtain ⟨j, rfl⟩ : ∃ j : Nat, k = j := ⟨k.toNat, by omega⟩
  rw [cutG_to (by omega), Int.toNat_natCast]
theorem cutG_from1 {α : Type} {xs : List α} {k : Int} (h0 : 0 ≤ k) (h : k ≤ xs.length) : cutG xs (some k) none = xs.drop k.toNat := by
  obtain ⟨j, rfl⟩ : ∃ j : Nat, k = j := ⟨k.toNat, by omega⟩
  rw [cutG_from (by omega), Int.toNat_natCast]
theorem cut_set {α : Type} {xs : List α} {k : Nat} {y : α} (h : k < xs.length) : (xs.take k ++ [y] ++ xs.drop (k + 1))[k]? = some y := by
  have : (xs.take k).length = k := by rw [List.length_take]; omega
  rw [List.append_assoc, List.getElem?_append_right (by omega), this]
  simp
theorem at2 {α : Type} {a b c : α} {xs : List α} : atI (a :: b :: c :: xs) 2 = some c := atI_nat (j := 2) rfl
theorem at3 {α : Type} {a b c d : α} {xs : List α} : atI (a :: b :: c :: d :: xs) 3 = some d := atI_nat (j := 3) rfl
theorem at4 {α : Type} {a b c d e : α} {xs : List α} : atI (a :: b :: c :: d :: e :: xs) 4 = some e := atI_nat (j := 4) rfl
theorem mem_cut {α : Type} {xs : List α} {k m : Nat} {ys : List α} {x : α} (h : x ∈ xs.take k ++ ys ++ xs.drop m) : x ∈ xs ∨ x ∈ ys := by
  rcases List.mem_append.mp h with h | h
  · rcases List.mem_append.mp h with h | h
    · exact .inl (List.mem_of_mem_take h)
    · exact .inr h
  · exact .inl (List.mem_of_mem_drop h)
theorem cut_set2 {α : Type} {xs ys : List α} {k m : Nat} {y : α} (h : k < xs.length) : (xs.take k ++ (y :: ys) ++ xs.drop m)[k]? = some y := by
  have : (xs.take k).length = k := by rw [List.length_take]; omega
  rw [List.append_assoc, List.getElem?_append_right (by omega), this]
  simp
/-! ### comprehensions with tests and tuple targets -/
section
variable {σ : L2.St} {H : Hp} {Q : VK} {K : PySem.W.Frag} {g : TG} {tt : TT} {te : TE} {vs : List Nat}
theorem lcGen {J : It} {n : Nat} {Gd : Hp → Prop} {Y : Nat → Hp → V → Hp → Prop} (w : Walk J n Gd Y) (hn : n ≤ 100000) (hG : ∀ H', Same H H' → Gd H') (hY : ∀ i H2 x H3, Y i H2 x H3 → Same H2 H3) (accs : Nat → List V) (h0 : accs 0 = []) (hlen : ∀ i, (accs i).length ≤ i)
    (hs : ∀ i x H2 H3 (R : VK) (R0 : Hp → Prop), i < n → Same H H2 → Y i H2 x H3 → (∀ y H6, Same H3 H6 → accs (i + 1) = accs i ++ [y] → R y H6) → (∀ H5, Same H3 H5 → accs (i + 1) = accs i → R0 H5) → g x (wipe σ vs) H3 fun σ2 H4 => wipe σ2 vs = wipe σ vs ∧ tt σ2 H4 fun b H5 => if b = true then te σ2 H5 R else R0 H5)
    (hq : ∀ D H2, H D = none → Same H H2 → H2 D = some (.lst (accs n)) → Q (.ref D) H2) : LcW J g tt te vs σ H Q := by
  intro D hD
  refine lc_it w (fun i H2 => Same H H2 ∧ H2 D = some (.lst (accs i))) ⟨Same.new hD, by rw [h0]; exact upd_same⟩ (fun i H2 _ p => hG H2 p.1) (fun i x H2 H3 hi p y => ?_) (fun H2 p => hq D H2 hD p.1 p.2)
  have s3 := hY i H2 x H3 y
  exact hs i x H2 H3 (fun y H4 => ∃ acc, H4 D = some (.lst acc) ∧ acc.length < sizeLine ∧ (Same H (upd H4 D (.lst (acc ++ [y]))) ∧ upd H4 D (.lst (acc ++ [y])) D = some (.lst (accs (i + 1))))) (fun H' => Same H H' ∧ H' D = some (.lst (accs (i + 1)))) hi p.1 y
    (fun y H6 s6 e => ⟨accs i, s6 _ _ (s3 _ _ p.2), szlt (by have := hlen i; omega), Same.mut (p.1.trans (s3.trans s6)) hD, by rw [e]; exact upd_same⟩)
    (fun H5 s5 e => ⟨p.1.trans (s3.trans s5), by rw [e]; exact s5 _ _ (s3 _ _ p.2)⟩)
theorem lcGL {a : Addr} {xs : List V} (hx : SqL K H a xs) (hn : xs.length ≤ 100000) (accs : Nat → List V) (h0 : accs 0 = []) (hlen : ∀ i, (accs i).length ≤ i)
    (hs : ∀ i x H2 (R : VK) (R0 : Hp → Prop), xs[i]? = some x → Same H H2 → (∀ y H6, Same H2 H6 → accs (i + 1) = accs i ++ [y] → R y H6) → (∀ H5, Same H2 H5 → accs (i + 1) = accs i → R0 H5) → g x (wipe σ vs) H2 fun σ2 H4 => wipe σ2 vs = wipe σ vs ∧ tt σ2 H4 fun b H5 => if b = true then te σ2 H5 R else R0 H5)
    (hq : ∀ D H2, H D = none → Same H H2 → H2 D = some (.lst (accs xs.length)) → Q (.ref D) H2) : ∃ b, V.ref a = .ref b ∧ (∃ ys, SqL K H b ys) ∧ LcW (Itl K b) g tt te vs σ H Q :=
  ⟨a, rfl, ⟨xs, hx⟩, lcGen walk_list hn (fun H' s => Same.seq s hx) (fun i H2 x H3 y => by rw [y.1]; exact Same.refl _) accs h0 hlen (fun i x H2 H3 R R0 _ s2 y k1 k0 => by
    obtain ⟨e, hi⟩ := y
    subst e
    exact hs i x _ R R0 hi s2 k1 k0) hq⟩
theorem lcGE {a : Addr} {xs : List V} (hx : SqL K H a xs) (hn : xs.length ≤ 100000) (accs : Nat → List V) (h0 : accs 0 = []) (hlen : ∀ i, (accs i).length ≤ i)
    (hs : ∀ i x T H2 (R : VK) (R0 : Hp → Prop), xs[i]? = some x → Same H H2 → H2 T = some (.tup [.int (i : Nat), x]) → (∀ y H6, Same H2 H6 → accs (i + 1) = accs i ++ [y] → R y H6) → (∀ H5, Same H2 H5 → accs (i + 1) = accs i → R0 H5) → g (.ref T) (wipe σ vs) H2 fun σ2 H4 => wipe σ2 vs = wipe σ vs ∧ tt σ2 H4 fun b H5 => if b = true then te σ2 H5 R else R0 H5)
    (hq : ∀ D H2, H D = none → Same H H2 → H2 D = some (.lst (accs xs.length)) → Q (.ref D) H2) : ∃ b ys, [V.ref a] = [.ref b] ∧ SqL K H b ys ∧ LcW (Ite K b) g tt te vs σ H Q :=
  ⟨a, xs, rfl, hx, lcGen walk_enum hn (fun H' s => Same.seq s hx) (fun i H2 x H3 y => by
    obtain ⟨T, x', y', _, hT, e, _⟩ := y
    rw [e]; exact Same.new hT) accs h0 hlen (fun i x H2 H3 R R0 _ s2 y k1 k0 => by
    obtain ⟨T, x', y', rfl, hT, e, h4, h5⟩ := y
    cases h4
    subst e
    exact hs i y' T _ R R0 h5 (s2.trans (Same.new hT)) upd_same k1 k0) hq⟩
theorem lcGR {n : Nat} (hn : n ≤ 100000) (accs : Nat → List V) (h0 : accs 0 = []) (hlen : ∀ i, (accs i).length ≤ i)
    (hs : ∀ i H2 (R : VK) (R0 : Hp → Prop), i < n → Same H H2 → (∀ y H6, Same H2 H6 → accs (i + 1) = accs i ++ [y] → R y H6) → (∀ H5, Same H2 H5 → accs (i + 1) = accs i → R0 H5) → g (.int (i : Nat)) (wipe σ vs) H2 fun σ2 H4 => wipe σ2 vs = wipe σ vs ∧ tt σ2 H4 fun b H5 => if b = true then te σ2 H5 R else R0 H5)
    (hq : ∀ D H2, H D = none → Same H H2 → H2 D = some (.lst (accs n)) → Q (.ref D) H2) : ∃ j : Int, [V.int n] = [V.int j] ∧ -(2 ^ 62) ≤ j ∧ j < 2 ^ 62 ∧ LcW (Itr 0 j.toNat) g tt te vs σ H Q :=
  ⟨n, rfl, by omega, by omega, lcGen (n := ((n : Int)).toNat) walk_range (by omega) (fun _ _ => trivial) (fun i H2 x H3 y => by rw [y.1]; exact Same.refl _) accs h0 hlen (fun i x H2 H3 R R0 hi s2 y k1 k0 => by
    obtain ⟨e, e2⟩ := y
    subst e
    have e3 : x = .int (i : Nat) := by rw [e2]; exact congrArg V.int (Int.zero_add _)
    subst e3
    exact hs i _ R R0 (by omega) s2 k1 k0) (by rw [Int.toNat_natCast]; exact hq)⟩
theorem wp_lcE {tl : TA} (h : tl σ H fun us H1 => ∃ b ys, us = [.ref b] ∧ SqL K H1 b ys ∧ LcW (Ite K b) g tt te vs σ H1 Q) : tLc (iEnum K tl) g tt te vs σ H Q := h
theorem inV_int {k : Int} {is : List Int} : inV (.int k) (is.map V.int) = decide (k ∈ is) := by
  unfold inV
  rw [List.any_map, Bool.eq_iff_iff, List.any_eq_true, decide_eq_true_eq]
  constructor
  · rintro ⟨x, hx, e⟩
    have e2 : (x == k) = true := e
    rw [beq_iff_eq] at e2
    rw [← e2]; exact hx
  · intro h
    refine ⟨k, h, ?_⟩
    show (k == k) = true
    exact beq_self_eq_true _
theorem wp_notInI {p : Addr} {k : Int} {is : List Int} (hx : SqL K H p (is.map V.int) ∨ SqT K H p (is.map V.int)) (h : Q (.bl (!decide (k ∈ is))) H) : rIn K true (.int k) (.ref p) H Q := by
  refine ⟨p, is.map V.int, rfl, hx, rfl, by rw [List.all_map, List.all_eq_true]; intro x _; rfl, ?_⟩
  show Q (.bl (!inV (.int k) (is.map V.int))) H
  rw [inV_int]; exact h
end
/-- what stays of a list without these places -/
def keepG {α : Type} (is : List Int) (xs : List α) : Nat → List α
  | 0 => []
  | i + 1 => if (i : Int) ∈ is then keepG is xs i else keepG is xs i ++ (xs[i]?).toList
theorem keepG_len {α : Type} {is : List Int} {xs : List α} : ∀ i, (keepG is xs i).length ≤ i
  | 0 => Nat.le_refl _
  | i + 1 => by
    unfold keepG
    have := keepG_len (is := is) (xs := xs) i
    split
    · omega
    · rw [List.length_append]
      cases xs[i]? <;> simp <;> omega
theorem keepG_mem {α : Type} {is : List Int} {xs : List α} {y : α} : ∀ {i}, y ∈ keepG is xs i → y ∈ xs
  | 0, h => absurd h (by simp [keepG])
  | i + 1, h => by
    unfold keepG at h
    split at h
    · exact keepG_mem h
    · rcases List.mem_append.mp h with h | h
      · exact keepG_mem h
      · cases e : xs[i]? with
        | none => rw [e] at h; simp at h
        | some z =>
          rw [e] at h
          simp at h
          rw [h]
          exact List.mem_of_getElem? e
theorem Rws.keep {H : Hp} {ss : List V} {rs : List Row} (h : Rws H ss rs) (is : List Int) : ∀ n, Rws H (keepG is ss n) (keepG is rs n)
  | 0 => .nil
  | n + 1 => by
    unfold keepG
    split
    · exact h.keep is n
    · refine (h.keep is n).app ?_
      cases e : ss[n]? with
      | none =>
        have : rs[n]? = none := by
          rw [List.getElem?_eq_none_iff] at e ⊢
          rw [← h.len]; exact e
        rw [this]
        exact .nil
      | some x =>
        obtain ⟨r, e1, e2⟩ := h.at e
        rw [e1]
        exact .cons e2 .nil
def flipR (r : Row) : Row := ⟨r.v, r.u, r.lo, r.hi, r.w⟩
theorem OkR.flip {T : Int} {ns : List (List Nat)} {r : Row} (k : OkR T ns r) : OkR T ns (flipR r) := ⟨k.v, k.u, k.ne.symm, k.l0, k.l1, k.h0, k.h1, k.w0, k.w1⟩
/-- rows that are good make good spans -/
theorem Rws.sp {H : Hp} {T : Int} {ns : List (List Nat)} {ss : List V} {rs : List Row} (h : Rws H ss rs) (k : ∀ r ∈ rs, OkR T ns r) : ∀ x ∈ ss, IsSp H T ns x := by
  induction h with
  | nil => simp
  | @cons x r xs rs h1 t ih =>
    intro z hz
    rcases List.mem_cons.mp hz with rfl | hz
    · exact ⟨r, h1, k r List.mem_cons_self⟩
    · exact ih (fun y hy => k y (List.mem_cons_of_mem _ hy)) z hz
theorem Rws.okr {H : Hp} {T : Int} {ns : List (List Nat)} {ss : List V} {rs : List Row} (h : Rws H ss rs) (k : ∀ x ∈ ss, IsSp H T ns x) : ∀ r ∈ rs, OkR T ns r := by
  induction h with
  | nil => simp
  | @cons x r xs rs h1 t ih =>
    intro z hz
    rcases List.mem_cons.mp hz with rfl | hz
    · obtain ⟨r', k1, k2⟩ := k x List.mem_cons_self
      rw [h1.inj k1]
      exact k2
    · exact ih (fun y hy => k y (List.mem_cons_of_mem _ hy)) z hz
theorem sm_rows {H : Hp} {n : Nat} {x y : V} {r : Row} (h : IsRow H x r) (k : IsRow H y r) : Sm H (n + 2) x y := by
  obtain ⟨p, rfl, h⟩ := h
  obtain ⟨q, rfl, k⟩ := k
  refine sm_tup h k (by simp [rowV]) fun y hy => ?_
  simp only [rowV, List.mem_cons, List.not_mem_nil, or_false] at hy
  rcases hy with rfl | rfl | rfl | rfl | rfl
  · exact sm_str
  · exact sm_str
  · exact sm_int
  · exact sm_int
  · exact sm_int
theorem sm_rws {H : Hp} {n : Nat} {a b : Addr} {xs ys : List V} {rs : List Row} (ha : H a = some (.lst xs)) (hb : H b = some (.lst ys)) (h : Rws H xs rs) (k : Rws H ys rs) (hl : rs.length ≤ 1000) : Sm H (n + 3) (.ref a) (.ref b) :=
  .inr ⟨a, b, xs, ys, rfl, rfl, .inl ⟨ha, hb⟩, by rw [h.len, k.len], by rw [k.len]; exact hl, fun i x y hx hy => by
    obtain ⟨r, e1, e2⟩ := h.at hx
    obtain ⟨s, e3, e4⟩ := k.at hy
    rw [e1] at e3
    cases e3
    exact sm_rows e2 e4⟩
section
variable {σ : L2.St} {H : Hp} {Q : VK} {K : PySem.W.Frag} {g : TG} {te : TE} {vs : List Nat}
/-- a comprehension that makes new things: I speaks of what is known (G), the list itself aside -/
theorem lcInvL {a : Addr} {xs : List V} (hx : SqL K H a xs) (hn : xs.length ≤ 100000) (I : Nat → List V → Hp → Prop) (h0 : I 0 [] H)
    (hs : ∀ i x acc G H2 (R : VK), xs[i]? = some x → Same H G → Same G H2 → I i acc G → (∀ y G' H6, Same G G' → Same G' H6 → Same H2 H6 → (∀ q o, H2 q = some o → G q = none → G' q = none) → I (i + 1) (acc ++ [y]) G' → R y H6) → g x (wipe σ vs) H2 fun σ2 H4 => wipe σ2 vs = wipe σ vs ∧ te σ2 H4 R)
    (hq : ∀ D acc G H2, H D = none → Same H G → Same G H2 → H2 D = some (.lst acc) → acc.length ≤ xs.length → I xs.length acc G → G D = none → Q (.ref D) H2) : ∃ b, V.ref a = .ref b ∧ (∃ ys, SqL K H b ys) ∧ LcW (Itl K b) g tYes te vs σ H Q := by
  refine ⟨a, rfl, ⟨xs, hx⟩, ?_⟩
  intro D hD
  refine lc_it (walk_list (xs := xs)) (fun i H2 => ∃ acc G, Same H G ∧ Same G H2 ∧ G D = none ∧ H2 D = some (.lst acc) ∧ acc.length ≤ i ∧ I i acc G) ⟨[], H, Same.refl _, Same.new hD, hD, upd_same, Nat.le_refl _, h0⟩ (fun i H2 _ p => ?_) (fun i x H2 H3 hi p y => ?_) (fun H2 p => ?_)
  · obtain ⟨acc, G, s1, s2, _⟩ := p
    exact Same.seq (s1.trans s2) hx
  · obtain ⟨e, hi2⟩ := y
    subst e
    obtain ⟨acc, G, s1, s2, gD, hD2, hl, hI⟩ := p
    have z := hs i x acc G _ (fun y H4 => ∃ acc', H4 D = some (.lst acc') ∧ acc'.length < sizeLine ∧ ∃ acc2 G2, Same H G2 ∧ Same G2 (upd H4 D (.lst (acc' ++ [y]))) ∧ G2 D = none ∧ upd H4 D (.lst (acc' ++ [y])) D = some (.lst acc2) ∧ acc2.length ≤ i + 1 ∧ I (i + 1) acc2 G2) hi2 s1 s2 hI
      (fun y G' H6 t1 t2 t3 t4 hI2 => ⟨acc, t3 _ _ hD2, szlt (by omega), acc ++ [y], G', s1.trans t1, Same.mut t2 (t4 _ _ hD2 gD), t4 _ _ hD2 gD, upd_same, by rw [List.length_append]; simp; omega, hI2⟩)
    exact z
  · obtain ⟨acc, G, s1, s2, gD, hD2, hl, hI⟩ := p
    exact hq D acc G H2 hD s1 s2 hD2 hl hI gD
end
theorem wp_star {σ : L2.St} {H : Hp} {K : PySem.W.Frag} {tl : TA} {QA : List V → Hp → Prop} {p : Addr} {xs : List V} (hx : SqT K H p xs ∨ SqL K H p xs) (h : tl σ H fun ys H2 => QA (xs ++ ys) H2) : ∃ p' xs, V.ref p = V.ref p' ∧ (SqT K H p' xs ∨ SqL K H p' xs) ∧ tl σ H fun ys H2 => QA (xs ++ ys) H2 := ⟨p, xs, rfl, hx, h⟩
theorem wp_starT {σ : L2.St} {H : Hp} {K : PySem.W.Frag} {te : TE} {tl : TA} {QA : List V → Hp → Prop} (h : te σ H fun x H1 => ∃ p xs, x = V.ref p ∧ (SqT K H1 p xs ∨ SqL K H1 p xs) ∧ tl σ H1 fun ys H2 => QA (xs ++ ys) H2) : StX.tStar K te tl σ H QA := h
theorem Rws.set {H : Hp} {x : V} {r : Row} (hx : IsRow H x r) : ∀ {ss : List V} {rs : List Row} (i : Nat), Rws H ss rs → Rws H (ss.set i x) (rs.set i r)
  | _, _, _, .nil => .nil
  | _, _, 0, .cons _ t => .cons hx t
  | _, _, i + 1, .cons h t => .cons h (t.set hx i)
section
variable {σ : L2.St} {H : Hp} {Q : VK} {ta : TE} {tl tk : TA} {K : PySem.W.Frag} {sp : Sp} {E : XK} {C : Addr} {m : Str}
def MetWD (C : Addr) (m : Str) (sp : Sp) (dvs : List V) (E : XK) (t : TA) (σ : L2.St) (Q : VK) (x : V) (H1 : Hp) : Prop := ∃ a dx fs, x = .ref a ∧ H1 a = some (.ins C dx fs) ∧ fs.lookup m = none ∧ t σ H1 fun vs H2 => sp (x :: (vs ++ dvs)) H2 Q E
theorem wp_methD {d : V} (h : ta σ H fun x H1 => MetWD C m sp [d] E tl σ Q x H1) : tMeth C m sp [d] E ta tl σ H Q := h
theorem met_atD {a dx : Addr} {fs : List (Str × V)} {dvs : List V} (ha : H a = some (.ins C dx fs)) (hl : fs.lookup m = none) (q : tl σ H fun vs H2 => sp (.ref a :: (vs ++ dvs)) H2 Q E) : MetWD C m sp dvs E tl σ Q (.ref a) H := ⟨a, dx, fs, rfl, ha, hl, q⟩
def MetWR (C : Addr) (m : Str) (sp : Sp) (E : XK) (t : TA) (σ : L2.St) (Q : VK) (x : V) (H1 : Hp) : Prop := ∃ a dx fs, x = .ref a ∧ H1 a = some (.ins C dx fs) ∧ fs.lookup m = none ∧ t σ H1 fun vs H2 => sp (x :: vs) H2 Q E
theorem wp_methR (h : ta σ H fun x H1 => MetWR C m sp E tl σ Q x H1) : tMethR C m sp E ta tl σ H Q := h
theorem met_atR {a dx : Addr} {fs : List (Str × V)} (ha : H a = some (.ins C dx fs)) (hl : fs.lookup m = none) (q : tl σ H fun vs H2 => sp (.ref a :: vs) H2 Q E) : MetWR C m sp E tl σ Q (.ref a) H := ⟨a, dx, fs, rfl, ha, hl, q⟩
end
theorem wp_yes {σ : L2.St} {H : Hp} {QT : Bool → Hp → Prop} (h : QT true H) : tYes σ H QT := h
theorem Sees.new' {P : Pl} {q : Addr} {G H : Hp} (o : HO) (s : Sees P G H) (hq : H q = none) : ∃ G', Sees P G' (upd H q o) ∧ Same G G' ∧ G' q = some o := ⟨_, s.new hq, Same.new (s.sub.free hq), upd_same⟩
theorem net_at {C : Addr} {H : Hp} {a : Addr} {T : Int} {ns : List (List Nat)} {ss : List V} (h : IsNet C H a T ns ss) : ∃ dx le ls, H a = some (.ins C dx (netF T le ls)) := by
  obtain ⟨dx, le, ls, h, _⟩ := h
  exact ⟨dx, le, ls, h⟩
theorem keepG_nil {α : Type} {xs : List α} : ∀ n, keepG [] xs n = xs.take n
  | 0 => rfl
  | n + 1 => by
    show (if (n : Int) ∈ ([] : List Int) then _ else keepG [] xs n ++ (xs[n]?).toList) = _
    rw [if_neg (by simp), keepG_nil n, List.take_succ]
theorem keepG_none {α : Type} {xs : List α} : keepG [] xs xs.length = xs := by rw [keepG_nil, List.take_length]
theorem flip_flip (rs : List Row) : (rs.map flipR).map flipR = rs := by
  rw [List.map_map]
  exact List.map_id rs
theorem Sees.grow {P : Pl} {G G' H H' : Hp} (s : Sees P G H) (g : Same G G') (u : Same G' H') (h : Same H H') (kp : ∀ q o, H q = some o → G q = none → G' q = none) : Sees P G' H' := by
  obtain ⟨n, c, hp⟩ := s.pool
  exact ⟨⟨n, c, h _ _ hp⟩, g _ _ s.cell, s.few, kp _ _ hp s.free, u⟩
end RM
namespace RM
open PySem PySem.Spec PyProof.Rows L2
/-! ### methods with a star parameter, with keywords -/
section
variable {X : Cx} {k j : Nat} {C : Addr} {m : Str} {sp : Sp} {apos pos : Pos} {e o : Expr} {es : List Expr} {ta : TE} {t tk : TA}
theorem cxUp0 : StX.CXUp CX0 := fun _ _ _ _ _ _ _ _ _ _ _ z => z
theorem fun_star {P : Program} {w : World} {K : PySem.W.Frag} {mg : Str → Option Value} {base : Heap} {x qual pv : Str} {params : Arguments} {body : List Stmt} {scope : Scope} {f : Addr} {fd : FuncData} {N ps : List Str}
    (F : FunD K x qual params body scope [] [] f fd) (S : FnScope N (ps ++ [pv]) scope)
    (hb : ∀ (kV doc pm : Value) (an : Option Addr) (cdv ct : Value) (us rest : List Value), us.length = ps.length → bindArgs (PySem.W.fnOf x qual params body scope .none kV doc pm an cdv ct) ⟨us ++ rest, []⟩ = (newTuple rest >>= fun t => pure (ps.zip us ++ [(pv, t)])))
    (hbody : ∀ (cdv : Value) (A : Around) (outer : List Env) (s : Shared) (H : Hp) (vs : List V) (Q : VK) (E : XK), Room k (A.deeper (envOfC qual scope s.heap.objs.size f cdv)) → sp vs H Q E →
      ∃ t, PSs (cxOf CX0 P w K mg base N qual scope f cdv A outer s H E) body t ∧ t { nx := fun _ H' => Q .non H', rt := Q } (L2.start N vs) H) :
    FnR P w K mg base CX0 (k + 1) f (fun vs H Q E => ∃ ws rest, vs = ws ++ rest ∧ ws.length = ps.length ∧ rest.length ≤ sizeLine ∧ ∀ p, H p = none → sp (ws ++ [V.ref p]) (upd H p (.tup rest)) Q E) := by
  obtain ⟨oc, od, dV, kV, doc, pm, an, cdv, ct, osl, rfl, lk, hcd, hD, _⟩ := F.ex
  rcases hD with ⟨_, rfl⟩ | ⟨e, _⟩
  · exact StX.fn_star lk hcd S cxUp0 (hb kV doc pm an cdv ct) fun A outer s H vs Q E hr h => hbody cdv A outer s H vs Q E hr h
  · exact absurd rfl e
/-- what is handed to a star parameter: a new tuple -/
def StarW (sp : Sp) : Sp := fun vs H Q E => ∃ x rest, vs = x :: rest ∧ rest.length ≤ 1000 ∧ ∀ p, H p = none → sp [x, V.ref p] (upd H p (.tup rest)) Q E
/-- a method def m(self, *v) -/
structure MetS (P : Program) (w : World) (K : PySem.W.Frag) (mg : Str → Option Value) (base : Heap) (k : Nat) (C : Addr) (m : Str) (sp : Sp) : Prop where
  ex : ∃ f : Addr, Cls K C ∧ Meth K C m f ∧ FnR P w K mg base CX0 k f (StarW sp)
theorem MetS.of {P : Program} {w : World} {K : PySem.W.Frag} {mg : Str → Option Value} {base : Heap} {f : Addr} {p0 : Str} (c : Cls K C) (hm : Meth K C m f)
    (F : FnR P w K mg base CX0 k f (fun vs H Q E => ∃ ws rest, vs = ws ++ rest ∧ ws.length = [p0].length ∧ rest.length ≤ sizeLine ∧ ∀ p, H p = none → sp (ws ++ [V.ref p]) (upd H p (.tup rest)) Q E)) : MetS P w K mg base k C m sp :=
  ⟨f, c, hm, F.imp fun vs H Q E ⟨x, rest, e, hl, q⟩ => ⟨[x], rest, e, rfl, szl (by omega), q⟩⟩
/-- o.m(es, kws) as it is run -/
def MC (X : Cx) (o : Expr) (m : Str) (apos pos : Pos) (es : List Expr) (kws : List Keyword) (pl : Sem Bool) : Prop :=
  eval (.Call (.Attribute o m apos) es kws pos) X.env = (eval o X.env >>= fun ov => standAt apos.atName >>= fun _ => holding [ov] (getMethod ov m pl) >>= fun q =>
    callWith pos q.1 q.2 (backTo pos (starEach es X.env)) (backToKw pos (keywordEach kws X.env)))
def NoStar (X : Cx) (pos : Pos) (e : Expr) (es : List Expr) : Prop := starEach (e :: es) X.env = (false, eval e X.env) :: starEach es X.env ∧ (backTo pos (starEach es X.env)).any (·.1) = false
theorem pe_mtS {pl : Sem Bool} (c : MetS X.prog X.w X.K X.mg X.base k C m sp) (hr : Room j X.A) (hk : k ≤ j) (he : PE X o ta) (ha : PA X (e :: es) t) (hst : NoStar X pos e es := by exact ⟨rfl, rfl⟩) (ht : MC X o m apos pos (e :: es) [] pl := by exact rfl) :
    PE X (.Call (.Attribute o m apos) (e :: es) [] pos) (tMethR C m (StarW sp) E0 ta t) := by
  obtain ⟨f, hc, hm, F⟩ := c.ex
  exact pe_methR (pl := pl) he hc hm F (hr.mono hk) C8.pass0 ha hst.1 hst.2 ht
theorem pe_mtS0 {pl : Sem Bool} (c : MetS X.prog X.w X.K X.mg X.base k C m sp) (hr : Room j X.A) (hk : k ≤ j) (he : PE X o ta) (ht : MC X o m apos pos [] [] pl := by exact rfl) :
    PE X (.Call (.Attribute o m apos) [] [] pos) (tMethR C m (StarW sp) E0 ta tNil) := by
  obtain ⟨f, hc, hm, F⟩ := c.ex
  refine ⟨fun pins s σ H Q I h => PySem.W.methodCall_KW (pl := pl) (thn (he.run pins s σ H _ I h) fun u s1 hu => ?_) ht⟩
  obtain ⟨x, H1, I1, rx, a, dx, fs, rfl, ea, l, q⟩ := hu
  cases rx
  refine getmeth_ok I1 ea hc hm l (PySem.W.callWith_K0 (first := [.ref a]) I1.kIn hm.kp ?_)
  exact wpAny_call (run_fnR (us := [.ref a]) (vs := [.ref a]) F (hr.mono hk) C8.pass0 I1 (.cons rfl .nil) q)
/-- a method called with keywords: n the number of positional values, self among them -/
structure MetK (P : Program) (w : World) (K : PySem.W.Frag) (mg : Str → Option Value) (base : Heap) (k : Nat) (C : Addr) (m : Str) (sp : Sp) (n : Nat) (ks : List Str) : Prop where
  ex : ∃ (f : Addr) (fd : FuncData) (ps : List Str), Cls K C ∧ Meth K C m f ∧ FnOk P w K mg base CX0 k f fd ps sp ∧ KBn K fd ps n ks (fun us ws => us ++ ws) (fun us ws => us ++ ws)
def tMethK (C : Addr) (m : Str) (n r : Nat) (sp : Sp) (ta : TE) (t tk : TA) : TE := fun σ H Q => ta σ H fun x H1 => ∃ a dx fs, x = .ref a ∧ H1 a = some (.ins C dx fs) ∧ fs.lookup m = none ∧ t σ H1 fun vs H2 => tk σ H2 fun zs H3 => (x :: vs).length = n ∧ zs.length = r ∧ sp (x :: (vs ++ zs)) H3 Q E0
def KwOk (X : Cx) (pos : Pos) (e : Expr) (es : List Expr) (kws : List Keyword) (ks : List Str) : Prop :=
  (backToKw pos (keywordEach kws X.env)).all (·.1.isSome) = true ∧ (backToKw pos (keywordEach kws X.env)).filterMap (·.1) = ks ∧ starEach (e :: es) X.env = (false, eval e X.env) :: starEach es X.env ∧
    ((backTo pos (starEach (e :: es) X.env)).any (·.1) || (backToKw pos (keywordEach kws X.env)).any (·.1.isNone)) = false
theorem pe_mtK {pl : Sem Bool} {n r : Nat} {ks : List Str} {kws : List Keyword} (c : MetK X.prog X.w X.K X.mg X.base k C m sp n ks) (hr : Room j X.A) (hk : k ≤ j) (he : PE X o ta) (ha : PA X (e :: es) t) (hkw : PK X kws tk)
    (hq : KwOk X pos e es kws ks := by exact ⟨rfl, rfl, rfl, rfl⟩) (ht : MC X o m apos pos (e :: es) kws pl := by exact rfl) (hl : ks.length = r := by rfl) : PE X (.Call (.Attribute o m apos) (e :: es) kws pos) (tMethK C m n r sp ta t tk) := by
  subst hl
  obtain ⟨f, fd, ps, hc, hm, F, hb⟩ := c.ex
  refine ⟨fun pins s σ H Q I h => PySem.W.methodCall_KW (pl := pl) (thn (he.run pins s σ H _ I h) fun u s1 hu => ?_) ht⟩
  obtain ⟨x, H1, I1, rx, a, dx, fs, rfl, ea, l, q⟩ := hu
  cases rx
  refine getmeth_ok I1 ea hc hm l (PySem.W.callWith_KW (first := [.ref a]) (h₀ := X.base) I.ok.mod.kin hm.kp hq.1 (thn (ha.run pos pins s1 σ H1 _ I1 q) fun us s2 hu => ?_) hq.2.2.2 hq.2.2.1)
  obtain ⟨vs, H2, I2, r, q2⟩ := hu
  refine thn (hkw.run pos pins s2 σ H2 _ I2 q2) fun ws s3 hw => ?_
  obtain ⟨zs, H3, I3, rz, l1, l2, q3⟩ := hw
  refine ⟨I3.kIn, ?_⟩
  rw [hq.2.1]
  exact run_fnN (us := .ref a :: us) (vs := .ref a :: vs) F (hr.mono hk) hb C8.pass0 I3 (.cons rfl r) rz l1 l2 q3
/-- keyword-only parameters, all given in their order; no positional defaults -/
theorem kbn_all {K : PySem.W.Frag} {x qual : Str} {params : Arguments} {body : List Stmt} {scope : Scope} {kws : List (Str × V)} {f : Addr} {fd : FuncData} {ps : List Str} (F : FunD K x qual params body scope [] kws f fd) (n : Nat) (ks : List Str)
    (h : ∀ (kV doc pm : Value) (an : Option Addr) (cdv ct : Value) (us ws : List Value), us.length = n → ws.length = ks.length → bindArgs (PySem.W.fnOf x qual params body scope .none kV doc pm an cdv ct) ⟨us, ks.zip ws⟩ = pure (ps.zip (us ++ ws))) : KBn K fd ps n ks (fun us ws => us ++ ws) (fun us ws => us ++ ws) := by
  obtain ⟨oc, od, dV, kV, doc, pm, an, cdv, ct, osl, rfl, lk, hcd, hD, _⟩ := F.ex
  rcases hD with ⟨_, rfl⟩ | ⟨e, _⟩
  · exact ⟨fun s us ws _ l1 l2 => .of_eq (h kV doc pm an cdv ct us ws l1 l2), fun r1 r2 => r1.append r2⟩
  · exact absurd rfl e
end
end RM
namespace RM
open PySem PySem.Spec PyProof.Rows L2
section
variable {σ : L2.St} {H : Hp} {Q : VK} {ta : TE} {tl tk : TA} {sp : Sp} {C : Addr} {m : Str}
def MetWK (C : Addr) (m : Str) (n r : Nat) (sp : Sp) (t tk : TA) (σ : L2.St) (Q : VK) (x : V) (H1 : Hp) : Prop := ∃ a dx fs, x = .ref a ∧ H1 a = some (.ins C dx fs) ∧ fs.lookup m = none ∧ t σ H1 fun vs H2 => tk σ H2 fun zs H3 => (x :: vs).length = n ∧ zs.length = r ∧ sp (x :: (vs ++ zs)) H3 Q E0
theorem wp_methK {n r : Nat} (h : ta σ H fun x H1 => MetWK C m n r sp tl tk σ Q x H1) : tMethK C m n r sp ta tl tk σ H Q := h
theorem met_atK {a dx : Addr} {fs : List (Str × V)} {n r : Nat} (ha : H a = some (.ins C dx fs)) (hl : fs.lookup m = none) (q : tl σ H fun vs H2 => tk σ H2 fun zs H3 => (V.ref a :: vs).length = n ∧ zs.length = r ∧ sp (.ref a :: (vs ++ zs)) H3 Q E0) : MetWK C m n r sp tl tk σ Q (.ref a) H := ⟨a, dx, fs, rfl, ha, hl, q⟩
end
end RM
namespace RM
open PySem PySem.Spec PyProof.Rows L2
/-! ### list(d.values()) -/
def tListVals (te : TE) : TE := fun σ H Q => te σ H fun x H1 => ∃ (d : Addr) (kvs : List (Key × V)), x = .ref d ∧ H1 d = some (.dK kvs) ∧ ∀ p, H1 p = none → Q (.ref p) (upd H1 p (.lst (kvs.map (·.2))))
theorem kv_snd : ∀ {kvs : List (Key × V)} {vs : List (Key × Value)}, KV kvs vs → Vals (kvs.map (·.2)) (vs.map (·.2))
  | _, _, .nil => .nil
  | _, _, .cons h t => .cons h.2 (kv_snd t)
section
variable {X : Cx} {e : Expr} {te : TE} {p apos cpos pos : Pos}
abbrev valsE (e : Expr) (apos cpos : Pos) : Expr := .Call (.Attribute e "values" apos) [] [] cpos
theorem pe_listVals (hc : X.calm = true) (he : PE X e te) (hg : Gl X "list") (hm : X.mg "list" = none) (hv : bootBuiltins "list" = some (.type "list")) (hb : attributeBase e "values" X.env (eval e X.env) = eval e X.env := by rfl) (hl : (apos.endLine == cpos.line) = true := by rfl)
    (hs : starEach [valsE e apos cpos] X.env = (false, eval (valsE e apos cpos) X.env) :: starEach [] X.env := by rfl) : PE X (.Call (.Name "list" p) [valsE e apos cpos] [] pos) (tListVals te) := by
  refine ⟨fun pins s σ H Q I hq => wpAny_Call_Name_kw (ld_blt I hg hm hv (PyProof.Rows.callWith_type1 ?_ hs rfl))⟩
  rw [hs]; show wpAny _ _ (spliced ((false, eval (valsE e apos cpos) X.env) :: backTo pos (starEach [] X.env))) _ _ s
  refine Calls.spliced_cons (wpAny_Call_method (T := "dict") (id := "dict.values") hb rfl hl F.plainAttrs_dict F.slot_dict_values F.type_dict_values (thn (he.run pins s σ H _ I hq) fun u s1 hu => ?_))
  obtain ⟨x, H1, I1, rx, d, kvs, rfl, hd, q⟩ := hu
  cases rx
  obtain ⟨hz, hs0, vs, kv, hdo⟩ := I1.hok d _ hd
  obtain ⟨ep, hat⟩ := hdo.dictAt
  have lk : kvs.length = vs.length := Paired.length kv
  have I2 : Inv X pins σ H1 { s1 with heap := s1.heap.push { cls := .type "dict_values", data := .fields #[.ref d] } } := I1.kept (t' := s1.toks) fun b ob w => Heap.get?_push_of_some _ w
  refine ⟨hdo.typeIs, hdo.mapOf.noDict, (?_ : wpAny _ _ (callWith cpos (.builtin "dict.values") [.ref d] [] []) _ X.xe s1)⟩
  refine method_meetsIn F.slot_dict_values F.entry_dict_values rfl (PySem.evalArgs_none ⟨rfl, hdo.typeIs, F.args_dict_values_1 _, _, meets_dict_values (mixKind X.prog X.w) d hs0, ⟨vs, hdo⟩, Calls.spliced_nil ?_⟩)
  refine PySem.W.kdl_call (PySem.W.kdl_values (knd := mixKind X.prog X.w) (kvs := vs) (ep := ep) (r := s1.heap.objs.size) (d := d)) (I1.ok.hd hc) ⟨⟨_, Heap.get?_push_size _ rfl, rfl, rfl⟩, hat.push _⟩ (by omega) fun h' tk acc c' hk hD hacc => ?_
  have ev : acc.toList = vs.map (·.2) := PySem.W.kdl_vals_eq acc.toList (by rw [Array.length_toList]; exact hacc.1) fun j v w => hacc.2 j v (by rw [← Array.getElem?_toList]; exact w)
  have hvv : Vals (kvs.map (·.2)) acc.toList := by rw [ev]; exact kv_snd kv
  exact ⟨.ref _, _, I2.laid (t' := tk) hk (Nat.le_refl _) (show ObjOk X.prog X.w _ _ _ (.lst (kvs.map (·.2))) from ⟨by rw [List.length_map]; exact hz, acc.toList, c', hvv, by rw [Array.toArray_toList]; exact hD⟩), rfl, q _ (I2.hok.fresh (Nat.le_refl _))⟩
end
end RM
namespace RM
open PySem PySem.Spec PyProof.Rows L2
/-! ### dict comprehensions -/
section
variable {σ : L2.St} {H : Hp} {Q : VK} {K : PySem.W.Frag} {g : TG} {tt : TT} {tk tv ta : TE} {vs : List Nat}
def DcW (J : It) (g : TG) (tt : TT) (tk tv : TE) (vs : List Nat) (σ : L2.St) (H1 : Hp) (Q : VK) : Prop := tDc (fun _ H R => R J H) g tt tk tv vs σ H1 Q
theorem wp_dcL (h : ta σ H fun x H1 => ∃ a, x = .ref a ∧ (∃ xs, SqL K H1 a xs) ∧ DcW (Itl K a) g tt tk tv vs σ H1 Q) : tDc (iList K ta) g tt tk tv vs σ H Q := h
theorem dcL {a : Addr} {xs : List V} (hx : SqL K H a xs) (hn : xs.length ≤ 100000) (kv : Nat → List (Key × V)) (h0 : kv 0 = []) (hlen : ∀ i, (kv i).length ≤ i)
    (hs : ∀ i x H2 (R : V → V → Hp → Prop), xs[i]? = some x → Same H H2 → (∀ k z H5, Same H2 H5 → kv (i + 1) = putK (kv i) k z → R (kV k) z H5) → g x (wipe σ vs) H2 fun σ2 H3 => wipe σ2 vs = wipe σ vs ∧ tk σ2 H3 fun y H4 => tv σ2 H4 fun z H5 => R y z H5)
    (hq : ∀ D H2, H D = none → Same H H2 → H2 D = some (.dK (kv xs.length)) → Q (.ref D) H2) : ∃ b, V.ref a = .ref b ∧ (∃ ys, SqL K H b ys) ∧ DcW (Itl K b) g tYes tk tv vs σ H Q := by
  refine ⟨a, rfl, ⟨xs, hx⟩, ?_⟩
  intro D hD
  refine ⟨fun i m H2 => m = xs.length - i ∧ i ≤ xs.length ∧ Same H H2 ∧ H2 D = some (.dK (kv i)), ⟨xs.length, by simp, Nat.zero_le _, Same.new hD, by rw [h0]; exact upd_same⟩, ?_⟩
  rintro i m H2 ⟨rfl, hi, s1, hD2⟩
  have hx2 := Same.seq s1 hx
  rcases Nat.lt_or_ge i xs.length with h | h
  · right
    refine ⟨⟨xs, xs[i], hx2, List.getElem?_eq_getElem h⟩, fun H' => Same H H' ∧ H' D = some (.dK (kv (i + 1))), fun H' hN => ⟨xs.length - (i + 1), by omega, rfl, by omega, hN⟩, fun x H' hy => ?_⟩
    obtain ⟨e, hy⟩ := hy
    subst e
    have hxi := hy xs hx2
    exact hs i x _ (fun y z H5 => ∃ kvs k, y = kV k ∧ H5 D = some (.dK kvs) ∧ kvs.length < sizeLine ∧ (Same H (upd H5 D (.dK (putK kvs k z))) ∧ upd H5 D (.dK (putK kvs k z)) D = some (.dK (kv (i + 1))))) hxi s1 fun k z H5 s5 e => ⟨kv i, k, rfl, s5 _ _ hD2, szlt (by have := hlen i; omega), Same.mut (s1.trans s5) hD, by rw [e]; exact upd_same⟩
  · left
    have e : i = xs.length := by omega
    subst e
    exact ⟨⟨xs, hx2, Nat.le_refl _⟩, hq D H2 hD s1 hD2⟩
end
end RM
namespace RM
open PySem PySem.Spec PyProof.Rows L2
/-! ### dicts: items, walks -/
theorem u1 {n : Nat} {A : Around} (h : Room n A) : A.units + 1 < cLine := by have := h.units; omega
section
variable {σ : L2.St} {H : Hp} {Q : VK} {K : PySem.W.Frag} {g : TG} {tt : TT} {tk tv te td ty tx : TE} {vs : List Nat} {kvs : List (Key × V)} {d : Addr} {v : V}
theorem wp_dgetE (h : td σ H fun x H1 => ty σ H1 fun y H2 => ∃ a v, x = .ref a ∧ DGet H2 a y (some v) ∧ Q v H2) : tDGet td ty σ H Q := h
theorem dget_at {R : V → Prop} {k : Key} (hd : Rd H d (.dK kvs)) (hv : valV kvs k = some v) (q : R v) : ∃ a v, V.ref d = .ref a ∧ DGet H a (kV k) (some v) ∧ R v := ⟨d, v, rfl, .inl ⟨kvs, k, hd, rfl, hv.symm⟩, q⟩
theorem dget_s {R : V → Prop} {l : List Nat} (hd : Rd H d (.dK kvs)) (hv : valV kvs (.inr (S l)) = some v) (q : R v) : ∃ a v, V.ref d = .ref a ∧ DGet H a (.str (S l)) (some v) ∧ R v := ⟨d, v, rfl, .inl ⟨kvs, .inr (S l), hd, rfl, hv.symm⟩, q⟩
theorem wp_dnew (h : ∀ p, H p = none → Q (.ref p) (upd H p (.dK []))) : tDNewK σ H Q := h
theorem wp_lockE {t : TE} (hd : H d = some (.dK kvs)) (h : ∀ od, t σ (upd H d (.frz od (.dK kvs))) fun v H' => H' d = some (.frz od (.dK kvs)) ∧ Q v (upd H' d (.dK kvs))) : tLockE t σ H Q := ⟨d, _, hd, True.intro, h⟩
theorem unl {od : Obj} {H' : Hp} (hd : H d = some (.dK kvs)) (s : Same (upd H d (.frz od (.dK kvs))) H') : Same H (upd H' d (.dK kvs)) := fun a o h => by
  by_cases e : a = d
  · subst e; rw [hd] at h; cases h; exact upd_same
  · rw [upd_ne e]; exact s _ _ (by rw [upd_ne e]; exact h)
theorem frz_at {od : Obj} {H2 : Hp} (s : Same (upd H d (.frz od (.dK kvs))) H2) : H2 d = some (.frz od (.dK kvs)) := s _ _ upd_same
theorem frz_ne {od : Obj} {H2 : Hp} {a : Addr} {o : HO} (hd : H d = some (.dK kvs)) (s : Same (upd H d (.frz od (.dK kvs))) H2) (h : H a = some o) (n : ∀ kvs, o ≠ .dK kvs) : H2 a = some o := s _ _ (by
  rw [upd_ne (fun e => by rw [e, hd] at h; cases h; exact n _ rfl)]; exact h)
/-- a dict comprehension over a dict's keys -/
theorem lock_dc (hd : H d = some (.dK kvs)) (hn : kvs.length ≤ 100000) (hv : ∀ H' (R : VK), R (.ref d) H' → td σ H' R)
    (kv : Nat → List (Key × V)) (h0 : kv 0 = []) (hlen : ∀ i, (kv i).length ≤ i)
    (hs : ∀ i k x od H2 (R : V → V → Hp → Prop), kvs[i]? = some (k, x) → Same (upd H d (.frz od (.dK kvs))) H2 → (∀ k' z H5, Same H2 H5 → kv (i + 1) = putK (kv i) k' z → R (kV k') z H5) →
      g (kV k) (wipe σ vs) H2 fun σ2 H3 => wipe σ2 vs = wipe σ vs ∧ tk σ2 H3 fun y H4 => tv σ2 H4 fun z H5 => R y z H5)
    (hq : ∀ D H2, H D = none → Same H H2 → H2 D = some (.dK (kv kvs.length)) → Q (.ref D) H2) : tLockE (tDc (iKeys td) g tYes tk tv vs) σ H Q := by
  refine wp_lockE hd fun od => ?_
  refine hv _ _ ⟨d, od, rfl, .inl ⟨kvs, upd_same, ?_⟩⟩
  intro D hD
  have nDd : D ≠ d := fun e => by rw [e, upd_same] at hD; cases hD
  have hD' : H D = none := by rw [upd_ne nDd] at hD; exact hD
  refine ⟨fun i m H2 => m = kvs.length - i ∧ i ≤ kvs.length ∧ Same (upd H d (.frz od (.dK kvs))) H2 ∧ H2 D = some (.dK (kv i)), ⟨kvs.length, by simp, Nat.zero_le _, Same.new hD, by rw [h0]; exact upd_same⟩, ?_⟩
  rintro i m H2 ⟨rfl, hi, s1, hD2⟩
  have hf := frz_at s1
  rcases Nat.lt_or_ge i kvs.length with h | h
  · right
    refine ⟨⟨hf, h⟩, fun H' => Same (upd H d (.frz od (.dK kvs))) H' ∧ H' D = some (.dK (kv (i + 1))), fun H' hN => ⟨kvs.length - (i + 1), by omega, rfl, by omega, hN⟩, fun x H' hy => ?_⟩
    obtain ⟨e, k, v, hkv, rfl⟩ := hy
    subst e
    exact hs i k v od _ (fun y z H5 => ∃ kvs' k, y = kV k ∧ H5 D = some (.dK kvs') ∧ kvs'.length < sizeLine ∧ (Same (upd H d (.frz od (.dK kvs))) (upd H5 D (.dK (putK kvs' k z))) ∧ upd H5 D (.dK (putK kvs' k z)) D = some (.dK (kv (i + 1))))) hkv s1 fun k z H5 s5 e => ⟨kv i, k, rfl, s5 _ _ hD2, szlt (by have := hlen i; omega), Same.mut (s1.trans s5) hD, by rw [e]; exact upd_same⟩
  · left
    have e : i = kvs.length := by omega
    subst e
    exact ⟨⟨hf, Nat.le_refl _⟩, hf, hq D _ hD' (unl hd s1) (by rw [upd_ne nDd]; exact hD2)⟩
/-- d.setdefault(k, []).append(x) and the like -/
theorem wp_dsetd (h : td σ H fun x H1 => ∃ a, x = .ref a ∧ IsD H1 a ∧ ty σ H1 fun y H2 => tx σ H2 fun z H3 => ∃ (kvs : List (Key × V)) (k : Key), H3 a = some (.dK kvs) ∧ y = kV k ∧ kvs.length < sizeLine ∧
  (∀ v, valV kvs k = some v → Q v H3) ∧ (valV kvs k = none → Q z (upd H3 a (.dK (putK kvs k z))))) : tDSetd td ty tx σ H Q := h
theorem wp_lv (h : te σ H fun x H1 => ∃ (d : Addr) (kvs : List (Key × V)), x = .ref d ∧ H1 d = some (.dK kvs) ∧ ∀ p, H1 p = none → Q (.ref p) (upd H1 p (.lst (kvs.map (·.2))))) : tListVals te σ H Q := h
end
/-- a dict by names -/
def dN (f : List Nat → V) (ns : List (List Nat)) : List (Key × V) := ns.map fun l => (.inr (S l), f l)
theorem dN_len {f : List Nat → V} {ns : List (List Nat)} : (dN f ns).length = ns.length := List.length_map ..
theorem key_inj {a b : List Nat} (h : (Sum.inr (S a) : Key) = .inr (S b)) : a = b := by
  injection h with h
  exact S_inj h
theorem dN_val {f : List Nat → V} {l : List Nat} : ∀ {ns : List (List Nat)}, l ∈ ns → valV (dN f ns) (.inr (S l)) = some (f l)
  | m :: ns, h => by
    by_cases e : m = l
    · subst e
      exact valV_pos rfl
    · show valV ((Sum.inr (S m), f m) :: dN f ns) _ = _
      have ne : ¬ ((Sum.inr (S m), f m) : Key × V).1 = (Sum.inr (S l) : Key) := fun z => e (key_inj z)
      rw [valV_neg ne]
      exact dN_val ((List.mem_cons.mp h).resolve_left (Ne.symm e))
theorem dN_none {f : List Nat → V} {l : List Nat} : ∀ {ns : List (List Nat)}, l ∉ ns → valV (dN f ns) (.inr (S l)) = none
  | [], _ => rfl
  | m :: ns, h => by
    show valV ((Sum.inr (S m), f m) :: dN f ns) _ = _
    have ne : ¬ ((Sum.inr (S m), f m) : Key × V).1 = (Sum.inr (S l) : Key) := fun z => h (by rw [key_inj z]; exact List.mem_cons_self)
    rw [valV_neg ne]
    exact dN_none fun z => h (List.mem_cons_of_mem _ z)
theorem dN_put {f : List Nat → V} {l : List Nat} {ns : List (List Nat)} (h : l ∉ ns) : putK (dN f ns) (.inr (S l)) (f l) = dN f (ns ++ [l]) := by
  rw [putK_new _ (dN_none h)]
  unfold dN
  rw [List.map_append]
  rfl
theorem dN_at {f : List Nat → V} {ns : List (List Nat)} {i : Nat} {k : Key} {x : V} (h : (dN f ns)[i]? = some (k, x)) : ∃ l, ns[i]? = some l ∧ k = .inr (S l) ∧ x = f l := by
  unfold dN at h
  rw [List.getElem?_map] at h
  obtain ⟨l, hl, e⟩ := Option.map_eq_some_iff.mp h
  cases e
  exact ⟨l, hl, rfl, rfl⟩
theorem dN_congr {f g : List Nat → V} {ns : List (List Nat)} (h : ∀ l ∈ ns, f l = g l) : dN f ns = dN g ns := List.map_congr_left fun l hl => by rw [h l hl]
theorem take_snoc {α : Type} {ns : List α} {i : Nat} {l : α} (h : ns[i]? = some l) : ns.take (i + 1) = ns.take i ++ [l] := by
  obtain ⟨hl, e⟩ := List.getElem?_eq_some_iff.mp h
  rw [← e, List.take_append_getElem]
end RM
namespace RM
open PySem PySem.Spec PyProof.Rows L2 ItX
/-! ### for x in o: o of an own class whose __iter__ hands out a young iterator -/
/-- a def that may know how large the heap was when it was called -/
structure FnN (P : Program) (w : World) (K : PySem.W.Frag) (mg : Str → Option Value) (base : Heap) (k : Nat) (f : Addr) (fd : FuncData) (ps : List Str) (sp : Nat → Sp) : Prop where
  len : ∀ n vs H Q E, sp n vs H Q E → vs.length = ps.length
  run : ∀ A outer s H (args : Args) us vs Q E, Room k A → Env0 P w K mg base A outer s H → BindsTo s fd args (ps.zip us) → Vals vs us → sp s.heap.objs.size vs H Q E →
    codeAny (model P w) A (.call (.ref f) args) (CR CX0 outer P w H s Q E) s
theorem fn_young {P : Program} {w : World} {K : PySem.W.Frag} {mg : Str → Option Value} {base : Heap} {k : Nat} {f : Addr} {x qual : Str} {params : Arguments} {body : List Stmt} {scope : Scope} {fd : FuncData} {N ps : List Str} {sp : Nat → Sp}
    (F : FunD K x qual params body scope [] [] f fd) (S : FnScope N ps scope) (len : ∀ n vs H Q E, sp n vs H Q E → vs.length = ps.length)
    (hb : ∀ cdv A outer (s : Shared) H vs Q E, Room k (A.deeper (envOfC qual scope s.heap.objs.size f cdv)) → sp s.heap.objs.size vs H Q E →
      ∃ t, PSs (cxOf CX0 P w K mg base N qual scope f cdv A outer s H E) body t ∧ t { nx := fun _ H' => Q .non H', rt := Q } (L2.start N vs) H) : FnN P w K mg base (k + 1) f fd ps sp := by
  obtain ⟨oc, od, dV, kV, doc, pm, an, cdv, ct, osl, rfl, look, cod, _⟩ := F.ex
  refine ⟨len, ?_⟩
  intro A outer s H args us vs Q E room env bnd rel prem
  have cnt := len _ _ _ _ _ prem
  have up : ∀ b o, base.get? b = some o → s.heap.get? b = some o := fun b o z => (env.bs b o z).1
  have inK : K.In s.heap := env.mod.kin.keeps up
  refine codeAny_call_function room.depth (inK _ _ look) rfl S.co S.gen rfl (PySem.W.codeRec_of inK cod) (bnd _ _ _ _ ?_)
  refine wpAny_newFunctionEnv_cells S.kind ?_ fun en he s1 z => ?_
  · rintro ⟨m, v⟩ hm
    cases S.par m (List.of_mem_zip hm).1 with
    | inl q => exact .inl q
    | inr q => exact .inr ⟨q, PySem.W.cellsFrom_some _ _ _ (.inl q)⟩
  subst he
  refine ⟨(env.mod.nolimit.keeps up).keeps z.toInCall.keep, codeAny_func ?_⟩
  obtain ⟨t, ht, hq⟩ := hb cdv A outer s H vs Q E (room.deeper _) prem
  have I0 := inv_start (CX := CX0) (E := E) S room.hd env cnt rel z
  refine wpAny_mono (ht.run [] s1 (L2.start N vs) H _ I0 hq) (fun fl s' hs => ?_) fun _ _ hs => hs
  cases fl with
  | ret u =>
    obtain ⟨v, σ', H', J, rv, q⟩ := hs
    exact ⟨v, H', J.os, J.bare, J.base, J.hok, rv, q⟩
  | next =>
    obtain ⟨σ', H', J, q⟩ := hs
    exact ⟨V.non, H', J.os, J.bare, J.base, J.hok, rfl, q⟩
  | brk => exact hs.choose_spec.choose_spec.2.elim
  | cont => exact hs.choose_spec.choose_spec.2.elim
/-- an iterator over the locked dict d -/
def KeyIt (d : Addr) (o : Obj) (n it : Addr) : HO := .ext fun h => ∃ (es : Array DictEntry) (ep : Nat), o.data = .dict es ep ∧ h.IsKeyIter it d 0 n ep
def rIterK (n : Nat) : List V → Hp → VK → Prop := fun xs H Q => ∃ (d : Addr) (o : Obj) (kvs : List (Key × V)), xs = [.ref d] ∧ H d = some (.frz o (.dK kvs)) ∧ ∀ it, H it = none → n ≤ it → Q (.ref it) (upd H it (KeyIt d o kvs.length it))
section
variable {X : Cx}
theorem call_iterK : CallR X (.builtin "iter") (rIterK X.s_0.heap.objs.size) := by
  intro pins s σ H xs us Q I r h
  obtain ⟨d, o, kvs, rfl, hd, q⟩ := h
  obtain ⟨u, rfl, ru⟩ := r.one
  cases ru
  obtain ⟨hs, hgd, hx, es, ep, vs, hdt, hsz, kv, hm⟩ := I.frzK hd
  refine Calls.call_function_entry (by decide +kernel) (by decide +kernel) PySem.W.kdk_entry_iter (PySem.W.kdk_args_iter _) ?_
  unfold Builtin.«iter»
  refine wpAny_bind (m := someArgs "iter" 1 2 _) (wpAny_of_eq (a := [Value.ref d]) (by first | rfl | kernel_rfl!) ?_)
  show wpAny _ _ (pyIter (.ref d) >>= _) _ _ _
  refine wpAny_bind (iter_keys hs hgd hx hdt ?_)
  have ki : (s.heap.push { cls := .type "dict_keyiterator", data := .fields #[.ref d, .int 0 0, .int es.size 0, .int ep 0] }).IsKeyIter s.heap.objs.size d 0 kvs.length ep := ⟨_, Heap.get?_push_size _ rfl, rfl, by rw [hsz] <;> rfl⟩
  have ko : ∀ {H2 : Hp}, ObjOk X.prog X.w H2 (s.heap.push { cls := .type "dict_keyiterator", data := .fields #[.ref d, .int 0 0, .int es.size 0, .int ep 0] }) s.heap.objs.size (KeyIt d o kvs.length s.heap.objs.size) := fun {H2} =>
    ⟨⟨es, ep, hdt, ki⟩, ⟨_, Heap.get?_push_size _ rfl⟩, fun h1 h2 z kk => by
      obtain ⟨es', ep', e1, ob, e2, e3, e4⟩ := z
      exact ⟨es', ep', e1, ob, kk _ e2, e3, e4⟩⟩
  exact wpAny_pure ⟨_, rfl, .ref s.heap.objs.size, _, I.laid (t' := s.toks) (fun b u e => Heap.get?_push_of_some _ e) (Nat.le_refl _) ko, rfl, q _ (I.hok.fresh (Nat.le_refl _)) I.sz⟩
end
/-- __iter__ of the class at C -/
structure ItrN (P : Program) (w : World) (K : PySem.W.Frag) (mg : Str → Option Value) (base : Heap) (n : Nat) (C : Addr) (sp : Nat → Sp) : Prop where
  ex : ∃ (f : Addr) (fd : FuncData) (ps : List Str), PySem.W.findIn K (.ref C) "__iter__" = some (some (.ref f)) ∧ PySem.W.isFn K (.ref f) = true ∧ FnN P w K mg base n f fd ps sp ∧ Binds K fd ps []
/-- what __iter__ promises: iter(self.F), F a list or a locked dict -/
def spYoung (K : PySem.W.Frag) (C : Addr) (F : Str) (n : Nat) : Sp := fun vs H Q _ => ∃ a dx fs l zs, vs = [.ref a] ∧ H a = some (.ins C dx fs) ∧ fs.lookup F = some (.ref l) ∧ SqL K H l zs ∧ ∀ it, H it = none → n ≤ it → Q (.ref it) (upd H it (ItO l it 0))
def spYoungK (C : Addr) (F : Str) (n : Nat) : Sp := fun vs H Q _ => ∃ a dx fs d o kvs, vs = [.ref a] ∧ H a = some (.ins C dx fs) ∧ fs.lookup F = some (.ref d) ∧ H d = some (.frz o (.dK kvs)) ∧ ∀ it, H it = none → n ≤ it → Q (.ref it) (upd H it (KeyIt d o kvs.length it))
theorem dropH_upd' {H : Hp} {a : Addr} {o : HO} (h : H a = none) : dropH (upd H a o) a = H := by
  funext b
  by_cases e : b = a
  · rw [e, dropH_same, h]
  · rw [dropH_ne e, upd_ne e]
def iOwnL (K : PySem.W.Frag) (C : Addr) (F : Str) (te : TE) : TI := fun σ H R => te σ H fun x H1 => ∃ a dx fs l zs, x = .ref a ∧ H1 a = some (.ins C dx fs) ∧ fs.lookup F = some (.ref l) ∧ SqL K H1 l zs ∧ R (Itl K l) H1
def iOwnK (C : Addr) (F : Str) (te : TE) : TI := fun σ H R => te σ H fun x H1 => ∃ a dx fs d o kvs, x = .ref a ∧ H1 a = some (.ins C dx fs) ∧ fs.lookup F = some (.ref d) ∧ H1 d = some (.frz o (.dK kvs)) ∧ R (Itk d o kvs) H1
section
variable {X : Cx} {tg e : Expr} {te : TE} {C : Addr} {F : Str} {n j : Nat} {pins : List (Addr × Obj)} {σ : L2.St} {H : Hp} {s : Shared} {A : Around} {f : Addr} {fd : FuncData} {ps : List Str} {sp : Nat → Sp}
theorem run_young {E' : Value → Shared → Prop} (sb : Sub X n A) (G : FnN X.prog X.w X.K X.mg X.base n f fd ps sp) (hb : Binds X.K fd ps []) (I : Inv X pins σ H s) {us : List Value} {vs : List V} {Q : VK} (r : Vals vs us) (h : sp s.heap.objs.size vs H Q E0) :
    wpAny (model X.prog X.w) A (call (.ref f) us) (EP X pins σ Q) E' s := by
  have e0 : Env0 X.prog X.w X.K X.mg X.base A X.stack s H := by
    have e := I.env0
    exact ⟨by rw [sb.fr]; exact e.frames, e.mod, e.bs, e.bsz, e.funs, e.frf, e.hok, e.bare⟩
  have hl := G.len _ _ _ _ _ h
  have bt := hb s us I.kIn (by rw [List.append_nil, ← r.length]; exact hl)
  rw [List.append_nil] at bt
  refine wpAny_call (codeAny_mono (G.run A X.stack s H ⟨us, []⟩ us vs Q E0 sb.room e0 bt r h) fun r s' hq => ?_)
  match r with
  | .error e => exact hq.elim
  | .ok (.ret u) => exact I.after hq
  | .ok .next => exact hq.elim
  | .ok .brk => exact hq.elim
  | .ok .cont => exact hq.elim
theorem pi_ownL (G : ItrN X.prog X.w X.K X.mg X.base n C (spYoung X.K C F)) (hr : Room j X.A) (hk : n ≤ j) (he : PE X e te) : PI X tg e (iOwnL X.K C F te) := by
  obtain ⟨f, fd, ps, hs, hf, FN, hb⟩ := G.ex
  refine ⟨fun pins s σ H R I h => ?_⟩
  refine thn (he.run pins s σ H _ I h) fun u s1 ⟨x, H1, I1, rx, a, dx, fs, l, zs, ex, ea, lk, sq, q⟩ => ?_
  subst ex
  obtain rfl : u = Value.ref a := rx
  obtain ⟨od, J⟩ := inst_of I1 ea
  obtain ⟨m, hF⟩ := I1.fr
  refine PySem.W.owit_iter hF I1.ok.mod.kin J hs hf ?_
  refine wpAny_mono (run_young (us := [.ref a]) (vs := [.ref a]) (Q := fun v H2 => ∃ it, v = .ref it ∧ H1 it = none ∧ s1.heap.objs.size ≤ it ∧ H2 = upd H1 it (ItO l it 0)) ⟨hr.mono hk, rfl⟩ FN hb I1 (.cons rfl .nil) ⟨a, dx, fs, l, zs, rfl, ea, lk, sq, fun it h1 h2 => ⟨it, rfl, h1, h2, rfl⟩⟩) (fun u s2 hu => ?_) fun _ _ e => e
  obtain ⟨v, H2, I2, rv, it, rfl, hn, hle, rfl⟩ := hu
  cases rv
  have ito := itO_get I2 upd_same
  have hT : s2.TypeIs (.ref it) "list_iterator" := ⟨_, ito, rfl⟩
  unfold PySem.W.OwitIt
  show wpAny _ _ (typeOf (.ref it) >>= fun t => typeLookup t "__next__") _ _ _
  refine wpAny_bind (wpAny_typeOf hT (wpAny_of_eq slot_listiter_next.lookup ?_))
  have hi' : upd H1 it (ItO l it 0) it = some (ItO l it 0) := upd_same
  have fp := inv_fp I2 hi' (Nat.le_trans I1.sz hle)
  unfold ItO at hi'
  have I3 := inv_drop I2 hi'
  rw [dropH_upd' hn] at I3 fp
  refine ⟨it, [it], fun i h => h.IsListIter it l i, Itl X.K l, H1, rfl, I3, turn_list l it, ⟨_, ito, rfl, rfl⟩, fun b hb => ?_, q⟩
  rw [List.mem_singleton.mp hb]
  exact fp
theorem pi_ownK (G : ItrN X.prog X.w X.K X.mg X.base n C (spYoungK C F)) (hr : Room j X.A) (hk : n ≤ j) (he : PE X e te) : PI X tg e (iOwnK C F te) := by
  obtain ⟨f, fd, ps, hs, hf, FN, hb⟩ := G.ex
  refine ⟨fun pins s σ H R I h => ?_⟩
  refine thn (he.run pins s σ H _ I h) fun u s1 ⟨x, H1, I1, rx, a, dx, fs, d, o, kvs, ex, ea, lk, fz, q⟩ => ?_
  subst ex
  obtain rfl : u = Value.ref a := rx
  obtain ⟨od, J⟩ := inst_of I1 ea
  obtain ⟨m, hF⟩ := I1.fr
  refine PySem.W.owit_iter hF I1.ok.mod.kin J hs hf ?_
  refine wpAny_mono (run_young (us := [.ref a]) (vs := [.ref a]) (Q := fun v H2 => ∃ it, v = .ref it ∧ H1 it = none ∧ s1.heap.objs.size ≤ it ∧ H2 = upd H1 it (KeyIt d o kvs.length it)) ⟨hr.mono hk, rfl⟩ FN hb I1 (.cons rfl .nil) ⟨a, dx, fs, d, o, kvs, rfl, ea, lk, fz, fun it h1 h2 => ⟨it, rfl, h1, h2, rfl⟩⟩) (fun u s2 hu => ?_) fun _ _ e => e
  obtain ⟨v, H2, I2, rv, it, rfl, hn, hle, rfl⟩ := hu
  cases rv
  have hi' : upd H1 it (KeyIt d o kvs.length it) it = some (KeyIt d o kvs.length it) := upd_same
  have hok := I2.hok it _ hi'
  obtain ⟨es, ep, hdt, ki⟩ := hok.1
  have hT : s2.TypeIs (.ref it) "dict_keyiterator" := ki.typeIs
  unfold PySem.W.OwitIt
  show wpAny _ _ (typeOf (.ref it) >>= fun t => typeLookup t "__next__") _ _ _
  refine wpAny_bind (wpAny_typeOf hT (wpAny_of_eq PySem.F.slot_dict_keyiterator_next.lookup ?_))
  have fp := inv_fp I2 hi' (Nat.le_trans I1.sz hle)
  unfold KeyIt at hi'
  have I3 := inv_drop I2 hi'
  rw [dropH_upd' hn] at I3 fp
  refine ⟨it, [it], fun i h => h.IsKeyIter it d i kvs.length ep, Itk d o kvs, H1, rfl, I3, turn_keys it hdt, ki, fun b hb => ?_, q⟩
  rw [List.mem_singleton.mp hb]
  exact fp
end
end RM
namespace RM
open PySem PySem.Spec PyProof.Rows L2
/-! ### o[k] of an own class, dict(d), x not in y, walks over locked dicts -/
/-- a class's __getitem__ -/
structure SpcG (P : Program) (w : World) (K : PySem.W.Frag) (mg : Str → Option Value) (base : Heap) (n : Nat) (C : Addr) (sp : Sp) : Prop where
  ex : ∃ (f : Addr) (fd : FuncData) (ps : List Str), PySem.W.findIn K (.ref C) "__getitem__" = some (some (.ref f)) ∧ PySem.W.isFn K (.ref f) = true ∧ PySem.W.fnIn K f = true ∧ FnOk P w K mg base CX0 n f fd ps sp ∧ Binds K fd ps []
theorem FunD.isIn {K : PySem.W.Frag} {x qual : Str} {params : Arguments} {body : List Stmt} {scope : Scope} {dvs : List V} {kws : List (Str × V)} {f : Addr} {fd : FuncData} (F : FunD K x qual params body scope dvs kws f fd) : PySem.W.fnIn K f = true := by
  obtain ⟨oc, od, dV, kV, doc, pm, an, cdv, ct, osl, rfl, look, cod, _⟩ := F.ex
  unfold PySem.W.fnIn
  rw [look]
def tSubOwn (C : Addr) (sp : Sp) (ta ti : TE) : TE := fun σ H Q => ta σ H fun x H1 => ti σ H1 fun y H2 => ∃ a dx fs, x = .ref a ∧ H2 a = some (.ins C dx fs) ∧ sp [.ref a, y] H2 Q E0
section
variable {X : Cx} {o i : Expr} {pos : Pos} {ta ti : TE} {C : Addr} {n j : Nat} {sp : Sp}
theorem pe_subOwn (S : SpcG X.prog X.w X.K X.mg X.base n C sp) (hr : Room j X.A) (hk : n + 1 ≤ j) (ho : PE X o ta) (hi : PE X i ti)
    (hsl : ∀ (a : Addr) (v : Value), subscripted i true (.ref a) v = runValue (.builtin "lifetime.subscript" ⟨[.ref a, v], []⟩)) : PE X (.Subscript o i pos) (tSubOwn C sp ta ti) := by
  obtain ⟨f, fd, ps, hs, hf, hin, F, hb⟩ := S.ex
  refine ⟨fun pins s σ H Q I h => ?_⟩
  refine Subscript_ (thn (ho.run pins s σ H _ I h) fun u s1 ⟨x, H1, I1, rx, q1⟩ => thn (hi.run pins s1 σ H1 _ I1 q1) fun iv s2 ⟨y, H2, I2, ry, a, dx, fs, ex, ea, q2⟩ => ?_)
  subst ex
  obtain rfl : u = Value.ref a := rx
  obtain ⟨od, J⟩ := inst_of I2 ea
  obtain ⟨m, hF⟩ := I2.fr
  refine PySem.W.sub_K hF I2.ok.mod.kin J hs hin hf ?_ (hsl a iv)
  exact run_at (us := [.ref a, iv]) (vs := [.ref a, y]) (Sub.in1 ⟨hr.mono hk, rfl⟩) F hb I2 (.cons rfl (.cons ry .nil)) q2
def rDictOf : List V → Hp → VK → Prop := fun xs H Q => ∃ (a : Addr) (kvs : List (Key × V)), xs = [.ref a] ∧ Rd H a (.dK kvs) ∧ ∀ p, H p = none → Q (.ref p) (upd H p (.dK kvs))
theorem callDictOf : CallR X (.type "dict") rDictOf := by
  intro pins s σ H xs us Q I r h
  obtain ⟨a, kvs, rfl, hd, q⟩ := h
  obtain ⟨u, rfl, ru⟩ := r.one
  cases ru
  exact d_copyOf I hd fun p s' hp I' => ⟨.ref p, _, I', rfl, q p hp⟩
def rNotInX (K : PySem.W.Frag) : R2 := fun x y H Q => rIn K true x y H Q ∨ ∃ a o, y = .ref a ∧ DGet H a x o ∧ Q (.bl (!o.isSome)) H
theorem op_notInX (hu : X.A.units + 1 < cLine) : OpR X (compareOp .NotIn) (rNotInX X.K) := by
  intro pins s σ H x y v u Q I rx ry h
  rcases h with h | ⟨a, o, rfl, g, q⟩
  · exact op_notIn_seq pins s σ H x y v u Q I rx ry h
  · obtain rfl : u = Value.ref a := ry
    exact d_notIn hu I g rx fun s3 I3 => ⟨.bl (!o.isSome), H, I3, rfl, q⟩
end
section
variable {σ : L2.St} {H : Hp} {Q : VK} {K : PySem.W.Frag} {g : TG} {tb : TS} {D : Ends} {te td ty ta ti : TE} {kvs : List (Key × V)} {d C : Addr} {F : Str} {v : V} {sp : Sp}
theorem wp_subOwn (h : ta σ H fun x H1 => ti σ H1 fun y H2 => ∃ a dx fs, x = .ref a ∧ H2 a = some (.ins C dx fs) ∧ sp [.ref a, y] H2 Q E0) : tSubOwn C sp ta ti σ H Q := h
theorem wp_dictOf {a : Addr} (hd : Rd H a (.dK kvs)) (h : ∀ p, H p = none → Q (.ref p) (upd H p (.dK kvs))) : rDictOf [.ref a] H Q := ⟨a, kvs, rfl, hd, h⟩
theorem wp_notInXL {x y : V} (h : rIn K true x y H Q) : rNotInX K x y H Q := .inl h
theorem wp_notInXD {a : Addr} {l : List Nat} (hd : Rd H a (.dK kvs)) (h : Q (.bl (!(valV kvs (.inr (S l))).isSome)) H) : rNotInX K (.str (S l)) (.ref a) H Q := .inr ⟨a, _, rfl, .inl ⟨kvs, .inr (S l), hd, rfl, rfl⟩, h⟩
theorem wp_din (h : ty σ H fun y H1 => td σ H1 fun x H2 => ∃ a o, x = .ref a ∧ DGet H2 a y o ∧ Q (.bl o.isSome) H2) : tDIn ty td σ H Q := h
theorem din_s {R : Option V → Prop} {l : List Nat} (hd : Rd H d (.dK kvs)) (q : R (valV kvs (.inr (S l)))) : ∃ a o, V.ref d = .ref a ∧ DGet H a (.str (S l)) o ∧ R o := ⟨d, _, rfl, .inl ⟨kvs, .inr (S l), hd, rfl, rfl⟩, q⟩
end
section
variable {σ : L2.St} {H : Hp} {K : PySem.W.Frag} {g : TG} {tb : TS} {D : Ends} {td te : TE} {kvs : List (Key × V)} {d C : Addr} {F : Str} {od : Obj}
theorem wp_lock {t : TS} (hd : H d = some (.dK kvs)) (h : ∀ od, t ⟨fun σ' H' => H' d = some (.frz od (.dK kvs)) ∧ D.nx σ' (upd H' d (.dK kvs)), fun v H' => H' d = some (.frz od (.dK kvs)) ∧ D.rt v (upd H' d (.dK kvs)), fun σ' H' => H' d = some (.frz od (.dK kvs)) ∧ D.bk σ' (upd H' d (.dK kvs)), fun σ' H' => H' d = some (.frz od (.dK kvs)) ∧ D.ct σ' (upd H' d (.dK kvs))⟩ σ (upd H d (.frz od (.dK kvs)))) : tLock t D σ H := ⟨d, _, hd, True.intro, h⟩
theorem wp_forItems (h : td σ H fun x H1 => ∃ d o kvs, x = .ref d ∧ H1 d = some (.frz o (.dK kvs)) ∧ ForW (Iti d o kvs) g tb D σ H1) : tFor (iItems td) g tb D σ H := h
theorem wp_forOwnL (h : te σ H fun x H1 => ∃ a dx fs l zs, x = .ref a ∧ H1 a = some (.ins C dx fs) ∧ fs.lookup F = some (.ref l) ∧ SqL K H1 l zs ∧ ForW (Itl K l) g tb D σ H1) : tFor (iOwnL K C F te) g tb D σ H := h
theorem wp_forOwnK (h : te σ H fun x H1 => ∃ a dx fs d o kvs, x = .ref a ∧ H1 a = some (.ins C dx fs) ∧ fs.lookup F = some (.ref d) ∧ H1 d = some (.frz o (.dK kvs)) ∧ ForW (Itk d o kvs) g tb D σ H1) : tFor (iOwnK C F te) g tb D σ H := h
theorem loopItems (hf : H d = some (.frz od (.dK kvs))) (Pv : Nat → L2.St → Hp → Prop) (h0 : Pv 0 σ H) (hG : ∀ i σ' H', i ≤ kvs.length → Pv i σ' H' → H' d = some (.frz od (.dK kvs)))
    (hs : ∀ i k x T σ' H', kvs[i]? = some (k, x) → Pv i σ' H' → H' T = none → g (.ref T) σ' (upd H' T (.tup [kV k, x])) fun σ2 H2 => tb { D with nx := Pv (i + 1), ct := Pv (i + 1), bk := D.nx } σ2 H2) (hd : ∀ σ' H', Pv kvs.length σ' H' → D.nx σ' H') :
    ∃ d' o kvs', V.ref d = .ref d' ∧ H d' = some (.frz o (.dK kvs')) ∧ ForW (Iti d' o kvs') g tb D σ H := by
  refine ⟨d, od, kvs, rfl, hf, for_it walk_items Pv h0 hG (fun i v σ' H1 H2 hi p y => ?_) hd⟩
  obtain ⟨T, x, y', h1, h2, h3, h4, h5⟩ := y
  obtain ⟨⟨k, z⟩, e1, e2⟩ := Option.map_eq_some_iff.mp h4
  obtain ⟨⟨k', z'⟩, e3, e4⟩ := Option.map_eq_some_iff.mp h5
  rw [e1] at e3
  cases e3
  cases e2
  cases e4
  subst h1
  rw [h3]
  exact hs i k z T σ' H1 e1 p h2
theorem loopOwnL {a dx l : Addr} {fs : List (Str × V)} {xs : List V} (ha : H a = some (.ins C dx fs)) (hl : fs.lookup F = some (.ref l)) (hx : SqL K H l xs) (Pv : Nat → L2.St → Hp → Prop) (h0 : Pv 0 σ H) (hG : ∀ i σ' H', i ≤ xs.length → Pv i σ' H' → SqL K H' l xs)
    (hs : ∀ i x σ' H', xs[i]? = some x → Pv i σ' H' → g x σ' H' fun σ2 H2 => tb { D with nx := Pv (i + 1), ct := Pv (i + 1), bk := D.nx } σ2 H2) (hd : ∀ σ' H', Pv xs.length σ' H' → D.nx σ' H') :
    ∃ a' dx fs l zs, V.ref a = .ref a' ∧ H a' = some (.ins C dx fs) ∧ fs.lookup F = some (.ref l) ∧ SqL K H l zs ∧ ForW (Itl K l) g tb D σ H := ⟨a, dx, fs, l, xs, rfl, ha, hl, hx, for_list Pv h0 hG hs hd⟩
theorem loopOwnK {a dx : Addr} {fs : List (Str × V)} (ha : H a = some (.ins C dx fs)) (hl : fs.lookup F = some (.ref d)) (hf : H d = some (.frz od (.dK kvs))) (Pv : Nat → L2.St → Hp → Prop) (h0 : Pv 0 σ H) (hG : ∀ i σ' H', i ≤ kvs.length → Pv i σ' H' → H' d = some (.frz od (.dK kvs)))
    (hs : ∀ i k x σ' H', kvs[i]? = some (k, x) → Pv i σ' H' → g (kV k) σ' H' fun σ2 H2 => tb { D with nx := Pv (i + 1), ct := Pv (i + 1), bk := D.nx } σ2 H2) (hd : ∀ σ' H', Pv kvs.length σ' H' → D.nx σ' H') :
    ∃ a' dx fs d o kvs, V.ref a = .ref a' ∧ H a' = some (.ins C dx fs) ∧ fs.lookup F = some (.ref d) ∧ H d = some (.frz o (.dK kvs)) ∧ ForW (Itk d o kvs) g tb D σ H := by
  refine ⟨a, dx, fs, d, od, kvs, rfl, ha, hl, hf, for_it walk_keys Pv h0 hG (fun i v σ' H1 H2 hi p y => ?_) hd⟩
  obtain ⟨e, k, z, e1, rfl⟩ := y
  rw [e]
  exact hs i k z σ' H1 e1 p
/-- {a: x, ..}: a dict written out -/
theorem wp_disp {Q : VK} {trs : List (TE × TE)} (h : ∀ p, H p = none → tPairs trs σ (upd H p (.dK [])) fun ps H2 => H2 p = some (.dK []) ∧ ∃ kvs : List (Key × V), ps = kvs.map (fun kv => (kV kv.1, kv.2)) ∧ kvs.length ≤ 15 ∧ Q (.ref p) (upd H2 p (.dK (mergeK [] kvs)))) : tDisp trs σ H Q := h
end
end RM
namespace RM
open PySem PySem.Spec PyProof.Rows L2
/-! ### timetables -/
abbrev tmF (T : Int) (d : Addr) : List (Str × V) := [("_round_length", .int T), ("_minutes", .ref d)]
theorem lk_mT {T : Int} {d : Addr} : (tmF T d).lookup ("_round_length" : Str) = some (.int T) := rfl
theorem lk_md {T : Int} {d : Addr} : (tmF T d).lookup ("_minutes" : Str) = some (.ref d) := rfl
theorem pt_m2 {T : Int} {d : Addr} : putF "_minutes" (.ref d) (netF1 T) = tmF T d := by
  unfold putF
  rw [if_neg (by decide)]
  rfl
def mD (m : List Nat → Int) (ns : List (List Nat)) : List (Key × V) := dN (fun l => .int (m l)) ns
def IsTimes (C : Addr) (H : Hp) (a : Addr) (T : Int) (ns : List (List Nat)) (m : List Nat → Int) : Prop := ∃ dx d, H a = some (.ins C dx (tmF T d)) ∧ H d = some (.dK (mD m ns))
theorem IsTimes.mono {C : Addr} {H H' : Hp} (e : Same H H') {a : Addr} {T : Int} {ns : List (List Nat)} {m : List Nat → Int} (h : IsTimes C H a T ns m) : IsTimes C H' a T ns m := by
  obtain ⟨dx, d, h1, h2⟩ := h
  exact ⟨dx, d, e _ _ h1, e _ _ h2⟩
structure OkTm (T : Int) (ns : List (List Nat)) (m : List Nat → Int) : Prop where
  t0 : 3 ≤ T
  t1 : T ≤ 120
  few : ns.length ≤ 1000
  nm : ∀ l ∈ ns, Nm l
  m0 : ∀ l ∈ ns, 0 ≤ m l
  m1 : ∀ l ∈ ns, m l ≤ T - 1
theorem isN_int {i : Int} : decide (V.int i = .non) = false := decide_eq_false (by simp)
theorem isN_non : decide (V.non = .non) = true := decide_eq_true rfl
section
variable {σ : L2.St} {H : Hp} {K : PySem.W.Frag} {g : TG} {tb : TS} {D : Ends} {d C : Addr} {F : Str} {od : Obj} {f : List Nat → V} {ns : List (List Nat)}
theorem loopItemsN (hf : H d = some (.frz od (.dK (dN f ns)))) (Pv : Nat → L2.St → Hp → Prop) (h0 : Pv 0 σ H) (hG : ∀ i σ' H', i ≤ ns.length → Pv i σ' H' → H' d = some (.frz od (.dK (dN f ns))))
    (hs : ∀ i l T σ' H', ns[i]? = some l → Pv i σ' H' → H' T = none → g (.ref T) σ' (upd H' T (.tup [.str (S l), f l])) fun σ2 H2 => tb { D with nx := Pv (i + 1), ct := Pv (i + 1), bk := D.nx } σ2 H2) (hd : ∀ σ' H', Pv ns.length σ' H' → D.nx σ' H') :
    ∃ d' o kvs', V.ref d = .ref d' ∧ H d' = some (.frz o (.dK kvs')) ∧ ForW (Iti d' o kvs') g tb D σ H :=
  loopItems hf Pv h0 (fun i σ' H' hi => hG i σ' H' (by rw [dN_len] at hi; exact hi)) (fun i k x T σ' H' hk p hT => by
    obtain ⟨l, hl, rfl, rfl⟩ := dN_at hk
    exact hs i l T σ' H' hl p hT) (by rw [dN_len]; exact hd)
theorem loopOwnKN {a dx : Addr} {fs : List (Str × V)} (ha : H a = some (.ins C dx fs)) (hl : fs.lookup F = some (.ref d)) (hf : H d = some (.frz od (.dK (dN f ns)))) (Pv : Nat → L2.St → Hp → Prop) (h0 : Pv 0 σ H) (hG : ∀ i σ' H', i ≤ ns.length → Pv i σ' H' → H' d = some (.frz od (.dK (dN f ns))))
    (hs : ∀ i l σ' H', ns[i]? = some l → Pv i σ' H' → g (.str (S l)) σ' H' fun σ2 H2 => tb { D with nx := Pv (i + 1), ct := Pv (i + 1), bk := D.nx } σ2 H2) (hd : ∀ σ' H', Pv ns.length σ' H' → D.nx σ' H') :
    ∃ a' dx fs d o kvs, V.ref a = .ref a' ∧ H a' = some (.ins C dx fs) ∧ fs.lookup F = some (.ref d) ∧ H d = some (.frz o (.dK kvs)) ∧ ForW (Itk d o kvs) g tb D σ H :=
  loopOwnK ha hl hf Pv h0 (fun i σ' H' hi => hG i σ' H' (by rw [dN_len] at hi; exact hi)) (fun i k x σ' H' hk p => by
    obtain ⟨l, hl, rfl, rfl⟩ := dN_at hk
    exact hs i l σ' H' hl p) (by rw [dN_len]; exact hd)
end
theorem dN_some {f : List Nat → V} {l : List Nat} {ns : List (List Nat)} : (valV (dN f ns) (.inr (S l))).isSome = decide (l ∈ ns) := by
  by_cases h : l ∈ ns
  · rw [dN_val h, decide_eq_true h]
    rfl
  · rw [dN_none h, decide_eq_false h]
    rfl
/-- the minutes that pass, or None -/
def pas (T : Int) (m : List Nat → Int) (r : Row) : V := if r.lo + (m r.v - m r.u - r.lo) % T ≤ r.hi then .int (r.lo + (m r.v - m r.u - r.lo) % T) else .non
theorem pas_key {T lo x y i : Int} (h0 : 0 ≤ i) (h1 : i < T) : (lo + i + x - y) % T = 0 ↔ i = (y - x - lo) % T := by
  have e : lo + i + x - y = i - (y - x - lo) := by omega
  rw [e, ← Int.emod_eq_emod_iff_emod_sub_eq_zero, Int.emod_eq_of_lt h0 h1]
end RM
namespace RM
open PySem PySem.Spec PyProof.Rows L2
/-! ### comprehensions that draw from the pool -/
section
variable {K : PySem.W.Frag} {σ : L2.St} {H : Hp} {g : TG} {te : TE} {vs : List Nat} {Q : VK}
theorem lcP {J : It} {n : Nat} {Gd : Hp → Prop} {Y : Nat → Hp → V → Hp → Prop} (w : Walk J n Gd Y) (hn : n ≤ 100000) {P : Pl} {G : Hp} (hs : Sees P G H) (hG : ∀ H', Sees P G H' → Gd H') (hY : ∀ i H2 x H3, Y i H2 x H3 → H3 = H2) (I : Nat → List V → Prop) (h0 : I 0 [])
    (st : ∀ i x acc G2 H2 (R : VK), i < n → Y i H2 x H2 → Same G G2 → Sees P G2 H2 → acc.length ≤ i → I i acc → (∀ y H3, Sees P G2 H3 → I (i + 1) (acc ++ [y]) → R y H3) → g x (wipe σ vs) H2 fun σ2 H4 => wipe σ2 vs = wipe σ vs ∧ te σ2 H4 R)
    (hq : ∀ D acc H2, H D = none → Sees P G H2 → H2 D = some (.lst acc) → acc.length ≤ n → I n acc → Q (.ref D) H2) : LcW J g tYes te vs σ H Q := by
  intro D hD
  obtain ⟨gD, nD⟩ := hs.fresh hD
  refine lc_it w (fun i H2 => ∃ acc, Sees P G H2 ∧ H2 D = some (.lst acc) ∧ acc.length ≤ i ∧ I i acc) ⟨[], hs.set gD nD, upd_same, Nat.le_refl _, h0⟩ (fun i H2 _ p => ?_) (fun i x H2 H3 hi p y => ?_) (fun H2 p => ?_)
  · obtain ⟨acc, s, _⟩ := p
    exact hG _ s
  · obtain ⟨acc, s, d, l, hI⟩ := p
    have e := hY _ _ _ _ y
    rw [e] at y ⊢
    have z := st i x acc (upd G D (.lst acc)) H2 (fun y H4 => ∃ acc', H4 D = some (.lst acc') ∧ acc'.length < sizeLine ∧ ∃ acc2, Sees P G (upd H4 D (.lst (acc' ++ [y]))) ∧ upd H4 D (.lst (acc' ++ [y])) D = some (.lst acc2) ∧ acc2.length ≤ i + 1 ∧ I (i + 1) acc2) hi y (Same.new gD) (s.with gD d nD) l hI
      (fun y H3 s3 hI2 => ⟨acc, s3.sub _ _ upd_same, szlt (by omega), acc ++ [y], (s3.back s gD).1.set gD nD, upd_same, by simp; omega, hI2⟩)
    exact z
  · obtain ⟨acc, s, d, l, hI⟩ := p
    exact hq D acc H2 hD s d l hI
theorem lcPR {n : Int} (n0 : 0 ≤ n) (hn : n ≤ 100000) {P : Pl} {G : Hp} (hs : Sees P G H) (I : Nat → List V → Prop) (h0 : I 0 [])
    (st : ∀ (i : Nat) acc G2 H2 (R : VK), (i : Int) < n → Same G G2 → Sees P G2 H2 → acc.length ≤ i → I i acc → (∀ y H3, Sees P G2 H3 → I (i + 1) (acc ++ [y]) → R y H3) → g (.int (i : Nat)) (wipe σ vs) H2 fun σ2 H4 => wipe σ2 vs = wipe σ vs ∧ te σ2 H4 R)
    (hq : ∀ D acc H2, H D = none → Sees P G H2 → H2 D = some (.lst acc) → (acc.length : Int) ≤ n → I n.toNat acc → Q (.ref D) H2) : ∃ j : Int, [V.int n] = [V.int j] ∧ -(2 ^ 62) ≤ j ∧ j < 2 ^ 62 ∧ LcW (Itr 0 j.toNat) g tYes te vs σ H Q :=
  ⟨n, rfl, by omega, by omega, lcP walk_range (by omega) hs (fun _ _ => trivial) (fun i H2 x H3 y => y.1) I h0 (fun i x acc G2 H2 R hi y s1 s2 l hI k => by
    have e3 : x = .int (i : Nat) := by rw [y.2]; exact congrArg V.int (Int.zero_add _)
    subst e3
    exact st i acc G2 H2 R (by omega) s1 s2 l hI k) (fun D acc H2 hD s d l hI => hq D acc H2 hD s d (by omega) hI)⟩
theorem lcPL {a : Addr} {xs : List V} (hn : xs.length ≤ 100000) {P : Pl} {G : Hp} (hs : Sees P G H) (hx : SqL K H a xs) (hx2 : ∀ H', Sees P G H' → SqL K H' a xs) (I : Nat → List V → Prop) (h0 : I 0 [])
    (st : ∀ (i : Nat) x acc G2 H2 (R : VK), xs[i]? = some x → Same G G2 → Sees P G2 H2 → acc.length ≤ i → I i acc → (∀ y H3, Sees P G2 H3 → I (i + 1) (acc ++ [y]) → R y H3) → g x (wipe σ vs) H2 fun σ2 H4 => wipe σ2 vs = wipe σ vs ∧ te σ2 H4 R)
    (hq : ∀ D acc H2, H D = none → Sees P G H2 → H2 D = some (.lst acc) → acc.length ≤ xs.length → I xs.length acc → Q (.ref D) H2) : ∃ b, V.ref a = .ref b ∧ (∃ ys, SqL K H b ys) ∧ LcW (Itl K b) g tYes te vs σ H Q :=
  ⟨a, rfl, ⟨xs, hx⟩, lcP walk_list hn hs hx2 (fun i H2 x H3 y => y.1) I h0 (fun i x acc G2 H2 R hi y s1 s2 l hI k => st i x acc G2 H2 R y.2 s1 s2 l hI k) hq⟩
end
/-! ### ''.join(list) -/
def rJoin (K : PySem.W.Frag) : V → List V → Hp → VK → Prop := fun x xs H Q => ∃ a p, ∃ ys : List Str, x = .str a ∧ xs = [.ref p] ∧ (SqL K H p (ys.map V.str) ∨ SqT K H p (ys.map V.str)) ∧
  (ys.map (·.length)).sum + ys.length * a.length ≤ 16777216 ∧ Q (.str (Txt.join a ys)) H
theorem joinL_nil : ∀ cs : List Nat, TL.joinL [] (cs.map fun c => [c]) = cs
  | [] => rfl
  | [_] => rfl
  | a :: b :: r => by
    show [a] ++ ([] ++ TL.joinL [] ((b :: r).map fun c => [c])) = a :: b :: r
    rw [joinL_nil (b :: r)]
    rfl
theorem join_S (cs : List Nat) : Txt.join (S []) (cs.map fun c => S [c]) = S cs := by
  have h : TL.tl (Txt.join (S []) (cs.map fun c => S [c])) = cs := by
    rw [TL.join_eq, TL.tl_join, List.map_map]
    exact joinL_nil cs
  generalize Txt.join (S []) (cs.map fun c => S [c]) = z at h
  obtain ⟨⟨l⟩⟩ := z
  have h2 : l = cs := h
  rw [h2]
theorem wp_join1 {K : PySem.W.Frag} {H : Hp} {Q : VK} {p : Addr} {cs : List Nat} (hp : H p = some (.lst (cs.map fun c => V.str (S [c])))) (hn : cs.length ≤ 1000) (h : Q (.str (S cs)) H) : rJoin K (.str (S [])) [.ref p] H Q := by
  refine ⟨S [], p, cs.map fun c => S [c], rfl, rfl, .inl (sq_of (by rw [List.map_map]; exact hp)), ?_, by rw [join_S]; exact h⟩
  have e : ((cs.map fun c => S [c]).map (·.length)).sum = cs.length := by
    clear hp hn h
    induction cs with
    | nil => rfl
    | cons c r ih =>
      rw [List.map_cons, List.map_cons, List.sum_cons, ih, List.length_cons]
      show 1 + r.length = _
      omega
  have e2 : (S []).length = 0 := rfl
  rw [e, e2, Nat.mul_zero]
  omega
/-! ### defs with try -/
theorem wp_m1 {r : V → List V → Hp → VK → Prop} {to te : TE} {σ : L2.St} {H : Hp} {Q : VK} (h : to σ H fun x H1 => (∃ a, x = .str a) ∧ te σ H1 fun y H2 => r x [y] H2 Q) : tM1 r to te σ H Q := h
end RM
namespace RM
open PySem PySem.Spec PyProof.Rows L2
/-! ### C.m(x, *rest), a classmethod that may raise; cls(..) -/
/-- what is handed to the star parameter behind two others: a new tuple -/
def StarW2 (sp : Sp) : Sp := fun vs H Q E => ∃ x y rest, vs = x :: y :: rest ∧ rest.length ≤ 1000 ∧ ∀ p, H p = none → sp [x, y, V.ref p] (upd H p (.tup rest)) Q E
theorem fun_starX {P : Program} {w : World} {K : PySem.W.Frag} {mg : Str → Option Value} {base : Heap} {x qual pv : Str} {params : Arguments} {body : List Stmt} {scope : Scope} {f : Addr} {fd : FuncData} {N ps : List Str} {k : Nat} {sp : Sp}
    (F : FunD K x qual params body scope [] [] f fd) (S : FnScope N (ps ++ [pv]) scope)
    (hb : ∀ (kV doc pm : Value) (an : Option Addr) (cdv ct : Value) (us rest : List Value), us.length = ps.length → bindArgs (PySem.W.fnOf x qual params body scope .none kV doc pm an cdv ct) ⟨us ++ rest, []⟩ = (newTuple rest >>= fun t => pure (ps.zip us ++ [(pv, t)])))
    (hbody : ∀ (cdv : Value) (A : Around) (outer : List Env) (s : Shared) (H : Hp) (vs : List V) (Q : VK) (E : XK), Room k (A.deeper (envOfC qual scope s.heap.objs.size f cdv)) → sp vs H Q E →
      ∃ t, PSs (cxOf (L2.CX P w) P w K mg base N qual scope f cdv A outer s H E) body t ∧ t { nx := fun _ H' => Q .non H', rt := Q } (L2.start N vs) H) :
    FnR P w K mg base (L2.CX P w) (k + 1) f (fun vs H Q E => ∃ ws rest, vs = ws ++ rest ∧ ws.length = ps.length ∧ rest.length ≤ sizeLine ∧ ∀ p, H p = none → sp (ws ++ [V.ref p]) (upd H p (.tup rest)) Q E) := by
  obtain ⟨oc, od, dV, kV, doc, pm, an, cdv, ct, osl, rfl, lk, hcd, hD, _⟩ := F.ex
  rcases hD with ⟨_, rfl⟩ | ⟨e, _⟩
  · exact StX.fn_star lk hcd S StX.cxUp (hb kV doc pm an cdv ct) fun A outer s H vs Q E hr h => hbody cdv A outer s H vs Q E hr h
  · exact absurd rfl e
structure CMS (P : Program) (w : World) (K : PySem.W.Frag) (mg : Str → Option Value) (base : Heap) (k : Nat) (x : Str) (C : Addr) (m : Str) (sp : Sp) : Prop where
  ex : ∃ p g : Addr, mg x = some (.ref C) ∧ ClX.CRead K C (.type "type") ∧ ClX.CMet K C (.type "type") m p g ∧ FnR P w K mg base (L2.CX P w) k g (StarW2 sp)
theorem CMS.of {P : Program} {w : World} {K : PySem.W.Frag} {mg : Str → Option Value} {base : Heap} {k : Nat} {x m : Str} {C p g : Addr} {sp : Sp} {p0 p1 : Str} (hm : mg x = some (.ref C)) (r : ClX.CRead K C (.type "type")) (c : ClX.CMet K C (.type "type") m p g)
    (F : FnR P w K mg base (L2.CX P w) k g (fun vs H Q E => ∃ ws rest, vs = ws ++ rest ∧ ws.length = [p0, p1].length ∧ rest.length ≤ sizeLine ∧ ∀ p, H p = none → sp (ws ++ [V.ref p]) (upd H p (.tup rest)) Q E)) : CMS P w K mg base k x C m sp :=
  ⟨p, g, hm, r, c, F.imp fun vs H Q E ⟨x, y, rest, e, hl, q⟩ => ⟨[x, y], rest, e, rfl, szl (by omega), q⟩⟩
section
variable {X : Cx} {k j i : Nat} {x m : Str} {C : Addr} {sp : Sp} {E : XK} {e : Expr} {es : List Expr} {p0 pos apos p : Pos} {t : TA} {pl : Sem Bool}
theorem pe_cmS (c : CMS X.prog X.w X.K X.mg X.base k x C m sp) (hr : Room j X.A) (hk : k ≤ j) (hg : Gl X x) (hx : Passes (L2.CX X.prog X.w) X E) (ha : PA X (e :: es) t) (hdb : (x == ("__debug__" : Str)) = false := by decide)
    (hst : starEach (e :: es) X.env = (false, eval e X.env) :: starEach es X.env := by rfl) (hpl : (backTo pos (starEach es X.env)).any (·.1) = false := by rfl)
    (ht : eval (.Call (.Attribute (.Name x p0) m apos) (e :: es) [] pos) X.env = (do
      let ov ← eval (.Name x p0) X.env
      standAt apos.atName
      let (f, first) ← holding [ov] (getMethod ov m pl)
      callWith pos f first (backTo pos (starEach (e :: es) X.env)) (backToKw pos (keywordEach [] X.env))) := by rfl) :
    PE X (.Call (.Attribute (.Name x p0) m apos) (e :: es) [] pos) (ClX.tCMeth C (StarW2 sp) E (tC (.ref C)) t) := by
  obtain ⟨q, g, hm, r, cm, F⟩ := c.ex
  exact ClX.pe_cmeth (pl := pl) (pe_clsv hg hm hdb) r cm F (hr.mono hk) hx ha hst hpl ht
def tMakeV (C : Addr) (i : Nat) (sp : Sp) (E : XK) (t : TA) : TE := fun σ H Q => σ[i]? = some (some (.ref C)) ∧ t σ H fun vs H1 => MkW C sp E Q vs H1
theorem pe_mkV {y : Str} (c : MakX X.prog X.w X.K X.mg X.base k y C sp []) (hr : Room j X.A) (hk : k + 1 ≤ j) (hN : X.N[i]? = some x) (hv : Vis X.env.scope x) (hx : Passes (L2.CX X.prog X.w) X E) (ha : PA X (e :: es) t)
    (hd : (x == ("__debug__" : Str)) = false := by decide) (hcd : (x == ("__classdict__" : Str)) = false := by decide)
    (he : starEach (e :: es) X.env = (false, eval e X.env) :: starEach es X.env := by rfl) (hpl : (backTo pos (starEach es X.env)).any (·.1) = false := by rfl) :
    PE X (.Call (.Name x p) (e :: es) [] pos) (tMakeV C i sp E t) := by
  obtain ⟨f, fd, ps, ds, M, F, _, b, d⟩ := c.ex
  refine ⟨fun pins s σ H Q I h => ?_⟩
  obtain ⟨hs, h⟩ := h
  refine wpAny_Call_Name_kw (thn ((pe_var (pos := p) hN hv hd hcd).run pins s σ H (fun v H1 => v = .ref C ∧ H1 = H) I ⟨.ref C, hs, rfl, rfl⟩) fun u s1 ⟨v, H1, I1, r1, q1⟩ => ?_)
  obtain ⟨rfl, rfl⟩ := q1
  cases r1
  refine PySem.W.callWith_K (h₀ := X.base) I.ok.mod.kin M.kp (thn (ha.run pos pins s1 σ _ _ I1 h) fun us s2 ⟨vs, H2, I2, r, q⟩ => ⟨I2.kIn, ?_⟩) he hpl
  exact run_make M F (hr.mono hk) b d hx I2 r (fun y dx h1 h2 h3 => by rw [List.append_nil]; exact q y dx h1 h2 h3)
end
end RM
namespace RM
open PySem PySem.Spec PyProof.Rows L2 ItX
/-! ### operators that the text defines, dicts compared, lists of own objects over a dict, static methods -/
/-- a class's operator op against an int on the right -/
structure SpcI (P : Program) (w : World) (K : PySem.W.Frag) (mg : Str → Option Value) (base : Heap) (n : Nat) (C : Addr) (op : Operator) (sp : Sp) : Prop where
  ex : ∃ (f : Addr) (fd : FuncData) (ps : List Str) (fo ro rc : Option Value), PySem.W.selfFirst K C = true ∧ PySem.W.findIn K (.ref C) (PySem.dunder op.info.2) = some (some (.ref f)) ∧ PySem.W.isFn K (.ref f) = true ∧
    PySem.W.findIn K (.ref C) (dunderR op.info.2) = some rc ∧ (rc = none ∨ ∃ g : Addr, rc = some (.ref g)) ∧ PySem.W.findIn K (.type "int") (PySem.dunder op.info.2) = some fo ∧ PySem.W.findIn K (.type "int") (dunderR op.info.2) = some ro ∧
    PySem.W.subIn K (.type "int") (.ref C) = some false ∧ FnOk P w K mg base CX0 n f fd ps sp ∧ Binds K fd ps []
theorem SpcI.of {P : Program} {w : World} {K : PySem.W.Frag} {mg : Str → Option Value} {base : Heap} {n : Nat} {op : Operator} {sp : Sp} {x nm rn : Str} {f : Addr} {fd : FuncData} {ps : List Str} (b : bBinI x nm rn K = true) (m : Meth K (He.ga K x) nm f)
    (F : FnOk P w K mg base CX0 n f fd ps sp) (hb : Binds K fd ps []) (e1 : PySem.dunder op.info.2 = nm := by decide +kernel) (e2 : dunderR op.info.2 = rn := by decide +kernel) : SpcI P w K mg base n (He.ga K x) op sp := by
  obtain ⟨b1, b⟩ := He.ba b
  obtain ⟨b2, b⟩ := He.ba b
  obtain ⟨b3, b⟩ := He.ba b
  obtain ⟨b4, b5⟩ := He.ba b
  obtain ⟨rc, h1, h2⟩ := okR_ok b2
  obtain ⟨fo, h3⟩ := Option.isSome_iff_exists.mp b3
  obtain ⟨ro, h4⟩ := Option.isSome_iff_exists.mp b4
  exact ⟨f, fd, ps, fo, ro, rc, b1, by rw [e1]; exact m.at_, m.fn, by rw [e2]; exact h1, h2, by rw [e1]; exact h3, by rw [e2]; exact h4, of_decide_eq_true b5, F, hb⟩
def rOwnI (C : Addr) (sp : Sp) : R2 := fun x y H Q => ∃ a dx fs i, x = .ref a ∧ y = .int i ∧ H a = some (.ins C dx fs) ∧ sp [.ref a, .int i] H (fun v H' => ∃ b, v = .ref b ∧ Q v H') E0
section
variable {X : Cx} {n : Nat} {C : Addr} {sp : Sp} {op : Operator}
theorem op_ownI (S : SpcI X.prog X.w X.K X.mg X.base n C op sp) (hr : Room n X.A) : OpR X (binaryOp op) (rOwnI C sp) := by
  obtain ⟨f, fd, ps, fo, ro, rc, k1, k2, k3, k4, k5, k6, k7, k8, F, hb⟩ := S.ex
  intro pins s σ H x y v u Q I rx ry h
  obtain ⟨a, dx, fs, i, rfl, rfl, ha, h⟩ := h
  cases rx
  obtain ⟨t, rfl⟩ := ry
  obtain ⟨od, J⟩ := inst_of I ha
  obtain ⟨m, hF⟩ := I.fr
  refine PySem.W.ksp_binT (T := "int") hF I.ok.mod.kin J rfl k1 k2 k3 k4 k5 k6 k7 k8 ?_
  refine wpAny_mono (run_at (us := [.ref a, .int i t]) (vs := [.ref a, .int i]) ⟨hr, rfl⟩ F hb I (.cons rfl (.cons ⟨t, rfl⟩ .nil)) h) (fun v s' hv => ?_) fun _ _ e => e
  obtain ⟨z, H', I', rz, b, rfl, q⟩ := hv
  cases rz
  exact ⟨.ref b, H', I', rfl, q⟩
end
/-! #### dicts whose values are ints -/
def eqKV (ks ls : List (Key × V)) : Bool := (ks.length == ls.length) && ks.all fun p => match valV ls p.1 with
  | some v => decide (v = p.2)
  | none => false
def IntVs (ks : List (Key × V)) : Prop := ∀ p ∈ ks, ∃ i, p.2 = V.int i
theorem hitsI {A : Around} {s : Shared} {ls : List (Key × V)} {vb : List (Key × Value)} (rb : KV ls vb) (hl : IntVs ls) : ∀ {ks : List (Key × V)} {va : List (Key × Value)}, KV ks va → IntVs ks →
    PySem.W.KeqHits A s vb va (ks.all fun p => match valV ls p.1 with
      | some v => decide (v = p.2)
      | none => false)
  | _, _, .nil, _ => .nil
  | p :: ks, q :: qs, .cons h t, hk => by
    obtain ⟨h1, h2⟩ := h
    obtain ⟨k, v⟩ := q
    have h1' : p.1 = k := h1
    have ih := hitsI (A := A) (s := s) rb hl t fun p' hm => hk p' (List.mem_cons_of_mem _ hm)
    obtain ⟨i, ei⟩ := hk p List.mem_cons_self
    have rr : RelO (valV ls p.1) (valueAt vb p.1) := rb.val p.1
    rw [List.all_cons]
    cases e : valV ls p.1 with
    | none =>
      rw [e] at rr
      have z : valueAt vb p.1 = none := RelO.none_of rr
      rw [h1'] at z
      exact .miss z
    | some y =>
      rw [e] at rr
      obtain ⟨u, hu, ru⟩ := rr.some_of
      have hy : ∃ j, y = V.int j := by
        unfold valV at e
        obtain ⟨kv, e1, e2⟩ := Option.map_eq_some_iff.mp e
        obtain ⟨j, ej⟩ := hl kv (List.mem_of_find?_eq_some e1)
        exact ⟨j, by rw [← e2, ej]⟩
      obtain ⟨j, rfl⟩ := hy
      obtain ⟨t', rfl⟩ := ru
      rw [ei] at h2
      obtain ⟨t2, rfl⟩ : ∃ t, v = Value.int i t := h2
      rw [h1'] at hu
      have q := SeqAt.EqAt.int_int (A := A) (s := s) i t2 j t'
      have e3 : decide (V.int j = p.2) = (i == j) := by
        rw [ei, Bool.eq_iff_iff, decide_eq_true_eq, beq_iff_eq]
        exact ⟨fun z => by cases z; rfl, fun z => by rw [z]⟩
      show PySem.W.KeqHits A s vb _ (decide (V.int j = p.2) && _)
      rw [e3]
      exact .hit hu q ih
def rEqDK : R2 := fun x y H Q => ∃ a b ks ls, x = .ref a ∧ y = .ref b ∧ H a = some (.dK ks) ∧ H b = some (.dK ls) ∧ IntVs ks ∧ IntVs ls ∧ Q (.bl (eqKV ks ls)) H
section
variable {X : Cx}
theorem op_eqDK (hu : X.A.units < cLine) : OpR X (compareOp .Eq) rEqDK := by
  intro pins s σ H x y v u Q I rx ry h
  obtain ⟨a, b, ks, ls, rfl, rfl, ea, eb, ia, ib, q⟩ := h
  obtain rfl : v = Value.ref a := rx
  obtain rfl : u = Value.ref b := ry
  obtain ⟨_, ya, va, ra, da⟩ := (show ObjOk X.prog X.w H s.heap a (.dK ks) from I.hok a _ ea)
  obtain ⟨_, yb, vb, rb, db⟩ := (show ObjOk X.prog X.w H s.heap b (.dK ls) from I.hok b _ eb)
  refine PySem.W.keq_eq (knd := mixKind X.prog X.w) ya yb da db hu (fun _ => hitsI rb ib ra ia) ⟨.bl _, H, I, ?_, q⟩
  show _ = Value.bool (eqKV ks ls)
  unfold eqKV
  rw [ra.length, rb.length]
end
/-! #### list(o), o of an own class whose __iter__ hands out an iterator over a locked dict -/
section
variable {X : Cx} {pins : List (Addr × Obj)} {σ : L2.St} {H : Hp} {s : Shared} {n : Nat} {A : Around} {f C it q d : Addr} {o : Obj} {i m : Nat} {kvs : List (Key × V)} {es : Array DictEntry} {ep : Nat}
theorem fpUpd {b : Addr} {u : HO} (h : FpOk X pins H b) (hb : b ≠ q) : FpOk X pins (upd H q u) b := ⟨by rw [upd_ne hb]; exact h.1, h.2⟩
/-- the loop that fills the list at q from the iterator at it -/
theorem it_loopK {Rs : Result → Shared → Prop} (hod : o.data = .dict es ep) (hh : A.in1.handled = none) (hz : kvs.length < 100000) (hdq : d ≠ q) (hiq : it ≠ q)
    (hdone : ∀ H' s', Inv X pins σ H' s' → (∀ b o, b ≠ q → H b = some o → H' b = some o) → H' q = some (.lst (kvs.map fun kv => kV kv.1)) → Rs (.ok (.ret .none)) s') :
    ∀ (m i : Nat) (H' : Hp) (s : Shared), kvs.length - i = m → i ≤ kvs.length → Inv X pins σ H' s → (∀ b o, b ≠ q → H b = some o → H' b = some o) → H' d = some (.frz o (.dK kvs)) → FpOk X pins H' it → s.heap.IsKeyIter it d i kvs.length ep → H' q = some (.lst ((kvs.map fun kv => kV kv.1).take i)) →
      codeAny (model X.prog X.w) A (.builtin "list.extend.loop" ⟨[.ref q, .ref it, .none], []⟩) Rs s := by
  have el : (kvs.map fun kv => kV kv.1).length = kvs.length := List.length_map ..
  intro m
  induction m with
  | zero =>
    intro i H' s hm hi I hk hl hf st hq
    have ei : i = kvs.length := by omega
    obtain ⟨f0, f1, f2, f3, f4, f5⟩ := hf
    refine codeAny_builtin PySem.F.entry_extend_loop ?_
    rw [Around.under_plainId PySem.F.plain_extend_loop _]
    show wpAny _ A.in1 (pyNext (.ref it) >>= _) _ _ s
    obtain ⟨hs, hgd, hx, es', ep', vs, hdt, hsz, kv, hm⟩ := I.frzK hl
    obtain ⟨rfl, rfl⟩ := dict_ep hod hdt
    refine wpAny_bind (next_key_end hh st hgd hdt hsz (by omega) fun h' eb => ?_)
    refine wpAny_pure ?_
    have I2 := I.turned (t' := s.toks) (fun b ob hb e => eb b ob hb e) f0 f1 f3 f4 f5
    refine hdone _ _ I2 hk ?_
    rw [hq, ei, ← el, List.take_length]
  | succ m ih =>
    intro i H' s hm hi I hk hl hf st hq
    have hlt : i < kvs.length := by omega
    have ⟨f0, f1, f2, f3, f4, f5⟩ := hf
    refine codeAny_builtin PySem.F.entry_extend_loop ?_
    rw [Around.under_plainId PySem.F.plain_extend_loop _]
    show wpAny _ A.in1 (pyNext (.ref it) >>= _) _ _ s
    obtain ⟨hs, hgd, hx, es', ep', vs, hdt, hsz, kv, hm⟩ := I.frzK hl
    obtain ⟨rfl, rfl⟩ := dict_ep hod hdt
    obtain ⟨⟨k, v⟩, hkv⟩ : ∃ p, kvs[i]? = some p := ⟨kvs[i], List.getElem?_eq_getElem hlt⟩
    obtain ⟨u, hu, ru⟩ := kv_get kv hkv
    have hl2 : kvs.length = vs.length := Paired.length kv
    refine wpAny_bind (wpAny_pyNext_dict_item (by rw [hl2] at st; exact st) hm hu fun key h' hkey st' sb => ?_)
    have I2 : Inv X pins σ H' { s with heap := h' } := I.turned (t' := s.toks) (fun b ob hb e => (sb.2 b hb).trans e) f0 f1 f3 f4 f5
    show wpAny _ A.in1 (updateSeq q (·.push key) >>= _) _ _ _
    obtain ⟨z, its2, k2, r2, hl3, e2⟩ := I2.lstM hq
    have hz2 : its2.length = i := by rw [← hl3, List.length_take, el]; omega
    refine wpAny_bind (wpAny_updateSeq e2 rfl (wpAny_pure ⟨plainId_quiet PySem.F.plain_extend_loop _, ?_⟩) (by rw [List.size_toArray, hz2]; exact Nat.le_trans (Nat.le_of_lt hlt) (szl (by omega))) (by show (its2.toArray.push key).size ≤ sizeLine + 1; rw [Array.size_push, List.size_toArray, hz2]; exact Nat.succ_le_succ (szl (by omega))))
    have I3 := I2.lset (f := (·.push key)) (its' := its2 ++ [key]) (ys := (kvs.map fun kv => kV kv.1).take i ++ [kV k]) (t' := s.toks) hq e2 (by simp) (r2.append (.cons (relV_key (show keyIs k key = true from hkey)) .nil)) (by rw [List.length_append, List.length_take, el]; exact szl (by show _ + 1 ≤ _; omega))
    refine ih (i + 1) _ _ (by omega) hlt I3 (fun b o h1 e => by rw [upd_ne h1]; exact hk b o h1 e) (by rw [upd_ne hdq]; exact hl) (fpUpd hf hiq) ?_ ?_
    · rw [hl2]
      exact st'.at fun ob e => (Heap.get?_update_other _ _ (Ne.symm hiq)).trans e
    · rw [upd_same]
      have e3 : (kvs.map fun kv => kV kv.1)[i]? = some (kV k) := by rw [List.getElem?_map, hkv]; rfl
      rw [List.take_succ, e3]
      rfl
/-- list(o) -/
def rListOwnK (K : PySem.W.Frag) (C : Addr) (F : Str) (spL : Sp) : List V → Hp → VK → Prop := fun xs H Q => ∃ a dx fs d o kvs, xs = [.ref a] ∧ H a = some (.ins C dx fs) ∧ fs.lookup F = some (.ref d) ∧ H d = some (.frz o (.dK kvs)) ∧ kvs.length < 100000 ∧
  (∀ H1 (R : VK), Same H H1 → (∀ k : Int, 0 ≤ k → k < 100000 → R (.int k) H1) → spL [.ref a] H1 R E0) ∧ ∀ q H', H q = none → Same H H' → H' q = some (.lst (kvs.map fun kv => kV kv.1)) → Q (.ref q) H'
theorem call_listItK {F : Str} {spL : Sp} (SI : ItrN X.prog X.w X.K X.mg X.base n C (spYoungK C F)) (SL : Spc X.prog X.w X.K X.mg X.base n C "__len__" spL) (hr : Room (n + 3) X.A) : CallR X (.type "list") (rListOwnK X.K C F spL) := by
  obtain ⟨fI, fdI, psI, hsI, hfI, FI, bI⟩ := SI.ex
  obtain ⟨fL, fdL, psL, hsL, hfL, FL, bL⟩ := SL.ex
  intro pins s σ H xs us Q I rv h
  obtain ⟨a, dx, fs, d, o, kvs, rfl, ha, lk, hd, hz, hL, h⟩ := h
  obtain ⟨u, rfl, ru⟩ := rv.one
  cases ru
  have sb : Sub X (n + 1) X.A.in1.in1 := Sub.in1 (Sub.in1 (⟨hr, rfl⟩ : Sub X (n + 3) X.A))
  refine callType_codes (Q₁ := fun obj s₁ => obj = .ref s.heap.objs.size ∧ s₁ = { s with heap := s.heap.push { cls := .type "list", data := .seq #[] } }) PySem.F.called_list (PySem.F.typeCall_list_1 _) PySem.F.entry_list_init
    (code_list_new _ ⟨rfl, rfl⟩) fun obj s₁ h₁ => ?_
  obtain ⟨rfl, rfl⟩ := h₁
  have hS : (s.heap.push { cls := .type "list", data := .seq #[] }).get? s.heap.objs.size = some { cls := .type "list", data := .seq #[] } := Heap.get?_push_size _ rfl
  refine ⟨⟨_, hS, rfl⟩, PySem.F.args_list_init_2 _ _, ?_⟩
  have fr : H s.heap.objs.size = none := I.hok.fresh (Nat.le_refl _)
  have h := fun H' => h _ H' fr
  generalize hqe : s.heap.objs.size = q at *
  have I1 : Inv X pins σ (upd H q (.lst [])) { s with heap := s.heap.push { cls := .type "list", data := .seq #[] } } := by
    have z := I.lnew (its := []) (ys := []) (t' := s.toks) .nil (Nat.zero_le _)
    rw [hqe] at z
    exact z
  show wpAny _ _ (do let old ← Builtin.List.listItems (.ref q); Builtin.List.listUpdate (.ref q) (fun _ => #[]); letGo old.toList.reverse; Builtin.List.listExtendWith (.ref q) (.ref a) .none) _ _ _
  refine wpAny_bind ?_
  unfold Builtin.List.listItems
  refine wpAny_bind (wpAny_seqItems hS rfl (wpAny_pure ?_))
  show wpAny _ _ (updateSeq q (fun _ => #[]) >>= fun _ => letGo (#[] : Array Value).toList.reverse >>= fun _ => Builtin.List.listExtendWith (.ref q) (.ref a) .none) _ _ _
  refine wpAny_bind (wpAny_updateSeq hS rfl ?_)
  have I2 := I1.lset (f := fun _ => #[]) (its := []) (its' := []) (ys := []) (t' := s.toks) upd_same hS rfl .nil (Nat.zero_le _)
  rw [upd_upd] at I2
  refine wpAny_bind (wpAny_letGo ?_)
  have sHq : Same H (upd H q (.lst [])) := Same.new fr
  have ha2 : upd H q (.lst []) a = some (.ins C dx fs) := sHq _ _ ha
  have hd2 : upd H q (.lst []) d = some (.frz o (.dK kvs)) := sHq _ _ hd
  have hne : q ≠ a := ne_of (H := upd H q (.lst [])) upd_same ha2 (fun z => nomatch z)
  have hdq : d ≠ q := ne_of_none hd fr
  obtain ⟨od, J⟩ := inst_of I2 ha2
  obtain ⟨m0, hF⟩ := I2.fr
  show wpAny _ X.A.in1.in1 (Builtin.List.listExtendWith (.ref q) (.ref a) .none) _ _ _
  unfold Builtin.List.listExtendWith
  refine wpAny_bind (J.type.here ?_)
  have h1 : Builtin.List.listSameRef (.ref q) (.ref a) = false := by simp [Builtin.List.listSameRef, hne]
  have h2 : (Value.ref C == Value.type "list") = false := rfl
  have h3 : (Value.ref C == Value.type "tuple") = false := rfl
  simp only [h1, h2, h3, Bool.or_false, Bool.false_eq_true, if_false]
  refine wpAny_bind (PySem.W.owit_iter hF I2.ok.mod.kin J hsI hfI ?_)
  have I2s := I2.sz
  refine wpAny_mono (run_young (us := [.ref a]) (vs := [.ref a]) (Q := fun v H2 => ∃ it, v = .ref it ∧ upd H q (.lst []) it = none ∧ X.s_0.heap.objs.size ≤ it ∧ H2 = upd (upd H q (.lst [])) it (KeyIt d o kvs.length it)) (sb.mono (Nat.le_succ _)) FI bI I2 (.cons rfl .nil) ⟨a, dx, fs, d, o, kvs, rfl, ha2, lk, hd2, fun it h1 h2 => ⟨it, rfl, h1, Nat.le_trans I2s h2, rfl⟩⟩) (fun u s' hu => ?_) (fun _ _ e => e)
  obtain ⟨v, H2, I3, rv3, it, rfl, hn, hle, rfl⟩ := hu
  cases rv3
  have hi' : upd (upd H q (.lst [])) it (KeyIt d o kvs.length it) it = some (KeyIt d o kvs.length it) := upd_same
  have hok := I3.hok it _ hi'
  obtain ⟨es, ep, hdt, ki⟩ := hok.1
  have hT : s'.TypeIs (.ref it) "dict_keyiterator" := ki.typeIs
  unfold PySem.W.OwitIt
  show wpAny _ _ (typeOf (.ref it) >>= fun t => typeLookup t "__next__") _ _ _
  refine wpAny_bind (wpAny_typeOf hT (wpAny_of_eq PySem.F.slot_dict_keyiterator_next.lookup ?_))
  show wpAny _ _ _ _ _ _
  have fp := inv_fp I3 hi' hle
  unfold KeyIt at hi'
  have I4 := inv_drop I3 hi'
  rw [dropH_upd' hn] at I4 fp
  have niq : it ≠ q := fun e => by rw [e, upd_same] at hn; cases hn
  obtain ⟨od', J'⟩ := inst_of I4 ha2
  obtain ⟨m1, hF'⟩ := I4.fr
  refine wpAny_bind (wpAny_holding ?_)
  unfold Builtin.List.listLengthHint
  refine wpAny_bind (wpAny_bind (J'.type.here ((PySem.W.looks_findIn I4.kIn hsL).here ?_)))
  refine PySem.W.KFB.if_not rfl ?_
  refine PySem.W.KFB.if_so rfl ?_
  refine wpAny_bind (wpAny_rule (wpAny_bind (wpAny_attempt ?_)))
  refine PySem.W.len_K hF' I4.ok.mod.kin J' hsL hfL ?_
  have I5p := I4.pinned (fun b hb => by rw [List.mem_singleton.mp hb]; exact fp : ∀ b ∈ [it], FpOk X pins (upd H q (.lst [])) b) (fun b hb => by
    rw [List.mem_singleton.mp hb]
    obtain ⟨oi, e, c, dd⟩ := ki
    exact ⟨oi, e, fun v z => by rw [dd] at z; cases z⟩)
  have ki4 := ki
  refine wpAny_mono (run_at (E' := fun _ _ => False) (us := [.ref a]) (vs := [.ref a]) (Q := fun v H2 => ∃ k : Int, v = .int k ∧ 0 ≤ k ∧ k < 100000 ∧ H2 = upd H q (.lst [])) sb.in1 FL bL I5p (.cons rfl .nil) (hL _ _ sHq fun k k0 k1 => ⟨k, rfl, k0, k1, rfl⟩)) (fun u s2 hu => ?_) fun _ _ e => e.elim
  obtain ⟨v2, H2, I6p, rv4, k, rfl, k0, k1, rfl⟩ := hu
  obtain ⟨tk, rfl⟩ := rv4
  refine ⟨⟨k0, by omega⟩, ?_⟩
  have ki6 : s2.heap.IsKeyIter it d 0 kvs.length ep := ki4.at fun ob e => (I6p.pin (it, ob) (List.mem_append_right _ (List.mem_append_right _ (mem_pinsAt (List.mem_singleton.mpr rfl) e)))).1
  have I6 := I6p.unpinned.tok (s2.toks + 1)
  refine wpAny_bind (wpAny_of_eq (a := some k) rfl ?_)
  refine PySem.W.KFB.if_not (notLongL (szl (by omega))) ?_
  refine wpAny_pure ?_
  have fin : ∀ (s3 : Shared), Inv X pins σ (upd H q (.lst [])) s3 → s3.heap.IsKeyIter it d 0 kvs.length ep → codeAny (model X.prog X.w) X.A.in1 (.builtin "list.extend.loop" ⟨[.ref q, .ref it, .none], []⟩) (wants (fun r s₂ => r = .none ∧ EP X pins σ Q (.ref q) s₂) X.xe) s3 := fun s3 I7 st => by
    refine it_loopK (A := X.A.in1) (H := upd H q (.lst [])) hdt hr.hd hz hdq niq (fun H3 s4 I8 hk3 hq3 => ⟨rfl, .ref q, H3, I8, rfl, h H3 (fun b ob e => hk3 b ob (ne_of_none e fr) (sHq _ _ e)) hq3⟩) kvs.length 0 _ s3 rfl (Nat.zero_le _) I7 (fun _ _ _ e => e) hd2 fp st upd_same
  refine wpAny_ite_split (fun _ => ?_) (fun _ => wpAny_pure ⟨plainId_quiet PySem.F.plain_extend_loop _, fin _ I6 ki6⟩)
  obtain ⟨z, its, k3, r3, hl3, e3⟩ := I6.lstM upd_same
  cases r3
  refine wpAny_bind (wpAny_rule ?_)
  refine wpAny_bind ?_
  show wpAny _ _ (updateSeq q (·.push .none) >>= fun _ => updateSeq q (·.pop)) _ _ _
  refine wpAny_bind (wpAny_updateSeq e3 rfl ?_)
  have I7 := I6.lset (f := (·.push Value.none)) (its' := [Value.none]) (ys := [.non]) (t' := s2.toks + 1) upd_same e3 (by simp) (.cons rfl .nil) (by rw [List.length_singleton, sizeLine_eq]; decide)
  obtain ⟨z4, its4, k4, r4, hl4, e4⟩ := I7.lstM upd_same
  obtain ⟨u4, rfl, ru4⟩ := r4.one
  refine wpAny_updateSeq e4 rfl ?_ (by show 1 ≤ sizeLine; rw [sizeLine_eq]; decide) (by show 0 ≤ sizeLine + 1; exact Nat.zero_le _)
  refine wpAny_pure ⟨plainId_quiet PySem.F.plain_extend_loop _, fin _ ?_ ?_⟩
  · have I8 := I7.lset (f := (·.pop)) (its := [u4]) (its' := []) (ys := []) (t' := s2.toks + 1) upd_same e4 (by rfl) .nil (Nat.zero_le _)
    rw [upd_upd, upd_upd] at I8
    exact I8
  · exact (ki6.at fun ob e => (Heap.get?_update_other _ _ (Ne.symm niq)).trans e).at fun ob e => (Heap.get?_update_other _ _ (Ne.symm niq)).trans e
end
/-! #### C.m(x, *rest), a static method -/
def smP (K : PySem.W.Frag) (C : Addr) (m : Str) : Addr := match PySem.W.findCls K (.ref C) (.type "type") m with
  | some (.get _ (.ref p) _ _) => p
  | _ => 0
def smG (K : PySem.W.Frag) (C : Addr) (m : Str) : Addr := match PySem.W.recIn K (smP K C m) "staticmethod" with
  | some (.ref g :: _) => g
  | _ => 0
def isSM (K : PySem.W.Frag) (C : Addr) (m : Str) : Bool := match PySem.W.findCls K (.ref C) (.type "type") m with
  | some (.get (.builtin z) (.ref _) .none (.ref C')) => decide (z = "staticmethod.__get__") && decide (C' = C)
  | _ => false
def isSG (K : PySem.W.Frag) (C : Addr) (m : Str) : Bool := match PySem.W.recIn K (smP K C m) "staticmethod" with
  | some (.ref _ :: _) => true
  | _ => false
/-- C.m is a static method: its record at p, its def at g -/
structure SMet (K : PySem.W.Frag) (C : Addr) (m : Str) (p g : Addr) : Prop where
  at_ : PySem.W.findCls K (.ref C) (.type "type") m = some (.get (.builtin "staticmethod.__get__") (.ref p) .none (.ref C))
  rc : ∃ rest, PySem.W.recIn K p "staticmethod" = some (.ref g :: rest)
  kp : PySem.W.keepIn K (.ref g) = true
def bSMet (x m : Str) (K : PySem.W.Frag) : Bool := isSM K (He.ga K x) m && (isSG K (He.ga K x) m && PySem.W.keepIn K (.ref (smG K (He.ga K x) m)))
theorem bSMet_ok {x m : Str} {K : PySem.W.Frag} (h : bSMet x m K = true) : SMet K (He.ga K x) m (smP K (He.ga K x) m) (smG K (He.ga K x) m) := by
  obtain ⟨h1, h⟩ := He.ba h
  obtain ⟨h2, h3⟩ := He.ba h
  refine ⟨?_, ?_, h3⟩
  · unfold isSM at h1
    unfold smP
    split at h1
    · rename_i z p C' e
      obtain ⟨q1, q2⟩ := He.ba h1
      rw [e, of_decide_eq_true q1, of_decide_eq_true q2]
    · exact absurd h1 Bool.false_ne_true
  · unfold isSG at h2
    unfold smG
    split at h2
    · rename_i g r e
      rw [e]
      exact ⟨r, rfl⟩
    · exact absurd h2 Bool.false_ne_true
structure SMS (CX : CXT) (P : Program) (w : World) (K : PySem.W.Frag) (mg : Str → Option Value) (base : Heap) (k : Nat) (x : Str) (C : Addr) (m : Str) (sp : Sp) : Prop where
  ex : ∃ p g : Addr, mg x = some (.ref C) ∧ ClX.CRead K C (.type "type") ∧ SMet K C m p g ∧ FnR P w K mg base CX k g (StarW sp)
theorem SMS.of {CX : CXT} {P : Program} {w : World} {K : PySem.W.Frag} {mg : Str → Option Value} {base : Heap} {k : Nat} {x m : Str} {C p g : Addr} {sp : Sp} {p0 : Str} (hm : mg x = some (.ref C)) (r : ClX.CRead K C (.type "type")) (c : SMet K C m p g)
    (F : FnR P w K mg base CX k g (fun vs H Q E => ∃ ws rest, vs = ws ++ rest ∧ ws.length = [p0].length ∧ rest.length ≤ sizeLine ∧ ∀ p, H p = none → sp (ws ++ [V.ref p]) (upd H p (.tup rest)) Q E)) : SMS CX P w K mg base k x C m sp :=
  ⟨p, g, hm, r, c, F.imp fun vs H Q E ⟨x, rest, e, hl, q⟩ => ⟨[x], rest, e, rfl, szl (by omega), q⟩⟩
def tSMeth (sp : Sp) (E : XK) (t : TA) : TE := fun σ H Q => t σ H fun vs H2 => StarW sp vs H2 Q E
section
variable {X : Cx} {CX : CXT} {k j : Nat} {x m : Str} {C : Addr} {sp : Sp} {E : XK} {e : Expr} {es : List Expr} {p0 pos apos : Pos} {t : TA} {pl : Sem Bool}
theorem pe_smS (c : SMS CX X.prog X.w X.K X.mg X.base k x C m sp) (hr : Room j X.A) (hk : k ≤ j) (hg : Gl X x) (hx : Passes CX X E) (ha : PA X (e :: es) t) (hdb : (x == ("__debug__" : Str)) = false := by decide)
    (hst : starEach (e :: es) X.env = (false, eval e X.env) :: starEach es X.env := by rfl) (hpl : (backTo pos (starEach es X.env)).any (·.1) = false := by rfl)
    (ht : MC X (.Name x p0) m apos pos (e :: es) [] pl := by exact rfl) :
    PE X (.Call (.Attribute (.Name x p0) m apos) (e :: es) [] pos) (tSMeth sp E t) := by
  obtain ⟨q, g, hm, r, cm, F⟩ := c.ex
  obtain ⟨rest, hp⟩ := cm.rc
  refine ⟨fun pins s σ H Q I h => ?_⟩
  refine PySem.W.methodCall_KW (pl := pl) (thn ((pe_clsv (pos := p0) hg hm hdb).run pins s σ H (fun v H1 => v = .ref C ∧ H1 = H) I ⟨rfl, rfl⟩) fun u s1 ⟨v, H1, I1, rx, q1⟩ => ?_) ht
  obtain ⟨rfl, rfl⟩ := q1
  obtain rfl : u = Value.ref C := rx
  refine PySem.W.method_cls I1.kIn r.ga (PySem.W.cls_bind I1.kIn r.rd cm.at_ ?_)
  refine wpAny_call (PySem.W.sm_get (s := { s1 with toks := s1.toks + 1 }) I1.kIn hp (PySem.W.handed_on rfl ?_))
  have I2 := I1.tok (s1.toks + 1)
  refine PySem.W.callWith_K (h₀ := X.base) (first := []) I2.ok.mod.kin cm.kp (thn (ha.run pos pins _ σ _ _ I2 h) fun us s3 ⟨vs, H2, I3, rv, q2⟩ => ⟨I3.kIn, ?_⟩) hst hpl
  exact wpAny_call (run_fnR (us := us) (vs := vs) F (hr.mono hk) hx I3 rv q2)
end
/-! #### len(d), walks over dicts and tuples -/
def rLenD : List V → Hp → VK → Prop := fun xs H Q => ∃ a kvs, xs = [V.ref a] ∧ Rd H a (.dK kvs) ∧ Q (.int kvs.length) H
section
variable {X : Cx}
theorem call_lenDR : CallR X (.builtin "len") rLenD := by
  intro pins s σ H xs us Q I r h
  obtain ⟨a, kvs, rfl, ha, q⟩ := h
  obtain ⟨u, rfl, ru⟩ := r.one
  cases ru
  exact d_len I ha fun t s' I' => ⟨.int kvs.length, H, I', ⟨t, rfl⟩, q⟩
end
section
variable {σ : L2.St} {H : Hp} {Q : VK} {K : PySem.W.Frag} {g : TG} {tb : TS} {tt : TT} {tk tv td ta : TE} {tl : TA} {vs : List Nat} {D : Ends} {kvs : List (Key × V)} {d C : Addr} {od : Obj} {F : Str} {sp : Sp} {E : XK}
theorem wp_lenD {a : Addr} (hd : Rd H a (.dK kvs)) (h : Q (.int kvs.length) H) : rLenD [.ref a] H Q := ⟨a, kvs, rfl, hd, h⟩
theorem wp_listD {p : Addr} (hd : H p = some (.dK kvs)) (h : ∀ q, H q = none → Q (.ref q) (upd H q (.lst (kvs.map fun kv => kV kv.1)))) : rListD [.ref p] H Q := ⟨p, kvs, rfl, hd, h⟩
theorem wp_smeth (h : tl σ H fun vs H2 => StarW sp vs H2 Q E) : tSMeth sp E tl σ H Q := h
theorem wp_forKeys (h : td σ H fun x H1 => ∃ d o, x = .ref d ∧ ((∃ kvs, H1 d = some (.frz o (.dK kvs)) ∧ ForW (Itk d o kvs) g tb D σ H1) ∨ ∃ kvs, H1 d = some (.frz o (.dT kvs)) ∧ ForW (Itkt d o kvs) g tb D σ H1)) : tFor (iKeys td) g tb D σ H := h
theorem loopKeysN {f : List Nat → V} {ns : List (List Nat)} (hf : H d = some (.frz od (.dK (dN f ns)))) (Pv : Nat → L2.St → Hp → Prop) (h0 : Pv 0 σ H) (hG : ∀ i σ' H', i ≤ ns.length → Pv i σ' H' → H' d = some (.frz od (.dK (dN f ns))))
    (hs : ∀ i l σ' H', ns[i]? = some l → Pv i σ' H' → g (.str (S l)) σ' H' fun σ2 H2 => tb { D with nx := Pv (i + 1), ct := Pv (i + 1), bk := D.nx } σ2 H2) (hd : ∀ σ' H', Pv ns.length σ' H' → D.nx σ' H') :
    ∃ d' o, V.ref d = .ref d' ∧ ((∃ kvs, H d' = some (.frz o (.dK kvs)) ∧ ForW (Itk d' o kvs) g tb D σ H) ∨ ∃ kvs, H d' = some (.frz o (.dT kvs)) ∧ ForW (Itkt d' o kvs) g tb D σ H) := by
  refine ⟨d, od, rfl, .inl ⟨_, hf, for_it walk_keys Pv h0 (fun i σ' H' hi => hG i σ' H' (by rw [dN_len] at hi; exact hi)) (fun i v σ' H1 H2 hi p y => ?_) (by rw [dN_len]; exact hd)⟩⟩
  obtain ⟨e, k, z, e1, rfl⟩ := y
  obtain ⟨l, hl, rfl, rfl⟩ := dN_at e1
  rw [e]
  exact hs i l σ' H1 hl p
theorem wp_dcT (h : ta σ H fun x H1 => ∃ a, x = .ref a ∧ (∃ xs, SqT K H1 a xs) ∧ DcW (Itt K a) g tt tk tv vs σ H1 Q) : tDc (iTup K ta) g tt tk tv vs σ H Q := h
theorem Same.seqT {H' : Hp} {a : Addr} {xs : List V} (e : Same H H') (h : SqT K H a xs) : SqT K H' a xs := by
  unfold SqT Rd at h ⊢
  rcases h with h | h
  · rcases h with h | ⟨o, h⟩
    · exact .inl (.inl (e _ _ h))
    · exact .inl (.inr ⟨o, e _ _ h⟩)
  · exact .inr h
theorem dcT {a : Addr} {xs : List V} (hx : SqT K H a xs) (hn : xs.length ≤ 100000) (kv : Nat → List (Key × V)) (h0 : kv 0 = []) (hlen : ∀ i, (kv i).length ≤ i)
    (hs : ∀ i x H2 (R : V → V → Hp → Prop), xs[i]? = some x → Same H H2 → (∀ k z H5, Same H2 H5 → kv (i + 1) = putK (kv i) k z → R (kV k) z H5) → g x (wipe σ vs) H2 fun σ2 H3 => wipe σ2 vs = wipe σ vs ∧ tk σ2 H3 fun y H4 => tv σ2 H4 fun z H5 => R y z H5)
    (hq : ∀ D H2, H D = none → Same H H2 → H2 D = some (.dK (kv xs.length)) → Q (.ref D) H2) : ∃ b, V.ref a = .ref b ∧ (∃ ys, SqT K H b ys) ∧ DcW (Itt K b) g tYes tk tv vs σ H Q := by
  refine ⟨a, rfl, ⟨xs, hx⟩, ?_⟩
  intro D hD
  refine dc_tup (xs := xs) (fun i H2 => i ≤ xs.length ∧ Same H H2 ∧ H2 D = some (.dK (kv i))) ⟨Nat.zero_le _, Same.new hD, by rw [h0]; exact upd_same⟩ (fun i H2 _ p => Same.seqT p.2.1 hx) (fun i x H2 hxi p => ?_) (fun H2 p => hq D H2 hD p.2.1 p.2.2)
  obtain ⟨hi, s1, hD2⟩ := p
  have hlt : i < xs.length := (List.getElem?_eq_some_iff.mp hxi).1
  exact hs i x _ (fun y z H5 => ∃ kvs k, y = kV k ∧ H5 D = some (.dK kvs) ∧ kvs.length < sizeLine ∧ (i + 1 ≤ xs.length ∧ Same H (upd H5 D (.dK (putK kvs k z))) ∧ upd H5 D (.dK (putK kvs k z)) D = some (.dK (kv (i + 1))))) hxi s1 fun k z H5 s5 e => ⟨kv i, k, rfl, s5 _ _ hD2, szlt (by have := hlen i; omega), hlt, Same.mut (s1.trans s5) hD, by rw [e]; exact upd_same⟩
end
end RM
namespace RM
open PySem PySem.Spec PyProof.Rows L2
/-! ### timetables: dicts that are built, told, changed -/
section
variable {σ : L2.St} {H : Hp} {Q : VK} {K : PySem.W.Frag} {g : TG} {tt : TT} {tk tv td te : TE} {vs : List Nat} {kvs : List (Key × V)} {d : Addr} {v : V}
/-- a dict comprehension over the keys of a dict that an expression tells -/
theorem lock_dcF (hd : H d = some (.dK kvs)) (hn : kvs.length ≤ 100000) (hv : ∀ od (R : VK), R (.ref d) (upd H d (.frz od (.dK kvs))) → td σ (upd H d (.frz od (.dK kvs))) R)
    (kv : Nat → List (Key × V)) (h0 : kv 0 = []) (hlen : ∀ i, (kv i).length ≤ i)
    (hs : ∀ i k x od H2 (R : V → V → Hp → Prop), kvs[i]? = some (k, x) → Same (upd H d (.frz od (.dK kvs))) H2 → (∀ k' z H5, Same H2 H5 → kv (i + 1) = putK (kv i) k' z → R (kV k') z H5) →
      g (kV k) (wipe σ vs) H2 fun σ2 H3 => wipe σ2 vs = wipe σ vs ∧ tk σ2 H3 fun y H4 => tv σ2 H4 fun z H5 => R y z H5)
    (hq : ∀ D H2, H D = none → Same H H2 → H2 D = some (.dK (kv kvs.length)) → Q (.ref D) H2) : tLockE (tDc (iKeys td) g tYes tk tv vs) σ H Q := by
  refine wp_lockE hd fun od => ?_
  refine hv od _ ⟨d, od, rfl, .inl ⟨kvs, upd_same, ?_⟩⟩
  intro D hD
  have nDd : D ≠ d := fun e => by rw [e, upd_same] at hD; cases hD
  have hD' : H D = none := by rw [upd_ne nDd] at hD; exact hD
  refine ⟨fun i m H2 => m = kvs.length - i ∧ i ≤ kvs.length ∧ Same (upd H d (.frz od (.dK kvs))) H2 ∧ H2 D = some (.dK (kv i)), ⟨kvs.length, by simp, Nat.zero_le _, Same.new hD, by rw [h0]; exact upd_same⟩, ?_⟩
  rintro i m H2 ⟨rfl, hi, s1, hD2⟩
  have hf := frz_at s1
  rcases Nat.lt_or_ge i kvs.length with h | h
  · right
    refine ⟨⟨hf, h⟩, fun H' => Same (upd H d (.frz od (.dK kvs))) H' ∧ H' D = some (.dK (kv (i + 1))), fun H' hN => ⟨kvs.length - (i + 1), by omega, rfl, by omega, hN⟩, fun x H' hy => ?_⟩
    obtain ⟨e, k, v, hkv, rfl⟩ := hy
    subst e
    exact hs i k v od _ (fun y z H5 => ∃ kvs' k, y = kV k ∧ H5 D = some (.dK kvs') ∧ kvs'.length < sizeLine ∧ (Same (upd H d (.frz od (.dK kvs))) (upd H5 D (.dK (putK kvs' k z))) ∧ upd H5 D (.dK (putK kvs' k z)) D = some (.dK (kv (i + 1))))) hkv s1 fun k z H5 s5 e => ⟨kv i, k, rfl, s5 _ _ hD2, szlt (by have := hlen i; omega), Same.mut (s1.trans s5) hD, by rw [e]; exact upd_same⟩
  · left
    have e : i = kvs.length := by omega
    subst e
    exact ⟨⟨hf, Nat.le_refl _⟩, hf, hq D _ hD' (unl hd s1) (by rw [upd_ne nDd]; exact hD2)⟩
theorem take_new {l : List Nat} {i : Nat} {ns : List (List Nat)} (nd : ns.Nodup) (hl : ns[i]? = some l) : l ∉ ns.take i := by
  intro hm
  have e := take_snoc hl
  have z : (ns.take (i + 1)).Nodup := nd.sublist (List.take_sublist _ _)
  rw [e] at z
  exact (List.nodup_append.mp z).2.2 l hm l (List.mem_singleton.mpr rfl) rfl
theorem lock_dcN {f : List Nat → V} {ns : List (List Nat)} (σ0 : L2.St) (h : List Nat → V) (hw : wipe σ vs = σ0) (nd : ns.Nodup) (hd : H d = some (.dK (dN f ns))) (hn : ns.length ≤ 100000) (hv : ∀ od (R : VK), R (.ref d) (upd H d (.frz od (.dK (dN f ns)))) → td σ (upd H d (.frz od (.dK (dN f ns)))) R)
    (hs : ∀ (i : Nat) (l : List Nat) od H2 (R : V → V → Hp → Prop), ns[i]? = some l → Same (upd H d (.frz od (.dK (dN f ns)))) H2 → (∀ H5, Same H2 H5 → R (.str (S l)) (h l) H5) →
      g (.str (S l)) σ0 H2 fun σ2 H3 => wipe σ2 vs = σ0 ∧ tk σ2 H3 fun y H4 => tv σ2 H4 fun z H5 => R y z H5)
    (hq : ∀ D H2, H D = none → Same H H2 → H2 D = some (.dK (dN h ns)) → Q (.ref D) H2) : tLockE (tDc (iKeys td) g tYes tk tv vs) σ H Q := by
  refine lock_dcF hd (by rw [dN_len]; exact hn) hv (fun i => dN h (ns.take i)) rfl (fun i => by rw [dN_len, List.length_take]; omega) (fun i k x od H2 R hk s kR => ?_) (fun D H2 h1 s h2 => hq D H2 h1 s (by rw [h2, dN_len, List.take_length]))
  obtain ⟨l, hl, rfl, rfl⟩ := dN_at hk
  rw [hw]
  refine hs i l od H2 R hl s fun H5 s5 => kR (.inr (S l)) (h l) H5 s5 ?_
  show dN h (ns.take (i + 1)) = _
  rw [take_snoc hl, dN_put (take_new nd hl)]
theorem dput_s {R : Hp → Prop} {l : List Nat} (hd : H d = some (.dK kvs)) (hl : kvs.length < 100000) (h : R (upd H d (.dK (putK kvs (.inr (S l)) v)))) : rSetD (.ref d) (.str (S l)) v H R := ⟨d, _, rfl, DPut.k (k := .inr (S l)) hd (szlt hl), h⟩
end
/-- the minutes of a list, by names -/
def asg : List (List Nat) → List Int → List Nat → Int
  | n :: ns, i :: is, l => if l = n then i else asg ns is l
  | _, _, _ => 0
theorem asg_at {l : List Nat} {j : Int} : ∀ {ns : List (List Nat)} {is : List Int} {k : Nat}, ns.Nodup → ns[k]? = some l → is[k]? = some j → asg ns is l = j
  | n :: ns, i :: is, 0, _, h1, h2 => by
    cases h1; cases h2
    exact if_pos rfl
  | n :: ns, i :: is, k + 1, nd, h1, h2 => by
    obtain ⟨hn, nd⟩ := List.nodup_cons.mp nd
    have e : l ≠ n := fun e => hn (e ▸ List.mem_of_getElem? h1)
    show (if l = n then i else asg ns is l) = j
    rw [if_neg e]
    exact asg_at nd h1 h2
theorem asg_mem {l : List Nat} : ∀ {ns : List (List Nat)} {is : List Int}, l ∈ ns → ns.length ≤ is.length → asg ns is l ∈ is
  | n :: ns, i :: is, h, hl => by
    show (if l = n then i else asg ns is l) ∈ _
    by_cases e : l = n
    · rw [if_pos e]; exact List.mem_cons_self
    · rw [if_neg e]
      exact List.mem_cons_of_mem _ (asg_mem ((List.mem_cons.mp h).resolve_left e) (by simpa using hl))
def rotG {α : Type} (f : Nat) (ns : List α) : List α := ns.drop f ++ ns.take f
theorem rot_perm {α : Type} (f : Nat) (ns : List α) : (rotG f ns).Perm ns := (List.perm_append_comm).trans (List.Perm.of_eq (List.take_append_drop f ns))
theorem rot_len {α : Type} (f : Nat) (ns : List α) : (rotG f ns).length = ns.length := (rot_perm f ns).length_eq
theorem rot_at {α : Type} {f k : Nat} {ns : List α} (hf : f ≤ ns.length) (hk : k < ns.length) : (rotG f ns)[k]? = ns[(k + f) % ns.length]? := by
  unfold rotG
  by_cases h : k + f < ns.length
  · rw [Nat.mod_eq_of_lt h, List.getElem?_append_left (by rw [List.length_drop]; omega), List.getElem?_drop, Nat.add_comm f k]
  · have e : (k + f) % ns.length = k - (ns.length - f) := by
      rw [Nat.mod_eq_sub_mod (by omega), Nat.mod_eq_of_lt (by omega)]
      omega
    rw [List.getElem?_append_right (by rw [List.length_drop]; omega), List.length_drop, List.getElem?_take, e, if_pos (by omega)]
theorem rot0 {α : Type} (ns : List α) : rotG 0 ns = ns := by unfold rotG; simp
/-- a new timetable is handed out -/
def NewTm (C : Addr) (G H : Hp) (T : Int) (ns : List (List Nat)) (m : List Nat → Int) (Q : VK) : Prop := ∀ a G' H', Same G G' → Same G' H' → Same H H' → (∀ q o, H q = some o → G q = none → G' q = none) → IsTimes C G' a T ns m → Q (.ref a) H'
theorem NewTm.sees {C : Addr} {P : Pl} {G H : Hp} {T : Int} {ns : List (List Nat)} {m : List Nat → Int} {Q : VK} (hs : Sees P G H) (k : ∀ a G' H', Same G G' → Same H H' → (∀ q o, H q = some o → G q = none → G' q = none) → IsTimes C G' a T ns m → Sees P G' H' → Q (.ref a) H') : NewTm C G H T ns m Q :=
  fun a G' H' s1 s2 s3 kp n => k a G' H' s1 s3 kp n (hs.grow s1 s2 s3 kp)
theorem IsTimes.congr {C : Addr} {H : Hp} {a : Addr} {T : Int} {ns : List (List Nat)} {m m' : List Nat → Int} (h : IsTimes C H a T ns m) (e : ∀ l ∈ ns, m l = m' l) : IsTimes C H a T ns m' := by
  obtain ⟨dx, d, h1, h2⟩ := h
  refine ⟨dx, d, h1, ?_⟩
  rw [h2]
  unfold mD
  rw [dN_congr fun l hl => by rw [e l hl]]
theorem OkTm.congr {T : Int} {ns : List (List Nat)} {m m' : List Nat → Int} (h : OkTm T ns m) (e : ∀ l ∈ ns, m l = m' l) : OkTm T ns m' := ⟨h.t0, h.t1, h.few, h.nm, fun l hl => by rw [← e l hl]; exact h.m0 l hl, fun l hl => by rw [← e l hl]; exact h.m1 l hl⟩
theorem mD_congr {ns : List (List Nat)} {m m' : List Nat → Int} (e : ∀ l ∈ ns, m l = m' l) : mD m ns = mD m' ns := by
  unfold mD
  exact dN_congr fun l hl => by rw [e l hl]
theorem intVs_mD {m : List Nat → Int} {ns : List (List Nat)} : IntVs (mD m ns) := fun p hp => by
  unfold mD dN at hp
  obtain ⟨l, _, rfl⟩ := List.mem_map.mp hp
  exact ⟨m l, rfl⟩
/-- == of two dicts of minutes -/
theorem eqKV_iff {m m' : List Nat → Int} {ns ms : List (List Nat)} : eqKV (mD m ns) (mD m' ms) = true ↔ ns.length = ms.length ∧ ∀ l ∈ ns, l ∈ ms ∧ m' l = m l := by
  unfold eqKV mD
  rw [Bool.and_eq_true, beq_iff_eq, dN_len, dN_len, List.all_eq_true]
  refine and_congr Iff.rfl ⟨fun h l hl => ?_, fun h p hp => ?_⟩
  · have z := h (.inr (S l), .int (m l)) (List.mem_map.mpr ⟨l, hl, rfl⟩)
    by_cases e : l ∈ ms
    · refine ⟨e, ?_⟩
      simp only [dN_val e] at z
      have z2 := of_decide_eq_true z
      injection z2
    · simp only [dN_none e] at z
      cases z
  · obtain ⟨l, hl, rfl⟩ := List.mem_map.mp hp
    obtain ⟨e, e2⟩ := h l hl
    show (match valV (dN (fun l => .int (m' l)) ms) (.inr (S l)) with
      | some v => decide (v = V.int (m l))
      | none => false) = true
    rw [dN_val e]
    exact decide_eq_true (by rw [e2])
/-- two dicts of minutes are told to be the same -/
def SmD (H : Hp) (n : Nat) (u v : V) : Prop := ∃ (a b : Addr) (f : List Nat → V) (ns : List (List Nat)) (j : Nat), n = j + 2 ∧ u = .ref a ∧ v = .ref b ∧ a ≠ b ∧ H a = some (.dK (dN f ns)) ∧ H b = some (.dK (dN f ns)) ∧ ns.length ≤ 1000 ∧ (∀ l ∈ ns, Asc l) ∧ ∀ l ∈ ns, Sc (f l)
theorem smD_m {H : Hp} {n : Nat} {a b : Addr} {m : List Nat → Int} {ns : List (List Nat)} (ne : a ≠ b) (ha : H a = some (.dK (mD m ns))) (hb : H b = some (.dK (mD m ns))) (hl : ns.length ≤ 1000) (hn : ∀ l ∈ ns, Asc l) : SmD H (n + 2) (.ref a) (.ref b) :=
  ⟨a, b, _, ns, n, rfl, rfl, rfl, ne, ha, hb, hl, hn, fun l _ => .inr (.inr (.inl ⟨_, rfl⟩))⟩
theorem NewTm.up {C : Addr} {G H H2 : Hp} {T : Int} {ns : List (List Nat)} {m : List Nat → Int} {Q : VK} (s : Same H H2) (k : NewTm C G H T ns m Q) : NewTm C G H2 T ns m Q :=
  fun a G' H' s1 s2 s3 kp it => k a G' H' s1 s2 (s.trans s3) (fun q o hq hG => kp q o (s _ _ hq) hG) it
/-- a list of one's own, of things that are O -/
structure OtG (P : Pl) (L : Addr) (G0 : Hp) (O : Hp → V → Prop) (n : Nat) (G H : Hp) (xs : List V) : Prop where
  l : Lcl P L xs G H
  s : Same G0 G
  o : ∀ x ∈ xs, O G x
  n : xs.length ≤ n
def Ups (O : Hp → V → Prop) : Prop := ∀ G G' x, Same G G' → O G x → O G' x
theorem OtG.new {P : Pl} {L q : Addr} {G0 : Hp} {O : Hp → V → Prop} {n : Nat} {G H : Hp} {xs : List V} {o : HO} (u : Ups O) (h : OtG P L G0 O n G H xs) (hq : H q = none) : OtG P L G0 O n (upd G q o) (upd H q o) xs :=
  have g := h.l.s.sub.free hq
  ⟨h.l.new hq, h.s.trans (Same.new g), fun x hx => u _ _ _ (Same.new g) (h.o x hx), h.n⟩
/-- a call that makes one new thing and leaves all else -/
theorem OtG.made {P : Pl} {L q : Addr} {G0 : Hp} {O : Hp → V → Prop} {n : Nat} {G H H' : Hp} {xs : List V} {o : HO} (u : Ups O) (h : OtG P L G0 O n G H xs) (s : Same H H') (hq : H q = none) (hq' : H' q = some o) : OtG P L G0 O n (upd G q o) H' xs :=
  have g := h.l.s.sub.free hq
  have nqp := (h.l.s.fresh hq).2
  have nL : L ≠ q := ne_of_none h.l.h hq
  ⟨⟨(h.l.s.same s).with g hq' nqp, s _ _ h.l.h, by rw [upd_ne nL]; exact h.l.g, h.l.ne⟩, h.s.trans (Same.new g), fun x hx => u _ _ _ (Same.new g) (h.o x hx), h.n⟩
theorem OtG.mono {P : Pl} {L : Addr} {G0 : Hp} {O : Hp → V → Prop} {n m : Nat} {G H : Hp} {xs : List V} (h : OtG P L G0 O n G H xs) (e : n ≤ m) : OtG P L G0 O m G H xs := ⟨h.l, h.s, h.o, Nat.le_trans h.n e⟩
theorem OtG.draw {P : Pl} {L : Addr} {G0 : Hp} {O : Hp → V → Prop} {n : Nat} {G H H' : Hp} {xs : List V} (h : OtG P L G0 O n G H xs) (s : Sees P (upd G L (.lst xs)) H') : OtG P L G0 O n G H' xs := ⟨h.l.out s, h.s, h.o, h.n⟩
theorem app_otG {P : Pl} {L o : Addr} {G0 : Hp} {O : Hp → V → Prop} {n : Nat} {G H : Hp} {xs zs : List V} {R : V → Hp → Prop} (u : Ups O) (ho : H o = none) (h : OtG P L G0 O n G H xs) (hn : n ≤ 90) (hO : O (upd G o (.lst zs)) (.ref o)) (k : ∀ ys G2 H2, OtG P L G0 O (n + 1) G2 H2 ys → Same G G2 → R .non H2) : rAppend (.ref L) [.ref o] (upd H o (.lst zs)) R := by
  have g := h.l.s.sub.free ho
  have h2 := h.new (o := .lst zs) u ho
  refine wp_append h2.l.h (by have := h.n; omega) (k (xs ++ [.ref o]) _ _ ⟨h2.l.put, h2.s, fun x hx => ?_, by have := h.n; simp; omega⟩ (Same.new g))
  rcases List.mem_append.mp hx with e | e
  · exact h2.o x e
  · rw [List.mem_singleton.mp e]
    exact hO
theorem putK_le (c : List (Key × V)) (k : Key) (x : V) : (putK c k x).length ≤ c.length + 1 := by
  unfold putK
  split <;> simp
end RM
namespace RM
open PySem PySem.Spec PyProof.Rows L2
/-! ### max(xs, default=d), sorted names, comprehensions with a test, own operators between two objects -/
section
variable {prog : Program} {w : World} {A : Around} {R : Result → Shared → Prop} {I S : Addr} {fp wr : List Addr} {n : Nat} {P : Nat → Value → Prop} {St : Nat → Heap → Prop} {bt : Nat → Nat → Bool} {dv : Value} {s0 : Shared}
/-- what the list of the best holds behind j items -/
def Bst (P : Nat → Value → Prop) (bt : Nat → Nat → Bool) : Nat → Array Value → Prop
  | 0, d => d = #[]
  | i + 1, d => ∃ v, P (argBest bt i) v ∧ d = #[v, v]
def lsO (d : Array Value) (c : Nat) : Obj := { cls := .type "list", dict := none, data := .seq d c, slots := #[] }
def Kpt (wr : List Addr) (S : Addr) (h h' : Heap) : Prop := ∀ b o, b ∉ wr → b ≠ S → h.get? b = some o → h'.get? b = some o
theorem mxd_loop (W : Walks prog w A.in1 I fp wr n P St) (hc : CmpOf prog w A.in1 .Gt P bt) (hS : S ∉ fp)
    (fin0 : n = 0 → ∀ h t, Kpt wr S s0.heap h → R (.ok (.ret dv)) { s0 with heap := h, toks := t }) (fin : ∀ i v h t, n = i + 1 → P (argBest bt i) v → Kpt wr S s0.heap h → R (.ok (.ret v)) { s0 with heap := h, toks := t }) :
    ∀ (m j : Nat) (h : Heap) (t c : Nat) (d : Array Value), n - j = m → j ≤ n → St j h → Bst P bt j d → h.get? S = some (lsO d c) → Kpt wr S s0.heap h →
      codeAny (model prog w) A (.builtin "max.loop" ⟨[.ref I, .none, .ref S], [("default", dv)]⟩) R { s0 with heap := h, toks := t } := by
  have nS : S ∉ wr := fun z => hS (W.sub _ z)
  have nm : (toString "max" ++ toString ".loop" : String) = "max.loop" := by decide
  intro m
  induction m with
  | zero =>
    intro j h t c d hm hj st hB hd kp
    obtain rfl : j = n := by omega
    apply codeAny_builtin F.entry_max_loop
    rw [Around.under_plainId F.plain_max_loop _]
    show wpAny _ A.in1 (seqItems? (.ref S) >>= _) _ _ _
    apply wpAny_bind
    apply wpAny_seqItems hd rfl
    show wpAny _ A.in1 (tryCatch (pyNext (.ref I)) _ >>= _) _ _ _
    apply wpAny_bind
    apply wpAny_tryCatch
    refine W.done _ _ _ st fun h' tk kk => ?_
    have hd2 := kk S _ nS hd
    have kp2 : Kpt wr S s0.heap h' := fun b o b1 b2 e => kk b o b1 (kp b o b1 b2 e)
    match j, hB, fin0, fin with
    | 0, hB, fin0, _ =>
      have e : d = #[] := hB
      subst e
      show wpAny _ A.in1 (rule _ >>= _) _ _ _
      exact wpAny_bind (wpAny_rule (wpAny_pure (fin0 rfl _ _ kp2)))
    | i + 1, hB, _, fin =>
      obtain ⟨v, hv, rfl⟩ := hB
      show wpAny _ A.in1 (updateSeq S (fun _ => #[]) >>= _) _ _ _
      refine wpAny_bind (wpAny_updateSeq hd2 rfl (wpAny_bind (wpAny_letGo (wpAny_pure (fin i v _ _ rfl hv fun b o b1 b2 e => ?_)))))
      rw [Heap.get?_update_other _ _ (Ne.symm b2)]
      exact kp2 b o b1 b2 e
  | succ m ih =>
    intro j h t c d hm hj st hB hd kp
    have hlt : j < n := by omega
    apply codeAny_builtin F.entry_max_loop
    rw [Around.under_plainId F.plain_max_loop _]
    show wpAny _ A.in1 (seqItems? (.ref S) >>= _) _ _ _
    apply wpAny_bind
    apply wpAny_seqItems hd rfl
    show wpAny _ A.in1 (tryCatch (pyNext (.ref I)) _ >>= _) _ _ _
    apply wpAny_bind
    apply wpAny_tryCatch
    refine W.item j _ _ _ hlt st fun v h' tk pv st' kk => ?_
    have hd2 := kk S _ nS hd
    have kp2 : Kpt wr S s0.heap h' := fun b o b1 b2 e => kk b o b1 (kp b o b1 b2 e)
    have put : ∀ (h2 : Heap) (f : Array Value → Array Value), h2 = h'.update S (Obj.mapSeq f) → St (j + 1) h2 ∧ Kpt wr S s0.heap h2 := fun h2 f e => by
      subst e
      refine ⟨W.frame _ _ _ st' fun b hb o e => ?_, fun b o b1 b2 e => ?_⟩
      · rw [Heap.get?_update_other _ _ (fun z : S = b => hS (by rw [z]; exact hb))]; exact e
      · rw [Heap.get?_update_other _ _ (Ne.symm b2)]; exact kp2 b o b1 b2 e
    match j, hB with
    | 0, hB =>
      have e : d = #[] := hB
      subst e
      show wpAny _ A.in1 (updateSeq S (fun _ => #[v, v]) >>= _) _ _ _
      apply wpAny_bind
      apply wpAny_updateSeq hd2 rfl
      rw [nm]
      have z := put _ (fun _ => #[v, v]) rfl
      exact wpAny_pure ⟨plainId_quiet F.plain_max_loop _, ih 1 _ _ _ #[v, v] (by omega) (by omega) z.1 ⟨v, pv, rfl⟩ (Heap.get?_update_self _ hd2 rfl) z.2⟩
    | i + 1, hB =>
      obtain ⟨u, hu, rfl⟩ := hB
      show wpAny _ A.in1 (tryCatch (holding [v, v] (richCompare .Gt v u >>= _)) _ >>= _) _ _ _
      apply wpAny_bind
      apply wpAny_tryCatch
      apply wpAny_holding
      apply wpAny_bind
      refine hc (i + 1) (argBest bt i) v u _ _ _ pv hu ?_
      refine wpAny_bind (wpAny_holding (wpAny_truthy_bool (wpAny_bind (wpAny_letGo (wpAny_pure ?_)))))
      by_cases hb : bt (i + 1) (argBest bt i) = true
      · rw [hb]
        simp only [if_true]
        apply wpAny_bind
        apply wpAny_updateSeq hd2 rfl
        refine wpAny_bind (wpAny_letGo ?_)
        rw [nm]
        have z := put _ (fun _ => #[v, v]) rfl
        exact wpAny_pure ⟨plainId_quiet F.plain_max_loop _, ih (i + 2) _ _ _ #[v, v] (by omega) (by omega) z.1 ⟨v, by simp only [argBest, hb, if_true]; exact pv, rfl⟩ (Heap.get?_update_self _ hd2 rfl) z.2⟩
      · rw [Bool.not_eq_true] at hb
        rw [hb]
        simp only [Bool.false_eq_true, if_false]
        refine wpAny_bind (wpAny_letGo ?_)
        rw [nm]
        exact wpAny_pure ⟨plainId_quiet F.plain_max_loop _, ih (i + 2) _ _ _ #[u, u] (by omega) (by omega) st' ⟨u, by simp only [argBest, hb, Bool.false_eq_true, if_false]; exact hu, rfl⟩ hd2 kp2⟩
end
theorem args_maxD (a v : Value) : argsOk "max" ⟨[a], [(Str.ofString "default", v)]⟩ := by unfold argsOk; kernel_rfl
/-- max(xs, default=d) of a list of ints -/
def rMaxD (K : PySem.W.Frag) : List V → List V → Hp → VK → Prop := fun vs zs H Q => ∃ (a : Addr) (ns : List Int) (d : Int), vs = [.ref a] ∧ zs = [.int d] ∧ SqL K H a (ns.map V.int) ∧ (ns = [] → Q (.int d) H) ∧ ∀ m, m ∈ ns → (∀ y, y ∈ ns → y ≤ m) → Q (.int m) H
section
variable {X : Cx}
theorem cr_maxD (hcalm : X.calm = true) : CallRK X (.builtin "max") ["default"] (rMaxD X.K) := by
  intro pins s σ H xs zs us ws Q I r rz h
  obtain ⟨a, ns, d, rfl, rfl, hs, q0, q⟩ := h
  obtain ⟨u, rfl, ru⟩ := r.one
  cases ru
  obtain ⟨wd, rfl, rd⟩ := rz.one
  obtain ⟨td, rfl⟩ := rd
  obtain ⟨its, rv, hl, _⟩ := I.list hs
  have hi := rv.ints
  obtain ⟨ys, e⟩ := hi.allInts.items
  have hn : numsOf (intItems ys).toList = ns := by rw [← e]; exact hi.numsOf
  rw [nums_intItems] at hn
  subst hn
  have hl2 := hl.isList
  rw [e] at hl2
  have nm : (toString "max" ++ toString ".loop" : String) = "max.loop" := by decide
  refine kmk_tree F.kind_max F.plain_max F.entry_max (args_maxD _ _) ?_
  show wpAny _ X.A.in1 (Builtin.Builtins.bindParams "max" ["key", "default"] 0 ⟨[], [(Str.ofString "default", .int d td)]⟩ >>= _) _ _ s
  refine wpAny_bind (wpAny_of_eq (show Builtin.Builtins.bindParams "max" ["key", "default"] 0 ⟨[], [(Str.ofString "default", .int d td)]⟩ = pure [none, some (.int d td)] from rfl) ?_)
  apply wpAny_bind
  apply wpAny_pure
  apply wpAny_bind
  refine iter_intList hl2 fun s₂ es st hfp hlI => ?_
  subst es
  refine wpAny_bind (wpAny_newObj_type ?_ (by size_fits))
  rw [nm]
  have W := Walks.list (prog := X.prog) (w := X.w) (A := X.A.in1) (I.ok.hd hcalm) s.heap.objs.size a hlI (intItems ys)
  have ez : (intItems ys).size = ys.size := by simp [intItems]
  have hS : (s.heap.push { cls := .type "list_iterator", data := .fields #[.ref a, .int 0 0] }).objs.size ∉ [s.heap.objs.size, a] := fun hm => Nat.lt_irrefl _ (hfp _ hm)
  have old : ∀ {h : Heap}, Kpt [s.heap.objs.size] (s.heap.push { cls := .type "list_iterator", data := .fields #[.ref a, .int 0 0] }).objs.size s.heap h → ∀ b o, s.heap.get? b = some o → h.get? b = some o := fun kp b o e => by
    have hb := Heap.lt_size e
    refine kp b o (fun hm => ?_) (fun z => ?_) e
    · rw [List.mem_singleton.mp hm] at hb; exact Nat.lt_irrefl _ hb
    · rw [z, Heap.size_push] at hb; exact absurd hb (Nat.not_lt.mpr (Nat.le_succ _))
  refine wpAny_pure ⟨plainId_quiet F.plain_max_loop _, mxd_loop (s0 := s) (bt := fun i j => decide (numAt ys i > numAt ys j)) W (CmpOf.ints_gt (numAt ys) fun _ _ => intItems_at) hS (fun e0 h t kp => ?_) (fun i v h t ei pv kp => ?_) _ 0 _ _ 0 #[] rfl (Nat.zero_le _) (W.frame _ _ _ st fun b _ o e => Heap.get?_push_of_some _ e) rfl (Heap.get?_push_size _ rfl) (fun b o _ _ e => Heap.get?_push_of_some _ (Heap.get?_push_of_some _ e))⟩
  · rw [ez] at e0
    have en : (ys.toList.map (·.1)) = [] := List.eq_nil_of_length_eq_zero (by rw [List.length_map, Array.length_toList]; exact e0)
    exact ⟨.int d, H, I.kept (t' := t) (old kp), ⟨td, rfl⟩, q0 en⟩
  · rw [ez] at ei
    obtain ⟨tk, rfl⟩ := intItems_at pv
    obtain ⟨h1, h2⟩ := argBest_gt (numAt ys) i
    refine ⟨.int _, H, I.kept (t' := t) (old kp), ⟨tk, rfl⟩, q _ ?_ fun y hy => ?_⟩
    · rw [numAt_eq]; exact PySem.getD_mem (by rw [List.length_map, Array.length_toList]; omega)
    · obtain ⟨j, hj, rfl⟩ := mem_getD hy
      rw [List.length_map, Array.length_toList] at hj
      rw [← numAt_eq]; exact h2 j (by omega)
end
/-! #### walks over a locked dict that an exception may leave -/
section
variable {X : Cx} {E : XK}
theorem takes_unlock {p : Addr} {od : Obj} {u : HO} (tk : Takes X (fun cls d _ H => E cls d H)) (hn : ∀ o' u', X.H_0 p ≠ some (.frz o' u')) : Takes X (fun cls d _ H => H p = some (.frz od u) ∧ E cls d (upd H p u)) :=
  fun v s' ⟨a, B, sI, pins, σ, H, cls, d, e, I, nb, up, sky, na, os, ag, w⟩ => tk v s' ⟨a, B, sI, pins, σ, upd H p u, cls, d, e, I.unlock w.1 hn, nb, up, sky, by rw [upd_ne (fun z => by rw [z, w.1] at na; cases na)]; exact na, os, ag, w.2⟩
theorem pxBy (tk : Takes X (fun cls d _ H => E cls d H)) : Passes (L2.CX X.prog X.w) X E := passes_call tk fun _ _ _ _ h => h
def unlX (p : Addr) (od : Obj) (u : HO) (E : XK) : XK := fun cls d H => H p = some (.frz od u) ∧ E cls d (upd H p u)
def tLockX (t : XK → TS) (E : XK) : TS := fun D σ H => ∃ d u, H d = some u ∧ Mut (some u) ∧ ∀ od, t (unlX d od u E) ⟨fun σ' H' => H' d = some (.frz od u) ∧ D.nx σ' (upd H' d u), fun v H' => H' d = some (.frz od u) ∧ D.rt v (upd H' d u), fun σ' H' => H' d = some (.frz od u) ∧ D.bk σ' (upd H' d u), fun σ' H' => H' d = some (.frz od u) ∧ D.ct σ' (upd H' d u)⟩ σ (upd H d (.frz od u))
theorem ps_lockX {st : Stmt} {t : XK → TS} (tk : Takes X (fun cls d _ H => E cls d H)) (h : ∀ E1, Takes X (fun cls d _ H => E1 cls d H) → PS X st (t E1)) : PS X st (tLockX t E) := by
  refine ⟨fun pins s σ H D I hw => ?_⟩
  obtain ⟨d, u, hd, mu, hw⟩ := hw
  obtain ⟨od, I1⟩ := I.lock hd mu
  have hn := I.nofrz hd mu
  refine thn ((h (unlX d od u E) (takes_unlock tk hn)).run pins s σ _ _ I1 (hw od)) fun f s1 q => ?_
  match f with
  | .next => exact q.elim fun σ' q => q.elim fun H' q => ⟨σ', _, q.1.unlock q.2.1 hn, q.2.2⟩
  | .brk => exact q.elim fun σ' q => q.elim fun H' q => ⟨σ', _, q.1.unlock q.2.1 hn, q.2.2⟩
  | .cont => exact q.elim fun σ' q => q.elim fun H' q => ⟨σ', _, q.1.unlock q.2.1 hn, q.2.2⟩
  | .ret v => exact q.elim fun x q => q.elim fun σ' q => q.elim fun H' q => ⟨x, σ', _, q.1.unlock q.2.2.1 hn, q.2.1, q.2.2.2⟩
theorem wp_lockX {t : XK → TS} {D : Ends} {σ : L2.St} {H : Hp} {d : Addr} {kvs : List (Key × V)} (hd : H d = some (.dK kvs)) (h : ∀ od, t (unlX d od (.dK kvs) E) ⟨fun σ' H' => H' d = some (.frz od (.dK kvs)) ∧ D.nx σ' (upd H' d (.dK kvs)), fun v H' => H' d = some (.frz od (.dK kvs)) ∧ D.rt v (upd H' d (.dK kvs)), fun σ' H' => H' d = some (.frz od (.dK kvs)) ∧ D.bk σ' (upd H' d (.dK kvs)), fun σ' H' => H' d = some (.frz od (.dK kvs)) ∧ D.ct σ' (upd H' d (.dK kvs))⟩ σ (upd H d (.frz od (.dK kvs)))) : tLockX t E D σ H := ⟨d, _, hd, True.intro, h⟩
/-- what was raised under the lock was raised before -/
theorem Rzd.unl {C : Addr} {fs : List (Str × V)} {H : Hp} {d : Addr} {kvs : List (Key × V)} {od : Obj} (hd : H d = some (.dK kvs)) (h : Rzd C fs E H) : Rzd C fs (unlX d od (.dK kvs) E) (upd H d (.frz od (.dK kvs))) := fun x H' s hx hf => by
  have nx : x ≠ d := fun e => by rw [e, upd_same] at hx; cases hx
  rw [upd_ne nx] at hx
  exact ⟨s _ _ upd_same, h x _ (RM.unl hd s) hx (by rw [upd_ne nx]; exact hf)⟩
end
/-! #### names in order -/
def srt (ns : List (List Nat)) : List (List Nat) := ns.mergeSort fun a b => decide (a ≤ b)
theorem srt_perm (ns : List (List Nat)) : (srt ns).Perm ns := List.mergeSort_perm _ _
theorem srt_pw (ns : List (List Nat)) : (srt ns).Pairwise (fun a b => a ≤ b) := by
  have z := List.pairwise_mergeSort (le := fun a b : List Nat => decide (a ≤ b)) (fun a b c h1 h2 => decide_eq_true (List.le_trans (of_decide_eq_true h1) (of_decide_eq_true h2))) (fun a b => by
    rcases List.le_total a b with h | h
    · rw [decide_eq_true h]; rfl
    · rw [decide_eq_true h, Bool.or_true]) ns
  exact z.imp fun h => of_decide_eq_true h
theorem srt_uniq {zs ns : List (List Nat)} (p : zs.Perm ns) (h : zs.Pairwise (fun a b => a ≤ b)) : zs = srt ns :=
  (p.trans (srt_perm ns).symm).eq_of_pairwise (fun _ _ _ _ h1 h2 => List.le_antisymm h1 h2) h (srt_pw ns)
theorem srt_mem {l : List Nat} {ns : List (List Nat)} : l ∈ srt ns ↔ l ∈ ns := (srt_perm ns).mem_iff
theorem srt_nodup {ns : List (List Nat)} (h : ns.Nodup) : (srt ns).Nodup := (srt_perm ns).nodup_iff.mpr h
theorem srt_len (ns : List (List Nat)) : (srt ns).length = ns.length := (srt_perm ns).length_eq
theorem srt_filter {ns : List (List Nat)} (f : List Nat → Bool) : srt ((srt ns).filter f) = (srt ns).filter f := (srt_uniq (List.Perm.refl _) ((srt_pw ns).sublist List.filter_sublist)).symm
theorem rising_pw : ∀ {p : Str} {l : List Str}, risingS p l = true → (p :: l).Pairwise fun a b => a.cps.toList ≤ b.cps.toList
  | p, [], _ => by simp
  | p, x :: r, h => by
    have h' : (!ltCps x.cps.toList p.cps.toList && risingS x r) = true := h
    obtain ⟨h1, h2⟩ := Bool.and_eq_true_iff.mp h'
    have ih := rising_pw h2
    have hpx : p.cps.toList ≤ x.cps.toList := by
      rw [PyProof.Rows.ltCps_eq, Bool.not_eq_true', decide_eq_false_iff_not] at h1
      exact List.not_lt.mp h1
    refine List.pairwise_cons.mpr ⟨fun y hy => ?_, ih⟩
    rcases List.mem_cons.mp hy with rfl | hy
    · exact hpx
    · exact List.le_trans hpx ((List.pairwise_cons.mp ih).1 y hy)
theorem sorted_srt {zs : List Str} {ns : List (List Nat)} (p : zs.Perm (ns.map S)) (h : sortedS zs = true) : zs = (srt ns).map S := by
  have hp : zs.Pairwise fun a b => a.cps.toList ≤ b.cps.toList := by
    cases zs with
    | nil => simp
    | cons x r => exact rising_pw h
  have e1 : zs = (zs.map fun x => x.cps.toList).map S := by
    rw [List.map_map]
    have : (S ∘ fun x : Str => x.cps.toList) = id := by funext x; exact S_tl x
    rw [this, List.map_id]
  have p1 : (zs.map fun x => x.cps.toList).Perm ns := by
    have z := p.map fun x : Str => x.cps.toList
    rw [List.map_map] at z
    have : ((fun x : Str => x.cps.toList) ∘ S) = id := rfl
    rw [this, List.map_id] at z
    exact z
  have h2 : (zs.map fun x => x.cps.toList).Pairwise (fun a b => a ≤ b) := List.pairwise_map.mpr hp
  rw [e1, srt_uniq p1 h2]
def rSortD : List V → Hp → VK → Prop := fun xs H Q => ∃ (a : Addr) (kvs : List (Key × V)) (ks : List Str), xs = [.ref a] ∧ Rd H a (.dK kvs) ∧ kvs.map (·.1) = ks.map Sum.inr ∧ ks.length < 64 ∧ ∀ ys p, ys.Perm ks → sortedS ys = true → H p = none → Q (.ref p) (upd H p (.lst (ys.map V.str)))
section
variable {X : Cx} {σ : L2.St} {H : Hp} {Q : VK} {K : PySem.W.Frag} {g : TG} {tt : TT} {tk tv td ty tx : TE} {vs : List Nat} {kvs : List (Key × V)} {d : Addr} {v : V}
theorem callSortD (hc : X.calm = true) : CallR X (.builtin "sorted") rSortD := call_sortedD hc
theorem wp_sortD {f : List Nat → V} {ns : List (List Nat)} (hd : Rd H d (.dK (dN f ns))) (hn : ns.length < 64) (k : ∀ p, H p = none → Q (.ref p) (upd H p (.lst ((srt ns).map sv)))) : rSortD [.ref d] H Q := by
  refine ⟨d, _, ns.map S, rfl, hd, by unfold dN; rw [List.map_map, List.map_map]; rfl, by rw [List.length_map]; exact hn, fun ys p hy hs hp => ?_⟩
  rw [sorted_srt hy hs, List.map_map]
  exact k p hp
theorem wp_sortS {a : Addr} {ns : List (List Nat)} (ha : SqL K H a (ns.map sv)) (hn : ns.length < 64) (k : ∀ p, H p = none → Q (.ref p) (upd H p (.lst ((srt ns).map sv)))) : rSortedS K [.ref a] H Q := by
  refine ⟨a, ns.map S, rfl, by rw [List.map_map]; exact ha, by rw [List.length_map]; exact hn, fun ys p hy hs hp => ?_⟩
  rw [sorted_srt hy hs, List.map_map]
  exact k p hp
/-- a dict comprehension over a list of names, with a test -/
theorem dcLN {a : Addr} {ns : List (List Nat)} (σ0 : L2.St) (h : List Nat → V) (p : List Nat → Bool) (hw : wipe σ vs = σ0) (nd : ns.Nodup) (hx : SqL K H a (ns.map sv)) (hn : ns.length ≤ 100000)
    (hs : ∀ (i : Nat) (l : List Nat) H2 (R : V → V → Hp → Prop) (R0 : Hp → Prop), ns[i]? = some l → Same H H2 → (p l = true → ∀ H5, Same H2 H5 → R (.str (S l)) (h l) H5) → (p l = false → ∀ H5, Same H2 H5 → R0 H5) →
      g (.str (S l)) σ0 H2 fun σ2 H3 => wipe σ2 vs = σ0 ∧ tt σ2 H3 fun b H4 => if b = true then tk σ2 H4 fun y H5 => tv σ2 H5 fun z H6 => R y z H6 else R0 H4)
    (hq : ∀ D H2, H D = none → Same H H2 → H2 D = some (.dK (dN h (ns.filter p))) → Q (.ref D) H2) : ∃ b, V.ref a = .ref b ∧ (∃ ys, SqL K H b ys) ∧ DcW (Itl K b) g tt tk tv vs σ H Q := by
  have el : (ns.map sv).length = ns.length := List.length_map ..
  refine ⟨a, rfl, ⟨_, hx⟩, ?_⟩
  intro D hD
  refine ⟨fun i m H2 => m = ns.length - i ∧ i ≤ ns.length ∧ Same H H2 ∧ H2 D = some (.dK (dN h ((ns.take i).filter p))), ⟨ns.length, by simp, Nat.zero_le _, Same.new hD, upd_same⟩, ?_⟩
  rintro i m H2 ⟨rfl, hi, s1, hD2⟩
  have hx2 := Same.seq s1 hx
  rcases Nat.lt_or_ge i ns.length with hlt | hge
  · right
    have hi2 : i < (ns.map sv).length := by omega
    refine ⟨⟨_, (ns.map sv)[i], hx2, List.getElem?_eq_getElem hi2⟩, fun H' => Same H H' ∧ H' D = some (.dK (dN h ((ns.take (i + 1)).filter p))), fun H' hN => ⟨ns.length - (i + 1), by omega, rfl, by omega, hN⟩, fun x H' hy => ?_⟩
    obtain ⟨e, hy⟩ := hy
    subst e
    have hxi := hy _ hx2
    rw [List.getElem?_map] at hxi
    obtain ⟨l, hl, rfl⟩ := Option.map_eq_some_iff.mp hxi
    rw [hw]
    have et := take_snoc hl
    refine hs i l _ (fun y z H5 => ∃ kvs k, y = kV k ∧ H5 D = some (.dK kvs) ∧ kvs.length < sizeLine ∧ (Same H (upd H5 D (.dK (putK kvs k z))) ∧ upd H5 D (.dK (putK kvs k z)) D = some (.dK (dN h ((ns.take (i + 1)).filter p))))) (fun H' => Same H H' ∧ H' D = some (.dK (dN h ((ns.take (i + 1)).filter p)))) hl s1 (fun hp H5 s5 => ?_) (fun hp H5 s5 => ⟨s1.trans s5, ?_⟩)
    · refine ⟨_, .inr (S l), rfl, s5 _ _ hD2, szlt ?_, Same.mut (s1.trans s5) hD, ?_⟩
      · rw [dN_len]
        have := List.length_filter_le p (ns.take i)
        rw [List.length_take] at this
        omega
      · rw [upd_same, dN_put (fun hm => take_new nd hl ((List.mem_filter.mp hm).1)), et, List.filter_append]
        simp [hp]
    · rw [s5 _ _ hD2, et, List.filter_append]
      simp [hp]
  · left
    have e : i = ns.length := by omega
    subst e
    rw [List.take_length] at hD2
    exact ⟨⟨_, hx2, by omega⟩, hq D H2 hD s1 hD2⟩
theorem wp_dget2 (h : td σ H fun x H1 => ∃ a, x = .ref a ∧ IsD H1 a ∧ ty σ H1 fun y H2 => tx σ H2 fun z H3 => ∃ o, DGet H3 a y o ∧ Q (o.getD z) H3) : tDGet2 td ty tx σ H Q := h
theorem isd_at {R : Addr → Prop} (hd : Rd H d (.dK kvs)) (q : R d) : ∃ a, V.ref d = .ref a ∧ IsD H a ∧ R a := ⟨d, rfl, .inl ⟨kvs, hd⟩, q⟩
theorem dg_s {R : Option V → Prop} {l : List Nat} (hd : Rd H d (.dK kvs)) (q : R (valV kvs (.inr (S l)))) : ∃ o, DGet H d (.str (S l)) o ∧ R o := ⟨_, .inl ⟨kvs, .inr (S l), hd, rfl, rfl⟩, q⟩
end
end RM
namespace RM
open PySem PySem.Spec PyProof.Rows L2
/-! ### errors that are due; try suites; lists of truth values compared -/
/-- an error that is due: its class and its fields -/
structure Er where
  c : Str
  fs : List (Str × V)
def eN (n : Int) : Er := ⟨"BadNumber", [("number", .int n)]⟩
def eS (c : Str) (l : List Nat) : Er := ⟨c, [("name", sv l)]⟩
def eU (n : Int) : Er := ⟨"UnknownSpan", [("number", .int n)]⟩
def eT (a b : Int) : Er := ⟨"TooMany", [("limit", .int b), ("count", .int a)]⟩
/-- what a check says: nothing, or that error -/
def Ck (K : PySem.W.Frag) (r : Option Er) (E : XK) (H : Hp) (Q : VK) : Prop := ∀ H', Same H H' → (r = none → Q .non H') ∧ ∀ e, r = some e → Rzd (He.ga K e.c) e.fs E H'
theorem Ck.non {K : PySem.W.Frag} {r : Option Er} {E : XK} {H : Hp} {Q : VK} (h : Ck K r E H Q) (e : r = none) : Q .non H := (h H (Same.refl _)).1 e
theorem Ck.rz {K : PySem.W.Frag} {r : Option Er} {e : Er} {E : XK} {H : Hp} {Q : VK} (h : Ck K r E H Q) (q : r = some e) : Rzd (He.ga K e.c) e.fs E H := (h H (Same.refl _)).2 e q
theorem Ck.mono {K : PySem.W.Frag} {r : Option Er} {E : XK} {H H2 : Hp} {Q : VK} (h : Ck K r E H Q) (s : Same H H2) : Ck K r E H2 Q := fun H' s2 => h H' (s.trans s2)
theorem Ck.seq {K : PySem.W.Frag} {a b : Option Er} {E : XK} {H : Hp} {Q Q' : VK} (h : Ck K (a.or b) E H Q) (k : ∀ H', Same H H' → a = none → Ck K b E H' Q → Q' .non H') : Ck K a E H Q' := by
  intro H' s
  cases a with
  | none =>
      refine ⟨fun _ => k H' s rfl fun H2 s2 => ?_, fun e q => nomatch q⟩
      have z := h H2 (s.trans s2)
      rw [Option.none_or] at z
      exact z
  | some e =>
      exact ⟨(fun q => nomatch q), fun e' q => (h H' s).2 e' (by rw [← q]; rfl)⟩
theorem Ck.fst {K : PySem.W.Frag} {a b : Option Er} {E : XK} {H : Hp} {Q : VK} (h : Ck K (a.or b) E H Q) (e : a = none) : Ck K b E H Q := by rw [e, Option.none_or] at h; exact h
theorem wp_rs {C : Addr} {fs : List Str} {E : XK} {ta : TA} {D : Ends} {σ : L2.St} {H : Hp} (h : ta σ H fun vs H1 => RsW C fs E vs H1) : tRs C fs E ta D σ H := h
def cFold {α : Type} (f : α → Option Er) : List α → Option Er
  | [] => none
  | x :: r => (f x).or (cFold f r)
theorem cFold_drop {α : Type} {f : α → Option Er} {xs : List α} {i : Nat} {x : α} (h : xs[i]? = some x) : cFold f (xs.drop i) = (f x).or (cFold f (xs.drop (i + 1))) := by
  obtain ⟨hl, e⟩ := List.getElem?_eq_some_iff.mp h
  rw [List.drop_eq_getElem_cons hl, e]
  rfl
theorem wp_tryMk {K : PySem.W.Frag} {i : Nat} {C : Addr} {sp : Sp} {ta : TA} {l : List (Value × Sui)} {D : Ends} {σ : L2.St} {H : Hp} (h : ta σ H fun vs H1 => MkW C sp (WE (wAsM K i (fun _ _ _ _ => False) D l) σ) (fun _ H2 => D.nx σ H2) vs H1) :
    tTry K i (fun W => tDrop (tMakeS C sp (WE W) ta)) l D σ H := h
theorem wAs_no {K : PySem.W.Frag} {i : Nat} {Wo : WX} {D : Ends} {c : Value} {ts : Sui} {r : List (Value × Sui)} {cls : Value} {d : Option Addr} {σ : L2.St} {H : Hp} (h : PySem.W.exmOne K cls c = some false) (k : wAsM K i Wo D r cls d σ H) : wAsM K i Wo D ((c, ts) :: r) cls d σ H := ⟨false, h, (fun q => nomatch q), fun _ => k⟩
theorem wAs_yes {K : PySem.W.Frag} {i : Nat} {Wo : WX} {D : Ends} {c : Value} {ts : Sui} {r : List (Value × Sui)} {cls : Value} {d : Option Addr} {σ : L2.St} {H : Hp} (h : PySem.W.exmOne K cls c = some true)
    (k : ∀ a, H a = none → ts a cls d { nx := fun σ' H' => D.nx (σ'.set i none) H', rt := D.rt, bk := fun σ' H' => D.bk (σ'.set i none) H', ct := fun σ' H' => D.ct (σ'.set i none) H' } (σ.set i (some (.ref a))) H) : wAsM K i Wo D ((c, ts) :: r) cls d σ H := ⟨true, h, fun _ => k, (fun q => nomatch q)⟩
theorem wp_isX {K : PySem.W.Frag} {a D dd : Addr} {fs : List (Str × V)} {c : V} {cv : Value} {b : Bool} {H : Hp} {Q : VK} (h : H dd = some (.xd fs)) (i : ExI K D) (hcv : ∀ u, RelV c u → u = cv) (e : PySem.W.kitOne K (.ref D) cv = some b) (q : Q (.bl b) H) : rIsX K a (.ref D) (some dd) [.ref a, c] H Q :=
  ⟨D, dd, fs, c, cv, b, rfl, rfl, rfl, i, h, hcv, e, q⟩
theorem wp_xfV {i : Nat} {a C dd : Addr} {f : Str} {σ : L2.St} {H : Hp} {Q : VK} {fs : List (Str × V)} {v : V} (hv : σ[i]? = some (some (.ref a))) (h : H dd = some (.xd fs)) (hl : fs.lookup f = some v) (q : Q v H) : tXf a (.ref C) (some dd) C f (tVar i) σ H Q :=
  ⟨.ref a, hv, rfl, rfl, dd, fs, v, rfl, h, hl, q⟩
theorem wp_tryCall {K : PySem.W.Frag} {i : Nat} {sp : Sp} {ta : TA} {l : List (Value × Sui)} {D : Ends} {σ : L2.St} {H : Hp} (h : ta σ H fun vs H1 => sp vs H1 (fun _ H2 => D.nx σ H2) (WE (wAsM K i (fun _ _ _ _ => False) D l) σ)) :
    tTry K i (fun W => tDrop (tCallS sp (WE W) ta)) l D σ H := h
def bD2 (bs : List Bool) : List PyData := bs.map .bool
section
variable {K : PySem.W.Frag} {H : Hp} {Q : VK} {a b : Addr}
theorem dp_bools2 : ∀ bs : List Bool, DpAll K H (bs.map V.bl) (bD2 bs)
  | [] => .nil
  | b :: bs => .cons (.bl b) (dp_bools2 bs)
theorem sh_bools2 : ∀ bs : List Bool, PyData.canLayAll0 (bD2 bs) = true ∧ PyData.depthAll (bD2 bs) = 0
  | [] => ⟨rfl, rfl⟩
  | b :: bs => by
    obtain ⟨h1, h2⟩ := sh_bools2 bs
    refine ⟨?_, ?_⟩
    · show (true && PyData.canLayAll0 (bD2 bs)) = true
      rw [h1]; rfl
    · show max 0 (PyData.depthAll (bD2 bs)) = 0
      rw [h2]; rfl
theorem eqv_bools2 : ∀ bs : List Bool, PyData.eqvAll (bD2 bs) (bD2 bs) = true
  | [] => rfl
  | b :: bs => by
    show (PyData.eqv (.bool b) (.bool b) && PyData.eqvAll (bD2 bs) (bD2 bs)) = true
    rw [eqv_bools2 bs]
    cases b <;> rfl
theorem wp_neBs2 {bs : List Bool} (h1 : H a = some (.lst (bs.map V.bl))) (h2 : H b = some (.lst (bs.map V.bl))) (q : Q (.bl false) H) : rNeD K (.ref a) (.ref b) H Q := by
  have sh : SeqAt.shaped (.list (bD2 bs)) = true := by
    obtain ⟨z1, z2⟩ := sh_bools2 bs
    show (PyData.canLayAll0 (bD2 bs) && decide (PyData.depthAll (bD2 bs) + 1 ≤ 64)) = true
    rw [z1, z2]; rfl
  refine ⟨.list (bD2 bs), .list (bD2 bs), .lst (sq_of h1) (dp_bools2 _), .lst (sq_of h2) (dp_bools2 _), sh, sh, ?_⟩
  show Q (.bl (!PyData.eqvAll (bD2 bs) (bD2 bs))) H
  rw [eqv_bools2]
  exact q
theorem wp_eqNil2 {xs : List V} {ds : List PyData} (h1 : H a = some (.lst xs)) (h2 : H b = some (.lst [])) (hd : DpAll K H xs ds) (sh : SeqAt.shaped (.list ds) = true) (q : Q (.bl (decide (ds = []))) H) : rEqD K (.ref a) (.ref b) H Q := by
  refine ⟨.list ds, .list [], .lst (sq_of h1) hd, .lst (sq_of h2) .nil, sh, rfl, ?_⟩
  show Q (.bl (PyData.eqvAll ds [])) H
  cases ds with
  | nil => exact q
  | cons d r => exact q
end
theorem wp_eqBs2 {K : PySem.W.Frag} {H : Hp} {Q : VK} {a b : Addr} {bs : List Bool} (h1 : H a = some (.lst (bs.map V.bl))) (h2 : H b = some (.lst (bs.map V.bl))) (q : Q (.bl true) H) : rEqD K (.ref a) (.ref b) H Q := by
  have sh : SeqAt.shaped (.list (bD2 bs)) = true := by
    obtain ⟨z1, z2⟩ := sh_bools2 bs
    show (PyData.canLayAll0 (bD2 bs) && decide (PyData.depthAll (bD2 bs) + 1 ≤ 64)) = true
    rw [z1, z2]; rfl
  refine ⟨.list (bD2 bs), .list (bD2 bs), .lst (sq_of h1) (dp_bools2 _), .lst (sq_of h2) (dp_bools2 _), sh, sh, ?_⟩
  show Q (.bl (PyData.eqvAll (bD2 bs) (bD2 bs))) H
  rw [eqv_bools2]
  exact q
theorem wp_neNil {K : PySem.W.Frag} {H : Hp} {Q : VK} {a b : Addr} {bs : List Bool} (h1 : H a = some (.lst (bs.map V.bl))) (h2 : H b = some (.lst [])) (q : Q (.bl (!decide (bs = []))) H) : rNeD K (.ref a) (.ref b) H Q := by
  have sh : SeqAt.shaped (.list (bD2 bs)) = true := by
    obtain ⟨z1, z2⟩ := sh_bools2 bs
    show (PyData.canLayAll0 (bD2 bs) && decide (PyData.depthAll (bD2 bs) + 1 ≤ 64)) = true
    rw [z1, z2]; rfl
  refine ⟨.list (bD2 bs), .list [], .lst (sq_of h1) (dp_bools2 _), .lst (sq_of h2) .nil, sh, rfl, ?_⟩
  show Q (.bl (!PyData.eqvAll (bD2 bs) [])) H
  cases bs with
  | nil => exact q
  | cons d r => exact q
theorem cFold_none {α : Type} {f : α → Option Er} : ∀ {xs : List α}, (∀ x ∈ xs, f x = none) → cFold f xs = none
  | [], _ => rfl
  | x :: r, h => by
    show (f x).or (cFold f r) = none
    rw [h x List.mem_cons_self, cFold_none fun y hy => h y (List.mem_cons_of_mem _ hy)]
    rfl
theorem cFold_at {α : Type} {f : α → Option Er} {er : Er} {l : α} : ∀ {xs : List α} {i : Nat}, xs[i]? = some l → (∀ x ∈ xs.take i, f x = none) → f l = some er → cFold f xs = some er
  | x :: r, 0, h, _, e => by
    cases h
    show (f l).or (cFold f r) = _
    rw [e]
    rfl
  | x :: r, i + 1, h, n, e => by
    show (f x).or (cFold f r) = _
    rw [n x (by simp), Option.none_or]
    exact cFold_at (i := i) h (fun y hy => n y (by rw [List.take_succ_cons]; exact List.mem_cons_of_mem _ hy)) e
theorem cFold_all {α : Type} {f : α → Option Er} : ∀ {xs : List α}, cFold f xs = none → ∀ x ∈ xs, f x = none
  | x :: r, h, y, hy => by
    have h' : (f x).or (cFold f r) = none := h
    obtain ⟨h1, h2⟩ := Option.or_eq_none_iff.mp h'
    rcases List.mem_cons.mp hy with rfl | hy
    · exact h1
    · exact cFold_all h2 y hy
end RM
namespace RM
open PySem PySem.Spec PyProof.Rows L2
/-! ### shifts; lists made over the keys of a dict -/
abbrev shF (d : Addr) : List (Str × V) := [("_moves", .ref d)]
theorem lk_sm {d : Addr} : (shF d).lookup ("_moves" : Str) = some (.ref d) := rfl
theorem pt_sm {d : Addr} : putF "_moves" (.ref d) [] = shF d := rfl
def IsShift (C : Addr) (H : Hp) (a : Addr) (ms : List (List Nat)) (f : List Nat → Int) : Prop := ∃ dx d, H a = some (.ins C dx (shF d)) ∧ H d = some (.dK (mD f ms))
def IsShiftR (C : Addr) (H : Hp) (a : Addr) (ms : List (List Nat)) (f : List Nat → Int) : Prop := ∃ dx d, H a = some (.ins C dx (shF d)) ∧ Rd H d (.dK (mD f ms))
theorem rdMono {H H' : Hp} {d : Addr} {o : HO} (e : Same H H') (h : Rd H d o) : Rd H' d o := by
  rcases h with h | ⟨ob, h⟩
  · exact .inl (e _ _ h)
  · exact .inr ⟨ob, e _ _ h⟩
theorem IsShift.mono {C : Addr} {H H' : Hp} (e : Same H H') {a : Addr} {ms : List (List Nat)} {f : List Nat → Int} (h : IsShift C H a ms f) : IsShift C H' a ms f := by
  obtain ⟨dx, d, h1, h2⟩ := h
  exact ⟨dx, d, e _ _ h1, e _ _ h2⟩
theorem IsShiftR.mono {C : Addr} {H H' : Hp} (e : Same H H') {a : Addr} {ms : List (List Nat)} {f : List Nat → Int} (h : IsShiftR C H a ms f) : IsShiftR C H' a ms f := by
  obtain ⟨dx, d, h1, h2⟩ := h
  exact ⟨dx, d, e _ _ h1, rdMono e h2⟩
theorem IsShift.rd {C : Addr} {H : Hp} {a : Addr} {ms : List (List Nat)} {f : List Nat → Int} (h : IsShift C H a ms f) : IsShiftR C H a ms f := by
  obtain ⟨dx, d, h1, h2⟩ := h
  exact ⟨dx, d, h1, .inl h2⟩
theorem IsShiftR.lock {C : Addr} {H : Hp} {p : Addr} {kvs : List (Key × V)} {od : Obj} (hp : H p = some (.dK kvs)) {a : Addr} {ms : List (List Nat)} {f : List Nat → Int} (h : IsShift C H a ms f) : IsShiftR C (upd H p (.frz od (.dK kvs))) a ms f := by
  obtain ⟨dx, d, h1, h2⟩ := h
  have nap : a ≠ p := fun e => by rw [e, hp] at h1; cases h1
  refine ⟨dx, d, (upd_ne nap).trans h1, ?_⟩
  by_cases e : d = p
  · subst e
    rw [hp] at h2
    cases h2
    exact .inr ⟨od, upd_same⟩
  · exact .inl ((upd_ne e).trans h2)
theorem IsShift.congr {C : Addr} {H : Hp} {a : Addr} {ms : List (List Nat)} {f g : List Nat → Int} (h : IsShift C H a ms f) (e : ∀ l ∈ ms, f l = g l) : IsShift C H a ms g := by
  obtain ⟨dx, d, h1, h2⟩ := h
  exact ⟨dx, d, h1, by rw [h2, mD_congr e]⟩
/-- the names whose entry is not 0, in order -/
def nzs (f : List Nat → Int) (ns : List (List Nat)) : List (List Nat) := (srt ns).filter fun l => !decide (f l = 0)
theorem nzs_mem {f : List Nat → Int} {ns : List (List Nat)} {l : List Nat} : l ∈ nzs f ns ↔ l ∈ ns ∧ f l ≠ 0 := by
  unfold nzs
  rw [List.mem_filter, srt_mem]
  simp
theorem nzs_nodup {f : List Nat → Int} {ns : List (List Nat)} (h : ns.Nodup) : (nzs f ns).Nodup := (srt_nodup h).sublist List.filter_sublist
theorem nzs_len (f : List Nat → Int) (ns : List (List Nat)) : (nzs f ns).length ≤ ns.length := by
  have := List.length_filter_le (fun l => !decide (f l = 0)) (srt ns)
  rw [srt_len] at this
  exact this
theorem nzs_pw (f : List Nat → Int) (ns : List (List Nat)) : (nzs f ns).Pairwise (fun a b => a ≤ b) := (srt_pw ns).sublist List.filter_sublist
theorem nzs_congr {f g : List Nat → Int} {ns : List (List Nat)} (h : ∀ l ∈ ns, f l = g l) : nzs f ns = nzs g ns := List.filter_congr fun l hl => by rw [h l (srt_mem.mp hl)]
/-- the same entries make the same names -/
theorem nzs_eq {f g : List Nat → Int} {ns ms : List (List Nat)} (nd : ns.Nodup) (md : ms.Nodup) (h : ∀ l, (l ∈ ns ∧ f l ≠ 0) ↔ (l ∈ ms ∧ g l ≠ 0)) : nzs f ns = nzs g ms := by
  have p : (nzs f ns).Perm (nzs g ms) := (List.perm_ext_iff_of_nodup (nzs_nodup nd) (nzs_nodup md)).mpr fun l => by rw [nzs_mem, nzs_mem]; exact h l
  exact p.eq_of_pairwise (fun _ _ _ _ h1 h2 => List.le_antisymm h1 h2) (nzs_pw f ns) (nzs_pw g ms)
/-- a new shift is handed out -/
def NewSh (C : Addr) (G H : Hp) (ms : List (List Nat)) (f : List Nat → Int) (Q : VK) : Prop := ∀ a G' H', Same G G' → Same G' H' → Same H H' → (∀ q o, H q = some o → G q = none → G' q = none) → IsShift C G' a ms f → Q (.ref a) H'
theorem NewSh.sees {C : Addr} {P : Pl} {G H : Hp} {ms : List (List Nat)} {f : List Nat → Int} {Q : VK} (hs : Sees P G H) (k : ∀ a G' H', Same G G' → Same H H' → (∀ q o, H q = some o → G q = none → G' q = none) → IsShift C G' a ms f → Sees P G' H' → Q (.ref a) H') : NewSh C G H ms f Q :=
  fun a G' H' s1 s2 s3 kp n => k a G' H' s1 s3 kp n (hs.grow s1 s2 s3 kp)
theorem NewSh.up {C : Addr} {G H H2 : Hp} {ms : List (List Nat)} {f : List Nat → Int} {Q : VK} (s : Same H H2) (k : NewSh C G H ms f Q) : NewSh C G H2 ms f Q :=
  fun a G' H' s1 s2 s3 kp it => k a G' H' s1 s2 (s.trans s3) (fun q o hq hG => kp q o (s _ _ hq) hG) it
section
variable {σ : L2.St} {H : Hp} {Q : VK} {K : PySem.W.Frag} {g : TG} {tt : TT} {te td : TE} {vs : List Nat} {d : Addr} {f : List Nat → V} {ns : List (List Nat)}
theorem wp_lcKeys (h : td σ H fun x H1 => ∃ d o, x = .ref d ∧ ((∃ kvs, H1 d = some (.frz o (.dK kvs)) ∧ LcW (Itk d o kvs) g tt te vs σ H1 Q) ∨ ∃ kvs, H1 d = some (.frz o (.dT kvs)) ∧ LcW (Itkt d o kvs) g tt te vs σ H1 Q)) : tLc (iKeys td) g tt te vs σ H Q := h
theorem lcKeysN {od : Obj} (σ0 : L2.St) (h : List Nat → V) (p : List Nat → Bool) (hw : wipe σ vs = σ0) (hf : H d = some (.frz od (.dK (dN f ns)))) (hn : ns.length ≤ 100000)
    (hs : ∀ (i : Nat) (l : List Nat) H2 (R : VK) (R0 : Hp → Prop), ns[i]? = some l → Same H H2 → (p l = true → ∀ H5, Same H2 H5 → R (h l) H5) → (p l = false → ∀ H5, Same H2 H5 → R0 H5) →
      g (.str (S l)) σ0 H2 fun σ2 H4 => wipe σ2 vs = σ0 ∧ tt σ2 H4 fun b H5 => if b = true then te σ2 H5 R else R0 H5)
    (hq : ∀ D H2, H D = none → Same H H2 → H2 D = some (.lst ((ns.filter p).map h)) → Q (.ref D) H2) : LcW (Itk d od (dN f ns)) g tt te vs σ H Q := by
  refine lcGen walk_keys (by rw [dN_len]; exact hn) (fun H' s => s _ _ hf) (fun i H2 x H3 y => by rw [y.1]; exact Same.refl _) (fun i => ((ns.take i).filter p).map h) rfl (fun i => by
    rw [List.length_map]
    exact Nat.le_trans (List.length_filter_le _ _) (by rw [List.length_take]; omega)) (fun i x H2 H3 R R0 _ s2 y k1 k0 => ?_) (fun D H2 hD s2 h2 => hq D H2 hD s2 (by rw [h2, dN_len, List.take_length]))
  obtain ⟨e, k, v, hk, rfl⟩ := y
  subst e
  obtain ⟨l, hl, rfl, rfl⟩ := dN_at hk
  rw [hw]
  have et := take_snoc hl
  refine hs i l _ R R0 hl s2 (fun hp H5 s5 => k1 _ _ s5 ?_) (fun hp H5 s5 => k0 _ s5 ?_)
  · rw [et, List.filter_append, List.map_append]
    simp [hp]
  · rw [et, List.filter_append, List.map_append]
    simp [hp]
/-- [.. for name in d ..] -/
theorem lock_lcN (σ0 : L2.St) (h : List Nat → V) (p : List Nat → Bool) (hw : wipe σ vs = σ0) (hd : H d = some (.dK (dN f ns))) (hn : ns.length ≤ 100000) (hv : ∀ od (R : VK), R (.ref d) (upd H d (.frz od (.dK (dN f ns)))) → td σ (upd H d (.frz od (.dK (dN f ns)))) R)
    (hs : ∀ (i : Nat) (l : List Nat) od H2 (R : VK) (R0 : Hp → Prop), ns[i]? = some l → Same (upd H d (.frz od (.dK (dN f ns)))) H2 → (p l = true → ∀ H5, Same H2 H5 → R (h l) H5) → (p l = false → ∀ H5, Same H2 H5 → R0 H5) →
      g (.str (S l)) σ0 H2 fun σ2 H4 => wipe σ2 vs = σ0 ∧ tt σ2 H4 fun b H5 => if b = true then te σ2 H5 R else R0 H5)
    (hq : ∀ D H2, H D = none → Same H H2 → H2 D = some (.lst ((ns.filter p).map h)) → Q (.ref D) H2) : tLockE (tLc (iKeys td) g tt te vs) σ H Q := by
  refine wp_lockE hd fun od => wp_lcKeys (hv od _ ⟨d, od, rfl, .inl ⟨_, upd_same, ?_⟩⟩)
  refine lcKeysN σ0 h p hw upd_same hn (fun i l H2 R R0 hl s k1 k0 => hs i l od H2 R R0 hl s k1 k0) (fun D H2 hD s h2 => ?_)
  have nD : D ≠ d := fun e => by rw [e, upd_same] at hD; cases hD
  rw [upd_ne nD] at hD
  exact ⟨s _ _ upd_same, hq D _ hD (unl hd s) (by rw [upd_ne nD]; exact h2)⟩
/-- x = [.. for name in d ..] -/
theorem lock_lcS {D0 : Ends} {j : Nat} (σ0 : L2.St) (h : List Nat → V) (p : List Nat → Bool) (hw : wipe σ vs = σ0) (hd : H d = some (.dK (dN f ns))) (hn : ns.length ≤ 100000) (hv : ∀ od (R : VK), R (.ref d) (upd H d (.frz od (.dK (dN f ns)))) → td σ (upd H d (.frz od (.dK (dN f ns)))) R)
    (hs : ∀ (i : Nat) (l : List Nat) od H2 (R : VK) (R0 : Hp → Prop), ns[i]? = some l → Same (upd H d (.frz od (.dK (dN f ns)))) H2 → (p l = true → ∀ H5, Same H2 H5 → R (h l) H5) → (p l = false → ∀ H5, Same H2 H5 → R0 H5) →
      g (.str (S l)) σ0 H2 fun σ2 H4 => wipe σ2 vs = σ0 ∧ tt σ2 H4 fun b H5 => if b = true then te σ2 H5 R else R0 H5)
    (hq : ∀ D H2, H D = none → Same H H2 → H2 D = some (.lst ((ns.filter p).map h)) → D0.nx (σ.set j (some (.ref D))) H2) : tLock (tAsg (tLc (iKeys td) g tt te vs) (gName j)) D0 σ H := by
  refine wp_lock hd fun od => ?_
  show tLc (iKeys td) g tt te vs σ (upd H d (.frz od (.dK (dN f ns)))) fun v H' => gName j v σ H' fun σ' H' => H' d = some (.frz od (.dK (dN f ns))) ∧ D0.nx σ' (upd H' d (.dK (dN f ns)))
  refine wp_lcKeys (hv od _ ⟨d, od, rfl, .inl ⟨_, upd_same, ?_⟩⟩)
  refine lcKeysN σ0 h p hw upd_same hn (fun i l H2 R R0 hl s k1 k0 => hs i l od H2 R R0 hl s k1 k0) (fun D H2 hD s h2 => ?_)
  have nD : D ≠ d := fun e => by rw [e, upd_same] at hD; cases hD
  rw [upd_ne nD] at hD
  exact ⟨s _ _ upd_same, hq D _ hD (unl hd s) (by rw [upd_ne nD]; exact h2)⟩
theorem wp_ckw {r : List V → List V → Hp → VK → Prop} {tl tk : TA} (h : tl σ H fun vs H1 => tk σ H1 fun zs H2 => r vs zs H2 Q) : tCKw r tl tk σ H Q := h
end
/-! #### dicts built in any order, names perhaps twice -/
def stepD (fm : (List Nat → Int) × List (List Nat)) (lv : List Nat × Int) : (List Nat → Int) × List (List Nat) := (fun x => if x = lv.1 then lv.2 else fm.1 x, if lv.1 ∈ fm.2 then fm.2 else fm.2 ++ [lv.1])
def bldD (ps : List (List Nat × Int)) : (List Nat → Int) × List (List Nat) := ps.foldl stepD (fun _ => 0, [])
theorem bldD_snoc (ps : List (List Nat × Int)) (p : List Nat × Int) : bldD (ps ++ [p]) = stepD (bldD ps) p := by unfold bldD; rw [List.foldl_append]; rfl
theorem putK_old {f : List Nat → Int} {l : List Nat} {v : Int} : ∀ {ns : List (List Nat)}, ns.Nodup → l ∈ ns → putK (mD f ns) (.inr (S l)) (.int v) = mD (fun x => if x = l then v else f x) ns := by
  intro ns nd hl
  unfold putK
  have e : ((mD f ns).any fun kv => decide (kv.1 = (.inr (S l) : Key))) = true := by
    rw [List.any_eq_true]
    exact ⟨(.inr (S l), .int (f l)), List.mem_map.mpr ⟨l, hl, rfl⟩, decide_eq_true rfl⟩
  rw [if_pos e]
  unfold mD dN
  rw [List.map_map]
  refine List.map_congr_left fun x _ => ?_
  show (if (Sum.inr (S x) : Key) = .inr (S l) then _ else _) = _
  by_cases h : x = l
  · subst h
    rw [if_pos rfl]
    show (Sum.inr (S x), V.int v) = (Sum.inr (S x), V.int (if x = x then v else f x))
    rw [if_pos rfl]
  · rw [if_neg (fun z => h (key_inj z))]
    show (Sum.inr (S x), V.int (f x)) = (Sum.inr (S x), V.int (if x = l then v else f x))
    rw [if_neg h]
theorem bldD_inv {lim : Nat} : ∀ (n : Nat) (ps : List (List Nat × Int)), ps.length = n → (bldD ps).2.Nodup ∧ (∀ l, l ∈ (bldD ps).2 ↔ l ∈ ps.map (·.1)) ∧ (bldD ps).2.length ≤ n ∧ ∀ l ∈ (bldD ps).2, (l, (bldD ps).1 l) ∈ ps
  | 0, ps, h => by
    rw [List.eq_nil_of_length_eq_zero h]
    exact ⟨List.nodup_nil, by simp [bldD], Nat.le_refl _, by simp [bldD]⟩
  | n + 1, ps, h => by
    obtain ⟨qs, p, rfl⟩ : ∃ qs p, ps = qs ++ [p] := ⟨ps.dropLast, ps.getLast (by intro e; rw [e] at h; cases h), (List.dropLast_concat_getLast _).symm⟩
    obtain ⟨h1, h2, h3, h4⟩ := bldD_inv (lim := lim) n qs (by simpa using h)
    rw [bldD_snoc]
    unfold stepD
    refine ⟨?_, fun l => ?_, ?_, fun l hl => ?_⟩
    · by_cases e : p.1 ∈ (bldD qs).2
      · simp only [e, if_true]; exact h1
      · simp only [e, if_false]
        exact List.nodup_append.mpr ⟨h1, by simp, fun a ha b hb hab => e (by rw [List.mem_singleton.mp hb] at hab; rw [← hab]; exact ha)⟩
    · rw [List.map_append, List.mem_append, ← h2]
      by_cases e : p.1 ∈ (bldD qs).2
      · simp only [e, if_true]
        exact ⟨.inl, fun z => z.elim id fun z => by rw [show l = p.1 by simpa using z]; exact e⟩
      · simp only [e, if_false]
        rw [List.mem_append]
        simp
    · by_cases e : p.1 ∈ (bldD qs).2
      · simp only [e, if_true]; omega
      · simp only [e, if_false, List.length_append, List.length_cons, List.length_nil]; omega
    · show (l, if l = p.1 then p.2 else (bldD qs).1 l) ∈ _
      by_cases e2 : l = p.1
      · rw [if_pos e2, e2]
        exact List.mem_append_right _ (List.mem_singleton.mpr rfl)
      · rw [if_neg e2]
        refine List.mem_append_left _ (h4 l ?_)
        have hl2 : l ∈ (if p.1 ∈ (bldD qs).2 then (bldD qs).2 else (bldD qs).2 ++ [p.1]) := hl
        by_cases e : p.1 ∈ (bldD qs).2
        · rw [if_pos e] at hl2; exact hl2
        · rw [if_neg e] at hl2
          rcases List.mem_append.mp hl2 with z | z
          · exact z
          · exact absurd (List.mem_singleton.mp z) e2
/-- names that are different: nothing is lost -/
theorem bldD_nodup : ∀ (n : Nat) (ns : List (List Nat)) (is : List Int), ns.length = n → is.length = n → ns.Nodup → (bldD (ns.zip is)).2 = ns ∧ ∀ l ∈ ns, (bldD (ns.zip is)).1 l = asg ns is l
  | 0, ns, is, h1, h2, _ => by
    rw [List.eq_nil_of_length_eq_zero h1]
    exact ⟨rfl, by simp⟩
  | n + 1, ns, is, h1, h2, nd => by
    obtain ⟨ms, m, rfl⟩ : ∃ qs p, ns = qs ++ [p] := ⟨ns.dropLast, ns.getLast (by intro e; rw [e] at h1; cases h1), (List.dropLast_concat_getLast _).symm⟩
    obtain ⟨js, j, rfl⟩ : ∃ qs p, is = qs ++ [p] := ⟨is.dropLast, is.getLast (by intro e; rw [e] at h2; cases h2), (List.dropLast_concat_getLast _).symm⟩
    have l1 : ms.length = n := by simpa using h1
    have l2 : js.length = n := by simpa using h2
    obtain ⟨d1, _, d3⟩ := List.nodup_append.mp nd
    have nm : m ∉ ms := fun h => d3 m h m (List.mem_singleton.mpr rfl) rfl
    obtain ⟨e1, e2⟩ := bldD_nodup n ms js l1 l2 d1
    rw [List.zip_append (by omega), show [m].zip [j] = [(m, j)] from rfl, bldD_snoc]
    unfold stepD
    simp only [e1, nm, if_false]
    refine ⟨by first | rfl | trivial, fun l hl => ?_⟩
    have at1 : ∀ k, (ms ++ [m])[k]? = some l → (js ++ [j])[k]? = some (asg (ms ++ [m]) (js ++ [j]) l) := fun k hk => by
      have hkl : k < (js ++ [j]).length := by
        have := (List.getElem?_eq_some_iff.mp hk).1
        simp at this ⊢; omega
      rw [asg_at nd hk (List.getElem?_eq_getElem hkl)]
      exact List.getElem?_eq_getElem hkl
    by_cases e : l = m
    · rw [if_pos e]
      have z := at1 ms.length (by rw [e, List.getElem?_append_right (Nat.le_refl _)]; simp)
      rw [l1, ← l2, List.getElem?_append_right (Nat.le_refl _)] at z
      simpa using z
    · rw [if_neg e]
      have hl2 : l ∈ ms := by
        rcases List.mem_append.mp hl with z | z
        · exact z
        · exact absurd (List.mem_singleton.mp z) e
      rw [e2 l hl2]
      obtain ⟨k, hk, ek⟩ := List.getElem_of_mem hl2
      have hk2 : ms[k]? = some l := by rw [← ek]; exact List.getElem?_eq_getElem hk
      have z := at1 k (by rw [List.getElem?_append_left hk]; exact hk2)
      rw [List.getElem?_append_left (by omega)] at z
      exact asg_at d1 hk2 z
theorem wp_neBl {a b : Bool} {H : Hp} {Q : VK} (h : Q (.bl (!decide (a = b))) H) : rNe (.bl a) (.bl b) H Q := ⟨rfl, by
  have e : decide (V.bl a = V.bl b) = decide (a = b) := by simp
  rw [e]; exact h⟩
/-- a thing that a call made is put at the list's end -/
theorem app_otG2 {P : Pl} {L : Addr} {G0 : Hp} {O : Hp → V → Prop} {n : Nat} {G H : Hp} {xs : List V} {x : V} {R : V → Hp → Prop} (h : OtG P L G0 O n G H xs) (hn : n ≤ 90) (hO : O G x) (k : ∀ ys H2, OtG P L G0 O (n + 1) G H2 ys → R .non H2) : rAppend (.ref L) [x] H R := by
  refine wp_append h.l.h (by have := h.n; omega) (k (xs ++ [x]) _ ⟨h.l.put, h.s, fun y hy => ?_, by have := h.n; simp; omega⟩)
  rcases List.mem_append.mp hy with e | e
  · exact h.o y e
  · rw [List.mem_singleton.mp e]; exact hO
end RM
namespace RM
open PySem PySem.Spec PyProof.Rows L2 ItX
/-! ### operators between two objects of one own class, -o, abs(o), k * o, *o in a list display -/
def rOwnO (C : Addr) (sp : Sp) : R2 := fun x y H Q => ∃ a dx fs b dy gs, x = .ref a ∧ y = .ref b ∧ H a = some (.ins C dx fs) ∧ H b = some (.ins C dy gs) ∧ sp [.ref a, .ref b] H (fun v H' => ∃ c, v = .ref c ∧ Q v H') E0
section
variable {X : Cx} {n : Nat} {C : Addr} {sp : Sp} {op : Operator} {nm : Str}
theorem op_ownO (S : Spc X.prog X.w X.K X.mg X.base n C nm sp) (hsf : PySem.W.selfFirst X.K C = true) (hr : Room n X.A) (e1 : PySem.dunder op.info.2 = nm := by decide +kernel) : OpR X (binaryOp op) (rOwnO C sp) := by
  obtain ⟨f, fd, ps, hs, hf, F, hb⟩ := S.ex
  intro pins s σ H x y v u Q I rx ry h
  obtain ⟨a, dx, fs, b, dy, gs, rfl, rfl, ha, hb2, h⟩ := h
  cases rx
  cases ry
  obtain ⟨od, J⟩ := inst_of I ha
  obtain ⟨od2, J2⟩ := inst_of I hb2
  obtain ⟨m, hF⟩ := I.fr
  refine PySem.W.binop_K hF I.ok.mod.kin J J2.type hsf (by rw [e1]; exact hs) hf ?_
  refine wpAny_mono (run_at (us := [.ref a, .ref b]) (vs := [.ref a, .ref b]) ⟨hr, rfl⟩ F hb I (.cons rfl (.cons rfl .nil)) h) (fun v s' hv => ?_) fun _ _ e => e
  obtain ⟨z, H', I', rz, c, rfl, q⟩ := hv
  cases rz
  exact ⟨.ref c, H', I', rfl, q⟩
end
/-! #### the items of an own object that iterates over its dict -/
section
variable {X : Cx} {pins : List (Addr × Obj)} {σ : L2.St} {H : Hp} {s : Shared} {n : Nat} {A : Around} {f C it q d : Addr} {o : Obj} {i m : Nat} {kvs : List (Key × V)} {es : Array DictEntry} {ep : Nat}
theorem it_loopKr {Rs : Result → Shared → Prop} (hod : o.data = .dict es ep) (hh : A.in1.handled = none) (hz : kvs.length < 100000) (hdq : d ≠ q) (hiq : it ≠ q)
    (hdone : ∀ H' s', Inv X pins σ H' s' → (∀ b o, b ≠ q → H b = some o → H' b = some o) → H' q = some (.lst (kvs.map fun kv => kV kv.1)) → Rs (.ok (.ret (.ref q))) s') :
    ∀ (m i : Nat) (H' : Hp) (s : Shared), kvs.length - i = m → i ≤ kvs.length → Inv X pins σ H' s → (∀ b o, b ≠ q → H b = some o → H' b = some o) → H' d = some (.frz o (.dK kvs)) → FpOk X pins H' it → s.heap.IsKeyIter it d i kvs.length ep → H' q = some (.lst ((kvs.map fun kv => kV kv.1).take i)) →
      codeAny (model X.prog X.w) A (.builtin "list.extend.loop" ⟨[.ref q, .ref it, .ref q], []⟩) Rs s := by
  have el : (kvs.map fun kv => kV kv.1).length = kvs.length := List.length_map ..
  intro m
  induction m with
  | zero =>
    intro i H' s hm hi I hk hl hf st hq
    have ei : i = kvs.length := by omega
    obtain ⟨f0, f1, f2, f3, f4, f5⟩ := hf
    refine codeAny_builtin PySem.F.entry_extend_loop ?_
    rw [Around.under_plainId PySem.F.plain_extend_loop _]
    show wpAny _ A.in1 (pyNext (.ref it) >>= _) _ _ s
    obtain ⟨hs, hgd, hx, es', ep', vs, hdt, hsz, kv, hm⟩ := I.frzK hl
    obtain ⟨rfl, rfl⟩ := dict_ep hod hdt
    refine wpAny_bind (next_key_end hh st hgd hdt hsz (by omega) fun h' eb => ?_)
    refine wpAny_pure ?_
    have I2 := I.turned (t' := s.toks) (fun b ob hb e => eb b ob hb e) f0 f1 f3 f4 f5
    refine hdone _ _ I2 hk ?_
    rw [hq, ei, ← el, List.take_length]
  | succ m ih =>
    intro i H' s hm hi I hk hl hf st hq
    have hlt : i < kvs.length := by omega
    have ⟨f0, f1, f2, f3, f4, f5⟩ := hf
    refine codeAny_builtin PySem.F.entry_extend_loop ?_
    rw [Around.under_plainId PySem.F.plain_extend_loop _]
    show wpAny _ A.in1 (pyNext (.ref it) >>= _) _ _ s
    obtain ⟨hs, hgd, hx, es', ep', vs, hdt, hsz, kv, hm⟩ := I.frzK hl
    obtain ⟨rfl, rfl⟩ := dict_ep hod hdt
    obtain ⟨⟨k, v⟩, hkv⟩ : ∃ p, kvs[i]? = some p := ⟨kvs[i], List.getElem?_eq_getElem hlt⟩
    obtain ⟨u, hu, ru⟩ := kv_get kv hkv
    have hl2 : kvs.length = vs.length := Paired.length kv
    refine wpAny_bind (wpAny_pyNext_dict_item (by rw [hl2] at st; exact st) hm hu fun key h' hkey st' sb => ?_)
    have I2 : Inv X pins σ H' { s with heap := h' } := I.turned (t' := s.toks) (fun b ob hb e => (sb.2 b hb).trans e) f0 f1 f3 f4 f5
    show wpAny _ A.in1 (updateSeq q (·.push key) >>= _) _ _ _
    obtain ⟨z, its2, k2, r2, hl3, e2⟩ := I2.lstM hq
    have hz2 : its2.length = i := by rw [← hl3, List.length_take, el]; omega
    refine wpAny_bind (wpAny_updateSeq e2 rfl (wpAny_pure ⟨plainId_quiet PySem.F.plain_extend_loop _, ?_⟩) (by rw [List.size_toArray, hz2]; exact Nat.le_trans (Nat.le_of_lt hlt) (szl (by omega))) (by show (its2.toArray.push key).size ≤ sizeLine + 1; rw [Array.size_push, List.size_toArray, hz2]; exact Nat.succ_le_succ (szl (by omega))))
    have I3 := I2.lset (f := (·.push key)) (its' := its2 ++ [key]) (ys := (kvs.map fun kv => kV kv.1).take i ++ [kV k]) (t' := s.toks) hq e2 (by simp) (r2.append (.cons (relV_key (show keyIs k key = true from hkey)) .nil)) (by rw [List.length_append, List.length_take, el]; exact szl (by show _ + 1 ≤ _; omega))
    refine ih (i + 1) _ _ (by omega) hlt I3 (fun b o h1 e => by rw [upd_ne h1]; exact hk b o h1 e) (by rw [upd_ne hdq]; exact hl) (fpUpd hf hiq) ?_ ?_
    · rw [hl2]
      exact st'.at fun ob e => (Heap.get?_update_other _ _ (Ne.symm hiq)).trans e
    · rw [upd_same]
      have e3 : (kvs.map fun kv => kV kv.1)[i]? = some (kV k) := by rw [List.getElem?_map, hkv]; rfl
      rw [List.take_succ, e3]
      rfl
/-- what * asks of such an object -/
def StOwn (C : Addr) (F : Str) (spL : Sp) (x : V) (H : Hp) (R : List V → Hp → Prop) : Prop := ∃ a dx fs d kvs, x = .ref a ∧ H a = some (.ins C dx fs) ∧ fs.lookup F = some (.ref d) ∧ H d = some (.dK kvs) ∧ kvs.length < 100000 ∧
  (∀ od H1 (R : VK), Same (upd H d (.frz od (.dK kvs))) H1 → (∀ k : Int, 0 ≤ k → k < 100000 → R (.int k) H1) → spL [.ref a] H1 R E0) ∧ ∀ H', Same H H' → R (kvs.map fun kv => kV kv.1) H'
theorem star_own {F : Str} {spL : Sp} {x : V} {v : Value} {E : Value → Shared → Prop} {R : List V → Hp → Prop} {Q : List Value → Shared → Prop} (SI : ItrN X.prog X.w X.K X.mg X.base n C (spYoungK C F)) (SL : Spc X.prog X.w X.K X.mg X.base n C "__len__" spL) (hr : Room (n + 2) X.A)
    (I : Inv X pins σ H s) (rx : RelV x v) (h : StOwn C F spL x H R) (hQ : ∀ us xs H' s', Inv X pins σ H' s' → Vals xs us → R xs H' → Q us s') : PySem.W.StarOf (model X.prog X.w) X.A E v Q s := by
  obtain ⟨fI, fdI, psI, hsI, hfI, FI, bI⟩ := SI.ex
  obtain ⟨fL, fdL, psL, hsL, hfL, FL, bL⟩ := SL.ex
  obtain ⟨a, dx, fs, d, kvs, rfl, ha, lk, hd0, hz, hL, h⟩ := h
  cases rx
  obtain ⟨o, I0⟩ := I.lock hd0 True.intro
  have hnf := I.nofrz hd0 True.intro
  have nad : a ≠ d := fun z => by rw [z, hd0] at ha; cases ha
  have ha0 : upd H d (.frz o (.dK kvs)) a = some (.ins C dx fs) := (upd_ne nad).trans ha
  have hd : upd H d (.frz o (.dK kvs)) d = some (.frz o (.dK kvs)) := upd_same
  have sb : Sub X (n + 1) X.A.in1 := Sub.in1 (⟨hr, rfl⟩ : Sub X (n + 2) X.A)
  obtain ⟨odz, Jz⟩ := inst_of I0 ha0
  unfold PySem.W.StarOf notIterableAtAll
  refine wpAny_bind (wpAny_bind (Jz.type.here ((PySem.W.looks_findIn I0.kIn hsI).here ?_)))
  refine wpAny_pure ⟨rfl, ?_⟩
  have fr : upd H d (.frz o (.dK kvs)) s.heap.objs.size = none := I0.hok.fresh (Nat.le_refl _)
  have sH0 : ∀ H3, Same (upd H d (.frz o (.dK kvs))) H3 → Same H (upd H3 d (.dK kvs)) := fun H3 z => unl hd0 z
  unfold collect
  refine wpAny_bind (wpAny_runValue (codeAny_builtin PySem.F.entry_proto_collect ?_))
  rw [Around.under_plainId PySem.F.plain_proto_collect _]
  show wpAny _ X.A.in1 (newList [] >>= fun l => again (.builtin "list.__iadd__" ⟨[l, .ref a], []⟩)) _ _ s
  refine wpAny_bind (wpAny_newObj_type ?_)
  refine wpAny_pure ⟨plainId_quiet PySem.F.plain_list_iadd _, codeAny_builtin PySem.F.entry_list_iadd ?_⟩
  rw [Around.under_plainId PySem.F.plain_list_iadd _]
  have hL := hL o
  generalize hH0 : upd H d (.frz o (.dK kvs)) = H0 at I0 ha0 hd hL fr sH0
  have hd' := hd
  generalize hqe : s.heap.objs.size = q at *
  have I1 : Inv X pins σ (upd H0 q (.lst [])) { s with heap := s.heap.push { cls := .type "list", data := .seq ([] : List Value).toArray } } := by
    have z := I0.lnew (its := []) (ys := []) (t' := s.toks) .nil (Nat.zero_le _)
    rw [hqe] at z
    exact z
  have sHq : Same H0 (upd H0 q (.lst [])) := Same.new fr
  have ha2 : upd H0 q (.lst []) a = some (.ins C dx fs) := sHq _ _ ha0
  have hd2 : upd H0 q (.lst []) d = some (.frz o (.dK kvs)) := sHq _ _ hd'
  have hne : q ≠ a := ne_of (H := upd H0 q (.lst [])) upd_same ha2 (fun z => nomatch z)
  have hdq : d ≠ q := ne_of_none hd' fr
  obtain ⟨od, J⟩ := inst_of I1 ha2
  obtain ⟨m0, hF⟩ := I1.fr
  show wpAny _ X.A.in1 (Builtin.List.listExtendWith (.ref q) (.ref a) (.ref q)) _ _ _
  unfold Builtin.List.listExtendWith
  refine wpAny_bind (J.type.here ?_)
  have h1 : Builtin.List.listSameRef (.ref q) (.ref a) = false := by simp [Builtin.List.listSameRef, hne]
  have h2 : (Value.ref C == Value.type "list") = false := rfl
  have h3 : (Value.ref C == Value.type "tuple") = false := rfl
  simp only [h1, h2, h3, Bool.or_false, Bool.false_eq_true, if_false]
  refine wpAny_bind (PySem.W.owit_iter hF I1.ok.mod.kin J hsI hfI ?_)
  have I2s := I1.sz
  refine wpAny_mono (run_young (us := [.ref a]) (vs := [.ref a]) (Q := fun v H2 => ∃ it, v = .ref it ∧ upd H0 q (.lst []) it = none ∧ X.s_0.heap.objs.size ≤ it ∧ H2 = upd (upd H0 q (.lst [])) it (KeyIt d o kvs.length it)) (sb.mono (Nat.le_succ _)) FI bI I1 (.cons rfl .nil) ⟨a, dx, fs, d, o, kvs, rfl, ha2, lk, hd2, fun it h1 h2 => ⟨it, rfl, h1, Nat.le_trans I2s h2, rfl⟩⟩) (fun u s' hu => ?_) (fun _ _ e => e)
  obtain ⟨v, H2, I3, rv3, it, rfl, hn, hle, rfl⟩ := hu
  cases rv3
  have hi' : upd (upd H0 q (.lst [])) it (KeyIt d o kvs.length it) it = some (KeyIt d o kvs.length it) := upd_same
  have hok := I3.hok it _ hi'
  obtain ⟨es, ep, hdt, ki⟩ := hok.1
  have hT : s'.TypeIs (.ref it) "dict_keyiterator" := ki.typeIs
  unfold PySem.W.OwitIt
  show wpAny _ _ (typeOf (.ref it) >>= fun t => typeLookup t "__next__") _ _ _
  refine wpAny_bind (wpAny_typeOf hT (wpAny_of_eq PySem.F.slot_dict_keyiterator_next.lookup ?_))
  show wpAny _ _ _ _ _ _
  have fp := inv_fp I3 hi' hle
  unfold KeyIt at hi'
  have I4 := inv_drop I3 hi'
  rw [dropH_upd' hn] at I4 fp
  have niq : it ≠ q := fun e => by rw [e, upd_same] at hn; cases hn
  obtain ⟨od', J'⟩ := inst_of I4 ha2
  obtain ⟨m1, hF'⟩ := I4.fr
  refine wpAny_bind (wpAny_holding ?_)
  unfold Builtin.List.listLengthHint
  refine wpAny_bind (wpAny_bind (J'.type.here ((PySem.W.looks_findIn I4.kIn hsL).here ?_)))
  refine PySem.W.KFB.if_not rfl ?_
  refine PySem.W.KFB.if_so rfl ?_
  refine wpAny_bind (wpAny_rule (wpAny_bind (wpAny_attempt ?_)))
  refine PySem.W.len_K hF' I4.ok.mod.kin J' hsL hfL ?_
  have I5p := I4.pinned (fun b hb => by rw [List.mem_singleton.mp hb]; exact fp : ∀ b ∈ [it], FpOk X pins (upd H0 q (.lst [])) b) (fun b hb => by
    rw [List.mem_singleton.mp hb]
    obtain ⟨oi, e, c, dd⟩ := ki
    exact ⟨oi, e, fun v z => by rw [dd] at z; cases z⟩)
  have ki4 := ki
  refine wpAny_mono (run_at (E' := fun _ _ => False) (us := [.ref a]) (vs := [.ref a]) (Q := fun v H2 => ∃ k : Int, v = .int k ∧ 0 ≤ k ∧ k < 100000 ∧ H2 = upd H0 q (.lst [])) sb.in1 FL bL I5p (.cons rfl .nil) (hL _ _ sHq fun k k0 k1 => ⟨k, rfl, k0, k1, rfl⟩)) (fun u s2 hu => ?_) fun _ _ e => e.elim
  obtain ⟨v2, H2, I6p, rv4, k, rfl, k0, k1, rfl⟩ := hu
  obtain ⟨tk, rfl⟩ := rv4
  refine ⟨⟨k0, by omega⟩, ?_⟩
  have ki6 : s2.heap.IsKeyIter it d 0 kvs.length ep := ki4.at fun ob e => (I6p.pin (it, ob) (List.mem_append_right _ (List.mem_append_right _ (mem_pinsAt (List.mem_singleton.mpr rfl) e)))).1
  have I6 := I6p.unpinned.tok (s2.toks + 1)
  refine wpAny_bind (wpAny_of_eq (a := some k) rfl ?_)
  refine PySem.W.KFB.if_not (notLongL (szl (by omega))) ?_
  refine wpAny_pure ?_
  have fin : ∀ (Rs : Result → Shared → Prop) (s3 : Shared), (∀ H3 s4, Inv X pins σ H3 s4 → (∀ b o, b ≠ q → upd H0 q (.lst []) b = some o → H3 b = some o) → H3 q = some (.lst (kvs.map fun kv => kV kv.1)) → Rs (.ok (.ret (.ref q))) s4) → Inv X pins σ (upd H0 q (.lst [])) s3 → s3.heap.IsKeyIter it d 0 kvs.length ep → codeAny (model X.prog X.w) X.A (.builtin "list.extend.loop" ⟨[.ref q, .ref it, .ref q], []⟩) Rs s3 := fun Rs s3 hR I7 st =>
    it_loopKr (A := X.A) (H := upd H0 q (.lst [])) hdt hr.hd hz hdq niq hR kvs.length 0 _ s3 rfl (Nat.zero_le _) I7 (fun _ _ _ e => e) hd2 fp st upd_same
  have own : ∀ (H3 : Hp) (s4 : Shared) (its : List Value), Inv X pins σ H3 s4 → (∀ b o, b ≠ q → upd H0 q (.lst []) b = some o → H3 b = some o) → Vals (kvs.map fun kv => kV kv.1) its → Q its.toArray.toList s4 := fun H3 s4 its I8 hk3 r9 => by
    have sH3 : Same H0 H3 := fun b ob e => hk3 b ob (ne_of_none e fr) (sHq _ _ e)
    rw [show its.toArray.toList = its by simp]
    exact hQ _ _ _ _ (I8.unlock (sH3 _ _ hd') hnf) r9 (h _ (sH0 _ sH3))
  refine wpAny_ite_split (fun _ => ?_) (fun _ => wpAny_pure ⟨plainId_quiet PySem.F.plain_extend_loop _, fin _ _ (fun H3 s4 I8 hk3 hq3 => ?_) I6 ki6⟩)
  rotate_left
  · obtain ⟨z, its, k9, r9, hl9, e9⟩ := I8.lstM hq3
    show wpAny _ X.A (load q >>= _) Q E s4
    exact wpAny_bind (wpAny_load e9 (wpAny_pure (own _ _ _ I8 hk3 r9)))
  obtain ⟨z, its, k3, r3, hl3, e3⟩ := I6.lstM upd_same
  cases r3
  refine wpAny_bind (wpAny_rule ?_)
  refine wpAny_bind ?_
  show wpAny _ _ (updateSeq q (·.push .none) >>= fun _ => updateSeq q (·.pop)) _ _ _
  refine wpAny_bind (wpAny_updateSeq e3 rfl ?_)
  have I7 := I6.lset (f := (·.push Value.none)) (its' := [Value.none]) (ys := [.non]) (t' := s2.toks + 1) upd_same e3 (by simp) (.cons rfl .nil) (by rw [List.length_singleton, sizeLine_eq]; decide)
  obtain ⟨z4, its4, k4, r4, hl4, e4⟩ := I7.lstM upd_same
  obtain ⟨u4, rfl, ru4⟩ := r4.one
  refine wpAny_updateSeq e4 rfl ?_ (by show 1 ≤ sizeLine; rw [sizeLine_eq]; decide) (by show 0 ≤ sizeLine + 1; exact Nat.zero_le _)
  refine wpAny_pure ⟨plainId_quiet PySem.F.plain_extend_loop _, fin _ _ (fun H3 s4 I8 hk3 hq3 => ?_) ?_ ?_⟩
  · obtain ⟨z, its, k9, r9, hl9, e9⟩ := I8.lstM hq3
    show wpAny _ X.A (load q >>= _) Q E s4
    exact wpAny_bind (wpAny_load e9 (wpAny_pure (own _ _ _ I8 hk3 r9)))
  · have I8 := I7.lset (f := (·.pop)) (its := [u4]) (its' := []) (ys := []) (t' := s2.toks + 1) upd_same e4 (by rfl) .nil (Nat.zero_le _)
    rw [upd_upd, upd_upd] at I8
    exact I8
  · exact (ki6.at fun ob e => (Heap.get?_update_other _ _ (Ne.symm niq)).trans e).at fun ob e => (Heap.get?_update_other _ _ (Ne.symm niq)).trans e
end
/-- *o in a display or a call, o an object that iterates over its dict -/
def tStarO (C : Addr) (F : Str) (spL : Sp) (te : TE) (t : TA) : TA := fun σ H Q => te σ H fun x H1 => StOwn C F spL x H1 fun xs H2 => t σ H2 fun ys H3 => Q (xs ++ ys) H3
section
variable {X : Cx} {n : Nat} {C : Addr} {F : Str} {spL : Sp} {e : Expr} {es : List Expr} {te : TE} {t : TA} {p : Pos}
theorem pa_starOwn (SI : ItrN X.prog X.w X.K X.mg X.base n C (spYoungK C F)) (SL : Spc X.prog X.w X.K X.mg X.base n C "__len__" spL) (hr : Room (n + 2) X.A) (he : PE X e te) (ha : PA X es t)
    (hs : starEach (.Starred e p :: es) X.env = (true, eval e X.env) :: starEach es X.env := by rfl) : PA X (.Starred e p :: es) (tStarO C F spL te t) := by
  refine ⟨fun pos pins s σ H Q I h => ?_⟩
  refine PySem.W.items_star (thn (he.run pins s σ H _ I h) fun v s1 ⟨y, H1, I1, ry, st⟩ => ?_) hs
  refine star_own SI SL hr I1 ry st fun us xs H2 s2 I2 rv q => ?_
  exact thn (ha.run pos pins s2 σ H2 _ I2 q) fun ws s3 ⟨vs, H3, I3, r3, q3⟩ => ⟨xs ++ vs, H3, I3, rv.append r3, q3⟩
end
/-- -o -/
def rNegO (C : Addr) (sp : Sp) : V → Hp → VK → Prop := fun x H Q => ∃ a dx fs, x = .ref a ∧ H a = some (.ins C dx fs) ∧ sp [.ref a] H Q E0
section
variable {X : Cx} {n : Nat} {C : Addr} {sp : Sp}
theorem op_negO (S : Spc X.prog X.w X.K X.mg X.base n C "__neg__" sp) (hr : Room n X.A) : UnR X (unaryOp .USub) (rNegO C sp) := by
  obtain ⟨f, fd, ps, hs, hf, F, hb⟩ := S.ex
  intro pins s σ H x v Q I rx h
  obtain ⟨a, dx, fs, rfl, ha, h⟩ := h
  cases rx
  obtain ⟨od, J⟩ := inst_of I ha
  obtain ⟨m, hF⟩ := I.fr
  refine PySem.W.ksp_neg hF I.ok.mod.kin J hs hf ?_
  exact run_at (us := [.ref a]) (vs := [.ref a]) ⟨hr, rfl⟩ F hb I (.cons rfl .nil) h
end
/-- abs(o) -/
def rAbsO (C : Addr) (sp : Sp) : List V → Hp → VK → Prop := fun xs H Q => ∃ a dx fs, xs = [.ref a] ∧ H a = some (.ins C dx fs) ∧ sp [.ref a] H Q E0
section
variable {X : Cx} {n : Nat} {C : Addr} {sp : Sp}
theorem call_absO (S : Spc X.prog X.w X.K X.mg X.base n C "__abs__" sp) (hr : Room (n + 1) X.A) : CallR X (.builtin "abs") (rAbsO C sp) := by
  obtain ⟨f, fd, ps, hs, hf, F, hb⟩ := S.ex
  intro pins s σ H xs us Q I r h
  obtain ⟨a, dx, fs, rfl, ha, h⟩ := h
  obtain ⟨u, rfl, ru⟩ := r.one
  cases ru
  obtain ⟨od, J⟩ := inst_of I ha
  refine PySem.Calls.call_function_entry kind_abs plain_abs entry_abs (args_abs _) ?_
  unfold Builtin.«abs»
  refine wpAny_bind (m := oneArg "abs" _) (wpAny_pure ?_)
  refine wpAny_bind (m := callSpecial? (.ref a) (Str.ofString "__abs__")) (PySem.W.special_fn I.kIn J hs (beq_iff_eq.mp hf) (wpAny_mono (run_at (us := [.ref a]) (vs := [.ref a]) (Sub.in1 ⟨hr, rfl⟩) F hb I (.cons rfl .nil) h) (fun v s' hv => ?_) fun _ _ e => e))
  exact wpAny_pure ⟨_, rfl, hv⟩
end
end RM
namespace RM
open PySem PySem.Spec PyProof.Rows L2
/-! ### o[k], the class's own __getitem__, which may raise -/
structure SpcGX (P : Program) (w : World) (K : PySem.W.Frag) (mg : Str → Option Value) (base : Heap) (n : Nat) (C : Addr) (sp : Sp) : Prop where
  ex : ∃ (f : Addr) (fd : FuncData) (ps : List Str), PySem.W.findIn K (.ref C) "__getitem__" = some (some (.ref f)) ∧ PySem.W.isFn K (.ref f) = true ∧ PySem.W.fnIn K f = true ∧ FnOk P w K mg base (L2.CX P w) n f fd ps sp ∧ Binds K fd ps []
section
variable {X : Cx} {CX : CXT} {pins : List (Addr × Obj)} {σ : L2.St} {H : Hp} {s : Shared} {n : Nat} {A : Around} {f C : Addr} {fd : FuncData} {ps : List Str} {sp : Sp} {E : XK}
/-- a def that may raise, run somewhere below the body -/
theorem run_atX (sb : Sub X n A) (F : FnOk X.prog X.w X.K X.mg X.base CX n f fd ps sp) (hb : Binds X.K fd ps []) (hx : Passes CX X E) (I : Inv X pins σ H s) {us : List Value} {vs : List V} {Q : VK} (r : Vals vs us) (h : sp vs H Q E) :
    wpAny (model X.prog X.w) A (call (.ref f) us) (EP X pins σ Q) X.xe s := by
  have e0 : Env0 X.prog X.w X.K X.mg X.base A X.stack s H := by
    have e := I.env0
    exact ⟨by rw [sb.fr]; exact e.frames, e.mod, e.bs, e.bsz, e.funs, e.frf, e.hok, e.bare⟩
  have hl := F.len _ _ _ _ h
  have hl2 : (us ++ ([] : List Value)).length = ps.length := by rw [List.append_nil, ← r.length]; exact hl
  have bt := hb s us I.kIn hl2
  rw [List.append_nil] at bt
  refine wpAny_call (codeAny_mono (F.run A X.stack s H ⟨us, []⟩ us vs Q E sb.room e0 bt r h) fun r s' hq => ?_)
  cases r with
  | error e => exact hx pins σ H s e s' I hq
  | ok fl =>
    cases fl with
    | ret u => exact I.after hq
    | next => exact False.elim hq
    | brk => exact False.elim hq
    | cont => exact False.elim hq
def tSubOwnX (C : Addr) (sp : Sp) (E : XK) (ta ti : TE) : TE := fun σ H Q => ta σ H fun x H1 => ti σ H1 fun y H2 => ∃ a dx fs, x = .ref a ∧ H2 a = some (.ins C dx fs) ∧ sp [.ref a, y] H2 Q E
end
section
variable {X : Cx} {o i : Expr} {pos : Pos} {ta ti : TE} {C : Addr} {n j : Nat} {sp : Sp} {E : XK}
theorem pe_subOwnX (S : SpcGX X.prog X.w X.K X.mg X.base n C sp) (hr : Room j X.A) (hk : n + 1 ≤ j) (hx : Passes (L2.CX X.prog X.w) X E) (ho : PE X o ta) (hi : PE X i ti)
    (hsl : ∀ (a : Addr) (v : Value), subscripted i true (.ref a) v = runValue (.builtin "lifetime.subscript" ⟨[.ref a, v], []⟩)) : PE X (.Subscript o i pos) (tSubOwnX C sp E ta ti) := by
  obtain ⟨f, fd, ps, hs, hf, hin, F, hb⟩ := S.ex
  refine ⟨fun pins s σ H Q I h => ?_⟩
  refine Subscript_ (thn (ho.run pins s σ H _ I h) fun u s1 ⟨x, H1, I1, rx, q1⟩ => thn (hi.run pins s1 σ H1 _ I1 q1) fun iv s2 ⟨y, H2, I2, ry, a, dx, fs, ex, ea, q2⟩ => ?_)
  subst ex
  obtain rfl : u = Value.ref a := rx
  obtain ⟨od, J⟩ := inst_of I2 ea
  obtain ⟨m, hF⟩ := I2.fr
  refine PySem.W.sub_K hF I2.ok.mod.kin J hs hin hf ?_ (hsl a iv)
  exact run_atX (us := [.ref a, iv]) (vs := [.ref a, y]) (Sub.in1 ⟨hr.mono hk, rfl⟩) F hb hx I2 (.cons rfl (.cons ry .nil)) q2
end
section
variable {σ : L2.St} {H : Hp} {Q : VK} {ta ti : TE} {C : Addr} {sp : Sp} {E : XK}
theorem wp_subOwnX (h : ta σ H fun x H1 => ti σ H1 fun y H2 => ∃ a dx fs, x = .ref a ∧ H2 a = some (.ins C dx fs) ∧ sp [.ref a, y] H2 Q E) : tSubOwnX C sp E ta ti σ H Q := h
end
end RM
namespace RM
open PySem PySem.Spec PyProof.Rows L2 ItX
/-! ### o OP k that may raise; k * o by the reflected method -/
structure SpcIX (P : Program) (w : World) (K : PySem.W.Frag) (mg : Str → Option Value) (base : Heap) (n : Nat) (C : Addr) (op : Operator) (sp : Sp) : Prop where
  ex : ∃ (f : Addr) (fd : FuncData) (ps : List Str) (fo ro rc : Option Value), PySem.W.selfFirst K C = true ∧ PySem.W.findIn K (.ref C) (PySem.dunder op.info.2) = some (some (.ref f)) ∧ PySem.W.isFn K (.ref f) = true ∧
    PySem.W.findIn K (.ref C) (dunderR op.info.2) = some rc ∧ (rc = none ∨ ∃ g : Addr, rc = some (.ref g)) ∧ PySem.W.findIn K (.type "int") (PySem.dunder op.info.2) = some fo ∧ PySem.W.findIn K (.type "int") (dunderR op.info.2) = some ro ∧
    PySem.W.subIn K (.type "int") (.ref C) = some false ∧ FnOk P w K mg base (L2.CX P w) n f fd ps sp ∧ Binds K fd ps []
theorem SpcIX.of {P : Program} {w : World} {K : PySem.W.Frag} {mg : Str → Option Value} {base : Heap} {n : Nat} {op : Operator} {sp : Sp} {x nm rn : Str} {f : Addr} {fd : FuncData} {ps : List Str} (b : bBinI x nm rn K = true) (m : Meth K (He.ga K x) nm f)
    (F : FnOk P w K mg base (L2.CX P w) n f fd ps sp) (hb : Binds K fd ps []) (e1 : PySem.dunder op.info.2 = nm := by decide +kernel) (e2 : dunderR op.info.2 = rn := by decide +kernel) : SpcIX P w K mg base n (He.ga K x) op sp := by
  obtain ⟨b1, b⟩ := He.ba b
  obtain ⟨b2, b⟩ := He.ba b
  obtain ⟨b3, b⟩ := He.ba b
  obtain ⟨b4, b5⟩ := He.ba b
  obtain ⟨rc, h1, h2⟩ := okR_ok b2
  obtain ⟨fo, h3⟩ := Option.isSome_iff_exists.mp b3
  obtain ⟨ro, h4⟩ := Option.isSome_iff_exists.mp b4
  exact ⟨f, fd, ps, fo, ro, rc, b1, by rw [e1]; exact m.at_, m.fn, by rw [e2]; exact h1, h2, by rw [e1]; exact h3, by rw [e2]; exact h4, of_decide_eq_true b5, F, hb⟩
def tOwnIX (C : Addr) (sp : Sp) (E : XK) (ta tb : TE) : TE := fun σ H Q => ta σ H fun x H1 => tb σ H1 fun y H2 => ∃ a dx fs i, x = .ref a ∧ y = .int i ∧ H2 a = some (.ins C dx fs) ∧ sp [.ref a, .int i] H2 (fun v H' => ∃ b, v = .ref b ∧ Q v H') E
def tOwnIS (C : Addr) (sp : Sp) (E : L2.St → XK) (ta tb : TE) : TE := fun σ H Q => ta σ H fun x H1 => tb σ H1 fun y H2 => ∃ a dx fs i, x = .ref a ∧ y = .int i ∧ H2 a = some (.ins C dx fs) ∧ sp [.ref a, .int i] H2 (fun v H' => ∃ b, v = .ref b ∧ Q v H') (E σ)
section
variable {X : Cx} {a b : Expr} {pos : Pos} {ta tb : TE} {C : Addr} {n j : Nat} {sp : Sp} {E : XK} {W : WX} {op : Operator}
theorem pe_ownIX (S : SpcIX X.prog X.w X.K X.mg X.base n C op sp) (hr : Room j X.A) (hk : n ≤ j) (hx : Passes (L2.CX X.prog X.w) X E) (ha : PE X a ta) (hb : PE X b tb) : PE X (.BinOp a op b pos) (tOwnIX C sp E ta tb) := by
  obtain ⟨f, fd, ps, fo, ro, rc, k1, k2, k3, k4, k5, k6, k7, k8, F, hbd⟩ := S.ex
  refine ⟨fun pins s σ H Q I h => wpAny_BinOp (binT ha hb I h fun v u s2 x y H2 I2 rx ry q => ?_)⟩
  obtain ⟨a, dx, fs, i, rfl, rfl, hA, q⟩ := q
  cases rx
  obtain ⟨t, rfl⟩ := ry
  obtain ⟨od, J⟩ := inst_of I2 hA
  obtain ⟨m, hF⟩ := I2.fr
  refine PySem.W.ksp_binT (T := "int") hF I2.ok.mod.kin J rfl k1 k2 k3 k4 k5 k6 k7 k8 ?_
  refine wpAny_mono (run_atX (us := [.ref a, .int i t]) (vs := [.ref a, .int i]) (⟨hr.mono hk, rfl⟩ : Sub X n X.A) F hbd hx I2 (.cons rfl (.cons ⟨t, rfl⟩ .nil)) q) (fun v s' hv => ?_) fun _ _ e => e
  obtain ⟨z, H', I', rz, b, rfl, q⟩ := hv
  cases rz
  exact ⟨.ref b, H', I', rfl, q⟩
theorem pe_ownIS (S : SpcIX X.prog X.w X.K X.mg X.base n C op sp) (hr : Room j X.A) (hk : n ≤ j) (tk : Takes X W) (ha : PE X a ta) (hb : PE X b tb) : PE X (.BinOp a op b pos) (tOwnIS C sp (WE W) ta tb) := by
  obtain ⟨f, fd, ps, fo, ro, rc, k1, k2, k3, k4, k5, k6, k7, k8, F, hbd⟩ := S.ex
  refine ⟨fun pins s σ H Q I h => wpAny_BinOp (binT ha hb I h fun v u s2 x y H2 I2 rx ry q => ?_)⟩
  obtain ⟨a, dx, fs, i, rfl, rfl, hA, q⟩ := q
  cases rx
  obtain ⟨t, rfl⟩ := ry
  obtain ⟨od, J⟩ := inst_of I2 hA
  obtain ⟨m, hF⟩ := I2.fr
  refine PySem.W.ksp_binT (T := "int") hF I2.ok.mod.kin J rfl k1 k2 k3 k4 k5 k6 k7 k8 ?_
  refine wpAny_mono (run_fnS (E := WE W) (us := [.ref a, .int i t]) (vs := [.ref a, .int i]) F (hr.mono hk) hbd (passAt tk σ) I2 (.cons rfl (.cons ⟨t, rfl⟩ .nil)) q) (fun v s' hv => ?_) fun _ _ e => e
  obtain ⟨z, H', I', rz, b, rfl, q⟩ := hv
  cases rz
  exact ⟨.ref b, H', I', rfl, q⟩
end
/-! #### k * o -/
structure SpcR (P : Program) (w : World) (K : PySem.W.Frag) (mg : Str → Option Value) (base : Heap) (n : Nat) (C : Addr) (sp : Sp) : Prop where
  ex : ∃ (f g : Addr) (fd : FuncData) (ps : List Str), PySem.W.selfFirst K C = true ∧ PySem.W.findIn K (.ref C) (PySem.dunder "mul") = some (some (.ref g)) ∧ PySem.W.findIn K (.ref C) (dunderR "mul") = some (some (.ref f)) ∧ PySem.W.isFn K (.ref f) = true ∧
    PySem.W.subIn K (.ref C) (.type "int") = some false ∧ FnOk P w K mg base CX0 n f fd ps sp ∧ Binds K fd ps []
theorem SpcR.of {P : Program} {w : World} {K : PySem.W.Frag} {mg : Str → Option Value} {base : Heap} {n : Nat} {sp : Sp} {x : Str} {f : Addr} {fd : FuncData} {ps : List Str} (b : bRefI x K = true) (m : Meth K (He.ga K x) "__rmul__" f)
    (F : FnOk P w K mg base CX0 n f fd ps sp) (hb : Binds K fd ps []) : SpcR P w K mg base n (He.ga K x) sp := by
  have e1 : PySem.dunder "mul" = "__mul__" := by decide +kernel
  have e2 : dunderR "mul" = "__rmul__" := by decide +kernel
  obtain ⟨b1, b⟩ := He.ba b
  obtain ⟨b2, b3⟩ := He.ba b
  obtain ⟨g, h1⟩ := isRf_ok b2
  exact ⟨f, g, fd, ps, b1, by rw [e1]; exact h1, by rw [e2]; exact m.at_, m.fn, of_decide_eq_true b3, F, hb⟩
theorem int_mul_own (a : Int) (t : Tok) (l C dx : Addr) :
    Meets (Builtin.«int.__mul__» ⟨[.int a t, .ref l], []⟩) (fun _ R s => s.heap.get? l = some (PySem.W.instObj C dx) ∧ R (.ok (.ret Value.notImplemented)) s) :=
  .of_wp fun prog w A R s h => by obtain ⟨hp, g, d, tk, os⟩ := s; obtain ⟨hl, h⟩ := h; unfold PySem.W.instObj at hl; wp_walk; exact ⟨_, rfl, h⟩
theorem mul_refl {prog : Program} {w : World} {A : Around} {E : Value → Shared → Prop} {s : Shared} {K : PySem.W.Frag} {h₀ : Heap} {L x C f g dx : Addr} {m : Str → Option Value} {od : Option Obj} {i : Int} {t : Tok} {Q : Value → Shared → Prop} (F : Fr h₀ L s.heap m) (X₀ : K.In h₀) (I : PySem.W.InstAt s.heap x (PySem.W.instObj C dx) C od)
    (hc : PySem.W.selfFirst K C = true) (hm : PySem.W.findIn K (.ref C) (PySem.dunder "mul") = some (some (.ref g))) (hs : PySem.W.findIn K (.ref C) (dunderR "mul") = some (some (.ref f))) (hf : PySem.W.isFn K (.ref f) = true) (hsub : PySem.W.subIn K (.ref C) (.type "int") = some false)
    (h : wpAny (model prog w) A (call (.ref f) [.ref x, .int i t]) (PySem.W.CmpBack Q) E s) : wpAny (model prog w) A (binaryOp .Mult (.int i t) (.ref x)) Q E s := by
  have X := X₀.keeps F.keep
  obtain ⟨cd, rest, hcd, hmro⟩ := PySem.W.ksp_first hc
  have one := PySem.W.ksp_try X I hs hf h
  have hat := I.at_
  obtain ⟨hh, g', d, tt, os⟩ := s
  have L1 : PySem.W.Looks (model prog w) hh (typeOf (.ref x)) (.ref C) := I.type
  have L2 : PySem.W.Looks (model prog w) hh (typeOf (.int i t)) (.type "int") := PySem.W.Looks.of_pure rfl
  have L3 : PySem.W.Looks (model prog w) hh (fillsNumberSlot (.ref C) "mul") true := PySem.W.fills_K X hcd hmro hm
  have L4 : PySem.W.Looks (model prog w) hh (fillsNumberSlot (.type "int") "mul") true := PySem.W.Looks.of_pure PySem.F.fills_int_mul
  have L5 : PySem.W.Looks (model prog w) hh (isSubtype (.ref C) (.type "int")) false := PySem.W.looks_subIn X hsub
  have L7 : PySem.W.Looks (model prog w) hh (numberSlotInPython (.type "int") "mul") false := PySem.W.Looks.of_pure rfl
  have hne : (Value.type "int" == Value.ref C) = false := Bool.eq_false_iff.mpr fun q => by cases beq_iff_eq.mp q
  unfold binaryOp
  refine wpAny_holding (wpAny_bind ?_)
  unfold binaryOp1
  refine wpAny_bind (L2.at (wpAny_bind (L1.at (wpAny_bind (L4.at ?_)))))
  simp only [hne, Bool.false_eq_true, if_false]
  refine wpAny_bind (L3.at ?_)
  simp only [Bool.and_self, if_true]
  refine wpAny_bind (L5.at ?_)
  simp only [Bool.false_eq_true, if_false, Bool.not_false, Bool.and_self, if_true]
  refine wpAny_bind (L7.at ?_)
  simp only [Bool.false_eq_true, if_false, if_true]
  refine wpAny_bind (wpAny_tryMethod_declines (T := "int") (PySem.typeIs_int _ i t) PySem.F.slot_int_mul (PySem.call_meets PySem.F.slot_int_mul (PySem.typeIs_int _ i t) PySem.F.entry_int_mul (PySem.F.args_int_mul_2 _ _) (int_mul_own i t x C dx) ⟨hat, rfl, ?_⟩))
  refine wpAny_bind (wpAny_mono one (fun r s' hr' => ?_) fun _ _ e => e)
  obtain ⟨v, rfl, hq⟩ := hr'
  refine wpAny_bind (wpAny_rule (wpAny_pure ?_))
  exact wpAny_pure hq
def rRefI (C : Addr) (sp : Sp) : R2 := fun x y H Q => ∃ a dx fs i, x = .int i ∧ y = .ref a ∧ H a = some (.ins C dx fs) ∧ sp [.ref a, .int i] H (fun v H' => ∃ b, v = .ref b ∧ Q v H') E0
section
variable {X : Cx} {n : Nat} {C : Addr} {sp : Sp}
theorem op_refI (S : SpcR X.prog X.w X.K X.mg X.base n C sp) (hr : Room n X.A) : OpR X (binaryOp .Mult) (rRefI C sp) := by
  obtain ⟨f, g, fd, ps, k1, k2, k3, k4, k5, F, hb⟩ := S.ex
  intro pins s σ H x y v u Q I rx ry h
  obtain ⟨a, dx, fs, i, rfl, rfl, ha, h⟩ := h
  cases ry
  obtain ⟨t, rfl⟩ := rx
  obtain ⟨od, J⟩ := inst_of I ha
  obtain ⟨m, hF⟩ := I.fr
  refine mul_refl hF I.ok.mod.kin J k1 k2 k3 k4 k5 ?_
  refine wpAny_mono (run_at (us := [.ref a, .int i t]) (vs := [.ref a, .int i]) ⟨hr, rfl⟩ F hb I (.cons rfl (.cons ⟨t, rfl⟩ .nil)) h) (fun v s' hv => ?_) fun _ _ e => e
  obtain ⟨z, H', I', rz, b, rfl, q⟩ := hv
  cases rz
  exact ⟨.ref b, H', I', rfl, q⟩
end
end RM
namespace RM
open PySem PySem.Spec PyProof.Rows L2 ItX
/-! ### shifts as functions on names; dicts made over a list with names perhaps twice -/
/-- the names in the order of their first occurrence -/
def dds (xs : List (List Nat)) : List (List Nat) := (bldD (xs.map fun l => (l, 0))).2
theorem dds_snoc (xs : List (List Nat)) (l : List Nat) : dds (xs ++ [l]) = if l ∈ dds xs then dds xs else dds xs ++ [l] := by
  unfold dds
  rw [List.map_append]
  show (bldD (_ ++ [(l, 0)])).2 = _
  rw [bldD_snoc]
  rfl
theorem dds_inv (xs : List (List Nat)) : (dds xs).Nodup ∧ (∀ l, l ∈ dds xs ↔ l ∈ xs) ∧ (dds xs).length ≤ xs.length := by
  obtain ⟨h1, h2, h3, _⟩ := bldD_inv (lim := 0) xs.length (xs.map fun l => (l, 0)) (List.length_map ..)
  refine ⟨h1, fun l => ?_, h3⟩
  unfold dds
  rw [h2, List.map_map]
  have e : xs.map ((fun p : List Nat × Int => p.1) ∘ fun l => (l, 0)) = xs := by
    rw [show ((fun p : List Nat × Int => p.1) ∘ fun l => (l, 0)) = id from rfl, List.map_id]
  rw [e]
theorem putK_again {f : List Nat → Int} {l : List Nat} {ns : List (List Nat)} (nd : ns.Nodup) (hl : l ∈ ns) : putK (mD f ns) (.inr (S l)) (.int (f l)) = mD f ns := by
  rw [putK_old nd hl]
  exact mD_congr fun x _ => by by_cases h : x = l <;> simp [h]
theorem putK_dds {f : List Nat → Int} {l : List Nat} {xs : List (List Nat)} : putK (mD f (dds xs)) (.inr (S l)) (.int (f l)) = mD f (dds (xs ++ [l])) := by
  rw [dds_snoc]
  by_cases h : l ∈ dds xs
  · rw [if_pos h, putK_again (dds_inv xs).1 h]
  · rw [if_neg h]
    unfold mD
    rw [dN_put (f := fun l => .int (f l)) h]
section
variable {σ : L2.St} {H : Hp} {Q : VK} {K : PySem.W.Frag} {g : TG} {tt : TT} {tk tv te td : TE} {vs : List Nat} {d : Addr}
/-- a dict comprehension over a list of names, some perhaps twice, without a test -/
theorem dcLD {a : Addr} {ns : List (List Nat)} (σ0 : L2.St) (m : List Nat → Int) (hw : wipe σ vs = σ0) (hx : SqL K H a (ns.map sv)) (hn : ns.length ≤ 90000)
    (hs : ∀ (i : Nat) (l : List Nat) H2 (R : V → V → Hp → Prop) (R0 : Hp → Prop), ns[i]? = some l → Same H H2 → (∀ H5, Same H2 H5 → R (.str (S l)) (.int (m l)) H5) →
      g (.str (S l)) σ0 H2 fun σ2 H3 => wipe σ2 vs = σ0 ∧ tt σ2 H3 fun b H4 => if b = true then tk σ2 H4 fun y H5 => tv σ2 H5 fun z H6 => R y z H6 else R0 H4)
    (hq : ∀ D H2, H D = none → Same H H2 → H2 D = some (.dK (mD m (dds ns))) → Q (.ref D) H2) : ∃ b, V.ref a = .ref b ∧ (∃ ys, SqL K H b ys) ∧ DcW (Itl K b) g tt tk tv vs σ H Q := by
  have el : (ns.map sv).length = ns.length := List.length_map ..
  refine ⟨a, rfl, ⟨_, hx⟩, ?_⟩
  intro D hD
  refine ⟨fun i m' H2 => m' = ns.length - i ∧ i ≤ ns.length ∧ Same H H2 ∧ H2 D = some (.dK (mD m (dds (ns.take i)))), ⟨ns.length, by simp, Nat.zero_le _, Same.new hD, upd_same⟩, ?_⟩
  rintro i m' H2 ⟨rfl, hi, s1, hD2⟩
  have hx2 := Same.seq s1 hx
  rcases Nat.lt_or_ge i ns.length with hlt | hge
  · right
    have hi2 : i < (ns.map sv).length := by omega
    refine ⟨⟨_, (ns.map sv)[i], hx2, List.getElem?_eq_getElem hi2⟩, fun H' => Same H H' ∧ H' D = some (.dK (mD m (dds (ns.take (i + 1))))), fun H' hN => ⟨ns.length - (i + 1), by omega, rfl, by omega, hN⟩, fun x H' hy => ?_⟩
    obtain ⟨e, hy⟩ := hy
    subst e
    have hxi := hy _ hx2
    rw [List.getElem?_map] at hxi
    obtain ⟨l, hl, rfl⟩ := Option.map_eq_some_iff.mp hxi
    rw [hw]
    have et := take_snoc hl
    refine hs i l _ (fun y z H5 => ∃ kvs k, y = kV k ∧ H5 D = some (.dK kvs) ∧ kvs.length < sizeLine ∧ (Same H (upd H5 D (.dK (putK kvs k z))) ∧ upd H5 D (.dK (putK kvs k z)) D = some (.dK (mD m (dds (ns.take (i + 1))))))) (fun H' => Same H H' ∧ H' D = some (.dK (mD m (dds (ns.take (i + 1)))))) hl s1 (fun H5 s5 => ?_)
    refine ⟨_, .inr (S l), rfl, s5 _ _ hD2, szlt ?_, Same.mut (s1.trans s5) hD, ?_⟩
    · unfold mD
      rw [dN_len]
      have := (dds_inv (ns.take i)).2.2
      rw [List.length_take] at this
      omega
    · rw [upd_same, putK_dds, et]
  · left
    have e : i = ns.length := by omega
    subst e
    rw [List.take_length] at hD2
    exact ⟨⟨_, hx2, by omega⟩, hq D H2 hD s1 hD2⟩
/-- a dict comprehension over an own object that iterates over its dict -/
theorem lock_dcO {C a dx : Addr} {F : Str} {fs : List (Str × V)} {f : List Nat → V} {ns : List (List Nat)} (σ0 : L2.St) (h : List Nat → V) (hw : wipe σ vs = σ0) (nd : ns.Nodup) (ha : H a = some (.ins C dx fs)) (lk : fs.lookup F = some (.ref d)) (hd : H d = some (.dK (dN f ns))) (hn : ns.length ≤ 100000)
    (hv : ∀ od (R : VK), R (.ref a) (upd H d (.frz od (.dK (dN f ns)))) → td σ (upd H d (.frz od (.dK (dN f ns)))) R)
    (hs : ∀ (i : Nat) (l : List Nat) od H2 (R : V → V → Hp → Prop), ns[i]? = some l → Same (upd H d (.frz od (.dK (dN f ns)))) H2 → (∀ H5, Same H2 H5 → R (.str (S l)) (h l) H5) →
      g (.str (S l)) σ0 H2 fun σ2 H3 => wipe σ2 vs = σ0 ∧ tk σ2 H3 fun y H4 => tv σ2 H4 fun z H5 => R y z H5)
    (hq : ∀ D H2, H D = none → Same H H2 → H2 D = some (.dK (dN h ns)) → Q (.ref D) H2) : tLockE (tDc (iOwnK C F td) g tYes tk tv vs) σ H Q := by
  have el : (dN f ns).length = ns.length := dN_len
  have nad : a ≠ d := fun e => by rw [e, hd] at ha; cases ha
  refine wp_lockE hd fun od => ?_
  refine hv od _ ⟨a, dx, fs, d, od, _, rfl, (upd_ne nad).trans ha, lk, upd_same, ?_⟩
  intro D hD
  have nDd : D ≠ d := fun e => by rw [e, upd_same] at hD; cases hD
  have hD' : H D = none := by rw [upd_ne nDd] at hD; exact hD
  refine ⟨fun i m H2 => m = ns.length - i ∧ i ≤ ns.length ∧ Same (upd H d (.frz od (.dK (dN f ns)))) H2 ∧ H2 D = some (.dK (dN h (ns.take i))), ⟨ns.length, by simp, Nat.zero_le _, Same.new hD, upd_same⟩, ?_⟩
  rintro i m H2 ⟨rfl, hi, s1, hD2⟩
  have hf := frz_at s1
  rcases Nat.lt_or_ge i ns.length with hlt | hge
  · right
    refine ⟨⟨hf, by omega⟩, fun H' => Same (upd H d (.frz od (.dK (dN f ns)))) H' ∧ H' D = some (.dK (dN h (ns.take (i + 1)))), fun H' hN => ⟨ns.length - (i + 1), by omega, rfl, by omega, hN⟩, fun x H' hy => ?_⟩
    obtain ⟨e, k, v, hkv, rfl⟩ := hy
    subst e
    obtain ⟨l, hl, rfl, rfl⟩ := dN_at hkv
    rw [hw]
    refine hs i l od _ (fun y z H5 => ∃ kvs' k, y = kV k ∧ H5 D = some (.dK kvs') ∧ kvs'.length < sizeLine ∧ (Same (upd H d (.frz od (.dK (dN f ns)))) (upd H5 D (.dK (putK kvs' k z))) ∧ upd H5 D (.dK (putK kvs' k z)) D = some (.dK (dN h (ns.take (i + 1)))))) hl s1 fun H5 s5 => ⟨_, .inr (S l), rfl, s5 _ _ hD2, szlt (by rw [dN_len, List.length_take]; omega), Same.mut (s1.trans s5) hD, ?_⟩
    rw [upd_same, take_snoc hl, dN_put (take_new nd hl)]
  · left
    have e : i = ns.length := by omega
    subst e
    rw [List.take_length] at hD2
    exact ⟨⟨hf, by omega⟩, hf, hq D _ hD' (unl hd s1) (by rw [upd_ne nDd]; exact hD2)⟩
theorem wp_starO {C : Addr} {F : Str} {spL : Sp} {t : TA} {R : List V → Hp → Prop} (h : te σ H fun x H1 => StOwn C F spL x H1 fun xs H2 => t σ H2 fun ys H3 => R (xs ++ ys) H3) : tStarO C F spL te t σ H R := h
theorem wp_ownIX {C : Addr} {sp : Sp} {E : XK} {ta tb : TE} (h : ta σ H fun x H1 => tb σ H1 fun y H2 => ∃ a dx fs i, x = .ref a ∧ y = .int i ∧ H2 a = some (.ins C dx fs) ∧ sp [.ref a, .int i] H2 (fun v H' => ∃ b, v = .ref b ∧ Q v H') E) : tOwnIX C sp E ta tb σ H Q := h
theorem wp_ownIS {C : Addr} {sp : Sp} {E : L2.St → XK} {ta tb : TE} (h : ta σ H fun x H1 => tb σ H1 fun y H2 => ∃ a dx fs i, x = .ref a ∧ y = .int i ∧ H2 a = some (.ins C dx fs) ∧ sp [.ref a, .int i] H2 (fun v H' => ∃ b, v = .ref b ∧ Q v H') (E σ)) : tOwnIS C sp E ta tb σ H Q := h
end
/-! #### functions on names that are 0 outside of U -/
structure OkU (U : List (List Nat)) : Prop where
  nd : U.Nodup
  few : U.length ≤ 16
  nm : ∀ l ∈ U, Nm l
def Zo (U : List (List Nat)) (e : List Nat → Int) : Prop := ∀ l, l ∉ U → e l = 0
theorem Zo.mem {U : List (List Nat)} {e : List Nat → Int} (z : Zo U e) {l : List Nat} (h : e l ≠ 0) : l ∈ U := by
  by_cases hl : l ∈ U
  · exact hl
  · exact absurd (z l hl) h
theorem OkU.len {U : List (List Nat)} (u : OkU U) (e : List Nat → Int) : (nzs e U).length ≤ 16 := Nat.le_trans (nzs_len e U) u.few
theorem OkU.names {U : List (List Nat)} (u : OkU U) {e : List Nat → Int} {l : List Nat} (h : l ∈ nzs e U) : Nm l := u.nm l (nzs_mem.mp h).1
theorem OkU.asc {U : List (List Nat)} (u : OkU U) {e : List Nat → Int} : ∀ l ∈ nzs e U, Asc l := fun _ h => nm_asc (u.names h)
/-- the entry, 0 if there is none -/
def ent (ns : List (List Nat)) (m : List Nat → Int) (l : List Nat) : Int := if l ∈ ns then m l else 0
theorem ent_nzs {U : List (List Nat)} {e : List Nat → Int} (z : Zo U e) {l : List Nat} : ent (nzs e U) e l = e l := by
  unfold ent
  split
  · rfl
  · rename_i h
    by_cases he : e l = 0
    · rw [he]
    · exact absurd (nzs_mem.mpr ⟨z.mem he, he⟩) h
theorem val_ent {m : List Nat → Int} {ns : List (List Nat)} {l : List Nat} : (valV (mD m ns) (.inr (S l))).getD (.int 0) = .int (ent ns m l) := by
  unfold ent mD
  by_cases e : l ∈ ns
  · rw [if_pos e, dN_val e]; rfl
  · rw [if_neg e, dN_none e]; rfl
theorem ent_out {U ns : List (List Nat)} {m : List Nat → Int} (h : ∀ l ∈ ns, l ∈ U) : Zo U (ent ns m) := fun l hl => if_neg fun z => hl (h l z)
theorem ent_in {ns : List (List Nat)} {m : List Nat → Int} {l : List Nat} (h : l ∈ ns) : ent ns m l = m l := if_pos h
theorem nz_one {U : List (List Nat)} {e r : List Nat → Int} (u : U.Nodup) (h : ∀ l, e l = 0 → r l = 0) : nzs r (nzs e U) = nzs r U :=
  nzs_eq (nzs_nodup u) u fun l => ⟨fun ⟨a, b⟩ => ⟨(nzs_mem.mp a).1, b⟩, fun ⟨a, b⟩ => ⟨nzs_mem.mpr ⟨a, fun z => b (h l z)⟩, b⟩⟩
theorem nz_two {U : List (List Nat)} {e f r : List Nat → Int} (u : U.Nodup) (h : ∀ l, e l = 0 → f l = 0 → r l = 0) : nzs r (dds (nzs e U ++ nzs f U)) = nzs r U :=
  nzs_eq (dds_inv _).1 u fun l => by
    rw [(dds_inv _).2.1, List.mem_append, nzs_mem, nzs_mem]
    refine ⟨fun ⟨a, b⟩ => ⟨a.elim (·.1) (·.1), b⟩, fun ⟨a, b⟩ => ⟨?_, b⟩⟩
    by_cases he : e l = 0
    · exact .inr ⟨a, fun z => b (h l he z)⟩
    · exact .inl ⟨a, he⟩
/-- a new shift is handed out -/
def NwS (C : Addr) (H : Hp) (U : List (List Nat)) (e : List Nat → Int) (Q : VK) : Prop := ∀ a H', Same H H' → IsShift C H' a (nzs e U) e → Q (.ref a) H'
theorem NwS.congr {C : Addr} {H : Hp} {U : List (List Nat)} {e f : List Nat → Int} {Q : VK} (h : NwS C H U e Q) (q : ∀ l, f l = e l) : NwS C H U f Q := by
  rw [show f = e from funext q]; exact h
theorem rd_lock {H : Hp} {p b : Addr} {kvs ks : List (Key × V)} {od : Obj} (hp : H p = some (.dK kvs)) (h : Rd H b (.dK ks)) : Rd (upd H p (.frz od (.dK kvs))) b (.dK ks) := by
  by_cases e : b = p
  · subst e
    rcases h with h | ⟨o, h⟩
    · rw [hp] at h; cases h; exact .inr ⟨od, upd_same⟩
    · rw [hp] at h; cases h
  · rcases h with h | ⟨o, h⟩
    · exact .inl ((upd_ne e).trans h)
    · exact .inr ⟨o, (upd_ne e).trans h⟩
theorem for_own {C a dx d : Addr} {F : Str} {fs : List (Str × V)} {g : TG} {tb : TS} {D : Ends} {σ : L2.St} {H : Hp} (ha : H a = some (.ins C dx fs)) (lk : fs.lookup F = some (.ref d)) (h : ∃ d' o kvs, V.ref d = .ref d' ∧ H d' = some (.frz o (.dK kvs)) ∧ ForW (Itk d' o kvs) g tb D σ H) :
    ∃ a' dx fs d o kvs, V.ref a = .ref a' ∧ H a' = some (.ins C dx fs) ∧ fs.lookup F = some (.ref d) ∧ H d = some (.frz o (.dK kvs)) ∧ ForW (Itk d o kvs) g tb D σ H := by
  obtain ⟨d', o, kvs, e, h1, h2⟩ := h
  cases e
  exact ⟨a, dx, fs, d, o, kvs, rfl, ha, lk, h1, h2⟩
theorem keys_x {d : Addr} {σ : L2.St} {H : Hp} {g : TG} {tb : TS} {D : Ends} (h : ∃ d' o, V.ref d = .ref d' ∧ ((∃ kvs, H d' = some (.frz o (.dK kvs)) ∧ ForW (Itk d' o kvs) g tb D σ H) ∨ ∃ kvs, H d' = some (.frz o (.dT kvs)) ∧ ForW (Itkt d' o kvs) g tb D σ H)) {od : Obj} {kvs : List (Key × V)} (hd : H d = some (.frz od (.dK kvs))) :
    ∃ d' o kvs, V.ref d = .ref d' ∧ H d' = some (.frz o (.dK kvs)) ∧ ForW (Itk d' o kvs) g tb D σ H := by
  obtain ⟨d', o, e, h⟩ := h
  cases e
  rcases h with ⟨kv, h1, h2⟩ | ⟨kv, h1, h2⟩
  · exact ⟨d, o, kv, rfl, h1, h2⟩
  · rw [hd] at h1; cases h1
/-- two own lists that are filled while the pool is drawn from -/
structure Two (P : Pl) (w s : Addr) (xs ys : List V) (G H : Hp) : Prop where
  se : Sees P G H
  hw : H w = some (.lst xs)
  hs : H s = some (.lst ys)
  gw : G w = none
  gs : G s = none
  ws : w ≠ s
  nw : w ≠ P.p
  ns : s ≠ P.p
theorem Two.in_ {P : Pl} {w s : Addr} {xs ys : List V} {G H : Hp} (t : Two P w s xs ys G H) : Sees P (upd (upd G w (.lst xs)) s (.lst ys)) H :=
  (t.se.with t.gw t.hw t.nw).with (by rw [upd_ne t.ws.symm]; exact t.gs) t.hs t.ns
theorem Two.out {P : Pl} {w s : Addr} {xs ys : List V} {G H H' : Hp} (t : Two P w s xs ys G H) (h : Sees P (upd (upd G w (.lst xs)) s (.lst ys)) H') : Two P w s xs ys G H' := by
  obtain ⟨h1, h2⟩ := h.back (t.se.with t.gw t.hw t.nw) (by rw [upd_ne t.ws.symm]; exact t.gs)
  obtain ⟨h3, h4⟩ := h1.back t.se t.gw
  exact ⟨h3, h4, h2, t.gw, t.gs, t.ws, t.nw, t.ns⟩
theorem Two.putw {P : Pl} {w s : Addr} {xs ys zs : List V} {G H : Hp} (t : Two P w s xs ys G H) : Two P w s zs ys G (upd H w (.lst zs)) := ⟨t.se.set t.gw t.nw, upd_same, by rw [upd_ne t.ws.symm]; exact t.hs, t.gw, t.gs, t.ws, t.nw, t.ns⟩
theorem Two.puts {P : Pl} {w s : Addr} {xs ys zs : List V} {G H : Hp} (t : Two P w s xs ys G H) : Two P w s xs zs G (upd H s (.lst zs)) := ⟨t.se.set t.gs t.ns, by rw [upd_ne t.ws]; exact t.hw, upd_same, t.gw, t.gs, t.ws, t.nw, t.ns⟩
theorem wp_dnotin {σ : L2.St} {H : Hp} {Q : VK} {ty td : TE} (h : ty σ H fun y H1 => td σ H1 fun x H2 => ∃ a o, x = .ref a ∧ DGet H2 a y o ∧ Q (.bl (!o.isSome)) H2) : tDNotIn ty td σ H Q := h
theorem dnin_s {H : Hp} {R : Option V → Prop} {d : Addr} {kvs : List (Key × V)} {l : List Nat} (hd : Rd H d (.dK kvs)) (q : R (valV kvs (.inr (S l)))) : ∃ a o, V.ref d = .ref a ∧ DGet H a (.str (S l)) o ∧ R o := ⟨d, _, rfl, .inl ⟨kvs, .inr (S l), hd, rfl, rfl⟩, q⟩
end RM
namespace RM
open PySem PySem.Spec PyProof.Rows L2
/-! ### f(x, ..), f a def of the module whose only parameter is a star -/
def StarW0 (sp : Sp) : Sp := fun vs H Q E => vs.length ≤ 1000 ∧ ∀ p, H p = none → sp [V.ref p] (upd H p (.tup vs)) Q E
structure CalS (P : Program) (w : World) (K : PySem.W.Frag) (mg : Str → Option Value) (base : Heap) (k : Nat) (x : Str) (sp : Sp) : Prop where
  ex : ∃ f : Addr, mg x = some (.ref f) ∧ PySem.W.keepIn K (.ref f) = true ∧ FnR P w K mg base CX0 k f (StarW0 sp)
theorem CalS.of {P : Program} {w : World} {K : PySem.W.Frag} {mg : Str → Option Value} {base : Heap} {k : Nat} {x : Str} {f : Addr} {sp : Sp} (hm : mg x = some (.ref f)) (kp : PySem.W.keepIn K (.ref f) = true)
    (F : FnR P w K mg base CX0 k f (fun vs H Q E => ∃ ws rest, vs = ws ++ rest ∧ ws.length = ([] : List Str).length ∧ rest.length ≤ sizeLine ∧ ∀ p, H p = none → sp (ws ++ [V.ref p]) (upd H p (.tup rest)) Q E)) : CalS P w K mg base k x sp :=
  ⟨f, hm, kp, F.imp fun vs H Q E ⟨hl, q⟩ => ⟨[], vs, rfl, rfl, szl (by omega), q⟩⟩
theorem bind_star0 {pv : Str} {B : List Value → Sem (List (Str × Value))} (h0 : B [] = (newTuple [] >>= fun t => pure [(pv, t)])) (h1 : ∀ r rs, B (r :: rs) = (newTuple (r :: rs) >>= fun t => pure [(pv, t)])) (us rest : List Value) (hl : us.length = ([] : List Str).length) :
    B (us ++ rest) = (newTuple rest >>= fun t => pure (([] : List Str).zip us ++ [(pv, t)])) := by
  match us, hl with
  | [], _ =>
    cases rest with
    | nil => exact h0
    | cons r rs => exact h1 r rs
section
variable {X : Cx} {k j : Nat} {x : Str} {sp : Sp} {e : Expr} {es : List Expr} {p pos : Pos} {t : TA}
def tCallS0 (sp : Sp) (t : TA) : TE := fun σ H Q => t σ H fun vs H1 => StarW0 sp vs H1 Q E0
theorem pe_cS0 (c : CalS X.prog X.w X.K X.mg X.base k x sp) (hr : Room j X.A) (hk : k ≤ j) (hg : Gl X x) (ha : PA X (e :: es) t) (hdb : (x == ("__debug__" : Str)) = false := by decide)
    (he : starEach (e :: es) X.env = (false, eval e X.env) :: starEach es X.env := by rfl) (hpl : (backTo pos (starEach es X.env)).any (·.1) = false := by rfl) : PE X (.Call (.Name x p) (e :: es) [] pos) (tCallS0 sp t) := by
  obtain ⟨f, hm, kp, F⟩ := c.ex
  refine ⟨fun pins s σ H Q I h => wpAny_Call_Name_kw (ld_glob I hg hm ?_ hdb)⟩
  refine PySem.W.callWith_K (h₀ := X.base) I.ok.mod.kin kp (thn (ha.run pos pins s σ H _ I h) fun us s1 ⟨vs, H1, I1, r, q⟩ => ⟨I1.kIn, ?_⟩) he hpl
  exact wpAny_call (run_fnR (us := us) (vs := vs) F (hr.mono hk) C8.pass0 I1 r q)
theorem pe_cS00 (c : CalS X.prog X.w X.K X.mg X.base k x sp) (hr : Room j X.A) (hk : k ≤ j) (hg : Gl X x) (hdb : (x == ("__debug__" : Str)) = false := by decide) : PE X (.Call (.Name x p) [] [] pos) (tCallS0 sp tNil) := by
  obtain ⟨f, hm, kp, F⟩ := c.ex
  refine ⟨fun pins s σ H Q I h => wpAny_Call_Name_kw (ld_glob I hg hm ?_ hdb)⟩
  exact PySem.W.callWith_K0 I.kIn kp (wpAny_call (run_fnR (us := []) (vs := []) F (hr.mono hk) C8.pass0 I .nil h))
theorem wp_callS0 {σ : L2.St} {H : Hp} {Q : VK} (h : t σ H fun vs H1 => vs.length ≤ 1000 ∧ ∀ p, H1 p = none → sp [V.ref p] (upd H1 p (.tup vs)) Q E0) : tCallS0 sp t σ H Q := h
end
/-! ### a classmethod (cls, *v, kn=d) -/
def FnRK (P : Program) (w : World) (K : PySem.W.Frag) (mg : Str → Option Value) (base : Heap) (CX : CXT) (k : Nat) (f : Addr) (kn : Str) (sp : V → Sp) : Prop :=
  ∀ (A : Around) (outer : List Env) (s : Shared) (H : Hp) (us : List Value) (vs : List V) (u : Value) (z : V) (Q : VK) (E : XK), Room k A → Env0 P w K mg base A outer s H → Vals vs us → RelV z u → sp z vs H Q E →
    codeAny (model P w) A (.call (.ref f) ⟨us, [(kn, u)]⟩) (CR CX outer P w H s Q E) s
/-- what is handed on: the class, the keyword's value, a new tuple -/
def StarWK (sp : Sp) (z : V) : Sp := fun vs H Q E => ∃ x rest, vs = x :: rest ∧ rest.length ≤ 1000 ∧ ∀ p, H p = none → sp [x, z, V.ref p] (upd H p (.tup rest)) Q E
section
variable {P : Program} {w : World} {K : PySem.W.Frag} {mg : Str → Option Value} {base : Heap} {x qual p0 kn pv : Str} {params : Arguments} {body : List Stmt} {scope : Scope} {f : Addr} {fd : FuncData} {N : List Str} {k : Nat} {sp : Sp} {d : V}
theorem bnd_starK {A : Around} {outer : List Env} {s : Shared} {H : Hp} {E : XK} {fd : FuncData} {args : Args} {a : Value} {av : V} {z : Value} {zv : V} {rest : List Value} {rv : List V} (e0 : Env0 P w K mg base A outer s H) (ra : RelV av a) (rz : RelV zv z) (rr : Vals rv rest) (hl : rv.length ≤ sizeLine)
    (hb : ∀ (A' : Around) (Q : List (Str × Value) → Shared → Prop) (Ex : Value → Shared → Prop), wpAny (model P w) A' (newTuple rest >>= fun t => pure [(p0, a), (kn, z), (pv, t)]) Q Ex s → wpAny (model P w) A' (bindArgs fd args) Q Ex s) :
    StX.Bnd (L2.CX P w) P w K mg base fd args [p0, kn, pv] A outer s H E (fun xs H2 => ∃ p, H p = none ∧ xs = [av, zv, V.ref p] ∧ H2 = upd H p (.tup rv)) := by
  intro A' Ex Q' h
  refine hb _ _ _ ?_
  have hn : H s.heap.objs.size = Option.none := e0.hok.fresh (Nat.le_refl _)
  have hl2 : rest.length ≤ sizeLine := by rw [← rr.length]; exact hl
  refine wpAny_bind (wpAny_newTuple (wpAny_pure ?_) hl2)
  have new : ObjOk P w (upd H s.heap.objs.size (.tup rv)) (s.heap.push ({ cls := .type "tuple", data := .seq rest.toArray } : Obj)) s.heap.objs.size (.tup rv) := ⟨hl, rest, rr, ⟨_, Heap.get?_push_size _ rfl, rfl, _, rfl⟩⟩
  have un := StX.un_laid (fs := frs outer) (s := s) (o := ({ cls := .type "tuple", data := .seq rest.toArray } : Obj)) (u := .tup rv) hn
  exact h _ _ [av, zv, V.ref s.heap.objs.size] [a, z, Value.ref s.heap.objs.size] (StX.env0_laid e0 new) un rfl (fun e s' => StX.cxUp outer s H _ _ E e s' un (fun b o q => Heap.get?_push_of_some _ q) rfl) (.cons ra (.cons rz (.cons rfl .nil))) rfl ⟨_, hn, rfl, rfl⟩
/-- t looks kn up in the dict at D and goes on with r -/
def LookK (D : Addr) (kn : Str) (t : Sem (List (Str × Value))) (r : Value → Sem (List (Str × Value))) : Prop :=
  ∃ (β γ : Type) (k1 : Option Value → Sem β) (k2 : β → Sem γ) (k3 : γ → Sem (List (Str × Value))) (a : Value → β), t = ((nsGet D kn >>= k1) >>= k2) >>= k3 ∧ (∀ z, k1 (some z) = pure (a z)) ∧ ∀ z, (k2 (a z) >>= k3) = r z
theorem fun_starK (F : FunD K x qual params body scope [] [(kn, d)] f fd) (S : FnScope N [p0, kn, pv] scope)
    (hk : ∀ (kV doc pm : Value) (an : Option Addr) (cdv ct : Value) (a z : Value) (rest : List Value), bindArgs (PySem.W.fnOf x qual params body scope .none kV doc pm an cdv ct) ⟨a :: rest, [(kn, z)]⟩ = (newTuple rest >>= fun t => pure [(p0, a), (kn, z), (pv, t)]))
    (h0 : ∀ (D : Addr) (doc pm : Value) (an : Option Addr) (cdv ct : Value) (a : Value) (rest : List Value), LookK D kn (bindArgs (PySem.W.fnOf x qual params body scope .none (.ref D) doc pm an cdv ct) ⟨a :: rest, []⟩) fun z => newTuple rest >>= fun t => pure [(p0, a), (kn, z), (pv, t)])
    (hbody : ∀ (cdv : Value) (A : Around) (outer : List Env) (s : Shared) (H : Hp) (vs : List V) (Q : VK) (E : XK), Room k (A.deeper (envOfC qual scope s.heap.objs.size f cdv)) → sp vs H Q E →
      ∃ t, PSs (cxOf (L2.CX P w) P w K mg base N qual scope f cdv A outer s H E) body t ∧ t { nx := fun _ H' => Q .non H', rt := Q } (L2.start N vs) H) :
    FnR P w K mg base (L2.CX P w) (k + 1) f (StarWK sp d) ∧ FnRK P w K mg base (L2.CX P w) (k + 1) f kn (StarWK sp) := by
  obtain ⟨oc, od, dV, kV, doc, pm, an, cdv, ct, osl, rfl, lk, hcd, hD, hK⟩ := F.ex
  rcases hD with ⟨_, rfl⟩ | ⟨e, _⟩
  · refine ⟨?_, ?_⟩
    · intro A outer s H us vs Q E hr e0 r hsp
      obtain ⟨xv, rv, rfl, hl, q⟩ := hsp
      cases r with
      | cons ra rr =>
      rcases hK with e | ⟨D, rfl, hq⟩
      · exact absurd e (by simp)
      · obtain ⟨u, e1, e2⟩ := hq _ List.mem_cons_self
        have KX : K.In s.heap := e0.mod.kin.keeps fun b o e => (e0.bs b o e).1
        refine StX.run_bnd lk hcd S hr e0 (G := fun xs H2 => ∃ p, H p = none ∧ xs = [xv, d, V.ref p] ∧ H2 = upd H p (.tup rv)) (bnd_starK e0 ra e2 rr (szl (by omega)) fun A' Q' Ex h => ?_) fun s2 H2 xs g hr' => ?_
        · obtain ⟨β, γ, k1, k2, k3, a, t1, t2, t3⟩ := h0 D doc pm an cdv ct _ _
          have l1 : PySem.W.Looks (model P w) s.heap (nsGet D kn >>= k1) (a u) := (PySem.W.looks_nsIn KX e1).andThen (PySem.W.Looks.of_pure (t2 u))
          rw [t1, bind_assoc]
          refine wpAny_bind (l1.here ?_)
          rw [t3]
          exact h
        · obtain ⟨p, hp, rfl, rfl⟩ := g
          exact hbody cdv A outer s2 _ _ Q E hr' (q p hp)
    · intro A outer s H us vs u z Q E hr e0 r rz hsp
      obtain ⟨xv, rv, rfl, hl, q⟩ := hsp
      cases r with
      | cons ra rr =>
      refine StX.run_bnd lk hcd S hr e0 (G := fun xs H2 => ∃ p, H p = none ∧ xs = [xv, z, V.ref p] ∧ H2 = upd H p (.tup rv)) (bnd_starK e0 ra rz rr (szl (by omega)) fun A' Q' Ex h => ?_) fun s2 H2 xs g hr' => ?_
      · rw [hk]
        exact h
      · obtain ⟨p, hp, rfl, rfl⟩ := g
        exact hbody cdv A outer s2 _ _ Q E hr' (q p hp)
  · exact absurd rfl e
end
structure CMK (P : Program) (w : World) (K : PySem.W.Frag) (mg : Str → Option Value) (base : Heap) (k : Nat) (x : Str) (C : Addr) (m kn : Str) (d : V) (sp : Sp) : Prop where
  ex : ∃ p g : Addr, mg x = some (.ref C) ∧ ClX.CRead K C (.type "type") ∧ ClX.CMet K C (.type "type") m p g ∧ FnR P w K mg base (L2.CX P w) k g (StarWK sp d) ∧ FnRK P w K mg base (L2.CX P w) k g kn (StarWK sp)
section
variable {X : Cx} {k j : Nat} {x m kn : Str} {C g q : Addr} {d : V} {sp : Sp} {e : Expr} {es : List Expr} {p0 pos apos : Pos} {t tk : TA} {pl : Sem Bool} {kws : List Keyword} {W : WX} {E : XK}
/-- what the call asks of what it lets out: inside a try the wish may speak of the slots -/
def tCMS (C : Addr) (sp : Sp) (d : V) (E : L2.St → XK) (t : TA) : TE := fun σ H Q => t σ H fun vs H1 => StarWK sp d (.ref C :: vs) H1 Q (E σ)
def tCMK (C : Addr) (sp : Sp) (E : L2.St → XK) (t tk : TA) : TE := fun σ H Q => t σ H fun vs H1 => tk σ H1 fun zs H2 => ∃ z, zs = [z] ∧ StarWK sp z (.ref C :: vs) H2 Q (E σ)
theorem code_after {CX : CXT} {pins : List (Addr × Obj)} {σ : L2.St} {H : Hp} {s : Shared} {Q : VK} {E : XK} {args : Args} (hx : PassesAt CX X σ E) (I : Inv X pins σ H s) (h : codeAny (model X.prog X.w) X.A (.call (.ref g) args) (CR CX X.stack X.prog X.w H s Q E) s) :
    codeAny (model X.prog X.w) X.A (.call (.ref g) args) (fun r s' => match r with | .ok (.ret v) => EP X pins σ Q v s' | .ok _ => False | .error e => X.xe e s') s := by
  refine codeAny_mono h fun r s' hq => ?_
  cases r with
  | error e => exact hx pins H s e s' I hq
  | ok fl =>
    cases fl with
    | ret u => exact I.after hq
    | next => exact False.elim hq
    | brk => exact False.elim hq
    | cont => exact False.elim hq
def KwOk0 (X : Cx) (pos : Pos) (es : List Expr) (kws : List Keyword) (kn : Str) : Prop :=
  (backToKw pos (keywordEach kws X.env)).all (·.1.isSome) = true ∧ (backToKw pos (keywordEach kws X.env)).filterMap (·.1) = [kn] ∧ ((backTo pos (starEach es X.env)).any (·.1) || (backToKw pos (keywordEach kws X.env)).any (·.1.isNone)) = false
theorem pxAt {CX : CXT} (h : Passes CX X E) : ∀ σ, PassesAt CX X σ ((fun _ => E) σ) := fun σ pins H s e s' I c => h pins σ H s e s' I c
theorem run_cmS {A : Around} {pins : List (Addr × Obj)} {σ : L2.St} {H : Hp} {s : Shared} {Q : VK} {us : List Value} {vs : List V} (F : FnR X.prog X.w X.K X.mg X.base (L2.CX X.prog X.w) k g (StarWK sp d)) (hr : Room k X.A) (hx : PassesAt (L2.CX X.prog X.w) X σ E) (I : Inv X ((q, PySem.W.methodObj (.ref g) (.ref C)) :: pins) σ H s)
    (r : Vals vs us) (h : StarWK sp d (.ref C :: vs) H Q E) : wpAny (model X.prog X.w) X.A (call (.ref q) us) (EP X pins σ Q) X.xe s := by
  have z : wpAny (model X.prog X.w) X.A (call (.ref q) us) (EP X ((q, PySem.W.methodObj (.ref g) (.ref C)) :: pins) σ Q) X.xe s :=
    wpAny_call (PySem.W.method_call (ClX.pin_at I) (code_after hx I (F X.A X.stack s H (.ref C :: us) (.ref C :: vs) Q E hr I.env0 (.cons rfl r) h)))
  exact thn z fun _ _ y => ClX.unpinE y
theorem run_cmK {A : Around} {pins : List (Addr × Obj)} {σ : L2.St} {H : Hp} {s : Shared} {Q : VK} {us : List Value} {vs : List V} {u : Value} {z : V} (F : FnRK X.prog X.w X.K X.mg X.base (L2.CX X.prog X.w) k g kn (StarWK sp)) (hr : Room k X.A) (hx : PassesAt (L2.CX X.prog X.w) X σ E) (I : Inv X ((q, PySem.W.methodObj (.ref g) (.ref C)) :: pins) σ H s)
    (r : Vals vs us) (rz : RelV z u) (h : StarWK sp z (.ref C :: vs) H Q E) : wpAny (model X.prog X.w) X.A (call (.ref q) us [(kn, u)]) (EP X pins σ Q) X.xe s := by
  have z : wpAny (model X.prog X.w) X.A (call (.ref q) us [(kn, u)]) (EP X ((q, PySem.W.methodObj (.ref g) (.ref C)) :: pins) σ Q) X.xe s :=
    wpAny_call (PySem.W.method_call (ClX.pin_at I) (code_after hx I (F X.A X.stack s H (.ref C :: us) (.ref C :: vs) u z Q E hr I.env0 (.cons rfl r) rz h)))
  exact thn z fun _ _ y => ClX.unpinE y
section
variable {EE : L2.St → XK}
theorem pe_cm {tt : TE} (c : CMK X.prog X.w X.K X.mg X.base k x C m kn d sp) (hg : Gl X x) (hdb : (x == ("__debug__" : Str)) = false) (ht : MC X (.Name x p0) m apos pos es kws pl)
    (hpl : ((backTo pos (starEach es X.env)).any (·.1) || (backToKw pos (keywordEach kws X.env)).any (·.1.isNone)) = false)
    (h : ∀ (g : Addr), FnR X.prog X.w X.K X.mg X.base (L2.CX X.prog X.w) k g (StarWK sp d) → FnRK X.prog X.w X.K X.mg X.base (L2.CX X.prog X.w) k g kn (StarWK sp) → ∀ (q : Addr) (pins : List (Addr × Obj)) (σ : L2.St) (H : Hp) (Q : VK) (s : Shared), Inv X ((q, PySem.W.methodObj (.ref g) (.ref C)) :: pins) σ H s → tt σ H Q →
      wpAny (model X.prog X.w) X.A (evalArgs (.ref q) true (backTo pos (starEach es X.env)) (backToKw pos (keywordEach kws X.env))) (fun a s₁ => PySem.W.MethP X.K q g (.ref C) s₁.heap ∧ wpAny (model X.prog X.w) X.A (call (.ref q) a.pos a.kw) (EP X pins σ Q) X.xe s₁) X.xe s) :
    PE X (.Call (.Attribute (.Name x p0) m apos) es kws pos) tt := by
  obtain ⟨p, g, hm, r, cm, F, FK⟩ := c.ex
  refine ⟨fun pins s σ H Q I hq => ?_⟩
  refine PySem.W.methodCall_KW (pl := pl) (thn ((pe_clsv (pos := p0) hg hm hdb).run pins s σ H (fun v H1 => v = .ref C ∧ H1 = H) I ⟨rfl, rfl⟩) fun u s1 ⟨v, H1, I1, rx, q1⟩ => ?_) ht
  obtain ⟨rfl, rfl⟩ := q1
  obtain rfl : u = Value.ref C := rx
  refine ClX.getmethcm_ok I1 r cm fun s2 I2 => ?_
  exact PySem.W.callWith_of (first := []) hpl (PySem.W.keeps_M cm.fi) (h g F FK _ pins σ H1 Q s2 I2 hq)
theorem pe_cmS1 (c : CMK X.prog X.w X.K X.mg X.base k x C m kn d sp) (hr : Room j X.A) (hk : k ≤ j) (hg : Gl X x) (hx : ∀ σ, PassesAt (L2.CX X.prog X.w) X σ (EE σ)) (ha : PA X (e :: es) t) (hdb : (x == ("__debug__" : Str)) = false := by decide)
    (hst : starEach (e :: es) X.env = (false, eval e X.env) :: starEach es X.env := by rfl) (hpl : ((backTo pos (starEach (e :: es) X.env)).any (·.1) || (backToKw pos (keywordEach [] X.env)).any (·.1.isNone)) = false := by rfl) (ht : MC X (.Name x p0) m apos pos (e :: es) [] pl := by exact rfl) :
    PE X (.Call (.Attribute (.Name x p0) m apos) (e :: es) [] pos) (tCMS C sp d EE t) := by
  refine pe_cm c hg hdb ht hpl fun g F _ q pins σ H Q s I h => ?_
  have z := thn (ha.run pos _ s σ H _ I h) (Q' := fun us s1 => PySem.W.MethP X.K q g (.ref C) s1.heap ∧ wpAny (model X.prog X.w) X.A (call (.ref q) us) (EP X pins σ Q) X.xe s1) fun us s3 ⟨vs, H2, I3, rv, q2⟩ => ⟨⟨ClX.pin_at I3, I3.kIn⟩, run_cmS (A := X.A) F (hr.mono hk) (hx σ) I3 rv q2⟩
  rw [hst] at z ⊢
  exact Calls.evalArgs_plain z
theorem pe_cmS0 (c : CMK X.prog X.w X.K X.mg X.base k x C m kn d sp) (hr : Room j X.A) (hk : k ≤ j) (hg : Gl X x) (hx : ∀ σ, PassesAt (L2.CX X.prog X.w) X σ (EE σ)) (hdb : (x == ("__debug__" : Str)) = false := by decide) (ht : MC X (.Name x p0) m apos pos [] [] pl := by exact rfl) :
    PE X (.Call (.Attribute (.Name x p0) m apos) [] [] pos) (tCMS C sp d EE tNil) := by
  refine pe_cm c hg hdb ht rfl fun g F _ q pins σ H Q s I h => ?_
  exact evalArgs_nil3 ⟨⟨ClX.pin_at I, I.kIn⟩, run_cmS (A := X.A) (us := []) (vs := []) F (hr.mono hk) (hx σ) I .nil h⟩
theorem kw_one {ks : List (Option Str × Sem Value)} {ws : List Value} {zs : List V} {z : V} {kn : Str} (hk : ks.filterMap (·.1) = [kn]) (hz : zs = [z]) (r : Vals zs ws) : ∃ u, RelV z u ∧ (ks.filterMap (·.1)).zip ws = [(kn, u)] := by
  subst hz
  cases r with
  | cons a b =>
    cases b
    exact ⟨_, a, by rw [hk]; rfl⟩
theorem pe_cmK1 (c : CMK X.prog X.w X.K X.mg X.base k x C m kn d sp) (hr : Room j X.A) (hk : k ≤ j) (hg : Gl X x) (hx : ∀ σ, PassesAt (L2.CX X.prog X.w) X σ (EE σ)) (ha : PA X (e :: es) t) (hkw : PK X kws tk) (hdb : (x == ("__debug__" : Str)) = false := by decide)
    (hst : starEach (e :: es) X.env = (false, eval e X.env) :: starEach es X.env := by rfl) (hq : KwOk0 X pos (e :: es) kws kn := by exact ⟨rfl, rfl, rfl⟩) (ht : MC X (.Name x p0) m apos pos (e :: es) kws pl := by exact rfl) :
    PE X (.Call (.Attribute (.Name x p0) m apos) (e :: es) kws pos) (tCMK C sp EE t tk) := by
  refine pe_cm c hg hdb ht hq.2.2 fun g _ F q pins σ H Q s I h => ?_
  refine evalArgs_kw2 hq.1 (thn (ha.run pos _ s σ H _ I h) fun us s3 ⟨vs, H2, I3, rv, q2⟩ => ?_) hst
  refine thn (hkw.run pos _ s3 σ H2 _ I3 q2) fun ws s4 ⟨zs, H4, I4, rz, z, ez, q3⟩ => ?_
  obtain ⟨u, ru, eu⟩ := kw_one hq.2.1 ez rz
  refine ⟨⟨ClX.pin_at I4, I4.kIn⟩, ?_⟩
  show wpAny _ _ (call (.ref q) us _) _ _ _
  rw [eu]
  exact run_cmK (A := X.A) F (hr.mono hk) (hx σ) I4 rv ru q3
theorem pe_cmK0 (c : CMK X.prog X.w X.K X.mg X.base k x C m kn d sp) (hr : Room j X.A) (hk : k ≤ j) (hg : Gl X x) (hx : ∀ σ, PassesAt (L2.CX X.prog X.w) X σ (EE σ)) (hkw : PK X kws tk) (hdb : (x == ("__debug__" : Str)) = false := by decide)
    (hq : KwOk0 X pos [] kws kn := by exact ⟨rfl, rfl, rfl⟩) (ht : MC X (.Name x p0) m apos pos [] kws pl := by exact rfl) :
    PE X (.Call (.Attribute (.Name x p0) m apos) [] kws pos) (tCMK C sp EE tNil tk) := by
  refine pe_cm c hg hdb ht hq.2.2 fun g _ F q pins σ H Q s I h => ?_
  refine evalArgs_kw2_nil hq.1 ?_
  refine thn (hkw.run pos _ s σ H _ I h) fun ws s4 ⟨zs, H4, I4, rz, z, ez, q3⟩ => ?_
  obtain ⟨u, ru, eu⟩ := kw_one hq.2.1 ez rz
  refine ⟨⟨ClX.pin_at I4, I4.kIn⟩, ?_⟩
  show wpAny _ _ (call (.ref q) [] _) _ _ _
  rw [eu]
  exact run_cmK (A := X.A) (us := []) (vs := []) F (hr.mono hk) (hx σ) I4 .nil ru q3
theorem wp_cms {σ : L2.St} {H : Hp} {Q : VK} (h : t σ H fun vs H1 => StarWK sp d (.ref C :: vs) H1 Q (EE σ)) : tCMS C sp d EE t σ H Q := h
theorem wp_cmk {σ : L2.St} {H : Hp} {Q : VK} (h : t σ H fun vs H1 => tk σ H1 fun zs H2 => ∃ z, zs = [z] ∧ StarWK sp z (.ref C :: vs) H2 Q (EE σ)) : tCMK C sp EE t tk σ H Q := h
end
end
section
variable {σ : L2.St} {H : Hp} {Q : VK} {K : PySem.W.Frag} {g : TG} {tt : TT} {tk tv te td : TE} {vs : List Nat} {d : Addr}
/-- a dict comprehension over a tuple of names, some perhaps twice, without a test -/
theorem dcTD {a : Addr} {ns : List (List Nat)} (σ0 : L2.St) (m : List Nat → Int) (hw : wipe σ vs = σ0) (hx : SqT K H a (ns.map sv)) (hn : ns.length ≤ 90000)
    (hs : ∀ (i : Nat) (l : List Nat) H2 (R : V → V → Hp → Prop) (R0 : Hp → Prop), ns[i]? = some l → Same H H2 → (∀ H5, Same H2 H5 → R (.str (S l)) (.int (m l)) H5) →
      g (.str (S l)) σ0 H2 fun σ2 H3 => wipe σ2 vs = σ0 ∧ tt σ2 H3 fun b H4 => if b = true then tk σ2 H4 fun y H5 => tv σ2 H5 fun z H6 => R y z H6 else R0 H4)
    (hq : ∀ D H2, H D = none → Same H H2 → H2 D = some (.dK (mD m (dds ns))) → Q (.ref D) H2) : ∃ b, V.ref a = .ref b ∧ (∃ ys, SqT K H b ys) ∧ DcW (Itt K b) g tt tk tv vs σ H Q := by
  have el : (ns.map sv).length = ns.length := List.length_map ..
  refine ⟨a, rfl, ⟨_, hx⟩, ?_⟩
  intro D hD
  refine ⟨fun i m' H2 => m' = ns.length - i ∧ i ≤ ns.length ∧ Same H H2 ∧ H2 D = some (.dK (mD m (dds (ns.take i)))), ⟨ns.length, by simp, Nat.zero_le _, Same.new hD, upd_same⟩, ?_⟩
  rintro i m' H2 ⟨rfl, hi, s1, hD2⟩
  have hx2 := Same.seqT s1 hx
  rcases Nat.lt_or_ge i ns.length with hlt | hge
  · right
    have hi2 : i < (ns.map sv).length := by omega
    refine ⟨⟨_, (ns.map sv)[i], hx2, List.getElem?_eq_getElem hi2⟩, fun H' => Same H H' ∧ H' D = some (.dK (mD m (dds (ns.take (i + 1))))), fun H' hN => ⟨ns.length - (i + 1), by omega, rfl, by omega, hN⟩, fun x H' hy => ?_⟩
    obtain ⟨e, hy⟩ := hy
    subst e
    have hxi := hy _ hx2
    rw [List.getElem?_map] at hxi
    obtain ⟨l, hl, rfl⟩ := Option.map_eq_some_iff.mp hxi
    rw [hw]
    have et := take_snoc hl
    refine hs i l _ (fun y z H5 => ∃ kvs k, y = kV k ∧ H5 D = some (.dK kvs) ∧ kvs.length < sizeLine ∧ (Same H (upd H5 D (.dK (putK kvs k z))) ∧ upd H5 D (.dK (putK kvs k z)) D = some (.dK (mD m (dds (ns.take (i + 1))))))) (fun H' => Same H H' ∧ H' D = some (.dK (mD m (dds (ns.take (i + 1)))))) hl s1 (fun H5 s5 => ?_)
    refine ⟨_, .inr (S l), rfl, s5 _ _ hD2, szlt ?_, Same.mut (s1.trans s5) hD, ?_⟩
    · unfold mD
      rw [dN_len]
      have := (dds_inv (ns.take i)).2.2
      rw [List.length_take] at this
      omega
    · rw [upd_same, putK_dds, et]
  · left
    have e : i = ns.length := by omega
    subst e
    rw [List.take_length] at hD2
    exact ⟨⟨_, hx2, by omega⟩, hq D H2 hD s1 hD2⟩
theorem sl_from1 {p : Addr} {xs : List V} (hp : H p = some (.tup xs)) (h0 : xs = [] → Q (.ref p) H) (h1 : xs ≠ [] → ∀ q, H q = none → Q (.ref q) (upd H q (.tup (xs.drop 1)))) : rSlA K (.ref p) (some 1) none H Q := by
  have e : HT.sIx xs.length 0 (some 1) = min 1 xs.length := by
    unfold HT.sIx
    simp
  have e2 : HT.sIx xs.length xs.length none = xs.length := rfl
  refine ⟨p, xs, rfl, st_of hp, fun h => h0 ?_, fun h q hq => ?_⟩
  · rw [e, e2] at h
    exact List.length_eq_zero_iff.mp (by omega)
  · have ne : xs ≠ [] := fun z => h (by rw [e, e2, z]; exact ⟨rfl, rfl⟩)
    have l : 0 < xs.length := List.length_pos_iff.mpr ne
    have z := h1 ne q hq
    rw [show cutV xs (some 1) none = xs.drop 1 by
      unfold cutV
      rw [e, e2, show min 1 xs.length = 1 by omega]
      exact List.take_of_length_le (by rw [List.length_drop]; omega)]
    exact z
theorem sl_tail {p : Addr} {xs : List V} (hp : H p = some (.tup xs)) (k : ∀ q H2, Same H H2 → H2 q = some (.tup (xs.drop 1)) → Q (.ref q) H2) : rSlA K (.ref p) (some 1) none H Q :=
  sl_from1 hp (fun e => k p H (Same.refl _) (by rw [hp, e]; rfl)) fun _ q hq => k q _ (Same.new hq) upd_same
theorem wp_tru {ta : TE} {R : Bool → Hp → Prop} (h : ta σ H fun x H' => ∃ k, TruV K x H' k ∧ R k H') : tTru K ta σ H R := h
theorem tru_tup {p : Addr} {xs : List V} {R : Bool → Prop} (hp : H p = some (.tup xs)) (h : R (!xs.isEmpty)) : ∃ k, TruV K (.ref p) H k ∧ R k := ⟨_, .inr (.inl ⟨xs, st_of hp, rfl⟩), h⟩
theorem Sees.put {P : Pl} {G H : Hp} {D : Addr} {zs : List V} (s : Sees P G H) (hl : D ≠ P.l) (nD : D ≠ P.p) : Sees P (upd G D (.lst zs)) (upd H D (.lst zs)) := by
  obtain ⟨n, c, e⟩ := s.pool
  refine ⟨⟨n, c, by rw [upd_ne nD.symm]; exact e⟩, by rw [upd_ne hl.symm]; exact s.cell, s.few, by rw [upd_ne nD.symm]; exact s.free, fun a o h => ?_⟩
  by_cases ea : a = D
  · subst ea; rw [upd_same] at h ⊢; exact h
  · rw [upd_ne ea] at h ⊢
    exact s.sub _ _ h
/-- a comprehension over a range that draws from the pool and hands out what lasts -/
theorem lcPG {n : Int} (n0 : 0 ≤ n) (hn : n ≤ 100000) {P : Pl} {G : Hp} (hs : Sees P G H) (I : Nat → List V → Hp → Prop) (h0 : I 0 [] G)
    (hm : ∀ i acc G1 G2, Same G1 G2 → I i acc G1 → I i acc G2) (hu : ∀ i acc G1 D xs zs, G1 D = some (.lst xs) → I i acc G1 → I i acc (upd G1 D (.lst zs)))
    (st : ∀ (i : Nat) acc G2 H2 (R : VK), (i : Int) < n → Same G G2 → Sees P G2 H2 → acc.length ≤ i → I i acc G2 → (∀ y G3 H3, Same G2 G3 → Sees P G3 H3 → I (i + 1) (acc ++ [y]) G3 → R y H3) → g (.int (i : Nat)) (wipe σ vs) H2 fun σ2 H4 => wipe σ2 vs = wipe σ vs ∧ te σ2 H4 R)
    (hq : ∀ D acc G2 H2, H D = none → Same G G2 → Sees P G2 H2 → G2 D = some (.lst acc) → (acc.length : Int) ≤ n → I n.toNat acc G2 → Q (.ref D) H2) : ∃ j : Int, [V.int n] = [V.int j] ∧ -(2 ^ 62) ≤ j ∧ j < 2 ^ 62 ∧ LcW (Itr 0 j.toNat) g tYes te vs σ H Q := by
  refine ⟨n, rfl, by omega, by omega, ?_⟩
  intro D hD
  obtain ⟨gD, nD⟩ := hs.fresh hD
  refine lc_it (walk_range (n := n.toNat)) (fun i H2 => ∃ acc G1, Same G G1 ∧ Sees P G1 H2 ∧ G1 D = some (.lst acc) ∧ acc.length ≤ i ∧ I i acc G1) ⟨[], _, Same.new gD, hs.new hD, upd_same, Nat.le_refl _, hm _ _ _ _ (Same.new gD) h0⟩ (fun i H2 _ p => trivial) (fun i x H2 H3 hi p y => ?_) (fun H2 p => ?_)
  · obtain ⟨acc, G1, s1, s2, d, l, hI⟩ := p
    obtain ⟨e, ex⟩ := y
    have e3 : x = .int (i : Nat) := by rw [ex]; exact congrArg V.int (Int.zero_add _)
    subst e3 e
    have z := st i acc G1 _ (fun y H4 => ∃ acc', H4 D = some (.lst acc') ∧ acc'.length < sizeLine ∧ ∃ acc2 G3, Same G G3 ∧ Sees P G3 (upd H4 D (.lst (acc' ++ [y]))) ∧ G3 D = some (.lst acc2) ∧ acc2.length ≤ i + 1 ∧ I (i + 1) acc2 G3) (by omega) s1 s2 l hI
      (fun y G3 H3 s3 s4 hI2 => ⟨acc, s4.sub _ _ (s3 _ _ d), szlt (by omega), acc ++ [y], upd G3 D (.lst (acc ++ [y])), ?_, ?_, upd_same, by simp; omega, hu _ _ _ _ _ _ (s3 _ _ d) hI2⟩)
    · exact z
    · intro a o h
      rw [upd_ne (ne_of_none h gD)]
      exact s3 _ _ (s1 _ _ h)
    · exact s4.put (fun e => by rw [e, hs.cell] at gD; cases gD) nD
  · obtain ⟨acc, G1, s1, s2, d, l, hI⟩ := p
    exact hq D acc G1 H2 hD s1 s2 d (by omega) hI
end
end RM
namespace RM
open PySem PySem.Spec PyProof.Rows L2
/-! ### the generator of nets with two timetables -/
/-- the minutes m from one event to the other are passed by a span lo .. hi -/
def KeepW (T lo hi m : Int) : Prop := (m - lo) % T ≤ hi - lo
theorem emod_add {T c e z : Int} (h : c % T = e % T) : (c + z) % T = (e + z) % T := by rw [Int.add_emod, h, ← Int.add_emod]
theorem keepW_of {T s y m d : Int} (h : (m - s) % T = d % T) (d0 : 0 ≤ d) (d1 : d < T) (d2 : d ≤ y - s % T) : KeepW T (s % T) y m := by
  unfold KeepW
  rw [show (m - s % T) % T = (m - s) % T by rw [Int.sub_emod, Int.emod_emod, ← Int.sub_emod], h, Int.emod_eq_of_lt d0 d1]
  exact d2
/-- both timetables pass the row: before bs, changed by cs -/
def KpR (T : Int) (ns : List (List Nat)) (bs cs : List Int) (r : Row) : Prop := ∃ (i j : Nat) (a b c d : Int), ns[i]? = some r.u ∧ ns[j]? = some r.v ∧ bs[i]? = some a ∧ bs[j]? = some b ∧ cs[i]? = some c ∧ cs[j]? = some d ∧ KeepW T r.lo r.hi (b - a) ∧ KeepW T r.lo r.hi ((b - a) + (d - c))
def IsSpK (H : Hp) (T : Int) (ns : List (List Nat)) (bs cs : List Int) (x : V) : Prop := ∃ r, IsRow H x r ∧ OkR T ns r ∧ KpR T ns bs cs r
theorem IsSpK.mono {H H' : Hp} (e : Same H H') {T : Int} {ns : List (List Nat)} {bs cs : List Int} {x : V} (h : IsSpK H T ns bs cs x) : IsSpK H' T ns bs cs x := by
  obtain ⟨r, h1, h2, h3⟩ := h
  exact ⟨r, h1.mono e, h2, h3⟩
theorem IsSpK.sp {H : Hp} {T : Int} {ns : List (List Nat)} {bs cs : List Int} {x : V} (h : IsSpK H T ns bs cs x) : IsSp H T ns x := by
  obtain ⟨r, h1, h2, _⟩ := h
  exact ⟨r, h1, h2⟩
section
variable {K : PySem.W.Frag} {H : Hp} {Q : VK} {a b : Addr}
theorem wp_eqNL {xs : List V} {ds : List PyData} (h1 : H a = some (.lst xs)) (h2 : H b = some (.lst [])) (hd : DpAll K H xs ds) (sh : SeqAt.shaped (.list ds) = true) (q : Q (.bl (decide (ds = []))) H) : rEqD K (.ref a) (.ref b) H Q := by
  refine ⟨.list ds, .list [], .lst (sq_of h1) hd, .lst (sq_of h2) .nil, sh, rfl, ?_⟩
  show Q (.bl (PyData.eqvAll ds [])) H
  cases ds with
  | nil => exact q
  | cons d r => exact q
end
theorem ixI {is : List Int} {k : Int} {x : V} (h : (is.map V.int)[k.toNat]? = some x) : ∃ i, x = .int i ∧ is[k.toNat]? = some i := by
  rw [List.getElem?_map] at h
  obtain ⟨i, h1, h2⟩ := Option.map_eq_some_iff.mp h
  exact ⟨i, h2.symm, h1⟩
theorem nodup_ix {ns : List (List Nat)} (nd : ns.Nodup) {i j : Nat} {a : List Nat} (h1 : ns[i]? = some a) (h2 : ns[j]? = some a) : i = j := by
  obtain ⟨hi, e1⟩ := List.getElem?_eq_some_iff.mp h1
  obtain ⟨hj, e2⟩ := List.getElem?_eq_some_iff.mp h2
  have z := List.pairwise_iff_getElem.mp nd
  rcases Nat.lt_trichotomy i j with h | h | h
  · exact absurd (e1.trans e2.symm) (z i j hi hj h)
  · exact h
  · exact absurd (e2.trans e1.symm) (z j i hj hi h)
theorem Sees.putG {P : Pl} {G H : Hp} {D : Addr} {zs : List V} (s : Sees P G H) (hl : D ≠ P.l) (nD : D ≠ P.p) : Sees P (upd G D (.lst zs)) (upd H D (.lst zs)) := by
  obtain ⟨n, c, e⟩ := s.pool
  refine ⟨⟨n, c, by rw [upd_ne nD.symm]; exact e⟩, by rw [upd_ne hl.symm]; exact s.cell, s.few, by rw [upd_ne nD.symm]; exact s.free, fun x o h => ?_⟩
  by_cases ea : x = D
  · subst ea
    rw [upd_same] at h ⊢
    exact h
  · rw [upd_ne ea] at h ⊢
    exact s.sub _ _ h
theorem IsSp.updL {G : Hp} {L : Addr} {ys : List V} {o : HO} {T : Int} {ns : List (List Nat)} {x : V} (hq : G L = some (.lst ys)) (h : IsSp G T ns x) : IsSp (upd G L o) T ns x := by
  obtain ⟨r, ⟨p, rfl, hp⟩, k⟩ := h
  exact ⟨r, ⟨p, rfl, by rw [upd_ne (fun e => by rw [e, hq] at hp; cases hp)]; exact hp⟩, k⟩
/-- the minutes behind: changed by cs -/
def aft (T : Int) (bs cs : List Int) (i : Nat) : Int := (bs.getD i 0 + cs.getD i 0) % T
structure Case (P : Pl) (G : Hp) (L : Addr) (e m : Nat) (tm T : Int) (N S A B : Addr) (ns : List (List Nat)) (ss : List V) (bs cs : List Int) : Prop where
  ok : OkNs T ns
  ne : ns.length ≤ e
  ms : ss.length ≤ m
  tt : T ≤ tm ∨ T ≤ 8
  sp : ∀ x ∈ ss, IsSpK G T ns bs cs x
  two : 2 ≤ ns.length ∨ ss = []
  lb : bs.length = ns.length
  lc : cs.length = ns.length
  bb : ∀ j ∈ bs, 0 ≤ j ∧ j < T
  bc : ∀ j ∈ cs, -5000 ≤ j ∧ j ≤ 5000
  hL : G L = some (.lst [.int T, .ref N, .ref S, .ref B, .ref A])
  hN : G N = some (.lst (ns.map sv))
  hS : G S = some (.lst ss)
  hB : G B = some (.lst (bs.map V.int))
  hA : G A = some (.lst (((List.range ns.length).map (aft T bs cs)).map V.int))
end RM
namespace RM
open PySem PySem.Spec PyProof.Rows L2
/-! ### walks: steps (number, direction), ends, what a tree joins -/
/-- the two ends of a step, if it exists -/
def sd (rs : List Row) (s : Int × Int) : Option (List Nat × List Nat) :=
  if 0 ≤ s.1 then (match rs[s.1.toNat]? with
    | none => none
    | some r => if s.2 = 1 then some (r.u, r.v) else if s.2 = -1 then some (r.v, r.u) else none) else none
def Wk (rs : List Row) : List (Int × Int) → List Nat → List Nat → Prop
  | [], a, b => a = b
  | s :: w, a, b => ∃ c, sd rs s = some (a, c) ∧ Wk rs w c b
theorem Wk.app {rs : List Row} : ∀ {w z : List (Int × Int)} {a b c : List Nat}, Wk rs w a b → Wk rs z b c → Wk rs (w ++ z) a c
  | [], _, _, _, _, h, k => by cases h; exact k
  | _ :: _, _, _, _, _, ⟨c, h1, h2⟩, k => ⟨c, h1, h2.app k⟩
theorem Wk.one {rs : List Row} {s : Int × Int} {a b : List Nat} (h : sd rs s = some (a, b)) : Wk rs [s] a b := ⟨b, h, rfl⟩
theorem Wk.last {rs : List Row} : ∀ {w : List (Int × Int)} {s : Int × Int} {a b : List Nat}, Wk rs w a b → w[w.length - 1]? = some s → ∃ c, sd rs s = some (c, b)
  | [t], s, a, b, ⟨c, h1, h2⟩, e => by
    cases h2
    cases e
    exact ⟨a, h1⟩
  | t :: u :: w, s, a, b, ⟨c, _, h2⟩, e => h2.last (by simpa using e)
theorem sd_fwd {rs : List Row} {i : Nat} {r : Row} (h : rs[i]? = some r) : sd rs ((i : Int), 1) = some (r.u, r.v) := by
  unfold sd
  rw [if_pos (show (0 : Int) ≤ (i : Int) by omega)]
  show (match rs[((i : Int)).toNat]? with
    | none => none
    | some r => if (1 : Int) = 1 then some (r.u, r.v) else if (1 : Int) = -1 then some (r.v, r.u) else none) = _
  rw [Int.toNat_natCast, h]
  rfl
theorem sd_bwd {rs : List Row} {i : Nat} {r : Row} (h : rs[i]? = some r) : sd rs ((i : Int), -1) = some (r.v, r.u) := by
  unfold sd
  rw [if_pos (show (0 : Int) ≤ (i : Int) by omega)]
  show (match rs[((i : Int)).toNat]? with
    | none => none
    | some r => if (-1 : Int) = 1 then some (r.u, r.v) else if (-1 : Int) = -1 then some (r.v, r.u) else none) = _
  rw [Int.toNat_natCast, h]
  rfl
theorem sd_row {rs : List Row} {s : Int × Int} {a b : List Nat} (h : sd rs s = some (a, b)) : ∃ (i : Nat) (r : Row), s.1 = i ∧ rs[i]? = some r ∧ ((s.2 = 1 ∧ a = r.u ∧ b = r.v) ∨ (s.2 = -1 ∧ a = r.v ∧ b = r.u)) := by
  unfold sd at h
  split at h
  · rename_i h0
    cases e : rs[s.1.toNat]? with
    | none => rw [e] at h; cases h
    | some r =>
      rw [e] at h
      replace h : (if s.2 = 1 then some (r.u, r.v) else if s.2 = -1 then some (r.v, r.u) else none) = some (a, b) := h
      refine ⟨s.1.toNat, r, by omega, e, ?_⟩
      by_cases h1 : s.2 = 1
      · rw [if_pos h1] at h
        cases h
        exact .inl ⟨h1, rfl, rfl⟩
      · rw [if_neg h1] at h
        by_cases h2 : s.2 = -1
        · rw [if_pos h2] at h
          cases h
          exact .inr ⟨h2, rfl, rfl⟩
        · rw [if_neg h2] at h
          cases h
  · cases h
/-- lists of tuples (number, direction); all of them new behind H0 -/
inductive StF (H0 H : Hp) : List V → List (Int × Int) → Prop
  | nil : StF H0 H [] []
  | cons {x : Addr} {s : Int × Int} {xs : List V} {ss : List (Int × Int)} (f : H0 x = none) (h : H x = some (.tup [.int s.1, .int s.2])) (r : StF H0 H xs ss) : StF H0 H (.ref x :: xs) (s :: ss)
abbrev StI (H : Hp) : List V → List (Int × Int) → Prop := StF (fun _ => none) H
theorem StF.map {H0 H K0 K : Hp} (e0 : ∀ a o, H0 a = none → H a = some o → K0 a = none ∧ K a = some o) : ∀ {xs : List V} {ss : List (Int × Int)}, StF H0 H xs ss → StF K0 K xs ss
  | _, _, .nil => .nil
  | _, _, .cons f h r => .cons (e0 _ _ f h).1 (e0 _ _ f h).2 (r.map e0)
theorem StF.mono {H0 H H' : Hp} (e : Same H H') {xs : List V} {ss : List (Int × Int)} (h : StF H0 H xs ss) : StF H0 H' xs ss := h.map fun _ _ f k => ⟨f, e _ _ k⟩
theorem StF.any {H0 H : Hp} {xs : List V} {ss : List (Int × Int)} (h : StF H0 H xs ss) : StI H xs ss := h.map fun _ _ _ k => ⟨rfl, k⟩
theorem StF.back {H0 K0 H : Hp} (e : Same K0 H0) {xs : List V} {ss : List (Int × Int)} (h : StF H0 H xs ss) : StF K0 H xs ss := h.map fun _ _ f k => ⟨e.free f, k⟩
theorem StF.upd {H0 H : Hp} {L : Addr} {ys : List V} {o : HO} (hL : H L = some (.lst ys)) {xs : List V} {ss : List (Int × Int)} : StF H0 H xs ss → StF H0 (upd H L o) xs ss := by
  intro h
  induction h with
  | nil => exact .nil
  | cons f h r ih => exact .cons f (by rw [upd_ne (fun e => by rw [e, hL] at h; cases h)]; exact h) ih
theorem StF.len {H0 H : Hp} : ∀ {xs : List V} {ss : List (Int × Int)}, StF H0 H xs ss → xs.length = ss.length
  | _, _, .nil => rfl
  | _, _, .cons _ _ r => by rw [List.length_cons, List.length_cons, r.len]
theorem StF.at_ {H0 H : Hp} : ∀ {xs : List V} {ss : List (Int × Int)} {i : Nat} {v : V}, StF H0 H xs ss → xs[i]? = some v → ∃ (x : Addr) (s : Int × Int), v = .ref x ∧ ss[i]? = some s ∧ H0 x = none ∧ H x = some (.tup [.int s.1, .int s.2])
  | _, _, 0, _, .cons f h _, hv => by cases hv; exact ⟨_, _, rfl, rfl, f, h⟩
  | _, _, i + 1, _, .cons _ _ r, hv => r.at_ (i := i) (by simpa using hv)
theorem StF.atI_ {H0 H : Hp} {xs : List V} {ss : List (Int × Int)} {i : Nat} {s : Int × Int} (h : StF H0 H xs ss) (hs : ss[i]? = some s) : ∃ x : Addr, xs[i]? = some (.ref x) ∧ H0 x = none ∧ H x = some (.tup [.int s.1, .int s.2]) := by
  have hi := (List.getElem?_eq_some_iff.mp hs).1
  have hi2 : i < xs.length := by rw [h.len]; exact hi
  obtain ⟨x, t, e1, e2, e3, e4⟩ := h.at_ (List.getElem?_eq_getElem hi2)
  rw [hs] at e2
  cases e2
  exact ⟨x, by rw [List.getElem?_eq_getElem hi2, e1], e3, e4⟩
theorem StF.app {H0 H : Hp} {ys : List V} {ts : List (Int × Int)} (k : StF H0 H ys ts) : ∀ {xs : List V} {ss : List (Int × Int)}, StF H0 H xs ss → StF H0 H (xs ++ ys) (ss ++ ts)
  | _, _, .nil => k
  | _, _, .cons f h r => .cons f h (StF.app k r)
theorem StF.one {H0 H : Hp} {x : Addr} {a b : Int} (f : H0 x = none) (h : H x = some (.tup [.int a, .int b])) : StF H0 H [.ref x] [(a, b)] := .cons (s := (a, b)) f h .nil
theorem StF.take {H0 H : Hp} : ∀ {xs : List V} {ss : List (Int × Int)} (n : Nat), StF H0 H xs ss → StF H0 H (xs.take n) (ss.take n)
  | _, _, 0, _ => .nil
  | _, _, _ + 1, .nil => .nil
  | _, _, n + 1, .cons f h r => .cons f h (r.take n)
theorem StF.drop {H0 H : Hp} : ∀ {xs : List V} {ss : List (Int × Int)} (n : Nat), StF H0 H xs ss → StF H0 H (xs.drop n) (ss.drop n)
  | _, _, 0, h => h
  | _, _, _ + 1, .nil => .nil
  | _, _, n + 1, .cons _ _ r => r.drop n
theorem StF.set {H0 H : Hp} {x : Addr} {s : Int × Int} (f : H0 x = none) (h : H x = some (.tup [.int s.1, .int s.2])) : ∀ {xs : List V} {ss : List (Int × Int)} (n : Nat), StF H0 H xs ss → StF H0 H (xs.set n (.ref x)) (ss.set n s)
  | _, _, _, .nil => .nil
  | _, _, 0, .cons _ _ r => .cons f h r
  | _, _, n + 1, .cons f1 h1 r => .cons f1 h1 (r.set f h n)
/-- all that is new becomes known -/
theorem Sees.gain {P : Pl} {G H H' : Hp} (s : Sees P G H) (h : Same H H') : ∃ G', Sees P G' H' ∧ Same G G' ∧ (∀ a o, H a = none → H' a = some o → G' a = some o) ∧ ∀ a, G a = none → H a ≠ none → G' a = none := by
  refine ⟨fun a => match H a with
    | none => H' a
    | some _ => G a, ?_, ?_, ?_, ?_⟩
  · refine s.grow (G' := _) ?_ ?_ h ?_
    · intro a o e
      show (match H a with
        | none => H' a
        | some _ => G a) = some o
      rw [s.sub _ _ e]
      exact e
    · intro a o e
      replace e : (match H a with
        | none => H' a
        | some _ => G a) = some o := e
      cases q : H a with
      | none => rw [q] at e; exact e
      | some u =>
        rw [q] at e
        have z := s.sub _ _ e
        rw [q] at z
        cases z
        exact h _ _ q
    · intro q o e f
      show (match H q with
        | none => H' q
        | some _ => G q) = none
      rw [e]
      exact f
  · intro a o e
    show (match H a with
      | none => H' a
      | some _ => G a) = some o
    rw [s.sub _ _ e]
    exact e
  · intro a o e k
    show (match H a with
      | none => H' a
      | some _ => G a) = some o
    rw [e]
    exact k
  · intro a f e
    show (match H a with
      | none => H' a
      | some _ => G a) = none
    cases q : H a with
    | none => exact absurd q e
    | some u => exact f
/-! #### what a list of spans joins -/
inductive Conn (rs : List Row) (ts : List Nat) (a : List Nat) : List Nat → Prop
  | refl : Conn rs ts a a
  | fwd {i : Nat} {r : Row} (h : i ∈ ts) (e : rs[i]? = some r) (k : Conn rs ts a r.u) : Conn rs ts a r.v
  | bwd {i : Nat} {r : Row} (h : i ∈ ts) (e : rs[i]? = some r) (k : Conn rs ts a r.v) : Conn rs ts a r.u
theorem Conn.trans {rs : List Row} {ts : List Nat} {a b c : List Nat} (h : Conn rs ts a b) (k : Conn rs ts b c) : Conn rs ts a c := by
  induction k with
  | refl => exact h
  | fwd h1 e _ ih => exact .fwd h1 e ih
  | bwd h1 e _ ih => exact .bwd h1 e ih
theorem Conn.symm {rs : List Row} {ts : List Nat} {a b : List Nat} (h : Conn rs ts a b) : Conn rs ts b a := by
  induction h with
  | refl => exact .refl
  | fwd h1 e _ ih => exact (Conn.bwd h1 e .refl).trans ih
  | bwd h1 e _ ih => exact (Conn.fwd h1 e .refl).trans ih
theorem Conn.mono {rs : List Row} {ts us : List Nat} {a b : List Nat} (s : ∀ i ∈ ts, i ∈ us) (h : Conn rs ts a b) : Conn rs us a b := by
  induction h with
  | refl => exact .refl
  | fwd h1 e _ ih => exact .fwd (s _ h1) e ih
  | bwd h1 e _ ih => exact .bwd (s _ h1) e ih
theorem Conn.closed {rs : List Row} {ts : List Nat} {a b : List Nat} {M : List Nat → Prop} (h : Conn rs ts a b) (ha : M a) (cl : ∀ i r, i ∈ ts → rs[i]? = some r → (M r.u ↔ M r.v)) : M b := by
  induction h with
  | refl => exact ha
  | fwd h1 e _ ih => exact (cl _ _ h1 e).mp ih
  | bwd h1 e _ ih => exact (cl _ _ h1 e).mpr ih
/-- how many of ts hold -/
def cnt (p : Nat → Bool) (ts : List Nat) : Nat := (ts.filter p).length
theorem cnt_le {p : Nat → Bool} {ts : List Nat} : cnt p ts ≤ ts.length := List.length_filter_le ..
theorem cnt_mono {p q : Nat → Bool} : ∀ {ts : List Nat}, (∀ i ∈ ts, p i = true → q i = true) → cnt p ts ≤ cnt q ts
  | [], _ => Nat.le_refl _
  | t :: ts, h => by
    have ih := cnt_mono (ts := ts) fun i hi => h i (List.mem_cons_of_mem _ hi)
    have h0 := h t List.mem_cons_self
    unfold cnt at ih ⊢
    cases hp : p t
    · rw [List.filter_cons_of_neg (by rw [hp]; decide)]
      cases hq : q t
      · rw [List.filter_cons_of_neg (by rw [hq]; decide)]; exact ih
      · rw [List.filter_cons_of_pos hq, List.length_cons]; omega
    · rw [List.filter_cons_of_pos hp, List.filter_cons_of_pos (h0 hp), List.length_cons, List.length_cons]; omega
theorem cnt_lt {p q : Nat → Bool} : ∀ {ts : List Nat} {j : Nat}, (∀ i ∈ ts, p i = true → q i = true) → j ∈ ts → p j = false → q j = true → cnt p ts + 1 ≤ cnt q ts
  | t :: ts, j, h, hj, hp, hq => by
    have hm : ∀ i ∈ ts, p i = true → q i = true := fun i hi => h i (List.mem_cons_of_mem _ hi)
    have h0 := h t List.mem_cons_self
    rcases List.mem_cons.mp hj with rfl | hj
    · have ih := cnt_mono hm
      unfold cnt at ih ⊢
      rw [List.filter_cons_of_neg (by rw [hp]; decide), List.filter_cons_of_pos hq, List.length_cons]
      omega
    · have ih := cnt_lt hm hj hp hq
      unfold cnt at ih ⊢
      cases hp : p t
      · rw [List.filter_cons_of_neg (by rw [hp]; decide)]
        cases hq : q t
        · rw [List.filter_cons_of_neg (by rw [hq]; decide)]; exact ih
        · rw [List.filter_cons_of_pos hq, List.length_cons]; omega
      · rw [List.filter_cons_of_pos hp, List.filter_cons_of_pos (h0 hp), List.length_cons, List.length_cons]; omega
theorem cnt_all {p : Nat → Bool} : ∀ {ts : List Nat}, ts.length ≤ cnt p ts → ∀ i ∈ ts, p i = true
  | t :: ts, h, i, hi => by
    have z := @cnt_le p ts
    unfold cnt at h z
    cases hp : p t
    · rw [List.filter_cons_of_neg (by rw [hp]; decide), List.length_cons] at h
      omega
    · rw [List.filter_cons_of_pos hp, List.length_cons, List.length_cons] at h
      rcases List.mem_cons.mp hi with rfl | hi
      · exact hp
      · exact cnt_all (ts := ts) (by unfold cnt; omega) i hi
/-- both ends of span i stand in ks -/
def bothB (rs : List Row) (ks : List (List Nat)) (i : Nat) : Bool := match rs[i]? with
  | none => true
  | some r => decide (r.u ∈ ks) && decide (r.v ∈ ks)
theorem bothB_mono {rs : List Row} {ks ls : List (List Nat)} (h : ∀ x ∈ ks, x ∈ ls) {i : Nat} (k : bothB rs ks i = true) : bothB rs ls i = true := by
  unfold bothB at k ⊢
  cases e : rs[i]? with
  | none => rfl
  | some r =>
    rw [e] at k
    have k : (decide (r.u ∈ ks) && decide (r.v ∈ ks)) = true := k
    rw [Bool.and_eq_true, decide_eq_true_eq, decide_eq_true_eq] at k
    show (decide (r.u ∈ ls) && decide (r.v ∈ ls)) = true
    rw [Bool.and_eq_true, decide_eq_true_eq, decide_eq_true_eq]
    exact ⟨h _ k.1, h _ k.2⟩
theorem bothB_some {rs : List Row} {ks : List (List Nat)} {i : Nat} {r : Row} (e : rs[i]? = some r) : bothB rs ks i = (decide (r.u ∈ ks) && decide (r.v ∈ ks)) := by
  unfold bothB
  rw [e]
/-- one end in ks is both -/
def ClsE (rs : List Row) (ks : List (List Nat)) (i : Nat) : Prop := ∀ r, rs[i]? = some r → (r.u ∈ ks ↔ r.v ∈ ks)
theorem clsE_both {rs : List Row} {ks : List (List Nat)} {i : Nat} (h : bothB rs ks i = true) : ClsE rs ks i := fun r e => by
  rw [bothB_some e, Bool.and_eq_true, decide_eq_true_eq, decide_eq_true_eq] at h
  exact ⟨fun _ => h.2, fun _ => h.1⟩
section
variable {σ : L2.St} {H : Hp} {Q : VK} {K : PySem.W.Frag} {g : TG} {tt : TT} {te : TE} {vs : List Nat}
/-- a comprehension over a range, with a test, that makes new things: I speaks of what is known (G), the list itself aside -/
theorem lcInvR {n : Nat} (hn : n ≤ 100000) (I : Nat → List V → Hp → Prop) (h0 : I 0 [] H)
    (hs : ∀ i acc G H2 (R : VK) (R0 : Hp → Prop), i < n → Same H G → Same G H2 → acc.length ≤ i → I i acc G → (∀ y G' H6, Same G G' → Same G' H6 → Same H2 H6 → (∀ q o, H2 q = some o → G q = none → G' q = none) → I (i + 1) (acc ++ [y]) G' → R y H6) → (∀ H5, Same H2 H5 → I (i + 1) acc G → R0 H5) →
      g (.int (i : Nat)) (wipe σ vs) H2 fun σ2 H4 => wipe σ2 vs = wipe σ vs ∧ tt σ2 H4 fun b H5 => if b = true then te σ2 H5 R else R0 H5)
    (hq : ∀ D acc G H2, H D = none → Same H G → Same G H2 → H2 D = some (.lst acc) → acc.length ≤ n → I n acc G → G D = none → Q (.ref D) H2) : ∃ j : Int, [V.int n] = [V.int j] ∧ -(2 ^ 62) ≤ j ∧ j < 2 ^ 62 ∧ LcW (Itr 0 j.toNat) g tt te vs σ H Q := by
  refine ⟨n, rfl, by omega, by omega, ?_⟩
  rw [Int.toNat_natCast]
  intro D hD
  refine lc_it (walk_range (n := n)) (fun i H2 => ∃ acc G, Same H G ∧ Same G H2 ∧ G D = none ∧ H2 D = some (.lst acc) ∧ acc.length ≤ i ∧ I i acc G) ⟨[], H, Same.refl _, Same.new hD, hD, upd_same, Nat.le_refl _, h0⟩ (fun i H2 _ p => trivial) (fun i x H2 H3 hi p y => ?_) (fun H2 p => ?_)
  · obtain ⟨e, e2⟩ := y
    subst e
    have e3 : x = .int (i : Nat) := by rw [e2]; exact congrArg V.int (Int.zero_add _)
    subst e3
    obtain ⟨acc, G, s1, s2, gD, hD2, hl, hI⟩ := p
    exact hs i acc G _ (fun y H4 => ∃ acc', H4 D = some (.lst acc') ∧ acc'.length < sizeLine ∧ ∃ acc2 G2, Same H G2 ∧ Same G2 (upd H4 D (.lst (acc' ++ [y]))) ∧ G2 D = none ∧ upd H4 D (.lst (acc' ++ [y])) D = some (.lst acc2) ∧ acc2.length ≤ i + 1 ∧ I (i + 1) acc2 G2)
      (fun H5 => ∃ acc2 G2, Same H G2 ∧ Same G2 H5 ∧ G2 D = none ∧ H5 D = some (.lst acc2) ∧ acc2.length ≤ i + 1 ∧ I (i + 1) acc2 G2) hi s1 s2 hl hI
      (fun y G' H6 t1 t2 t3 t4 hI2 => ⟨acc, t3 _ _ hD2, szlt (by omega), acc ++ [y], G', s1.trans t1, Same.mut t2 (t4 _ _ hD2 gD), t4 _ _ hD2 gD, upd_same, by rw [List.length_append]; simp; omega, hI2⟩)
      (fun H5 t hI2 => ⟨acc, G, s1, s2.trans t, gD, t _ _ hD2, by omega, hI2⟩)
  · obtain ⟨acc, G, s1, s2, gD, hD2, hl, hI⟩ := p
    exact hq D acc G H2 hD s1 s2 hD2 hl hI gD
end
theorem ifI {α : Type} {a b : Prop} [Decidable a] [Decidable b] {x y : α} (h : a ↔ b) : (if a then x else y) = if b then x else y := by
  by_cases c : a
  · rw [if_pos c, if_pos (h.mp c)]
  · rw [if_neg c, if_neg fun z => c (h.mpr z)]
theorem Same.upd2 {G H : Hp} {a : Addr} {o : HO} (s : Same G H) : Same (upd G a o) (upd H a o) := fun c u e => by
  by_cases h : c = a
  · subst h; rw [upd_same] at e ⊢; exact e
  · rw [upd_ne h] at e ⊢; exact s _ _ e
theorem row_at {H : Hp} {ss : List V} {rs : List Row} (h : Rws H ss rs) {i : Nat} {r : Row} (e : rs[i]? = some r) : ∃ p, ss[i]? = some (.ref p) ∧ H p = some (.tup [sv r.u, sv r.v, .int r.lo, .int r.hi, .int r.w]) := by
  have hi := (List.getElem?_eq_some_iff.mp e).1
  have hi2 : i < ss.length := by rw [h.len]; exact hi
  obtain ⟨r', e1, p, e2, e3⟩ := h.at (List.getElem?_eq_getElem hi2)
  rw [e] at e1
  cases e1
  exact ⟨p, by rw [List.getElem?_eq_getElem hi2, e2], e3⟩
/-- step i does not exist, or does not begin where the step before it ends -/
def bad (rs : List Row) (ws : List (Int × Int)) (i : Nat) : Bool := match ws[i]? with
  | none => false
  | some s => match sd rs s with
    | none => true
    | some p => match (if i = 0 then none else ws[i - 1]?) with
      | none => false
      | some t => match sd rs t with
        | none => false
        | some q => !decide (q.2 = p.1)
theorem bad_none {rs : List Row} {ws : List (Int × Int)} {i : Nat} {s : Int × Int} (h : ws[i]? = some s) (e : sd rs s = none) : bad rs ws i = true := by
  unfold bad
  rw [h]
  show (match sd rs s with
    | none => true
    | some p => _) = true
  rw [e]
theorem bad_zero {rs : List Row} {ws : List (Int × Int)} {s : Int × Int} {p : List Nat × List Nat} (h : ws[0]? = some s) (e : sd rs s = some p) : bad rs ws 0 = false := by
  unfold bad
  rw [h]
  show (match sd rs s with
    | none => true
    | some p => _) = false
  rw [e]
  rfl
theorem bad_some {rs : List Row} {ws : List (Int × Int)} {i : Nat} {s t : Int × Int} {p q : List Nat × List Nat} (h : ws[i]? = some s) (e : sd rs s = some p) (h0 : i ≠ 0) (h2 : ws[i - 1]? = some t) (e2 : sd rs t = some q) : bad rs ws i = !decide (q.2 = p.1) := by
  unfold bad
  rw [h]
  show (match sd rs s with
    | none => true
    | some p => (match (if i = 0 then none else ws[i - 1]?) with
      | none => false
      | some t => match sd rs t with
        | none => false
        | some q => !decide (q.2 = p.1))) = _
  rw [e]
  show (match (if i = 0 then none else ws[i - 1]?) with
    | none => false
    | some t => match sd rs t with
      | none => false
      | some q => !decide (q.2 = p.1)) = _
  rw [if_neg h0, h2]
  show (match sd rs t with
    | none => false
    | some q => !decide (q.2 = p.1)) = _
  rw [e2]
theorem bad_sd {rs : List Row} {ws : List (Int × Int)} {i : Nat} {s : Int × Int} (h : ws[i]? = some s) (e : bad rs ws i = false) : ∃ p, sd rs s = some p := by
  cases q : sd rs s with
  | none => rw [bad_none h q] at e; cases e
  | some p => exact ⟨p, rfl⟩
theorem first_bad {p : Nat → Bool} : ∀ {n : Nat}, (∀ i < n, p i = false) ∨ ∃ i, i < n ∧ p i = true ∧ ∀ j < i, p j = false
  | 0 => .inl fun i h => absurd h (Nat.not_lt_zero _)
  | n + 1 => by
    rcases first_bad (p := p) (n := n) with h | ⟨i, h1, h2, h3⟩
    · cases e : p n
      · exact .inl fun i hi => by
          by_cases c : i = n
          · rw [c]; exact e
          · exact h i (by omega)
      · exact .inr ⟨n, by omega, e, h⟩
    · exact .inr ⟨i, by omega, h2, h3⟩
def sdV : Option (List Nat × List Nat) → List V
  | none => []
  | some p => [sv p.1, sv p.2]
section
variable {K : PySem.W.Frag} {H : Hp} {Q : VK} {σ : L2.St}
theorem wp_tryW {i : Nat} {tb : WX → TS} {l : List (Value × Sui)} {D : Ends} (h : tb (wAsM K i (fun _ _ _ _ => False) D l) D σ H) : tTry K i tb l D σ H := h
theorem wp_callSW {sp : Sp} {EE : L2.St → XK} {t : TA} (h : t σ H fun vs H1 => sp vs H1 Q (EE σ)) : tCallS sp EE t σ H Q := h
theorem wp_revW {te : TE} (h : te σ H fun x H1 => ∃ a xs, x = .ref a ∧ SqL K H1 a xs ∧ ∀ p, H1 p = none → Q (.ref p) (upd H1 p (.lst xs.reverse))) : tRevL K te σ H Q := h
theorem wp_asg2 {te : TE} {g1 g2 : TG} {D : Ends} (h : te σ H fun x H1 => g1 x σ H1 fun σ1 H2 => g2 x σ1 H2 D.nx) : tAsg2 te g1 g2 D σ H := h
theorem tru_lst {p : Addr} {xs : List V} {R : Bool → Prop} (hp : H p = some (.lst xs)) (h : R (!xs.isEmpty)) : ∃ k, TruV K (.ref p) H k ∧ R k := ⟨_, .inl ⟨xs, sq_of hp, rfl⟩, h⟩
theorem sl_to2 {p : Addr} {a b c d e : V} (hp : H p = some (.tup [a, b, c, d, e])) (h1 : ∀ q, H q = none → Q (.ref q) (upd H q (.tup [a, b]))) : rSlA K (.ref p) none (some 2) H Q :=
  ⟨p, _, rfl, st_of hp, fun h => absurd (show (2 : Nat) = 5 from h.2) (by decide), fun _ q hq => h1 q hq⟩
theorem eq_sd {a b : Addr} {o : Option (List Nat × List Nat)} (h1 : H a = some (.lst (sdV o))) (h2 : H b = some (.lst [])) (asc : ∀ p, o = some p → Asc p.1 ∧ Asc p.2) (q : Q (.bl o.isNone) H) : rEqD K (.ref a) (.ref b) H Q := by
  cases o with
  | none => exact wp_eqNL (ds := []) h1 h2 .nil rfl q
  | some p =>
    obtain ⟨k1, k2⟩ := asc p rfl
    exact wp_eqNL (ds := nD [p.1, p.2]) h1 h2 (dp_names [p.1, p.2]) (sh_names fun l hl => by
      rcases List.mem_cons.mp hl with rfl | hl
      · exact k1
      · rw [List.mem_singleton.mp hl]; exact k2) q
end
theorem sd_asc {rs : List Row} (asc : ∀ r ∈ rs, AscR r) {s : Int × Int} {p : List Nat × List Nat} (h : sd rs s = some p) : Asc p.1 ∧ Asc p.2 := by
  obtain ⟨a, b⟩ := p
  obtain ⟨i, r, _, er, hd⟩ := sd_row h
  have k := asc r (List.mem_of_getElem? er)
  rcases hd with ⟨_, rfl, rfl⟩ | ⟨_, rfl, rfl⟩
  · exact ⟨k.u, k.v⟩
  · exact ⟨k.v, k.u⟩
theorem sd_out {rs : List Row} {s : Int × Int} (h : s.1 < 0 ∨ (rs.length : Int) ≤ s.1) : sd rs s = none := by
  unfold sd
  split
  · rw [List.getElem?_eq_none (by omega)]
  · rfl
theorem sd_dir {rs : List Row} {s : Int × Int} (h1 : s.2 ≠ 1) (h2 : s.2 ≠ -1) : sd rs s = none := by
  cases e : sd rs s with
  | none => rfl
  | some p =>
    obtain ⟨_, _, _, _, hd⟩ := sd_row (a := p.1) (b := p.2) e
    rcases hd with ⟨z, _⟩ | ⟨z, _⟩
    · exact absurd z h1
    · exact absurd z h2
theorem wp_ixV {K : PySem.W.Frag} {H : Hp} {Q : VK} {a : Addr} {k : Int} {xs : List V} {x : V} (hx : SqL K H a xs) (h0 : 0 ≤ k) (e : xs[k.toNat]? = some x) (q : Q x H) : rIxL K (.ref a) (.int k) H Q := by
  obtain ⟨j, rfl⟩ : ∃ j : Nat, k = j := ⟨k.toNat, by omega⟩
  exact wp_ixL hx (at_nth e) q
theorem at_lastW {α : Type} {xs : List α} (h : 0 < xs.length) : atI xs (-1) = xs[xs.length - 1]? := by
  unfold atI ixN
  rw [if_neg (by omega), if_pos (by omega), show (-1 + (xs.length : Int)).toNat = xs.length - 1 by omega]
  rfl
end RM
namespace RM
open PySem PySem.Spec PyProof.Rows L2
/-! ### what is due for a timetable of a net -/
/-- the row is kept by the minutes m -/
def isK (T : Int) (m : List Nat → Int) (r : Row) : Bool := decide (r.lo + (m r.v - m r.u - r.lo) % T ≤ r.hi)
theorem mul_le_neg {T q : Int} (hT : 0 < T) (h : q < 0) : T * q ≤ -T := by
  have z := Int.mul_le_mul_of_nonneg_left (show q ≤ -1 by omega) (show 0 ≤ T by omega)
  rw [Int.mul_neg, Int.mul_one] at z
  exact z
def eW (l : List Nat) : Er := eS "WrongNames" l
def eB (n : Int) : Er := ⟨"BrokenSpan", [("number", .int n)]⟩
def cIn (ms : List (List Nat)) (l : List Nat) : Option Er := if l ∈ ms then none else some (eW l)
def brk (T : Int) (m : List Nat → Int) : Nat → List Row → Option Er
  | _, [] => none
  | i, r :: rs => if isK T m r = true then brk T m (i + 1) rs else some (eB i)
/-- what is due for a timetable of round length T', names ms, minutes m -/
def cKept (T : Int) (ns : List (List Nat)) (rs : List Row) (T' : Int) (ms : List (List Nat)) (m : List Nat → Int) : Option Er :=
  if T' ≠ T then some (eN T') else (cFold (cIn ms) ns).or ((cFold (cIn ns) ms).or (brk T m 0 rs))
theorem cIn_none {ns ms : List (List Nat)} (h : cFold (cIn ms) ns = none) : ∀ l ∈ ns, l ∈ ms := fun l hl => by
  have z := cFold_all h l hl
  unfold cIn at z
  split at z
  · assumption
  · cases z
theorem brk_none {T : Int} {m : List Nat → Int} : ∀ {rs : List Row} {i : Nat}, (∀ r ∈ rs, isK T m r = true) → brk T m i rs = none
  | [], _, _ => rfl
  | r :: rs, i, h => by
    show (if isK T m r = true then brk T m (i + 1) rs else some (eB i)) = none
    rw [if_pos (h r List.mem_cons_self)]
    exact brk_none fun x hx => h x (List.mem_cons_of_mem _ hx)
theorem brk_at {T : Int} {m : List Nat → Int} : ∀ {rs : List Row} {j i : Nat} {r : Row}, rs[j]? = some r → (∀ x ∈ rs.take j, isK T m x = true) → isK T m r = false → brk T m i rs = some (eB ((i + j : Nat) : Int))
  | x :: rs, 0, i, r, h, _, e => by
    cases h
    show (if isK T m x = true then brk T m (i + 1) rs else some (eB i)) = _
    rw [if_neg (by rw [e]; decide)]
    rfl
  | x :: rs, j + 1, i, r, h, n, e => by
    show (if isK T m x = true then brk T m (i + 1) rs else some (eB i)) = _
    rw [if_pos (n x (by simp)), brk_at (j := j) (i := i + 1) h (fun y hy => n y (by rw [List.take_succ_cons]; exact List.mem_cons_of_mem _ hy)) e]
    rw [show i + 1 + j = i + (j + 1) by omega]
def eK (i : Nat) : Er := ⟨"BadWalk", [("at", .int (i : Nat))]⟩
/-- o: the first bad step -/
def FB (rs : List Row) (ws : List (Int × Int)) : Option Nat → Prop
  | none => ∀ i < ws.length, bad rs ws i = false
  | some i => i < ws.length ∧ bad rs ws i = true ∧ ∀ j < i, bad rs ws j = false
theorem fb_ex (rs : List Row) (ws : List (Int × Int)) : ∃ o, FB rs ws o := by
  rcases first_bad (p := bad rs ws) (n := ws.length) with h | ⟨i, h⟩
  · exact ⟨none, h⟩
  · exact ⟨some i, h⟩
theorem FB.at {rs : List Row} {ws : List (Int × Int)} {o : Option Nat} (h : FB rs ws o) {i : Nat} (h1 : i < ws.length) (h2 : bad rs ws i = true) (h3 : ∀ j < i, bad rs ws j = false) : o = some i := by
  cases o with
  | none => rw [h i h1] at h2; cases h2
  | some k =>
    obtain ⟨k1, k2, k3⟩ := h
    rcases Nat.lt_trichotomy i k with c | c | c
    · rw [k3 i c] at h2; cases h2
    · rw [c]
    · rw [h3 k c] at k2; cases k2
theorem FB.good {rs : List Row} {ws : List (Int × Int)} {o : Option Nat} (h : FB rs ws o) (g : ∀ i < ws.length, bad rs ws i = false) : o = none := by
  cases o with
  | none => rfl
  | some k =>
    obtain ⟨h1, h2, _⟩ := h
    rw [g k h1] at h2
    cases h2
/-- the turn of a timetable on a walk: what is due -/
def cTurn (T : Int) (ns : List (List Nat)) (rs : List Row) (T' : Int) (ms : List (List Nat)) (m : List Nat → Int) (o : Option Nat) : Option Er := (cKept T ns rs T' ms m).or (o.map eK)
/-- minutes that pass -/
def gv (T : Int) (m : List Nat → Int) (r : Row) : Int := r.lo + (m r.v - m r.u - r.lo) % T
def gvs (T : Int) (m : List Nat → Int) (rs : List Row) : List Int := rs.map (gv T m)
def stv (fs bs : List Int) (s : Int × Int) : Int := if s.2 = 1 then fs.getD s.1.toNat 0 else bs.getD s.1.toNat 0
def sov (fs bs : List Int) (ws : List (Int × Int)) : Int := (ws.map (stv fs bs)).sum
/-- all steps are there -/
def Stp (n : Nat) (ws : List (Int × Int)) : Prop := ∀ s ∈ ws, 0 ≤ s.1 ∧ s.1 < n ∧ (s.2 = 1 ∨ s.2 = -1)
theorem stp_good {rs : List Row} {ws : List (Int × Int)} (h : ∀ i < ws.length, bad rs ws i = false) : Stp rs.length ws := fun s hs => by
  obtain ⟨i, hi⟩ := List.getElem?_of_mem hs
  obtain ⟨⟨a, b⟩, e⟩ := bad_sd hi (h i (List.getElem?_eq_some_iff.mp hi).1)
  obtain ⟨j, r, e1, er, hd⟩ := sd_row e
  have := (List.getElem?_eq_some_iff.mp er).1
  refine ⟨by omega, by omega, ?_⟩
  rcases hd with ⟨z, _⟩ | ⟨z, _⟩
  · exact .inl z
  · exact .inr z
theorem bad_tail {rs : List Row} {s : Int × Int} {l : List (Int × Int)} {k : Nat} : bad rs (s :: l) (k + 2) = bad rs l (k + 1) := by
  unfold bad
  simp
/-- where a good walk begins and ends -/
def EndsOf (rs : List Row) (ws : List (Int × Int)) (a b : List Nat) : Prop := ∃ s t c d, ws[0]? = some s ∧ sd rs s = some (a, c) ∧ ws[ws.length - 1]? = some t ∧ sd rs t = some (d, b)
/-- a walk without a bad step leads from its begin to its end -/
theorem wk_good {rs : List Row} : ∀ {ws : List (Int × Int)} {a b : List Nat}, (∀ i < ws.length, bad rs ws i = false) → EndsOf rs ws a b → Wk rs ws a b
  | [], a, b, _, ⟨s, t, c, d, h1, _⟩ => by cases h1
  | [s], a, b, _, ⟨s', t', c, d, h1, h2, h3, h4⟩ => by
    cases h1
    cases h3
    rw [h2] at h4
    cases h4
    exact Wk.one h2
  | s :: t :: w, a, b, hg, ⟨s', t', c, d, h1, h2, h3, h4⟩ => by
    cases h1
    have g1 : ∀ i < (t :: w).length, bad rs (t :: w) i = false := fun i hi => by
      cases i with
      | zero =>
        obtain ⟨p, e⟩ : ∃ p, sd rs t = some p := bad_sd (i := 1) (ws := s :: t :: w) rfl (hg 1 (by simp))
        exact bad_zero rfl e
      | succ k =>
        rw [← bad_tail (s := s)]
        exact hg (k + 2) (by simp at hi ⊢; omega)
    obtain ⟨⟨x, y⟩, e⟩ : ∃ p, sd rs t = some p := bad_sd (i := 1) (ws := s :: t :: w) rfl (hg 1 (by simp))
    have z := bad_some (i := 1) (ws := s :: t :: w) rfl e (by decide) rfl h2
    rw [hg 1 (by simp)] at z
    have ecx : c = x := by simpa using z
    subst ecx
    refine ⟨c, h2, wk_good g1 ⟨t, t', y, d, rfl, e, ?_, h4⟩⟩
    rw [← h3]
    simp
theorem gv_mod {T : Int} {m : List Nat → Int} {r : Row} : gv T m r % T = (m r.v - m r.u) % T := by
  unfold gv
  rw [Int.add_emod, Int.emod_emod, ← Int.add_emod, show r.lo + (m r.v - m r.u - r.lo) = m r.v - m r.u by omega]
theorem mod_sub0 {T a b : Int} (h : a % T = b % T) : (a - b) % T = 0 := by rw [Int.sub_emod, h, Int.sub_self, Int.zero_emod]
theorem of_mod_sub0 {T a b : Int} (h : (a - b) % T = 0) : a % T = b % T := (Int.emod_eq_emod_iff_emod_sub_eq_zero).mpr h
/-- the turn on a walk: the minutes between its ends, up to whole rounds -/
theorem sov_mod {T : Int} {m : List Nat → Int} {rs : List Row} : ∀ {ws : List (Int × Int)} {a b : List Nat}, Wk rs ws a b → (sov (gvs T m rs) ((gvs T m rs).map fun i => -i) ws - (m b - m a)) % T = 0
  | [], a, b, h => by
    cases h
    show (0 - (m a - m a)) % T = 0
    rw [Int.sub_self, Int.sub_self, Int.zero_emod]
  | s :: w, a, b, ⟨c, h1, h2⟩ => by
    have ih := sov_mod (T := T) (m := m) h2
    obtain ⟨i, r, e1, er, hd⟩ := sd_row h1
    have eg : (gvs T m rs)[i]? = some (gv T m r) := by unfold gvs; rw [List.getElem?_map, er]; rfl
    have e0 : sov (gvs T m rs) ((gvs T m rs).map fun i => -i) (s :: w) = stv (gvs T m rs) ((gvs T m rs).map fun i => -i) s + sov (gvs T m rs) ((gvs T m rs).map fun i => -i) w := rfl
    have e2 : (stv (gvs T m rs) ((gvs T m rs).map fun i => -i) s - (m c - m a)) % T = 0 := by
      unfold stv
      have ei : s.1.toNat = i := by omega
      rcases hd with ⟨z, rfl, rfl⟩ | ⟨z, rfl, rfl⟩
      · rw [if_pos z, ei, List.getD_eq_getElem?_getD, eg]
        exact mod_sub0 gv_mod
      · rw [if_neg (by omega), ei, List.getD_eq_getElem?_getD, List.getElem?_map, eg]
        have q := mod_sub0 (gv_mod (T := T) (m := m) (r := r))
        show (-(gv T m r) - (m r.u - m r.v)) % T = 0
        rw [show -(gv T m r) - (m r.u - m r.v) = -(gv T m r - (m r.v - m r.u)) by omega]
        exact Int.emod_eq_zero_of_dvd (Int.dvd_neg.mpr (Int.dvd_of_emod_eq_zero q))
    rw [e0, show stv (gvs T m rs) ((gvs T m rs).map fun i => -i) s + sov (gvs T m rs) ((gvs T m rs).map fun i => -i) w - (m b - m a) = (stv (gvs T m rs) ((gvs T m rs).map fun i => -i) s - (m c - m a)) + (sov (gvs T m rs) ((gvs T m rs).map fun i => -i) w - (m b - m c)) by omega]
    exact Int.emod_eq_zero_of_dvd (Int.dvd_add (Int.dvd_of_emod_eq_zero e2) (Int.dvd_of_emod_eq_zero ih))
theorem sov_cons {fs bs : List Int} {s : Int × Int} {w : List (Int × Int)} : sov fs bs (s :: w) = stv fs bs s + sov fs bs w := rfl
theorem sov_snoc {fs bs : List Int} {s : Int × Int} {w : List (Int × Int)} : sov fs bs (w ++ [s]) = sov fs bs w + stv fs bs s := by
  unfold sov
  rw [List.map_append, List.sum_append]
  simp
theorem wp_sumW {K : PySem.W.Frag} {H : Hp} {Q : VK} {a : Addr} {is : List Int} (hx : SqL K H a (is.map V.int)) (h : Q (.int is.sum) H) : rSum K [.ref a] H Q := ⟨a, is, rfl, hx, h⟩
theorem Sees.putO {P : Pl} {G H : Hp} {D : Addr} (o : HO) (s : Sees P G H) (hl : D ≠ P.l) (nD : D ≠ P.p) : Sees P (upd G D o) (upd H D o) := by
  obtain ⟨n, c, e⟩ := s.pool
  refine ⟨⟨n, c, by rw [upd_ne nD.symm]; exact e⟩, by rw [upd_ne hl.symm]; exact s.cell, s.few, by rw [upd_ne nD.symm]; exact s.free, fun x u h => ?_⟩
  by_cases ea : x = D
  · subst ea
    rw [upd_same] at h ⊢
    exact h
  · rw [upd_ne ea] at h ⊢
    exact s.sub _ _ h
theorem put_stepK {fm : (List Nat → Int) × List (List Nat)} {l : List Nat} {v : Int} (nd : fm.2.Nodup) : putK (mD fm.1 fm.2) (.inr (S l)) (.int v) = mD (stepD fm (l, v)).1 (stepD fm (l, v)).2 := by
  unfold stepD
  by_cases e : l ∈ fm.2
  · simp only [e, if_true]
    rw [putK_old nd e]
  · simp only [e, if_false]
    have z : mD fm.1 fm.2 = mD (fun x => if x = l then v else fm.1 x) fm.2 := mD_congr fun x hx => by rw [if_neg (fun h => e (by rw [← h]; exact hx))]
    rw [z]
    have z2 := dN_put (f := fun x => V.int (if x = l then v else fm.1 x)) (l := l) (ns := fm.2) e
    simp only [if_true] at z2
    unfold mD
    rw [z2]
/-- rows (name, minute) -/
def RwO (G : Hp) (x : V) : Prop := ∃ p l i, x = .ref p ∧ G p = some (.tup [sv l, .int i]) ∧ Nm l
theorem RwO.mono {G G' : Hp} (e : Same G G') {x : V} (h : RwO G x) : RwO G' x := by
  obtain ⟨p, l, i, h1, h2, h3⟩ := h
  exact ⟨p, l, i, h1, e _ _ h2, h3⟩
theorem RwO.updL {G : Hp} {L : Addr} {ys : List V} {o : HO} (hL : G L = some (.lst ys)) {x : V} (h : RwO G x) : RwO (upd G L o) x := by
  obtain ⟨p, l, i, h1, h2, h3⟩ := h
  exact ⟨p, l, i, h1, by rw [upd_ne (fun e => by rw [e, hL] at h2; cases h2)]; exact h2, h3⟩
theorem RwO.updD {G : Hp} {L : Addr} {ys : List (Key × V)} {o : HO} (hL : G L = some (.dK ys)) {x : V} (h : RwO G x) : RwO (upd G L o) x := by
  obtain ⟨p, l, i, h1, h2, h3⟩ := h
  exact ⟨p, l, i, h1, by rw [upd_ne (fun e => by rw [e, hL] at h2; cases h2)]; exact h2, h3⟩
theorem pas_gvs {T : Int} {m : List Nat → Int} {rs : List Row} (h : ∀ r ∈ rs, isK T m r = true) : rs.map (pas T m) = (gvs T m rs).map V.int := by
  unfold gvs
  rw [List.map_map]
  exact List.map_congr_left fun r hr => if_pos (of_decide_eq_true (h r hr))
theorem wp_neNL {K : PySem.W.Frag} {H : Hp} {Q : VK} {a b : Addr} {xs : List V} {ds : List PyData} (h1 : H a = some (.lst xs)) (h2 : H b = some (.lst [])) (hd : DpAll K H xs ds) (sh : SeqAt.shaped (.list ds) = true) (q : Q (.bl (!decide (ds = []))) H) : rNeD K (.ref a) (.ref b) H Q := by
  refine ⟨.list ds, .list [], .lst (sq_of h1) hd, .lst (sq_of h2) .nil, sh, rfl, ?_⟩
  show Q (.bl (!PyData.eqvAll ds [])) H
  cases ds with
  | nil => exact q
  | cons d r => exact q
end RM
namespace RM
open PySem PySem.Spec PyProof.Rows L2
local macro_rules | `(tactic| walk_at "vn") => `(tactic| (first
  | with_reducible refine wp_v0 ?_
  | with_reducible refine wp_v1 ?_
  | with_reducible refine wp_v2 ?_
  | with_reducible refine wp_v3 ?_
  | with_reducible refine wp_v4 ?_
  | with_reducible refine wp_v5 ?_
  | with_reducible refine wp_v6 ?_
  | with_reducible refine wp_v7 ?_
  | with_reducible refine wp_v8 ?_
  | with_reducible refine wp_v9 ?_
  | with_reducible refine wp_v10 ?_
  | with_reducible refine wp_v11 ?_
  | with_reducible refine wp_v12 ?_
  | with_reducible refine wp_v13 ?_
  | with_reducible refine wp_v14 ?_
  | with_reducible refine wp_v15 ?_
  | with_reducible refine wp_v16 ?_
  | with_reducible refine wp_v17 ?_
  | with_reducible refine wp_v18 ?_
  | with_reducible refine wp_v19 ?_
  | with_reducible refine wp_v20 ?_
  | with_reducible refine wp_v21 ?_
  | with_reducible refine wp_v22 ?_
  | with_reducible refine wp_v23 ?_
  | with_reducible refine wp_v24 ?_
  | with_reducible refine wp_v25 ?_))
local macro_rules | `(tactic| walk_at "gn") => `(tactic| (first
  | with_reducible refine wp_g0 ?_
  | with_reducible refine wp_g1 ?_
  | with_reducible refine wp_g2 ?_
  | with_reducible refine wp_g3 ?_
  | with_reducible refine wp_g4 ?_
  | with_reducible refine wp_g5 ?_
  | with_reducible refine wp_g6 ?_
  | with_reducible refine wp_g7 ?_
  | with_reducible refine wp_g8 ?_
  | with_reducible refine wp_g9 ?_
  | with_reducible refine wp_g10 ?_
  | with_reducible refine wp_g11 ?_
  | with_reducible refine wp_g12 ?_
  | with_reducible refine wp_g13 ?_
  | with_reducible refine wp_g14 ?_
  | with_reducible refine wp_g15 ?_
  | with_reducible refine wp_g16 ?_
  | with_reducible refine wp_g17 ?_
  | with_reducible refine wp_g18 ?_
  | with_reducible refine wp_g19 ?_
  | with_reducible refine wp_g20 ?_
  | with_reducible refine wp_g21 ?_
  | with_reducible refine wp_g22 ?_
  | with_reducible refine wp_g23 ?_
  | with_reducible refine wp_g24 ?_
  | with_reducible refine wp_g25 ?_))
local macro_rules | `(tactic| walk_at "h") => `(tactic| (first
  | assumption
  | exact upd_same
  | exact (Sees.sub (by assumption) _ _ (by assumption))
  | exact (Sees.sub (by assumption) _ _ upd_same)
  | exact (Sees.sub (by assumption) _ _ (Eq.trans (upd_ne (by first | assumption | exact Ne.symm (by assumption))) (by assumption)))
  | exact (Sees.cell (by assumption))
  | exact (Sees.sub (by assumption) _ _ (Sees.cell (by assumption))) | fail "h"))
local macro_rules | `(tactic| walk_at "sq") => `(tactic| (first | assumption | exact sq_of (by walk_at "h") | fail "sq"))
local macro_rules | `(tactic| walk_at "tq") => `(tactic| (first | assumption | exact st_of (by walk_at "h") | fail "tq"))
local macro_rules | `(tactic| walk_at "isi") => `(tactic| (first
  | with_reducible refine is_non_int ?_
  | with_reducible refine is_non_bool ?_
  | with_reducible refine is_non_str ?_
  | with_reducible refine is_non_dict ?_
  | with_reducible refine is_non_list ?_
  | with_reducible refine is_non_tuple ?_
  | with_reducible refine is_bl_int ?_
  | with_reducible refine is_bl_bool ?_
  | with_reducible refine is_bl_str ?_
  | with_reducible refine is_bl_dict ?_
  | with_reducible refine is_bl_list ?_
  | with_reducible refine is_bl_tuple ?_
  | with_reducible refine is_int_int ?_
  | with_reducible refine is_int_bool ?_
  | with_reducible refine is_int_str ?_
  | with_reducible refine is_int_dict ?_
  | with_reducible refine is_int_list ?_
  | with_reducible refine is_int_tuple ?_
  | with_reducible refine is_str_int ?_
  | with_reducible refine is_str_bool ?_
  | with_reducible refine is_str_str ?_
  | with_reducible refine is_str_dict ?_
  | with_reducible refine is_str_list ?_
  | with_reducible refine is_str_tuple ?_
  | ((with_reducible refine' is_lst_int ?k1 ?_); (case k1 => walk_at "h"))
  | ((with_reducible refine' is_lst_bool ?k1 ?_); (case k1 => walk_at "h"))
  | ((with_reducible refine' is_lst_str ?k1 ?_); (case k1 => walk_at "h"))
  | ((with_reducible refine' is_lst_dict ?k1 ?_); (case k1 => walk_at "h"))
  | ((with_reducible refine' is_lst_list ?k1 ?_); (case k1 => walk_at "h"))
  | ((with_reducible refine' is_lst_tuple ?k1 ?_); (case k1 => walk_at "h"))
  | ((with_reducible refine' is_tup_int ?k1 ?_); (case k1 => walk_at "h"))
  | ((with_reducible refine' is_tup_bool ?k1 ?_); (case k1 => walk_at "h"))
  | ((with_reducible refine' is_tup_str ?k1 ?_); (case k1 => walk_at "h"))
  | ((with_reducible refine' is_tup_dict ?k1 ?_); (case k1 => walk_at "h"))
  | ((with_reducible refine' is_tup_list ?k1 ?_); (case k1 => walk_at "h"))
  | ((with_reducible refine' is_tup_tuple ?k1 ?_); (case k1 => walk_at "h"))
  | ((with_reducible refine' is_dK_int ?k1 ?_); (case k1 => walk_at "h"))
  | ((with_reducible refine' is_dK_bool ?k1 ?_); (case k1 => walk_at "h"))
  | ((with_reducible refine' is_dK_str ?k1 ?_); (case k1 => walk_at "h"))
  | ((with_reducible refine' is_dK_dict ?k1 ?_); (case k1 => walk_at "h"))
  | ((with_reducible refine' is_dK_list ?k1 ?_); (case k1 => walk_at "h"))
  | ((with_reducible refine' is_dK_tuple ?k1 ?_); (case k1 => walk_at "h"))
  | fail "isi"))
local macro_rules | `(tactic| walk_at "len") => `(tactic| (first | assumption | omega | (simp only [List.length_map, List.length_append, List.length_cons, List.length_nil] <;> omega) | decide | fail "len"))
local macro_rules | `(tactic| walk_at "at") => `(tactic| (first | exact at0 | exact at1 | exact at2 | exact at3 | exact at4 | rfl | assumption | fail "at"))
local macro_rules | `(tactic| walk_at "one") => `(tactic| (first
  | with_reducible refine wp_seq ?_
  | with_reducible refine wp_asg ?_
  | ((with_reducible refine is_var ?_); walk_at "vn")
  | ((with_reducible refine is_gname ?_); walk_at "gn")
  | with_reducible refine wp_c ?_
  | with_reducible refine wp_op ?_
  | with_reducible refine wp_cb ?_
  | with_reducible refine wp_cons ?_
  | with_reducible refine wp_nil ?_
  | with_reducible refine wp_call ?_
  | with_reducible refine wp_ret ?_
  | with_reducible refine wp_dgetE ?_
  | with_reducible refine wp_forItems ?_
  | with_reducible refine wp_forOwnL ?_
  | with_reducible refine wp_forOwnK ?_
  | with_reducible refine wp_subOwn ?_
  | with_reducible refine wp_din ?_
  | with_reducible refine wp_next ?_
  | with_reducible refine wp_rI0 ?_
  | with_reducible refine wp_int1 ?_
  | with_reducible refine wp_test ?_
  | with_reducible refine wp_bl ?_
  | with_reducible refine wp_ifS ?_
  | with_reducible refine wp_drop ?_
  | with_reducible refine wp_eqI ?_
  | with_reducible refine wp_eqS ?_
  | with_reducible refine wp_eqB ?_
  | with_reducible refine wp_neI ?_
  | with_reducible refine wp_neS ?_
  | with_reducible refine wp_min2 ?_
  | with_reducible refine wp_max2 ?_
  | with_reducible refine wp_find ?_
  | with_reducible refine wp_B ?_
  | with_reducible refine wp_not ?_
  | with_reducible refine wp_and ?_
  | with_reducible refine wp_or ?_
  | with_reducible refine wp_notV ?_
  | with_reducible refine wp_andV ?_
  | with_reducible refine wp_orV ?_
  | with_reducible refine wp_ifE ?_
  | with_reducible refine wp_chain ?_
  | with_reducible refine wp_slice ?_
  | with_reducible refine wp_noPart ?_
  | with_reducible refine wp_part ?_
  | with_reducible refine wp_partI ?_
  | with_reducible refine wp_for1 ?_
  | with_reducible refine wp_for2 ?_
  | with_reducible refine wp_forL ?_
  | with_reducible refine wp_forT ?_
  | with_reducible refine wp_forS ?_
  | with_reducible refine wp_lcL ?_
  | with_reducible refine wp_lcT ?_
  | with_reducible refine wp_lcS ?_
  | with_reducible refine wp_lc1 ?_
  | with_reducible refine wp_lcE ?_
  | with_reducible refine wp_starT ?_
  | with_reducible refine wp_brk ?_
  | with_reducible refine wp_cont ?_
  | with_reducible refine wp_bm ?_
  | with_reducible refine wp_bm0 ?_
  | with_reducible refine wp_gsub ?_
  | with_reducible refine wp_inS ?_
  | with_reducible refine wp_notInS ?_
  | with_reducible refine wp_un ?_
  | with_reducible refine wp_rU ?_
  | with_reducible refine wp_tup ?_
  | with_reducible refine wp_lst ?_
  | with_reducible refine ty_str ?_
  | with_reducible refine ite_t ?_
  | with_reducible refine ite_f ?_
  | with_reducible refine ite_nt ?_
  | with_reducible refine ite_nff ?_
  | ((with_reducible refine' ite_T ?k1 ?_); (case k1 => omega))
  | ((with_reducible refine' ite_F ?k1 ?_); (case k1 => omega))
  | ((with_reducible refine' ite_nT ?k1 ?_); (case k1 => omega))
  | ((with_reducible refine' ite_nF ?k1 ?_); (case k1 => omega))
  | ((with_reducible refine' wp_rI ?k1 ?_); (case k1 => (first | omega | exact ⟨by omega, by omega⟩ | exact .inr ⟨by decide, by decide⟩ | exact .inl ⟨by omega, by omega⟩ | exact .inl ⟨by decide, by decide⟩ | exact ⟨by decide, by decide, by decide⟩)))
  | ((with_reducible refine' wp_ixL ?k1 ?k2 ?_); (case k1 => walk_at "sq"); (case k2 => walk_at "at"))
  | ((with_reducible refine' wp_setL0 ?k1 ?_); (case k1 => walk_at "h"))
  | ((with_reducible refine' wp_setL1 ?k1 ?_); (case k1 => walk_at "h"))
  | ((with_reducible refine' wp_setL ?k1 ?k2 ?_); (case k1 => walk_at "h"); (case k2 => walk_at "at"))
  | ((with_reducible refine' wp_ixT ?k1 ?k2 ?_); (case k1 => walk_at "tq"); (case k2 => walk_at "at"))
  | ((with_reducible refine' wp_lenL ?k1 ?_); (case k1 => walk_at "sq"))
  | ((with_reducible refine' wp_lenT ?k1 ?_); (case k1 => walk_at "tq"))
  | ((with_reducible refine' wp_sliceS ?k1 ?_); (case k1 => walk_at "len"))
  | ((with_reducible refine is_isi ?_); walk_at "isi")
  | ((with_reducible refine' wp_lenS ?k1 ?_); (case k1 => walk_at "len"))
  | ((with_reducible refine' wp_addS ?k1 ?_); (case k1 => walk_at "len"))
  | ((with_reducible refine' wp_lenStr ?k1 ?_); (case k1 => walk_at "len"))
  | ((with_reducible refine' ty_list ?k1 ?_); (case k1 => walk_at "sq"))
  | ((with_reducible refine' wp_addStr ?k1 ?_); (case k1 => walk_at "len"))
  | with_reducible refine wp_fldC ?_
  | with_reducible refine wp_sfldC ?_
  | with_reducible refine wp_prop ?_
  | with_reducible refine wp_meth ?_
  | with_reducible refine wp_methD ?_
  | with_reducible refine wp_methK ?_
  | with_reducible refine wp_yes ?_
  | with_reducible refine wp_methR ?_
  | with_reducible refine wp_make ?_
  | with_reducible refine wp_isN ?_
  | with_reducible refine wp_enum ?_
  | with_reducible refine wp_gcons ?_
  | with_reducible refine wp_gnil ?_
  | ((with_reducible refine' wp_gtup ?k1 ?k2 ?_); (case k1 => walk_at "tq"); (case k2 => first | rfl | fail "gtup"))
  | ((with_reducible refine' fld_at ?k1 lk_T ?_); (case k1 => walk_at "h"))
  | ((with_reducible refine' fld_at ?k1 lk_e ?_); (case k1 => walk_at "h"))
  | ((with_reducible refine' fld_at ?k1 lk_mT ?_); (case k1 => walk_at "h"))
  | ((with_reducible refine' fld_at ?k1 lk_md ?_); (case k1 => walk_at "h"))
  | ((with_reducible refine' fld_at ?k1 lk_s ?_); (case k1 => walk_at "h"))
  | ((with_reducible refine' fld_at ?k1 lk_sm ?_); (case k1 => walk_at "h"))
  | with_reducible refine wp_dget2 ?_
  | with_reducible refine wp_ckw ?_
  | with_reducible refine wp_smeth ?_
  | with_reducible refine wp_forKeys ?_
  | with_reducible refine wp_dcL ?_
  | with_reducible refine wp_dcT ?_
  | with_reducible refine wp_subOwnX ?_
  | with_reducible refine wp_starO ?_
  | with_reducible refine wp_ownIX ?_
  | with_reducible refine wp_ownIS ?_
  | with_reducible refine wp_ownOX ?_
  | with_reducible refine wp_lcKeysF ?_
  | with_reducible refine wp_lcZ ?_
  | with_reducible refine wp_makeSt ?_
  | with_reducible refine wp_callS0 ?_
  | with_reducible refine wp_fs ?_
  | with_reducible refine wp_js ?_
  | with_reducible refine wp_js0 ?_
  | with_reducible refine wp_fmt ?_
  | with_reducible refine wp_cms ?_
  | with_reducible refine wp_cmk ?_
  | with_reducible refine wp_tru ?_
  | ((with_reducible refine' wp_isC ?k1 ?_); (case k1 => walk_at "h"))
  | fail "no step"))
local macro_rules | `(tactic| walk_at "st") => `(tactic| (repeat' walk_at "one"))
def sp_check_range (K : PySem.W.Frag) : Sp := fun vs H Q _ => ∃ (n lo hi : Int), vs = [.int n, .int lo, .int hi] ∧ lo ≤ n ∧ n ≤ hi ∧ Q .non H
abbrev N_check_range : List Str := ["number", "low", "high"]
theorem st_check_range {a0 a1 a2 : V} : L2.start N_check_range [a0, a1, a2] = [some a0, some a1, some a2] := rfl
def t_check_range (K : PySem.W.Frag) : TS :=
  (tIfS ((tNot ((tTest (tChain (rI0 fun i j => .bl (decide (i ≤ j))) (rI0 fun i j => .bl (decide (i ≤ j))) (tVar 1) (tVar 0) (tVar 2)))))) (tNever) (tNext))

theorem pure_check_range (K : PySem.W.Frag) (vs : List V) (H : Hp) (Q : VK) (E : XK) (h : sp_check_range K vs H Q E) : t_check_range K { nx := fun _ H' => Q .non H', rt := Q } (L2.start N_check_range vs) H := by
  obtain ⟨n, lo, hi, rfl, h1, h2, k⟩ := h
  rw [st_check_range]
  unfold t_check_range
  walk_at "st"
  exact k
theorem len_check_range (K : PySem.W.Frag) (vs : List V) (H : Hp) (Q : VK) (E : XK) (h : sp_check_range K vs H Q E) : vs.length = 3 := by
  obtain ⟨n, lo, hi, rfl, _⟩ := h
  rfl
theorem c_check_range {K : PySem.W.Frag} {n lo hi : Int} {H : Hp} {Q : VK} {E : XK} (h : lo ≤ n ∧ n ≤ hi) (k : Q .non H) : sp_check_range K [.int n, .int lo, .int hi] H Q E := ⟨n, lo, hi, rfl, h.1, h.2, k⟩
def sp_check_round_length (K : PySem.W.Frag) : Sp := fun vs H Q _ => ∃ (n : Int), vs = [.int n] ∧ 3 ≤ n ∧ n ≤ 120 ∧ Q .non H
abbrev N_check_round_length : List Str := ["round_length"]
theorem st_check_round_length {a0 : V} : L2.start N_check_round_length [a0] = [some a0] := rfl
def t_check_round_length (K : PySem.W.Frag) : TS :=
  (tDrop ((tCall (sp_check_range K) [] E0 ((tCons (tVar 0) ((tCons (tC (.int 3)) ((tCons (tC (.int 120)) (tNil))))))))))

theorem pure_check_round_length (K : PySem.W.Frag) (vs : List V) (H : Hp) (Q : VK) (E : XK) (h : sp_check_round_length K vs H Q E) : t_check_round_length K { nx := fun _ H' => Q .non H', rt := Q } (L2.start N_check_round_length vs) H := by
  obtain ⟨n, rfl, h1, h2, k⟩ := h
  rw [st_check_round_length]
  unfold t_check_round_length
  walk_at "st"
  refine c_check_range ⟨h1, h2⟩ ?_
  walk_at "st"
  exact k
theorem len_check_round_length (K : PySem.W.Frag) (vs : List V) (H : Hp) (Q : VK) (E : XK) (h : sp_check_round_length K vs H Q E) : vs.length = 1 := by
  obtain ⟨n, rfl, _⟩ := h
  rfl
theorem c_check_round_length {K : PySem.W.Frag} {n : Int} {H : Hp} {Q : VK} {E : XK} (h : 3 ≤ n ∧ n ≤ 120) (k : Q .non H) : sp_check_round_length K [.int n] H Q E := ⟨n, rfl, h.1, h.2, k⟩
def sp_check_count (K : PySem.W.Frag) : Sp := fun vs H Q _ => ∃ (n m : Int), vs = [.int n, .int m] ∧ n ≤ m ∧ Q .non H
abbrev N_check_count : List Str := ["count", "limit"]
theorem st_check_count {a0 a1 : V} : L2.start N_check_count [a0, a1] = [some a0, some a1] := rfl
def t_check_count (K : PySem.W.Frag) : TS :=
  (tIfS ((tTest (tOp (rI0 fun i j => .bl (decide (j < i))) (tVar 0) (tVar 1)))) (tNever) (tNext))

theorem pure_check_count (K : PySem.W.Frag) (vs : List V) (H : Hp) (Q : VK) (E : XK) (h : sp_check_count K vs H Q E) : t_check_count K { nx := fun _ H' => Q .non H', rt := Q } (L2.start N_check_count vs) H := by
  obtain ⟨n, m, rfl, h1, k⟩ := h
  rw [st_check_count]
  unfold t_check_count
  walk_at "st"
  exact k
theorem len_check_count (K : PySem.W.Frag) (vs : List V) (H : Hp) (Q : VK) (E : XK) (h : sp_check_count K vs H Q E) : vs.length = 2 := by
  obtain ⟨n, m, rfl, _⟩ := h
  rfl
theorem c_check_count {K : PySem.W.Frag} {n m : Int} {H : Hp} {Q : VK} {E : XK} (h : n ≤ m) (k : Q .non H) : sp_check_count K [.int n, .int m] H Q E := ⟨n, m, rfl, h, k⟩
def sp_is_name (K : PySem.W.Frag) : Sp := fun vs H Q _ => ∃ (l : List Nat), vs = [.str (S l)] ∧ l.length ≤ 1000 ∧ ∀ H', Same H H' → Q (.bl (isNm l)) H'
abbrev N_is_name : List Str := ["text", "sign"]
theorem st_is_name {a0 : V} : L2.start N_is_name [a0] = [some a0, none] := rfl
def t_is_name (K : PySem.W.Frag) : TS :=
  (tSeq ((tIfS ((tNot ((tTest (tChain (rI0 fun i j => .bl (decide (i ≤ j))) (rI0 fun i j => .bl (decide (i ≤ j))) (tC (.int 1)) ((tCB rLenStr ((tCons (tVar 0) (tNil))))) (tC (.int 8))))))) ((tRet (tC (.bl false)))) (tNext)))
    ((tRet ((tAndV ((tOp rInS ((tOp rIxS (tVar 0) (tC (.int 0)))) (tC (.str (S Z26))))) ((tCB (rAll K) ((tCons ((tLc ((iStr (tVar 0))) ((gName 1)) (tYes) ((tOrV ((tOp rInS (tVar 1) (tC (.str (S Z26))))) ((tOp rInS (tVar 1) (tC (.str (S Z10))))))) [1])) (tNil))))))))))

theorem pure_is_name (K : PySem.W.Frag) (vs : List V) (H : Hp) (Q : VK) (E : XK) (h : sp_is_name K vs H Q E) : t_is_name K { nx := fun _ H' => Q .non H', rt := Q } (L2.start N_is_name vs) H := by
  obtain ⟨l, rfl, hl, k⟩ := h
  rw [st_is_name]
  unfold t_is_name
  walk_at "st"
  have no : isNm l = false → Q (.bl false) H := fun e => by
    have z := k H (Same.refl H)
    rw [e] at z
    exact z
  refine ite_dec (fun h => ?_) (fun h => ?_)
  · walk_at "st"
    refine ite_ndec (fun h2 => ?_) (fun h2 => ?_)
    · walk_at "st"
      refine no ?_
      unfold isNm
      rw [decide_eq_false (by omega : ¬ l.length ≤ 8), Bool.false_and, Bool.and_false]
    · walk_at "st"
      cases l with
      | nil => exact absurd h (by simp)
      | cons c r =>
        refine wp_ixS (by rw [S_len]; omega) (c := c) at0 ?_
        walk_at "st"
        have hlen : decide (1 ≤ (c :: r).length) = true := by simp
        have hlen2 : decide ((c :: r).length ≤ 8) = true := by rw [decide_eq_true_eq]; omega
        refine ite_dec (fun h3 => ?_) (fun h3 => ?_)
        · walk_at "st"
          refine lcMapS (by omega) (fun x => [some (.str (S (c :: r))), some x]) (fun x => ⟨rfl, rfl⟩) (fun c => .bl (decide (LD c))) (fun c H2 hxm _ R hR => ?_) (fun D H2 hD s2 hD2 => ?_)
          · walk_at "st"
            have e : decide (LD c) = (decide (c ∈ Z26) || decide (c ∈ Z10)) := by
              rw [← Bool.decide_or, decide_eq_decide, z26, z10]
              rfl
            have z := hR H2 (Same.refl _)
            rw [e] at z
            refine ite_b (fun q => ?_) (fun q => ?_)
            · have q2 : decide (c ∈ Z26) = true := q
              rw [q2] at z
              exact z
            · have q2 : decide (c ∈ Z26) = false := q
              rw [q2] at z
              walk_at "st"
              exact z
          walk_at "st"
          refine wp_allL (bs := (c :: r).map fun c => decide (LD c)) (sq_of (by rw [List.map_map]; exact hD2)) ?_
          have e : ((c :: r).map fun c => decide (LD c)).all id = isNm (c :: r) := by
            unfold isNm
            have hc : decide (LT c) = true := decide_eq_true (z26.mp h3)
            rw [hlen, hlen2]
            show _ = (true && (true && (decide (LT c) && _)))
            rw [hc, List.all_map]
            rfl
          rw [e]
          exact k H2 s2
        · walk_at "st"
          refine no ?_
          rw [Bool.eq_false_iff]
          intro q
          obtain ⟨x, y, e, hx⟩ := (nm_iff.mp q).first
          cases e
          exact h3 (z26.mpr hx)
  · walk_at "st"
    refine no ?_
    unfold isNm
    rw [decide_eq_false (by omega : ¬ 1 ≤ l.length)]
    rfl
theorem len_is_name (K : PySem.W.Frag) (vs : List V) (H : Hp) (Q : VK) (E : XK) (h : sp_is_name K vs H Q E) : vs.length = 1 := by
  obtain ⟨l, rfl, _⟩ := h
  rfl
theorem c_is_name {K : PySem.W.Frag} {l : List Nat} {H : Hp} {Q : VK} {E : XK} (hl : l.length ≤ 1000) (k : ∀ H', Same H H' → Q (.bl (isNm l)) H') : sp_is_name K [.str (S l)] H Q E := ⟨l, rfl, hl, k⟩

def sp_check_name (K : PySem.W.Frag) : Sp := fun vs H Q _ => ∃ (l : List Nat), vs = [.str (S l)] ∧ Nm l ∧ ∀ H', Same H H' → Q .non H'
abbrev N_check_name : List Str := ["text"]
theorem st_check_name {a0 : V} : L2.start N_check_name [a0] = [some a0] := rfl
def t_check_name (K : PySem.W.Frag) : TS :=
  (tIfS ((tNot ((tB ((tCall (sp_is_name K) [] E0 ((tCons (tVar 0) (tNil))))))))) (tNever) (tNext))

theorem pure_check_name (K : PySem.W.Frag) (vs : List V) (H : Hp) (Q : VK) (E : XK) (h : sp_check_name K vs H Q E) : t_check_name K { nx := fun _ H' => Q .non H', rt := Q } (L2.start N_check_name vs) H := by
  obtain ⟨l, rfl, hn, k⟩ := h
  rw [st_check_name]
  unfold t_check_name
  have := hn.len
  walk_at "st"
  refine c_is_name (by omega) fun H2 s2 => ?_
  walk_at "st"
  rw [nm_iff.mpr hn]
  walk_at "st"
  exact k _ s2
theorem len_check_name (K : PySem.W.Frag) (vs : List V) (H : Hp) (Q : VK) (E : XK) (h : sp_check_name K vs H Q E) : vs.length = 1 := by
  obtain ⟨n, rfl, _⟩ := h
  rfl
theorem c_check_name {K : PySem.W.Frag} {l : List Nat} {H : Hp} {Q : VK} {E : XK} (hn : Nm l) (k : ∀ H', Same H H' → Q .non H') : sp_check_name K [.str (S l)] H Q E := ⟨l, rfl, hn, k⟩
def sp_check_event (K : PySem.W.Frag) : Sp := fun vs H Q _ => ∃ (l : List Nat) (b : Addr) (ms : List (List Nat)), vs = [.str (S l), .ref b] ∧ H b = some (.lst (ms.map sv)) ∧ Nm l ∧ l ∉ ms ∧ ∀ H', Same H H' → Q .non H'
abbrev N_check_event : List Str := ["name", "before"]
theorem st_check_event {a0 a1 : V} : L2.start N_check_event [a0, a1] = [some a0, some a1] := rfl
def t_check_event (K : PySem.W.Frag) : TS :=
  (tSeq ((tDrop ((tCall (sp_check_name K) [] E0 ((tCons (tVar 0) (tNil)))))))
    ((tIfS ((tTest (tOp (rIn K false) (tVar 0) (tVar 1)))) (tNever) (tNext))))

theorem pure_check_event (K : PySem.W.Frag) (vs : List V) (H : Hp) (Q : VK) (E : XK) (h : sp_check_event K vs H Q E) : t_check_event K { nx := fun _ H' => Q .non H', rt := Q } (L2.start N_check_event vs) H := by
  obtain ⟨l, b, ms, rfl, hb, hn, hm, k⟩ := h
  rw [st_check_event]
  unfold t_check_event
  walk_at "st"
  refine c_check_name hn fun H2 s2 => ?_
  walk_at "st"
  refine wp_inSv (sq_of (s2 _ _ hb)) ?_
  rw [decide_eq_false hm]
  walk_at "st"
  exact k _ s2
theorem len_check_event (K : PySem.W.Frag) (vs : List V) (H : Hp) (Q : VK) (E : XK) (h : sp_check_event K vs H Q E) : vs.length = 2 := by
  obtain ⟨n, m, ms, rfl, _⟩ := h
  rfl
theorem c_check_event {K : PySem.W.Frag} {l : List Nat} {b : Addr} {ms : List (List Nat)} {H : Hp} {Q : VK} {E : XK} (hb : H b = some (.lst (ms.map sv))) (hn : Nm l) (hm : l ∉ ms) (k : ∀ H', Same H H' → Q .non H') : sp_check_event K [.str (S l), .ref b] H Q E := ⟨l, b, ms, rfl, hb, hn, hm, k⟩
def sp_check_known (K : PySem.W.Frag) : Sp := fun vs H Q _ => ∃ (a b : Addr) (ls : List (List Nat)), vs = [.ref a, .ref b] ∧ H a = some (.lst (ls.map sv)) ∧ ((∃ ms : List (List Nat), H b = some (.lst (ms.map sv)) ∧ ∀ l ∈ ls, l ∈ ms) ∨ ∃ kvs, Rd H b (.dK kvs) ∧ ∀ l ∈ ls, (valV kvs (.inr (S l))).isSome = true) ∧ Q .non H
abbrev N_check_known : List Str := ["names", "known", "name"]
theorem st_check_known {a0 a1 : V} : L2.start N_check_known [a0, a1] = [some a0, some a1, none] := rfl
def t_check_known (K : PySem.W.Frag) : TS :=
  (tFor ((iList K (tVar 0))) (gName 2) ((tIfS ((tTest (tOp (rNotInX K) (tVar 2) (tVar 1)))) (tNever) (tNext))))

theorem pure_check_known (K : PySem.W.Frag) (vs : List V) (H : Hp) (Q : VK) (E : XK) (h : sp_check_known K vs H Q E) : t_check_known K { nx := fun _ H' => Q .non H', rt := Q } (L2.start N_check_known vs) H := by
  obtain ⟨a, b, ls, rfl, ha, hb, k⟩ := h
  rw [st_check_known]
  unfold t_check_known
  walk_at "st"
  refine loopL (sq_of ha) (fun i σ' H' => ∃ x, σ' = [some (.ref a), some (.ref b), x] ∧ H' = H) ⟨_, rfl, rfl⟩ ?_ ?_ ?_
  · rintro i σ' H' _ ⟨x, rfl, rfl⟩
    exact sq_of ha
  · rintro i x σ' H' hx ⟨y, rfl, rfl⟩
    rw [List.getElem?_map] at hx
    obtain ⟨l, hl, rfl⟩ := Option.map_eq_some_iff.mp hx
    have hln := List.mem_of_getElem? hl
    walk_at "st"
    rcases hb with ⟨ms, hb, hm⟩ | ⟨kvs, hb, hm⟩
    · refine wp_notInXL (wp_notInSv (sq_of hb) ?_)
      rw [decide_eq_true (hm l hln)]
      walk_at "st"
      exact ⟨_, rfl, rfl⟩
    · refine wp_notInXD hb ?_
      rw [hm l hln]
      walk_at "st"
      exact ⟨_, rfl, rfl⟩
  · rintro σ' H' ⟨x, rfl, rfl⟩
    exact k
theorem len_check_known (K : PySem.W.Frag) (vs : List V) (H : Hp) (Q : VK) (E : XK) (h : sp_check_known K vs H Q E) : vs.length = 2 := by
  obtain ⟨n, m, ls, rfl, _⟩ := h
  rfl
theorem c_check_known {K : PySem.W.Frag} {a b : Addr} {ls ms : List (List Nat)} {H : Hp} {Q : VK} {E : XK} (ha : H a = some (.lst (ls.map sv))) (hb : H b = some (.lst (ms.map sv))) (hm : ∀ l ∈ ls, l ∈ ms) (k : Q .non H) : sp_check_known K [.ref a, .ref b] H Q E := ⟨a, b, ls, rfl, ha, .inl ⟨ms, hb, hm⟩, k⟩
theorem c_check_knownD {K : PySem.W.Frag} {a b : Addr} {ls : List (List Nat)} {kvs : List (Key × V)} {H : Hp} {Q : VK} {E : XK} (ha : H a = some (.lst (ls.map sv))) (hb : Rd H b (.dK kvs)) (hm : ∀ l ∈ ls, (valV kvs (.inr (S l))).isSome = true) (k : Q .non H) : sp_check_known K [.ref a, .ref b] H Q E := ⟨a, b, ls, rfl, ha, .inr ⟨kvs, hb, hm⟩, k⟩
def sp_check_span (K : PySem.W.Frag) : Sp := fun vs H Q _ => ∃ (T : Int) (e p : Addr) (ns : List (List Nat)) (r : Row), vs = [.int T, .ref e, .ref p] ∧ H e = some (.lst (ns.map sv)) ∧ H p = some (.tup (rowV r)) ∧ OkR T ns r ∧ ∀ H', Same H H' → Q .non H'
abbrev N_check_span : List Str := ["round_length", "events", "span", "start", "end", "least", "most", "weight"]
theorem st_check_span {a0 a1 a2 : V} : L2.start N_check_span [a0, a1, a2] = [some a0, some a1, some a2, none, none, none, none, none] := rfl
def t_check_span (K : PySem.W.Frag) : TS :=
  (tSeq ((tAsg (tVar 2) (gTup K 5 (gCons (gName 3) (gCons (gName 4) (gCons (gName 5) (gCons (gName 6) (gCons (gName 7) gNil))))))))
    ((tSeq ((tDrop ((tCall (sp_check_known K) [] E0 ((tCons ((tLst ((tCons (tVar 3) ((tCons (tVar 4) (tNil))))))) ((tCons (tVar 1) (tNil)))))))))
    ((tSeq ((tIfS ((tTest (tOp rEq (tVar 3) (tVar 4)))) (tNever) (tNext)))
    ((tSeq ((tDrop ((tCall (sp_check_range K) [] E0 ((tCons (tVar 5) ((tCons (tC (.int 0)) ((tCons ((tOp (rI0 fun i j => .int (i - j)) (tVar 0) (tC (.int 1)))) (tNil)))))))))))
    ((tSeq ((tDrop ((tCall (sp_check_range K) [] E0 ((tCons (tVar 6) ((tCons (tVar 5) ((tCons ((tOp (rI0 fun i j => .int (i - j)) ((tOp (rI0 fun i j => .int (i + j)) (tVar 5) (tVar 0))) (tC (.int 3)))) (tNil)))))))))))
    ((tDrop ((tCall (sp_check_range K) [] E0 ((tCons (tVar 7) ((tCons (tC (.int 0)) ((tCons (tC (.int 99)) (tNil))))))))))))))))))))

theorem pure_check_span (K : PySem.W.Frag) (vs : List V) (H : Hp) (Q : VK) (E : XK) (h : sp_check_span K vs H Q E) : t_check_span K { nx := fun _ H' => Q .non H', rt := Q } (L2.start N_check_span vs) H := by
  obtain ⟨T, e, p, ns, r, rfl, he, hp, ok, k⟩ := h
  rw [st_check_span]
  unfold t_check_span
  unfold rowV at hp
  walk_at "st"
  refine ⟨by simp [sizeLine_eq], fun q hq => ?_⟩
  have s2 := Same.new (o := .lst ([r.u, r.v].map sv)) hq
  walk_at "st"
  refine c_check_known (ls := [r.u, r.v]) upd_same (s2 _ _ he) (fun l hl => by
    simp only [List.mem_cons, List.not_mem_nil, or_false] at hl
    rcases hl with rfl | rfl
    · exact ok.u
    · exact ok.v) ?_
  walk_at "st"
  rw [decide_eq_false (fun h => ok.ne (S_inj h))]
  walk_at "st"
  refine c_check_range ⟨ok.l0, ok.l1⟩ ?_
  walk_at "st"
  refine c_check_range ⟨ok.h0, ok.h1⟩ ?_
  walk_at "st"
  refine c_check_range ⟨ok.w0, ok.w1⟩ ?_
  walk_at "st"
  exact k _ s2
theorem len_check_span (K : PySem.W.Frag) (vs : List V) (H : Hp) (Q : VK) (E : XK) (h : sp_check_span K vs H Q E) : vs.length = 3 := by
  obtain ⟨n, m, ms, a, b, rfl, _⟩ := h
  rfl
theorem c_check_span {K : PySem.W.Frag} {T : Int} {e : Addr} {x : V} {ns : List (List Nat)} {H : Hp} {Q : VK} {E : XK} (he : H e = some (.lst (ns.map sv))) (hx : IsSp H T ns x) (k : ∀ H', Same H H' → Q .non H') : sp_check_span K [.int T, .ref e, x] H Q E := by
  obtain ⟨r, ⟨p, rfl, hp⟩, ok⟩ := hx
  exact ⟨T, e, p, ns, r, rfl, he, hp, ok, k⟩
theorem nodup_take {ns : List (List Nat)} (h : ns.Nodup) {i : Nat} {l : List Nat} (e : ns[i]? = some l) : l ∉ ns.take i := by
  intro hm
  obtain ⟨j, hj⟩ := List.getElem?_of_mem hm
  have hj2 : j < i ∧ ns[j]? = some l := by
    rw [List.getElem?_take] at hj
    split at hj
    · exact ⟨by omega, hj⟩
    · cases hj
  have hl : i < ns.length := (List.getElem?_eq_some_iff.mp e).1
  have hjl : j < ns.length := (List.getElem?_eq_some_iff.mp hj2.2).1
  have z := List.pairwise_iff_getElem.mp h j i hjl hl hj2.1
  exact z ((List.getElem?_eq_some_iff.mp hj2.2).2.trans (List.getElem?_eq_some_iff.mp e).2.symm)
def sp_check_net (K : PySem.W.Frag) : Sp := fun vs H Q _ => ∃ (T : Int) (e s : Addr) (ns : List (List Nat)) (ss : List V), vs = [.int T, .ref e, .ref s] ∧ H e = some (.lst (ns.map sv)) ∧ H s = some (.lst ss) ∧ OkNs T ns ∧ OkSp H T ns ss ∧ ∀ H', Same H H' → Q .non H'
abbrev N_check_net : List Str := ["round_length", "events", "spans", "at", "name", "span"]
theorem st_check_net {a0 a1 a2 : V} : L2.start N_check_net [a0, a1, a2] = [some a0, some a1, some a2, none, none, none] := rfl
def t_check_net (K : PySem.W.Frag) : TS :=
  (tSeq ((tDrop ((tCall (sp_check_round_length K) [] E0 ((tCons (tVar 0) (tNil)))))))
    ((tSeq ((tDrop ((tCall (sp_check_count K) [] E0 ((tCons ((tCB (rLenS K) ((tCons (tVar 1) (tNil))))) ((tCons (tC (.int 12)) (tNil)))))))))
    ((tSeq ((tFor ((iEnum K ((tCons (tVar 1) (tNil))))) (gTup K 2 (gCons (gName 3) (gCons (gName 4) gNil))) ((tDrop ((tCall (sp_check_event K) [] E0 ((tCons (tVar 4) ((tCons ((tSl (rSlL K) (tVar 1) tNoPart (tPart (tVar 3)))) (tNil)))))))))))
    ((tSeq ((tDrop ((tCall (sp_check_count K) [] E0 ((tCons ((tCB (rLenS K) ((tCons (tVar 2) (tNil))))) ((tCons (tC (.int 24)) (tNil)))))))))
    ((tFor ((iList K (tVar 2))) (gName 5) ((tDrop ((tCall (sp_check_span K) [] E0 ((tCons (tVar 0) ((tCons (tVar 1) ((tCons (tVar 5) (tNil))))))))))))))))))))

theorem pure_check_net (K : PySem.W.Frag) (vs : List V) (H : Hp) (Q : VK) (E : XK) (h : sp_check_net K vs H Q E) : t_check_net K { nx := fun _ H' => Q .non H', rt := Q } (L2.start N_check_net vs) H := by
  obtain ⟨T, e, s, ns, ss, rfl, he, hs, ok, os, k⟩ := h
  rw [st_check_net]
  unfold t_check_net
  have f1 := ok.few
  have f2 := os.few
  walk_at "st"
  refine c_check_round_length ⟨ok.t0, ok.t1⟩ ?_
  walk_at "st"
  refine c_check_count (by rw [List.length_map]; omega) ?_
  walk_at "st"
  refine loopE (sq_of he) (fun i σ' H' => ∃ x y z, σ' = [some (.int T), some (.ref e), some (.ref s), x, y, z] ∧ Same H H') ⟨_, _, _, rfl, Same.refl _⟩ ?_ ?_ ?_
  · rintro i σ' H' _ ⟨x, y, z, rfl, s2⟩
    exact sq_of (s2 _ _ he)
  · rintro i x q σ' H' hx ⟨y, z, w, rfl, s2⟩ hq
    rw [List.getElem?_map] at hx
    obtain ⟨l, hl, rfl⟩ := Option.map_eq_some_iff.mp hx
    have s3 := s2.trans (Same.new (o := .tup [.int (i : Nat), sv l]) hq)
    have hil : i < ns.length := (List.getElem?_eq_some_iff.mp hl).1
    walk_at "st"
    refine wp_sliceL (sq_of (s3 _ _ he)) fun b hb => ?_
    rw [cutG_to (by rw [List.length_map]; omega), ← List.map_take]
    walk_at "st"
    refine c_check_event upd_same (ok.nm _ (List.mem_of_getElem? hl)) (nodup_take ok.nodup hl) fun H4 s4 => ?_
    walk_at "st"
    exact ⟨_, _, _, rfl, (s3.trans (Same.new hb)).trans s4⟩
  · rintro σ' H' ⟨x, y, z, rfl, s2⟩
    have hs2 := s2 _ _ hs
    walk_at "st"
    refine c_check_count (by omega) ?_
    walk_at "st"
    refine loopL (sq_of hs2) (fun i σ' H' => ∃ x y z, σ' = [some (.int T), some (.ref e), some (.ref s), x, y, z] ∧ Same H H') ⟨_, _, _, rfl, s2⟩ ?_ ?_ ?_
    · rintro i σ' H' _ ⟨x, y, z, rfl, s2⟩
      exact sq_of (s2 _ _ hs)
    · rintro i x σ' H' hx ⟨y, z, w, rfl, s3⟩
      walk_at "st"
      refine c_check_span (s3 _ _ he) ((os.sp x (List.mem_of_getElem? hx)).mono s3) fun H4 s4 => ?_
      walk_at "st"
      exact ⟨_, _, _, rfl, s3.trans s4⟩
    · rintro σ' H' ⟨x, y, z, rfl, s3⟩
      exact k _ s3
theorem len_check_net (K : PySem.W.Frag) (vs : List V) (H : Hp) (Q : VK) (E : XK) (h : sp_check_net K vs H Q E) : vs.length = 3 := by
  obtain ⟨n, m, ms, a, b, rfl, _⟩ := h
  rfl
theorem c_check_net {K : PySem.W.Frag} {T : Int} {e s : Addr} {ns : List (List Nat)} {ss : List V} {H : Hp} {Q : VK} {E : XK} (he : H e = some (.lst (ns.map sv))) (hs : H s = some (.lst ss)) (ok : OkNs T ns) (os : OkSp H T ns ss) (k : ∀ H', Same H H' → Q .non H') : sp_check_net K [.int T, .ref e, .ref s] H Q E := ⟨T, e, s, ns, ss, rfl, he, hs, ok, os, k⟩
def sp_Net_init (K : PySem.W.Frag) : Sp := fun vs H Q _ => ∃ (x dx : Addr) (T : Int) (e s : Addr) (ns : List (List Nat)) (ss : List V), vs = [.ref x, .int T, .ref e, .ref s] ∧ H x = some (.ins (C_Net K) dx []) ∧ H e = some (.lst (ns.map sv)) ∧ H s = some (.lst ss) ∧ OkNs T ns ∧ OkSp H T ns ss ∧
  ∀ (le ls : Addr) H', H' x = some (.ins (C_Net K) dx (netF T le ls)) → H' le = some (.lst (ns.map sv)) → H' ls = some (.lst ss) → H le = none → H ls = none → le ≠ ls → (∀ a o, a ≠ x → H a = some o → H' a = some o) → Q .non H'
abbrev N_Net_init : List Str := ["self", "round_length", "events", "spans"]
theorem st_Net_init {a0 a1 a2 a3 : V} : L2.start N_Net_init [a0, a1, a2, a3] = [some a0, some a1, some a2, some a3] := rfl
def t_Net_init (K : PySem.W.Frag) : TS :=
  (tSeq ((tDrop ((tCall (sp_check_net K) [] E0 ((tCons (tVar 1) ((tCons (tVar 2) ((tCons (tVar 3) (tNil)))))))))))
    ((tSeq ((sFldC (C_Net K) (tVar 0) (tVar 1) "_round_length"))
    ((tSeq ((sFldC (C_Net K) (tVar 0) ((tCB (rListS K) ((tCons (tVar 2) (tNil))))) "_events"))
    ((sFldC (C_Net K) (tVar 0) ((tCB (rListS K) ((tCons (tVar 3) (tNil))))) "_spans")))))))

theorem pure_Net_init (K : PySem.W.Frag) (vs : List V) (H : Hp) (Q : VK) (E : XK) (h : sp_Net_init K vs H Q E) : t_Net_init K { nx := fun _ H' => Q .non H', rt := Q } (L2.start N_Net_init vs) H := by
  obtain ⟨x, dx, T, e, s, ns, ss, rfl, hx, he, hs, ok, os, k⟩ := h
  rw [st_Net_init]
  unfold t_Net_init
  have nex : e ≠ x := fun h => by rw [h, hx] at he; cases he
  have nsx : s ≠ x := fun h => by rw [h, hx] at hs; cases hs
  walk_at "st"
  refine c_check_net he hs ok os fun H2 s2 => ?_
  walk_at "st"
  refine sfld_at (s2 _ _ hx) (by decide) pt_1 ?_
  walk_at "st"
  refine wp_listL (sq_of (by rw [upd_ne nex]; exact s2 _ _ he)) fun le hle => ?_
  have nlx : le ≠ x := fun h => by rw [h, upd_same] at hle; cases hle
  rw [upd_ne nlx] at hle
  walk_at "st"
  refine sfld_at (by rw [upd_ne nlx.symm]; exact upd_same) (by simp) pt_2 ?_
  walk_at "st"
  have nls : s ≠ le := ne_of_none (s2 _ _ hs) hle
  refine wp_listL (sq_of (by rw [upd_ne nsx, upd_ne nls, upd_ne nsx]; exact s2 _ _ hs)) fun ls hls => ?_
  have nsx2 : ls ≠ x := fun h => by rw [h, upd_same] at hls; cases hls
  rw [upd_ne nsx2] at hls
  have nsl : ls ≠ le := fun h => by rw [h, upd_same] at hls; cases hls
  rw [upd_ne nsl, upd_ne nsx2] at hls
  walk_at "st"
  refine sfld_at (by rw [upd_ne nsx2.symm]; exact upd_same) (by simp) pt_3 ?_
  refine k le ls _ upd_same ?_ ?_ (s2.free hle) (s2.free hls) nsl.symm ?_
  · rw [upd_ne nlx, upd_ne nsl.symm, upd_ne nlx]; exact upd_same
  · rw [upd_ne nsx2]; exact upd_same
  · intro a o ha h
    have h2 := s2 _ _ h
    rw [upd_ne ha, upd_ne (ne_of_none h2 hls), upd_ne ha, upd_ne (ne_of_none h2 hle), upd_ne ha]
    exact h2
theorem len_Net_init (K : PySem.W.Frag) (vs : List V) (H : Hp) (Q : VK) (E : XK) (h : sp_Net_init K vs H Q E) : vs.length = 4 := by
  obtain ⟨n, m, ms, a, b, c, d, rfl, _⟩ := h
  rfl
theorem c_NetG {K : PySem.W.Frag} {G H : Hp} {T : Int} {e s : Addr} {ns : List (List Nat)} {ss : List V} {Q : VK} {E : XK} (sub : Same G H) (he : H e = some (.lst (ns.map sv))) (hss : H s = some (.lst ss)) (ok : OkNs T ns) (os : OkSp H T ns ss)
    (k : ∀ a G' H', Same G G' → Same G' H' → Same H H' → (∀ q o, H q = some o → G q = none → G' q = none) → IsNet (C_Net K) G' a T ns ss → Q (.ref a) H') : MkW (C_Net K) (sp_Net_init K) E Q [.int T, .ref e, .ref s] H := by
  intro x dx hx hdx nd
  have s1 : Same H (upd (upd H dx (.own x)) x (.ins (C_Net K) dx [])) := (Same.new hdx).trans (Same.new (by rw [upd_ne nd.symm]; exact hx))
  refine ⟨x, dx, T, e, s, ns, ss, rfl, upd_same, s1 _ _ he, s1 _ _ hss, ok, os.mono s1, fun le ls H' h1 h2 h3 h4 h5 h6 h7 => ⟨rfl, ?_⟩⟩
  have nlx : le ≠ x := fun h => by rw [h, upd_same] at h4; cases h4
  have nsx : ls ≠ x := fun h => by rw [h, upd_same] at h5; cases h5
  have fl := s1.free h4
  have fs := s1.free h5
  have sH : Same H H' := fun a o h => h7 a o (ne_of_none h hx) (s1 _ _ h)
  have gx := sub.free hx
  have gl := sub.free fl
  have gs := sub.free fs
  have sG : Same G (upd (upd (upd G x (.ins (C_Net K) dx (netF T le ls))) le (.lst (ns.map sv))) ls (.lst ss)) :=
    ((Same.new gx).trans (Same.new (by rw [upd_ne nlx]; exact gl))).trans (Same.new (by rw [upd_ne h6.symm, upd_ne nsx]; exact gs))
  refine k x (upd (upd (upd G x (.ins (C_Net K) dx (netF T le ls))) le (.lst (ns.map sv))) ls (.lst ss)) H' sG (fun a o ha => ?_) sH (fun q o hq hG => ?_) ⟨dx, le, ls, ?_, ?_, upd_same⟩
  · by_cases e1 : a = ls
    · subst e1; rw [upd_same] at ha; cases ha; exact h3
    · rw [upd_ne e1] at ha
      by_cases e2 : a = le
      · subst e2; rw [upd_same] at ha; cases ha; exact h2
      · rw [upd_ne e2] at ha
        by_cases e3 : a = x
        · subst e3; rw [upd_same] at ha; cases ha; exact h1
        · rw [upd_ne e3] at ha
          exact sH _ _ (sub _ _ ha)
  · rw [upd_ne (ne_of_none hq fs), upd_ne (ne_of_none hq fl), upd_ne (ne_of_none hq hx)]; exact hG
  · rw [upd_ne nsx.symm, upd_ne nlx.symm]; exact upd_same
  · rw [upd_ne h6]; exact upd_same
theorem c_Net {K : PySem.W.Frag} {P : Pl} {G H : Hp} {T : Int} {e s : Addr} {ns : List (List Nat)} {ss : List V} {Q : VK} {E : XK} (hs : Sees P G H) (he : H e = some (.lst (ns.map sv))) (hss : H s = some (.lst ss)) (ok : OkNs T ns) (os : OkSp H T ns ss)
    (k : ∀ a G' H', Same G G' → Same H H' → (∀ q o, H q = some o → G q = none → G' q = none) → IsNet (C_Net K) G' a T ns ss → Sees P G' H' → Q (.ref a) H') : MkW (C_Net K) (sp_Net_init K) E Q [.int T, .ref e, .ref s] H :=
  c_NetG hs.sub he hss ok os fun a G' H' s1 s2 s3 kp n => k a G' H' s1 s3 kp n (hs.grow s1 s2 s3 kp)
/-- a new net is handed out -/
def NewNet (K : PySem.W.Frag) (G H : Hp) (T : Int) (ns : List (List Nat)) (rs : List Row) (Q : VK) : Prop := ∀ b ss' G' H', Same G G' → Same G' H' → Same H H' → (∀ q o, H q = some o → G q = none → G' q = none) → IsNet (C_Net K) G' b T ns ss' → Rws G' ss' rs → OkSp G' T ns ss' → Q (.ref b) H'
def sp_l_pool (K : PySem.W.Frag) : Sp := fun vs H Q _ => ∃ (a : Addr) (ns : List Int), vs = [.ref a] ∧ SqL K H a (ns.map V.int) ∧ ns.length ≤ 63 ∧ ∀ (P : Pl) (G H' : Hp), Same H G → Sees P G H' → Q (.ref P.p) H'
abbrev N_l_pool : List Str := ["_law_script", "_law_cells", "_law_number", "_law_cell"]
theorem st_l_pool {a0 : V} : L2.start N_l_pool [a0] = [some a0, none, none, none] := rfl
def t_l_pool (K : PySem.W.Frag) : TS :=
  (tSeq ((tAsg (tLc ((iList K (tVar 0))) ((gName 3)) (tYes) ((tCB rInt1 ((tCons (tVar 3) (tNil))))) [3]) (gName 1)))
    ((tSeq ((tAsg (tC (.int 0)) (gName 2)))
    ((tSeq ((tIfS ((tAnd ((tTest (tOp (rI0 fun i j => .bl (decide (j < i))) ((tCB (rLenS K) ((tCons (tVar 1) (tNil))))) (tC (.int 0))))) ((tTest (tOp (rI0 fun i j => .bl (decide (j ≤ i))) ((tOp (rIxL K) (tVar 1) (tC (.int 0)))) ((tOp (rI CPow fun i j => .int (i ^ j.toNat)) (tC (.int 10)) (tC (.int 18))))))))) ((tAsg ((tOp (rIxL K) (tVar 1) (tC (.int 0)))) (gName 2))) (tNext)))
    ((tRet ((tLst ((tCons (tVar 2) ((tCons (tC (.int 0)) ((tCons (tVar 1) (tNil))))))))))))))))

theorem pure_l_pool (K : PySem.W.Frag) (vs : List V) (H : Hp) (Q : VK) (E : XK) (h : sp_l_pool K vs H Q E) : t_l_pool K { nx := fun _ H' => Q .non H', rt := Q } (L2.start N_l_pool vs) H := by
  obtain ⟨a, ns, rfl, hx, hn, k⟩ := h
  rw [st_l_pool]
  unfold t_l_pool
  walk_at "st"
  refine lcMapL hx (by rw [List.length_map]; omega) (fun x => [some (.ref a), none, none, some x]) (fun x => ⟨rfl, rfl⟩) id (fun x H2 hxm _ R hR => ?_) (fun D H2 hD s2 hl => ?_)
  · obtain ⟨n, _, rfl⟩ := List.mem_map.mp hxm
    walk_at "st"
    exact hR _ (Same.refl _)
  rw [List.map_id] at hl
  have fin : ∀ n : Int, [V.int n, V.int 0, V.ref D].length ≤ sizeLine ∧ ∀ p, H2 p = none → Q (.ref p) (upd H2 p (.lst [V.int n, V.int 0, V.ref D])) := fun n => ⟨szl (by simp), fun p hp => by
    have e : D ≠ p := ne_of_none hl hp
    exact k ⟨p, D, ns⟩ H2 _ s2 ⟨⟨n, 0, upd_same⟩, hl, hn, hp, Same.new hp⟩⟩
  walk_at "st"
  refine ite_dec (fun h1 => ?_) (fun h1 => ?_)
  · walk_at "st"
    refine wp_ixLI (by walk_at "sq") (by omega) h1 fun x _ => ?_
    walk_at "st"
    refine ite_dec (fun h2 => ?_) (fun h2 => ?_)
    · walk_at "st"
      refine wp_ixLI (by walk_at "sq") (by omega) h1 fun y _ => ?_
      walk_at "st"
      exact fin _
    · walk_at "st"
      exact fin _
  · walk_at "st"
    exact fin _
theorem len_l_pool (K : PySem.W.Frag) (vs : List V) (H : Hp) (Q : VK) (E : XK) (h : sp_l_pool K vs H Q E) : vs.length = 1 := by
  obtain ⟨a, ns, rfl, _⟩ := h
  rfl
theorem c_l_pool {K : PySem.W.Frag} {a : Addr} {ns : List Int} {H : Hp} {Q : VK} {E : XK} (hx : SqL K H a (ns.map V.int)) (hn : ns.length ≤ 63) (k : ∀ (P : Pl) (G H' : Hp), Same H G → Sees P G H' → Q (.ref P.p) H') : sp_l_pool K [.ref a] H Q E :=
  ⟨a, ns, rfl, hx, hn, k⟩

def sp_l_draw (K : PySem.W.Frag) : Sp := fun vs H Q _ => ∃ (P : Pl) (m : Int) (G : Hp), vs = [.ref P.p, .int m] ∧ 0 < m ∧ m < 1099511627776 ∧ Sees P G H ∧ ∀ d H', 0 ≤ d → d < m → Sees P G H' → Q (.int d) H'
abbrev N_l_draw : List Str := ["_law_pool_here", "_law_many", "_law_found", "_law_cells", "_law_near", "_law_head", "_law_mixed"]
theorem st_l_draw {a0 a1 : V} : L2.start N_l_draw [a0, a1] = [some a0, some a1, none, none, none, none, none] := rfl
def t_l_draw (K : PySem.W.Frag) : TS :=
  (tSeq ((tIfS ((tTest (tOp (rI0 fun i j => .bl (decide (j < i))) ((tOp (rIxL K) (tVar 0) (tC (.int 0)))) (tC (.int 1))))) ((tSeq ((tAsg ((tOp (rI (fun _ j => 0 < j) fun i j => .int (i % j)) ((tCB rInt1 ((tCons ((tOp (rIxL K) (tVar 0) (tC (.int 0)))) (tNil))))) (tVar 1))) (gName 2)))
    ((tSeq ((tAsg ((tOp (rI CDivW fun i j => .int (i / j)) ((tOp (rIxL K) (tVar 0) (tC (.int 0)))) (tVar 1))) (gSub (tVar 0) (tC (.int 0)) rSetL)))
    ((tRet (tVar 2))))))) (tNext)))
    ((tSeq ((tAsg ((tOp (rI0 fun i j => .int (i + j)) ((tOp (rIxL K) (tVar 0) (tC (.int 1)))) (tC (.int 1)))) (gSub (tVar 0) (tC (.int 1)) rSetL)))
    ((tSeq ((tAsg ((tOp (rIxL K) (tVar 0) (tC (.int 2)))) (gName 3)))
    ((tSeq ((tAsg (tC (.int 0)) (gName 4)))
    ((tSeq ((tAsg (tC (.int 0)) (gName 5)))
    ((tSeq ((tIfS ((tTest (tOp (rI0 fun i j => .bl (decide (j < i))) ((tCB (rLenS K) ((tCons (tVar 3) (tNil))))) (tC (.int 0))))) ((tSeq ((tAsg ((tOp (rIxL K) (tVar 3) ((tOp (rI (fun _ j => 0 < j) fun i j => .int (i % j)) ((tCB rInt1 ((tCons ((tOp (rIxL K) (tVar 0) (tC (.int 1)))) (tNil))))) ((tCB (rLenS K) ((tCons (tVar 3) (tNil))))))))) (gName 4)))
    ((tAsg ((tOp (rIxL K) (tVar 3) (tC (.int 0)))) (gName 5))))) (tNext)))
    ((tSeq ((tAsg ((tOp (rI (fun _ j => 0 < j) fun i j => .int (i % j)) ((tCB rInt1 ((tCons ((tOp (rI0 fun i j => .int (i + j)) ((tOp (rI0 fun i j => .int (i + j)) ((tOp (rI0 fun i j => .int (i + j)) ((tOp (rI CMul fun i j => .int (i * j)) (tVar 4) (tC (.int 48271)))) ((tOp (rI CMul fun i j => .int (i * j)) (tVar 5) (tC (.int 16807)))))) ((tOp (rI CMul fun i j => .int (i * j)) ((tOp (rIxL K) (tVar 0) (tC (.int 1)))) (tC (.int 69621)))))) (tC (.int 7)))) (tNil))))) (tC (.int 2147483647)))) (gName 6)))
    ((tSeq ((tAsg ((tOp (rI (fun _ j => 0 < j) fun i j => .int (i % j)) ((tCB rInt1 ((tCons ((tOp (rI0 fun i j => .int (i + j)) ((tOp (rI0 fun i j => .int (i + j)) ((tOp (rI CMul fun i j => .int (i * j)) (tVar 6) (tVar 6))) ((tOp (rI CMul fun i j => .int (i * j)) (tVar 6) (tC (.int 40692)))))) ((tOp (rI CMul fun i j => .int (i * j)) ((tOp (rIxL K) (tVar 0) (tC (.int 1)))) (tC (.int 7919)))))) (tNil))))) (tC (.int 1000000007)))) (gName 6)))
    ((tRet ((tOp (rI (fun _ j => 0 < j) fun i j => .int (i % j)) ((tCB rInt1 ((tCons ((tOp (rI CDivW fun i j => .int (i / j)) (tVar 6) (tC (.int 11)))) (tNil))))) (tVar 1))))))))))))))))))))

theorem pure_l_draw (K : PySem.W.Frag) (vs : List V) (H : Hp) (Q : VK) (E : XK) (h : sp_l_draw K vs H Q E) : t_l_draw K { nx := fun _ H' => Q .non H', rt := Q } (L2.start N_l_draw vs) H := by
  obtain ⟨P, m, G, rfl, hm, hm2, hs, k⟩ := h
  obtain ⟨n, c, hp⟩ := hs.pool
  rw [st_l_draw]
  unfold t_l_draw
  walk_at "st"
  refine ite_dec (fun h1 => ?_) (fun h1 => ?_)
  · walk_at "st"
    refine wp_rI (wide_div hm (b := 40) (by omega) (by decide) (by decide)) ?_
    walk_at "st"
    exact k _ _ (Int.emod_nonneg _ (by omega)) (Int.emod_lt_of_pos _ hm) (hs.drawn _ _)
  · walk_at "st"
    have hs2 := hs.drawn n (c + 1)
    have hp2 : upd H P.p (.lst [.int n, .int (c + 1), .ref P.l]) P.p = some (.lst [.int n, .int (c + 1), .ref P.l]) := upd_same
    revert hs2 hp2
    generalize upd H P.p (.lst [.int n, .int (c + 1), .ref P.l]) = H2
    intro hs2 hp2
    walk_at "st"
    refine ite_dec (fun h2 => ?_) (fun h2 => ?_)
    · walk_at "st"
      refine wp_ixLI (by walk_at "sq") (Int.emod_nonneg _ (by omega)) (Int.emod_lt_of_pos _ h2) fun x _ => ?_
      walk_at "st"
      refine wp_ixLI (by walk_at "sq") (by omega) h2 fun y _ => ?_
      walk_at "st"
      refine wp_rI (wide_div (by decide) (b := 4) (by decide) (by decide) (by decide)) ?_
      walk_at "st"
      exact k _ _ (Int.emod_nonneg _ (by omega)) (Int.emod_lt_of_pos _ hm) hs2
    · walk_at "st"
      refine wp_rI (wide_div (by decide) (b := 4) (by decide) (by decide) (by decide)) ?_
      walk_at "st"
      exact k _ _ (Int.emod_nonneg _ (by omega)) (Int.emod_lt_of_pos _ hm) hs2
theorem len_l_draw (K : PySem.W.Frag) (vs : List V) (H : Hp) (Q : VK) (E : XK) (h : sp_l_draw K vs H Q E) : vs.length = 2 := by
  obtain ⟨P, m, G, rfl, _⟩ := h
  rfl
theorem c_l_draw {K : PySem.W.Frag} {P : Pl} {G H : Hp} {m : Int} {Q : VK} {E : XK} (hs : Sees P G H) (h0 : 0 < m ∧ m < 1099511627776) (k : ∀ d H', 0 ≤ d → d < m → Sees P G H' → Q (.int d) H') : sp_l_draw K [.ref P.p, .int m] H Q E :=
  ⟨P, m, G, rfl, h0.1, h0.2, hs, k⟩

def sp_l_word (K : PySem.W.Frag) : Sp := fun vs H Q _ => ∃ (P : Pl) (n : Int) (G : Hp), vs = [.ref P.p, .int n] ∧ 0 ≤ n ∧ n ≤ 100 ∧ Sees P G H ∧ ∀ (l : List Nat) H', (l.length : Int) = n → (∀ c ∈ l, LD c) → Sees P G H' → Q (.str (S l)) H'
abbrev N_l_word : List Str := ["_law_pool_here", "_law_size", "_law_signs", "_law_word_here", "_law_k"]
theorem st_l_word {a0 a1 : V} : L2.start N_l_word [a0, a1] = [some a0, some a1, none, none, none] := rfl
def t_l_word (K : PySem.W.Frag) : TS :=
  (tSeq ((tAsg (tC (.str (S Z36))) (gName 2)))
    ((tSeq ((tAsg (tC (.str (S []))) (gName 3)))
    ((tSeq ((tFor ((iRng1 ((tCons (tVar 1) (tNil))))) (gName 4) ((tAsg ((tOp rAddStr (tVar 3) ((tOp rIxS (tVar 2) ((tCall (sp_l_draw K) [] E0 ((tCons (tVar 0) ((tCons (tC (.int 36)) (tNil))))))))))) (gName 3)))))
    ((tRet (tVar 3))))))))

theorem pure_l_word (K : PySem.W.Frag) (vs : List V) (H : Hp) (Q : VK) (E : XK) (h : sp_l_word K vs H Q E) : t_l_word K { nx := fun _ H' => Q .non H', rt := Q } (L2.start N_l_word vs) H := by
  obtain ⟨P, n, G, rfl, hn, hn2, hs, k⟩ := h
  rw [st_l_word]
  unfold t_l_word
  walk_at "st"
  refine loop1 (by omega) (fun i σ' H' => ∃ (x : Option V) (l : List Nat), σ' = [some (.ref P.p), some (.int n), some (.str (S Z36)), some (.str (S l)), x] ∧ l.length = i ∧ (∀ c ∈ l, LD c) ∧ Sees P G H') ⟨none, [], rfl, rfl, by simp, hs⟩ ?_ ?_
  · rintro i σ' H' hi ⟨x, l, rfl, hl, hc, hs⟩
    walk_at "st"
    refine c_l_draw hs (by omega) fun d H2 h0 h1 hs2 => ?_
    walk_at "st"
    refine wp_ixSM (by decide) h0 h1 fun c hc2 _ => ?_
    refine wp_addS (by simp; omega) ?_
    walk_at "st"
    refine ⟨_, _, rfl, by simp; omega, fun c' h => ?_, hs2⟩
    rcases List.mem_append.mp h with h | h
    · exact hc _ h
    · rw [List.mem_singleton.mp h]
      exact z36.mp hc2
  · rintro σ' H' ⟨x, l, rfl, hl, hc, hs⟩
    walk_at "st"
    exact k l _ (by omega) hc hs
theorem len_l_word (K : PySem.W.Frag) (vs : List V) (H : Hp) (Q : VK) (E : XK) (h : sp_l_word K vs H Q E) : vs.length = 2 := by
  obtain ⟨P, m, G, rfl, _⟩ := h
  rfl
theorem c_l_word {K : PySem.W.Frag} {P : Pl} {G H : Hp} {n : Int} {Q : VK} {E : XK} (hs : Sees P G H) (h0 : 0 ≤ n ∧ n ≤ 100) (k : ∀ (l : List Nat) H', (l.length : Int) = n → (∀ c ∈ l, LD c) → Sees P G H' → Q (.str (S l)) H') : sp_l_word K [.ref P.p, .int n] H Q E :=
  ⟨P, n, G, rfl, h0.1, h0.2, hs, k⟩

def sp_l_names (K : PySem.W.Frag) : Sp := fun vs H Q _ => ∃ (P : Pl) (n : Int) (G : Hp), vs = [.ref P.p, .int n] ∧ 0 ≤ n ∧ n ≤ 12 ∧ Sees P G H ∧
  ∀ (ns : List (List Nat)) (q : Addr) (G' H' : Hp), (ns.length : Int) = n → (∀ l ∈ ns, Nm l) → ns.Nodup → Same G G' → G' q = some (.lst (ns.map sv)) → Sees P G' H' → Q (.ref q) H'
abbrev N_l_names : List Str := ["_law_pool_here", "_law_many", "_law_letters", "_law_signs", "_law_way", "_law_front", "_law_back", "_law_first", "_law_names_here", "_law_k", "_law_name", "_law_j"]
theorem st_l_names {a0 a1 : V} : L2.start N_l_names [a0, a1] = [some a0, some a1, none, none, none, none, none, none, none, none, none, none] := rfl
def t_l_names (K : PySem.W.Frag) : TS :=
  (tSeq ((tAsg (tC (.str (S Z26))) (gName 2)))
    ((tSeq ((tAsg (tC (.str (S Z36))) (gName 3)))
    ((tSeq ((tAsg ((tCall (sp_l_draw K) [] E0 ((tCons (tVar 0) ((tCons (tC (.int 3)) (tNil))))))) (gName 4)))
    ((tSeq ((tAsg ((tOp rAddStr ((tOp rIxS (tVar 2) ((tCall (sp_l_draw K) [] E0 ((tCons (tVar 0) ((tCons (tC (.int 26)) (tNil))))))))) ((tCall (sp_l_word K) [] E0 ((tCons (tVar 0) ((tCons ((tCall (sp_l_draw K) [] E0 ((tCons (tVar 0) ((tCons (tC (.int 4)) (tNil))))))) (tNil))))))))) (gName 5)))
    ((tSeq ((tAsg ((tCall (sp_l_word K) [] E0 ((tCons (tVar 0) ((tCons ((tCall (sp_l_draw K) [] E0 ((tCons (tVar 0) ((tCons (tC (.int 4)) (tNil))))))) (tNil))))))) (gName 6)))
    ((tSeq ((tAsg ((tCall (sp_l_draw K) [] E0 ((tCons (tVar 0) ((tCons (tC (.int 36)) (tNil))))))) (gName 7)))
    ((tSeq ((tAsg ((tLst (tNil))) (gName 8)))
    ((tSeq ((tFor ((iRng1 ((tCons (tVar 1) (tNil))))) (gName 9) ((tSeq ((tAsg ((tOp rAddStr ((tOp rAddStr (tVar 5) ((tOp rIxS (tVar 3) ((tOp (rI (fun _ j => 0 < j) fun i j => .int (i % j)) ((tCB rInt1 ((tCons ((tOp (rI0 fun i j => .int (i + j)) (tVar 7) ((tOp (rI CMul fun i j => .int (i * j)) (tC (.int 5)) (tVar 9))))) (tNil))))) (tC (.int 36)))))))) (tVar 6))) (gName 10)))
    ((C8.tCut ((tIfS ((tTest (tOp rEq (tVar 4) (tC (.int 1))))) ((tAsg ((tOp rAddStr ((tOp rIxS (tVar 2) ((tOp (rI (fun _ j => 0 < j) fun i j => .int (i % j)) ((tCB rInt1 ((tCons ((tOp (rI0 fun i j => .int (i + j)) (tVar 7) ((tOp (rI CMul fun i j => .int (i * j)) (tC (.int 5)) (tVar 9))))) (tNil))))) (tC (.int 26)))))) ((tCall (sp_l_word K) [] E0 ((tCons (tVar 0) ((tCons ((tCall (sp_l_draw K) [] E0 ((tCons (tVar 0) ((tCons (tC (.int 8)) (tNil))))))) (tNil))))))))) (gName 10))) (tNext)))
    ((C8.tCut ((tIfS ((tTest (tOp rEq (tVar 4) (tC (.int 2))))) ((tAsg ((tOp rAddStr ((tOp rIxS (tVar 2) ((tCall (sp_l_draw K) [] E0 ((tCons (tVar 0) ((tCons (tC (.int 26)) (tNil))))))))) ((tCall (sp_l_word K) [] E0 ((tCons (tVar 0) ((tCons ((tCall (sp_l_draw K) [] E0 ((tCons (tVar 0) ((tCons (tC (.int 8)) (tNil))))))) (tNil))))))))) (gName 10))) (tNext)))
    ((tSeq ((tFor ((iRng1 ((tCons (tC (.int 13)) (tNil))))) (gName 11) ((tIfS ((tAnd ((tTest (tOp (rIn K false) (tVar 10) (tVar 8)))) ((tTest (tOp (rIn K true) ((tOp rAddStr (tC (.str (S [122]))) ((tCB rStrInt ((tCons (tVar 11) (tNil))))))) (tVar 8)))))) ((tAsg ((tOp rAddStr (tC (.str (S [122]))) ((tCB rStrInt ((tCons (tVar 11) (tNil))))))) (gName 10))) (tNext)))))
    ((tDrop ((tBM K "list" rAppend (tVar 8) ((tCons (tVar 10) (tNil)))))))))))))))))
    ((tRet (tVar 8))))))))))))))))))

theorem pure_l_names (K : PySem.W.Frag) (vs : List V) (H : Hp) (Q : VK) (E : XK) (h : sp_l_names K vs H Q E) : t_l_names K { nx := fun _ H' => Q .non H', rt := Q } (L2.start N_l_names vs) H := by
  obtain ⟨P, n, G, rfl, hn, hn2, hs, k⟩ := h
  rw [st_l_names]
  unfold t_l_names
  walk_at "st"
  refine c_l_draw hs (by omega) fun way H1 w0 w1 hs1 => ?_
  walk_at "st"
  refine c_l_draw hs1 (by omega) fun d1 H2 a0 a1 hs2 => ?_
  walk_at "st"
  refine wp_ixSM (by decide) a0 a1 fun c1 hc1 _ => ?_
  walk_at "st"
  refine c_l_draw hs2 (by omega) fun d2 H3 b0 b1 hs3 => ?_
  walk_at "st"
  refine c_l_word hs3 (by omega) fun fr H4 f0 f1 hs4 => ?_
  refine wp_addS (by simp; omega) ?_
  walk_at "st"
  refine c_l_draw hs4 (by omega) fun d3 H5 e0 e1 hs5 => ?_
  walk_at "st"
  refine c_l_word hs5 (by omega) fun bk H6 g0 g1 hs6 => ?_
  walk_at "st"
  refine c_l_draw hs6 (by omega) fun fi H7 i0 i1 hs7 => ?_
  walk_at "st"
  refine ⟨Nat.zero_le _, fun q hq => ?_⟩
  obtain ⟨hG, hqp⟩ := hs7.fresh hq
  walk_at "st"
  refine loop1 (by omega) (fun i σ' H' => ∃ (x9 x10 x11 : Option V) (ns : List (List Nat)), σ' = [some (.ref P.p), some (.int n), some (.str (S Z26)), some (.str (S Z36)), some (.int way), some (.str (S ([c1] ++ fr))), some (.str (S bk)), some (.int fi), some (.ref q), x9, x10, x11] ∧
    ns.length = i ∧ (∀ l ∈ ns, Nm l) ∧ ns.Nodup ∧ H' q = some (.lst (ns.map sv)) ∧ Sees P G H') ⟨none, none, none, [], rfl, rfl, by simp, List.nodup_nil, upd_same, hs7.set hG hqp⟩ ?_ ?_
  · rintro i σ' H' hi ⟨x9, x10, x11, ns, rfl, hl, hnm, hnd, hqq, hs⟩
    walk_at "st"
    refine wp_ixSM (by decide) (Int.emod_nonneg _ (by omega)) (show _ < 36 from Int.emod_lt_of_pos _ (by omega)) fun c2 hc2 _ => ?_
    walk_at "st"
    have hc1' : LT c1 := z26.mp hc1
    have hc2' : LD c2 := z36.mp hc2
    have lt_ld : ∀ {c}, LT c → LD c := fun h => .inl h
    have mk1 : ∀ {a : Nat} {l : List Nat}, LT a → (∀ c ∈ l, LD c) → l.length ≤ 7 → Nm ([a] ++ l) := fun {a l} h1 h2 h3 => ⟨by simp; omega, ⟨a, l, rfl, h1⟩, fun c hc => by
      rcases List.mem_append.mp hc with h | h
      · rw [List.mem_singleton.mp h]; exact .inl h1
      · exact h2 c h⟩
    refine wp_cut (fun σ' H' => ∃ (nm : List Nat), σ' = [some (.ref P.p), some (.int n), some (.str (S Z26)), some (.str (S Z36)), some (.int way), some (.str (S ([c1] ++ fr))), some (.str (S bk)), some (.int fi), some (.ref q), some (.int i), some (.str (S nm)), x11] ∧ Nm nm ∧ H' q = some (.lst (ns.map sv)) ∧ Sees P G H') ?_ ?_
    · walk_at "st"
      refine ite_dec (fun h => ?_) (fun h => ?_)
      · walk_at "st"
        refine wp_ixSM (by decide) (Int.emod_nonneg _ (by omega)) (show _ < 26 from Int.emod_lt_of_pos _ (by omega)) fun c3 hc3 _ => ?_
        walk_at "st"
        refine c_l_draw (hs.with hG hqq hqp) (by omega) fun d4 H8 j0 j1 hs8 => ?_
        walk_at "st"
        refine c_l_word hs8 (by omega) fun w4 H9 k0 k1 hs9 => ?_
        walk_at "st"
        obtain ⟨hs10, hq10⟩ := hs9.back hs hG
        exact ⟨_, rfl, mk1 (z26.mp hc3) k1 (by omega), hq10, hs10⟩
      · walk_at "st"
        refine ⟨_, rfl, ?_, hqq, hs⟩
        have e : [c1] ++ fr ++ [c2] ++ bk = [c1] ++ (fr ++ [c2] ++ bk) := by simp
        rw [e]
        refine mk1 hc1' (fun c hc => ?_) (by simp; omega)
        rcases List.mem_append.mp hc with h | h
        · rcases List.mem_append.mp h with h | h
          · exact f1 c h
          · rw [List.mem_singleton.mp h]; exact hc2'
        · exact g1 c h
    · rintro σ' H8 ⟨nm, rfl, hnm1, hq8, hs8⟩
      refine wp_cut (fun σ' H' => ∃ (nm : List Nat), σ' = [some (.ref P.p), some (.int n), some (.str (S Z26)), some (.str (S Z36)), some (.int way), some (.str (S ([c1] ++ fr))), some (.str (S bk)), some (.int fi), some (.ref q), some (.int i), some (.str (S nm)), x11] ∧ Nm nm ∧ H' q = some (.lst (ns.map sv)) ∧ Sees P G H') ?_ ?_
      · walk_at "st"
        refine ite_dec (fun h => ?_) (fun h => ?_)
        · walk_at "st"
          refine c_l_draw (hs8.with hG hq8 hqp) (by omega) fun d4 H9 j0 j1 hs9 => ?_
          walk_at "st"
          refine wp_ixSM (by decide) j0 j1 fun c3 hc3 _ => ?_
          walk_at "st"
          refine c_l_draw hs9 (by omega) fun d5 H10 k0 k1 hs10 => ?_
          walk_at "st"
          refine c_l_word hs10 (by omega) fun w4 H11 l0 l1 hs11 => ?_
          walk_at "st"
          obtain ⟨hs12, hq12⟩ := hs11.back hs8 hG
          exact ⟨_, rfl, mk1 (z26.mp hc3) l1 (by omega), hq12, hs12⟩
        · walk_at "st"
          exact ⟨_, rfl, hnm1, hq8, hs8⟩
      · rintro σ' H9 ⟨nm, rfl, hnm1, hq9, hs9⟩
        walk_at "st"
        refine loop1 (by omega) (fun j σ' H' => ∃ (x11 : Option V) (nm : List Nat), σ' = [some (.ref P.p), some (.int n), some (.str (S Z26)), some (.str (S Z36)), some (.int way), some (.str (S ([c1] ++ fr))), some (.str (S bk)), some (.int fi), some (.ref q), some (.int i), some (.str (S nm)), x11] ∧
          Nm nm ∧ (nm ∉ ns ∨ ∀ a, a < j → zn a ∈ ns) ∧ H' = H9) ⟨x11, nm, rfl, hnm1, .inr (fun a h => absurd h (by omega)), rfl⟩ ?_ ?_
        · rintro j σ' H10 hj ⟨x, nm, rfl, hnm2, hout, rfl⟩
          walk_at "st"
          refine wp_inSv (sq_of hq9) ?_
          walk_at "st"
          refine ite_dec (fun h1 => ?_) (fun h1 => ?_)
          · walk_at "st"
            refine wp_strIntS (by omega) ?_
            refine wp_addS (by have := (zn_nm (j := j) (by omega)).len; unfold zn at this; simp at this ⊢; omega) ?_
            walk_at "st"
            refine wp_notInSv (sq_of hq9) ?_
            walk_at "st"
            refine ite_ndec (fun h2 => ?_) (fun h2 => ?_)
            · walk_at "st"
              refine wp_strIntS (by omega) ?_
              refine wp_addS (by have := (zn_nm (j := j) (by omega)).len; unfold zn at this; simp at this ⊢; omega) ?_
              walk_at "st"
              exact ⟨_, zn j, rfl, zn_nm (by omega), .inl h2, rfl⟩
            · walk_at "st"
              refine ⟨_, nm, rfl, hnm2, .inr fun a ha => ?_, rfl⟩
              rcases hout with h | h
              · exact absurd h1 h
              · by_cases e : a = j
                · rw [e]; exact h2
                · exact h a (by omega)
          · walk_at "st"
            exact ⟨_, nm, rfl, hnm2, .inl h1, rfl⟩
        · rintro σ' H10 ⟨x, nm, rfl, hnm2, hout, rfl⟩
          have hnot : nm ∉ ns := by
            rcases hout with h | h
            · exact h
            · exact absurd (zn_out (ns := ns) fun a ha => h a ha) (by omega)
          walk_at "st"
          refine wp_append hq9 (by rw [List.length_map]; omega) ?_
          walk_at "st"
          refine ⟨_, _, _, ns ++ [nm], rfl, by simp; omega, fun l h => ?_, ?_, ?_, hs9.set hG hqp⟩
          · rcases List.mem_append.mp h with h | h
            · exact hnm l h
            · rw [List.mem_singleton.mp h]; exact hnm2
          · refine List.nodup_append.mpr ⟨hnd, by simp, fun a ha b hb e => ?_⟩
            rw [List.mem_singleton] at hb
            rw [hb] at e
            exact hnot (e ▸ ha)
          · rw [List.map_append]; exact upd_same
  · rintro σ' H' ⟨x9, x10, x11, ns, rfl, hl, hnm, hnd, hqq, hs⟩
    walk_at "st"
    exact k ns q (upd G q (.lst (ns.map sv))) H' (by omega) hnm hnd (Same.new hG) upd_same (hs.with hG hqq hqp)
theorem len_l_names (K : PySem.W.Frag) (vs : List V) (H : Hp) (Q : VK) (E : XK) (h : sp_l_names K vs H Q E) : vs.length = 2 := by
  obtain ⟨P, m, G, rfl, _⟩ := h
  rfl
theorem c_l_names {K : PySem.W.Frag} {P : Pl} {G H : Hp} {n : Int} {Q : VK} {E : XK} (hs : Sees P G H) (h0 : 0 ≤ n ∧ n ≤ 12)
    (k : ∀ (ns : List (List Nat)) (q : Addr) (G' H' : Hp), (ns.length : Int) = n → (∀ l ∈ ns, Nm l) → ns.Nodup → Same G G' → G' q = some (.lst (ns.map sv)) → Sees P G' H' → Q (.ref q) H') : sp_l_names K [.ref P.p, .int n] H Q E :=
  ⟨P, n, G, rfl, h0.1, h0.2, hs, k⟩

def sp_l_length (K : PySem.W.Frag) : Sp := fun vs H Q _ => ∃ (P : Pl) (m : Int) (G : Hp), vs = [.ref P.p, .int m] ∧ 3 ≤ m ∧ m ≤ 120 ∧ Sees P G H ∧ ∀ T H', 3 ≤ T → T ≤ m ∨ T ≤ 8 → Sees P G H' → Q (.int T) H'
abbrev N_l_length : List Str := ["_law_pool_here", "_law_most", "_law_way"]
theorem st_l_length {a0 a1 : V} : L2.start N_l_length [a0, a1] = [some a0, some a1, none] := rfl
def t_l_length (K : PySem.W.Frag) : TS :=
  (tSeq ((tAsg ((tCall (sp_l_draw K) [] E0 ((tCons (tVar 0) ((tCons (tC (.int 8)) (tNil))))))) (gName 2)))
    ((tSeq ((tIfS ((tTest (tOp (rI0 fun i j => .bl (decide (i < j))) (tVar 2) (tC (.int 4))))) ((tRet ((tOp (rI0 fun i j => .int (i + j)) (tC (.int 3)) ((tCall (sp_l_draw K) [] E0 ((tCons (tVar 0) ((tCons (tC (.int 6)) (tNil))))))))))) (tNext)))
    ((tSeq ((tIfS ((tTest (tOp (rI0 fun i j => .bl (decide (i < j))) (tVar 2) (tC (.int 7))))) ((tRet ((tCB rMin2 ((tCons (tVar 1) ((tCons ((tOp (rI0 fun i j => .int (i + j)) (tC (.int 9)) ((tCall (sp_l_draw K) [] E0 ((tCons (tVar 0) ((tCons (tC (.int 22)) (tNil))))))))) (tNil))))))))) (tNext)))
    ((tRet ((tCB rMax2 ((tCons (tC (.int 3)) ((tCons ((tOp (rI0 fun i j => .int (i - j)) (tVar 1) ((tCall (sp_l_draw K) [] E0 ((tCons (tVar 0) ((tCons (tVar 1) (tNil))))))))) (tNil))))))))))))))

theorem pure_l_length (K : PySem.W.Frag) (vs : List V) (H : Hp) (Q : VK) (E : XK) (h : sp_l_length K vs H Q E) : t_l_length K { nx := fun _ H' => Q .non H', rt := Q } (L2.start N_l_length vs) H := by
  obtain ⟨P, m, G, rfl, hm, hm2, hs, k⟩ := h
  rw [st_l_length]
  unfold t_l_length
  walk_at "st"
  refine c_l_draw hs (by omega) fun way H1 w0 w1 hs1 => ?_
  walk_at "st"
  refine ite_dec (fun h1 => ?_) (fun h1 => ?_)
  · walk_at "st"
    refine c_l_draw hs1 (by omega) fun d H2 d0 d1 hs2 => ?_
    walk_at "st"
    exact k _ _ (by omega) (.inr (by omega)) hs2
  · walk_at "st"
    refine ite_dec (fun h2 => ?_) (fun h2 => ?_)
    · walk_at "st"
      refine c_l_draw hs1 (by omega) fun d H2 d0 d1 hs2 => ?_
      walk_at "st"
      exact k _ _ (by split <;> omega) (.inl (by split <;> omega)) hs2
    · walk_at "st"
      refine c_l_draw hs1 (by omega) fun d H2 d0 d1 hs2 => ?_
      walk_at "st"
      exact k _ _ (by split <;> omega) (.inl (by split <;> omega)) hs2
theorem len_l_length (K : PySem.W.Frag) (vs : List V) (H : Hp) (Q : VK) (E : XK) (h : sp_l_length K vs H Q E) : vs.length = 2 := by
  obtain ⟨P, m, G, rfl, _⟩ := h
  rfl
theorem c_l_length {K : PySem.W.Frag} {P : Pl} {G H : Hp} {m : Int} {Q : VK} {E : XK} (hs : Sees P G H) (h0 : 3 ≤ m ∧ m ≤ 120) (k : ∀ T H', 3 ≤ T → T ≤ m ∨ T ≤ 8 → Sees P G H' → Q (.int T) H') : sp_l_length K [.ref P.p, .int m] H Q E :=
  ⟨P, m, G, rfl, h0.1, h0.2, hs, k⟩
def sp_l_changes (K : PySem.W.Frag) : Sp := fun vs H Q _ => ∃ (P : Pl) (G : Hp) (n : Nat) (T : Int), vs = [.ref P.p, .int n, .int T] ∧ Sees P G H ∧ n ≤ 100 ∧ 3 ≤ T ∧ T ≤ 1000 ∧ ∀ (q : Addr) (is : List Int) G' H', is.length = n → (∀ j ∈ is, -5000 ≤ j ∧ j ≤ 5000) → Same G G' → Sees P G' H' → G' q = some (.lst (is.map V.int)) → Q (.ref q) H' 
abbrev N_l_changes : List Str := ["_law_pool_here", "_law_many", "_law_length_here", "_law_way", "_law_turned", "_law_changes_here", "_law_k", "_law_step"]
theorem st_l_changes {a0 a1 a2 : V} : L2.start N_l_changes [a0, a1, a2] = [some a0, some a1, some a2, none, none, none, none, none] := rfl
def t_l_changes (K : PySem.W.Frag) : TS :=
  (tSeq ((tAsg ((tCall (sp_l_draw K) [] E0 ((tCons (tVar 0) ((tCons (tC (.int 4)) (tNil))))))) (gName 3)))
    ((tSeq ((tAsg ((tOp (rI CMul fun i j => .int (i * j)) ((tCall (sp_l_draw K) [] E0 ((tCons (tVar 0) ((tCons (tC (.int 2)) (tNil))))))) ((tCall (sp_l_draw K) [] E0 ((tCons (tVar 0) ((tCons (tVar 2) (tNil))))))))) (gName 4)))
    ((tSeq ((tAsg ((tLst (tNil))) (gName 5)))
    ((tSeq ((tFor ((iRng1 ((tCons (tVar 1) (tNil))))) (gName 6) ((tSeq ((tAsg (tC (.int 0)) (gName 7)))
    ((tSeq ((tIfS ((tOr ((tTest (tOp rEq (tVar 3) (tC (.int 1))))) ((tTest (tOp rEq (tVar 3) (tC (.int 2))))))) ((tAsg ((tOp (rI0 fun i j => .int (i - j)) ((tCall (sp_l_draw K) [] E0 ((tCons (tVar 0) ((tCons (tC (.int 5)) (tNil))))))) (tC (.int 2)))) (gName 7))) (tNext)))
    ((tSeq ((tIfS ((tTest (tOp rEq (tVar 3) (tC (.int 3))))) ((tAsg ((tOp (rI0 fun i j => .int (i - j)) ((tCall (sp_l_draw K) [] E0 ((tCons (tVar 0) ((tCons ((tOp (rI CMul fun i j => .int (i * j)) (tC (.int 2)) (tVar 2))) (tNil))))))) (tVar 2))) (gName 7))) (tNext)))
    ((tDrop ((tBM K "list" rAppend (tVar 5) ((tCons ((tOp (rI0 fun i j => .int (i + j)) (tVar 4) (tVar 7))) (tNil)))))))))))))))
    ((tRet (tVar 5))))))))))

theorem pure_l_changes (K : PySem.W.Frag) (vs : List V) (H : Hp) (Q : VK) (E : XK) (h : sp_l_changes K vs H Q E) : t_l_changes K { nx := fun _ H' => Q .non H', rt := Q } (L2.start N_l_changes vs) H := by
  obtain ⟨P, G, n, T, rfl, hs, n1, t0, t1, k⟩ := h
  rw [st_l_changes]
  unfold t_l_changes
  walk_at "st"
  refine c_l_draw hs (by omega) fun way H1 w0 w1 hs1 => ?_
  walk_at "st"
  refine c_l_draw hs1 (by omega) fun a H2 a0 a1 hs2 => ?_
  walk_at "st"
  refine c_l_draw hs2 (by omega) fun b H3 b0 b1 hs3 => ?_
  have tb : 0 ≤ a * b ∧ a * b ≤ 1000 := by
    rcases (show a = 0 ∨ a = 1 by omega) with rfl | rfl
    · omega
    · omega
  walk_at "st"
  generalize a * b = tn at tb
  walk_at "st"
  refine ⟨Nat.zero_le _, fun L hL => ?_⟩
  obtain ⟨gL, nL⟩ := hs3.fresh hL
  have nLl : L ≠ P.l := fun e => by rw [e, hs3.cell] at gL; cases gL
  walk_at "st"
  refine loop1 (by omega) (fun i σ' H' => ∃ (x y : Option V) (is : List Int) (G' : Hp), σ' = [some (.ref P.p), some (.int n), some (.int T), some (.int way), some (.int tn), some (.ref L), x, y] ∧ Same G G' ∧ Sees P G' H' ∧ G' L = some (.lst (is.map V.int)) ∧ is.length = i ∧ ∀ j ∈ is, -5000 ≤ j ∧ j ≤ 5000) ⟨_, _, [], _, rfl, Same.new gL, hs3.new hL, upd_same, rfl, by simp⟩ ?_ ?_
  · rintro i σ' H' hi ⟨x, y, is, G', rfl, g1, hs4, eL, li, bd⟩
    walk_at "st"
    refine ite_dec (fun h => ?_) (fun h => ?_)
    · walk_at "st"
      refine c_l_draw hs4 (by omega) fun e H5 e0 e1 hs5 => ?_
      walk_at "st"
      refine wp_append (hs5.sub _ _ eL) (by rw [List.length_map]; omega) ?_
      walk_at "st"
      refine ⟨_, _, is ++ [tn + (e - 2)], upd G' L (.lst ((is ++ [tn + (e - 2)]).map V.int)), rfl, Same.mut g1 gL, by rw [List.map_append]; exact hs5.putG nLl nL, upd_same, by rw [List.length_append, li, List.length_singleton], fun j hj => ?_⟩
      rcases List.mem_append.mp hj with hj | hj
      · exact bd j hj
      · rw [List.mem_singleton.mp hj]; omega
    · walk_at "st"
      refine ite_dec (fun h2 => ?_) (fun h2 => ?_)
      · walk_at "st"
        refine c_l_draw hs4 (by omega) fun e H5 e0 e1 hs5 => ?_
        walk_at "st"
        refine wp_append (hs5.sub _ _ eL) (by rw [List.length_map]; omega) ?_
        walk_at "st"
        refine ⟨_, _, is ++ [tn + (e - 2)], upd G' L (.lst ((is ++ [tn + (e - 2)]).map V.int)), rfl, Same.mut g1 gL, by rw [List.map_append]; exact hs5.putG nLl nL, upd_same, by rw [List.length_append, li, List.length_singleton], fun j hj => ?_⟩
        rcases List.mem_append.mp hj with hj | hj
        · exact bd j hj
        · rw [List.mem_singleton.mp hj]; omega
      · walk_at "st"
        refine ite_dec (fun h3 => ?_) (fun h3 => ?_)
        · walk_at "st"
          refine c_l_draw hs4 (by omega) fun e H5 e0 e1 hs5 => ?_
          walk_at "st"
          refine wp_append (hs5.sub _ _ eL) (by rw [List.length_map]; omega) ?_
          walk_at "st"
          refine ⟨_, _, is ++ [tn + (e - T)], upd G' L (.lst ((is ++ [tn + (e - T)]).map V.int)), rfl, Same.mut g1 gL, by rw [List.map_append]; exact hs5.putG nLl nL, upd_same, by rw [List.length_append, li, List.length_singleton], fun j hj => ?_⟩
          rcases List.mem_append.mp hj with hj | hj
          · exact bd j hj
          · rw [List.mem_singleton.mp hj]; omega
        · walk_at "st"
          refine wp_append (hs4.sub _ _ eL) (by rw [List.length_map]; omega) ?_
          walk_at "st"
          refine ⟨_, _, is ++ [tn + 0], upd G' L (.lst ((is ++ [tn + 0]).map V.int)), rfl, Same.mut g1 gL, by rw [List.map_append]; exact hs4.putG nLl nL, upd_same, by rw [List.length_append, li, List.length_singleton], fun j hj => ?_⟩
          rcases List.mem_append.mp hj with hj | hj
          · exact bd j hj
          · rw [List.mem_singleton.mp hj]; omega
  · rintro σ' H' ⟨x, y, is, G', rfl, g1, hs4, eL, li, bd⟩
    walk_at "st"
    exact k L is G' H' (by omega) bd g1 hs4 eL
theorem len_l_changes (K : PySem.W.Frag) (vs : List V) (H : Hp) (Q : VK) (E : XK) (h : sp_l_changes K vs H Q E) : vs.length = 3 := by
  obtain ⟨_, _, _, _, rfl, _⟩ := h
  rfl
theorem c_l_changes {K : PySem.W.Frag} {P : Pl} {G H : Hp} {n : Nat} {T : Int} {Q : VK} {E : XK} (hs : Sees P G H) (n1 : n ≤ 100) (t0 : 3 ≤ T) (t1 : T ≤ 1000) (k : ∀ (q : Addr) (is : List Int) G' H', is.length = n → (∀ j ∈ is, -5000 ≤ j ∧ j ≤ 5000) → Same G G' → Sees P G' H' → G' q = some (.lst (is.map V.int)) → Q (.ref q) H') : sp_l_changes K [.ref P.p, .int n, .int T] H Q E := ⟨P, G, n, T, rfl, hs, n1, t0, t1, k⟩
def sp_l_weight (K : PySem.W.Frag) : Sp := fun vs H Q _ => ∃ (P : Pl) (G : Hp), vs = [.ref P.p] ∧ Sees P G H ∧ ∀ (n : Int) H', 0 ≤ n → n ≤ 99 → Sees P G H' → Q (.int n) H' 
abbrev N_l_weight : List Str := ["_law_pool_here"]
theorem st_l_weight {a0 : V} : L2.start N_l_weight [a0] = [some a0] := rfl
def t_l_weight (K : PySem.W.Frag) : TS :=
  (tSeq ((tIfS ((tTest (tOp rEq ((tCall (sp_l_draw K) [] E0 ((tCons (tVar 0) ((tCons (tC (.int 3)) (tNil))))))) (tC (.int 0))))) ((tRet ((tCall (sp_l_draw K) [] E0 ((tCons (tVar 0) ((tCons (tC (.int 100)) (tNil))))))))) (tNext)))
    ((tRet ((tCall (sp_l_draw K) [] E0 ((tCons (tVar 0) ((tCons (tC (.int 4)) (tNil))))))))))

theorem pure_l_weight (K : PySem.W.Frag) (vs : List V) (H : Hp) (Q : VK) (E : XK) (h : sp_l_weight K vs H Q E) : t_l_weight K { nx := fun _ H' => Q .non H', rt := Q } (L2.start N_l_weight vs) H := by
  obtain ⟨P, G, rfl, hs, k⟩ := h
  rw [st_l_weight]
  unfold t_l_weight
  walk_at "st"
  refine c_l_draw hs (by omega) fun a H1 a0 a1 hs1 => ?_
  walk_at "st"
  refine ite_dec (fun h => ?_) (fun h => ?_)
  · walk_at "st"
    exact c_l_draw hs1 (by omega) fun d H2 d0 d1 hs2 => k d H2 d0 (by omega) hs2
  · walk_at "st"
    exact c_l_draw hs1 (by omega) fun d H2 d0 d1 hs2 => k d H2 d0 (by omega) hs2
theorem len_l_weight (K : PySem.W.Frag) (vs : List V) (H : Hp) (Q : VK) (E : XK) (h : sp_l_weight K vs H Q E) : vs.length = 1 := by
  obtain ⟨_, _, rfl, _⟩ := h
  rfl
theorem c_l_weight {K : PySem.W.Frag} {P : Pl} {G H : Hp} {Q : VK} {E : XK} (hs : Sees P G H) (k : ∀ (n : Int) H', 0 ≤ n → n ≤ 99 → Sees P G H' → Q (.int n) H') : sp_l_weight K [.ref P.p] H Q E := ⟨P, G, rfl, hs, k⟩
def sp_l_some (K : PySem.W.Frag) : Sp := fun vs H Q _ => ∃ (P : Pl) (m : Int) (G : Hp), vs = [.ref P.p, .int m] ∧ 0 ≤ m ∧ m ≤ 1000 ∧ Sees P G H ∧ ∀ n H', 0 ≤ n → n ≤ m → Sees P G H' → Q (.int n) H'
abbrev N_l_some : List Str := ["_law_pool_here", "_law_most", "_law_way"]
theorem st_l_some {a0 a1 : V} : L2.start N_l_some [a0, a1] = [some a0, some a1, none] := rfl
def t_l_some (K : PySem.W.Frag) : TS :=
  (tSeq ((tAsg ((tCall (sp_l_draw K) [] E0 ((tCons (tVar 0) ((tCons (tC (.int 4)) (tNil))))))) (gName 2)))
    ((tSeq ((tIfS ((tTest (tOp rEq (tVar 2) (tC (.int 0))))) ((tRet (tVar 1))) (tNext)))
    ((tSeq ((tIfS ((tTest (tOp rEq (tVar 2) (tC (.int 1))))) ((tRet ((tCall (sp_l_draw K) [] E0 ((tCons (tVar 0) ((tCons ((tOp (rI0 fun i j => .int (i + j)) (tVar 1) (tC (.int 1)))) (tNil))))))))) (tNext)))
    ((tRet ((tCall (sp_l_draw K) [] E0 ((tCons (tVar 0) ((tCons ((tOp (rI0 fun i j => .int (i + j)) ((tCB rMin2 ((tCons (tVar 1) ((tCons (tC (.int 2)) (tNil))))))) (tC (.int 1)))) (tNil))))))))))))))

theorem pure_l_some (K : PySem.W.Frag) (vs : List V) (H : Hp) (Q : VK) (E : XK) (h : sp_l_some K vs H Q E) : t_l_some K { nx := fun _ H' => Q .non H', rt := Q } (L2.start N_l_some vs) H := by
  obtain ⟨P, m, G, rfl, hm, hm2, hs, k⟩ := h
  rw [st_l_some]
  unfold t_l_some
  walk_at "st"
  refine c_l_draw hs (by omega) fun way H1 w0 w1 hs1 => ?_
  walk_at "st"
  refine ite_dec (fun h1 => ?_) (fun h1 => ?_)
  · walk_at "st"
    exact k _ _ hm (by omega) hs1
  · walk_at "st"
    refine ite_dec (fun h2 => ?_) (fun h2 => ?_)
    · walk_at "st"
      refine c_l_draw hs1 (by omega) fun d H2 d0 d1 hs2 => ?_
      exact k _ _ (by omega) (by omega) hs2
    · walk_at "st"
      have e : (0 : Int) < (if (2 : Int) < m then 2 else m) + 1 ∧ (if (2 : Int) < m then 2 else m) + 1 < 1073741824 ∧ (if (2 : Int) < m then 2 else m) ≤ m := by split <;> omega
      refine c_l_draw hs1 ⟨e.1, Int.lt_of_lt_of_le e.2.1 (by decide)⟩ fun d H2 d0 d1 hs2 => ?_
      exact k _ _ (by omega) (by have := e.2.2; omega) hs2
theorem len_l_some (K : PySem.W.Frag) (vs : List V) (H : Hp) (Q : VK) (E : XK) (h : sp_l_some K vs H Q E) : vs.length = 2 := by
  obtain ⟨P, m, G, rfl, _⟩ := h
  rfl
theorem c_l_some {K : PySem.W.Frag} {P : Pl} {G H : Hp} {m : Int} {Q : VK} {E : XK} (hs : Sees P G H) (h0 : 0 ≤ m ∧ m ≤ 1000) (k : ∀ n H', 0 ≤ n → n ≤ m → Sees P G H' → Q (.int n) H') : sp_l_some K [.ref P.p, .int m] H Q E :=
  ⟨P, m, G, rfl, h0.1, h0.2, hs, k⟩
def sp_l_window (K : PySem.W.Frag) : Sp := fun vs H Q _ => ∃ (P : Pl) (G : Hp) (T a c : Int) (b : Bool), vs = [.ref P.p, .int T, .int a, .int c, .bl b] ∧ Sees P G H ∧ 3 ≤ T ∧ T ≤ 1000 ∧ -20000 ≤ a ∧ a ≤ 20000 ∧ -20000 ≤ c ∧ c ≤ 20000 ∧
  (∀ p G' H', Same G G' → Sees P G' H' → G' p = some (.lst []) → Q (.ref p) H') ∧ ∀ p (x y : Int) G' H', 0 ≤ x → x < T → x ≤ y → y ≤ x + T - 3 → Same G G' → Sees P G' H' → G' p = some (.lst [.int x, .int y]) → KeepW T x y a → KeepW T x y (a + c) → Q (.ref p) H' 
abbrev N_l_window : List Str := ["_law_pool_here", "_law_length_here", "_law_start", "_law_change", "_law_straight", "_law_low", "_law_high", "_law_rest", "_law_side", "_law_room", "_law_below", "_law_above", "_law_least"]
theorem st_l_window {a0 a1 a2 a3 a4 : V} : L2.start N_l_window [a0, a1, a2, a3, a4] = [some a0, some a1, some a2, some a3, some a4, none, none, none, none, none, none, none, none] := rfl
def t_l_window (K : PySem.W.Frag) : TS :=
  (tSeq ((tAsg ((tCB rMin2 ((tCons (tC (.int 0)) ((tCons (tVar 3) (tNil))))))) (gName 5)))
    ((tSeq ((tAsg ((tCB rMax2 ((tCons (tC (.int 0)) ((tCons (tVar 3) (tNil))))))) (gName 6)))
    ((C8.tCut ((tIfS ((tOr ((tNot ((tB (tVar 4))))) ((tTest (tOp (rI0 fun i j => .bl (decide (j < i))) ((tOp (rI0 fun i j => .int (i - j)) (tVar 6) (tVar 5))) ((tOp (rI0 fun i j => .int (i - j)) (tVar 1) (tC (.int 3))))))))) ((tSeq ((tAsg ((tOp (rI (fun _ j => 0 < j) fun i j => .int (i % j)) ((tCB rInt1 ((tCons (tVar 3) (tNil))))) (tVar 1))) (gName 7)))
    ((tSeq ((tAsg ((tCall (sp_l_draw K) [] E0 ((tCons (tVar 0) ((tCons (tC (.int 2)) (tNil))))))) (gName 8)))
    ((tSeq ((tAsg (tC (.int 0)) (gName 5)))
    ((tSeq ((tAsg (tVar 7) (gName 6)))
    ((tSeq ((tIfS ((tOr ((tTest (tOp (rI0 fun i j => .bl (decide (j < i))) (tVar 7) ((tOp (rI0 fun i j => .int (i - j)) (tVar 1) (tC (.int 3))))))) ((tAnd ((tTest (tOp rEq (tVar 8) (tC (.int 1))))) ((tTest (tOp (rI0 fun i j => .bl (decide (j ≤ i))) (tVar 7) (tC (.int 3))))))))) ((tSeq ((tAsg ((tOp (rI0 fun i j => .int (i - j)) (tVar 7) (tVar 1))) (gName 5)))
    ((tAsg (tC (.int 0)) (gName 6))))) (tNext)))
    ((tIfS ((tTest (tOp (rI0 fun i j => .bl (decide (j < i))) ((tOp (rI0 fun i j => .int (i - j)) (tVar 6) (tVar 5))) ((tOp (rI0 fun i j => .int (i - j)) (tVar 1) (tC (.int 3))))))) ((tRet ((tLst (tNil))))) (tNext))))))))))))) (tNext)))
    ((tSeq ((tAsg ((tOp (rI0 fun i j => .int (i - j)) ((tOp (rI0 fun i j => .int (i - j)) (tVar 1) (tC (.int 3)))) ((tOp (rI0 fun i j => .int (i - j)) (tVar 6) (tVar 5))))) (gName 9)))
    ((tSeq ((tAsg ((tCall (sp_l_some K) [] E0 ((tCons (tVar 0) ((tCons (tVar 9) (tNil))))))) (gName 10)))
    ((tSeq ((tAsg ((tCall (sp_l_some K) [] E0 ((tCons (tVar 0) ((tCons ((tOp (rI0 fun i j => .int (i - j)) (tVar 9) (tVar 10))) (tNil))))))) (gName 11)))
    ((tSeq ((tAsg ((tOp (rI (fun _ j => 0 < j) fun i j => .int (i % j)) ((tCB rInt1 ((tCons ((tOp (rI0 fun i j => .int (i - j)) ((tOp (rI0 fun i j => .int (i + j)) (tVar 2) (tVar 5))) (tVar 10))) (tNil))))) (tVar 1))) (gName 12)))
    ((tRet ((tLst ((tCons (tVar 12) ((tCons ((tOp (rI0 fun i j => .int (i + j)) ((tOp (rI0 fun i j => .int (i - j)) ((tOp (rI0 fun i j => .int (i + j)) ((tOp (rI0 fun i j => .int (i + j)) (tVar 12) (tVar 10))) (tVar 6))) (tVar 5))) (tVar 11))) (tNil))))))))))))))))))))))

theorem pure_l_window (K : PySem.W.Frag) (vs : List V) (H : Hp) (Q : VK) (E : XK) (h : sp_l_window K vs H Q E) : t_l_window K { nx := fun _ H' => Q .non H', rt := Q } (L2.start N_l_window vs) H := by
  obtain ⟨P, G, T, a, c, b, rfl, hs, t0, t1, a0, a1, c0, c1, k0, k⟩ := h
  rw [st_l_window]
  unfold t_l_window
  walk_at "st"
  refine wp_cut (fun σ' H' => ∃ (lo hi : Int) (x y : Option V), σ' = [some (.ref P.p), some (.int T), some (.int a), some (.int c), some (.bl b), some (.int lo), some (.int hi), x, y, none, none, none, none] ∧ 0 ≤ hi - lo ∧ hi - lo ≤ T - 3 ∧ -30000 ≤ lo ∧ lo ≤ 30000 ∧ (lo ≤ 0 ∧ 0 ≤ hi ∧ ∃ e : Int, c % T = e % T ∧ lo ≤ e ∧ e ≤ hi) ∧ Sees P G H') ?_ ?_
  · have r0 : 0 ≤ c % T := Int.emod_nonneg _ (by omega)
    have r1 : c % T < T := Int.emod_lt_of_pos _ (by omega)
    have T0 : 0 < T := by omega
    have ea : c % T = (c % T) % T := (Int.emod_emod c T).symm
    have eb : c % T = (c % T - T) % T := by rw [Int.sub_emod, Int.emod_self, Int.sub_zero, Int.emod_emod, Int.emod_emod]
    walk_at "st"
    cases b
    · rw [show (!false) = true from rfl]
      walk_at "st"
      refine c_l_draw hs (by omega) fun e H1 e0 e1 hs1 => ?_
      walk_at "st"
      refine ite_dec (fun h2 => ?_) (fun h2 => ?_)
      · walk_at "st"
        refine ite_dec (fun h4 => ?_) (fun h4 => ?_)
        · walk_at "st"
          refine ⟨Nat.zero_le _, fun p hp => ?_⟩
          obtain ⟨G4, hs4, g4, e4⟩ := hs1.new' (.lst []) hp
          exact k0 p G4 _ g4 hs4 e4
        · walk_at "st"
          exact ⟨_, _, _, _, rfl, by omega, by omega, by omega, by omega, ⟨by omega, by omega, (by first | exact ⟨_, ea, by omega, by omega⟩ | exact ⟨_, eb, by omega, by omega⟩)⟩, hs1⟩
      · walk_at "st"
        refine ite_dec (fun h3 => ?_) (fun h3 => ?_)
        · walk_at "st"
          refine ite_dec (fun h5 => ?_) (fun h5 => ?_)
          · walk_at "st"
            exact ⟨_, _, _, _, rfl, by omega, by omega, by omega, by omega, ⟨by omega, by omega, (by first | exact ⟨_, ea, by omega, by omega⟩ | exact ⟨_, eb, by omega, by omega⟩)⟩, hs1⟩
          · walk_at "st"
            exact ⟨_, _, _, _, rfl, by omega, by omega, by omega, by omega, ⟨by omega, by omega, (by first | exact ⟨_, ea, by omega, by omega⟩ | exact ⟨_, eb, by omega, by omega⟩)⟩, hs1⟩
        · walk_at "st"
          exact ⟨_, _, _, _, rfl, by omega, by omega, by omega, by omega, ⟨by omega, by omega, (by first | exact ⟨_, ea, by omega, by omega⟩ | exact ⟨_, eb, by omega, by omega⟩)⟩, hs1⟩
    · rw [show (!true) = false from rfl]
      walk_at "st"
      refine ite_dec (fun h => ?_) (fun h => ?_)
      · walk_at "st"
        refine c_l_draw hs (by omega) fun e H1 e0 e1 hs1 => ?_
        walk_at "st"
        refine ite_dec (fun h2 => ?_) (fun h2 => ?_)
        · walk_at "st"
          refine ite_dec (fun h4 => ?_) (fun h4 => ?_)
          · walk_at "st"
            refine ⟨Nat.zero_le _, fun p hp => ?_⟩
            obtain ⟨G4, hs4, g4, e4⟩ := hs1.new' (.lst []) hp
            exact k0 p G4 _ g4 hs4 e4
          · walk_at "st"
            exact ⟨_, _, _, _, rfl, by omega, by omega, by omega, by omega, ⟨by omega, by omega, (by first | exact ⟨_, ea, by omega, by omega⟩ | exact ⟨_, eb, by omega, by omega⟩)⟩, hs1⟩
        · walk_at "st"
          refine ite_dec (fun h3 => ?_) (fun h3 => ?_)
          · walk_at "st"
            refine ite_dec (fun h5 => ?_) (fun h5 => ?_)
            · walk_at "st"
              exact ⟨_, _, _, _, rfl, by omega, by omega, by omega, by omega, ⟨by omega, by omega, (by first | exact ⟨_, ea, by omega, by omega⟩ | exact ⟨_, eb, by omega, by omega⟩)⟩, hs1⟩
            · walk_at "st"
              exact ⟨_, _, _, _, rfl, by omega, by omega, by omega, by omega, ⟨by omega, by omega, (by first | exact ⟨_, ea, by omega, by omega⟩ | exact ⟨_, eb, by omega, by omega⟩)⟩, hs1⟩
          · walk_at "st"
            exact ⟨_, _, _, _, rfl, by omega, by omega, by omega, by omega, ⟨by omega, by omega, (by first | exact ⟨_, ea, by omega, by omega⟩ | exact ⟨_, eb, by omega, by omega⟩)⟩, hs1⟩
      · walk_at "st"
        refine ⟨_, _, _, _, rfl, ?_, ?_, ?_, ?_, ⟨?_, ?_, c, rfl, ?_, ?_⟩, hs⟩
        all_goals first | (split <;> split <;> omega) | (split <;> omega) | omega
  · rintro σ' H' ⟨lo, hi, x, y, rfl, d0, d1, l0, l1, ⟨z0, z1, e, ee, f0, f1⟩, hs1⟩
    walk_at "st"
    refine c_l_some hs1 (by omega) fun be H2 b0 b1 hs2 => ?_
    walk_at "st"
    refine c_l_some hs2 (by omega) fun ab H3 i0 i1 hs3 => ?_
    walk_at "st"
    have m0 : 0 ≤ (a + lo - be) % T := Int.emod_nonneg _ (by omega)
    have m1 : (a + lo - be) % T < T := Int.emod_lt_of_pos _ (by omega)
    refine ⟨by simp [sizeLine_eq], fun p hp => ?_⟩
    obtain ⟨G4, hs4, g4, e4⟩ := hs3.new' (.lst [.int ((a + lo - be) % T), .int ((a + lo - be) % T + be + hi - lo + ab)]) hp
    refine k p _ _ G4 _ m0 m1 (by omega) (by omega) g4 hs4 e4 (keepW_of (d := be - lo) (by rw [show a - (a + lo - be) = be - lo by omega]) (by omega) (by omega) (by omega)) (keepW_of (d := e + (be - lo)) ?_ (by omega) (by omega) (by omega))
    rw [show a + c - (a + lo - be) = c + (be - lo) by omega]
    exact emod_add ee
theorem len_l_window (K : PySem.W.Frag) (vs : List V) (H : Hp) (Q : VK) (E : XK) (h : sp_l_window K vs H Q E) : vs.length = 5 := by
  obtain ⟨_, _, _, _, _, _, rfl, _⟩ := h
  rfl
theorem c_l_window {K : PySem.W.Frag} {P : Pl} {G H : Hp} {T a c : Int} {b : Bool} {Q : VK} {E : XK} (hs : Sees P G H) (t0 : 3 ≤ T) (t1 : T ≤ 1000) (a0 : -20000 ≤ a) (a1 : a ≤ 20000) (c0 : -20000 ≤ c) (c1 : c ≤ 20000) (k0 : ∀ p G' H', Same G G' → Sees P G' H' → G' p = some (.lst []) → Q (.ref p) H')
    (k : ∀ p (x y : Int) G' H', 0 ≤ x → x < T → x ≤ y → y ≤ x + T - 3 → Same G G' → Sees P G' H' → G' p = some (.lst [.int x, .int y]) → KeepW T x y a → KeepW T x y (a + c) → Q (.ref p) H') : sp_l_window K [.ref P.p, .int T, .int a, .int c, .bl b] H Q E := ⟨P, G, T, a, c, b, rfl, hs, t0, t1, a0, a1, c0, c1, k0, k⟩
def sp_l_span (K : PySem.W.Frag) : Sp := fun vs H Q _ => ∃ (P : Pl) (T : Int) (q B D : Addr) (ns : List (List Nat)) (bs cs : List Int) (k : Int) (b : Bool) (G : Hp), vs = [.ref P.p, .int T, .ref q, .ref B, .ref D, .int k, .bl b] ∧ OkNs T ns ∧ 2 ≤ ns.length ∧ G q = some (.lst (ns.map sv)) ∧
  G B = some (.lst (bs.map V.int)) ∧ G D = some (.lst (cs.map V.int)) ∧ bs.length = ns.length ∧ cs.length = ns.length ∧ (∀ j ∈ bs, 0 ≤ j ∧ j < T) ∧ (∀ j ∈ cs, -5000 ≤ j ∧ j ≤ 5000) ∧ 0 ≤ k ∧ k ≤ 1000 ∧ Sees P G H ∧
  (∀ p G' H', Same G G' → Sees P G' H' → G' p = some (.lst []) → Q (.ref p) H') ∧ ∀ p x G' H', IsSpK G' T ns bs cs x → Same G G' → Sees P G' H' → G' p = some (.lst [x]) → Q (.ref p) H'
abbrev N_l_span : List Str := ["_law_pool_here", "_law_length_here", "_law_names_here", "_law_before", "_law_changes_here", "_law_k", "_law_straight", "_law_many", "_law_u", "_law_v", "_law_window_here"]
theorem st_l_span {a0 a1 a2 a3 a4 a5 a6 : V} : L2.start N_l_span [a0, a1, a2, a3, a4, a5, a6] = [some a0, some a1, some a2, some a3, some a4, some a5, some a6, none, none, none, none] := rfl
def t_l_span (K : PySem.W.Frag) : TS :=
  (tSeq ((tAsg ((tCB (rLenS K) ((tCons (tVar 2) (tNil))))) (gName 7)))
    ((tSeq ((tAsg ((tCall (sp_l_draw K) [] E0 ((tCons (tVar 0) ((tCons (tVar 7) (tNil))))))) (gName 8)))
    ((tSeq ((tAsg ((tOp (rI (fun _ j => 0 < j) fun i j => .int (i % j)) ((tCB rInt1 ((tCons ((tOp (rI0 fun i j => .int (i + j)) ((tOp (rI0 fun i j => .int (i + j)) (tVar 8) (tC (.int 1)))) ((tCall (sp_l_draw K) [] E0 ((tCons (tVar 0) ((tCons ((tOp (rI0 fun i j => .int (i - j)) (tVar 7) (tC (.int 1)))) (tNil))))))))) (tNil))))) (tVar 7))) (gName 9)))
    ((C8.tCut ((tIfS ((tAnd ((tTest (tOp (rI0 fun i j => .bl (decide (i < j))) ((tOp (rI0 fun i j => .int (i + j)) (tVar 5) (tC (.int 1)))) (tVar 7)))) ((tTest (tOp (rI0 fun i j => .bl (decide (j < i))) ((tCall (sp_l_draw K) [] E0 ((tCons (tVar 0) ((tCons (tC (.int 4)) (tNil))))))) (tC (.int 0))))))) ((tSeq ((tAsg ((tOp (rI0 fun i j => .int (i + j)) (tVar 5) (tC (.int 1)))) (gName 8)))
    ((tSeq ((tAsg ((tCall (sp_l_draw K) [] E0 ((tCons (tVar 0) ((tCons ((tOp (rI0 fun i j => .int (i + j)) (tVar 5) (tC (.int 1)))) (tNil))))))) (gName 9)))
    ((tIfS ((tTest (tOp rEq ((tCall (sp_l_draw K) [] E0 ((tCons (tVar 0) ((tCons (tC (.int 2)) (tNil))))))) (tC (.int 1))))) ((tSeq ((tAsg (tVar 9) (gName 8)))
    ((tAsg ((tOp (rI0 fun i j => .int (i + j)) (tVar 5) (tC (.int 1)))) (gName 9))))) (tNext))))))) (tNext)))
    ((tSeq ((tAsg ((tCall (sp_l_window K) [] E0 ((tCons (tVar 0) ((tCons (tVar 1) ((tCons ((tOp (rI0 fun i j => .int (i - j)) ((tOp (rIxL K) (tVar 3) (tVar 9))) ((tOp (rIxL K) (tVar 3) (tVar 8))))) ((tCons ((tOp (rI0 fun i j => .int (i - j)) ((tOp (rIxL K) (tVar 4) (tVar 9))) ((tOp (rIxL K) (tVar 4) (tVar 8))))) ((tCons (tVar 6) (tNil))))))))))))) (gName 10)))
    ((tSeq ((tIfS ((tTest (tOp (rEqD K) (tVar 10) ((tLst (tNil)))))) ((tRet ((tLst (tNil))))) (tNext)))
    ((tRet ((tLst ((tCons ((tTup ((tCons ((tOp (rIxL K) (tVar 2) (tVar 8))) ((tCons ((tOp (rIxL K) (tVar 2) (tVar 9))) ((tCons ((tOp (rIxL K) (tVar 10) (tC (.int 0)))) ((tCons ((tOp (rIxL K) (tVar 10) (tC (.int 1)))) ((tCons ((tCall (sp_l_weight K) [] E0 ((tCons (tVar 0) (tNil))))) (tNil))))))))))))) (tNil))))))))))))))))))

theorem pure_l_span (K : PySem.W.Frag) (vs : List V) (H : Hp) (Q : VK) (E : XK) (h : sp_l_span K vs H Q E) : t_l_span K { nx := fun _ H' => Q .non H', rt := Q } (L2.start N_l_span vs) H := by
  obtain ⟨P, T, q, B, D, ns, bs, cs, k, b, G, rfl, ok, hl, hq, hB, hD, lb, lc, bb, bc, k0, k1, hs, kn, ky⟩ := h
  have t0 := ok.t0
  have t1 := ok.t1
  have f := ok.few
  have el : (ns.map sv).length = ns.length := List.length_map ..
  rw [st_l_span]
  unfold t_l_span
  walk_at "st"
  refine c_l_draw hs (by omega) fun u H1 u0 u1 hs1 => ?_
  walk_at "st"
  refine c_l_draw hs1 (by omega) fun d H2 d0 d1 hs2 => ?_
  walk_at "st"
  rw [el] at u1 d1 ⊢
  have v0 : 0 ≤ (u + 1 + d) % (ns.length : Int) := Int.emod_nonneg _ (by omega)
  have v1 : (u + 1 + d) % (ns.length : Int) < ns.length := Int.emod_lt_of_pos _ (by omega)
  have vne : u ≠ (u + 1 + d) % (ns.length : Int) := fun e => by
    by_cases hh : u + 1 + d < ns.length
    · rw [Int.emod_eq_of_lt (by omega) hh] at e; omega
    · have e2 : u + 1 + d = (u + 1 + d - ns.length) + ns.length := by omega
      rw [e2, Int.add_emod_right, Int.emod_eq_of_lt (by omega) (by omega)] at e
      omega
  revert v0 v1 vne
  generalize (u + 1 + d) % (ns.length : Int) = v
  intro v0 v1 vne
  refine wp_cut (fun σ' H' => ∃ (u v : Int), σ' = [some (.ref P.p), some (.int T), some (.ref q), some (.ref B), some (.ref D), some (.int k), some (.bl b), some (.int (ns.length : Nat)), some (.int u), some (.int v), none] ∧ 0 ≤ u ∧ u < ns.length ∧ 0 ≤ v ∧ v < ns.length ∧ u ≠ v ∧ Sees P G H') ?_ ?_
  · walk_at "st"
    refine ite_dec (fun h1 => ?_) (fun h1 => ?_)
    · walk_at "st"
      refine c_l_draw hs2 (by omega) fun e H3 e0 e1 hs3 => ?_
      walk_at "st"
      refine ite_dec (fun h2 => ?_) (fun h2 => ?_)
      · walk_at "st"
        refine c_l_draw hs3 (by omega) fun w H4 w0 w1 hs4 => ?_
        walk_at "st"
        refine c_l_draw hs4 (by omega) fun y H5 y0 y1 hs5 => ?_
        walk_at "st"
        refine ite_dec (fun h3 => ?_) (fun h3 => ?_)
        · walk_at "st"
          exact ⟨_, _, rfl, by omega, by omega, by omega, by omega, by omega, hs5⟩
        · walk_at "st"
          exact ⟨_, _, rfl, by omega, by omega, by omega, by omega, by omega, hs5⟩
      · walk_at "st"
        exact ⟨_, _, rfl, u0, u1, v0, v1, vne, hs3⟩
    · walk_at "st"
      exact ⟨_, _, rfl, u0, u1, v0, v1, vne, hs2⟩
  · clear vne v1 v0 u0 u1 hs1 hs2
    rintro σ' H' ⟨u, v, rfl, u0, u1, v0, v1, vne, hs3⟩
    walk_at "st"
    have lb' : (bs.map V.int).length = ns.length := by rw [List.length_map]; exact lb
    have lc' : (cs.map V.int).length = ns.length := by rw [List.length_map]; exact lc
    refine wp_ixLM (sq_of (hs3.sub _ _ hB)) v0 (by omega) fun x _ hx => ?_
    obtain ⟨bv, rfl, ebv⟩ := ixI hx
    walk_at "st"
    refine wp_ixLM (sq_of (hs3.sub _ _ hB)) u0 (by omega) fun x _ hx => ?_
    obtain ⟨bu, rfl, ebu⟩ := ixI hx
    walk_at "st"
    refine wp_ixLM (sq_of (hs3.sub _ _ hD)) v0 (by omega) fun x _ hx => ?_
    obtain ⟨cv, rfl, ecv⟩ := ixI hx
    walk_at "st"
    refine wp_ixLM (sq_of (hs3.sub _ _ hD)) u0 (by omega) fun x _ hx => ?_
    obtain ⟨cu, rfl, ecu⟩ := ixI hx
    walk_at "st"
    have b1 := bb _ (List.mem_of_getElem? ebv)
    have b2 := bb _ (List.mem_of_getElem? ebu)
    have b3 := bc _ (List.mem_of_getElem? ecv)
    have b4 := bc _ (List.mem_of_getElem? ecu)
    refine c_l_window hs3 (by omega) (by omega) (by omega) (by omega) (by omega) (by omega) (fun W G4 H4 g4 hs4 hW => ?_) (fun W x y G4 H4 x0 x1 y0 y1 g4 hs4 hW w1 w2 => ?_)
    · walk_at "st"
      refine ⟨Nat.zero_le _, fun z hz => ?_⟩
      refine wp_eqNL (ds := []) (Same.new hz _ _ (hs4.sub _ _ hW)) upd_same .nil rfl ?_
      rw [show decide (([] : List PyData) = []) = true from rfl]
      obtain ⟨G5, hs5, g5, _⟩ := hs4.new' (.lst []) hz
      walk_at "st"
      refine ⟨Nat.zero_le _, fun p hp => ?_⟩
      obtain ⟨G6, hs6, g6, e6⟩ := hs5.new' (.lst []) hp
      exact kn p G6 _ (g4.trans (g5.trans g6)) hs6 e6
    · walk_at "st"
      refine ⟨Nat.zero_le _, fun z hz => ?_⟩
      refine wp_eqNL (ds := [.int x, .int y]) (Same.new hz _ _ (hs4.sub _ _ hW)) upd_same (.cons (.int _) (.cons (.int _) .nil)) rfl ?_
      rw [show decide (([.int x, .int y] : List PyData) = []) = false from rfl]
      obtain ⟨G5, hs5, g5, _⟩ := hs4.new' (.lst []) hz
      have g45 := g4.trans g5
      walk_at "st"
      refine wp_ixLM (sq_of (hs5.sub _ _ (g45 _ _ hq))) u0 (by omega) fun n1 m1 hn1 => ?_
      walk_at "st"
      refine wp_ixLM (sq_of (hs5.sub _ _ (g45 _ _ hq))) v0 (by omega) fun n2 m2 hn2 => ?_
      have hW5 := hs5.sub _ _ (g5 _ _ hW)
      walk_at "st"
      refine c_l_weight hs5 fun w H6 w0 w1' hs6 => ?_
      walk_at "st"
      rw [List.getElem?_map] at hn1 hn2
      obtain ⟨nu, e1, rfl⟩ := Option.map_eq_some_iff.mp hn1
      obtain ⟨nv, e2, rfl⟩ := Option.map_eq_some_iff.mp hn2
      have hne : nu ≠ nv := fun e => by
        subst e
        have := nodup_ix ok.nodup e1 e2
        omega
      refine ⟨by simp [sizeLine_eq], fun p hp => ?_⟩
      have row : OkR T ns ⟨nu, nv, x, y, w⟩ := ⟨List.mem_of_getElem? e1, List.mem_of_getElem? e2, hne, x0, by show x ≤ T - 1; omega, y0, by show y ≤ x + T - 3; omega, w0, w1'⟩
      have hs7 := hs6.new (o := .tup (rowV ⟨nu, nv, x, y, w⟩)) hp
      have g7 : Same G5 (upd G5 p (.tup (rowV ⟨nu, nv, x, y, w⟩))) := Same.new (hs6.sub.free hp)
      walk_at "st"
      refine ⟨by simp [sizeLine_eq], fun L hL => ?_⟩
      obtain ⟨G8, hs8, g8, e8⟩ := hs7.new' (.lst [.ref p]) hL
      refine ky L (.ref p) G8 _ (IsSpK.mono g8 ⟨⟨nu, nv, x, y, w⟩, ⟨p, rfl, upd_same⟩, row, u.toNat, v.toNat, bu, bv, cu, cv, e1, e2, ebu, ebv, ecu, ecv, w1, w2⟩) (g45.trans (g7.trans g8)) hs8 e8
theorem len_l_span (K : PySem.W.Frag) (vs : List V) (H : Hp) (Q : VK) (E : XK) (h : sp_l_span K vs H Q E) : vs.length = 7 := by
  obtain ⟨_, _, _, _, _, _, _, _, _, _, _, rfl, _⟩ := h
  rfl
theorem c_l_span {K : PySem.W.Frag} {P : Pl} {T : Int} {q B D : Addr} {ns : List (List Nat)} {bs cs : List Int} {k : Int} {b : Bool} {G H : Hp} {Q : VK} {E : XK} (hs : Sees P G H) (ok : OkNs T ns) (hl : 2 ≤ ns.length) (hq : G q = some (.lst (ns.map sv))) (hB : G B = some (.lst (bs.map V.int))) (hD : G D = some (.lst (cs.map V.int))) (lb : bs.length = ns.length) (lc : cs.length = ns.length)
    (bb : ∀ j ∈ bs, 0 ≤ j ∧ j < T) (bc : ∀ j ∈ cs, -5000 ≤ j ∧ j ≤ 5000) (k0 : 0 ≤ k) (k1 : k ≤ 1000) (kn : ∀ p G' H', Same G G' → Sees P G' H' → G' p = some (.lst []) → Q (.ref p) H') (ky : ∀ p x G' H', IsSpK G' T ns bs cs x → Same G G' → Sees P G' H' → G' p = some (.lst [x]) → Q (.ref p) H') :
    sp_l_span K [.ref P.p, .int T, .ref q, .ref B, .ref D, .int k, .bl b] H Q E := ⟨P, T, q, B, D, ns, bs, cs, k, b, G, rfl, ok, hl, hq, hB, hD, lb, lc, bb, bc, k0, k1, hs, kn, ky⟩
def sp_l_case (K : PySem.W.Frag) : Sp := fun vs H Q _ => ∃ (P : Pl) (G : Hp) (e m : Nat) (tm : Int), vs = [.ref P.p, .int e, .int m, .int tm] ∧ Sees P G H ∧ e ≤ 12 ∧ m ≤ 24 ∧ 3 ≤ tm ∧ tm ≤ 120 ∧
  ∀ L T N S A B ns ss bs cs G' H', Case P G' L e m tm T N S A B ns ss bs cs → Same G G' → Sees P G' H' → Q (.ref L) H'
abbrev N_l_case : List Str := ["_law_pool_here", "_law_most_events", "_law_most_spans", "_law_most_length", "_law_length_here", "_law_many", "_law_names_here", "_law_before", "_law_changes_here", "_law_crooked", "_law_spans", "_law_k", "_law_straight", "_law_cut", "_law_after", "_law_name"]
theorem st_l_case {a0 a1 a2 a3 : V} : L2.start N_l_case [a0, a1, a2, a3] = [some a0, some a1, some a2, some a3, none, none, none, none, none, none, none, none, none, none, none, none] := rfl
def t_l_case (K : PySem.W.Frag) : TS :=
  (tSeq ((tAsg ((tCall (sp_l_length K) [] E0 ((tCons (tVar 0) ((tCons (tVar 3) (tNil))))))) (gName 4)))
    ((tSeq ((tAsg ((tCall (sp_l_draw K) [] E0 ((tCons (tVar 0) ((tCons ((tOp (rI0 fun i j => .int (i + j)) (tVar 1) (tC (.int 1)))) (tNil))))))) (gName 5)))
    ((tSeq ((tAsg ((tCall (sp_l_names K) [] E0 ((tCons (tVar 0) ((tCons (tVar 5) (tNil))))))) (gName 6)))
    ((tSeq ((tAsg ((tLc ((iList K (tVar 6))) ((gName 15)) (tYes) ((tCall (sp_l_draw K) [] E0 ((tCons (tVar 0) ((tCons (tVar 4) (tNil))))))) [15])) (gName 7)))
    ((tSeq ((tAsg ((tCall (sp_l_changes K) [] E0 ((tCons (tVar 0) ((tCons (tVar 5) ((tCons (tVar 4) (tNil))))))))) (gName 8)))
    ((tSeq ((tAsg ((tOp rEq ((tCall (sp_l_draw K) [] E0 ((tCons (tVar 0) ((tCons (tC (.int 4)) (tNil))))))) (tC (.int 0)))) (gName 9)))
    ((tSeq ((tAsg ((tLst (tNil))) (gName 10)))
    ((C8.tCut ((tIfS ((tTest (tOp (rI0 fun i j => .bl (decide (j < i))) (tVar 5) (tC (.int 1))))) ((tFor ((iRng1 ((tCons ((tCall (sp_l_draw K) [] E0 ((tCons (tVar 0) ((tCons ((tOp (rI0 fun i j => .int (i + j)) (tVar 2) (tC (.int 1)))) (tNil))))))) (tNil))))) (gName 11) ((tSeq ((tAsg (tC (.bl true)) (gName 12)))
    ((C8.tCut ((tIfS ((tB (tVar 9))) ((tAsg ((tOp rEq ((tCall (sp_l_draw K) [] E0 ((tCons (tVar 0) ((tCons (tC (.int 2)) (tNil))))))) (tC (.int 0)))) (gName 12))) (tNext)))
    ((tAsg ((tOp rCat (tVar 10) ((tCall (sp_l_span K) [] E0 ((tCons (tVar 0) ((tCons (tVar 4) ((tCons (tVar 6) ((tCons (tVar 7) ((tCons (tVar 8) ((tCons (tVar 11) ((tCons (tVar 12) (tNil))))))))))))))))))) (gName 10))))))))) (tNext)))
    ((tSeq ((tAsg ((tCall (sp_l_draw K) [] E0 ((tCons (tVar 0) ((tCons ((tOp (rI0 fun i j => .int (i + j)) ((tCB (rLenS K) ((tCons (tVar 10) (tNil))))) (tC (.int 1)))) (tNil))))))) (gName 13)))
    ((tSeq ((tAsg ((tOp rCat ((tSl (rSlL K) (tVar 10) (tPart (tVar 13)) tNoPart)) ((tSl (rSlL K) (tVar 10) tNoPart (tPart (tVar 13)))))) (gName 10)))
    ((tSeq ((tAsg (tLc ((iRng1 ((tCons (tVar 5) (tNil))))) ((gName 11)) (tYes) ((tOp (rI (fun _ j => 0 < j) fun i j => .int (i % j)) ((tCB rInt1 ((tCons ((tOp (rI0 fun i j => .int (i + j)) ((tOp (rIxL K) (tVar 7) (tVar 11))) ((tOp (rIxL K) (tVar 8) (tVar 11))))) (tNil))))) (tVar 4))) [11]) (gName 14)))
    ((tRet ((tLst ((tCons (tVar 4) ((tCons (tVar 6) ((tCons (tVar 10) ((tCons (tVar 7) ((tCons (tVar 14) (tNil))))))))))))))))))))))))))))))))))))

theorem pure_l_case (K : PySem.W.Frag) (vs : List V) (H : Hp) (Q : VK) (E : XK) (h : sp_l_case K vs H Q E) : t_l_case K { nx := fun _ H' => Q .non H', rt := Q } (L2.start N_l_case vs) H := by
  obtain ⟨P, G, e, m, tm, rfl, hs, e1, m1, tm0, tm1, k⟩ := h
  rw [st_l_case]
  unfold t_l_case
  walk_at "st"
  refine c_l_length hs (by omega) fun T H1 t0 t1 hs1 => ?_
  walk_at "st"
  refine c_l_draw hs1 (by omega) fun n H2 n0 n1 hs2 => ?_
  walk_at "st"
  refine c_l_names hs2 (by omega) fun ns q G3 H3 el nnm nnd sG3 hq hs3 => ?_
  have elm : (ns.map sv).length = ns.length := List.length_map ..
  obtain rfl : n = (ns.length : Nat) := el.symm
  clear hs1 hs2
  have ok : OkNs T ns := ⟨t0, by omega, by omega, nnd, nnm⟩
  walk_at "st"
  refine lcPL (by omega) hs3 (sq_of (hs3.sub _ _ hq)) (fun H' s => sq_of (s.sub _ _ hq)) (fun i acc => ∃ is : List Int, acc = is.map V.int ∧ is.length = i ∧ ∀ j ∈ is, 0 ≤ j ∧ j < T) ⟨[], rfl, rfl, by simp⟩ (fun i x acc G2 H2 R hx' s1 s2 hl hI kR => ?_) (fun B acc H4 hs' hs4 hs'' hl hI => ?_)
  · obtain ⟨l, _, rfl⟩ := List.mem_map.mp (List.mem_of_getElem? hx')
    obtain ⟨is, rfl, li, ri⟩ := hI
    rw [show wipe ([some (.ref P.p), some (.int e), some (.int m), some (.int tm), some (.int T), some (.int (ns.length : Nat)), some (.ref q), none, none, none, none, none, none, none, none, none] : L2.St) [15] = [some (.ref P.p), some (.int e), some (.int m), some (.int tm), some (.int T), some (.int (ns.length : Nat)), some (.ref q), none, none, none, none, none, none, none, none, none] from rfl]
    show gName 15 (sv l) _ _ _
    walk_at "st"
    refine ⟨rfl, ?_⟩
    walk_at "st"
    refine c_l_draw s2 (by omega) fun d H5 d0 d1 s5 => ?_
    refine kR _ _ s5 ⟨is ++ [d], by rw [List.map_append]; rfl, by simp [li], fun j hj => ?_⟩
    rcases List.mem_append.mp hj with h | h
    · exact ri j h
    · rw [List.mem_singleton.mp h]; omega
  obtain ⟨bs, rfl, lb, bb⟩ := hI
  rw [elm] at lb
  have gs := hs3.sub.free hs'
  have sG4 := Same.new (o := .lst (bs.map V.int)) gs
  have hs5 := hs4.with gs hs'' (hs3.fresh hs').2
  have hq := sG4 _ _ hq
  have hB : upd G3 B (.lst (bs.map V.int)) B = some (.lst (bs.map V.int)) := upd_same
  have sGa := sG3.trans sG4
  clear hs3 hs4 hs' hs'' gs sG4 sG3
  revert hs5 hq hB sGa
  generalize upd G3 B (.lst (bs.map V.int)) = G4
  intro hs5 hq hB sGa
  walk_at "st"
  refine c_l_changes hs5 (by omega) t0 (by omega) fun D cs G5 H5 lc bc g5 hs6 hD => ?_
  have hq := g5 _ _ hq
  have hB := g5 _ _ hB
  have sGb := sGa.trans g5
  clear sGa hs5 g5
  walk_at "st"
  refine c_l_draw hs6 (by omega) fun cr H6 cr0 cr1 hs7 => ?_
  walk_at "st"
  generalize decide (cr = 0) = crk
  refine ⟨Nat.zero_le _, fun S0 hS0 => ?_⟩
  obtain ⟨G7, hs8, g7, hS7⟩ := hs7.new' (.lst []) hS0
  have hq := g7 _ _ hq
  have hB := g7 _ _ hB
  have hD := g7 _ _ hD
  have sGc := sGb.trans g7
  clear sGb hs6 hs7 g7 hS0
  walk_at "st"
  refine wp_cut (fun σ' H' => ∃ (S : Addr) (x y : Option V) (ss : List V) (G' : Hp), σ' = [some (.ref P.p), some (.int e), some (.int m), some (.int tm), some (.int T), some (.int (ns.length : Nat)), some (.ref q), some (.ref B), some (.ref D), some (.bl crk), some (.ref S), x, y, none, none, none] ∧ ss.length ≤ m ∧ (∀ z ∈ ss, IsSpK G' T ns bs cs z) ∧ (2 ≤ ns.length ∨ ss = []) ∧ G' S = some (.lst ss) ∧ Same G7 G' ∧ Sees P G' H') ?_ ?_
  · walk_at "st"
    refine ite_dec (fun h1 => ?_) (fun h1 => ?_)
    · walk_at "st"
      refine c_l_draw hs8 (by omega) fun c H8 c0 c1 hs9 => ?_
      walk_at "st"
      refine loop1 (by omega) (fun i σ' H' => ∃ (S : Addr) (x y : Option V) (ss : List V) (G' : Hp), σ' = [some (.ref P.p), some (.int e), some (.int m), some (.int tm), some (.int T), some (.int (ns.length : Nat)), some (.ref q), some (.ref B), some (.ref D), some (.bl crk), some (.ref S), x, y, none, none, none] ∧ ss.length ≤ i ∧ (∀ z ∈ ss, IsSpK G' T ns bs cs z) ∧ G' S = some (.lst ss) ∧ Same G7 G' ∧ Sees P G' H') ⟨_, _, _, [], _, rfl, Nat.zero_le _, by simp, hS7, Same.refl _, hs9⟩ ?_ ?_
      · rintro i σ' H' hi ⟨S, x, y, ss, G', rfl, hl, hsp, hS, sg, hs10⟩
        walk_at "st"
        refine wp_cut (fun σ' H' => ∃ (b : Bool), σ' = [some (.ref P.p), some (.int e), some (.int m), some (.int tm), some (.int T), some (.int (ns.length : Nat)), some (.ref q), some (.ref B), some (.ref D), some (.bl crk), some (.ref S), some (.int i), some (.bl b), none, none, none] ∧ Sees P G' H') ?_ ?_
        · cases crk
          · walk_at "st"
            exact ⟨_, rfl, hs10⟩
          · walk_at "st"
            refine c_l_draw hs10 (by omega) fun d H11 d0 d1 hs11 => ?_
            walk_at "st"
            exact ⟨_, rfl, hs11⟩
        · rintro σ' H11 ⟨b, rfl, hs11⟩
          walk_at "st"
          refine c_l_span hs11 ok (by omega) (sg _ _ hq) (sg _ _ hB) (sg _ _ hD) lb lc bb bc (by omega) (by omega) (fun p G12 H12 g12 hs12 hp => ?_) (fun p z G12 H12 hz g12 hs12 hp => ?_)
          · walk_at "st"
            refine wp_cat (hs12.sub _ _ (g12 _ _ hS)) (hs12.sub _ _ hp) (by simp only [List.length_nil]; omega) fun r hr => ?_
            obtain ⟨G13, hs13, g13, hr13⟩ := hs12.new' (.lst (ss ++ [])) hr
            walk_at "st"
            exact ⟨r, _, _, ss, G13, rfl, by omega, fun z hz => (hsp z hz).mono (g12.trans g13), by rw [List.append_nil] at hr13; exact hr13, sg.trans (g12.trans g13), hs13⟩
          · walk_at "st"
            refine wp_cat (hs12.sub _ _ (g12 _ _ hS)) (hs12.sub _ _ hp) (by simp only [List.length_cons, List.length_nil]; omega) fun r hr => ?_
            obtain ⟨G13, hs13, g13, hr13⟩ := hs12.new' (.lst (ss ++ [z])) hr
            walk_at "st"
            refine ⟨r, _, _, ss ++ [z], G13, rfl, by simp; omega, fun y hy => ?_, hr13, sg.trans (g12.trans g13), hs13⟩
            rcases List.mem_append.mp hy with hy | hy
            · exact (hsp y hy).mono (g12.trans g13)
            · rw [List.mem_singleton.mp hy]
              exact hz.mono g13
      · rintro σ' H' ⟨S, x, y, ss, G', rfl, hl, hsp, hS, sg, hs10⟩
        walk_at "st"
        exact ⟨S, _, _, ss, G', rfl, by omega, hsp, .inl (by omega), hS, sg, hs10⟩
    · walk_at "st"
      exact ⟨S0, _, _, [], _, rfl, Nat.zero_le _, by simp, .inr rfl, hS7, Same.refl _, hs8⟩
  · rintro σ' H' ⟨S, x, y, ss, G', rfl, hl, hsp, htwo, hS, sg, hs9⟩
    have hq := sg _ _ hq
    have hB := sg _ _ hB
    have hD := sg _ _ hD
    have sGd := sGc.trans sg
    clear sGc sg hs8 hS7
    walk_at "st"
    refine c_l_draw hs9 (by omega) fun c H10 c0 c1 hs10 => ?_
    walk_at "st"
    refine wp_sliceL (sq_of (hs10.sub _ _ hS)) fun p1 hp1 => ?_
    obtain ⟨G11, hs11, g11, e11⟩ := hs10.new' (.lst (cutG ss (some c) none)) hp1
    walk_at "st"
    refine wp_sliceL (sq_of (hs11.sub _ _ (g11 _ _ hS))) fun p2 hp2 => ?_
    obtain ⟨G12, hs12, g12, e12⟩ := hs11.new' (.lst (cutG ss none (some c))) hp2
    have e11 := g12 _ _ e11
    rw [cutG_from1 c0 (by omega)] at e11
    rw [cutG_to1 c0 (by omega)] at e12
    walk_at "st"
    refine wp_cat (hs12.sub _ _ e11) (hs12.sub _ _ e12) (by rw [List.length_drop, List.length_take]; omega) fun p3 hp3 => ?_
    obtain ⟨G13, hs13, g13, e13⟩ := hs12.new' (.lst (ss.drop c.toNat ++ ss.take c.toNat)) hp3
    have gg := g11.trans (g12.trans g13)
    have hq := gg _ _ hq
    have hB := gg _ _ hB
    have hD := gg _ _ hD
    have sGe := sGd.trans gg
    have hsp2 : ∀ z ∈ ss.drop c.toNat ++ ss.take c.toNat, IsSpK G13 T ns bs cs z := fun z hz => (hsp z ((List.mem_append.mp hz).elim List.mem_of_mem_drop List.mem_of_mem_take)).mono gg
    have hl2 : (ss.drop c.toNat ++ ss.take c.toNat).length = ss.length := by rw [List.length_append, List.length_drop, List.length_take]; omega
    have htwo2 : 2 ≤ ns.length ∨ ss.drop c.toNat ++ ss.take c.toNat = [] := htwo.imp_right fun z => by rw [z]; simp
    clear hs10 hs11 hs12 g11 g12 g13 e11 e12 sGd
    revert hsp2 hl2 htwo2 e13 hs13
    generalize ss.drop c.toNat ++ ss.take c.toNat = zs
    intro hs13 e13 hsp2 hl2 htwo2
    walk_at "st"
    refine lcGR (by omega) (fun i => ((List.range i).map (aft T bs cs)).map V.int) rfl (fun i => by rw [List.length_map, List.length_map, List.length_range]; omega) (fun i H14 R R0 hi s14 k1 _ => ?_) (fun A H14 hA s14 hA2 => ?_)
    · rw [show wipe ([some (.ref P.p), some (.int e), some (.int m), some (.int tm), some (.int T), some (.int (ns.length : Nat)), some (.ref q), some (.ref B), some (.ref D), some (.bl crk), some (.ref p3), x, y, some (.int c), none, none] : L2.St) [11] = [some (.ref P.p), some (.int e), some (.int m), some (.int tm), some (.int T), some (.int (ns.length : Nat)), some (.ref q), some (.ref B), some (.ref D), some (.bl crk), some (.ref p3), none, y, some (.int c), none, none] from rfl]
      have hs14 := hs13.same s14
      walk_at "st"
      refine ⟨rfl, ?_⟩
      walk_at "st"
      refine wp_ixLM (sq_of (hs14.sub _ _ hB)) (by omega) (by rw [List.length_map]; omega) fun x1 _ hx1 => ?_
      obtain ⟨b1, rfl, eb1⟩ := ixI hx1
      walk_at "st"
      refine wp_ixLM (sq_of (hs14.sub _ _ hD)) (by omega) (by rw [List.length_map]; omega) fun x2 _ hx2 => ?_
      obtain ⟨b2, rfl, eb2⟩ := ixI hx2
      walk_at "st"
      refine k1 _ _ (Same.refl _) ?_
      rw [Int.toNat_natCast] at eb1 eb2
      rw [List.range_succ, List.map_append, List.map_append]
      show _ = _ ++ [V.int ((b1 + b2) % T)]
      rw [show (b1 + b2) % T = aft T bs cs i from by unfold aft; rw [List.getD_eq_getElem?_getD, List.getD_eq_getElem?_getD, eb1, eb2]; rfl]
      rfl
    have gA := hs13.sub.free hA
    have hs15 := (hs13.same s14).with gA hA2 (hs13.fresh hA).2
    have g15 := Same.new (o := .lst (((List.range ns.length).map (aft T bs cs)).map V.int)) gA
    walk_at "st"
    refine ⟨by simp [sizeLine_eq], fun L hL => ?_⟩
    obtain ⟨G16, hs16, g16, e16⟩ := hs15.new' (.lst [.int T, .ref q, .ref p3, .ref B, .ref A]) hL
    have g56 := g15.trans g16
    exact k L T q p3 A B ns zs bs cs G16 _ ⟨ok, by omega, by omega, t1, fun z hz => (hsp2 z hz).mono g56, htwo2, lb, lc, bb, bc, e16, g56 _ _ hq, g56 _ _ e13, g56 _ _ hB, g16 _ _ upd_same⟩ (sGe.trans g56) hs16
theorem len_l_case (K : PySem.W.Frag) (vs : List V) (H : Hp) (Q : VK) (E : XK) (h : sp_l_case K vs H Q E) : vs.length = 4 := by
  obtain ⟨_, _, _, _, _, rfl, _⟩ := h
  rfl
theorem c_l_case {K : PySem.W.Frag} {P : Pl} {G H : Hp} {e m : Int} {tm : Int} {Q : VK} {E : XK} (hs : Sees P G H) (e0 : 0 ≤ e ∧ e ≤ 12) (m0 : 0 ≤ m ∧ m ≤ 24) (tm0 : 3 ≤ tm ∧ tm ≤ 120) (k : ∀ L T N S A B ns ss bs cs G' H', Case P G' L e.toNat m.toNat tm T N S A B ns ss bs cs → Same G G' → Sees P G' H' → Q (.ref L) H') :
    sp_l_case K [.ref P.p, .int e, .int m, .int tm] H Q E := by
  obtain ⟨a, rfl⟩ : ∃ a : Nat, e = a := ⟨e.toNat, by omega⟩
  obtain ⟨b, rfl⟩ : ∃ b : Nat, m = b := ⟨m.toNat, by omega⟩
  exact ⟨P, G, a, b, tm, rfl, hs, by omega, by omega, tm0.1, tm0.2, k⟩
def sp_l_walk (K : PySem.W.Frag) : Sp := fun vs H Q _ => ∃ (P : Pl) (G : Hp) (q s : Addr) (ns : List (List Nat)) (ss : List V) (rs : List Row) (m : Nat), vs = [.ref P.p, .ref q, .ref s, .int m] ∧ Sees P G H ∧ G q = some (.lst (ns.map sv)) ∧ G s = some (.lst ss) ∧ Rws G ss rs ∧ ns.length ≤ 1000 ∧ ss.length ≤ 1000 ∧ m ≤ 1000 ∧
  ∀ L xs ws G' H', ws.length ≤ m → (ws = [] ∨ ∃ a b, a ∈ ns ∧ Wk rs ws a b) → StI G' xs ws → G' L = some (.lst xs) → Same G G' → Sees P G' H' → Q (.ref L) H'
abbrev N_l_walk : List Str := ["_law_pool_here", "_law_names_here", "_law_spans", "_law_many", "_law_walk_here", "_law_here", "_law_k", "_law_steps_here", "_law_step", "_law_number"]
theorem st_l_walk {a0 a1 a2 a3 : V} : L2.start N_l_walk [a0, a1, a2, a3] = [some a0, some a1, some a2, some a3, none, none, none, none, none, none] := rfl
def t_l_walk (K : PySem.W.Frag) : TS :=
  (tSeq ((tAsg ((tLst (tNil))) (gName 4)))
    ((tSeq ((tIfS ((tTest (tOp rEq ((tCB (rLenS K) ((tCons (tVar 1) (tNil))))) (tC (.int 0))))) ((tRet (tVar 4))) (tNext)))
    ((tSeq ((tAsg ((tOp (rIxL K) (tVar 1) ((tCall (sp_l_draw K) [] E0 ((tCons (tVar 0) ((tCons ((tCB (rLenS K) ((tCons (tVar 1) (tNil))))) (tNil))))))))) (gName 5)))
    ((tSeq ((tFor ((iRng1 ((tCons (tVar 3) (tNil))))) (gName 6) ((tSeq ((tAsg (tLc ((iRng1 ((tCons ((tCB (rLenS K) ((tCons (tVar 2) (tNil))))) (tNil))))) ((gName 9)) ((tTest (tOp rEq ((tOp (rIxT K) ((tOp (rIxL K) (tVar 2) (tVar 9))) (tC (.int 0)))) (tVar 5)))) ((tTup ((tCons (tVar 9) ((tCons (tC (.int 1)) (tNil))))))) [9]) (gName 7)))
    ((tSeq ((tAsg ((tOp rCat (tVar 7) ((tLc ((iRng1 ((tCons ((tCB (rLenS K) ((tCons (tVar 2) (tNil))))) (tNil))))) ((gName 9)) ((tTest (tOp rEq ((tOp (rIxT K) ((tOp (rIxL K) (tVar 2) (tVar 9))) (tC (.int 1)))) (tVar 5)))) ((tTup ((tCons (tVar 9) ((tCons ((tUn (rU fun i => .int (-i)) (tC (.int 1)))) (tNil))))))) [9])))) (gName 7)))
    ((tIfS ((tTest (tOp (rI0 fun i j => .bl (decide (j < i))) ((tCB (rLenS K) ((tCons (tVar 7) (tNil))))) (tC (.int 0))))) ((tSeq ((tAsg ((tOp (rIxL K) (tVar 7) ((tCall (sp_l_draw K) [] E0 ((tCons (tVar 0) ((tCons ((tCB (rLenS K) ((tCons (tVar 7) (tNil))))) (tNil))))))))) (gName 8)))
    ((tSeq ((tDrop ((tBM K "list" rAppend (tVar 4) ((tCons (tVar 8) (tNil)))))))
    ((tSeq ((tAsg ((tOp (rIxT K) ((tOp (rIxL K) (tVar 2) ((tOp (rIxT K) (tVar 8) (tC (.int 0)))))) (tC (.int 1)))) (gName 5)))
    ((tIfS ((tTest (tOp rEq ((tOp (rIxT K) (tVar 8) (tC (.int 1)))) ((tUn (rU fun i => .int (-i)) (tC (.int 1))))))) ((tAsg ((tOp (rIxT K) ((tOp (rIxL K) (tVar 2) ((tOp (rIxT K) (tVar 8) (tC (.int 0)))))) (tC (.int 0)))) (gName 5))) (tNext))))))))) (tNext)))))))))
    ((tRet (tVar 4))))))))))

theorem pure_l_walk (K : PySem.W.Frag) (vs : List V) (H : Hp) (Q : VK) (E : XK) (h : sp_l_walk K vs H Q E) : t_l_walk K { nx := fun _ H' => Q .non H', rt := Q } (L2.start N_l_walk vs) H := by
  obtain ⟨P, G, q, s, ns, ss, rs, m, rfl, hs, hq, hss, rws, n1, s1, m1, k⟩ := h
  have el : (ns.map sv).length = ns.length := List.length_map ..
  rw [st_l_walk]
  unfold t_l_walk
  walk_at "st"
  refine ⟨Nat.zero_le _, fun L hL => ?_⟩
  obtain ⟨gL, nL⟩ := hs.fresh hL
  have nLl : L ≠ P.l := fun e => by rw [e, hs.cell] at gL; cases gL
  obtain ⟨G1, hs1, g1, e1⟩ := hs.new' (.lst []) hL
  have hq1 := hs1.sub _ _ (g1 _ _ hq)
  walk_at "st"
  refine ite_dec (fun h0 => ?_) (fun h0 => ?_)
  · walk_at "st"
    exact k L [] [] G1 _ (Nat.zero_le _) (.inl rfl) .nil e1 g1 hs1
  · walk_at "st"
    refine c_l_draw hs1 (by omega) fun d H2 d0 d1 hs2 => ?_
    walk_at "st"
    refine wp_ixLM (sq_of (hs2.sub _ _ (g1 _ _ hq))) d0 d1 fun x hx _ => ?_
    obtain ⟨a, ha, rfl⟩ := List.mem_map.mp hx
    walk_at "st"
    refine loop1 (by omega) (fun i σ' H' => ∃ (b : List Nat) (x y z : Option V) (xs : List V) (ws : List (Int × Int)) (G' : Hp), σ' = [some (.ref P.p), some (.ref q), some (.ref s), some (.int m), some (.ref L), some (sv b), x, y, z, none] ∧ ws.length ≤ i ∧ Wk rs ws a b ∧ StI G' xs ws ∧ G' L = some (.lst xs) ∧ Same G G' ∧ Sees P G' H') ⟨a, _, _, _, [], [], G1, rfl, Nat.zero_le _, rfl, .nil, e1, g1, hs2⟩ ?_ ?_
    · rintro i0 σ' H' hi0 ⟨b, x, y, z, xs, ws, G', rfl, lw, wk, st, eL, sg, hs3⟩
      have hss3 := hs3.sub _ _ (sg _ _ hss)
      have rws3 := (rws.mono sg).mono hs3.sub
      walk_at "st"
      refine lcInvR (by omega) (fun i acc G2 => ∃ zs, StF H' G2 acc zs ∧ ∀ z ∈ zs, ∃ c, sd rs z = some (b, c)) ⟨[], .nil, by simp⟩ (fun i acc G2 H2 R R0 hi s1 s2 hl hI kR kN => ?_) (fun D1 acc1 G2 H2 hD1 t1 t2 hD1' hl1 hI1 gD1 => ?_)
      · obtain ⟨zs, hz, hw⟩ := hI
        have hss4 := s2 _ _ (s1 _ _ hss3)
        obtain ⟨r, er⟩ : ∃ r, rs[i]? = some r := ⟨_, List.getElem?_eq_getElem (by rw [← rws.len]; exact hi)⟩
        obtain ⟨p, ep, hp⟩ := row_at rws3 er
        have hp4 := s2 _ _ (s1 _ _ hp)
        rw [show wipe ([some (.ref P.p), some (.ref q), some (.ref s), some (.int m), some (.ref L), some (sv b), some (.int (i0 : Nat)), y, z, none] : L2.St) [9] = [some (.ref P.p), some (.ref q), some (.ref s), some (.int m), some (.ref L), some (sv b), some (.int (i0 : Nat)), y, z, none] from rfl]
        walk_at "st"
        refine ⟨rfl, ?_⟩
        walk_at "st"
        refine wp_ixL (sq_of hss4) (at_nth ep) ?_
        walk_at "st"
        refine ite_dec (fun h => ?_) (fun h => ?_)
        · have hb : r.u = b := S_inj h
          walk_at "st"
          refine ⟨by simp [sizeLine_eq], fun a ha => ?_⟩
          have ga := s2.free ha
          refine kR _ (upd G2 a (.tup [.int i, .int 1])) _ (Same.new ga) (Same.upd2 s2) (Same.new ha) (fun q o e f => by rw [upd_ne (ne_of_none e ha)]; exact f) ⟨zs ++ [((i : Int), 1)], StF.app (StF.one (s1.free ga) upd_same) (hz.mono (Same.new ga)), fun z hz => ?_⟩
          rcases List.mem_append.mp hz with hz | hz
          · exact hw z hz
          · rw [List.mem_singleton.mp hz]
            exact ⟨r.v, by rw [sd_fwd er, hb]⟩
        · exact kN _ (Same.refl _) ⟨zs, hz, hw⟩
      obtain ⟨z1, hz1, hw1⟩ := hI1
      have hss5 := t2 _ _ (t1 _ _ hss3)
      have rws5 := (rws3.mono t1).mono t2
      have t12 := t1.trans t2
      have hz1 := hz1.mono t2
      walk_at "st"
      refine lcInvR (by omega) (fun i acc G2 => ∃ zs, StF H2 G2 acc zs ∧ ∀ z ∈ zs, ∃ c, sd rs z = some (b, c)) ⟨[], .nil, by simp⟩ (fun i acc G2 H2 R R0 hi s1 s2 hl hI kR kN => ?_) (fun D2 acc2 G3 H3 hD2 t3 t4 hD2' hl2 hI2 gD2 => ?_)
      · obtain ⟨zs, hz, hw⟩ := hI
        have hss4 := s2 _ _ (s1 _ _ hss5)
        obtain ⟨r, er⟩ : ∃ r, rs[i]? = some r := ⟨_, List.getElem?_eq_getElem (by rw [← rws.len]; exact hi)⟩
        obtain ⟨p, ep, hp⟩ := row_at rws5 er
        have hp4 := s2 _ _ (s1 _ _ hp)
        rw [show wipe ([some (.ref P.p), some (.ref q), some (.ref s), some (.int m), some (.ref L), some (sv b), some (.int (i0 : Nat)), some (.ref D1), z, none] : L2.St) [9] = [some (.ref P.p), some (.ref q), some (.ref s), some (.int m), some (.ref L), some (sv b), some (.int (i0 : Nat)), some (.ref D1), z, none] from rfl]
        walk_at "st"
        refine ⟨rfl, ?_⟩
        walk_at "st"
        refine wp_ixL (sq_of hss4) (at_nth ep) ?_
        walk_at "st"
        refine ite_dec (fun h => ?_) (fun h => ?_)
        · have hb : r.v = b := S_inj h
          walk_at "st"
          refine ⟨by simp [sizeLine_eq], fun a ha => ?_⟩
          have ga := s2.free ha
          refine kR _ (upd G2 a (.tup [.int i, .int (-1)])) _ (Same.new ga) (Same.upd2 s2) (Same.new ha) (fun q o e f => by rw [upd_ne (ne_of_none e ha)]; exact f) ⟨zs ++ [((i : Int), -1)], StF.app (StF.one (s1.free ga) upd_same) (hz.mono (Same.new ga)), fun z hz => ?_⟩
          rcases List.mem_append.mp hz with hz | hz
          · exact hw z hz
          · rw [List.mem_singleton.mp hz]
            exact ⟨r.u, by rw [sd_bwd er, hb]⟩
        · exact kN _ (Same.refl _) ⟨zs, hz, hw⟩
      obtain ⟨z2, hz2, hw2⟩ := hI2
      have t34 := t3.trans t4
      have hz2 := (hz2.mono t4).back t12
      have hz1 := hz1.mono t34
      walk_at "st"
      refine wp_cat (t34 _ _ hD1') hD2' (by omega) fun r hr => ?_
      have tall := (t12.trans t34).trans (Same.new (o := .lst (acc1 ++ acc2)) hr)
      have hz := (StF.app hz2 hz1).mono (Same.new (o := .lst (acc1 ++ acc2)) hr)
      have hw : ∀ z ∈ z1 ++ z2, ∃ c, sd rs z = some (b, c) := fun z hz => (List.mem_append.mp hz).elim (hw1 z) (hw2 z)
      obtain ⟨G4, hs4, g4, new4, _⟩ := hs3.gain tall
      have er4 := new4 r _ ((t12.trans t34).free hr) upd_same
      have st4 : StI G4 (acc1 ++ acc2) (z1 ++ z2) := hz.map fun _ _ f e => ⟨rfl, new4 _ _ f e⟩
      have sg4 := sg.trans g4
      have eL4 := g4 _ _ eL
      have stw := st.mono g4
      have la : (acc1 ++ acc2).length ≤ 2000 := by rw [List.length_append]; omega
      clear hz hz1 hz2 hw1 hw2 tall t34 t12 hD1' hD2' hD1 hD2 t1 t2 t3 t4 gD1 gD2 rws5 hss5 hs3 rws3 hss3
      revert la st4 hw er4 hs4
      generalize upd H3 r (.lst (acc1 ++ acc2)) = H6
      generalize acc1 ++ acc2 = acc
      generalize z1 ++ z2 = zs
      intro hw hs4 er4 st4 la
      walk_at "st"
      refine ite_dec (fun h => ?_) (fun h => ?_)
      · walk_at "st"
        refine c_l_draw hs4 (by omega) fun d H7 d0 d1 hs5 => ?_
        walk_at "st"
        refine wp_ixLM (sq_of (hs5.sub _ _ er4)) d0 d1 fun v _ hv => ?_
        obtain ⟨t, u, rfl, hu, _, ht⟩ := st4.at_ hv
        obtain ⟨c, hc⟩ := hw u (List.mem_of_getElem? hu)
        obtain ⟨j, r2, ej, er2, hdir⟩ := sd_row hc
        obtain ⟨u1, u2⟩ := u
        obtain rfl : u1 = (j : Int) := ej
        have ht : G4 t = some (.tup [.int (j : Int), .int u2]) := ht
        obtain ⟨p2, ep2, hp2⟩ := row_at (rws.mono sg4) er2
        walk_at "st"
        refine wp_append (hs5.sub _ _ eL4) (by rw [stw.len]; omega) ?_
        have hs6 := hs5.putG (zs := xs ++ [.ref t]) nLl nL
        have ntL : t ≠ L := fun e => by rw [e, eL4] at ht; cases ht
        have npL : p2 ≠ L := fun e => by rw [e, eL4] at hp2; cases hp2
        have nsL : s ≠ L := fun e => by rw [e, gL] at hss; cases hss
        have ht6 : upd G4 L (.lst (xs ++ [.ref t])) t = some (.tup [.int (j : Int), .int u2]) := by rw [upd_ne ntL]; exact ht
        have hp6 : upd G4 L (.lst (xs ++ [.ref t])) p2 = some (.tup [sv r2.u, sv r2.v, .int r2.lo, .int r2.hi, .int r2.w]) := by rw [upd_ne npL]; exact hp2
        have hs7 : upd G4 L (.lst (xs ++ [.ref t])) s = some (.lst ss) := by rw [upd_ne nsL]; exact sg4 _ _ hss
        have eL6 : upd G4 L (.lst (xs ++ [.ref t])) L = some (.lst (xs ++ [.ref t])) := upd_same
        have st6 : StI (upd G4 L (.lst (xs ++ [.ref t]))) (xs ++ [.ref t]) (ws ++ [((j : Int), u2)]) := StF.app (StF.one rfl ht6) (stw.upd eL4)
        have sg6 : Same G (upd G4 L (.lst (xs ++ [.ref t]))) := Same.mut sg4 gL
        have wk6 : Wk rs (ws ++ [((j : Int), u2)]) a c := wk.app (Wk.one hc)
        revert hs6 ht6 hp6 hs7 eL6 st6 sg6
        generalize upd G4 L (.lst (xs ++ [.ref t])) = G6
        generalize upd H7 L (.lst (xs ++ [.ref t])) = H8
        intro hs6 ht6 hp6 hs7 eL6 st6 sg6
        have hss8 := hs6.sub _ _ hs7
        have ht8 := hs6.sub _ _ ht6
        have hp8 := hs6.sub _ _ hp6
        walk_at "st"
        refine wp_ixL (sq_of hss8) (at_nth ep2) ?_
        walk_at "st"
        have lw6 : (ws ++ [((j : Int), u2)]).length ≤ i0 + 1 := by rw [List.length_append]; simp; omega
        rcases hdir with ⟨rfl, rfl, rfl⟩ | ⟨rfl, rfl, rfl⟩
        · refine ite_dec (fun h => absurd h (by decide)) (fun _ => ?_)
          walk_at "st"
          exact ⟨_, _, _, _, _, _, G6, rfl, lw6, wk6, st6, eL6, sg6, hs6⟩
        · refine ite_dec (fun _ => ?_) (fun h => absurd rfl h)
          walk_at "st"
          refine wp_ixL (sq_of hss8) (at_nth ep2) ?_
          walk_at "st"
          exact ⟨_, _, _, _, _, _, G6, rfl, lw6, wk6, st6, eL6, sg6, hs6⟩
      · walk_at "st"
        exact ⟨b, _, _, _, xs, ws, G4, rfl, by omega, wk, stw, eL4, sg4, hs4⟩
    · rintro σ' H' ⟨b, x, y, z, xs, ws, G', rfl, lw, wk, st, eL, sg, hs3⟩
      walk_at "st"
      exact k L xs ws G' H' (by omega) (.inr ⟨a, b, ha, wk⟩) st eL sg hs3
theorem len_l_walk (K : PySem.W.Frag) (vs : List V) (H : Hp) (Q : VK) (E : XK) (h : sp_l_walk K vs H Q E) : vs.length = 4 := by
  obtain ⟨_, _, _, _, _, _, _, _, rfl, _⟩ := h
  rfl
theorem c_l_walk {K : PySem.W.Frag} {P : Pl} {G H : Hp} {q s : Addr} {ns : List (List Nat)} {ss : List V} {rs : List Row} {m : Int} {Q : VK} {E : XK} (hs : Sees P G H) (hq : G q = some (.lst (ns.map sv))) (hss : G s = some (.lst ss)) (rws : Rws G ss rs) (n1 : ns.length ≤ 1000) (s1 : ss.length ≤ 1000) (m1 : 0 ≤ m ∧ m ≤ 1000)
    (k : ∀ L xs ws G' H', (ws.length : Int) ≤ m → (ws = [] ∨ ∃ a b, a ∈ ns ∧ Wk rs ws a b) → StI G' xs ws → G' L = some (.lst xs) → Same G G' → Sees P G' H' → Q (.ref L) H') : sp_l_walk K [.ref P.p, .ref q, .ref s, .int m] H Q E := by
  obtain ⟨j, rfl⟩ : ∃ j : Nat, m = j := ⟨m.toNat, by omega⟩
  exact ⟨P, G, q, s, ns, ss, rs, j, rfl, hs, hq, hss, rws, n1, s1, by omega, fun L xs ws G' H' l => k L xs ws G' H' (by omega)⟩
def sp_l_begin (K : PySem.W.Frag) : Sp := fun vs H Q _ => ∃ (s l : Addr) (ss xs : List V) (rs : List Row) (ws : List (Int × Int)) (st : Int × Int) (a c : List Nat), vs = [.ref s, .ref l] ∧ H s = some (.lst ss) ∧ Rws H ss rs ∧ H l = some (.lst xs) ∧ StI H xs ws ∧ ws[0]? = some st ∧ sd rs st = some (a, c) ∧ Q (sv a) H
abbrev N_l_begin : List Str := ["_law_spans", "_law_walk_here"]
theorem st_l_begin {a0 a1 : V} : L2.start N_l_begin [a0, a1] = [some a0, some a1] := rfl
def t_l_begin (K : PySem.W.Frag) : TS :=
  (tSeq ((tIfS ((tTest (tOp rEq ((tOp (rIxT K) ((tOp (rIxL K) (tVar 1) (tC (.int 0)))) (tC (.int 1)))) (tC (.int 1))))) ((tRet ((tOp (rIxT K) ((tOp (rIxL K) (tVar 0) ((tOp (rIxT K) ((tOp (rIxL K) (tVar 1) (tC (.int 0)))) (tC (.int 0)))))) (tC (.int 0)))))) (tNext)))
    ((tRet ((tOp (rIxT K) ((tOp (rIxL K) (tVar 0) ((tOp (rIxT K) ((tOp (rIxL K) (tVar 1) (tC (.int 0)))) (tC (.int 0)))))) (tC (.int 1)))))))

theorem pure_l_begin (K : PySem.W.Frag) (vs : List V) (H : Hp) (Q : VK) (E : XK) (h : sp_l_begin K vs H Q E) : t_l_begin K { nx := fun _ H' => Q .non H', rt := Q } (L2.start N_l_begin vs) H := by
  obtain ⟨s, l, ss, xs, rs, ws, st, a, c, rfl, hs, rws, hl, hx, hst, hsd, k⟩ := h
  obtain ⟨t, ex, _, ht⟩ := hx.atI_ hst
  obtain ⟨i, r, e1, er, hdir⟩ := sd_row hsd
  obtain ⟨u1, u2⟩ := st
  obtain rfl : u1 = (i : Int) := e1
  have ht : H t = some (.tup [.int (i : Int), .int u2]) := ht
  obtain ⟨p, ep, hp⟩ := row_at rws er
  rw [st_l_begin]
  unfold t_l_begin
  walk_at "st"
  refine wp_ixL (sq_of hl) (at_nth (i := 0) ex) ?_
  walk_at "st"
  rcases hdir with ⟨rfl, rfl, rfl⟩ | ⟨rfl, rfl, rfl⟩
  · refine ite_dec (fun _ => ?_) (fun h => absurd rfl h)
    walk_at "st"
    refine wp_ixL (sq_of hl) (at_nth (i := 0) ex) ?_
    walk_at "st"
    refine wp_ixL (sq_of hs) (at_nth ep) ?_
    walk_at "st"
    exact k
  · refine ite_dec (fun h => absurd h (by decide)) (fun _ => ?_)
    walk_at "st"
    refine wp_ixL (sq_of hl) (at_nth (i := 0) ex) ?_
    walk_at "st"
    refine wp_ixL (sq_of hs) (at_nth ep) ?_
    walk_at "st"
    exact k
theorem len_l_begin (K : PySem.W.Frag) (vs : List V) (H : Hp) (Q : VK) (E : XK) (h : sp_l_begin K vs H Q E) : vs.length = 2 := by
  obtain ⟨_, _, _, _, _, _, _, _, _, rfl, _⟩ := h
  rfl
theorem c_l_begin {K : PySem.W.Frag} {s l : Addr} {ss xs : List V} {rs : List Row} {ws : List (Int × Int)} {st : Int × Int} {a c : List Nat} {H : Hp} {Q : VK} {E : XK} (hs : H s = some (.lst ss)) (rws : Rws H ss rs) (hl : H l = some (.lst xs)) (hx : StI H xs ws) (hst : ws[0]? = some st) (hsd : sd rs st = some (a, c)) (k : Q (sv a) H) : sp_l_begin K [.ref s, .ref l] H Q E := ⟨s, l, ss, xs, rs, ws, st, a, c, rfl, hs, rws, hl, hx, hst, hsd, k⟩
def sp_l_finish (K : PySem.W.Frag) : Sp := fun vs H Q _ => ∃ (s l : Addr) (ss xs : List V) (rs : List Row) (ws : List (Int × Int)) (st : Int × Int) (a c : List Nat), vs = [.ref s, .ref l] ∧ H s = some (.lst ss) ∧ Rws H ss rs ∧ H l = some (.lst xs) ∧ StI H xs ws ∧ ws[ws.length - 1]? = some st ∧ sd rs st = some (c, a) ∧ Q (sv a) H
abbrev N_l_finish : List Str := ["_law_spans", "_law_walk_here"]
theorem st_l_finish {a0 a1 : V} : L2.start N_l_finish [a0, a1] = [some a0, some a1] := rfl
def t_l_finish (K : PySem.W.Frag) : TS :=
  (tSeq ((tIfS ((tTest (tOp rEq ((tOp (rIxT K) ((tOp (rIxL K) (tVar 1) ((tUn (rU fun i => .int (-i)) (tC (.int 1)))))) (tC (.int 1)))) (tC (.int 1))))) ((tRet ((tOp (rIxT K) ((tOp (rIxL K) (tVar 0) ((tOp (rIxT K) ((tOp (rIxL K) (tVar 1) ((tUn (rU fun i => .int (-i)) (tC (.int 1)))))) (tC (.int 0)))))) (tC (.int 1)))))) (tNext)))
    ((tRet ((tOp (rIxT K) ((tOp (rIxL K) (tVar 0) ((tOp (rIxT K) ((tOp (rIxL K) (tVar 1) ((tUn (rU fun i => .int (-i)) (tC (.int 1)))))) (tC (.int 0)))))) (tC (.int 0)))))))

theorem pure_l_finish (K : PySem.W.Frag) (vs : List V) (H : Hp) (Q : VK) (E : XK) (h : sp_l_finish K vs H Q E) : t_l_finish K { nx := fun _ H' => Q .non H', rt := Q } (L2.start N_l_finish vs) H := by
  obtain ⟨s, l, ss, xs, rs, ws, st, a, c, rfl, hs, rws, hl, hx, hst, hsd, k⟩ := h
  have lw := (List.getElem?_eq_some_iff.mp hst).1
  have lx : 0 < xs.length := by rw [hx.len]; omega
  obtain ⟨t, ex, _, ht⟩ := hx.atI_ (i := xs.length - 1) (by rw [hx.len]; exact hst)
  obtain ⟨i, r, e1, er, hdir⟩ := sd_row hsd
  obtain ⟨u1, u2⟩ := st
  obtain rfl : u1 = (i : Int) := e1
  have ht : H t = some (.tup [.int (i : Int), .int u2]) := ht
  obtain ⟨p, ep, hp⟩ := row_at rws er
  rw [st_l_finish]
  unfold t_l_finish
  walk_at "st"
  refine wp_ixL (sq_of hl) (show atI xs (-1) = some (.ref t) from (at_lastW lx).trans ex) ?_
  walk_at "st"
  rcases hdir with ⟨rfl, rfl, rfl⟩ | ⟨rfl, rfl, rfl⟩
  · refine ite_dec (fun _ => ?_) (fun h => absurd rfl h)
    walk_at "st"
    refine wp_ixL (sq_of hl) (show atI xs (-1) = some (.ref t) from (at_lastW lx).trans ex) ?_
    walk_at "st"
    refine wp_ixL (sq_of hs) (at_nth ep) ?_
    walk_at "st"
    exact k
  · refine ite_dec (fun h => absurd h (by decide)) (fun _ => ?_)
    walk_at "st"
    refine wp_ixL (sq_of hl) (show atI xs (-1) = some (.ref t) from (at_lastW lx).trans ex) ?_
    walk_at "st"
    refine wp_ixL (sq_of hs) (at_nth ep) ?_
    walk_at "st"
    exact k
theorem len_l_finish (K : PySem.W.Frag) (vs : List V) (H : Hp) (Q : VK) (E : XK) (h : sp_l_finish K vs H Q E) : vs.length = 2 := by
  obtain ⟨_, _, _, _, _, _, _, _, _, rfl, _⟩ := h
  rfl
theorem c_l_finish {K : PySem.W.Frag} {s l : Addr} {ss xs : List V} {rs : List Row} {ws : List (Int × Int)} {st : Int × Int} {a c : List Nat} {H : Hp} {Q : VK} {E : XK} (hs : H s = some (.lst ss)) (rws : Rws H ss rs) (hl : H l = some (.lst xs)) (hx : StI H xs ws) (hst : ws[ws.length - 1]? = some st) (hsd : sd rs st = some (c, a)) (k : Q (sv a) H) : sp_l_finish K [.ref s, .ref l] H Q E := ⟨s, l, ss, xs, rs, ws, st, a, c, rfl, hs, rws, hl, hx, hst, hsd, k⟩
/-- the names' labels behind k spans: ts join, us close rings -/
structure Lab (rs : List Row) (ns : List (List Nat)) (f : List Nat → Int) (ts us : List Nat) (k : Nat) : Prop where
  conn : ∀ a ∈ ns, ∀ b ∈ ns, f a = f b → Conn rs ts a b
  eq : ∀ i r, i < k → rs[i]? = some r → f r.u = f r.v
  lt : ∀ i ∈ ts, i < k
  lu : ∀ i ∈ us, i < k
  part : ∀ i, i < k → i ∈ ts ∨ i ∈ us
theorem Lab.close {rs : List Row} {ns : List (List Nat)} {f : List Nat → Int} {ts us : List Nat} {k : Nat} {r : Row} (h : Lab rs ns f ts us k) (er : rs[k]? = some r) (e : f r.u = f r.v) : Lab rs ns f ts (us ++ [k]) (k + 1) := by
  refine ⟨h.conn, fun i q hi eq => ?_, fun i hi => Nat.lt_succ_of_lt (h.lt i hi), fun i hi => ?_, fun i hi => ?_⟩
  · by_cases c : i = k
    · subst c
      rw [er] at eq
      cases eq
      exact e
    · exact h.eq i q (by omega) eq
  · rcases List.mem_append.mp hi with hi | hi
    · exact Nat.lt_succ_of_lt (h.lu i hi)
    · rw [List.mem_singleton.mp hi]; omega
  · by_cases c : i = k
    · exact .inr (by rw [c]; simp)
    · exact (h.part i (by omega)).imp id fun z => List.mem_append_left _ z
theorem Lab.join {rs : List Row} {ns : List (List Nat)} {f : List Nat → Int} {ts us : List Nat} {k : Nat} {r : Row} (h : Lab rs ns f ts us k) (er : rs[k]? = some r) (hu : r.u ∈ ns) (hv : r.v ∈ ns) : Lab rs ns (fun n => if f n = f r.v then f r.u else f n) (ts ++ [k]) us (k + 1) := by
  have up : ∀ {a b}, Conn rs ts a b → Conn rs (ts ++ [k]) a b := fun z => z.mono fun i hi => List.mem_append_left _ hi
  have ed : Conn rs (ts ++ [k]) r.u r.v := .fwd (by simp) er .refl
  refine ⟨fun a ha b hb e => ?_, fun i q hi eq => ?_, fun i hi => ?_, fun i hi => Nat.lt_succ_of_lt (h.lu i hi), fun i hi => ?_⟩
  · by_cases ca : f a = f r.v
    · by_cases cb : f b = f r.v
      · exact up (h.conn a ha b hb (ca.trans cb.symm))
      · have e : f r.u = f b := by
          have e : (if f a = f r.v then f r.u else f a) = (if f b = f r.v then f r.u else f b) := e
          rw [if_pos ca, if_neg cb] at e
          exact e
        exact ((up (h.conn a ha _ hv ca)).trans ed.symm).trans (up (h.conn _ hu b hb e))
    · by_cases cb : f b = f r.v
      · have e : f a = f r.u := by
          have e : (if f a = f r.v then f r.u else f a) = (if f b = f r.v then f r.u else f b) := e
          rw [if_neg ca, if_pos cb] at e
          exact e
        exact ((up (h.conn a ha _ hu e)).trans ed).trans (up (h.conn _ hv b hb cb.symm))
      · have e : f a = f b := by
          have e : (if f a = f r.v then f r.u else f a) = (if f b = f r.v then f r.u else f b) := e
          rw [if_neg ca, if_neg cb] at e
          exact e
        exact up (h.conn a ha b hb e)
  · show (if f q.u = f r.v then f r.u else f q.u) = (if f q.v = f r.v then f r.u else f q.v)
    by_cases c : i = k
    · subst c
      rw [er] at eq
      cases eq
      rw [if_pos (rfl : f r.v = f r.v)]
      split <;> rfl
    · rw [h.eq i q (by omega) eq]
  · rcases List.mem_append.mp hi with hi | hi
    · exact Nat.lt_succ_of_lt (h.lt i hi)
    · rw [List.mem_singleton.mp hi]; omega
  · by_cases c : i = k
    · exact .inl (by rw [c]; simp)
    · exact (h.part i (by omega)).imp (fun z => List.mem_append_left _ z) id
theorem Lab.wk {rs : List Row} {ns : List (List Nat)} {f : List Nat → Int} {ts us : List Nat} (h : Lab rs ns f ts us rs.length) : ∀ {ws : List (Int × Int)} {a b : List Nat}, Wk rs ws a b → f a = f b
  | [], _, _, e => by cases e; rfl
  | s :: w, a, b, ⟨c, h1, h2⟩ => by
    obtain ⟨i, r, e1, er, hd⟩ := sd_row h1
    have z := h.eq i r (List.getElem?_eq_some_iff.mp er).1 er
    have y := h.wk h2
    rcases hd with ⟨_, rfl, rfl⟩ | ⟨_, rfl, rfl⟩
    · exact z.trans y
    · exact z.symm.trans y
def nV (ts : List Nat) : List V := ts.map fun n => .int (n : Nat)
theorem nV_len (ts : List Nat) : (nV ts).length = ts.length := List.length_map ..
theorem nV_app (ts : List Nat) (k : Nat) : nV (ts ++ [k]) = nV ts ++ [.int (k : Nat)] := by
  unfold nV
  rw [List.map_append]
  rfl
def sp_l_labels (K : PySem.W.Frag) : Sp := fun vs H Q _ => ∃ (q s : Addr) (ns : List (List Nat)) (ss : List V) (rs : List Row), vs = [.ref q, .ref s] ∧ H q = some (.lst (ns.map sv)) ∧ H s = some (.lst ss) ∧ Rws H ss rs ∧ (∀ r ∈ rs, r.u ∈ ns ∧ r.v ∈ ns) ∧ ns.Nodup ∧ ns.length ≤ 1000 ∧ ss.length ≤ 1000 ∧
  ∀ L D A B f ts us H', Same H H' → H' L = some (.lst [.ref D, .ref A, .ref B]) → H' D = some (.dK (mD f ns)) → H' A = some (.lst (nV ts)) → H' B = some (.lst (nV us)) → H L = none → H D = none → H A = none → H B = none → Lab rs ns f ts us rs.length → ts.length ≤ rs.length → Q (.ref L) H'
abbrev N_l_labels : List Str := ["_law_names_here", "_law_spans", "_law_labels_here", "_law_k", "_law_tree", "_law_closing", "_law_number", "_law_one", "_law_two", "_law_name"]
theorem st_l_labels {a0 a1 : V} : L2.start N_l_labels [a0, a1] = [some a0, some a1, none, none, none, none, none, none, none, none] := rfl
def t_l_labels (K : PySem.W.Frag) : TS :=
  (tSeq ((tAsg (tDNewK) (gName 2)))
    ((tSeq ((tFor ((iRng1 ((tCons ((tCB (rLenS K) ((tCons (tVar 0) (tNil))))) (tNil))))) (gName 3) ((tAsg (tVar 3) (gSub (tVar 2) ((tOp (rIxL K) (tVar 0) (tVar 3))) rSetD)))))
    ((tSeq ((tAsg ((tLst (tNil))) (gName 4)))
    ((tSeq ((tAsg ((tLst (tNil))) (gName 5)))
    ((tSeq ((tFor ((iRng1 ((tCons ((tCB (rLenS K) ((tCons (tVar 1) (tNil))))) (tNil))))) (gName 6) ((tSeq ((tAsg ((tDGet (tVar 2) ((tOp (rIxT K) ((tOp (rIxL K) (tVar 1) (tVar 6))) (tC (.int 0)))))) (gName 7)))
    ((tSeq ((tAsg ((tDGet (tVar 2) ((tOp (rIxT K) ((tOp (rIxL K) (tVar 1) (tVar 6))) (tC (.int 1)))))) (gName 8)))
    ((tIfS ((tTest (tOp rEq (tVar 7) (tVar 8)))) ((tDrop ((tBM K "list" rAppend (tVar 5) ((tCons (tVar 6) (tNil))))))) ((tSeq ((tDrop ((tBM K "list" rAppend (tVar 4) ((tCons (tVar 6) (tNil)))))))
    ((tFor ((iList K (tVar 0))) (gName 9) ((tIfS ((tTest (tOp rEq ((tDGet (tVar 2) (tVar 9))) (tVar 8)))) ((tAsg (tVar 7) (gSub (tVar 2) (tVar 9) rSetD))) (tNext)))))))))))))))
    ((tRet ((tLst ((tCons (tVar 2) ((tCons (tVar 4) ((tCons (tVar 5) (tNil))))))))))))))))))))

theorem pure_l_labels (K : PySem.W.Frag) (vs : List V) (H : Hp) (Q : VK) (E : XK) (h : sp_l_labels K vs H Q E) : t_l_labels K { nx := fun _ H' => Q .non H', rt := Q } (L2.start N_l_labels vs) H := by
  obtain ⟨q, s, ns, ss, rs, rfl, hq, hs, rws, inn, nd, n1, s1, k⟩ := h
  have el : (ns.map sv).length = ns.length := List.length_map ..
  have elr := rws.len
  rw [st_l_labels]
  unfold t_l_labels
  walk_at "st"
  refine wp_dnew fun D hD => ?_
  have t0 : Same H (upd H D (.dK [])) := Same.new hD
  have hq0 := t0 _ _ hq
  walk_at "st"
  generalize hg : asg ns ((List.range ns.length).map fun n => ((n : Nat) : Int)) = g
  have gv : ∀ (i : Nat) (l : List Nat), ns[i]? = some l → g l = i := fun i l e => by
    rw [← hg]
    refine asg_at nd e ?_
    rw [List.getElem?_map, List.getElem?_range (List.getElem?_eq_some_iff.mp e).1]
    rfl
  refine loop1 (by omega) (fun i σ' H' => ∃ x, σ' = [some (.ref q), some (.ref s), some (.ref D), x, none, none, none, none, none, none] ∧ Same H H' ∧ H' D = some (.dK (mD g (ns.take i)))) ⟨_, rfl, t0, upd_same⟩ ?_ ?_
  · rintro i σ' H' hi ⟨x, rfl, t1, hD1⟩
    rw [el] at hi
    have hq1 := t1 _ _ hq
    obtain ⟨l, hl⟩ : ∃ l, ns[i]? = some l := ⟨_, List.getElem?_eq_getElem (by omega)⟩
    walk_at "st"
    refine wp_ixL (sq_of hq1) (at_nth (by rw [List.getElem?_map, hl]; rfl)) ?_
    walk_at "st"
    refine dput_s hD1 (by unfold mD; rw [dN_len, List.length_take]; omega) ?_
    have e : putK (mD g (ns.take i)) (.inr (S l)) (.int (i : Nat)) = mD g (ns.take (i + 1)) := by
      rw [← gv i l hl, take_snoc hl]
      exact dN_put (f := fun l => .int (g l)) (take_new nd hl)
    rw [e]
    exact ⟨_, rfl, Same.mut t1 hD, upd_same⟩
  · rintro σ' H' ⟨x0, rfl, t1, hD1⟩
    rw [el, Int.toNat_natCast, List.take_length] at hD1
    walk_at "st"
    refine ⟨Nat.zero_le _, fun A hA => ?_⟩
    walk_at "st"
    refine ⟨Nat.zero_le _, fun B hB => ?_⟩
    have nDA : D ≠ A := ne_of_none hD1 hA
    have nAB : A ≠ B := ne_of_none upd_same hB
    have nDB : D ≠ B := ne_of_none ((upd_ne nDA).trans hD1) hB
    have t2 := (t1.trans (Same.new (o := .lst []) hA)).trans (Same.new (o := .lst []) hB)
    have hA0 : H A = none := t1.free hA
    have hB0 : H B = none := (t1.trans (Same.new (o := .lst []) hA)).free hB
    have hs2 := t2 _ _ hs
    have lab0 : Lab rs ns g [] [] 0 := ⟨fun a ha b hb e => by
      obtain ⟨i, hi⟩ := List.getElem?_of_mem ha
      obtain ⟨j, hj⟩ := List.getElem?_of_mem hb
      rw [gv i a hi, gv j b hj] at e
      have : i = j := by omega
      subst this
      rw [hi] at hj
      cases hj
      exact .refl, fun i r hi => absurd hi (Nat.not_lt_zero _), by simp, by simp, fun i hi => absurd hi (Nat.not_lt_zero _)⟩
    walk_at "st"
    refine loop1 (by omega) (fun i σ' H' => ∃ (x y z n : Option V) (f : List Nat → Int) (ts us : List Nat), σ' = [some (.ref q), some (.ref s), some (.ref D), x0, some (.ref A), some (.ref B), x, y, z, n] ∧ Same H H' ∧ H' D = some (.dK (mD f ns)) ∧ H' A = some (.lst (nV ts)) ∧ H' B = some (.lst (nV us)) ∧ ts.length + us.length = i ∧ Lab rs ns f ts us i) ⟨_, _, _, _, g, [], [], rfl, t2, by rw [upd_ne nDB, upd_ne nDA]; exact hD1, by rw [upd_ne nAB]; exact upd_same, upd_same, rfl, lab0⟩ ?_ ?_
    · rintro i σ' H' hi ⟨x, y, z, n, f, ts, us, rfl, t3, hD3, hA3, hB3, ln, lab⟩
      obtain ⟨r, er⟩ : ∃ r, rs[i]? = some r := ⟨_, List.getElem?_eq_getElem (by omega)⟩
      obtain ⟨p, ep, hp⟩ := row_at rws er
      obtain ⟨ru, rv⟩ := inn r (List.mem_of_getElem? er)
      have hp3 := t3 _ _ hp
      have hs3 := t3 _ _ hs
      unfold mD at hD3
      walk_at "st"
      refine wp_ixL (sq_of hs3) (at_nth ep) ?_
      walk_at "st"
      refine dget_s (.inl hD3) (dN_val ru) ?_
      walk_at "st"
      refine wp_ixL (sq_of hs3) (at_nth ep) ?_
      walk_at "st"
      refine dget_s (.inl hD3) (dN_val rv) ?_
      walk_at "st"
      refine ite_dec (fun h => ?_) (fun h => ?_)
      · walk_at "st"
        refine wp_append hB3 (by rw [nV_len]; omega) ?_
        walk_at "st"
        exact ⟨_, _, _, _, f, ts, us ++ [i], rfl, Same.mut t3 hB0, by rw [upd_ne nDB]; exact hD3, by rw [upd_ne nAB]; exact hA3, by rw [upd_same, nV_app], by rw [List.length_append]; simp; omega, lab.close er h⟩
      · walk_at "st"
        refine wp_append hA3 (by rw [nV_len]; omega) ?_
        have t4 := Same.mut (o := .lst (nV ts ++ [.int (i : Nat)])) t3 hA0
        have hD4 : upd H' A (.lst (nV ts ++ [.int (i : Nat)])) D = some (.dK (mD f ns)) := by rw [upd_ne nDA]; exact hD3
        have hA4 : upd H' A (.lst (nV ts ++ [.int (i : Nat)])) A = some (.lst (nV (ts ++ [i]))) := by rw [upd_same, nV_app]
        have hB4 : upd H' A (.lst (nV ts ++ [.int (i : Nat)])) B = some (.lst (nV us)) := by rw [upd_ne nAB.symm]; exact hB3
        revert t4 hD4 hA4 hB4
        generalize upd H' A (.lst (nV ts ++ [.int (i : Nat)])) = H4
        intro t4 hD4 hA4 hB4
        have hq4 := t4 _ _ hq
        walk_at "st"
        refine loopL (sq_of hq4) (fun j σ' H' => ∃ (n : Option V), σ' = [some (.ref q), some (.ref s), some (.ref D), x0, some (.ref A), some (.ref B), some (.int (i : Nat)), some (.int (f r.u)), some (.int (f r.v)), n] ∧ Same H H' ∧ H' D = some (.dK (mD (fun n => if n ∈ ns.take j ∧ f n = f r.v then f r.u else f n) ns)) ∧ H' A = some (.lst (nV (ts ++ [i]))) ∧ H' B = some (.lst (nV us))) ⟨_, rfl, t4, by simpa using hD4, hA4, hB4⟩ ?_ ?_ ?_
        · rintro j σ' H' _ ⟨n, rfl, t5, _⟩
          exact sq_of (t5 _ _ hq)
        · rintro j v σ' H' hv ⟨n, rfl, t5, hD5, hA5, hB5⟩
          rw [List.getElem?_map] at hv
          obtain ⟨l, hl, rfl⟩ := Option.map_eq_some_iff.mp hv
          have ml := List.mem_of_getElem? hl
          have nl := take_new nd hl
          have hD5' : H' D = some (.dK (dN (fun n => V.int (if n ∈ ns.take j ∧ f n = f r.v then f r.u else f n)) ns)) := hD5
          walk_at "st"
          refine dget_s (.inl hD5') (dN_val ml) ?_
          walk_at "st"
          rw [show (if l ∈ List.take j ns ∧ f l = f r.v then f r.u else f l) = f l from if_neg fun z => nl z.1]
          refine ite_dec (fun h2 => ?_) (fun h2 => ?_)
          · walk_at "st"
            refine dput_s hD5 (by unfold mD; rw [dN_len]; omega) ?_
            rw [putK_old nd ml]
            refine ⟨_, rfl, Same.mut t5 hD, ?_, by rw [upd_ne nDA.symm]; exact hA5, by rw [upd_ne nDB.symm]; exact hB5⟩
            rw [upd_same]
            refine congrArg (fun z => some (HO.dK z)) (dN_congr fun n _ => congrArg V.int ?_)
            show (if n = l then f r.u else if n ∈ ns.take j ∧ f n = f r.v then f r.u else f n) = if n ∈ ns.take (j + 1) ∧ f n = f r.v then f r.u else f n
            rw [take_snoc hl]
            by_cases c : n = l
            · rw [if_pos c, if_pos ⟨by rw [c]; simp, by rw [c]; exact h2⟩]
            · rw [if_neg c]
              exact ifI ⟨fun z => ⟨List.mem_append_left _ z.1, z.2⟩, fun z => ⟨(List.mem_append.mp z.1).resolve_right fun y => c (List.mem_singleton.mp y), z.2⟩⟩
          · walk_at "st"
            refine ⟨_, rfl, t5, ?_, hA5, hB5⟩
            rw [hD5]
            refine congrArg (fun z => some (HO.dK z)) (dN_congr fun n _ => congrArg V.int ?_)
            rw [take_snoc hl]
            exact ifI ⟨fun z => ⟨List.mem_append_left _ z.1, z.2⟩, fun z => ⟨(List.mem_append.mp z.1).resolve_right fun y => h2 (by rw [List.mem_singleton.mp y] at z; exact z.2), z.2⟩⟩
        · rintro σ' H' ⟨n, rfl, t5, hD5, hA5, hB5⟩
          walk_at "st"
          refine ⟨_, _, _, _, _, ts ++ [i], us, rfl, t5, ?_, hA5, hB5, by rw [List.length_append]; simp; omega, lab.join er ru rv⟩
          rw [hD5]
          refine congrArg (fun z => some (HO.dK z)) (dN_congr fun n hn => congrArg V.int ?_)
          rw [el, List.take_length]
          exact ifI ⟨fun z => z.2, fun z => ⟨hn, z⟩⟩
    · rintro σ' H' ⟨x, y, z, n, f, ts, us, rfl, t3, hD3, hA3, hB3, ln, lab⟩
      rw [Int.toNat_natCast] at ln lab
      walk_at "st"
      refine ⟨by simp [sizeLine_eq], fun L hL => ?_⟩
      have t4 := Same.new (o := .lst [.ref D, .ref A, .ref B]) hL
      exact k L D A B f ts us _ (t3.trans t4) upd_same (t4 _ _ hD3) (t4 _ _ hA3) (t4 _ _ hB3) (t3.free hL) hD hA0 hB0 (elr ▸ lab) (by omega)
theorem len_l_labels (K : PySem.W.Frag) (vs : List V) (H : Hp) (Q : VK) (E : XK) (h : sp_l_labels K vs H Q E) : vs.length = 2 := by
  obtain ⟨_, _, _, _, _, rfl, _⟩ := h
  rfl
theorem c_l_labels {K : PySem.W.Frag} {q s : Addr} {ns : List (List Nat)} {ss : List V} {rs : List Row} {H : Hp} {Q : VK} {E : XK} (hq : H q = some (.lst (ns.map sv))) (hs : H s = some (.lst ss)) (rws : Rws H ss rs) (inn : ∀ r ∈ rs, r.u ∈ ns ∧ r.v ∈ ns) (nd : ns.Nodup) (n1 : ns.length ≤ 1000) (s1 : ss.length ≤ 1000)
    (k : ∀ L D A B f ts us H', Same H H' → H' L = some (.lst [.ref D, .ref A, .ref B]) → H' D = some (.dK (mD f ns)) → H' A = some (.lst (nV ts)) → H' B = some (.lst (nV us)) → H L = none → H D = none → H A = none → H B = none → Lab rs ns f ts us rs.length → ts.length ≤ rs.length → Q (.ref L) H') : sp_l_labels K [.ref q, .ref s] H Q E := ⟨q, s, ns, ss, rs, rfl, hq, hs, rws, inn, nd, n1, s1, k⟩
/-- the ways found so far: names ks, their lists told by F -/
structure Pth (H0 : Hp) (rs : List Row) (ts : List Nat) (a : List Nat) (D : Addr) (ks : List (List Nat)) (F : List Nat → V) (H : Hp) : Prop where
  same : Same H0 H
  d0 : H0 D = none
  hd : H D = some (.dK (dN F ks))
  ha : a ∈ ks
  len : ks.length ≤ cnt (bothB rs ks) ts + 1
  ways : ∀ n ∈ ks, ∃ p xs ws, F n = .ref p ∧ H0 p = none ∧ H p = some (.lst xs) ∧ StF H0 H xs ws ∧ Wk rs ws a n ∧ ws.length + 1 ≤ ks.length ∧ ∀ z ∈ ws, ∃ i ∈ ts, z.1 = (i : Nat)
theorem cnt_add {rs : List Row} {ts : List Nat} {ks : List (List Nat)} {y : List Nat} {i : Nat} {r : Row} (hi : i ∈ ts) (er : rs[i]? = some r) (hy : y ∉ ks) (hx : (r.u ∈ ks ∧ y = r.v) ∨ (r.v ∈ ks ∧ y = r.u)) : cnt (bothB rs ks) ts + 1 ≤ cnt (bothB rs (ks ++ [y])) ts := by
  have hm : ∀ x ∈ ks, x ∈ ks ++ [y] := fun x hx => List.mem_append_left _ hx
  refine cnt_lt (fun j _ z => bothB_mono hm z) hi ?_ ?_
  · rw [bothB_some er]
    rcases hx with ⟨_, rfl⟩ | ⟨_, rfl⟩
    · rw [decide_eq_false hy, Bool.and_false]
    · rw [decide_eq_false hy, Bool.false_and]
  · rw [bothB_some er]
    rcases hx with ⟨h1, rfl⟩ | ⟨h1, rfl⟩
    · rw [decide_eq_true (hm _ h1), decide_eq_true (by simp : r.v ∈ ks ++ [r.v])]; rfl
    · rw [decide_eq_true (hm _ h1), decide_eq_true (by simp : r.u ∈ ks ++ [r.u])]; rfl
/-- a way is made longer by one step -/
theorem Pth.add {H0 H : Hp} {rs : List Row} {ts : List Nat} {a : List Nat} {D : Addr} {ks : List (List Nat)} {F : List Nat → V} (h : Pth H0 rs ts a D ks F H) {x y : List Nat} {i : Nat} {d : Int} (hx : x ∈ ks) (hy : y ∉ ks) (hi : i ∈ ts) (hc : cnt (bothB rs ks) ts + 1 ≤ cnt (bothB rs (ks ++ [y])) ts) (e : sd rs ((i : Nat), d) = some (x, y)) {p t l r : Addr} {xs : List V} (hF : F x = .ref p) (hp : H p = some (.lst xs))
    (ht : H t = none) (hl : upd H t (.tup [.int (i : Nat), .int d]) l = none) (hr : upd (upd H t (.tup [.int (i : Nat), .int d])) l (.lst [.ref t]) r = none) :
    Pth H0 rs ts a D (ks ++ [y]) (fun n => if n = y then .ref r else F n) (upd (upd (upd (upd H t (.tup [.int (i : Nat), .int d])) l (.lst [.ref t])) r (.lst (xs ++ [.ref t]))) D (.dK (putK (dN F ks) (.inr (S y)) (.ref r)))) := by
  have s1 : Same H (upd H t (.tup [.int (i : Nat), .int d])) := Same.new ht
  have s2 := s1.trans (Same.new (o := .lst [.ref t]) hl)
  have s3 := s2.trans (Same.new (o := .lst (xs ++ [.ref t])) hr)
  have g3 : ∀ {q : Addr} {ys : List V}, H q = some (.lst ys) → upd (upd (upd (upd H t (.tup [.int (i : Nat), .int d])) l (.lst [.ref t])) r (.lst (xs ++ [.ref t]))) D (.dK (putK (dN F ks) (.inr (S y)) (.ref r))) q = some (.lst ys) := fun {q ys} hq => by
    rw [upd_ne (fun z => by rw [z, h.hd] at hq; cases hq)]
    exact s3 _ _ hq
  have g4 : ∀ {q : Addr} {ys : List V}, upd (upd (upd H t (.tup [.int (i : Nat), .int d])) l (.lst [.ref t])) r (.lst (xs ++ [.ref t])) q = some (.tup ys) → upd (upd (upd (upd H t (.tup [.int (i : Nat), .int d])) l (.lst [.ref t])) r (.lst (xs ++ [.ref t]))) D (.dK (putK (dN F ks) (.inr (S y)) (.ref r))) q = some (.tup ys) := fun {q ys} hq => by
    rw [upd_ne (fun z => by rw [z, s3 _ _ h.hd] at hq; cases hq)]
    exact hq
  have st : ∀ {zs : List V} {us : List (Int × Int)}, StF H0 H zs us → StF H0 (upd (upd (upd (upd H t (.tup [.int (i : Nat), .int d])) l (.lst [.ref t])) r (.lst (xs ++ [.ref t]))) D (.dK (putK (dN F ks) (.inr (S y)) (.ref r)))) zs us := by
    intro zs us k
    induction k with
    | nil => exact .nil
    | cons f hh _ ih =>
      refine .cons f ?_ ih
      rw [upd_ne (fun z => by rw [z, h.hd] at hh; cases hh)]
      have a1 := s2 _ _ hh
      rw [upd_ne (ne_of_none a1 hr)]
      exact a1
  have e1 : putK (dN F ks) (.inr (S y)) (.ref r) = dN (fun n => if n = y then V.ref r else F n) (ks ++ [y]) := by
    rw [← dN_put (f := fun n => if n = y then V.ref r else F n) hy]
    show _ = putK (dN _ ks) _ (if y = y then V.ref r else F y)
    rw [if_pos rfl]
    exact congrArg (fun z => putK z _ _) (dN_congr fun n hn => (if_neg (fun z : n = y => hy (by rw [← z]; exact hn))).symm)
  have nrD : r ≠ D := fun z => by
    have := s2 _ _ h.hd
    rw [← z, hr] at this
    cases this
  obtain ⟨p', xs', ws, k1, k2, k3, k4, k5, k6, k7⟩ := h.ways x hx
  rw [hF] at k1
  cases k1
  rw [hp] at k3
  cases k3
  refine ⟨Same.mut (h.same.trans s3) h.d0, h.d0, by rw [upd_same, e1], List.mem_append_left _ h.ha, by rw [List.length_append]; have := h.len; simp; omega, fun n hn => ?_⟩
  by_cases c1 : n = y
  · subst c1
    refine ⟨r, xs ++ [.ref t], ws ++ [(((i : Nat) : Int), d)], if_pos rfl, (h.same.trans s2).free hr, by rw [upd_ne nrD, upd_same], StF.app (StF.one (h.same.free ht) (g4 ?_)) (st k4), k5.app (Wk.one e), by rw [List.length_append, List.length_append]; simp; omega, fun z hz => ?_⟩
    · have a1 : upd (upd H t (.tup [.int (i : Nat), .int d])) l (.lst [.ref t]) t = some (.tup [.int (i : Nat), .int d]) := Same.new hl _ _ upd_same
      exact Same.new hr _ _ a1
    · rcases List.mem_append.mp hz with hz | hz
      · exact k7 z hz
      · rw [List.mem_singleton.mp hz]
        exact ⟨i, hi, rfl⟩
  · have hn : n ∈ ks := (List.mem_append.mp hn).resolve_right fun z => c1 (List.mem_singleton.mp z)
    obtain ⟨p, xs, ws, k1, k2, k3, k4, k5, k6, k7⟩ := h.ways n hn
    exact ⟨p, xs, ws, (if_neg c1).trans k1, k2, g3 k3, st k4, k5, by rw [List.length_append]; omega, k7⟩
/-- what a round has brought: nothing, or one more span with both ends -/
def Pg (rs : List Row) (ts : List Nat) (k0 ks : List (List Nat)) : Prop := ks = k0 ∨ (cnt (bothB rs k0) ts + 1 ≤ cnt (bothB rs ks) ts ∧ ¬ ∀ i ∈ ts, ClsE rs k0 i)
theorem Pg.add {rs : List Row} {ts : List Nat} {k0 ks : List (List Nat)} (h : Pg rs ts k0 ks) {y : List Nat} {i : Nat} {r : Row} (hi : i ∈ ts) (er : rs[i]? = some r) (hy : y ∉ ks) (hx : (r.u ∈ ks ∧ y = r.v) ∨ (r.v ∈ ks ∧ y = r.u)) : Pg rs ts k0 (ks ++ [y]) := by
  have hm : ∀ x ∈ ks, x ∈ ks ++ [y] := fun x hx => List.mem_append_left _ hx
  rcases h with rfl | ⟨h1, h2⟩
  · refine .inr ⟨cnt_add hi er hy hx, fun z => ?_⟩
    have c := z i hi r er
    rcases hx with ⟨h1, rfl⟩ | ⟨h1, rfl⟩
    · exact hy (c.mp h1)
    · exact hy (c.mpr h1)
  · exact .inr ⟨Nat.le_trans h1 (cnt_mono fun j _ z => bothB_mono hm z), h2⟩
def sp_l_path (K : PySem.W.Frag) : Sp := fun vs H Q _ => ∃ (s A : Addr) (ss : List V) (rs : List Row) (ts : List Nat) (a b : List Nat), vs = [.ref s, .ref A, sv a, sv b] ∧ H s = some (.lst ss) ∧ Rws H ss rs ∧ H A = some (.lst (nV ts)) ∧ (∀ i ∈ ts, i < rs.length) ∧ ts.length ≤ 24 ∧ ss.length ≤ 1000 ∧
  (¬ Conn rs ts a b → ∀ H', Same H H' → Q .non H') ∧ ∀ p xs ws H', Same H H' → H p = none → H' p = some (.lst xs) → StF H H' xs ws → Wk rs ws a b → ws.length ≤ 24 → (∀ z ∈ ws, ∃ i ∈ ts, z.1 = (i : Nat)) → Q (.ref p) H'
abbrev N_l_path : List Str := ["_law_spans", "_law_tree", "_law_first", "_law_second", "_law_ways", "_law_again", "_law_number", "_law_start", "_law_end"]
theorem st_l_path {a0 a1 a2 a3 : V} : L2.start N_l_path [a0, a1, a2, a3] = [some a0, some a1, some a2, some a3, none, none, none, none, none] := rfl
def t_l_path (K : PySem.W.Frag) : TS :=
  (tSeq ((tAsg ((tDisp ((tVar 2, (tLst (tNil))) :: []))) (gName 4)))
    ((tSeq ((tFor ((iList K (tVar 1))) (gName 5) ((tFor ((iList K (tVar 1))) (gName 6) ((tSeq ((tAsg ((tOp (rIxT K) ((tOp (rIxL K) (tVar 0) (tVar 6))) (tC (.int 0)))) (gName 7)))
    ((tSeq ((tAsg ((tOp (rIxT K) ((tOp (rIxL K) (tVar 0) (tVar 6))) (tC (.int 1)))) (gName 8)))
    ((C8.tCut ((tIfS ((tAnd ((tB (tDIn (tVar 7) (tVar 4)))) ((tB (tDNotIn (tVar 8) (tVar 4)))))) ((tAsg ((tOp rCat ((tDGet (tVar 4) (tVar 7))) ((tLst ((tCons ((tTup ((tCons (tVar 6) ((tCons (tC (.int 1)) (tNil))))))) (tNil))))))) (gSub (tVar 4) (tVar 8) rSetD))) (tNext)))
    ((tIfS ((tAnd ((tB (tDIn (tVar 8) (tVar 4)))) ((tB (tDNotIn (tVar 7) (tVar 4)))))) ((tAsg ((tOp rCat ((tDGet (tVar 4) (tVar 8))) ((tLst ((tCons ((tTup ((tCons (tVar 6) ((tCons ((tUn (rU fun i => .int (-i)) (tC (.int 1)))) (tNil))))))) (tNil))))))) (gSub (tVar 4) (tVar 7) rSetD))) (tNext)))))))))))))
    ((tSeq ((tIfS ((tB (tDNotIn (tVar 3) (tVar 4)))) ((tRet (tC .non))) (tNext)))
    ((tRet ((tDGet (tVar 4) (tVar 3))))))))))

theorem pure_l_path (K : PySem.W.Frag) (vs : List V) (H : Hp) (Q : VK) (E : XK) (h : sp_l_path K vs H Q E) : t_l_path K { nx := fun _ H' => Q .non H', rt := Q } (L2.start N_l_path vs) H := by
  obtain ⟨s, A, ss, rs, ts, a, b, rfl, hs, rws, hA, lt, tl, sl, kn, k⟩ := h
  have ela := nV_len ts
  rw [st_l_path]
  unfold t_l_path
  walk_at "st"
  refine wp_disp fun D hD => ?_
  show tVar 2 _ _ _
  walk_at "st"
  refine ⟨Nat.zero_le _, fun p0 hp0 => ?_⟩
  have nD0 : D ≠ p0 := ne_of_none upd_same hp0
  show upd (upd H D (.dK [])) p0 (.lst []) D = some (.dK []) ∧ _
  refine ⟨by rw [upd_ne nD0]; exact upd_same, [(.inr (S a), .ref p0)], rfl, by simp, ?_⟩
  have hp00 : H p0 = none := (Same.new hD).free hp0
  have P0 : Pth H rs ts a D [a] (fun _ => .ref p0) (upd (upd (upd H D (.dK [])) p0 (.lst [])) D (.dK (mergeK [] [(.inr (S a), .ref p0)]))) := by
    refine ⟨Same.mut ((Same.new hD).trans (Same.new hp0)) hD, hD, upd_same, List.mem_singleton.mpr rfl, Nat.le_add_left _ _, fun n hn => ?_⟩
    rw [List.mem_singleton.mp hn]
    exact ⟨p0, [], [], rfl, hp00, by rw [upd_ne nD0.symm]; exact upd_same, .nil, rfl, Nat.le_refl _, by simp⟩
  revert P0
  generalize upd (upd (upd H D (.dK [])) p0 (.lst [])) D (.dK (mergeK [] [(.inr (S a), .ref p0)])) = H1
  intro P0
  have hA1 := P0.same _ _ hA
  walk_at "st"
  refine loopL (sq_of hA1) (fun j σ' H' => ∃ (x y z u : Option V) (ks : List (List Nat)) (F : List Nat → V), σ' = [some (.ref s), some (.ref A), some (sv a), some (sv b), some (.ref D), x, y, z, u] ∧ Pth H rs ts a D ks F H' ∧ (j ≤ cnt (bothB rs ks) ts ∨ ∀ i ∈ ts, ClsE rs ks i)) ⟨_, _, _, _, [a], _, rfl, P0, .inl (Nat.zero_le _)⟩ ?_ ?_ ?_
  · rintro j σ' H' _ ⟨x, y, z, u, ks, F, rfl, pt, _⟩
    exact sq_of (pt.same _ _ hA)
  · rintro j v σ' H' hv ⟨x, y, z, u, k0, F, rfl, pt, hcl⟩
    have hj := (List.getElem?_eq_some_iff.mp hv).1
    rw [ela] at hj
    have hA2 := pt.same _ _ hA
    walk_at "st"
    refine loopL (sq_of hA2) (fun n σ' H' => ∃ (y z u : Option V) (ks : List (List Nat)) (F : List Nat → V), σ' = [some (.ref s), some (.ref A), some (sv a), some (sv b), some (.ref D), some v, y, z, u] ∧ Pth H rs ts a D ks F H' ∧ Pg rs ts k0 ks ∧ (ks = k0 → ∀ i ∈ ts.take n, ClsE rs ks i)) ⟨_, _, _, k0, F, rfl, pt, .inl rfl, by simp⟩ ?_ ?_ ?_
    · rintro n σ' H' _ ⟨y, z, u, ks, F, rfl, pt, _⟩
      exact sq_of (pt.same _ _ hA)
    · rintro n v2 σ' H' hv2 ⟨y, z, u, ks, F, rfl, pt, pg, cl⟩
      unfold nV at hv2
      rw [List.getElem?_map] at hv2
      obtain ⟨i, hi, rfl⟩ := Option.map_eq_some_iff.mp hv2
      have hit := List.mem_of_getElem? hi
      have hn := (List.getElem?_eq_some_iff.mp hi).1
      obtain ⟨r, er⟩ : ∃ r, rs[i]? = some r := ⟨_, List.getElem?_eq_getElem (lt i hit)⟩
      obtain ⟨q, eq, hq⟩ := row_at rws er
      have hs1 := pt.same _ _ hs
      have hq1 := pt.same _ _ hq
      have cl1 : ks = k0 → (r.u ∈ ks ↔ r.v ∈ ks) → ∀ i ∈ ts.take (n + 1), ClsE rs ks i := fun e1 e2 i' hi' => by
        rw [take_snoc hi] at hi'
        rcases List.mem_append.mp hi' with hi' | hi'
        · exact cl e1 i' hi'
        · rw [List.mem_singleton.mp hi']
          intro r' er'
          rw [er] at er'
          cases er'
          exact e2
      walk_at "st"
      refine wp_ixL (sq_of hs1) (at_nth eq) ?_
      walk_at "st"
      refine wp_ixL (sq_of hs1) (at_nth eq) ?_
      walk_at "st"
      have hdD := pt.hd
      have len : ks.length ≤ 25 := Nat.le_trans pt.len (by have := cnt_le (p := bothB rs ks) (ts := ts); omega)
      refine wp_cut (fun σ' H' => ∃ (ks : List (List Nat)) (F : List Nat → V), σ' = [some (.ref s), some (.ref A), some (sv a), some (sv b), some (.ref D), some v, some (.int (i : Nat)), some (sv r.u), some (sv r.v)] ∧ Pth H rs ts a D ks F H' ∧ Pg rs ts k0 ks ∧ (r.u ∈ ks → r.v ∈ ks) ∧ (ks = k0 → (r.u ∈ ks ↔ r.v ∈ ks) → ∀ i ∈ ts.take (n + 1), ClsE rs ks i)) ?_ ?_
      · have fin : (r.u ∈ ks → r.v ∈ ks) → ∃ (ks' : List (List Nat)) (F' : List Nat → V), ([some (.ref s), some (.ref A), some (sv a), some (sv b), some (.ref D), some v, some (.int (i : Nat)), some (sv r.u), some (sv r.v)] : L2.St) = [some (.ref s), some (.ref A), some (sv a), some (sv b), some (.ref D), some v, some (.int (i : Nat)), some (sv r.u), some (sv r.v)] ∧ Pth H rs ts a D ks' F' H' ∧ Pg rs ts k0 ks' ∧ (r.u ∈ ks' → r.v ∈ ks') ∧ (ks' = k0 → (r.u ∈ ks' ↔ r.v ∈ ks') → ∀ i ∈ ts.take (n + 1), ClsE rs ks' i) := fun huv =>
          ⟨ks, F, rfl, pt, pg, huv, cl1⟩
        walk_at "st"
        refine din_s (.inl hdD) ?_
        rw [dN_some]
        walk_at "st"
        refine ite_dec (fun hu => ?_) (fun hu => ?_)
        · walk_at "st"
          refine wp_dnotin ?_
          walk_at "st"
          refine dnin_s (.inl hdD) ?_
          by_cases hv : r.v ∈ ks
          · rw [dN_some, decide_eq_true hv, show (!true) = false from rfl]
            walk_at "st"
            exact fin fun _ => hv
          · rw [dN_some, decide_eq_false hv, show (!false) = true from rfl]
            walk_at "st"
            refine dget_s (.inl hdD) (dN_val hu) ?_
            walk_at "st"
            refine ⟨by simp [sizeLine_eq], fun t ht => ?_⟩
            walk_at "st"
            refine ⟨by simp [sizeLine_eq], fun l hl => ?_⟩
            obtain ⟨p, xs, ws, k1, k2, k3, k4, k5, k6, k7⟩ := pt.ways _ hu
            rw [k1]
            refine wp_cat (Same.new hl _ _ (Same.new ht _ _ k3)) upd_same (by rw [k4.len]; simp; omega) fun w hw => ?_
            have hd5 := Same.new (o := .lst (xs ++ [.ref t])) hw _ _ (Same.new (o := .lst [.ref t]) hl _ _ (Same.new (o := .tup [.int (i : Nat), .int 1]) ht _ _ hdD))
            walk_at "st"
            refine dput_s hd5 (by rw [dN_len]; omega) ?_
            refine ⟨_, _, rfl, pt.add hu hv hit (cnt_add hit er hv (.inl ⟨hu, rfl⟩)) (sd_fwd er) k1 k3 ht hl hw, pg.add hit er hv (.inl ⟨hu, rfl⟩), fun _ => by simp, fun e => ?_⟩
            intro e2 i' hi'
            rw [take_snoc hi] at hi'
            rcases pg with rfl | pg
            · exact absurd (congrArg List.length e) (by rw [List.length_append]; simp)
            · have := cnt_mono (ts := ts) (p := bothB rs ks) (q := bothB rs k0) fun j _ z => bothB_mono (fun x hx => by rw [← e]; exact List.mem_append_left _ hx) z
              omega
        · walk_at "st"
          exact fin fun z => absurd z hu
      · clear hdD len hq1 hs1 cl cl1 pg pt
        rintro σ' H' ⟨ks, F, rfl, pt, pg, huv, cl⟩
        have hdD := pt.hd
        have len : ks.length ≤ 25 := Nat.le_trans pt.len (by have := cnt_le (p := bothB rs ks) (ts := ts); omega)
        walk_at "st"
        refine din_s (.inl hdD) ?_
        rw [dN_some]
        walk_at "st"
        refine ite_dec (fun hv => ?_) (fun hv => ?_)
        · walk_at "st"
          refine wp_dnotin ?_
          walk_at "st"
          refine dnin_s (.inl hdD) ?_
          by_cases hu : r.u ∈ ks
          · rw [dN_some, decide_eq_true hu, show (!true) = false from rfl]
            walk_at "st"
            exact ⟨_, _, _, ks, F, rfl, pt, pg, fun e => cl e ⟨fun _ => hv, fun _ => hu⟩⟩
          · rw [dN_some, decide_eq_false hu, show (!false) = true from rfl]
            walk_at "st"
            refine dget_s (.inl hdD) (dN_val hv) ?_
            walk_at "st"
            refine ⟨by simp [sizeLine_eq], fun t ht => ?_⟩
            walk_at "st"
            refine ⟨by simp [sizeLine_eq], fun l hl => ?_⟩
            obtain ⟨p, xs, ws, k1, k2, k3, k4, k5, k6, k7⟩ := pt.ways _ hv
            rw [k1]
            refine wp_cat (Same.new hl _ _ (Same.new ht _ _ k3)) upd_same (by rw [k4.len]; simp; omega) fun w hw => ?_
            have hd5 := Same.new (o := .lst (xs ++ [.ref t])) hw _ _ (Same.new (o := .lst [.ref t]) hl _ _ (Same.new (o := .tup [.int (i : Nat), .int (-1)]) ht _ _ hdD))
            walk_at "st"
            refine dput_s hd5 (by rw [dN_len]; omega) ?_
            refine ⟨_, _, _, _, _, rfl, pt.add hv hu hit (cnt_add hit er hu (.inr ⟨hv, rfl⟩)) (sd_bwd er) k1 k3 ht hl hw, pg.add hit er hu (.inr ⟨hv, rfl⟩), fun e => ?_⟩
            rcases pg with rfl | pg
            · exact absurd (congrArg List.length e) (by rw [List.length_append]; simp)
            · have := cnt_mono (ts := ts) (p := bothB rs ks) (q := bothB rs k0) fun j _ z => bothB_mono (fun x hx => by rw [← e]; exact List.mem_append_left _ hx) z
              omega
        · walk_at "st"
          exact ⟨_, _, _, ks, F, rfl, pt, pg, fun e => cl e ⟨huv, fun z => absurd z hv⟩⟩
    · rintro σ' H' ⟨y, z, u, ks, F, rfl, pt, pg, cl⟩
      rw [ela] at cl
      rw [List.take_length] at cl
      walk_at "st"
      refine ⟨_, _, _, _, ks, F, rfl, pt, ?_⟩
      rcases pg with rfl | ⟨p1, p2⟩
      · exact .inr (cl rfl)
      · exact .inl (by rcases hcl with hcl | hcl; omega; exact absurd hcl p2)
  · rintro σ' H' ⟨x, y, z, u, ks, F, rfl, pt, hcl⟩
    rw [ela] at hcl
    have len : ks.length ≤ 25 := Nat.le_trans pt.len (by have := cnt_le (p := bothB rs ks) (ts := ts); omega)
    have cl : ∀ i ∈ ts, ClsE rs ks i := hcl.elim (fun z i hi => clsE_both (cnt_all z i hi)) id
    have hdD := pt.hd
    walk_at "st"
    refine wp_dnotin ?_
    walk_at "st"
    refine dnin_s (.inl hdD) ?_
    by_cases hb : b ∈ ks
    · rw [dN_some, decide_eq_true hb, show (!true) = false from rfl]
      walk_at "st"
      refine dget_s (.inl hdD) (dN_val hb) ?_
      obtain ⟨p, xs, ws, k1, k2, k3, k4, k5, k6, k7⟩ := pt.ways _ hb
      rw [k1]
      exact k p xs ws H' pt.same k2 k3 k4 k5 (by omega) k7
    · rw [dN_some, decide_eq_false hb, show (!false) = true from rfl]
      walk_at "st"
      refine kn (fun z => hb ?_) H' pt.same
      exact z.closed (M := (· ∈ ks)) pt.ha fun i r hi er => cl i hi r er
theorem len_l_path (K : PySem.W.Frag) (vs : List V) (H : Hp) (Q : VK) (E : XK) (h : sp_l_path K vs H Q E) : vs.length = 4 := by
  obtain ⟨_, _, _, _, _, _, _, rfl, _⟩ := h
  rfl
theorem c_l_path {K : PySem.W.Frag} {s A : Addr} {ss : List V} {rs : List Row} {ts : List Nat} {a b : List Nat} {H : Hp} {Q : VK} {E : XK} (hs : H s = some (.lst ss)) (rws : Rws H ss rs) (hA : H A = some (.lst (nV ts))) (lt : ∀ i ∈ ts, i < rs.length) (tl : ts.length ≤ 24) (sl : ss.length ≤ 1000) (kn : ¬ Conn rs ts a b → ∀ H', Same H H' → Q .non H')
    (k : ∀ p xs ws H', Same H H' → H p = none → H' p = some (.lst xs) → StF H H' xs ws → Wk rs ws a b → ws.length ≤ 24 → (∀ z ∈ ws, ∃ i ∈ ts, z.1 = (i : Nat)) → Q (.ref p) H') : sp_l_path K [.ref s, .ref A, sv a, sv b] H Q E := ⟨s, A, ss, rs, ts, a, b, rfl, hs, rws, hA, lt, tl, sl, kn, k⟩
def sp_l_ring (K : PySem.W.Frag) : Sp := fun vs H Q _ => ∃ (P : Pl) (G : Hp) (q s : Addr) (ns : List (List Nat)) (ss : List V) (rs : List Row) (m : Nat), vs = [.ref P.p, .ref q, .ref s, .int m] ∧ Sees P G H ∧ G q = some (.lst (ns.map sv)) ∧ G s = some (.lst ss) ∧ Rws G ss rs ∧ (∀ r ∈ rs, r.u ∈ ns ∧ r.v ∈ ns) ∧ ns.Nodup ∧ ns.length ≤ 1000 ∧ ss.length ≤ 24 ∧ m ≤ 100 ∧
  ∀ L xs ws G' H', ws.length ≤ m + 24 → (ws = [] ∨ ∃ a, a ∈ ns ∧ Wk rs ws a a) → StI G' xs ws → G' L = some (.lst xs) → Same G G' → Sees P G' H' → Q (.ref L) H'
abbrev N_l_ring : List Str := ["_law_pool_here", "_law_names_here", "_law_spans", "_law_many", "_law_walk_here", "_law_tree"]
theorem st_l_ring {a0 a1 a2 a3 : V} : L2.start N_l_ring [a0, a1, a2, a3] = [some a0, some a1, some a2, some a3, none, none] := rfl
def t_l_ring (K : PySem.W.Frag) : TS :=
  (tSeq ((tAsg ((tCall (sp_l_walk K) [] E0 ((tCons (tVar 0) ((tCons (tVar 1) ((tCons (tVar 2) ((tCons (tVar 3) (tNil))))))))))) (gName 4)))
    ((tSeq ((tIfS ((tTest (tOp rEq ((tCB (rLenS K) ((tCons (tVar 4) (tNil))))) (tC (.int 0))))) ((tRet ((tLst (tNil))))) (tNext)))
    ((tSeq ((tAsg ((tOp (rIxL K) ((tCall (sp_l_labels K) [] E0 ((tCons (tVar 1) ((tCons (tVar 2) (tNil))))))) (tC (.int 1)))) (gName 5)))
    ((tRet ((tOp rCat (tVar 4) ((tCall (sp_l_path K) [] E0 ((tCons (tVar 2) ((tCons (tVar 5) ((tCons ((tCall (sp_l_finish K) [] E0 ((tCons (tVar 2) ((tCons (tVar 4) (tNil))))))) ((tCons ((tCall (sp_l_begin K) [] E0 ((tCons (tVar 2) ((tCons (tVar 4) (tNil))))))) (tNil))))))))))))))))))))

theorem pure_l_ring (K : PySem.W.Frag) (vs : List V) (H : Hp) (Q : VK) (E : XK) (h : sp_l_ring K vs H Q E) : t_l_ring K { nx := fun _ H' => Q .non H', rt := Q } (L2.start N_l_ring vs) H := by
  obtain ⟨P, G, q, s, ns, ss, rs, m, rfl, hs, hq, hss, rws, inn, nd, n1, s1, m1, k⟩ := h
  have elr := rws.len
  rw [st_l_ring]
  unfold t_l_ring
  walk_at "st"
  refine c_l_walk hs hq hss rws n1 (by omega) (by omega) fun L xs ws G1 H1 lw wk st eL g1 hs1 => ?_
  have eL1 := hs1.sub _ _ eL
  walk_at "st"
  have elw := st.len
  refine ite_dec (fun h0 => ?_) (fun h0 => ?_)
  · walk_at "st"
    refine ⟨Nat.zero_le _, fun p hp => ?_⟩
    obtain ⟨G2, hs2, g2, e2⟩ := hs1.new' (.lst []) hp
    exact k p [] [] G2 _ (Nat.zero_le _) (.inl rfl) .nil e2 (g1.trans g2) hs2
  · have ne : ws ≠ [] := fun e => h0 (by rw [elw, e]; rfl)
    obtain ⟨a, b, ha, wk⟩ := wk.resolve_left ne
    have rws1 := (rws.mono g1).mono hs1.sub
    have st1 := st.mono hs1.sub
    have hss1 := hs1.sub _ _ (g1 _ _ hss)
    obtain ⟨s0, r0, hw0⟩ : ∃ s0 r0, ws = s0 :: r0 := by
      cases ws with
      | nil => exact absurd rfl ne
      | cons x y => exact ⟨x, y, rfl⟩
    have hfirst : ∃ c, sd rs s0 = some (a, c) := by
      rw [hw0] at wk
      obtain ⟨c, hc, _⟩ := wk
      exact ⟨c, hc⟩
    obtain ⟨c0, hc0⟩ := hfirst
    obtain ⟨sl, hsl⟩ : ∃ sl, ws[ws.length - 1]? = some sl := ⟨_, List.getElem?_eq_getElem (by have := List.length_pos_iff.mpr ne; omega)⟩
    obtain ⟨c1, hc1⟩ := wk.last hsl
    walk_at "st"
    refine c_l_labels (hs1.sub _ _ (g1 _ _ hq)) hss1 rws1 inn nd n1 (by omega) fun L2 D A B f ts us H2 t2 eL2 eD eA eB _ _ _ _ lab tl => ?_
    walk_at "st"
    refine c_l_finish (t2 _ _ hss1) (rws1.mono t2) (t2 _ _ eL1) (st1.mono t2) hsl hc1 ?_
    walk_at "st"
    refine c_l_begin (t2 _ _ hss1) (rws1.mono t2) (t2 _ _ eL1) (st1.mono t2) (by rw [hw0]; rfl) hc0 ?_
    walk_at "st"
    have amb : b ∈ ns := by
      obtain ⟨i, r, _, er, hd⟩ := sd_row hc1
      have := inn r (List.mem_of_getElem? er)
      rcases hd with ⟨_, _, rfl⟩ | ⟨_, _, rfl⟩
      · exact this.2
      · exact this.1
    refine c_l_path (t2 _ _ hss1) (rws1.mono t2) eA lab.lt (by omega) (by omega) (fun nc => absurd (lab.conn b amb a ha (lab.wk wk).symm) nc) fun p ys zs H3 t3 hp hp3 st3 wk3 lz _ => ?_
    have t23 := t2.trans t3
    refine wp_cat (t23 _ _ eL1) hp3 (by rw [st.len, st3.len]; omega) fun r hr => ?_
    have t4 := Same.new (o := .lst (xs ++ ys)) hr
    have tall := t23.trans t4
    obtain ⟨G4, hs4, g4, new4, _⟩ := hs1.gain tall
    have st4 : StI G4 ys zs := ((st3.mono t4).back t2).map fun _ _ f e => ⟨rfl, new4 _ _ f e⟩
    exact k r (xs ++ ys) (ws ++ zs) G4 _ (by rw [List.length_append]; omega) (.inr ⟨a, ha, wk.app wk3⟩) (StF.app st4 (st.mono g4)) (new4 _ _ (t23.free hr) upd_same) (g1.trans g4) hs4
theorem len_l_ring (K : PySem.W.Frag) (vs : List V) (H : Hp) (Q : VK) (E : XK) (h : sp_l_ring K vs H Q E) : vs.length = 4 := by
  obtain ⟨_, _, _, _, _, _, _, _, rfl, _⟩ := h
  rfl
theorem c_l_ring {K : PySem.W.Frag} {P : Pl} {G H : Hp} {q s : Addr} {ns : List (List Nat)} {ss : List V} {rs : List Row} {m : Int} {Q : VK} {E : XK} (hs : Sees P G H) (hq : G q = some (.lst (ns.map sv))) (hss : G s = some (.lst ss)) (rws : Rws G ss rs) (inn : ∀ r ∈ rs, r.u ∈ ns ∧ r.v ∈ ns) (nd : ns.Nodup) (n1 : ns.length ≤ 1000) (s1 : ss.length ≤ 24) (m1 : 0 ≤ m ∧ m ≤ 100)
    (k : ∀ L xs ws G' H', (ws.length : Int) ≤ m + 24 → (ws = [] ∨ ∃ a, a ∈ ns ∧ Wk rs ws a a) → StI G' xs ws → G' L = some (.lst xs) → Same G G' → Sees P G' H' → Q (.ref L) H') : sp_l_ring K [.ref P.p, .ref q, .ref s, .int m] H Q E := by
  obtain ⟨j, rfl⟩ : ∃ j : Nat, m = j := ⟨m.toNat, by omega⟩
  exact ⟨P, G, q, s, ns, ss, rs, j, rfl, hs, hq, hss, rws, inn, nd, n1, s1, by omega, fun L xs ws G' H' l => k L xs ws G' H' (by omega)⟩
theorem ixN_of {n : Nat} {k : Int} (h0 : 0 ≤ k) (h1 : k < n) : ixN n k = some k.toNat := by
  unfold ixN
  rw [if_pos h0, if_pos h1]
theorem atI_of {α : Type} {xs : List α} {k : Int} {x : α} (h0 : 0 ≤ k) (h : xs[k.toNat]? = some x) : atI xs k = some x := by
  obtain ⟨j, rfl⟩ : ∃ j : Nat, k = j := ⟨k.toNat, by omega⟩
  exact at_nth h
def sp_l_spoilt (K : PySem.W.Frag) : Sp := fun vs H Q _ => ∃ (P : Pl) (G : Hp) (w : Addr) (xs : List V) (ws : List (Int × Int)) (c : Int), vs = [.ref P.p, .ref w, .int c] ∧ Sees P G H ∧ G w = some (.lst xs) ∧ StI G xs ws ∧ ws.length ≤ 1000 ∧
  ∀ L zs us G' H', us.length ≤ ws.length → StI G' zs us → G' L = some (.lst zs) → Same G G' → Sees P G' H' → Q (.ref L) H'
abbrev N_l_spoilt : List Str := ["_law_pool_here", "_law_walk_here", "_law_count", "_law_steps_here", "_law_way", "_law_at"]
theorem st_l_spoilt {a0 a1 a2 : V} : L2.start N_l_spoilt [a0, a1, a2] = [some a0, some a1, some a2, none, none, none] := rfl
def t_l_spoilt (K : PySem.W.Frag) : TS :=
  (tSeq ((tAsg ((tCB (rListS K) ((tCons (tVar 1) (tNil))))) (gName 3)))
    ((tSeq ((tAsg ((tCall (sp_l_draw K) [] E0 ((tCons (tVar 0) ((tCons (tC (.int 5)) (tNil))))))) (gName 4)))
    ((tSeq ((tIfS ((tTest (tOp (rI0 fun i j => .bl (decide (j < i))) ((tCB (rLenS K) ((tCons (tVar 3) (tNil))))) (tC (.int 0))))) ((tSeq ((tAsg ((tCall (sp_l_draw K) [] E0 ((tCons (tVar 0) ((tCons ((tCB (rLenS K) ((tCons (tVar 3) (tNil))))) (tNil))))))) (gName 5)))
    ((C8.tCut ((tIfS ((tTest (tOp rEq (tVar 4) (tC (.int 0))))) ((tAsg ((tTup ((tCons ((tOp (rIxL K) ((tLst ((tCons ((tUn (rU fun i => .int (-i)) (tC (.int 1)))) ((tCons (tVar 2) ((tCons ((tOp (rI0 fun i j => .int (i + j)) (tVar 2) (tC (.int 3)))) (tNil))))))))) ((tCall (sp_l_draw K) [] E0 ((tCons (tVar 0) ((tCons (tC (.int 3)) (tNil))))))))) ((tCons ((tOp (rIxT K) ((tOp (rIxL K) (tVar 3) (tVar 5))) (tC (.int 1)))) (tNil))))))) (gSub (tVar 3) (tVar 5) rSetL))) (tNext)))
    ((C8.tCut ((tIfS ((tTest (tOp rEq (tVar 4) (tC (.int 1))))) ((tAsg ((tTup ((tCons ((tOp (rIxT K) ((tOp (rIxL K) (tVar 3) (tVar 5))) (tC (.int 0)))) ((tCons ((tOp (rIxL K) ((tLst ((tCons (tC (.int 0)) ((tCons (tC (.int 2)) ((tCons ((tUn (rU fun i => .int (-i)) (tC (.int 2)))) (tNil))))))))) ((tCall (sp_l_draw K) [] E0 ((tCons (tVar 0) ((tCons (tC (.int 3)) (tNil))))))))) (tNil))))))) (gSub (tVar 3) (tVar 5) rSetL))) (tNext)))
    ((C8.tCut ((tIfS ((tTest (tOp rEq (tVar 4) (tC (.int 2))))) ((tAsg ((tTup ((tCons ((tOp (rIxT K) ((tOp (rIxL K) (tVar 3) (tVar 5))) (tC (.int 0)))) ((tCons ((tUn (rU fun i => .int (-i)) ((tOp (rIxT K) ((tOp (rIxL K) (tVar 3) (tVar 5))) (tC (.int 1)))))) (tNil))))))) (gSub (tVar 3) (tVar 5) rSetL))) (tNext)))
    ((C8.tCut ((tIfS ((tTest (tOp rEq (tVar 4) (tC (.int 3))))) ((tAsg ((tOp rCat ((tSl (rSlL K) (tVar 3) tNoPart (tPart (tVar 5)))) ((tSl (rSlL K) (tVar 3) (tPart ((tOp (rI0 fun i j => .int (i + j)) (tVar 5) (tC (.int 1))))) tNoPart)))) (gName 3))) (tNext)))
    ((tIfS ((tTest (tOp rEq (tVar 4) (tC (.int 4))))) ((tAsg ((tOp rCat ((tSl (rSlL K) (tVar 3) (tPart (tVar 5)) tNoPart)) ((tSl (rSlL K) (tVar 3) tNoPart (tPart (tVar 5)))))) (gName 3))) (tNext))))))))))))) (tNext)))
    ((tRet (tVar 3))))))))

theorem pure_l_spoilt (K : PySem.W.Frag) (vs : List V) (H : Hp) (Q : VK) (E : XK) (h : sp_l_spoilt K vs H Q E) : t_l_spoilt K { nx := fun _ H' => Q .non H', rt := Q } (L2.start N_l_spoilt vs) H := by
  obtain ⟨P, G, w, xs, ws, c, rfl, hs, hw, st, few, k⟩ := h
  have elw := st.len
  rw [st_l_spoilt]
  unfold t_l_spoilt
  walk_at "st"
  refine wp_listL (sq_of (hs.sub _ _ hw)) fun L hL => ?_
  obtain ⟨gL, nL⟩ := hs.fresh hL
  have nLl : L ≠ P.l := fun e => by rw [e, hs.cell] at gL; cases gL
  obtain ⟨G1, hs1, g1, e1⟩ := hs.new' (.lst xs) hL
  walk_at "st"
  refine c_l_draw hs1 (by omega) fun way H2 w0 w1 hs2 => ?_
  have st1 := st.mono g1
  walk_at "st"
  refine ite_dec (fun hlen => ?_) (fun hlen => ?_)
  · walk_at "st"
    refine c_l_draw hs2 (by omega) fun d H3 d0 d1 hs3 => ?_
    rw [elw] at d1
    have setc : ∀ {zs2 : List V} {us2 : List (Int × Int)} {G2 H3 : Hp} {p : Addr} {x y : Int}, us2.length = ws.length → StI G2 zs2 us2 → G2 L = some (.lst zs2) → Same G G2 → Sees P G2 H3 → H3 p = none →
        ∃ (us : List (Int × Int)) (G' : Hp), us.length = ws.length ∧ StI G' (zs2.set d.toNat (.ref p)) us ∧ G' L = some (.lst (zs2.set d.toNat (.ref p))) ∧ Same G G' ∧ Sees P G' (upd (upd H3 p (.tup [.int x, .int y])) L (.lst (zs2.set d.toNat (.ref p)))) := by
      intro zs2 us2 G2 H3 p x y lu st2 eL2 g2 hs3 hp
      have hs4 := hs3.new (o := .tup [.int x, .int y]) hp
      have g4 : Same G2 (upd G2 p (.tup [.int x, .int y])) := Same.new (hs3.sub.free hp)
      have eL4 := g4 _ _ eL2
      have st4 : StI (upd G2 p (.tup [.int x, .int y])) (zs2.set d.toNat (.ref p)) (us2.set d.toNat (x, y)) := (st2.mono g4).set (s := (x, y)) rfl upd_same _
      exact ⟨us2.set d.toNat (x, y), _, by rw [List.length_set]; exact lu, st4.upd eL4, upd_same, Same.mut (g2.trans g4) gL, hs4.putG nLl nL⟩
    walk_at "st"
    refine wp_cut (fun σ' H' => ∃ (zs : List V) (us : List (Int × Int)) (G' : Hp), σ' = [some (.ref P.p), some (.ref w), some (.int c), some (.ref L), some (.int way), some (.int d)] ∧ us.length = ws.length ∧ StI G' zs us ∧ G' L = some (.lst zs) ∧ Same G G' ∧ Sees P G' H') ?_ ?_
    · obtain ⟨x, hx, _, hxt⟩ := st1.atI_ (i := d.toNat) (List.getElem?_eq_getElem (by omega))
      generalize ws[d.toNat]'(by omega) = sx at hxt
      have atx : atI xs d = some (.ref x) := atI_of d0 hx
      have hxt3 := hs3.sub _ _ hxt
      have eL3 := hs3.sub _ _ e1
      walk_at "st"
      refine ite_dec (fun hw0 => ?_) (fun hw0 => ?_)
      · walk_at "st"
        refine ⟨by simp [sizeLine_eq], fun l hl => ?_⟩
        obtain ⟨G4, hs4, g4, e4⟩ := hs3.new' (.lst [.int (-1), .int c, .int (c + 3)]) hl
        walk_at "st"
        refine c_l_draw hs4 (by omega) fun e H5 y0 y1 hs5 => ?_
        walk_at "st"
        refine wp_ixLM (sq_of (hs5.sub _ _ e4)) y0 (by simp; omega) fun v hv _ => ?_
        obtain ⟨j, rfl⟩ : ∃ j : Int, v = .int j := by
          rcases List.mem_cons.mp hv with rfl | hv
          · exact ⟨_, rfl⟩
          · rcases List.mem_cons.mp hv with rfl | hv
            · exact ⟨_, rfl⟩
            · exact ⟨_, List.mem_singleton.mp hv⟩
        have hxt5 := hs5.sub _ _ (g4 _ _ hxt)
        walk_at "st"
        refine wp_ixL (sq_of (hs5.sub _ _ (g4 _ _ e1))) atx ?_
        walk_at "st"
        refine ⟨by simp [sizeLine_eq], fun p hp => ?_⟩
        obtain ⟨us3, G', b1, b2, b3, b4, b5⟩ := setc (p := p) (x := j) (y := sx.2) rfl (st1.mono g4) (g4 _ _ e1) (g1.trans g4) hs5 hp
        have lzz := st1.len
        walk_at "st"
        refine wp_setL (Same.new hp _ _ (hs5.sub _ _ (g4 _ _ e1))) (ixN_of d0 (by omega)) ?_
        exact ⟨_, us3, G', rfl, b1, b2, b3, b4, b5⟩
      · walk_at "st"
        exact ⟨xs, ws, G1, rfl, rfl, st1, e1, g1, hs3⟩
    · rintro σ' H3 ⟨zs2, us2, G2, rfl, lu, st2, eL2, g2, hs3⟩
      refine wp_cut (fun σ' H' => ∃ (zs : List V) (us : List (Int × Int)) (G' : Hp), σ' = [some (.ref P.p), some (.ref w), some (.int c), some (.ref L), some (.int way), some (.int d)] ∧ us.length = ws.length ∧ StI G' zs us ∧ G' L = some (.lst zs) ∧ Same G G' ∧ Sees P G' H') ?_ ?_
      · obtain ⟨x, hx, _, hxt⟩ := st2.atI_ (i := d.toNat) (List.getElem?_eq_getElem (by omega))
        generalize us2[d.toNat]'(by omega) = sx at hxt
        have atx : atI zs2 d = some (.ref x) := atI_of d0 hx
        have hxt3 := hs3.sub _ _ hxt
        have eL3 := hs3.sub _ _ eL2
        walk_at "st"
        refine ite_dec (fun hw0 => ?_) (fun hw0 => ?_)
        · walk_at "st"
          refine ⟨by simp [sizeLine_eq], fun l hl => ?_⟩
          obtain ⟨G4, hs4, g4, e4⟩ := hs3.new' (.lst [.int 0, .int 2, .int (-2)]) hl
          walk_at "st"
          refine c_l_draw hs4 (by omega) fun e H5 y0 y1 hs5 => ?_
          walk_at "st"
          refine wp_ixLM (sq_of (hs5.sub _ _ e4)) y0 (by simp; omega) fun v hv _ => ?_
          obtain ⟨j, rfl⟩ : ∃ j : Int, v = .int j := by
            rcases List.mem_cons.mp hv with rfl | hv
            · exact ⟨_, rfl⟩
            · rcases List.mem_cons.mp hv with rfl | hv
              · exact ⟨_, rfl⟩
              · exact ⟨_, List.mem_singleton.mp hv⟩
          walk_at "st"
          refine ⟨by simp [sizeLine_eq], fun p hp => ?_⟩
          obtain ⟨us3, G', b1, b2, b3, b4, b5⟩ := setc (p := p) (x := sx.1) (y := j) lu (st2.mono g4) (g4 _ _ eL2) (g2.trans g4) hs5 hp
          have lzz := st2.len
          walk_at "st"
          refine wp_setL (Same.new hp _ _ (hs5.sub _ _ (g4 _ _ eL2))) (ixN_of d0 (by omega)) ?_
          exact ⟨_, us3, G', rfl, b1, b2, b3, b4, b5⟩
        · walk_at "st"
          exact ⟨zs2, us2, G2, rfl, lu, st2, eL2, g2, hs3⟩
      · rintro σ' H3 ⟨zs2, us2, G2, rfl, lu, st2, eL2, g2, hs3⟩
        refine wp_cut (fun σ' H' => ∃ (zs : List V) (us : List (Int × Int)) (G' : Hp), σ' = [some (.ref P.p), some (.ref w), some (.int c), some (.ref L), some (.int way), some (.int d)] ∧ us.length = ws.length ∧ StI G' zs us ∧ G' L = some (.lst zs) ∧ Same G G' ∧ Sees P G' H') ?_ ?_
        · obtain ⟨x, hx, _, hxt⟩ := st2.atI_ (i := d.toNat) (List.getElem?_eq_getElem (by omega))
          generalize us2[d.toNat]'(by omega) = sx at hxt
          have atx : atI zs2 d = some (.ref x) := atI_of d0 hx
          have hxt3 := hs3.sub _ _ hxt
          have eL3 := hs3.sub _ _ eL2
          walk_at "st"
          refine ite_dec (fun hw0 => ?_) (fun hw0 => ?_)
          · walk_at "st"
            refine ⟨by simp [sizeLine_eq], fun p hp => ?_⟩
            obtain ⟨us3, G', b1, b2, b3, b4, b5⟩ := setc (p := p) (x := sx.1) (y := -sx.2) lu (st2.mono (Same.refl _)) ((Same.refl _) _ _ eL2) (g2.trans (Same.refl _)) hs3 hp
            have lzz := st2.len
            walk_at "st"
            refine wp_setL (Same.new hp _ _ (hs3.sub _ _ ((Same.refl _) _ _ eL2))) (ixN_of d0 (by omega)) ?_
            exact ⟨_, us3, G', rfl, b1, b2, b3, b4, b5⟩
          · walk_at "st"
            exact ⟨zs2, us2, G2, rfl, lu, st2, eL2, g2, hs3⟩
        · rintro σ' H3 ⟨zs2, us2, G2, rfl, lu, st2, eL2, g2, hs3⟩
          refine wp_cut (fun σ' H' => ∃ (L' : Addr) (zs : List V) (us : List (Int × Int)) (G' : Hp), σ' = [some (.ref P.p), some (.ref w), some (.int c), some (.ref L'), some (.int way), some (.int d)] ∧ us.length ≤ ws.length ∧ (way = 4 → us.length = ws.length) ∧ StI G' zs us ∧ G' L' = some (.lst zs) ∧ Same G G' ∧ Sees P G' H') ?_ ?_
          · have eL3 := hs3.sub _ _ eL2
            have lz := st2.len
            walk_at "st"
            refine ite_dec (fun hw3 => ?_) (fun hw3 => ?_)
            · walk_at "st"
              refine wp_sliceL (sq_of eL3) fun p1 hp1 => ?_
              obtain ⟨G4, hs4, g4, e4⟩ := hs3.new' (.lst (cutG zs2 none (some d))) hp1
              walk_at "st"
              refine wp_sliceL (sq_of (hs4.sub _ _ (g4 _ _ eL2))) fun p2 hp2 => ?_
              obtain ⟨G5, hs5, g5, e5⟩ := hs4.new' (.lst (cutG zs2 (some (d + 1)) none)) hp2
              have e4 := g5 _ _ e4
              rw [cutG_to1 d0 (by omega)] at e4
              rw [cutG_from1 (by omega) (by omega)] at e5
              walk_at "st"
              refine wp_cat (hs5.sub _ _ e4) (hs5.sub _ _ e5) (by rw [List.length_drop, List.length_take]; omega) fun p3 hp3 => ?_
              obtain ⟨G6, hs6, g6, e6⟩ := hs5.new' (.lst (zs2.take d.toNat ++ zs2.drop (d + 1).toNat)) hp3
              have gg := g4.trans (g5.trans g6)
              walk_at "st"
              exact ⟨p3, _, us2.take d.toNat ++ us2.drop (d + 1).toNat, G6, rfl, by rw [List.length_append, List.length_drop, List.length_take]; omega, fun z => by omega, StF.app ((st2.mono gg).drop _) ((st2.mono gg).take _), e6, g2.trans gg, hs6⟩
            · walk_at "st"
              exact ⟨L, zs2, us2, G2, rfl, by omega, fun _ => lu, st2, eL2, g2, hs3⟩
          · clear hs3 eL2 st2 lu g2
            rintro σ' H4 ⟨L', zs2, us2, G2, rfl, lu, lu4, st2, eL2, g2, hs3⟩
            have eL3 := hs3.sub _ _ eL2
            have lz := st2.len
            walk_at "st"
            refine ite_dec (fun hw3 => ?_) (fun hw3 => ?_)
            · have lu4 := lu4 (by omega)
              walk_at "st"
              refine wp_sliceL (sq_of eL3) fun p1 hp1 => ?_
              obtain ⟨G4, hs4, g4, e4⟩ := hs3.new' (.lst (cutG zs2 (some d) none)) hp1
              walk_at "st"
              refine wp_sliceL (sq_of (hs4.sub _ _ (g4 _ _ eL2))) fun p2 hp2 => ?_
              obtain ⟨G5, hs5, g5, e5⟩ := hs4.new' (.lst (cutG zs2 none (some d))) hp2
              have e4 := g5 _ _ e4
              rw [cutG_from1 d0 (by omega)] at e4
              rw [cutG_to1 d0 (by omega)] at e5
              walk_at "st"
              refine wp_cat (hs5.sub _ _ e4) (hs5.sub _ _ e5) (by rw [List.length_drop, List.length_take]; omega) fun p3 hp3 => ?_
              obtain ⟨G6, hs6, g6, e6⟩ := hs5.new' (.lst (zs2.drop d.toNat ++ zs2.take d.toNat)) hp3
              have gg := g4.trans (g5.trans g6)
              walk_at "st"
              exact k p3 _ (us2.drop d.toNat ++ us2.take d.toNat) G6 _ (by rw [List.length_append, List.length_drop, List.length_take]; omega) (StF.app ((st2.mono gg).take _) ((st2.mono gg).drop _)) e6 (g2.trans gg) hs6
            · walk_at "st"
              exact k L' zs2 us2 G2 _ lu st2 eL2 g2 hs3
  · walk_at "st"
    exact k L xs ws G1 _ (Nat.le_refl _) st1 e1 g1 hs2
theorem len_l_spoilt (K : PySem.W.Frag) (vs : List V) (H : Hp) (Q : VK) (E : XK) (h : sp_l_spoilt K vs H Q E) : vs.length = 3 := by
  obtain ⟨_, _, _, _, _, _, rfl, _⟩ := h
  rfl
theorem c_l_spoilt {K : PySem.W.Frag} {P : Pl} {G H : Hp} {w : Addr} {xs : List V} {ws : List (Int × Int)} {c : Int} {Q : VK} {E : XK} (hs : Sees P G H) (hw : G w = some (.lst xs)) (st : StI G xs ws) (few : ws.length ≤ 1000)
    (k : ∀ L zs us G' H', us.length ≤ ws.length → StI G' zs us → G' L = some (.lst zs) → Same G G' → Sees P G' H' → Q (.ref L) H') : sp_l_spoilt K [.ref P.p, .ref w, .int c] H Q E := ⟨P, G, w, xs, ws, c, rfl, hs, hw, st, few, k⟩
def sp_l_loose (K : PySem.W.Frag) : Sp := fun vs H Q _ => ∃ (P : Pl) (G : Hp) (c m : Nat), vs = [.ref P.p, .int c, .int m] ∧ Sees P G H ∧ c ≤ 1000 ∧ m ≤ 1000 ∧
  ∀ L zs us G' H', us.length = m → StI G' zs us → G' L = some (.lst zs) → Same G G' → Sees P G' H' → Q (.ref L) H'
abbrev N_l_loose : List Str := ["_law_pool_here", "_law_count", "_law_many", "_law_steps_here", "_law_k", "_law_number", "_law_direction"]
theorem st_l_loose {a0 a1 a2 : V} : L2.start N_l_loose [a0, a1, a2] = [some a0, some a1, some a2, none, none, none, none] := rfl
def t_l_loose (K : PySem.W.Frag) : TS :=
  (tSeq ((tAsg ((tLst (tNil))) (gName 3)))
    ((tSeq ((tFor ((iRng1 ((tCons (tVar 2) (tNil))))) (gName 4) ((tSeq ((tAsg ((tOp (rI0 fun i j => .int (i - j)) ((tCall (sp_l_draw K) [] E0 ((tCons (tVar 0) ((tCons ((tOp (rI0 fun i j => .int (i + j)) (tVar 1) (tC (.int 2)))) (tNil))))))) (tC (.int 1)))) (gName 5)))
    ((C8.tCut ((tIfS ((tTest (tOp rEq ((tCall (sp_l_draw K) [] E0 ((tCons (tVar 0) ((tCons (tC (.int 16)) (tNil))))))) (tC (.int 0))))) ((tAsg ((tOp (rI0 fun i j => .int (i - j)) ((tCall (sp_l_draw K) [] E0 ((tCons (tVar 0) ((tCons ((tOp (rI0 fun i j => .int (i + j)) ((tOp (rI CMul fun i j => .int (i * j)) (tC (.int 2)) ((tOp (rI CPow fun i j => .int (i ^ j.toNat)) (tC (.int 10)) (tC (.int 9)))))) (tC (.int 1)))) (tNil))))))) ((tOp (rI CPow fun i j => .int (i ^ j.toNat)) (tC (.int 10)) (tC (.int 9)))))) (gName 5))) (tNext)))
    ((tSeq ((tAsg ((tOp (rI0 fun i j => .int (i - j)) (tC (.int 1)) ((tOp (rI CMul fun i j => .int (i * j)) (tC (.int 2)) ((tCall (sp_l_draw K) [] E0 ((tCons (tVar 0) ((tCons (tC (.int 2)) (tNil))))))))))) (gName 6)))
    ((C8.tCut ((tIfS ((tTest (tOp rEq ((tCall (sp_l_draw K) [] E0 ((tCons (tVar 0) ((tCons (tC (.int 16)) (tNil))))))) (tC (.int 0))))) ((tAsg ((tOp (rI0 fun i j => .int (i - j)) ((tCall (sp_l_draw K) [] E0 ((tCons (tVar 0) ((tCons ((tOp (rI0 fun i j => .int (i + j)) ((tOp (rI CMul fun i j => .int (i * j)) (tC (.int 2)) ((tOp (rI CPow fun i j => .int (i ^ j.toNat)) (tC (.int 10)) (tC (.int 9)))))) (tC (.int 1)))) (tNil))))))) ((tOp (rI CPow fun i j => .int (i ^ j.toNat)) (tC (.int 10)) (tC (.int 9)))))) (gName 6))) (tNext)))
    ((tDrop ((tBM K "list" rAppend (tVar 3) ((tCons ((tTup ((tCons (tVar 5) ((tCons (tVar 6) (tNil))))))) (tNil)))))))))))))))))
    ((tRet (tVar 3))))))

theorem pure_l_loose (K : PySem.W.Frag) (vs : List V) (H : Hp) (Q : VK) (E : XK) (h : sp_l_loose K vs H Q E) : t_l_loose K { nx := fun _ H' => Q .non H', rt := Q } (L2.start N_l_loose vs) H := by
  obtain ⟨P, G, c, m, rfl, hs, c1, m1, k⟩ := h
  rw [st_l_loose]
  unfold t_l_loose
  walk_at "st"
  refine ⟨Nat.zero_le _, fun L hL => ?_⟩
  obtain ⟨gL, nL⟩ := hs.fresh hL
  have nLl : L ≠ P.l := fun e => by rw [e, hs.cell] at gL; cases gL
  obtain ⟨G1, hs1, g1, e1⟩ := hs.new' (.lst []) hL
  walk_at "st"
  refine loop1 (by omega) (fun i σ' H' => ∃ (x y z : Option V) (zs : List V) (us : List (Int × Int)) (G' : Hp), σ' = [some (.ref P.p), some (.int c), some (.int m), some (.ref L), x, y, z] ∧ us.length = i ∧ StI G' zs us ∧ G' L = some (.lst zs) ∧ Same G G' ∧ Sees P G' H') ⟨_, _, _, [], [], G1, rfl, rfl, .nil, e1, g1, hs1⟩ ?_ ?_
  · rintro i σ' H' hi ⟨x, y, z, zs, us, G', rfl, lu, st, eL, sg, hs2⟩
    walk_at "st"
    refine c_l_draw hs2 (by omega) fun e H3 e0 e1 hs3 => ?_
    walk_at "st"
    refine wp_cut (fun σ' H' => ∃ (n : Int), σ' = [some (.ref P.p), some (.int c), some (.int m), some (.ref L), some (.int i), some (.int n), z] ∧ Sees P G' H') ?_ ?_
    · walk_at "st"
      refine c_l_draw hs3 (by omega) fun e H4 e0 e1 hs4 => ?_
      walk_at "st"
      refine ite_dec (fun h => ?_) (fun h => ?_)
      · walk_at "st"
        refine c_l_draw hs4 (by decide) fun e H5 e0 e1 hs5 => ?_
        walk_at "st"
        exact ⟨_, rfl, hs5⟩
      · walk_at "st"
        exact ⟨_, rfl, hs4⟩
    · clear hs3
      rintro σ' H4 ⟨n, rfl, hs3⟩
      walk_at "st"
      refine c_l_draw hs3 (by omega) fun e H4 e0 e1 hs4 => ?_
      walk_at "st"
      refine wp_cut (fun σ' H' => ∃ (d : Int), σ' = [some (.ref P.p), some (.int c), some (.int m), some (.ref L), some (.int i), some (.int n), some (.int d)] ∧ Sees P G' H') ?_ ?_
      · walk_at "st"
        refine c_l_draw hs4 (by omega) fun e H4 e0 e1 hs5 => ?_
        walk_at "st"
        refine ite_dec (fun h => ?_) (fun h => ?_)
        · walk_at "st"
          refine c_l_draw hs5 (by decide) fun e H5 e0 e1 hs6 => ?_
          walk_at "st"
          exact ⟨_, rfl, hs6⟩
        · walk_at "st"
          exact ⟨_, rfl, hs5⟩
      · clear hs4 hs3
        rintro σ' H5 ⟨d, rfl, hs3⟩
        walk_at "st"
        refine ⟨by simp [sizeLine_eq], fun p hp => ?_⟩
        have hs4 := hs3.new (o := .tup [.int n, .int d]) hp
        have g4 : Same G' (upd G' p (.tup [.int n, .int d])) := Same.new (hs3.sub.free hp)
        have eL4 := g4 _ _ eL
        walk_at "st"
        refine wp_append (hs4.sub _ _ eL4) (by rw [st.len]; omega) ?_
        walk_at "st"
        exact ⟨_, _, _, zs ++ [.ref p], us ++ [(n, d)], _, rfl, by rw [List.length_append]; simp; omega, (StF.app (StF.one rfl upd_same) (st.mono g4)).upd eL4, upd_same, Same.mut (sg.trans g4) gL, hs4.putG nLl nL⟩
  · rintro σ' H' ⟨x, y, z, zs, us, G', rfl, lu, st, eL, sg, hs2⟩
    walk_at "st"
    exact k L zs us G' H' (by omega) st eL sg hs2
theorem len_l_loose (K : PySem.W.Frag) (vs : List V) (H : Hp) (Q : VK) (E : XK) (h : sp_l_loose K vs H Q E) : vs.length = 3 := by
  obtain ⟨_, _, _, _, rfl, _⟩ := h
  rfl
theorem c_l_loose {K : PySem.W.Frag} {P : Pl} {G H : Hp} {c m : Int} {Q : VK} {E : XK} (hs : Sees P G H) (c1 : 0 ≤ c ∧ c ≤ 1000) (m1 : 0 ≤ m ∧ m ≤ 1000) (k : ∀ L zs us G' H', (us.length : Int) = m → StI G' zs us → G' L = some (.lst zs) → Same G G' → Sees P G' H' → Q (.ref L) H') : sp_l_loose K [.ref P.p, .int c, .int m] H Q E := by
  obtain ⟨a, rfl⟩ : ∃ a : Nat, c = a := ⟨c.toNat, by omega⟩
  obtain ⟨b, rfl⟩ : ∃ b : Nat, m = b := ⟨m.toNat, by omega⟩
  exact ⟨P, G, a, b, rfl, hs, by omega, by omega, fun L zs us G' H' l => k L zs us G' H' (by omega)⟩
def sp_l_steps (K : PySem.W.Frag) : Sp := fun vs H Q _ => ∃ (P : Pl) (G : Hp) (q s : Addr) (ns : List (List Nat)) (ss : List V) (rs : List Row) (m : Nat), vs = [.ref P.p, .ref q, .ref s, .int m] ∧ Sees P G H ∧ G q = some (.lst (ns.map sv)) ∧ G s = some (.lst ss) ∧ Rws G ss rs ∧ (∀ r ∈ rs, r.u ∈ ns ∧ r.v ∈ ns) ∧ ns.Nodup ∧ ns.length ≤ 1000 ∧ ss.length ≤ 24 ∧ m ≤ 100 ∧
  ∀ L zs us G' H', us.length ≤ 130 → StI G' zs us → G' L = some (.lst zs) → Same G G' → Sees P G' H' → Q (.ref L) H'
abbrev N_l_steps : List Str := ["_law_pool_here", "_law_names_here", "_law_spans", "_law_many", "_law_way", "_law_size", "_law_steps_here"]
theorem st_l_steps {a0 a1 a2 a3 : V} : L2.start N_l_steps [a0, a1, a2, a3] = [some a0, some a1, some a2, some a3, none, none, none] := rfl
def t_l_steps (K : PySem.W.Frag) : TS :=
  (tSeq ((tAsg ((tCall (sp_l_draw K) [] E0 ((tCons (tVar 0) ((tCons (tC (.int 6)) (tNil))))))) (gName 4)))
    ((tSeq ((tAsg ((tCall (sp_l_draw K) [] E0 ((tCons (tVar 0) ((tCons ((tOp (rI0 fun i j => .int (i + j)) (tVar 3) (tC (.int 1)))) (tNil))))))) (gName 5)))
    ((tSeq ((tIfS ((tTest (tOp rEq (tVar 4) (tC (.int 0))))) ((tRet ((tCall (sp_l_loose K) [] E0 ((tCons (tVar 0) ((tCons ((tCB (rLenS K) ((tCons (tVar 2) (tNil))))) ((tCons (tVar 5) (tNil))))))))))) (tNext)))
    ((C8.tCut ((tIfS ((tOr ((tTest (tOp rEq (tVar 4) (tC (.int 1))))) ((tTest (tOp rEq (tVar 4) (tC (.int 2))))))) ((tAsg ((tCall (sp_l_ring K) [] E0 ((tCons (tVar 0) ((tCons (tVar 1) ((tCons (tVar 2) ((tCons (tVar 5) (tNil))))))))))) (gName 6))) ((tAsg ((tCall (sp_l_walk K) [] E0 ((tCons (tVar 0) ((tCons (tVar 1) ((tCons (tVar 2) ((tCons (tVar 5) (tNil))))))))))) (gName 6)))))
    ((C8.tCut ((tIfS ((tOr ((tTest (tOp rEq (tVar 4) (tC (.int 2))))) ((tTest (tOp (rI0 fun i j => .bl (decide (j < i))) (tVar 4) (tC (.int 3))))))) ((tAsg ((tCall (sp_l_spoilt K) [] E0 ((tCons (tVar 0) ((tCons (tVar 6) ((tCons ((tCB (rLenS K) ((tCons (tVar 2) (tNil))))) (tNil))))))))) (gName 6))) (tNext)))
    ((tSeq ((tIfS ((tTest (tOp rEq (tVar 4) (tC (.int 5))))) ((tAsg ((tCall (sp_l_spoilt K) [] E0 ((tCons (tVar 0) ((tCons (tVar 6) ((tCons ((tCB (rLenS K) ((tCons (tVar 2) (tNil))))) (tNil))))))))) (gName 6))) (tNext)))
    ((tRet (tVar 6))))))))))))))

theorem pure_l_steps (K : PySem.W.Frag) (vs : List V) (H : Hp) (Q : VK) (E : XK) (h : sp_l_steps K vs H Q E) : t_l_steps K { nx := fun _ H' => Q .non H', rt := Q } (L2.start N_l_steps vs) H := by
  obtain ⟨P, G, q, s, ns, ss, rs, m, rfl, hs, hq, hss, rws, inn, nd, n1, s1, m1, k⟩ := h
  rw [st_l_steps]
  unfold t_l_steps
  walk_at "st"
  refine c_l_draw hs (by omega) fun way H1 w0 w1 hs1 => ?_
  walk_at "st"
  refine c_l_draw hs1 (by omega) fun z H2 z0 z1 hs2 => ?_
  have hss2 := hs2.sub _ _ hss
  walk_at "st"
  refine ite_dec (fun h0 => ?_) (fun h0 => ?_)
  · walk_at "st"
    exact c_l_loose hs2 (by omega) (by omega) fun L zs us G' H' l st eL sg hs3 => k L zs us G' H' (by omega) st eL sg hs3
  · walk_at "st"
    refine wp_cut (fun σ' H' => ∃ (L : Addr) (zs : List V) (us : List (Int × Int)) (G' : Hp), σ' = [some (.ref P.p), some (.ref q), some (.ref s), some (.int m), some (.int way), some (.int z), some (.ref L)] ∧ us.length ≤ 130 ∧ StI G' zs us ∧ G' L = some (.lst zs) ∧ Same G G' ∧ Sees P G' H') ?_ ?_
    · have ring : ∀ {R : VK} {E : XK}, (∀ L zs us G' H', us.length ≤ 130 → StI G' zs us → G' L = some (.lst zs) → Same G G' → Sees P G' H' → R (.ref L) H') → sp_l_ring K [.ref P.p, .ref q, .ref s, .int z] H2 R E := fun {R E} kk => c_l_ring hs2 hq hss rws inn nd n1 s1 (by omega) fun L xs ws G' H' l _ st eL sg hs3 => kk L xs ws G' H' (by omega) st eL sg hs3
      walk_at "st"
      refine ite_dec (fun h1 => ?_) (fun h1 => ?_)
      · walk_at "st"
        refine ring fun L zs us G' H' l st eL sg hs3 => ?_
        walk_at "st"
        exact ⟨L, zs, us, G', rfl, l, st, eL, sg, hs3⟩
      · walk_at "st"
        refine ite_dec (fun h2 => ?_) (fun h2 => ?_)
        · walk_at "st"
          refine ring fun L zs us G' H' l st eL sg hs3 => ?_
          walk_at "st"
          exact ⟨L, zs, us, G', rfl, l, st, eL, sg, hs3⟩
        · walk_at "st"
          refine c_l_walk hs2 hq hss rws n1 (by omega) (by omega) fun L xs ws G' H' l _ st eL sg hs3 => ?_
          walk_at "st"
          exact ⟨L, xs, ws, G', rfl, by omega, st, eL, sg, hs3⟩
    · clear hss2 hs2
      rintro σ' H3 ⟨L, zs, us, G3, rfl, l3, st3, eL3, g3, hs3⟩
      have hss3 := hs3.sub _ _ (g3 _ _ hss)
      walk_at "st"
      refine wp_cut (fun σ' H' => ∃ (L : Addr) (zs : List V) (us : List (Int × Int)) (G' : Hp), σ' = [some (.ref P.p), some (.ref q), some (.ref s), some (.int m), some (.int way), some (.int z), some (.ref L)] ∧ us.length ≤ 130 ∧ StI G' zs us ∧ G' L = some (.lst zs) ∧ Same G G' ∧ Sees P G' H') ?_ ?_
      · walk_at "st"
        refine ite_dec (fun h1 => ?_) (fun h1 => ?_)
        · walk_at "st"
          refine c_l_spoilt hs3 eL3 st3 (by omega) fun L zs us G' H' l st eL sg hs4 => ?_
          walk_at "st"
          exact ⟨L, zs, us, G', rfl, by omega, st, eL, g3.trans sg, hs4⟩
        · walk_at "st"
          refine ite_dec (fun h2 => ?_) (fun h2 => ?_)
          · walk_at "st"
            refine c_l_spoilt hs3 eL3 st3 (by omega) fun L zs us G' H' l st eL sg hs4 => ?_
            walk_at "st"
            exact ⟨L, zs, us, G', rfl, by omega, st, eL, g3.trans sg, hs4⟩
          · walk_at "st"
            exact ⟨L, zs, us, G3, rfl, l3, st3, eL3, g3, hs3⟩
      · clear hss3 hs3 eL3 st3 l3 g3
        rintro σ' H3 ⟨L, zs, us, G3, rfl, l3, st3, eL3, g3, hs3⟩
        have hss3 := hs3.sub _ _ (g3 _ _ hss)
        walk_at "st"
        refine ite_dec (fun h1 => ?_) (fun h1 => ?_)
        · walk_at "st"
          refine c_l_spoilt hs3 eL3 st3 (by omega) fun L zs us G' H' l st eL sg hs4 => ?_
          walk_at "st"
          exact k L zs us G' H' (by omega) st eL (g3.trans sg) hs4
        · walk_at "st"
          exact k L zs us G3 H3 l3 st3 eL3 g3 hs3
theorem len_l_steps (K : PySem.W.Frag) (vs : List V) (H : Hp) (Q : VK) (E : XK) (h : sp_l_steps K vs H Q E) : vs.length = 4 := by
  obtain ⟨_, _, _, _, _, _, _, _, rfl, _⟩ := h
  rfl
theorem c_l_steps {K : PySem.W.Frag} {P : Pl} {G H : Hp} {q s : Addr} {ns : List (List Nat)} {ss : List V} {rs : List Row} {m : Int} {Q : VK} {E : XK} (hs : Sees P G H) (hq : G q = some (.lst (ns.map sv))) (hss : G s = some (.lst ss)) (rws : Rws G ss rs) (inn : ∀ r ∈ rs, r.u ∈ ns ∧ r.v ∈ ns) (nd : ns.Nodup) (n1 : ns.length ≤ 1000) (s1 : ss.length ≤ 24) (m1 : 0 ≤ m ∧ m ≤ 100)
    (k : ∀ L zs us G' H', us.length ≤ 130 → StI G' zs us → G' L = some (.lst zs) → Same G G' → Sees P G' H' → Q (.ref L) H') : sp_l_steps K [.ref P.p, .ref q, .ref s, .int m] H Q E := by
  obtain ⟨j, rfl⟩ : ∃ j : Nat, m = j := ⟨m.toNat, by omega⟩
  exact ⟨P, G, q, s, ns, ss, rs, j, rfl, hs, hq, hss, rws, inn, nd, n1, s1, by omega, k⟩
def yn (j : Nat) : List Nat := [121] ++ dg j
theorem yn_nm {j : Nat} (h : j < 13) : Nm (yn j) := nm_iff.mp ((by decide +kernel : ∀ j, j < 13 → isNm (yn j) = true) j h)
theorem yn_nodup : ((List.range 13).map yn).Nodup := by decide +kernel
theorem yn_out {ns : List (List Nat)} (h : ∀ i, i < 13 → yn i ∈ ns) : 13 ≤ ns.length := by
  have z := nodup_sub yn_nodup (m := ns) fun x hx => by
    obtain ⟨i, hi, rfl⟩ := List.mem_map.mp hx
    exact h i (List.mem_range.mp hi)
  simpa using z
def sp_l_stranger (K : PySem.W.Frag) : Sp := fun vs H Q _ => ∃ (P : Pl) (q : Addr) (ns : List (List Nat)) (G : Hp), vs = [.ref P.p, .ref q] ∧ ns.length ≤ 12 ∧ (∀ l ∈ ns, Nm l) ∧ G q = some (.lst (ns.map sv)) ∧ Sees P G H ∧
  ∀ l H', Nm l → l ∉ ns → Sees P G H' → Q (.str (S l)) H'
abbrev N_l_stranger : List Str := ["_law_pool_here", "_law_names_here", "_law_found", "_law_j"]
theorem st_l_stranger {a0 a1 : V} : L2.start N_l_stranger [a0, a1] = [some a0, some a1, none, none] := rfl
def t_l_stranger (K : PySem.W.Frag) : TS :=
  (tSeq ((tAsg ((tOp rAddStr (tC (.str (S [121]))) ((tCall (sp_l_word K) [] E0 ((tCons (tVar 0) ((tCons ((tCall (sp_l_draw K) [] E0 ((tCons (tVar 0) ((tCons (tC (.int 8)) (tNil))))))) (tNil))))))))) (gName 2)))
    ((C8.tCut ((tIfS ((tAnd ((tTest (tOp (rI0 fun i j => .bl (decide (j < i))) ((tCB (rLenS K) ((tCons (tVar 1) (tNil))))) (tC (.int 0))))) ((tTest (tOp rEq ((tCall (sp_l_draw K) [] E0 ((tCons (tVar 0) ((tCons (tC (.int 2)) (tNil))))))) (tC (.int 1))))))) ((tAsg ((tOp rAddStr ((tSl rSlS ((tOp (rIxL K) (tVar 1) ((tCall (sp_l_draw K) [] E0 ((tCons (tVar 0) ((tCons ((tCB (rLenS K) ((tCons (tVar 1) (tNil))))) (tNil))))))))) tNoPart (tPart (tC (.int 7))))) (tC (.str (S [120]))))) (gName 2))) (tNext)))
    ((tSeq ((tFor ((iRng1 ((tCons (tC (.int 13)) (tNil))))) (gName 3) ((tIfS ((tAnd ((tTest (tOp (rIn K false) (tVar 2) (tVar 1)))) ((tTest (tOp (rIn K true) ((tOp rAddStr (tC (.str (S [121]))) ((tCB rStrInt ((tCons (tVar 3) (tNil))))))) (tVar 1)))))) ((tAsg ((tOp rAddStr (tC (.str (S [121]))) ((tCB rStrInt ((tCons (tVar 3) (tNil))))))) (gName 2))) (tNext)))))
    ((tRet (tVar 2))))))))

theorem pure_l_stranger (K : PySem.W.Frag) (vs : List V) (H : Hp) (Q : VK) (E : XK) (h : sp_l_stranger K vs H Q E) : t_l_stranger K { nx := fun _ H' => Q .non H', rt := Q } (L2.start N_l_stranger vs) H := by
  obtain ⟨P, q, ns, G, rfl, hl, hn, hq, hs, k⟩ := h
  have el : (ns.map sv).length = ns.length := List.length_map ..
  rw [st_l_stranger]
  unfold t_l_stranger
  walk_at "st"
  refine c_l_draw hs (by omega) fun d1 H1 a0 a1 hs1 => ?_
  walk_at "st"
  refine c_l_word hs1 (by omega) fun w H2 w0 w1 hs2 => ?_
  walk_at "st"
  have nm1 : Nm ([121] ++ w) := ⟨by simp; omega, ⟨121, w, rfl, by decide⟩, fun c hc => by
    rcases List.mem_append.mp hc with h | h
    · rw [List.mem_singleton.mp h]; decide
    · exact w1 c h⟩
  refine wp_cut (fun σ' H' => ∃ (l : List Nat), σ' = [some (.ref P.p), some (.ref q), some (.str (S l)), none] ∧ Nm l ∧ Sees P G H') ?_ ?_
  · walk_at "st"
    refine ite_dec (fun h1 => ?_) (fun h1 => ?_)
    · walk_at "st"
      refine c_l_draw hs2 (by omega) fun d2 H3 b0 b1 hs3 => ?_
      walk_at "st"
      refine ite_dec (fun h2 => ?_) (fun h2 => ?_)
      · walk_at "st"
        refine c_l_draw hs3 (by omega) fun d3 H4 c0 c1 hs4 => ?_
        walk_at "st"
        refine wp_ixLM (sq_of (hs4.sub _ _ hq)) c0 c1 fun x hx _ => ?_
        obtain ⟨l, hl2, rfl⟩ := List.mem_map.mp hx
        have hnl := hn l hl2
        walk_at "st"
        refine wp_sliceS (by have := hnl.len; omega) ?_
        walk_at "st"
        have e7 : cutG l none (some 7) = l.take 7 := by
          unfold cutG
          have e0 : HT.sIx l.length 0 none = 0 := rfl
          have e1 : HT.sIx l.length l.length (some 7) = min 7 l.length := by
            unfold HT.sIx
            simp only []
            split <;> omega
          rw [e0, e1]
          show (l.drop 0).take (min 7 l.length - 0) = l.take 7
          rw [List.drop_zero, Nat.sub_zero]
          exact (List.take_eq_take_min (i := 7)).symm
        rw [e7]
        refine wp_addS (by rw [List.length_take]; simp only [List.length_cons, List.length_nil]; omega) ?_
        walk_at "st"
        refine ⟨_, rfl, ?_, hs4⟩
        obtain ⟨c, r, e, hc⟩ := hnl.first
        refine ⟨by simp; omega, ⟨c, r.take 6 ++ [120], by rw [e]; rfl, hc⟩, fun y hy => ?_⟩
        rcases List.mem_append.mp hy with h | h
        · exact hnl.all y (List.mem_of_mem_take h)
        · rw [List.mem_singleton.mp h]; decide
      · walk_at "st"
        exact ⟨_, rfl, nm1, hs3⟩
    · walk_at "st"
      exact ⟨_, rfl, nm1, hs2⟩
  · rintro σ' H3 ⟨l, rfl, nl, hs3⟩
    have hq3 := hs3.sub _ _ hq
    walk_at "st"
    refine loop1 (by omega) (fun j σ' H' => ∃ (x : Option V) (l : List Nat), σ' = [some (.ref P.p), some (.ref q), some (.str (S l)), x] ∧ Nm l ∧ (l ∉ ns ∨ ∀ a, a < j → yn a ∈ ns) ∧ H' = H3) ⟨_, l, rfl, nl, .inr (fun a h => absurd h (by omega)), rfl⟩ ?_ ?_
    · rintro j σ' H4 hj ⟨x, l, rfl, nl, hout, rfl⟩
      walk_at "st"
      refine wp_inSv (sq_of hq3) ?_
      walk_at "st"
      refine ite_dec (fun h1 => ?_) (fun h1 => ?_)
      · walk_at "st"
        refine wp_strIntS (by omega) ?_
        refine wp_addS (by have := (yn_nm (j := j) (by omega)).len; unfold yn at this; simp at this ⊢; omega) ?_
        walk_at "st"
        refine wp_notInSv (sq_of hq3) ?_
        walk_at "st"
        refine ite_ndec (fun h2 => ?_) (fun h2 => ?_)
        · walk_at "st"
          refine wp_strIntS (by omega) ?_
          refine wp_addS (by have := (yn_nm (j := j) (by omega)).len; unfold yn at this; simp at this ⊢; omega) ?_
          walk_at "st"
          exact ⟨_, yn j, rfl, yn_nm (by omega), .inl h2, rfl⟩
        · walk_at "st"
          refine ⟨_, l, rfl, nl, .inr fun a ha => ?_, rfl⟩
          rcases hout with h | h
          · exact absurd h1 h
          · by_cases e : a = j
            · rw [e]; exact h2
            · exact h a (by omega)
      · walk_at "st"
        exact ⟨_, l, rfl, nl, .inl h1, rfl⟩
    · rintro σ' H4 ⟨x, l, rfl, nl, hout, rfl⟩
      walk_at "st"
      refine k l _ nl ?_ hs3
      rcases hout with h | h
      · exact h
      · exact absurd (yn_out (ns := ns) fun a ha => h a ha) (by omega)
theorem len_l_stranger (K : PySem.W.Frag) (vs : List V) (H : Hp) (Q : VK) (E : XK) (h : sp_l_stranger K vs H Q E) : vs.length = 2 := by
  obtain ⟨P, m, _, G, rfl, _⟩ := h
  rfl
theorem c_l_stranger {K : PySem.W.Frag} {P : Pl} {q : Addr} {ns : List (List Nat)} {G H : Hp} {Q : VK} {E : XK} (hs : Sees P G H) (hl : ns.length ≤ 12) (hn : ∀ l ∈ ns, Nm l) (hq : G q = some (.lst (ns.map sv))) (k : ∀ l H', Nm l → l ∉ ns → Sees P G H' → Q (.str (S l)) H') : sp_l_stranger K [.ref P.p, .ref q] H Q E :=
  ⟨P, q, ns, G, rfl, hl, hn, hq, hs, k⟩
def sp_l_faulty (K : PySem.W.Frag) : Sp := fun vs H Q _ => ∃ (P : Pl) (G : Hp) (T : Int) (q s : Addr) (ns : List (List Nat)) (is : List Int), vs = [.ref P.p, .int T, .ref q, .ref s] ∧ Sees P G H ∧ 3 ≤ T ∧ T ≤ 120 ∧ ns.length ≤ 12 ∧ (∀ l ∈ ns, Nm l) ∧ G q = some (.lst (ns.map sv)) ∧ G s = some (.lst (is.map V.int)) ∧ is.length = ns.length ∧
  ∀ L D T' ms f G' H', OkTm T' ms f → ms.Nodup → G' L = some (.lst [.int T', .ref D]) → G' D = some (.dK (mD f ms)) → Same G G' → Sees P G' H' → Q (.ref L) H'
abbrev N_l_faulty : List Str := ["_law_pool_here", "_law_length_here", "_law_names_here", "_law_minutes", "_law_first", "_law_way", "_law_rows", "_law_k", "_law_at", "_law_minute", "_law_other", "_law_found", "_law_row"]
theorem st_l_faulty {a0 a1 a2 a3 : V} : L2.start N_l_faulty [a0, a1, a2, a3] = [some a0, some a1, some a2, some a3, none, none, none, none, none, none, none, none, none] := rfl
def t_l_faulty (K : PySem.W.Frag) : TS :=
  (tSeq ((tAsg ((tCall (sp_l_draw K) [] E0 ((tCons (tVar 0) ((tCons ((tCB rMax2 ((tCons (tC (.int 1)) ((tCons ((tCB (rLenS K) ((tCons (tVar 2) (tNil))))) (tNil))))))) (tNil))))))) (gName 4)))
    ((tSeq ((tAsg ((tCall (sp_l_draw K) [] E0 ((tCons (tVar 0) ((tCons (tC (.int 4)) (tNil))))))) (gName 5)))
    ((tSeq ((tAsg ((tLst (tNil))) (gName 6)))
    ((tSeq ((tFor ((iRng1 ((tCons ((tCB (rLenS K) ((tCons (tVar 2) (tNil))))) (tNil))))) (gName 7) ((tSeq ((tAsg ((tOp (rI (fun _ j => 0 < j) fun i j => .int (i % j)) ((tCB rInt1 ((tCons ((tOp (rI0 fun i j => .int (i + j)) (tVar 7) (tVar 4))) (tNil))))) ((tCB (rLenS K) ((tCons (tVar 2) (tNil))))))) (gName 8)))
    ((tSeq ((tAsg ((tOp (rIxL K) (tVar 3) (tVar 8))) (gName 9)))
    ((C8.tCut ((tIfS ((tAnd ((tTest (tOp (rI0 fun i j => .bl (decide (j < i))) (tVar 5) (tC (.int 1))))) ((tTest (tOp rEq ((tCall (sp_l_draw K) [] E0 ((tCons (tVar 0) ((tCons (tC (.int 4)) (tNil))))))) (tC (.int 0))))))) ((tAsg ((tCall (sp_l_draw K) [] E0 ((tCons (tVar 0) ((tCons (tVar 1) (tNil))))))) (gName 9))) (tNext)))
    ((tIfS ((tOr ((tTest (tOp (rI0 fun i j => .bl (decide (i < j))) (tVar 5) (tC (.int 3))))) ((tTest (tOp (rI0 fun i j => .bl (decide (j < i))) ((tCall (sp_l_draw K) [] E0 ((tCons (tVar 0) ((tCons (tC (.int 8)) (tNil))))))) (tC (.int 0))))))) ((tDrop ((tBM K "list" rAppend (tVar 6) ((tCons ((tTup ((tCons ((tOp (rIxL K) (tVar 2) (tVar 8))) ((tCons (tVar 9) (tNil))))))) (tNil))))))) (tNext)))))))))))
    ((tSeq ((tAsg (tVar 1) (gName 10)))
    ((C8.tCut ((tIfS ((tTest (tOp rEq (tVar 5) (tC (.int 3))))) ((tSeq ((tFor ((iRng1 ((tCons ((tCall (sp_l_draw K) [] E0 ((tCons (tVar 0) ((tCons (tC (.int 3)) (tNil))))))) (tNil))))) (gName 7) ((tSeq ((tAsg ((tCall (sp_l_draw K) [] E0 ((tCons (tVar 0) ((tCons ((tOp (rI0 fun i j => .int (i + j)) ((tCB (rLenS K) ((tCons (tVar 6) (tNil))))) (tC (.int 1)))) (tNil))))))) (gName 8)))
    ((tAsg ((tOp rCat ((tOp rCat ((tSl (rSlL K) (tVar 6) tNoPart (tPart (tVar 8)))) ((tLst ((tCons ((tTup ((tCons ((tCall (sp_l_stranger K) [] E0 ((tCons (tVar 0) ((tCons (tVar 2) (tNil))))))) ((tCons ((tCall (sp_l_draw K) [] E0 ((tCons (tVar 0) ((tCons (tVar 1) (tNil))))))) (tNil))))))) (tNil))))))) ((tSl (rSlL K) (tVar 6) (tPart (tVar 8)) tNoPart)))) (gName 6)))))))
    ((tIfS ((tTest (tOp rEq ((tCall (sp_l_draw K) [] E0 ((tCons (tVar 0) ((tCons (tC (.int 3)) (tNil))))))) (tC (.int 0))))) ((tAsg ((tOp (rI0 fun i j => .int (i + j)) (tC (.int 3)) ((tCall (sp_l_draw K) [] E0 ((tCons (tVar 0) ((tCons (tC (.int 118)) (tNil))))))))) (gName 10))) (tNext))))) (tNext)))
    ((tSeq ((tAsg (tDNewK) (gName 11)))
    ((tSeq ((tFor ((iList K (tVar 6))) (gName 12) ((tAsg ((tOp (rI (fun _ j => 0 < j) fun i j => .int (i % j)) ((tCB rInt1 ((tCons ((tOp (rIxT K) (tVar 12) (tC (.int 1)))) (tNil))))) (tVar 10))) (gSub (tVar 11) ((tOp (rIxT K) (tVar 12) (tC (.int 0)))) rSetD)))))
    ((tRet ((tLst ((tCons (tVar 10) ((tCons (tVar 11) (tNil))))))))))))))))))))))))

theorem pure_l_faulty (K : PySem.W.Frag) (vs : List V) (H : Hp) (Q : VK) (E : XK) (h : sp_l_faulty K vs H Q E) : t_l_faulty K { nx := fun _ H' => Q .non H', rt := Q } (L2.start N_l_faulty vs) H := by
  obtain ⟨P, G, T, q, s, ns, is, rfl, hs, t0, t1, few, nm, hq, his, li, k⟩ := h
  have el : (ns.map sv).length = ns.length := List.length_map ..
  have hq0 := hs.sub _ _ hq
  rw [st_l_faulty]
  unfold t_l_faulty
  walk_at "st"
  refine c_l_draw hs (by omega) fun a H1 a0 a1 hs1 => ?_
  walk_at "st"
  refine c_l_draw hs1 (by omega) fun way H2 w0 w1 hs2 => ?_
  walk_at "st"
  refine ⟨Nat.zero_le _, fun L hL => ?_⟩
  obtain ⟨gL, nL⟩ := hs2.fresh hL
  have nLl : L ≠ P.l := fun e => by rw [e, hs2.cell] at gL; cases gL
  obtain ⟨G3, hs3, g3, e3⟩ := hs2.new' (.lst []) hL
  have hq3 := hs3.sub _ _ (g3 _ _ hq)
  walk_at "st"
  refine loop1 (by omega) (fun i σ' H' => ∃ (x y z : Option V) (rows : List V) (G' : Hp), σ' = [some (.ref P.p), some (.int T), some (.ref q), some (.ref s), some (.int a), some (.int way), some (.ref L), x, y, z, none, none, none] ∧ rows.length ≤ i ∧ (∀ x ∈ rows, RwO G' x) ∧ G' L = some (.lst rows) ∧ Same G G' ∧ Sees P G' H') ⟨_, _, _, [], G3, rfl, Nat.zero_le _, by simp, e3, g3, hs3⟩ ?_ ?_
  · rintro i σ' H' hi ⟨x, y, z, rows, G', rfl, lr, ok, eL, sg, hs4⟩
    have hi : i < ns.length := by omega
    have n0 : (0 : Int) < ns.length := by omega
    have hq4 := hs4.sub _ _ (sg _ _ hq)
    walk_at "st"
    rw [el]
    have m0 : 0 ≤ ((i : Int) + a) % (ns.length : Int) := Int.emod_nonneg _ (by omega)
    have m1 : ((i : Int) + a) % (ns.length : Int) < ns.length := Int.emod_lt_of_pos _ n0
    revert m0 m1
    generalize ((i : Int) + a) % (ns.length : Int) = at_
    intro m0 m1
    refine wp_ixLM (sq_of (hs4.sub _ _ (sg _ _ his))) m0 (by rw [List.length_map]; omega) fun v _ hv => ?_
    obtain ⟨mi, rfl, _⟩ := ixI hv
    walk_at "st"
    refine wp_cut (fun σ' H' => ∃ mi : Int, σ' = [some (.ref P.p), some (.int T), some (.ref q), some (.ref s), some (.int a), some (.int way), some (.ref L), some (.int i), some (.int at_), some (.int mi), none, none, none] ∧ Sees P G' H') ?_ ?_
    · walk_at "st"
      refine ite_dec (fun h1 => ?_) (fun h1 => ?_)
      · walk_at "st"
        refine c_l_draw hs4 (by omega) fun e H5 e0 e1 hs5 => ?_
        walk_at "st"
        refine ite_dec (fun h2 => ?_) (fun h2 => ?_)
        · walk_at "st"
          refine c_l_draw hs5 (by omega) fun e H6 e0 e1 hs6 => ?_
          walk_at "st"
          exact ⟨_, rfl, hs6⟩
        · walk_at "st"
          exact ⟨_, rfl, hs5⟩
      · walk_at "st"
        exact ⟨_, rfl, hs4⟩
    · clear hs4 hq4
      rintro σ' H5 ⟨mi, rfl, hs4⟩
      have hq5 := hs4.sub _ _ (sg _ _ hq)
      walk_at "st"
      refine ite_dec (fun h1 => ?_) (fun h1 => ?_)
      · walk_at "st"
        refine wp_ixLM (sq_of (hs4.sub _ _ (sg _ _ hq))) m0 (by omega) fun v1 hv1 _ => ?_
        obtain ⟨l, hl, rfl⟩ := List.mem_map.mp hv1
        walk_at "st"
        refine ⟨by simp [sizeLine_eq], fun p hp => ?_⟩
        have hs7 := hs4.new (o := .tup [sv l, .int mi]) hp
        have g7 : Same G' (upd G' p (.tup [sv l, .int mi])) := Same.new (hs4.sub.free hp)
        have eL7 := g7 _ _ eL
        walk_at "st"
        refine wp_append (hs7.sub _ _ eL7) (by omega) ?_
        walk_at "st"
        refine ⟨_, _, _, rows ++ [.ref p], upd (upd G' p (.tup [sv l, .int mi])) L (.lst (rows ++ [.ref p])), rfl, by rw [List.length_append]; simp; omega, fun x hx => ?_, upd_same, Same.mut (sg.trans g7) gL, hs7.putG nLl nL⟩
        rcases List.mem_append.mp hx with hx | hx
        · exact ((ok x hx).mono g7).updL eL7
        · rw [List.mem_singleton.mp hx]
          exact RwO.updL eL7 ⟨p, l, mi, rfl, upd_same, nm l hl⟩
      · walk_at "st"
        refine c_l_draw hs4 (by omega) fun e H6 e0 e1 hs6 => ?_
        walk_at "st"
        refine ite_dec (fun h2 => ?_) (fun h2 => ?_)
        · walk_at "st"
          refine wp_ixLM (sq_of (hs6.sub _ _ (sg _ _ hq))) m0 (by omega) fun v1 hv1 _ => ?_
          obtain ⟨l, hl, rfl⟩ := List.mem_map.mp hv1
          walk_at "st"
          refine ⟨by simp [sizeLine_eq], fun p hp => ?_⟩
          have hs7 := hs6.new (o := .tup [sv l, .int mi]) hp
          have g7 : Same G' (upd G' p (.tup [sv l, .int mi])) := Same.new (hs6.sub.free hp)
          have eL7 := g7 _ _ eL
          walk_at "st"
          refine wp_append (hs7.sub _ _ eL7) (by omega) ?_
          walk_at "st"
          refine ⟨_, _, _, rows ++ [.ref p], upd (upd G' p (.tup [sv l, .int mi])) L (.lst (rows ++ [.ref p])), rfl, by rw [List.length_append]; simp; omega, fun x hx => ?_, upd_same, Same.mut (sg.trans g7) gL, hs7.putG nLl nL⟩
          rcases List.mem_append.mp hx with hx | hx
          · exact ((ok x hx).mono g7).updL eL7
          · rw [List.mem_singleton.mp hx]
            exact RwO.updL eL7 ⟨p, l, mi, rfl, upd_same, nm l hl⟩
        · walk_at "st"
          exact ⟨_, _, _, rows, G', rfl, by omega, ok, eL, sg, hs6⟩
  · rintro σ' H' ⟨x, y, z, rows, G', rfl, lr, ok, eL, sg, hs4⟩
    have lr : rows.length ≤ 12 := by omega
    clear hs3 hs2 hs1
    walk_at "st"
    refine wp_cut (fun σ' H' => ∃ (x y z : Option V) (R : Addr) (T' : Int) (rows : List V) (G' : Hp), σ' = [some (.ref P.p), some (.int T), some (.ref q), some (.ref s), some (.int a), some (.int way), some (.ref R), x, y, z, some (.int T'), none, none] ∧ 3 ≤ T' ∧ T' ≤ 120 ∧ rows.length ≤ 14 ∧ (∀ x ∈ rows, RwO G' x) ∧ G' R = some (.lst rows) ∧ Same G G' ∧ Sees P G' H') ?_ ?_
    · walk_at "st"
      refine ite_dec (fun h1 => ?_) (fun h1 => ?_)
      · walk_at "st"
        refine c_l_draw hs4 (by omega) fun e H5 e0 e1 hs5 => ?_
        walk_at "st"
        refine loop1 (by omega) (fun i σ' H' => ∃ (x y : Option V) (R : Addr) (rows : List V) (G' : Hp), σ' = [some (.ref P.p), some (.int T), some (.ref q), some (.ref s), some (.int a), some (.int way), some (.ref R), x, y, z, some (.int T), none, none] ∧ rows.length ≤ 12 + i ∧ (∀ x ∈ rows, RwO G' x) ∧ G' R = some (.lst rows) ∧ Same G G' ∧ Sees P G' H') ⟨_, _, L, rows, G', rfl, by omega, ok, eL, sg, hs5⟩ ?_ ?_
        · clear hs4 hs5 eL ok lr sg
          rintro i σ' H' hi ⟨x, y, R, rows, G', rfl, lr, ok, eR, sg, hs6⟩
          have eR6 := hs6.sub _ _ eR
          walk_at "st"
          refine c_l_draw hs6 (by omega) fun b H7 b0 b1 hs7 => ?_
          walk_at "st"
          refine wp_sliceL (sq_of (hs7.sub _ _ eR)) fun p1 hp1 => ?_
          obtain ⟨A1, u1, f1, h1⟩ := hs7.new' (.lst (cutG rows none (some b))) hp1
          have hq1 := f1 _ _ (sg _ _ hq)
          walk_at "st"
          refine c_l_stranger u1 few nm hq1 fun l H8 lnm lno u2 => ?_
          walk_at "st"
          refine c_l_draw u2 (by omega) fun mi H9 mi0 mi1 u3 => ?_
          walk_at "st"
          refine ⟨by simp [sizeLine_eq], fun p hp => ?_⟩
          have u4 := u3.new (o := .tup [sv l, .int mi]) hp
          have f4 : Same A1 (upd A1 p (.tup [sv l, .int mi])) := Same.new (u3.sub.free hp)
          have rp : RwO (upd A1 p (.tup [sv l, .int mi])) (.ref p) := ⟨p, l, mi, rfl, upd_same, lnm⟩
          revert u4 f4 rp
          generalize upd A1 p (.tup [sv l, .int mi]) = A2
          generalize upd H9 p (.tup [sv l, .int mi]) = H10
          intro u4 f4 rp
          walk_at "st"
          refine ⟨by simp [sizeLine_eq], fun p5 hp5 => ?_⟩
          obtain ⟨A3, u5, f5, h5⟩ := u4.new' (.lst [.ref p]) hp5
          rw [cutG_to1 b0 (by omega)] at h1
          refine wp_cat (u5.sub _ _ ((f4.trans f5) _ _ h1)) (u5.sub _ _ h5) (by rw [List.length_take]; simp; omega) fun p6 hp6 => ?_
          obtain ⟨A4, u6, f6, h6⟩ := u5.new' (.lst (rows.take b.toNat ++ [.ref p])) hp6
          have f16 := (f1.trans f4).trans (f5.trans f6)
          walk_at "st"
          refine wp_sliceL (sq_of (u6.sub _ _ (f16 _ _ eR))) fun p7 hp7 => ?_
          obtain ⟨A5, u7, f7, h7⟩ := u6.new' (.lst (cutG rows (some b) none)) hp7
          rw [cutG_from1 b0 (by omega)] at h7
          walk_at "st"
          refine wp_cat (u7.sub _ _ (f7 _ _ h6)) (u7.sub _ _ h7) (by simp only [List.length_append, List.length_take, List.length_drop, List.length_cons, List.length_nil]; omega) fun p8 hp8 => ?_
          obtain ⟨A6, u8, f8, h8⟩ := u7.new' (.lst (rows.take b.toNat ++ [.ref p] ++ rows.drop b.toNat)) hp8
          have f18 := f16.trans (f7.trans f8)
          walk_at "st"
          refine ⟨_, _, p8, _, A6, rfl, by simp only [List.length_append, List.length_take, List.length_drop, List.length_cons, List.length_nil]; omega, fun x hx => ?_, h8, sg.trans f18, u8⟩
          rcases mem_cut hx with hx | hx
          · exact (ok x hx).mono f18
          · rw [List.mem_singleton.mp hx]
            exact rp.mono ((f5.trans f6).trans (f7.trans f8))
        · clear hs4 hs5 eL ok lr sg
          rintro σ' H' ⟨x, y, R, rows, G', rfl, lr, ok, eR, sg, hs6⟩
          walk_at "st"
          refine c_l_draw hs6 (by omega) fun b H7 b0 b1 hs7 => ?_
          walk_at "st"
          refine ite_dec (fun h2 => ?_) (fun h2 => ?_)
          · walk_at "st"
            refine c_l_draw hs7 (by omega) fun c H8 c0 c1 hs8 => ?_
            walk_at "st"
            exact ⟨_, _, _, R, _, rows, G', rfl, by omega, by omega, by omega, ok, eR, sg, hs8⟩
          · walk_at "st"
            exact ⟨_, _, _, R, _, rows, G', rfl, t0, t1, by omega, ok, eR, sg, hs7⟩
      · walk_at "st"
        exact ⟨_, _, _, L, _, rows, G', rfl, t0, t1, by omega, ok, eL, sg, hs4⟩
    · clear hs4 eL ok lr sg
      rintro σ' H' ⟨x, y, z, R, T', rows, G', rfl, T0, T1, lr, ok, eR, sg, hs4⟩
      walk_at "st"
      refine wp_dnew fun D hD => ?_
      obtain ⟨gD, nD⟩ := hs4.fresh hD
      have nDl : D ≠ P.l := fun e => by rw [e, hs4.cell] at gD; cases gD
      obtain ⟨G5, hs5, g5, e5⟩ := hs4.new' (.dK []) hD
      have nRD : R ≠ D := ne_of_none eR gD
      walk_at "st"
      refine loopL (sq_of (hs5.sub _ _ (g5 _ _ eR))) (fun i σ' H2 => ∃ (v : Option V) (ps : List (List Nat × Int)) (G2 : Hp), σ' = [some (.ref P.p), some (.int T), some (.ref q), some (.ref s), some (.int a), some (.int way), some (.ref R), x, y, z, some (.int T'), some (.ref D), v] ∧ ps.length = i ∧ (∀ p ∈ ps, Nm p.1 ∧ 0 ≤ p.2 ∧ p.2 < T') ∧ G2 D = some (.dK (mD (bldD ps).1 (bldD ps).2)) ∧ G2 R = some (.lst rows) ∧ (∀ x ∈ rows, RwO G2 x) ∧ Same G G2 ∧ Sees P G2 H2) ⟨_, [], G5, rfl, rfl, by simp, e5, g5 _ _ eR, fun x hx => (ok x hx).mono g5, sg.trans g5, hs5⟩ ?_ ?_ ?_
      · rintro i σ' H2 _ ⟨v, ps, G2, rfl, _, _, _, eR2, _, _, hs6⟩
        exact sq_of (hs6.sub _ _ eR2)
      · rintro i u σ' H2 hu ⟨v, ps, G2, rfl, lp, okp, eD, eR2, ok2, sg2, hs6⟩
        obtain ⟨p, l, mi, rfl, hp, lnm⟩ := ok2 u (List.mem_of_getElem? hu)
        have hp6 := hs6.sub _ _ hp
        have hi := (List.getElem?_eq_some_iff.mp hu).1
        have inv := bldD_inv (lim := 0) ps.length ps rfl
        walk_at "st"
        have v0 : 0 ≤ mi % T' := Int.emod_nonneg _ (by omega)
        have v1 : mi % T' < T' := Int.emod_lt_of_pos _ (by omega)
        refine dput_s (hs6.sub _ _ eD) (by unfold mD; rw [dN_len]; have := inv.2.2.1; omega) ?_
        rw [put_stepK inv.1]
        have hD2 : G2 D ≠ none := by rw [eD]; simp
        refine ⟨_, ps ++ [(l, mi % T')], upd G2 D (.dK (mD (stepD (bldD ps) (l, mi % T')).1 (stepD (bldD ps) (l, mi % T')).2)), rfl, by rw [List.length_append, lp]; rfl, fun p hp => ?_, by rw [upd_same, bldD_snoc], by rw [upd_ne nRD]; exact eR2, fun x hx => (ok2 x hx).updD eD, ?_, hs6.putO _ nDl nD⟩
        · rcases List.mem_append.mp hp with hp | hp
          · exact okp p hp
          · rw [List.mem_singleton.mp hp]
            exact ⟨lnm, v0, v1⟩
        · exact Same.mut sg2 (sg.free gD)
      · rintro σ' H2 ⟨v, ps, G2, rfl, lp, okp, eD, eR2, ok2, sg2, hs6⟩
        have inv := bldD_inv (lim := 0) ps.length ps rfl
        walk_at "st"
        refine ⟨by simp [sizeLine_eq], fun W hW => ?_⟩
        obtain ⟨G7, hs7, g7, e7⟩ := hs6.new' (.lst [.int T', .ref D]) hW
        refine k W D T' (bldD ps).2 (bldD ps).1 G7 _ ⟨T0, T1, by have := inv.2.2.1; omega, fun l hl => (okp _ (inv.2.2.2 l hl)).1, fun l hl => (okp _ (inv.2.2.2 l hl)).2.1, fun l hl => by have := (okp _ (inv.2.2.2 l hl)).2.2; show (bldD ps).1 l ≤ T' - 1; omega⟩ inv.1 e7 (g7 _ _ eD) (sg2.trans g7) hs7
theorem len_l_faulty (K : PySem.W.Frag) (vs : List V) (H : Hp) (Q : VK) (E : XK) (h : sp_l_faulty K vs H Q E) : vs.length = 4 := by
  obtain ⟨_, _, _, _, _, _, _, rfl, _⟩ := h
  rfl
theorem c_l_faulty {K : PySem.W.Frag} {P : Pl} {G H : Hp} {T : Int} {q s : Addr} {ns : List (List Nat)} {is : List Int} {Q : VK} {E : XK} (hs : Sees P G H) (t0 : 3 ≤ T ∧ T ≤ 120) (few : ns.length ≤ 12) (nm : ∀ l ∈ ns, Nm l) (hq : G q = some (.lst (ns.map sv))) (his : G s = some (.lst (is.map V.int))) (li : is.length = ns.length)
    (k : ∀ L D T' ms f G' H', OkTm T' ms f → ms.Nodup → G' L = some (.lst [.int T', .ref D]) → G' D = some (.dK (mD f ms)) → Same G G' → Sees P G' H' → Q (.ref L) H') : sp_l_faulty K [.ref P.p, .int T, .ref q, .ref s] H Q E := ⟨P, G, T, q, s, ns, is, rfl, hs, t0.1, t0.2, few, nm, hq, his, li, k⟩
def sp_Net_spans (K : PySem.W.Frag) : Sp := fun vs H Q _ => ∃ (a : Addr) (T : Int) (ns : List (List Nat)) (ss : List V), vs = [.ref a] ∧ IsNet (C_Net K) H a T ns ss ∧ ∀ q, H q = none → Q (.ref q) (upd H q (.lst ss))
abbrev N_Net_spans : List Str := ["self"]
theorem st_Net_spans {a0 : V} : L2.start N_Net_spans [a0] = [some a0] := rfl
def t_Net_spans (K : PySem.W.Frag) : TS :=
  (tRet ((tCB (rListS K) ((tCons ((tFldC (C_Net K) (tVar 0) "_spans")) (tNil))))))

theorem pure_Net_spans (K : PySem.W.Frag) (vs : List V) (H : Hp) (Q : VK) (E : XK) (h : sp_Net_spans K vs H Q E) : t_Net_spans K { nx := fun _ H' => Q .non H', rt := Q } (L2.start N_Net_spans vs) H := by
  obtain ⟨a, T, ns, ss, rfl, ⟨dx, le, ls, h1, h2, h3⟩, k⟩ := h
  rw [st_Net_spans]
  unfold t_Net_spans
  walk_at "st"
  exact wp_listL (sq_of (by assumption)) k
theorem len_Net_spans (K : PySem.W.Frag) (vs : List V) (H : Hp) (Q : VK) (E : XK) (h : sp_Net_spans K vs H Q E) : vs.length = 1 := by
  obtain ⟨n, m, ms, a, rfl, _⟩ := h
  rfl
theorem c_Net_spans {K : PySem.W.Frag} {a : Addr} {T : Int} {ns : List (List Nat)} {ss : List V} {H : Hp} {Q : VK} {E : XK} (h : IsNet (C_Net K) H a T ns ss) (k : ∀ q, H q = none → Q (.ref q) (upd H q (.lst ss))) : ∃ a' dx fs, V.ref a = .ref a' ∧ H a' = some (.ins (C_Net K) dx fs) ∧ sp_Net_spans K [.ref a'] H Q E := by
  obtain ⟨dx, le, ls, h1, h2, h3⟩ := h
  exact ⟨a, dx, _, rfl, h1, a, T, ns, ss, rfl, ⟨dx, le, ls, h1, h2, h3⟩, k⟩
def sp_Net_round_length (K : PySem.W.Frag) : Sp := fun vs H Q _ => ∃ (a : Addr) (T : Int) (ns : List (List Nat)) (ss : List V), vs = [.ref a] ∧ IsNet (C_Net K) H a T ns ss ∧ Q (.int T) H
abbrev N_Net_round_length : List Str := ["self"]
theorem st_Net_round_length {a0 : V} : L2.start N_Net_round_length [a0] = [some a0] := rfl
def t_Net_round_length (K : PySem.W.Frag) : TS :=
  (tRet ((tFldC (C_Net K) (tVar 0) "_round_length")))

theorem pure_Net_round_length (K : PySem.W.Frag) (vs : List V) (H : Hp) (Q : VK) (E : XK) (h : sp_Net_round_length K vs H Q E) : t_Net_round_length K { nx := fun _ H' => Q .non H', rt := Q } (L2.start N_Net_round_length vs) H := by
  obtain ⟨a, T, ns, ss, rfl, ⟨dx, le, ls, h1, h2, h3⟩, k⟩ := h
  rw [st_Net_round_length]
  unfold t_Net_round_length
  walk_at "st"
  exact k
theorem len_Net_round_length (K : PySem.W.Frag) (vs : List V) (H : Hp) (Q : VK) (E : XK) (h : sp_Net_round_length K vs H Q E) : vs.length = 1 := by
  obtain ⟨n, m, ms, a, rfl, _⟩ := h
  rfl
theorem c_Net_round_length {K : PySem.W.Frag} {a : Addr} {T : Int} {ns : List (List Nat)} {ss : List V} {H : Hp} {Q : VK} {E : XK} (h : IsNet (C_Net K) H a T ns ss) (k : Q (.int T) H) : ∃ a' dx fs, V.ref a = .ref a' ∧ H a' = some (.ins (C_Net K) dx fs) ∧ sp_Net_round_length K [.ref a'] H Q E := by
  obtain ⟨dx, le, ls, h1, h2, h3⟩ := h
  exact ⟨a, dx, _, rfl, h1, a, T, ns, ss, rfl, ⟨dx, le, ls, h1, h2, h3⟩, k⟩
def sp_Net_contains (K : PySem.W.Frag) : Sp := fun vs H Q _ => ∃ (a : Addr) (T : Int) (ns : List (List Nat)) (ss : List V) (l : List Nat), vs = [.ref a, .str (S l)] ∧ IsNet (C_Net K) H a T ns ss ∧ Q (.bl (decide (l ∈ ns))) H
abbrev N_Net_contains : List Str := ["self", "name"]
theorem st_Net_contains {a0 a1 : V} : L2.start N_Net_contains [a0, a1] = [some a0, some a1] := rfl
def t_Net_contains (K : PySem.W.Frag) : TS :=
  (tRet ((tOp (rIn K false) (tVar 1) ((tFldC (C_Net K) (tVar 0) "_events")))))

theorem pure_Net_contains (K : PySem.W.Frag) (vs : List V) (H : Hp) (Q : VK) (E : XK) (h : sp_Net_contains K vs H Q E) : t_Net_contains K { nx := fun _ H' => Q .non H', rt := Q } (L2.start N_Net_contains vs) H := by
  obtain ⟨a, T, ns, ss, l, rfl, ⟨dx, le, ls, h1, h2, h3⟩, k⟩ := h
  rw [st_Net_contains]
  unfold t_Net_contains
  walk_at "st"
  exact wp_inSv (sq_of h2) k
theorem len_Net_contains (K : PySem.W.Frag) (vs : List V) (H : Hp) (Q : VK) (E : XK) (h : sp_Net_contains K vs H Q E) : vs.length = 2 := by
  obtain ⟨n, m, ms, a, _, rfl, _⟩ := h
  rfl
theorem c_inNet {K : PySem.W.Frag} {a : Addr} {T : Int} {ns : List (List Nat)} {ss : List V} {l : List Nat} {H : Hp} {Q : VK} (h : IsNet (C_Net K) H a T ns ss) (k : Q (.bl (decide (l ∈ ns))) H) : rInOwn (C_Net K) (sp_Net_contains K) false (.str (S l)) (.ref a) H Q := by
  have h0 := h
  obtain ⟨dx, le, ls, h1, h2, h3⟩ := h
  exact ⟨a, dx, _, rfl, h1, a, T, ns, ss, l, rfl, h0, _, rfl, k⟩
theorem c_notInNet {K : PySem.W.Frag} {a : Addr} {T : Int} {ns : List (List Nat)} {ss : List V} {l : List Nat} {H : Hp} {Q : VK} (h : IsNet (C_Net K) H a T ns ss) (k : Q (.bl (!decide (l ∈ ns))) H) : rInOwn (C_Net K) (sp_Net_contains K) true (.str (S l)) (.ref a) H Q := by
  have h0 := h
  obtain ⟨dx, le, ls, h1, h2, h3⟩ := h
  exact ⟨a, dx, _, rfl, h1, a, T, ns, ss, l, rfl, h0, _, rfl, k⟩
def sp_Times_round_length (K : PySem.W.Frag) : Sp := fun vs H Q _ => ∃ (a dx d : Addr) (T : Int), vs = [.ref a] ∧ H a = some (.ins (C_Times K) dx (tmF T d)) ∧ Q (.int T) H
abbrev N_Times_round_length : List Str := ["self"]
theorem st_Times_round_length {a0 : V} : L2.start N_Times_round_length [a0] = [some a0] := rfl
def t_Times_round_length (K : PySem.W.Frag) : TS :=
  (tRet ((tFldC (C_Times K) (tVar 0) "_round_length")))

theorem pure_Times_round_length (K : PySem.W.Frag) (vs : List V) (H : Hp) (Q : VK) (E : XK) (h : sp_Times_round_length K vs H Q E) : t_Times_round_length K { nx := fun _ H' => Q .non H', rt := Q } (L2.start N_Times_round_length vs) H := by
  obtain ⟨a, dx, d, T, rfl, h1, k⟩ := h
  rw [st_Times_round_length]
  unfold t_Times_round_length
  walk_at "st"
  exact k
theorem len_Times_round_length (K : PySem.W.Frag) (vs : List V) (H : Hp) (Q : VK) (E : XK) (h : sp_Times_round_length K vs H Q E) : vs.length = 1 := by
  obtain ⟨n, m, ms, a, rfl, _⟩ := h
  rfl
theorem c_Times_round_length {K : PySem.W.Frag} {a : Addr} {T : Int} {ns : List (List Nat)} {m : List Nat → Int} {H : Hp} {Q : VK} {E : XK} (h : IsTimes (C_Times K) H a T ns m) (k : Q (.int T) H) : ∃ a' dx fs, V.ref a = .ref a' ∧ H a' = some (.ins (C_Times K) dx fs) ∧ sp_Times_round_length K [.ref a'] H Q E := by
  obtain ⟨dx, d, h1, h2⟩ := h
  exact ⟨a, dx, _, rfl, h1, a, dx, d, T, rfl, h1, k⟩
def sp_Times_contains (K : PySem.W.Frag) : Sp := fun vs H Q _ => ∃ (a dx d : Addr) (T : Int) (f : List Nat → V) (ns : List (List Nat)) (l : List Nat), vs = [.ref a, .str (S l)] ∧ H a = some (.ins (C_Times K) dx (tmF T d)) ∧ Rd H d (.dK (dN f ns)) ∧ Q (.bl (decide (l ∈ ns))) H
abbrev N_Times_contains : List Str := ["self", "name"]
theorem st_Times_contains {a0 a1 : V} : L2.start N_Times_contains [a0, a1] = [some a0, some a1] := rfl
def t_Times_contains (K : PySem.W.Frag) : TS :=
  (tRet ((tDIn (tVar 1) ((tFldC (C_Times K) (tVar 0) "_minutes")))))

theorem pure_Times_contains (K : PySem.W.Frag) (vs : List V) (H : Hp) (Q : VK) (E : XK) (h : sp_Times_contains K vs H Q E) : t_Times_contains K { nx := fun _ H' => Q .non H', rt := Q } (L2.start N_Times_contains vs) H := by
  obtain ⟨a, dx, d, T, f, ns, l, rfl, h1, h2, k⟩ := h
  rw [st_Times_contains]
  unfold t_Times_contains
  walk_at "st"
  refine din_s h2 ?_
  rw [dN_some]
  exact k
theorem len_Times_contains (K : PySem.W.Frag) (vs : List V) (H : Hp) (Q : VK) (E : XK) (h : sp_Times_contains K vs H Q E) : vs.length = 2 := by
  obtain ⟨n, m, ms, a, b, _, _, rfl, _⟩ := h
  rfl
theorem c_notInTimes {K : PySem.W.Frag} {a : Addr} {T : Int} {ns : List (List Nat)} {m : List Nat → Int} {l : List Nat} {H : Hp} {Q : VK} (h : IsTimes (C_Times K) H a T ns m) (k : Q (.bl (!decide (l ∈ ns))) H) : rInOwn (C_Times K) (sp_Times_contains K) true (.str (S l)) (.ref a) H Q := by
  obtain ⟨dx, d, h1, h2⟩ := h
  exact ⟨a, dx, _, rfl, h1, a, dx, d, T, _, ns, l, rfl, h1, .inl h2, _, rfl, k⟩
theorem c_inTimes {K : PySem.W.Frag} {a : Addr} {T : Int} {ns : List (List Nat)} {m : List Nat → Int} {l : List Nat} {H : Hp} {Q : VK} (h : IsTimes (C_Times K) H a T ns m) (k : Q (.bl (decide (l ∈ ns))) H) : rInOwn (C_Times K) (sp_Times_contains K) false (.str (S l)) (.ref a) H Q := by
  obtain ⟨dx, d, h1, h2⟩ := h
  exact ⟨a, dx, _, rfl, h1, a, dx, d, T, _, ns, l, rfl, h1, .inl h2, _, rfl, k⟩
theorem c_notInTimesR {K : PySem.W.Frag} {a dx d : Addr} {T : Int} {f : List Nat → V} {ns : List (List Nat)} {l : List Nat} {H : Hp} {Q : VK} (h1 : H a = some (.ins (C_Times K) dx (tmF T d))) (h2 : Rd H d (.dK (dN f ns))) (k : Q (.bl (!decide (l ∈ ns))) H) : rInOwn (C_Times K) (sp_Times_contains K) true (.str (S l)) (.ref a) H Q :=
  ⟨a, dx, _, rfl, h1, a, dx, d, T, _, ns, l, rfl, h1, h2, _, rfl, k⟩
def sp_check_names (K : PySem.W.Frag) : Sp := fun vs H Q E => ∃ (a b : Addr) (T T' : Int) (ns ms : List (List Nat)) (ss : List V) (m : List Nat → Int), vs = [.ref a, .ref b] ∧ IsNet (C_Net K) H a T ns ss ∧ IsTimes (C_Times K) H b T' ms m ∧
  Ck K (if T' ≠ T then some (eN T') else (cFold (cIn ms) ns).or (cFold (cIn ns) ms)) E H Q
abbrev N_check_names : List Str := ["net", "times", "name"]
theorem st_check_names {a0 a1 : V} : L2.start N_check_names [a0, a1] = [some a0, some a1, none] := rfl
def t_check_names (K : PySem.W.Frag) (E : XK) : TS :=
  (tSeq ((tIfS ((tTest (tOp rNe ((tProp (C_Times K) (sp_Times_round_length K) [] E0 (tVar 1))) ((tProp (C_Net K) (sp_Net_round_length K) [] E0 (tVar 0)))))) ((tRs (C_BadNumber K) ["number"] E ((tCons ((tProp (C_Times K) (sp_Times_round_length K) [] E0 (tVar 1))) (tNil))))) (tNext)))
    ((tSeq ((tFor ((iOwnL K (C_Net K) "_events" (tVar 0))) (gName 2) ((tIfS ((tTest (tOp (rInOwn (C_Times K) (sp_Times_contains K) true) (tVar 2) (tVar 1)))) ((tRs (C_WrongNames K) ["name"] E ((tCons (tVar 2) (tNil))))) (tNext)))))
    ((tLockX (fun E1 => (tFor ((iOwnK (C_Times K) "_minutes" (tVar 1))) (gName 2) ((tIfS ((tTest (tOp (rInOwn (C_Net K) (sp_Net_contains K) true) (tVar 2) (tVar 0)))) ((tRs (C_WrongNames K) ["name"] E1 ((tCons (tVar 2) (tNil))))) (tNext))))) E)))))

theorem pure_check_names (K : PySem.W.Frag) (vs : List V) (H : Hp) (Q : VK) (E : XK) (h : sp_check_names K vs H Q E) : t_check_names K E { nx := fun _ H' => Q .non H', rt := Q } (L2.start N_check_names vs) H := by
  obtain ⟨a, b, T, T', ns, ms, ss, m, rfl, hn, ht, k⟩ := h
  obtain ⟨dx, le, ls, n1, n2, n3⟩ := id hn
  obtain ⟨dt, d, t1, t2⟩ := id ht
  unfold mD at t2
  rw [st_check_names]
  unfold t_check_names
  walk_at "st"
  refine c_Times_round_length ht ?_
  walk_at "st"
  refine c_Net_round_length hn ?_
  walk_at "st"
  refine ite_ndec (fun h1 => ?_) (fun h1 => ?_)
  · walk_at "st"
    refine wp_rs ?_
    walk_at "st"
    refine c_Times_round_length ht ?_
    walk_at "st"
    exact rs_of rfl (by decide) (k.rz (e := eN T') (if_pos h1))
  subst h1
  rw [if_neg (by simp)] at k
  walk_at "st"
  refine loopOwnL n1 lk_e (sq_of n2) (fun i σ' H' => ∃ x, σ' = [some (.ref a), some (.ref b), x] ∧ H' = H ∧ ∀ l ∈ ns.take i, cIn ms l = none) ⟨_, rfl, rfl, by simp⟩ ?_ ?_ ?_
  · rintro i σ' H' _ ⟨_, rfl, rfl, _⟩
    exact sq_of n2
  · rintro i x σ' H' hx ⟨_, rfl, rfl, ha⟩
    rw [List.getElem?_map] at hx
    obtain ⟨l, hl, rfl⟩ := Option.map_eq_some_iff.mp hx
    walk_at "st"
    refine c_notInTimes ht ?_
    walk_at "st"
    refine ite_ndec (fun h2 => ?_) (fun h2 => ?_)
    · walk_at "st"
      refine wp_rs ?_
      walk_at "st"
      exact rs_of rfl (by decide) (k.rz (e := eW l) (by rw [cFold_at (er := eW l) hl ha (if_neg h2)]; rfl))
    · walk_at "st"
      refine ⟨_, rfl, rfl, fun z hz => ?_⟩
      rw [take_snoc hl] at hz
      rcases List.mem_append.mp hz with h | h
      · exact ha z h
      · rw [List.mem_singleton.mp h]; exact if_pos h2
  · rintro σ' H' ⟨x, rfl, rfl, ha⟩
    rw [List.length_map, List.take_length] at ha
    have k := k.fst (cFold_none ha)
    dsimp only
    refine wp_lockX (kvs := dN (fun l => .int (m l)) ms) (d := d) t2 fun od => ?_
    have nbd : b ≠ d := fun e => by rw [e, t2] at t1; cases t1
    have nad : a ≠ d := fun e => by rw [e, t2] at n1; cases n1
    walk_at "st"
    refine loopOwnKN (by rw [upd_ne nbd]; exact t1) lk_md upd_same (fun i σ' H2 => ∃ x, σ' = [some (.ref a), some (.ref b), x] ∧ Same (upd H' d (.frz od (.dK (dN (fun l => .int (m l)) ms)))) H2 ∧ ∀ l ∈ ms.take i, cIn ns l = none) ⟨_, rfl, Same.refl _, by simp⟩ ?_ ?_ ?_
    · rintro i σ' H' _ ⟨_, rfl, s, _⟩
      exact s _ _ upd_same
    · rintro i l σ' H2 hl ⟨_, rfl, s, hb⟩
      have hn2 : IsNet (C_Net K) H2 a T' ns ss := ⟨dx, le, ls, frz_ne t2 s n1 (by simp), frz_ne t2 s n2 (by simp), frz_ne t2 s n3 (by simp)⟩
      walk_at "st"
      refine c_notInNet hn2 ?_
      walk_at "st"
      refine ite_ndec (fun h2 => ?_) (fun h2 => ?_)
      · walk_at "st"
        refine wp_rs ?_
        walk_at "st"
        exact rs_of rfl (by decide) ((Rzd.unl (od := od) t2 (k.rz (e := eW l) (cFold_at (er := eW l) hl hb (if_neg h2)))).mono s)
      · walk_at "st"
        refine ⟨_, rfl, s, fun z hz => ?_⟩
        rw [take_snoc hl] at hz
        rcases List.mem_append.mp hz with h | h
        · exact hb z h
        · rw [List.mem_singleton.mp h]; exact if_pos h2
    · rintro σ' H2 ⟨_, rfl, s, hb⟩
      rw [List.take_length] at hb
      exact ⟨s _ _ upd_same, (k _ (unl t2 s)).1 (cFold_none hb)⟩
theorem len_check_names (K : PySem.W.Frag) (vs : List V) (H : Hp) (Q : VK) (E : XK) (h : sp_check_names K vs H Q E) : vs.length = 2 := by
  obtain ⟨n, m, ms, a, b, _, _, _, rfl, _⟩ := h
  rfl
theorem c_check_names {K : PySem.W.Frag} {a b : Addr} {T T' : Int} {ns ms : List (List Nat)} {ss : List V} {m : List Nat → Int} {H : Hp} {Q : VK} {E : XK} (hn : IsNet (C_Net K) H a T ns ss) (ht : IsTimes (C_Times K) H b T' ms m) (k : Ck K (if T' ≠ T then some (eN T') else (cFold (cIn ms) ns).or (cFold (cIn ns) ms)) E H Q) : sp_check_names K [.ref a, .ref b] H Q E := ⟨a, b, T, T', ns, ms, ss, m, rfl, hn, ht, k⟩
/-- .. its dict perhaps locked -/
def IsTimesR (C : Addr) (H : Hp) (a : Addr) (T : Int) (ns : List (List Nat)) (m : List Nat → Int) : Prop := ∃ dx d, H a = some (.ins C dx (tmF T d)) ∧ Rd H d (.dK (mD m ns))
theorem IsTimes.rd {C : Addr} {H : Hp} {a : Addr} {T : Int} {ns : List (List Nat)} {m : List Nat → Int} (h : IsTimes C H a T ns m) : IsTimesR C H a T ns m := by
  obtain ⟨dx, d, h1, h2⟩ := h
  exact ⟨dx, d, h1, .inl h2⟩
theorem rd_mono {H H' : Hp} {d : Addr} {o : HO} (e : Same H H') (h : Rd H d o) : Rd H' d o := by
  rcases h with h | ⟨ob, h⟩
  · exact .inl (e _ _ h)
  · exact .inr ⟨ob, e _ _ h⟩
theorem IsTimesR.mono {C : Addr} {H H' : Hp} (e : Same H H') {a : Addr} {T : Int} {ns : List (List Nat)} {m : List Nat → Int} (h : IsTimesR C H a T ns m) : IsTimesR C H' a T ns m := by
  obtain ⟨dx, d, h1, h2⟩ := h
  exact ⟨dx, d, e _ _ h1, rd_mono e h2⟩
theorem IsTimesR.lock {C : Addr} {H : Hp} {p : Addr} {kvs : List (Key × V)} {od : Obj} (hp : H p = some (.dK kvs)) {a : Addr} {T : Int} {ns : List (List Nat)} {m : List Nat → Int} (h : IsTimes C H a T ns m) : IsTimesR C (upd H p (.frz od (.dK kvs))) a T ns m := by
  obtain ⟨dx, d, h1, h2⟩ := h
  have nap : a ≠ p := fun e => by rw [e, hp] at h1; cases h1
  refine ⟨dx, d, (upd_ne nap).trans h1, ?_⟩
  by_cases e : d = p
  · subst e
    rw [hp] at h2
    cases h2
    exact .inr ⟨od, upd_same⟩
  · exact .inl ((upd_ne e).trans h2)
def sp_Times_getitem (K : PySem.W.Frag) : Sp := fun vs H Q _ => ∃ (a : Addr) (T : Int) (ns : List (List Nat)) (m : List Nat → Int) (l : List Nat), vs = [.ref a, .str (S l)] ∧ IsTimesR (C_Times K) H a T ns m ∧ l ∈ ns ∧ ∀ H', Same H H' → Q (.int (m l)) H'
abbrev N_Times_getitem : List Str := ["self", "name"]
theorem st_Times_getitem {a0 a1 : V} : L2.start N_Times_getitem [a0, a1] = [some a0, some a1] := rfl
def t_Times_getitem (K : PySem.W.Frag) : TS :=
  (tSeq ((tDrop ((tCall (sp_check_known K) [] E0 ((tCons ((tLst ((tCons (tVar 1) (tNil))))) ((tCons ((tFldC (C_Times K) (tVar 0) "_minutes")) (tNil)))))))))
    ((tRet ((tDGet ((tFldC (C_Times K) (tVar 0) "_minutes")) (tVar 1))))))

theorem pure_Times_getitem (K : PySem.W.Frag) (vs : List V) (H : Hp) (Q : VK) (E : XK) (h : sp_Times_getitem K vs H Q E) : t_Times_getitem K { nx := fun _ H' => Q .non H', rt := Q } (L2.start N_Times_getitem vs) H := by
  obtain ⟨a, T, ns, m, l, rfl, ⟨dx, d, h1, h2⟩, hl, k⟩ := h
  rw [st_Times_getitem]
  unfold t_Times_getitem
  walk_at "st"
  refine ⟨by simp [sizeLine_eq], fun q hq => ?_⟩
  have s2 := Same.new (o := .lst [sv l]) hq
  have h1' := s2 _ _ h1
  have h2' := rd_mono s2 h2
  unfold mD at h2'
  walk_at "st"
  refine c_check_knownD (ls := [l]) upd_same h2' (fun x hx => by rw [List.mem_singleton.mp hx, dN_some, decide_eq_true hl]) ?_
  walk_at "st"
  refine dget_s h2' (dN_val hl) ?_
  exact k _ s2
theorem len_Times_getitem (K : PySem.W.Frag) (vs : List V) (H : Hp) (Q : VK) (E : XK) (h : sp_Times_getitem K vs H Q E) : vs.length = 2 := by
  obtain ⟨n, m, ms, a, b, rfl, _⟩ := h
  rfl
theorem c_Times_getitemR {K : PySem.W.Frag} {a : Addr} {T : Int} {ns : List (List Nat)} {m : List Nat → Int} {l : List Nat} {H : Hp} {Q : VK} (h : IsTimesR (C_Times K) H a T ns m) (hl : l ∈ ns) (k : ∀ H', Same H H' → Q (.int (m l)) H') : ∃ a' dx fs, V.ref a = .ref a' ∧ H a' = some (.ins (C_Times K) dx fs) ∧ sp_Times_getitem K [.ref a', .str (S l)] H Q E0 := by
  obtain ⟨dx, d, h1, h2⟩ := h
  exact ⟨a, dx, _, rfl, h1, a, T, ns, m, l, rfl, ⟨dx, d, h1, h2⟩, hl, k⟩
theorem c_Times_getitem {K : PySem.W.Frag} {a : Addr} {T : Int} {ns : List (List Nat)} {m : List Nat → Int} {l : List Nat} {H : Hp} {Q : VK} (h : IsTimes (C_Times K) H a T ns m) (hl : l ∈ ns) (k : ∀ H', Same H H' → Q (.int (m l)) H') : ∃ a' dx fs, V.ref a = .ref a' ∧ H a' = some (.ins (C_Times K) dx fs) ∧ sp_Times_getitem K [.ref a', .str (S l)] H Q E0 :=
  c_Times_getitemR h.rd hl k
def sp_on_span (K : PySem.W.Frag) : Sp := fun vs H Q _ => ∃ (b p : Addr) (T : Int) (ms : List (List Nat)) (m : List Nat → Int) (r : Row), vs = [.ref b, .ref p] ∧ IsTimes (C_Times K) H b T ms m ∧ H p = some (.tup (rowV r)) ∧ r.u ∈ ms ∧ r.v ∈ ms ∧ 0 < T ∧ T < 1000 ∧ ∀ H', Same H H' → Q (pas T m r) H'
abbrev N_on_span : List Str := ["times", "span", "start", "end", "least", "most", "_", "minutes"]
theorem st_on_span {a0 a1 : V} : L2.start N_on_span [a0, a1] = [some a0, some a1, none, none, none, none, none, none] := rfl
def t_on_span (K : PySem.W.Frag) : TS :=
  (tSeq ((tAsg (tVar 1) (gTup K 5 (gCons (gName 2) (gCons (gName 3) (gCons (gName 4) (gCons (gName 5) (gCons (gName 6) gNil))))))))
    ((tSeq ((tAsg ((tOp (rI0 fun i j => .int (i + j)) (tVar 4) ((tOp (rI (fun _ j => 0 < j) fun i j => .int (i % j)) ((tOp (rI0 fun i j => .int (i - j)) ((tOp (rI0 fun i j => .int (i - j)) ((tSubOwn (C_Times K) (sp_Times_getitem K) (tVar 0) (tVar 3))) ((tSubOwn (C_Times K) (sp_Times_getitem K) (tVar 0) (tVar 2))))) (tVar 4))) ((tProp (C_Times K) (sp_Times_round_length K) [] E0 (tVar 0))))))) (gName 7)))
    ((tRet ((tIf ((tTest (tOp (rI0 fun i j => .bl (decide (i ≤ j))) (tVar 7) (tVar 5)))) (tVar 7) (tC .non))))))))

theorem pure_on_span (K : PySem.W.Frag) (vs : List V) (H : Hp) (Q : VK) (E : XK) (h : sp_on_span K vs H Q E) : t_on_span K { nx := fun _ H' => Q .non H', rt := Q } (L2.start N_on_span vs) H := by
  obtain ⟨b, p, T, ms, m, r, rfl, ht, hp, hu, hv, T0, T1, k⟩ := h
  rw [st_on_span]
  unfold t_on_span
  unfold rowV at hp
  walk_at "st"
  refine c_Times_getitem ht hv fun H2 s2 => ?_
  walk_at "st"
  refine c_Times_getitem (ht.mono s2) hu fun H3 s3 => ?_
  walk_at "st"
  refine c_Times_round_length ((ht.mono s2).mono s3) ?_
  walk_at "st"
  have z := k H3 (s2.trans s3)
  unfold pas at z
  refine ite_dec (fun h => ?_) (fun h => ?_)
  · rw [if_pos h] at z
    walk_at "st"
    exact z
  · rw [if_neg h] at z
    walk_at "st"
    exact z
theorem len_on_span (K : PySem.W.Frag) (vs : List V) (H : Hp) (Q : VK) (E : XK) (h : sp_on_span K vs H Q E) : vs.length = 2 := by
  obtain ⟨n, m, ms, a, b, _, rfl, _⟩ := h
  rfl
theorem c_on_span {K : PySem.W.Frag} {b p : Addr} {T : Int} {ms : List (List Nat)} {m : List Nat → Int} {r : Row} {H : Hp} {Q : VK} {E : XK} (ht : IsTimes (C_Times K) H b T ms m) (hp : H p = some (.tup (rowV r))) (hu : r.u ∈ ms) (hv : r.v ∈ ms) (T0 : 0 < T) (T1 : T < 1000) (k : ∀ H', Same H H' → Q (pas T m r) H') : sp_on_span K [.ref b, .ref p] H Q E := ⟨b, p, T, ms, m, r, rfl, ht, hp, hu, hv, T0, T1, k⟩
def cNms (T : Int) (ns : List (List Nat)) (T' : Int) (ms : List (List Nat)) : Option Er := if T' ≠ T then some (eN T') else (cFold (cIn ms) ns).or (cFold (cIn ns) ms)
def sp_on_all_spans (K : PySem.W.Frag) : Sp := fun vs H Q E => ∃ (a b : Addr) (T T' : Int) (ns ms : List (List Nat)) (ss : List V) (rs : List Row) (m : List Nat → Int), vs = [.ref a, .ref b] ∧ IsNet (C_Net K) H a T ns ss ∧ IsTimes (C_Times K) H b T' ms m ∧ Rws H ss rs ∧ (∀ r ∈ rs, r.u ∈ ns ∧ r.v ∈ ns) ∧ rs.length ≤ 100 ∧ 0 < T ∧ T < 1000 ∧
  (∀ er, cNms T ns T' ms = some er → Rzd (He.ga K er.c) er.fs E H) ∧ (cNms T ns T' ms = none → ∀ D H', H D = none → Same H H' → H' D = some (.lst (rs.map (pas T m))) → Q (.ref D) H')
abbrev N_on_all_spans : List Str := ["net", "times", "span"]
theorem st_on_all_spans {a0 a1 : V} : L2.start N_on_all_spans [a0, a1] = [some a0, some a1, none] := rfl
def t_on_all_spans (K : PySem.W.Frag) (E : XK) : TS :=
  (tSeq ((tDrop ((tCall (sp_check_names K) [] E ((tCons (tVar 0) ((tCons (tVar 1) (tNil)))))))))
    ((tRet ((tLc ((iList K ((tProp (C_Net K) (sp_Net_spans K) [] E0 (tVar 0))))) ((gName 2)) (tYes) ((tCall (sp_on_span K) [] E0 ((tCons (tVar 1) ((tCons (tVar 2) (tNil))))))) [2])))))

theorem pure_on_all_spans (K : PySem.W.Frag) (vs : List V) (H : Hp) (Q : VK) (E : XK) (h : sp_on_all_spans K vs H Q E) : t_on_all_spans K E { nx := fun _ H' => Q .non H', rt := Q } (L2.start N_on_all_spans vs) H := by
  obtain ⟨a, b, T, T', ns, ms, ss, rs, m, rfl, hn, ht, hr, hu, h100, T0, T1, kx, k⟩ := h
  have lr := hr.len
  rw [st_on_all_spans]
  unfold t_on_all_spans
  walk_at "st"
  refine c_check_names hn ht fun H2 s2 => ⟨fun e0 => ?_, fun er e0 => (kx er e0).mono s2⟩
  have k := k e0
  have eT : T' = T := by
    by_cases h : T' = T
    · exact h
    · rw [if_pos h] at e0; cases e0
  subst eT
  rw [if_neg (by simp)] at e0
  have inm := cIn_none (Option.or_eq_none_iff.mp e0).1
  have hn2 := hn.mono s2
  walk_at "st"
  refine c_Net_spans hn2 fun p hp => ?_
  have s3 := Same.new (o := .lst ss) hp
  walk_at "st"
  refine lcGL (sq_of upd_same) (by omega) (fun i => (rs.take i).map (pas T' m)) rfl (fun i => by rw [List.length_map, List.length_take]; omega) (fun i x H4 R R0 hx s4 k1 k0 => ?_) (fun D H4 hD s4 hD2 => ?_)
  · obtain ⟨r, hri, q, rfl, hq⟩ := hr.at hx
    obtain ⟨ru, rv⟩ := hu r (List.mem_of_getElem? hri)
    have s24 := (s2.trans s3).trans s4
    rw [show wipe [some (V.ref a), some (V.ref b), none] [2] = [some (V.ref a), some (V.ref b), none] from rfl]
    show gName 2 (.ref q) _ _ _
    walk_at "st"
    refine ⟨rfl, ?_⟩
    walk_at "st"
    refine c_on_span (ht.mono s24) (s24 _ _ hq) (inm _ ru) (inm _ rv) T0 T1 fun H5 s5 => ?_
    refine k1 _ _ s5 ?_
    rw [take_snoc hri, List.map_append]
    rfl
  · rw [lr, List.take_length] at hD2
    have s23 := s2.trans s3
    exact k D H4 (s23.free hD) (s23.trans s4) hD2
theorem len_on_all_spans (K : PySem.W.Frag) (vs : List V) (H : Hp) (Q : VK) (E : XK) (h : sp_on_all_spans K vs H Q E) : vs.length = 2 := by
  obtain ⟨n, m, ms, a, b, _, _, _, _, rfl, _⟩ := h
  rfl
theorem pas_non {T : Int} {m : List Nat → Int} {r : Row} (h : isK T m r = false) : pas T m r = .non := by
  unfold isK at h
  unfold pas
  rw [if_neg (of_decide_eq_false h)]
theorem pas_int {T : Int} {m : List Nat → Int} {r : Row} (h : isK T m r = true) : ∃ i, pas T m r = .int i := by
  unfold isK at h
  unfold pas
  rw [if_pos (of_decide_eq_true h)]
  exact ⟨_, rfl⟩
theorem pas_flat {T : Int} {m : List Nat → Int} {rs : List Row} : (rs.map (pas T m)).all flatV = true := by
  rw [List.all_eq_true]
  intro x hx
  obtain ⟨r, _, rfl⟩ := List.mem_map.mp hx
  cases h : isK T m r with
  | false => rw [pas_non h]; rfl
  | true => obtain ⟨i, e⟩ := pas_int h; rw [e]; rfl
theorem brk_some {T : Int} {m : List Nat → Int} : ∀ {rs : List Row} {i : Nat} {er : Er}, brk T m i rs = some er → ∃ j r, rs[j]? = some r ∧ isK T m r = false ∧ (∀ x ∈ rs.take j, isK T m x = true) ∧ er = eB ((i + j : Nat) : Int)
  | x :: rs, i, er, h => by
    have h : (if isK T m x = true then brk T m (i + 1) rs else some (eB i)) = some er := h
    by_cases e : isK T m x = true
    · rw [if_pos e] at h
      obtain ⟨j, r, h1, h2, h3, h4⟩ := brk_some h
      refine ⟨j + 1, r, h1, h2, fun y hy => ?_, by rw [h4, show i + 1 + j = i + (j + 1) by omega]⟩
      rw [List.take_succ_cons] at hy
      rcases List.mem_cons.mp hy with rfl | hy
      · exact e
      · exact h3 y hy
    · rw [if_neg e] at h
      cases h
      exact ⟨0, x, rfl, by simpa using e, by simp, rfl⟩
theorem brk_all {T : Int} {m : List Nat → Int} : ∀ {rs : List Row} {i : Nat}, brk T m i rs = none → ∀ r ∈ rs, isK T m r = true
  | x :: rs, i, h, r, hr => by
    have h : (if isK T m x = true then brk T m (i + 1) rs else some (eB i)) = none := h
    by_cases e : isK T m x = true
    · rw [if_pos e] at h
      rcases List.mem_cons.mp hr with rfl | hr
      · exact e
      · exact brk_all h r hr
    · rw [if_neg e] at h
      cases h
theorem cKept_eq {T : Int} {ns : List (List Nat)} {rs : List Row} {T' : Int} {ms : List (List Nat)} {m : List Nat → Int} : cKept T ns rs T' ms m = (cNms T ns T' ms).or (if T' ≠ T then none else brk T m 0 rs) := by
  unfold cKept cNms
  by_cases h : T' ≠ T
  · rw [if_pos h, if_pos h]; rfl
  · rw [if_neg h, if_neg h, if_neg h, Option.or_assoc]
def sp_kept_minutes (K : PySem.W.Frag) : Sp := fun vs H Q E => ∃ (a b : Addr) (T T' : Int) (ns ms : List (List Nat)) (ss : List V) (rs : List Row) (m : List Nat → Int), vs = [.ref a, .ref b] ∧ IsNet (C_Net K) H a T ns ss ∧ IsTimes (C_Times K) H b T' ms m ∧ Rws H ss rs ∧ (∀ r ∈ rs, r.u ∈ ns ∧ r.v ∈ ns) ∧ rs.length ≤ 100 ∧ 0 < T ∧ T < 1000 ∧
  (∀ er, cKept T ns rs T' ms m = some er → Rzd (He.ga K er.c) er.fs E H) ∧ (cKept T ns rs T' ms m = none → ∀ D H', H D = none → Same H H' → H' D = some (.lst (rs.map (pas T m))) → Q (.ref D) H')
abbrev N_kept_minutes : List Str := ["net", "times", "minutes"]
theorem st_kept_minutes {a0 a1 : V} : L2.start N_kept_minutes [a0, a1] = [some a0, some a1, none] := rfl
def t_kept_minutes (K : PySem.W.Frag) (E : XK) : TS :=
  (tSeq ((tAsg ((tCall (sp_on_all_spans K) [] E ((tCons (tVar 0) ((tCons (tVar 1) (tNil))))))) (gName 2)))
    ((tSeq ((tIfS ((tTest (tOp (rIn K false) (tC .non) (tVar 2)))) ((tRs (C_BrokenSpan K) ["number"] E ((tCons ((tBM K "list" (rIndex K) (tVar 2) ((tCons (tC .non) (tNil))))) (tNil))))) (tNext)))
    ((tRet (tVar 2))))))

theorem pure_kept_minutes (K : PySem.W.Frag) (vs : List V) (H : Hp) (Q : VK) (E : XK) (h : sp_kept_minutes K vs H Q E) : t_kept_minutes K E { nx := fun _ H' => Q .non H', rt := Q } (L2.start N_kept_minutes vs) H := by
  obtain ⟨a, b, T, T', ns, ms, ss, rs, m, rfl, hn, ht, hr, hu, h100, T0, T1, kx, k⟩ := h
  rw [cKept_eq] at kx k
  rw [st_kept_minutes]
  unfold t_kept_minutes
  walk_at "st"
  refine ⟨a, b, T, T', ns, ms, ss, rs, m, rfl, hn, ht, hr, hu, h100, T0, T1, fun er e => kx er (by rw [e]; rfl), fun e0 D H2 hD s2 hD2 => ?_⟩
  have eT : T' = T := by
    by_cases h : T' = T
    · exact h
    · unfold cNms at e0; rw [if_pos h] at e0; cases e0
  rw [e0, Option.none_or, if_neg (by simp [eT])] at kx k
  walk_at "st"
  refine ⟨D, _, rfl, .inl (sq_of hD2), rfl, pas_flat, ?_⟩
  cases hb : brk T m 0 rs with
  | none =>
    have al := brk_all hb
    have e : inV V.non (rs.map (pas T m)) = false := by
      cases hi : inV V.non (rs.map (pas T m)) with
      | false => rfl
      | true =>
        unfold inV at hi
        obtain ⟨x, hx, e⟩ := List.any_eq_true.mp hi
        obtain ⟨r, hr', rfl⟩ := List.mem_map.mp hx
        obtain ⟨i, e2⟩ := pas_int (al r hr')
        rw [e2] at e
        cases e
    rw [if_neg (by decide), e]
    walk_at "st"
    exact k hb D H2 hD s2 hD2
  | some er =>
    obtain ⟨j, r, hj, hk, hall, rfl⟩ := brk_some hb
    have hjp : (rs.map (pas T m))[j]? = some .non := by rw [List.getElem?_map, hj]; show some (pas T m r) = _; rw [pas_non hk]
    have e : inV V.non (rs.map (pas T m)) = true := by
      unfold inV
      exact List.any_eq_true.mpr ⟨.non, List.mem_of_getElem? hjp, rfl⟩
    rw [if_neg (by decide), e]
    walk_at "st"
    refine wp_rs ?_
    walk_at "st"
    refine ⟨D, _, .non, j, .non, rfl, rfl, sq_of hD2, rfl, pas_flat, hjp, rfl, fun i z hi hz => ?_, ?_⟩
    · rw [List.getElem?_map] at hz
      obtain ⟨r', hr', rfl⟩ := Option.map_eq_some_iff.mp hz
      obtain ⟨n, e2⟩ := pas_int (hall r' (List.mem_of_getElem? (by rw [List.getElem?_take, if_pos hi]; exact hr')))
      rw [e2]
      rfl
    · walk_at "st"
      have z := (kx _ hb).mono s2
      rw [Nat.zero_add] at z
      exact rs_of rfl (by decide) z
theorem len_kept_minutes (K : PySem.W.Frag) (vs : List V) (H : Hp) (Q : VK) (E : XK) (h : sp_kept_minutes K vs H Q E) : vs.length = 2 := by
  obtain ⟨n, m, ms, a, b, _, _, _, _, rfl, _⟩ := h
  rfl
def sp_ends (K : PySem.W.Frag) : Sp := fun vs H Q E => ∃ (n w : Addr) (T : Int) (ns : List (List Nat)) (ss xs : List V) (rs : List Row) (ws : List (Int × Int)), vs = [.ref n, .ref w] ∧ IsNet (C_Net K) H n T ns ss ∧ Rws H ss rs ∧ H w = some (.lst xs) ∧ StI H xs ws ∧ ws.length ≤ 1000 ∧
  (∀ i, i < ws.length → bad rs ws i = true → (∀ j < i, bad rs ws j = false) → Rzd (C_BadWalk K) [("at", .int (i : Nat))] E H) ∧
  ((∀ i < ws.length, bad rs ws i = false) → (ws = [] → ∀ H', Same H H' → Q .non H') ∧ ∀ p a b H', Same H H' → H p = none → H' p = some (.tup [sv a, sv b]) → ws ≠ [] → EndsOf rs ws a b → Q (.ref p) H')
abbrev N_ends : List Str := ["net", "walk", "spans", "first", "place", "at", "number", "direction", "start", "end", "begin", "reached"]
theorem st_ends {a0 a1 : V} : L2.start N_ends [a0, a1] = [some a0, some a1, none, none, none, none, none, none, none, none, none, none] := rfl
def t_ends (K : PySem.W.Frag) (E : XK) : TS :=
  (tSeq ((tAsg ((tProp (C_Net K) (sp_Net_spans K) [] E0 (tVar 0))) (gName 2)))
    ((tSeq ((tAsg2 (tC .non) ((gName 3)) ((gName 4))))
    ((tSeq ((tFor ((iEnum K ((tCons (tVar 1) (tNil))))) (gTup K 2 (gCons (gName 5) (gCons (gTup K 2 (gCons (gName 6) (gCons (gName 7) gNil))) gNil))) ((tSeq ((tIfS ((tOr ((tNot ((tTest (tChain (rI0 fun i j => .bl (decide (i ≤ j))) (rI0 fun i j => .bl (decide (i < j))) (tC (.int 0)) (tVar 6) ((tCB (rLenS K) ((tCons (tVar 2) (tNil)))))))))) ((tTest (tOp (rIn K true) (tVar 7) ((tTup ((tCons (tC (.int 1)) ((tCons ((tUn (rU fun i => .int (-i)) (tC (.int 1)))) (tNil)))))))))))) ((tRs (C_BadWalk K) ["at"] E ((tCons (tVar 5) (tNil))))) (tNext)))
    ((tSeq ((tAsg ((tSl (rSlA K) ((tOp (rIxL K) (tVar 2) (tVar 6))) tNoPart (tPart (tC (.int 2))))) (gTup K 2 (gCons (gName 8) (gCons (gName 9) gNil)))))
    ((C8.tCut ((tAsg ((tIf ((tTest (tOp rEq (tVar 7) (tC (.int 1))))) ((tTup ((tCons (tVar 8) ((tCons (tVar 9) (tNil))))))) ((tTup ((tCons (tVar 9) ((tCons (tVar 8) (tNil))))))))) (gTup K 2 (gCons (gName 10) (gCons (gName 11) gNil)))))
    ((C8.tCut ((tIfS ((tTest (tOp rEq (tVar 5) (tC (.int 0))))) ((tAsg (tVar 10) (gName 3))) ((tIfS ((tTest (tOp rNe (tVar 10) (tVar 4)))) ((tRs (C_BadWalk K) ["at"] E ((tCons (tVar 5) (tNil))))) (tNext)))))
    ((tAsg (tVar 11) (gName 4)))))))))))))
    ((tRet ((tIf ((tTru K (tVar 1))) ((tTup ((tCons (tVar 3) ((tCons (tVar 4) (tNil))))))) (tC .non))))))))))

theorem pure_ends (K : PySem.W.Frag) (vs : List V) (H : Hp) (Q : VK) (E : XK) (h : sp_ends K vs H Q E) : t_ends K E { nx := fun _ H' => Q .non H', rt := Q } (L2.start N_ends vs) H := by
  obtain ⟨n, w, T, ns, ss, xs, rs, ws, rfl, hn, rws, hw, st, few, kx, k⟩ := h
  have elx := st.len
  have elr := rws.len
  rw [st_ends]
  unfold t_ends
  walk_at "st"
  refine c_Net_spans hn fun q hq => ?_
  have t0 : Same H (upd H q (.lst ss)) := Same.new hq
  have hq0 : upd H q (.lst ss) q = some (.lst ss) := upd_same
  revert t0 hq0
  generalize upd H q (.lst ss) = H0
  intro t0 hq0
  walk_at "st"
  refine wp_asg2 ?_
  walk_at "st"
  have hw0 := t0 _ _ hw
  refine loopE (sq_of hw0) (fun i σ' H' => ∃ (f pl : V) (y5 y6 y7 y8 y9 y10 y11 : Option V), σ' = [some (.ref n), some (.ref w), some (.ref q), some f, some pl, y5, y6, y7, y8, y9, y10, y11] ∧ Same H H' ∧ H' q = some (.lst ss) ∧ (∀ j < i, bad rs ws j = false) ∧ (i = 0 ∨ ∃ s t a b c d, ws[0]? = some s ∧ sd rs s = some (a, c) ∧ ws[i - 1]? = some t ∧ sd rs t = some (d, b) ∧ f = sv a ∧ pl = sv b)) ⟨_, _, _, _, _, _, _, _, _, rfl, t0, hq0, fun j hj => absurd hj (Nat.not_lt_zero _), .inl rfl⟩ ?_ ?_ ?_
  · rintro i σ' H' _ ⟨f, pl, y5, y6, y7, y8, y9, y10, y11, rfl, t1, _⟩
    exact sq_of (t1 _ _ hw)
  · rintro i v A σ' H' hv ⟨f, pl, y5, y6, y7, y8, y9, y10, y11, rfl, t1, hq1, hg, hst⟩ hA
    obtain ⟨p, u, rfl, eu, _, hp⟩ := st.at_ hv
    obtain ⟨u1, u2⟩ := u
    have hp : H p = some (.tup [.int u1, .int u2]) := hp
    have hi := (List.getElem?_eq_some_iff.mp eu).1
    have t2 := t1.trans (Same.new (o := .tup [.int (i : Nat), .ref p]) hA)
    have hA2 : upd H' A (.tup [.int (i : Nat), .ref p]) A = some (.tup [.int (i : Nat), .ref p]) := upd_same
    have hq2 := Same.new (o := .tup [.int (i : Nat), .ref p]) hA _ _ hq1
    revert t2 hA2 hq2
    generalize upd H' A (.tup [.int (i : Nat), .ref p]) = H2
    intro t2 hA2 hq2
    have hp2 := t2 _ _ hp
    have raise : ∀ {H3 : Hp}, Same H H3 → bad rs ws i = true → Rzd (C_BadWalk K) [("at", .int (i : Nat))] E H3 := fun {H3} t3 e => (kx i hi e hg).mono t3
    walk_at "st"
    by_cases h0 : 0 ≤ u1
    · by_cases h1 : u1 < (rs.length : Int)
      · rw [decide_eq_true h0]
        walk_at "st"
        refine ⟨by simp [sizeLine_eq], fun c hc => ?_⟩
        have t3 := t2.trans (Same.new (o := .tup [.int 1, .int (-1)]) hc)
        have hq3 := Same.new (o := .tup [.int 1, .int (-1)]) hc _ _ hq2
        have hc3 : upd H2 c (.tup [.int 1, .int (-1)]) c = some (.tup [.int 1, .int (-1)]) := upd_same
        revert t3 hq3 hc3
        generalize upd H2 c (.tup [.int 1, .int (-1)]) = H3
        intro t3 hq3 hc3
        refine wp_notInI (is := [1, -1]) (.inr (st_of hc3)) ?_
        obtain ⟨j, rfl⟩ : ∃ j : Nat, u1 = j := ⟨u1.toNat, by omega⟩
        obtain ⟨r, er⟩ : ∃ r, rs[j]? = some r := ⟨_, List.getElem?_eq_getElem (by omega)⟩
        obtain ⟨a, ea, ha⟩ := row_at rws er
        have ha3 := t3 _ _ ha
        by_cases hd : u2 = 1 ∨ u2 = -1
        · rw [decide_eq_true (show u2 ∈ [1, -1] by simpa using hd), show (!true) = false from rfl]
          walk_at "st"
          refine wp_ixL (sq_of hq3) (at_nth ea) ?_
          walk_at "st"
          refine sl_to2 ha3 fun b hb => ?_
          have t4 := t3.trans (Same.new (o := .tup [sv r.u, sv r.v]) hb)
          have hq4 := Same.new (o := .tup [sv r.u, sv r.v]) hb _ _ hq3
          have hb4 : upd H3 b (.tup [sv r.u, sv r.v]) b = some (.tup [sv r.u, sv r.v]) := upd_same
          revert t4 hq4 hb4
          generalize upd H3 b (.tup [sv r.u, sv r.v]) = H4
          intro t4 hq4 hb4
          walk_at "st"
          refine wp_cut (fun σ' H' => ∃ (x y : List Nat), σ' = [some (.ref n), some (.ref w), some (.ref q), some f, some pl, some (.int (i : Nat)), some (.int (j : Nat)), some (.int u2), some (sv r.u), some (sv r.v), some (sv x), some (sv y)] ∧ sd rs ((j : Int), u2) = some (x, y) ∧ Same H H' ∧ H' q = some (.lst ss)) ?_ ?_
          · rcases hd with rfl | rfl
            · walk_at "st"
              refine ⟨by simp [sizeLine_eq], fun b2 hb2 => ?_⟩
              walk_at "st"
              exact ⟨r.u, r.v, rfl, sd_fwd er, t4.trans (Same.new hb2), Same.new hb2 _ _ hq4⟩
            · walk_at "st"
              refine ⟨by simp [sizeLine_eq], fun b2 hb2 => ?_⟩
              walk_at "st"
              exact ⟨r.v, r.u, rfl, sd_bwd er, t4.trans (Same.new hb2), Same.new hb2 _ _ hq4⟩
          · clear hb4 hq4 t4 ha3 hc3 hq3 t3 hp2 hq2 hA2 t2
            rintro σ' H5 ⟨x, y, rfl, es, t5, hq5⟩
            walk_at "st"
            refine wp_cut (fun σ' H' => ∃ (f : V), σ' = [some (.ref n), some (.ref w), some (.ref q), some f, some pl, some (.int (i : Nat)), some (.int (j : Nat)), some (.int u2), some (sv r.u), some (sv r.v), some (sv x), some (sv y)] ∧ Same H H' ∧ H' q = some (.lst ss) ∧ bad rs ws i = false ∧ ∃ s a c, ws[0]? = some s ∧ sd rs s = some (a, c) ∧ f = sv a) ?_ ?_
            · walk_at "st"
              refine ite_dec (fun z => ?_) (fun z => ?_)
              · obtain rfl : i = 0 := by have : (i : Int) = 0 := z; omega
                walk_at "st"
                exact ⟨_, rfl, t5, hq5, bad_zero eu es, _, x, y, eu, es, rfl⟩
              · have i0 : i ≠ 0 := by have : ¬ (i : Int) = 0 := z; omega
                obtain ⟨s0, t0', a0, b0, c0, d0, w0, sd0, wt, sdt, rfl, rfl⟩ := hst.resolve_left i0
                have bs := bad_some eu es i0 wt sdt
                walk_at "st"
                refine ite_ndec (fun z => ?_) (fun z => ?_)
                · walk_at "st"
                  refine wp_rs ?_
                  walk_at "st"
                  refine rs_of rfl (by decide) (raise t5 ?_)
                  rw [bs, decide_eq_false fun e => z (by rw [show b0 = x from e])]
                  rfl
                · walk_at "st"
                  exact ⟨_, rfl, t5, hq5, by rw [bs, decide_eq_true (show b0 = x from (S_inj z).symm)]; rfl, s0, a0, c0, w0, sd0, rfl⟩
            · clear hst t5 hq5
              rintro σ' H6 ⟨f, rfl, t5, hq5, hbi, s0, a0, c0, w0, sd0, rfl⟩
              walk_at "st"
              refine ⟨_, _, _, _, _, _, _, _, _, rfl, t5, hq5, fun j' hj' => ?_, .inr ⟨s0, ((j : Int), u2), a0, y, c0, x, w0, sd0, eu, es, rfl, rfl⟩⟩
              by_cases c' : j' = i
              · rw [c']; exact hbi
              · exact hg j' (by omega)
        · rw [decide_eq_false (show ¬ u2 ∈ [1, -1] by simpa using hd), show (!false) = true from rfl]
          walk_at "st"
          refine wp_rs ?_
          walk_at "st"
          exact rs_of rfl (by decide) (raise t3 (bad_none eu (sd_dir (fun z => hd (.inl z)) (fun z => hd (.inr z)))))
      · rw [decide_eq_true h0]
        walk_at "st"
        refine wp_rs ?_
        walk_at "st"
        exact rs_of rfl (by decide) (raise t2 (bad_none eu (sd_out (.inr (by show (rs.length : Int) ≤ u1; omega)))))
    · rw [decide_eq_false h0]
      walk_at "st"
      refine wp_rs ?_
      walk_at "st"
      exact rs_of rfl (by decide) (raise t2 (bad_none eu (sd_out (.inl (by show u1 < 0; omega)))))
  · rintro σ' H' ⟨f, pl, y5, y6, y7, y8, y9, y10, y11, rfl, t1, hq1, hg, hst⟩
    have hw1 := t1 _ _ hw
    obtain ⟨k0, k1⟩ := k fun i hi => hg i (by omega)
    walk_at "st"
    refine tru_lst hw1 ?_
    by_cases e0 : ws = []
    · have ex : xs = [] := List.length_eq_zero_iff.mp (by rw [elx, e0]; rfl)
      rw [ex, show (!([] : List V).isEmpty) = false from rfl]
      walk_at "st"
      exact k0 e0 H' t1
    · have lw : ws.length ≠ 0 := fun z => e0 (List.length_eq_zero_iff.mp z)
      have ex : (!xs.isEmpty) = true := by
        cases xs with
        | nil => exact absurd (elx.symm.trans rfl) lw
        | cons v r => rfl
      obtain ⟨s0, t0', a0, b0, c0, d0, w0, sd0, wt, sdt, rfl, rfl⟩ := hst.resolve_left (by omega)
      rw [ex]
      walk_at "st"
      refine ⟨by simp [sizeLine_eq], fun p hp => ?_⟩
      rw [elx] at wt
      exact k1 p a0 b0 _ (t1.trans (Same.new hp)) (t1.free hp) upd_same e0 ⟨s0, t0', c0, d0, w0, sd0, wt, sdt⟩
theorem len_ends (K : PySem.W.Frag) (vs : List V) (H : Hp) (Q : VK) (E : XK) (h : sp_ends K vs H Q E) : vs.length = 2 := by
  obtain ⟨_, _, _, _, _, _, _, _, rfl, _⟩ := h
  rfl
theorem c_ends {K : PySem.W.Frag} {n w : Addr} {T : Int} {ns : List (List Nat)} {ss xs : List V} {rs : List Row} {ws : List (Int × Int)} {H : Hp} {Q : VK} {E : XK} (hn : IsNet (C_Net K) H n T ns ss) (rws : Rws H ss rs) (hw : H w = some (.lst xs)) (st : StI H xs ws) (few : ws.length ≤ 1000)
    (kx : ∀ i, i < ws.length → bad rs ws i = true → (∀ j < i, bad rs ws j = false) → Rzd (C_BadWalk K) [("at", .int (i : Nat))] E H)
    (k : (∀ i < ws.length, bad rs ws i = false) → (ws = [] → ∀ H', Same H H' → Q .non H') ∧ ∀ p a b H', Same H H' → H p = none → H' p = some (.tup [sv a, sv b]) → ws ≠ [] → EndsOf rs ws a b → Q (.ref p) H') : sp_ends K [.ref n, .ref w] H Q E := ⟨n, w, T, ns, ss, xs, rs, ws, rfl, hn, rws, hw, st, few, kx, k⟩
def sp_sum_over (K : PySem.W.Frag) : Sp := fun vs H Q _ => ∃ (w f b : Addr) (xs : List V) (ws : List (Int × Int)) (fs bs : List Int), vs = [.ref w, .ref f, .ref b] ∧ H w = some (.lst xs) ∧ StI H xs ws ∧ ws.length ≤ 1000 ∧ H f = some (.lst (fs.map V.int)) ∧ H b = some (.lst (bs.map V.int)) ∧ bs.length = fs.length ∧ Stp fs.length ws ∧ ∀ H', Same H H' → Q (.int (sov fs bs ws)) H'
abbrev N_sum_over : List Str := ["walk", "forward", "backward", "number", "direction"]
theorem st_sum_over {a0 a1 a2 : V} : L2.start N_sum_over [a0, a1, a2] = [some a0, some a1, some a2, none, none] := rfl
def t_sum_over (K : PySem.W.Frag) : TS :=
  (tRet ((tCB (rSum K) ((tCons ((tLc ((iList K (tVar 0))) ((gTup K 2 (gCons (gName 3) (gCons (gName 4) gNil)))) (tYes) ((tIf ((tTest (tOp rEq (tVar 4) (tC (.int 1))))) ((tOp (rIxL K) (tVar 1) (tVar 3))) ((tOp (rIxL K) (tVar 2) (tVar 3))))) [3, 4])) (tNil))))))

theorem pure_sum_over (K : PySem.W.Frag) (vs : List V) (H : Hp) (Q : VK) (E : XK) (h : sp_sum_over K vs H Q E) : t_sum_over K { nx := fun _ H' => Q .non H', rt := Q } (L2.start N_sum_over vs) H := by
  obtain ⟨w, f, b, xs, ws, fs, bs, rfl, hw, st, few, hf, hb, lb, ok, k⟩ := h
  have elx := st.len
  rw [st_sum_over]
  unfold t_sum_over
  walk_at "st"
  refine lcGL (sq_of hw) (by omega) (fun i => ((ws.take i).map (stv fs bs)).map V.int) rfl (fun i => by simp only [List.length_map, List.length_take]; omega) (fun i x H2 R R0 hi s2 k1 k0 => ?_) (fun D H2 hD s2 hD2 => ?_)
  · obtain ⟨y, s, rfl, he, _, hy⟩ := (st.mono s2).at_ hi
    obtain ⟨n, d⟩ := s
    obtain ⟨o1, o2, o3⟩ := ok _ (List.mem_of_getElem? he)
    obtain ⟨j, rfl⟩ : ∃ j : Nat, n = j := ⟨n.toNat, by have : 0 ≤ n := o1; omega⟩
    have hj : j < fs.length := by have : (j : Int) < fs.length := o2; omega
    obtain ⟨v, ev⟩ : ∃ v, fs[j]? = some v := ⟨_, List.getElem?_eq_getElem hj⟩
    obtain ⟨u, eu⟩ : ∃ u, bs[j]? = some u := ⟨_, List.getElem?_eq_getElem (by omega)⟩
    have hy : H2 y = some (.tup [.int (j : Int), .int d]) := hy
    have hf2 := s2 _ _ hf
    have hb2 := s2 _ _ hb
    have e1 : ((ws.take (i + 1)).map (stv fs bs)).map V.int = ((ws.take i).map (stv fs bs)).map V.int ++ [V.int (stv fs bs ((j : Int), d))] := by
      rw [take_snoc he, List.map_append, List.map_append]
      rfl
    rw [show wipe ([some (.ref w), some (.ref f), some (.ref b), none, none] : L2.St) [3, 4] = [some (.ref w), some (.ref f), some (.ref b), none, none] from rfl]
    walk_at "st"
    refine ⟨rfl, ?_⟩
    rcases o3 with o3 | o3
    · obtain rfl : d = 1 := o3
      walk_at "st"
      refine wp_ixL (sq_of hf2) (at_nth (by rw [List.getElem?_map, ev]; rfl)) ?_
      refine k1 _ _ (Same.refl _) ?_
      rw [e1, show stv fs bs ((j : Int), 1) = v from by unfold stv; rw [if_pos rfl, Int.toNat_natCast, List.getD_eq_getElem?_getD, ev]; rfl]
    · obtain rfl : d = -1 := o3
      walk_at "st"
      refine wp_ixL (sq_of hb2) (at_nth (by rw [List.getElem?_map, eu]; rfl)) ?_
      refine k1 _ _ (Same.refl _) ?_
      rw [e1, show stv fs bs ((j : Int), -1) = u from by unfold stv; rw [if_neg (show ¬ (-1 : Int) = 1 by decide), Int.toNat_natCast, List.getD_eq_getElem?_getD, eu]; rfl]
  rw [elx, List.take_length] at hD2
  walk_at "st"
  refine wp_sumW (sq_of hD2) ?_
  exact k H2 s2
theorem len_sum_over (K : PySem.W.Frag) (vs : List V) (H : Hp) (Q : VK) (E : XK) (h : sp_sum_over K vs H Q E) : vs.length = 3 := by
  obtain ⟨_, _, _, _, _, _, _, rfl, _⟩ := h
  rfl
theorem c_sum_over {K : PySem.W.Frag} {w f b : Addr} {xs : List V} {ws : List (Int × Int)} {fs bs : List Int} {H : Hp} {Q : VK} {E : XK} (hw : H w = some (.lst xs)) (st : StI H xs ws) (few : ws.length ≤ 1000) (hf : H f = some (.lst (fs.map V.int))) (hb : H b = some (.lst (bs.map V.int))) (lb : bs.length = fs.length) (ok : Stp fs.length ws) (k : ∀ H', Same H H' → Q (.int (sov fs bs ws)) H') : sp_sum_over K [.ref w, .ref f, .ref b] H Q E := ⟨w, f, b, xs, ws, fs, bs, rfl, hw, st, few, hf, hb, lb, ok, k⟩
def sp_turn_of (K : PySem.W.Frag) : Sp := fun vs H Q _ => ∃ (w f : Addr) (xs : List V) (ws : List (Int × Int)) (fs : List Int), vs = [.ref w, .ref f] ∧ H w = some (.lst xs) ∧ StI H xs ws ∧ ws.length ≤ 1000 ∧ H f = some (.lst (fs.map V.int)) ∧ fs.length ≤ 1000 ∧ Stp fs.length ws ∧ ∀ H', Same H H' → Q (.int (sov fs (fs.map fun i => -i) ws)) H'
abbrev N_turn_of : List Str := ["walk", "minutes", "passing"]
theorem st_turn_of {a0 a1 : V} : L2.start N_turn_of [a0, a1] = [some a0, some a1, none] := rfl
def t_turn_of (K : PySem.W.Frag) : TS :=
  (tRet ((tCall (sp_sum_over K) [] E0 ((tCons (tVar 0) ((tCons (tVar 1) ((tCons ((tLc ((iList K (tVar 1))) ((gName 2)) (tYes) ((tUn (rU fun i => .int (-i)) (tVar 2))) [2])) (tNil))))))))))

theorem pure_turn_of (K : PySem.W.Frag) (vs : List V) (H : Hp) (Q : VK) (E : XK) (h : sp_turn_of K vs H Q E) : t_turn_of K { nx := fun _ H' => Q .non H', rt := Q } (L2.start N_turn_of vs) H := by
  obtain ⟨w, f, xs, ws, fs, rfl, hw, st, few, hf, lf, ok, k⟩ := h
  rw [st_turn_of]
  unfold t_turn_of
  walk_at "st"
  refine lcGL (sq_of hf) (by rw [List.length_map]; omega) (fun i => ((fs.take i).map fun i => -i).map V.int) rfl (fun i => by simp only [List.length_map, List.length_take]; omega) (fun i x H2 R R0 hi s2 k1 k0 => ?_) (fun D H2 hD s2 hD2 => ?_)
  · rw [List.getElem?_map] at hi
    obtain ⟨v, hv, rfl⟩ := Option.map_eq_some_iff.mp hi
    rw [show wipe ([some (.ref w), some (.ref f), none] : L2.St) [2] = [some (.ref w), some (.ref f), none] from rfl]
    walk_at "st"
    refine ⟨rfl, ?_⟩
    walk_at "st"
    exact k1 _ _ (Same.refl _) (by rw [take_snoc hv, List.map_append, List.map_append]; rfl)
  rw [List.length_map, List.take_length] at hD2
  walk_at "st"
  exact c_sum_over (s2 _ _ hw) (st.mono s2) few (s2 _ _ hf) hD2 (List.length_map ..) ok fun H3 s3 => k H3 (s2.trans s3)
theorem len_turn_of (K : PySem.W.Frag) (vs : List V) (H : Hp) (Q : VK) (E : XK) (h : sp_turn_of K vs H Q E) : vs.length = 2 := by
  obtain ⟨_, _, _, _, _, rfl, _⟩ := h
  rfl
theorem c_turn_of {K : PySem.W.Frag} {w f : Addr} {xs : List V} {ws : List (Int × Int)} {fs : List Int} {H : Hp} {Q : VK} {E : XK} (hw : H w = some (.lst xs)) (st : StI H xs ws) (few : ws.length ≤ 1000) (hf : H f = some (.lst (fs.map V.int))) (lf : fs.length ≤ 1000) (ok : Stp fs.length ws) (k : ∀ H', Same H H' → Q (.int (sov fs (fs.map fun i => -i) ws)) H') : sp_turn_of K [.ref w, .ref f] H Q E := ⟨w, f, xs, ws, fs, rfl, hw, st, few, hf, lf, ok, k⟩
/-- a net, a timetable, a walk -/
structure Tk (K : PySem.W.Frag) (H : Hp) (a b w : Addr) (T T' : Int) (ns ms : List (List Nat)) (ss : List V) (rs : List Row) (m : List Nat → Int) (xs : List V) (ws : List (Int × Int)) (o : Option Nat) : Prop where
  n : IsNet (C_Net K) H a T ns ss
  t : IsTimes (C_Times K) H b T' ms m
  r : Rws H ss rs
  u : ∀ r ∈ rs, r.u ∈ ns ∧ r.v ∈ ns
  h : rs.length ≤ 100
  t0 : 0 < T
  t1 : T < 1000
  hw : H w = some (.lst xs)
  st : StI H xs ws
  few : ws.length ≤ 1000
  fb : FB rs ws o
theorem Tk.mono {K : PySem.W.Frag} {H H' : Hp} (s : Same H H') {a b w : Addr} {T T' : Int} {ns ms : List (List Nat)} {ss : List V} {rs : List Row} {m : List Nat → Int} {xs : List V} {ws : List (Int × Int)} {o : Option Nat} (h : Tk K H a b w T T' ns ms ss rs m xs ws o) : Tk K H' a b w T T' ns ms ss rs m xs ws o :=
  ⟨h.n.mono s, h.t.mono s, h.r.mono s, h.u, h.h, h.t0, h.t1, s _ _ h.hw, h.st.mono s, h.few, h.fb⟩
def sp_turn (K : PySem.W.Frag) : Sp := fun vs H Q E => ∃ (a b w : Addr) (T T' : Int) (ns ms : List (List Nat)) (ss : List V) (rs : List Row) (m : List Nat → Int) (xs : List V) (ws : List (Int × Int)) (o : Option Nat), vs = [.ref a, .ref b, .ref w] ∧ Tk K H a b w T T' ns ms ss rs m xs ws o ∧
  (∀ er, cTurn T ns rs T' ms m o = some er → Rzd (He.ga K er.c) er.fs E H) ∧ (cTurn T ns rs T' ms m o = none → ∀ H', Same H H' → Q (.int (sov (gvs T m rs) ((gvs T m rs).map fun i => -i) ws)) H')
abbrev N_turn : List Str := ["net", "times", "walk", "minutes"]
theorem st_turn {a0 a1 a2 : V} : L2.start N_turn [a0, a1, a2] = [some a0, some a1, some a2, none] := rfl
def t_turn (K : PySem.W.Frag) (E : XK) : TS :=
  (tSeq ((tAsg ((tCall (sp_kept_minutes K) [] E ((tCons (tVar 0) ((tCons (tVar 1) (tNil))))))) (gName 3)))
    ((tSeq ((tDrop ((tCall (sp_ends K) [] E ((tCons (tVar 0) ((tCons (tVar 2) (tNil)))))))))
    ((tRet ((tCall (sp_turn_of K) [] E0 ((tCons (tVar 2) ((tCons (tVar 3) (tNil))))))))))))

theorem kept_all {T : Int} {ns : List (List Nat)} {rs : List Row} {T' : Int} {ms : List (List Nat)} {m : List Nat → Int} (h : cKept T ns rs T' ms m = none) : T' = T ∧ (∀ l ∈ ns, l ∈ ms) ∧ ∀ r ∈ rs, isK T m r = true := by
  unfold cKept at h
  split at h
  · cases h
  · rename_i hT
    obtain ⟨h1, h2⟩ := Option.or_eq_none_iff.mp h
    obtain ⟨_, h3⟩ := Option.or_eq_none_iff.mp h2
    exact ⟨Decidable.of_not_not hT, cIn_none h1, brk_all h3⟩
theorem pure_turn (K : PySem.W.Frag) (vs : List V) (H : Hp) (Q : VK) (E : XK) (h : sp_turn K vs H Q E) : t_turn K E { nx := fun _ H' => Q .non H', rt := Q } (L2.start N_turn vs) H := by
  obtain ⟨a, b, w, T, T', ns, ms, ss, rs, m, xs, ws, o, rfl, tk, kx, k⟩ := h
  rw [st_turn]
  unfold t_turn
  walk_at "st"
  refine ⟨a, b, T, T', ns, ms, ss, rs, m, rfl, tk.n, tk.t, tk.r, tk.u, tk.h, tk.t0, tk.t1, fun er e => kx er (by unfold cTurn; rw [e]; rfl), fun e0 D H2 hD s2 hD2 => ?_⟩
  have tk2 := tk.mono s2
  obtain ⟨_, _, al⟩ := kept_all e0
  rw [pas_gvs al] at hD2
  have ec : cTurn T ns rs T' ms m o = o.map eK := by unfold cTurn; rw [e0]; rfl
  walk_at "st"
  refine c_ends tk2.n tk2.r tk2.hw tk2.st tk2.few (fun i h1 h2 h3 => ?_) (fun hg => ?_)
  · have eo := tk.fb.at h1 h2 h3
    exact (kx (eK i) (by rw [ec, eo]; rfl)).mono s2
  · have eo := tk.fb.good hg
    have k := k (by rw [ec, eo]; rfl)
    have go : ∀ {H3 : Hp}, Same H H3 → H3 D = some (.lst ((gvs T m rs).map V.int)) → sp_turn_of K [.ref w, .ref D] H3 Q E0 := fun {H3} s3 hD3 => by
      have tk3 := tk.mono s3
      refine c_turn_of tk3.hw tk3.st tk3.few hD3 (by unfold gvs; rw [List.length_map]; have := tk.h; omega) ?_ fun H4 s4 => k H4 (s3.trans s4)
      unfold gvs
      rw [List.length_map]
      exact stp_good hg
    refine ⟨fun _ H3 s3 => ?_, fun p a b H3 s3 _ _ _ _ => ?_⟩
    · walk_at "st"
      exact go (s2.trans s3) (s3 _ _ hD2)
    · walk_at "st"
      exact go (s2.trans s3) (s3 _ _ hD2)
theorem len_turn (K : PySem.W.Frag) (vs : List V) (H : Hp) (Q : VK) (E : XK) (h : sp_turn K vs H Q E) : vs.length = 3 := by
  obtain ⟨_, _, _, _, _, _, _, _, _, _, _, _, _, rfl, _⟩ := h
  rfl
theorem c_turn {K : PySem.W.Frag} {a b w : Addr} {T T' : Int} {ns ms : List (List Nat)} {ss : List V} {rs : List Row} {m : List Nat → Int} {xs : List V} {ws : List (Int × Int)} {o : Option Nat} {H : Hp} {Q : VK} {E : XK} (tk : Tk K H a b w T T' ns ms ss rs m xs ws o)
    (kx : ∀ er, cTurn T ns rs T' ms m o = some er → Rzd (He.ga K er.c) er.fs E H) (k : cTurn T ns rs T' ms m o = none → ∀ H', Same H H' → Q (.int (sov (gvs T m rs) ((gvs T m rs).map fun i => -i) ws)) H') : sp_turn K [.ref a, .ref b, .ref w] H Q E := ⟨a, b, w, T, T', ns, ms, ss, rs, m, xs, ws, o, rfl, tk, kx, k⟩
def sp_Times_init (K : PySem.W.Frag) : Sp := fun vs H Q _ => ∃ (x dx : Addr) (T : Int) (d : Addr) (ns : List (List Nat)) (m : List Nat → Int), vs = [.ref x, .int T, .ref d] ∧ H x = some (.ins (C_Times K) dx []) ∧ H d = some (.dK (mD m ns)) ∧ OkTm T ns m ∧
  ∀ (c : Addr) H', H' x = some (.ins (C_Times K) dx (tmF T c)) → H' c = some (.dK (mD m ns)) → H c = none → (∀ a o, a ≠ x → H a = some o → H' a = some o) → Q .non H'
abbrev N_Times_init : List Str := ["self", "round_length", "minutes", "name", "minute"]
theorem st_Times_init {a0 a1 a2 : V} : L2.start N_Times_init [a0, a1, a2] = [some a0, some a1, some a2, none, none] := rfl
def t_Times_init (K : PySem.W.Frag) : TS :=
  (tSeq ((tDrop ((tCall (sp_check_round_length K) [] E0 ((tCons (tVar 1) (tNil)))))))
    ((tSeq ((tLock (tFor ((iItems (tVar 2))) (gTup K 2 (gCons (gName 3) (gCons (gName 4) gNil))) ((tSeq ((tDrop ((tCall (sp_check_name K) [] E0 ((tCons (tVar 3) (tNil)))))))
    ((tDrop ((tCall (sp_check_range K) [] E0 ((tCons (tVar 4) ((tCons (tC (.int 0)) ((tCons ((tOp (rI0 fun i j => .int (i - j)) (tVar 1) (tC (.int 1)))) (tNil))))))))))))))))
    ((tSeq ((sFldC (C_Times K) (tVar 0) (tVar 1) "_round_length"))
    ((sFldC (C_Times K) (tVar 0) ((tCB rDictOf ((tCons (tVar 2) (tNil))))) "_minutes")))))))

theorem pure_Times_init (K : PySem.W.Frag) (vs : List V) (H : Hp) (Q : VK) (E : XK) (h : sp_Times_init K vs H Q E) : t_Times_init K { nx := fun _ H' => Q .non H', rt := Q } (L2.start N_Times_init vs) H := by
  obtain ⟨x, dx, T, d, ns, m, rfl, hx, hd, ok, k⟩ := h
  rw [st_Times_init]
  unfold t_Times_init
  unfold mD at hd
  have ndx : d ≠ x := fun h => by rw [h, hx] at hd; cases hd
  walk_at "st"
  refine c_check_round_length ⟨ok.t0, ok.t1⟩ ?_
  walk_at "st"
  refine wp_lock hd fun od => ?_
  walk_at "st"
  refine loopItemsN upd_same (fun i σ' H' => ∃ a b, σ' = [some (.ref x), some (.int T), some (.ref d), a, b] ∧ Same (upd H d (.frz od (.dK (dN (fun l => .int (m l)) ns)))) H') ⟨_, _, rfl, Same.refl _⟩ ?_ ?_ ?_
  · rintro i σ' H' _ ⟨_, _, rfl, s⟩
    exact s _ _ upd_same
  · rintro i l q σ' H' hl ⟨a, b, rfl, s⟩ hq
    have hln := List.mem_of_getElem? hl
    walk_at "st"
    refine c_check_name (ok.nm l hln) fun H4 s4 => ?_
    walk_at "st"
    refine c_check_range ⟨ok.m0 l hln, ok.m1 l hln⟩ ?_
    walk_at "st"
    exact ⟨_, _, rfl, (s.trans (Same.new hq)).trans s4⟩
  · rintro σ' H1 ⟨_, _, rfl, s⟩
    refine ⟨s _ _ upd_same, ?_⟩
    have s2 := unl hd s
    generalize upd H1 d (.dK (dN (fun l => .int (m l)) ns)) = H2 at *
    walk_at "st"
    refine sfld_at (s2 _ _ hx) (by decide) pt_1 ?_
    walk_at "st"
    refine wp_dictOf (.inl (by rw [upd_ne ndx]; exact s2 _ _ hd)) fun c hc => ?_
    have ncx : c ≠ x := fun h => by rw [h, upd_same] at hc; cases hc
    rw [upd_ne ncx] at hc
    walk_at "st"
    refine sfld_at (by rw [upd_ne ncx.symm]; exact upd_same) (by simp) pt_m2 ?_
    refine k c _ upd_same (by rw [upd_ne ncx]; exact upd_same) (s2.free hc) fun a o ha h => ?_
    have h2 := s2 _ _ h
    rw [upd_ne ha, upd_ne (ne_of_none h2 hc), upd_ne ha]
    exact h2
theorem len_Times_init (K : PySem.W.Frag) (vs : List V) (H : Hp) (Q : VK) (E : XK) (h : sp_Times_init K vs H Q E) : vs.length = 3 := by
  obtain ⟨n, m, ms, a, b, c, rfl, _⟩ := h
  rfl
theorem c_TimesG {K : PySem.W.Frag} {G H : Hp} {T : Int} {d : Addr} {ns : List (List Nat)} {m : List Nat → Int} {Q : VK} {E : XK} (sub : Same G H) (hd : H d = some (.dK (mD m ns))) (ok : OkTm T ns m)
    (k : ∀ a G' H', Same G G' → Same G' H' → Same H H' → (∀ q o, H q = some o → G q = none → G' q = none) → IsTimes (C_Times K) G' a T ns m → Q (.ref a) H') : MkW (C_Times K) (sp_Times_init K) E Q [.int T, .ref d] H := by
  intro x dx hx hdx nd
  have s1 : Same H (upd (upd H dx (.own x)) x (.ins (C_Times K) dx [])) := (Same.new hdx).trans (Same.new (by rw [upd_ne nd.symm]; exact hx))
  refine ⟨x, dx, T, d, ns, m, rfl, upd_same, s1 _ _ hd, ok, fun c H' h1 h2 h4 h7 => ⟨rfl, ?_⟩⟩
  have ncx : c ≠ x := fun h => by rw [h, upd_same] at h4; cases h4
  have fl := s1.free h4
  have sH : Same H H' := fun a o h => h7 a o (ne_of_none h hx) (s1 _ _ h)
  have gx := sub.free hx
  have gl := sub.free fl
  have sG : Same G (upd (upd G x (.ins (C_Times K) dx (tmF T c))) c (.dK (mD m ns))) := (Same.new gx).trans (Same.new (by rw [upd_ne ncx]; exact gl))
  refine k x (upd (upd G x (.ins (C_Times K) dx (tmF T c))) c (.dK (mD m ns))) H' sG (fun a o ha => ?_) sH (fun q o hq hG => ?_) ⟨dx, c, by rw [upd_ne ncx.symm]; exact upd_same, upd_same⟩
  · by_cases e1 : a = c
    · subst e1; rw [upd_same] at ha; cases ha; exact h2
    · rw [upd_ne e1] at ha
      by_cases e3 : a = x
      · subst e3; rw [upd_same] at ha; cases ha; exact h1
      · rw [upd_ne e3] at ha
        exact sH _ _ (sub _ _ ha)
  · rw [upd_ne (ne_of_none hq fl), upd_ne (ne_of_none hq hx)]; exact hG
theorem c_Times {K : PySem.W.Frag} {P : Pl} {G H : Hp} {T : Int} {d : Addr} {ns : List (List Nat)} {m : List Nat → Int} {Q : VK} {E : XK} (hs : Sees P G H) (hd : H d = some (.dK (mD m ns))) (ok : OkTm T ns m)
    (k : ∀ a G' H', Same G G' → Same H H' → (∀ q o, H q = some o → G q = none → G' q = none) → IsTimes (C_Times K) G' a T ns m → Sees P G' H' → Q (.ref a) H') : MkW (C_Times K) (sp_Times_init K) E Q [.int T, .ref d] H :=
  c_TimesG hs.sub hd ok fun a G' H' s1 s2 s3 kp n => k a G' H' s1 s3 kp n (hs.grow s1 s2 s3 kp)
def sp_Times_minutes (K : PySem.W.Frag) : Sp := fun vs H Q _ => ∃ (a dx d : Addr) (T : Int) (kvs : List (Key × V)), vs = [.ref a] ∧ H a = some (.ins (C_Times K) dx (tmF T d)) ∧ Rd H d (.dK kvs) ∧ ∀ p, H p = none → Q (.ref p) (upd H p (.dK kvs))
abbrev N_Times_minutes : List Str := ["self"]
theorem st_Times_minutes {a0 : V} : L2.start N_Times_minutes [a0] = [some a0] := rfl
def t_Times_minutes (K : PySem.W.Frag) : TS :=
  (tRet ((tCB rDictOf ((tCons ((tFldC (C_Times K) (tVar 0) "_minutes")) (tNil))))))

theorem pure_Times_minutes (K : PySem.W.Frag) (vs : List V) (H : Hp) (Q : VK) (E : XK) (h : sp_Times_minutes K vs H Q E) : t_Times_minutes K { nx := fun _ H' => Q .non H', rt := Q } (L2.start N_Times_minutes vs) H := by
  obtain ⟨a, dx, d, T, kvs, rfl, h1, h2, k⟩ := h
  rw [st_Times_minutes]
  unfold t_Times_minutes
  walk_at "st"
  exact wp_dictOf h2 k
theorem len_Times_minutes (K : PySem.W.Frag) (vs : List V) (H : Hp) (Q : VK) (E : XK) (h : sp_Times_minutes K vs H Q E) : vs.length = 1 := by
  obtain ⟨n, m, ms, a, b, rfl, _⟩ := h
  rfl
theorem c_Times_minutes {K : PySem.W.Frag} {a : Addr} {T : Int} {ns : List (List Nat)} {m : List Nat → Int} {H : Hp} {Q : VK} {E : XK} (h : IsTimes (C_Times K) H a T ns m) (k : ∀ p, H p = none → Q (.ref p) (upd H p (.dK (mD m ns)))) : ∃ a' dx fs, V.ref a = .ref a' ∧ H a' = some (.ins (C_Times K) dx fs) ∧ sp_Times_minutes K [.ref a'] H Q E := by
  obtain ⟨dx, d, h1, h2⟩ := h
  exact ⟨a, dx, _, rfl, h1, a, dx, d, T, _, rfl, h1, .inl h2, k⟩
def sp_l_is_int (K : PySem.W.Frag) : Sp := fun vs H Q _ => ∃ (i : Int), vs = [.int i] ∧ Q (.bl true) H
abbrev N_l_is_int : List Str := ["_law_thing"]
theorem st_l_is_int {a0 : V} : L2.start N_l_is_int [a0] = [some a0] := rfl
def t_l_is_int (K : PySem.W.Frag) : TS :=
  (tRet ((tAndV ((tCB (rIsi K) ((tCons (tVar 0) ((tCons (tC (.ty "int")) (tNil))))))) ((tNotV ((tCB (rIsi K) ((tCons (tVar 0) ((tCons (tC (.ty "bool")) (tNil))))))))))))

theorem pure_l_is_int (K : PySem.W.Frag) (vs : List V) (H : Hp) (Q : VK) (E : XK) (h : sp_l_is_int K vs H Q E) : t_l_is_int K { nx := fun _ H' => Q .non H', rt := Q } (L2.start N_l_is_int vs) H := by
  obtain ⟨i, rfl, k⟩ := h
  rw [st_l_is_int]
  unfold t_l_is_int
  walk_at "st"
  exact k
theorem len_l_is_int (K : PySem.W.Frag) (vs : List V) (H : Hp) (Q : VK) (E : XK) (h : sp_l_is_int K vs H Q E) : vs.length = 1 := by
  obtain ⟨P, rfl, _⟩ := h
  rfl
theorem c_l_is_int {K : PySem.W.Frag} {i : Int} {H : Hp} {Q : VK} {E : XK} (k : Q (.bl true) H) : sp_l_is_int K [.int i] H Q E := ⟨i, rfl, k⟩
def sp_l_same (K : PySem.W.Frag) (n : Nat) : Sp := fun vs H Q _ => ∃ (u v : V), vs = [u, v] ∧ (Sm H n u v ∨ SmD H n u v) ∧ ∀ H', Same H H' → Q (.bl true) H'
theorem sp0_l_same (K : PySem.W.Frag) {vs : List V} {H : Hp} {Q : VK} {E : XK} (h : sp_l_same K 0 vs H Q E) : False := by
  obtain ⟨u, v, _, h, _⟩ := h
  rcases h with h | ⟨_, _, _, _, j, h, _⟩
  · exact h
  · omega
theorem c_l_same {K : PySem.W.Frag} {n : Nat} {u v : V} {H : Hp} {Q : VK} {E : XK} (h : Sm H n u v) (k : ∀ H', Same H H' → Q (.bl true) H') : sp_l_same K n [u, v] H Q E := ⟨u, v, rfl, .inl h, k⟩
theorem c_l_sameD {K : PySem.W.Frag} {n : Nat} {u v : V} {H : Hp} {Q : VK} {E : XK} (h : SmD H n u v) (k : ∀ H', Same H H' → Q (.bl true) H') : sp_l_same K n [u, v] H Q E := ⟨u, v, rfl, .inr h, k⟩
abbrev N_l_same : List Str := ["_law_actual", "_law_due", "_law_key", "_law_k"]
theorem st_l_same {a0 a1 : V} : L2.start N_l_same [a0, a1] = [some a0, some a1, none, none] := rfl
def t_l_same (K : PySem.W.Frag) (n : Nat) : TS :=
  (tSeq ((tIfS ((tTest (tOp rIsN (tVar 1) (tC .non)))) ((tRet ((tOp rIsN (tVar 0) (tC .non))))) (tNext)))
    ((tSeq ((tIfS ((tB ((tCB (rIsi K) ((tCons (tVar 1) ((tCons (tC (.ty "bool")) (tNil))))))))) ((tRet ((tAndV ((tCB (rIsi K) ((tCons (tVar 0) ((tCons (tC (.ty "bool")) (tNil))))))) ((tOp rEq (tVar 0) (tVar 1))))))) (tNext)))
    ((tSeq ((tIfS ((tB ((tCB (rIsi K) ((tCons (tVar 1) ((tCons (tC (.ty "int")) (tNil))))))))) ((tRet ((tAndV ((tCall (sp_l_is_int K) [] E0 ((tCons (tVar 0) (tNil))))) ((tOp rEq (tVar 0) (tVar 1))))))) (tNext)))
    ((tSeq ((tIfS ((tB ((tCB (rIsi K) ((tCons (tVar 1) ((tCons (tC (.ty "str")) (tNil))))))))) ((tRet ((tAndV ((tCB (rIsi K) ((tCons (tVar 0) ((tCons (tC (.ty "str")) (tNil))))))) ((tOp rEq (tVar 0) (tVar 1))))))) (tNext)))
    ((tSeq ((tIfS ((tB ((tCB (rIsi K) ((tCons (tVar 1) ((tCons (tC (.ty "dict")) (tNil))))))))) ((tSeq ((tIfS ((tOr ((tNot ((tB ((tCB (rIsi K) ((tCons (tVar 0) ((tCons (tC (.ty "dict")) (tNil))))))))))) ((tTest (tOp (rNeD K) ((tCB rListD ((tCons (tVar 0) (tNil))))) ((tCB rListD ((tCons (tVar 1) (tNil)))))))))) ((tRet (tC (.bl false)))) (tNext)))
    ((tSeq ((tLock (tFor ((iKeys (tVar 1))) (gName 2) ((tIfS ((tNot ((tB ((tCall (sp_l_same K n) [] E0 ((tCons ((tDGet (tVar 0) (tVar 2))) ((tCons ((tDGet (tVar 1) (tVar 2))) (tNil))))))))))) ((tRet (tC (.bl false)))) (tNext))))))
    ((tRet (tC (.bl true)))))))) (tNext)))
    ((tSeq ((tIfS ((tAnd ((tB ((tCB (rIsi K) ((tCons (tVar 1) ((tCons (tC (.ty "list")) (tNil))))))))) ((tNot ((tB ((tCB (rIsi K) ((tCons (tVar 0) ((tCons (tC (.ty "list")) (tNil))))))))))))) ((tRet (tC (.bl false)))) (tNext)))
    ((tSeq ((tIfS ((tAnd ((tB ((tCB (rIsi K) ((tCons (tVar 1) ((tCons (tC (.ty "tuple")) (tNil))))))))) ((tNot ((tB ((tCB (rIsi K) ((tCons (tVar 0) ((tCons (tC (.ty "tuple")) (tNil))))))))))))) ((tRet (tC (.bl false)))) (tNext)))
    ((tSeq ((tIfS ((tTest (tOp rNe ((tCB (rLenS K) ((tCons (tVar 0) (tNil))))) ((tCB (rLenS K) ((tCons (tVar 1) (tNil)))))))) ((tRet (tC (.bl false)))) (tNext)))
    ((tSeq ((tFor ((iRng1 ((tCons ((tCB (rLenS K) ((tCons (tVar 1) (tNil))))) (tNil))))) (gName 3) ((tIfS ((tNot ((tB ((tCall (sp_l_same K n) [] E0 ((tCons ((tOp (rIx K) (tVar 0) (tVar 3))) ((tCons ((tOp (rIx K) (tVar 1) (tVar 3))) (tNil))))))))))) ((tRet (tC (.bl false)))) (tNext)))))
    ((tRet (tC (.bl true)))))))))))))))))))))

theorem pure_l_same (K : PySem.W.Frag) (n : Nat) (vs : List V) (H : Hp) (Q : VK) (E : XK) (h : sp_l_same K (n + 1) vs H Q E) : t_l_same K n { nx := fun _ H' => Q .non H', rt := Q } (L2.start N_l_same vs) H := by
  obtain ⟨u, v, rfl, h, k⟩ := h
  rw [st_l_same]
  unfold t_l_same
  rcases h with (⟨rfl, h⟩ | ⟨a, b, xs, ys, rfl, rfl, h, hl, hk, hr⟩) | ⟨a, b, f, ns, j, ej, rfl, rfl, nab, ha, hb, few, hA, hS⟩
  · rcases h with rfl | ⟨c, rfl⟩ | ⟨i, rfl⟩ | ⟨z, rfl⟩
    · walk_at "st"
      rw [decide_eq_true rfl]
      walk_at "st"
      exact k _ (Same.refl _)
    · walk_at "st"
      rw [decide_eq_false (by simp)]
      walk_at "st"
      rw [decide_eq_true rfl]
      exact k _ (Same.refl _)
    · walk_at "st"
      rw [decide_eq_false (by simp)]
      walk_at "st"
      refine c_l_is_int ?_
      walk_at "st"
      rw [decide_eq_true rfl]
      exact k _ (Same.refl _)
    · walk_at "st"
      rw [decide_eq_false (by simp)]
      walk_at "st"
      rw [decide_eq_true rfl]
      exact k _ (Same.refl _)
  · rcases h with ⟨ha, hb⟩ | ⟨ha, hb⟩
    · walk_at "st"
      rw [decide_eq_false (by simp)]
      walk_at "st"
      refine loop1 (by omega) (fun i σ' H' => ∃ x y, σ' = [some (.ref a), some (.ref b), x, y] ∧ Same H H') ⟨_, _, rfl, Same.refl _⟩ ?_ ?_
      · rintro i σ' H' hi ⟨x, y, rfl, s2⟩
        have hyi : i < ys.length := by omega
        have hxi : i < xs.length := by omega
        walk_at "st"
        refine wp_rixL (sq_of (s2 _ _ ha)) (at_nth (List.getElem?_eq_getElem hxi)) ?_
        walk_at "st"
        refine wp_rixL (sq_of (s2 _ _ hb)) (at_nth (List.getElem?_eq_getElem hyi)) ?_
        walk_at "st"
        refine c_l_same ((hr i _ _ (List.getElem?_eq_getElem hxi) (List.getElem?_eq_getElem hyi)).mono s2) fun H3 s3 => ?_
        walk_at "st"
        exact ⟨_, _, rfl, s2.trans s3⟩
      · rintro σ' H' ⟨x, y, rfl, s2⟩
        walk_at "st"
        exact k _ s2
    · walk_at "st"
      rw [decide_eq_false (by simp)]
      walk_at "st"
      refine loop1 (by omega) (fun i σ' H' => ∃ x y, σ' = [some (.ref a), some (.ref b), x, y] ∧ Same H H') ⟨_, _, rfl, Same.refl _⟩ ?_ ?_
      · rintro i σ' H' hi ⟨x, y, rfl, s2⟩
        have hyi : i < ys.length := by omega
        have hxi : i < xs.length := by omega
        walk_at "st"
        refine wp_rixT (st_of (s2 _ _ ha)) (at_nth (List.getElem?_eq_getElem hxi)) ?_
        walk_at "st"
        refine wp_rixT (st_of (s2 _ _ hb)) (at_nth (List.getElem?_eq_getElem hyi)) ?_
        walk_at "st"
        refine c_l_same ((hr i _ _ (List.getElem?_eq_getElem hxi) (List.getElem?_eq_getElem hyi)).mono s2) fun H3 s3 => ?_
        walk_at "st"
        exact ⟨_, _, rfl, s2.trans s3⟩
      · rintro σ' H' ⟨x, y, rfl, s2⟩
        walk_at "st"
        exact k _ s2
  · walk_at "st"
    rw [decide_eq_false (by simp)]
    walk_at "st"
    refine wp_listD ha fun q1 hq1 => ?_
    have s1 := Same.new (o := .lst ((dN f ns).map fun kv => kV kv.1)) hq1
    have hb1 := s1 _ _ hb
    walk_at "st"
    refine wp_listD hb1 fun q2 hq2 => ?_
    have s2 := Same.new (o := .lst ((dN f ns).map fun kv => kV kv.1)) hq2
    have em : ((dN f ns).map fun kv => kV kv.1) = ns.map sv := by
      unfold dN
      rw [List.map_map]
      rfl
    rw [em] at s1 s2 ⊢
    refine wp_neN (s2 _ _ upd_same) upd_same hA hA ?_
    rw [decide_eq_true rfl]
    have s12 := s1.trans s2
    revert s12
    generalize upd (upd H q1 (.lst (ns.map sv))) q2 (.lst (ns.map sv)) = H2
    intro s12
    have ha2 := s12 _ _ ha
    have hb2 := s12 _ _ hb
    walk_at "st"
    refine wp_lock hb2 fun od => ?_
    walk_at "st"
    refine loopKeysN upd_same (fun i σ' H' => ∃ x y, σ' = [some (.ref a), some (.ref b), x, y] ∧ Same (upd H2 b (.frz od (.dK (dN f ns)))) H') ⟨_, _, rfl, Same.refl _⟩ ?_ ?_ ?_
    · rintro i σ' H' _ ⟨x, y, rfl, s3⟩
      exact s3 _ _ upd_same
    · rintro i l σ' H' hl ⟨x, y, rfl, s3⟩
      have hln := List.mem_of_getElem? hl
      have ha3 := s3 _ _ ((upd_ne nab).trans ha2)
      walk_at "st"
      refine dget_s (.inl ha3) (dN_val hln) ?_
      walk_at "st"
      refine dget_s (.inr ⟨od, s3 _ _ upd_same⟩) (dN_val hln) ?_
      walk_at "st"
      have ej' : n = j + 1 := by omega
      subst ej'
      refine c_l_same (show Sm _ (j + 1) _ _ from .inl ⟨rfl, hS l hln⟩) fun H4 s4 => ?_
      walk_at "st"
      exact ⟨_, _, rfl, s3.trans s4⟩
    · rintro σ' H' ⟨x, y, rfl, s3⟩
      refine ⟨s3 _ _ upd_same, ?_⟩
      walk_at "st"
      exact k _ (s12.trans (unl hb2 s3))
theorem len_l_same (K : PySem.W.Frag) (n : Nat) (vs : List V) (H : Hp) (Q : VK) (E : XK) (h : sp_l_same K n vs H Q E) : vs.length = 2 := by
  obtain ⟨u, v, rfl, _⟩ := h
  rfl
def sp_l_gone (K : PySem.W.Frag) : Sp := fun vs H Q _ => ∃ (T : Int) (p d : Addr) (r : Row) (ms : List (List Nat)) (m : List Nat → Int), vs = [.int T, .ref p, .ref d] ∧ 0 < T ∧ H p = some (.tup (rowV r)) ∧ Rd H d (.dK (mD m ms)) ∧ r.u ∈ ms ∧ r.v ∈ ms ∧ Q (pas T m r) H
abbrev N_l_gone : List Str := ["_law_length_here", "_law_span_here", "_law_minutes", "_law_gone_here"]
theorem st_l_gone {a0 a1 a2 : V} : L2.start N_l_gone [a0, a1, a2] = [some a0, some a1, some a2, none] := rfl
def t_l_gone (K : PySem.W.Frag) : TS :=
  (tSeq ((tAsg ((tOp (rI0 fun i j => .int (i + j)) ((tOp (rIxT K) (tVar 1) (tC (.int 2)))) ((tOp (rI (fun _ j => 0 < j) fun i j => .int (i % j)) ((tCB rInt1 ((tCons ((tOp (rI0 fun i j => .int (i - j)) ((tOp (rI0 fun i j => .int (i - j)) ((tDGet (tVar 2) ((tOp (rIxT K) (tVar 1) (tC (.int 1)))))) ((tDGet (tVar 2) ((tOp (rIxT K) (tVar 1) (tC (.int 0)))))))) ((tOp (rIxT K) (tVar 1) (tC (.int 2)))))) (tNil))))) (tVar 0))))) (gName 3)))
    ((tSeq ((tIfS ((tTest (tOp (rI0 fun i j => .bl (decide (j < i))) (tVar 3) ((tOp (rIxT K) (tVar 1) (tC (.int 3))))))) ((tRet (tC .non))) (tNext)))
    ((tRet (tVar 3))))))

theorem pure_l_gone (K : PySem.W.Frag) (vs : List V) (H : Hp) (Q : VK) (E : XK) (h : sp_l_gone K vs H Q E) : t_l_gone K { nx := fun _ H' => Q .non H', rt := Q } (L2.start N_l_gone vs) H := by
  obtain ⟨T, p, d, r, ms, m, rfl, hT, hp, hd, hu, hv, k⟩ := h
  rw [st_l_gone]
  unfold t_l_gone
  unfold rowV at hp
  unfold mD at hd
  walk_at "st"
  refine dget_s hd (dN_val hv) ?_
  walk_at "st"
  refine dget_s hd (dN_val hu) ?_
  walk_at "st"
  unfold pas at k
  refine ite_dec (fun h => ?_) (fun h => ?_)
  · walk_at "st"
    rw [if_neg (by omega)] at k
    exact k
  · walk_at "st"
    rw [if_pos (by omega)] at k
    exact k
theorem len_l_gone (K : PySem.W.Frag) (vs : List V) (H : Hp) (Q : VK) (E : XK) (h : sp_l_gone K vs H Q E) : vs.length = 3 := by
  obtain ⟨_, _, _, _, _, _, rfl, _⟩ := h
  rfl
theorem c_l_gone {K : PySem.W.Frag} {T : Int} {p d : Addr} {r : Row} {ms : List (List Nat)} {m : List Nat → Int} {H : Hp} {Q : VK} {E : XK} (hT : 0 < T) (hp : H p = some (.tup (rowV r))) (hd : Rd H d (.dK (mD m ms))) (hu : r.u ∈ ms) (hv : r.v ∈ ms) (k : Q (pas T m r) H) : sp_l_gone K [.int T, .ref p, .ref d] H Q E := ⟨T, p, d, r, ms, m, rfl, hT, hp, hd, hu, hv, k⟩
def sp_l_all_gone (K : PySem.W.Frag) : Sp := fun vs H Q _ => ∃ (T : Int) (p d : Addr) (ss : List V) (rs : List Row) (ms : List (List Nat)) (m : List Nat → Int), vs = [.int T, .ref p, .ref d] ∧ 0 < T ∧ H p = some (.lst ss) ∧ Rws H ss rs ∧ ss.length ≤ 1000 ∧ H d = some (.dK (mD m ms)) ∧ (∀ r ∈ rs, r.u ∈ ms ∧ r.v ∈ ms) ∧ ∀ D H', H D = none → Same H H' → H' D = some (.lst (rs.map (pas T m))) → Q (.ref D) H'
abbrev N_l_all_gone : List Str := ["_law_length_here", "_law_spans", "_law_minutes", "_law_span_here"]
theorem st_l_all_gone {a0 a1 a2 : V} : L2.start N_l_all_gone [a0, a1, a2] = [some a0, some a1, some a2, none] := rfl
def t_l_all_gone (K : PySem.W.Frag) : TS :=
  (tRet ((tLc ((iList K (tVar 1))) ((gName 3)) (tYes) ((tCall (sp_l_gone K) [] E0 ((tCons (tVar 0) ((tCons (tVar 3) ((tCons (tVar 2) (tNil))))))))) [3])))

theorem pure_l_all_gone (K : PySem.W.Frag) (vs : List V) (H : Hp) (Q : VK) (E : XK) (h : sp_l_all_gone K vs H Q E) : t_l_all_gone K { nx := fun _ H' => Q .non H', rt := Q } (L2.start N_l_all_gone vs) H := by
  obtain ⟨T, p, d, ss, rs, ms, m, rfl, hT, hp, rws, few, hd, inn, k⟩ := h
  have elr := rws.len
  rw [st_l_all_gone]
  unfold t_l_all_gone
  walk_at "st"
  refine lcGL (sq_of hp) (by omega) (fun i => (rs.take i).map (pas T m)) rfl (fun i => by simp only [List.length_map, List.length_take]; omega) (fun i x H2 R R0 hi s2 k1 k0 => ?_) (fun D H2 hD s2 hD2 => ?_)
  · obtain ⟨r, er, a, rfl, ha⟩ := (rws.mono s2).at hi
    obtain ⟨ru, rv⟩ := inn r (List.mem_of_getElem? er)
    rw [show wipe ([some (.int T), some (.ref p), some (.ref d), none] : L2.St) [3] = [some (.int T), some (.ref p), some (.ref d), none] from rfl]
    walk_at "st"
    refine ⟨rfl, ?_⟩
    walk_at "st"
    refine c_l_gone hT ha (.inl (s2 _ _ hd)) ru rv ?_
    exact k1 _ _ (Same.refl _) (by rw [take_snoc er, List.map_append]; rfl)
  rw [elr, List.take_length] at hD2
  walk_at "st"
  exact k D H2 hD s2 hD2
theorem len_l_all_gone (K : PySem.W.Frag) (vs : List V) (H : Hp) (Q : VK) (E : XK) (h : sp_l_all_gone K vs H Q E) : vs.length = 3 := by
  obtain ⟨_, _, _, _, _, _, _, rfl, _⟩ := h
  rfl
theorem c_l_all_gone {K : PySem.W.Frag} {T : Int} {p d : Addr} {ss : List V} {rs : List Row} {ms : List (List Nat)} {m : List Nat → Int} {H : Hp} {Q : VK} {E : XK} (hT : 0 < T) (hp : H p = some (.lst ss)) (rws : Rws H ss rs) (few : ss.length ≤ 1000) (hd : H d = some (.dK (mD m ms))) (inn : ∀ r ∈ rs, r.u ∈ ms ∧ r.v ∈ ms) (k : ∀ D H', H D = none → Same H H' → H' D = some (.lst (rs.map (pas T m))) → Q (.ref D) H') : sp_l_all_gone K [.int T, .ref p, .ref d] H Q E := ⟨T, p, d, ss, rs, ms, m, rfl, hT, hp, rws, few, hd, inn, k⟩
def sp_l_turn (K : PySem.W.Frag) : Sp := fun vs H Q _ => ∃ (g w : Addr) (gs : List Int) (xs : List V) (ws : List (Int × Int)), vs = [.ref g, .ref w] ∧ H g = some (.lst (gs.map V.int)) ∧ H w = some (.lst xs) ∧ StI H xs ws ∧ ws.length ≤ 1000 ∧ Stp gs.length ws ∧ Q (.int (sov gs (gs.map fun i => -i) ws)) H
abbrev N_l_turn : List Str := ["_law_gone_here", "_law_walk_here", "_law_total", "_law_step"]
theorem st_l_turn {a0 a1 : V} : L2.start N_l_turn [a0, a1] = [some a0, some a1, none, none] := rfl
def t_l_turn (K : PySem.W.Frag) : TS :=
  (tSeq ((tAsg (tC (.int 0)) (gName 2)))
    ((tSeq ((tFor ((iList K (tVar 1))) (gName 3) ((tAsg ((tOp (rI0 fun i j => .int (i + j)) (tVar 2) ((tOp (rI CMul fun i j => .int (i * j)) ((tOp (rIxT K) (tVar 3) (tC (.int 1)))) ((tOp (rIxL K) (tVar 0) ((tOp (rIxT K) (tVar 3) (tC (.int 0)))))))))) (gName 2)))))
    ((tRet (tVar 2))))))

theorem pure_l_turn (K : PySem.W.Frag) (vs : List V) (H : Hp) (Q : VK) (E : XK) (h : sp_l_turn K vs H Q E) : t_l_turn K { nx := fun _ H' => Q .non H', rt := Q } (L2.start N_l_turn vs) H := by
  obtain ⟨g, w, gs, xs, ws, rfl, hg, hw, st, few, ok, k⟩ := h
  have elx := st.len
  rw [st_l_turn]
  unfold t_l_turn
  walk_at "st"
  refine loopL (sq_of hw) (fun i σ' H' => ∃ x, σ' = [some (.ref g), some (.ref w), some (.int (sov gs (gs.map fun i => -i) (ws.take i))), x] ∧ H' = H) ⟨_, rfl, rfl⟩ ?_ ?_ ?_
  · rintro i σ' H' _ ⟨x, rfl, rfl⟩
    exact sq_of hw
  · rintro i v σ' H' hv ⟨x, rfl, rfl⟩
    obtain ⟨y, s, rfl, he, _, hy⟩ := st.at_ hv
    obtain ⟨n, d⟩ := s
    obtain ⟨o1, o2, o3⟩ := ok _ (List.mem_of_getElem? he)
    obtain ⟨j, rfl⟩ : ∃ j : Nat, n = j := ⟨n.toNat, by have : 0 ≤ n := o1; omega⟩
    have hj : j < gs.length := by have : (j : Int) < gs.length := o2; omega
    obtain ⟨u, eu⟩ : ∃ u, gs[j]? = some u := ⟨_, List.getElem?_eq_getElem hj⟩
    have hy : H' y = some (.tup [.int (j : Int), .int d]) := hy
    have e1 : sov gs (gs.map fun i => -i) (ws.take (i + 1)) = sov gs (gs.map fun i => -i) (ws.take i) + stv gs (gs.map fun i => -i) ((j : Int), d) := by
      rw [take_snoc he, sov_snoc]
    rcases o3 with o3 | o3
    · obtain rfl : d = 1 := o3
      walk_at "st"
      refine wp_ixL (sq_of hg) (at_nth (by rw [List.getElem?_map, eu]; rfl)) ?_
      walk_at "st"
      refine ⟨some (.ref y), ?_, rfl⟩
      rw [e1, show stv gs (gs.map fun i => -i) ((j : Int), 1) = 1 * u from by unfold stv; rw [if_pos rfl, Int.toNat_natCast, List.getD_eq_getElem?_getD, eu, Int.one_mul]; rfl]
    · obtain rfl : d = -1 := o3
      walk_at "st"
      refine wp_ixL (sq_of hg) (at_nth (by rw [List.getElem?_map, eu]; rfl)) ?_
      walk_at "st"
      refine ⟨some (.ref y), ?_, rfl⟩
      rw [e1, show stv gs (gs.map fun i => -i) ((j : Int), -1) = -1 * u from by unfold stv; rw [if_neg (show ¬ (-1 : Int) = 1 by decide), Int.toNat_natCast, List.getD_eq_getElem?_getD, List.getElem?_map, eu, Int.neg_one_mul]; rfl]
  · rintro σ' H' ⟨x, rfl, rfl⟩
    rw [elx, List.take_length]
    walk_at "st"
    exact k
theorem len_l_turn (K : PySem.W.Frag) (vs : List V) (H : Hp) (Q : VK) (E : XK) (h : sp_l_turn K vs H Q E) : vs.length = 2 := by
  obtain ⟨_, _, _, _, _, rfl, _⟩ := h
  rfl
theorem c_l_turn {K : PySem.W.Frag} {g w : Addr} {gs : List Int} {xs : List V} {ws : List (Int × Int)} {H : Hp} {Q : VK} {E : XK} (hg : H g = some (.lst (gs.map V.int))) (hw : H w = some (.lst xs)) (st : StI H xs ws) (few : ws.length ≤ 1000) (ok : Stp gs.length ws) (k : Q (.int (sov gs (gs.map fun i => -i) ws)) H) : sp_l_turn K [.ref g, .ref w] H Q E := ⟨g, w, gs, xs, ws, rfl, hg, hw, st, few, ok, k⟩
def sp_l_sides (K : PySem.W.Frag) : Sp := fun vs H Q _ => ∃ (s p : Addr) (ss : List V) (rs : List Row) (st : Int × Int), vs = [.ref s, .ref p] ∧ H s = some (.lst ss) ∧ Rws H ss rs ∧ H p = some (.tup [.int st.1, .int st.2]) ∧ ∀ q H', Same H H' → H q = none → H' q = some (.lst (sdV (sd rs st))) → Q (.ref q) H'
abbrev N_l_sides : List Str := ["_law_spans", "_law_step", "_law_span_here"]
theorem st_l_sides {a0 a1 : V} : L2.start N_l_sides [a0, a1] = [some a0, some a1, none] := rfl
def t_l_sides (K : PySem.W.Frag) : TS :=
  (tSeq ((tIfS ((tOr ((tTest (tOp (rI0 fun i j => .bl (decide (i < j))) ((tOp (rIxT K) (tVar 1) (tC (.int 0)))) (tC (.int 0))))) ((tTest (tOp (rI0 fun i j => .bl (decide (j ≤ i))) ((tOp (rIxT K) (tVar 1) (tC (.int 0)))) ((tCB (rLenS K) ((tCons (tVar 0) (tNil)))))))))) ((tRet ((tLst (tNil))))) (tNext)))
    ((tSeq ((tAsg ((tOp (rIxL K) (tVar 0) ((tOp (rIxT K) (tVar 1) (tC (.int 0)))))) (gName 2)))
    ((tSeq ((tIfS ((tTest (tOp rEq ((tOp (rIxT K) (tVar 1) (tC (.int 1)))) (tC (.int 1))))) ((tRet ((tLst ((tCons ((tOp (rIxT K) (tVar 2) (tC (.int 0)))) ((tCons ((tOp (rIxT K) (tVar 2) (tC (.int 1)))) (tNil))))))))) (tNext)))
    ((tSeq ((tIfS ((tTest (tOp rEq ((tOp (rIxT K) (tVar 1) (tC (.int 1)))) ((tUn (rU fun i => .int (-i)) (tC (.int 1))))))) ((tRet ((tLst ((tCons ((tOp (rIxT K) (tVar 2) (tC (.int 1)))) ((tCons ((tOp (rIxT K) (tVar 2) (tC (.int 0)))) (tNil))))))))) (tNext)))
    ((tRet ((tLst (tNil))))))))))))

theorem pure_l_sides (K : PySem.W.Frag) (vs : List V) (H : Hp) (Q : VK) (E : XK) (h : sp_l_sides K vs H Q E) : t_l_sides K { nx := fun _ H' => Q .non H', rt := Q } (L2.start N_l_sides vs) H := by
  obtain ⟨s, p, ss, rs, st, rfl, hs, rws, hp, k⟩ := h
  have elr := rws.len
  rw [st_l_sides]
  unfold t_l_sides
  have nil : sd rs st = none → ∀ q, H q = none → Q (.ref q) (upd H q (.lst [])) := fun e q hq => k q _ (Same.new hq) hq (by rw [upd_same, e]; rfl)
  walk_at "st"
  refine ite_dec (fun h => ?_) (fun h => ?_)
  · walk_at "st"
    exact ⟨Nat.zero_le _, nil (sd_out (.inl h))⟩
  · walk_at "st"
    refine ite_dec (fun h2 => ?_) (fun h2 => ?_)
    · walk_at "st"
      exact ⟨Nat.zero_le _, nil (sd_out (.inr (by omega)))⟩
    · obtain ⟨st1, st2⟩ := st
      obtain ⟨i, rfl⟩ : ∃ i : Nat, st1 = i := ⟨st1.toNat, by have : ¬ st1 < 0 := h; omega⟩
      have hi : i < rs.length := by have : ¬ (ss.length : Int) ≤ (i : Int) := h2; omega
      obtain ⟨r, er⟩ : ∃ r, rs[i]? = some r := ⟨_, List.getElem?_eq_getElem hi⟩
      obtain ⟨a, ea, ha⟩ := row_at rws er
      have hp : H p = some (.tup [.int (i : Nat), .int st2]) := hp
      walk_at "st"
      refine wp_ixL (sq_of hs) (at_nth ea) ?_
      walk_at "st"
      refine ite_dec (fun h3 => ?_) (fun h3 => ?_)
      · have h3 : st2 = 1 := h3
        subst h3
        walk_at "st"
        exact ⟨by simp [sizeLine_eq], fun q hq => k q _ (Same.new hq) hq (by rw [upd_same, sd_fwd er]; rfl)⟩
      · walk_at "st"
        refine ite_dec (fun h4 => ?_) (fun h4 => ?_)
        · have h4 : st2 = -1 := h4
          subst h4
          walk_at "st"
          exact ⟨by simp [sizeLine_eq], fun q hq => k q _ (Same.new hq) hq (by rw [upd_same, sd_bwd er]; rfl)⟩
        · walk_at "st"
          exact ⟨Nat.zero_le _, nil (sd_dir h3 h4)⟩
theorem len_l_sides (K : PySem.W.Frag) (vs : List V) (H : Hp) (Q : VK) (E : XK) (h : sp_l_sides K vs H Q E) : vs.length = 2 := by
  obtain ⟨_, _, _, _, _, rfl, _⟩ := h
  rfl
theorem c_l_sides {K : PySem.W.Frag} {s p : Addr} {ss : List V} {rs : List Row} {st : Int × Int} {H : Hp} {Q : VK} {E : XK} (hs : H s = some (.lst ss)) (rws : Rws H ss rs) (hp : H p = some (.tup [.int st.1, .int st.2])) (k : ∀ q H', Same H H' → H q = none → H' q = some (.lst (sdV (sd rs st))) → Q (.ref q) H') : sp_l_sides K [.ref s, .ref p] H Q E := ⟨s, p, ss, rs, st, rfl, hs, rws, hp, k⟩
def sp_l_fault (K : PySem.W.Frag) : Sp := fun vs H Q _ => ∃ (s w : Addr) (ss xs : List V) (rs : List Row) (ws : List (Int × Int)), vs = [.ref s, .ref w] ∧ H s = some (.lst ss) ∧ Rws H ss rs ∧ H w = some (.lst xs) ∧ StI H xs ws ∧ ws.length ≤ 1000 ∧ (∀ r ∈ rs, AscR r) ∧
  (∀ i H', Same H H' → i < ws.length → bad rs ws i = true → (∀ j < i, bad rs ws j = false) → Q (.int (i : Nat)) H') ∧ ∀ H', Same H H' → (∀ i < ws.length, bad rs ws i = false) → Q (.int (-1)) H'
abbrev N_l_fault : List Str := ["_law_spans", "_law_walk_here", "_law_at", "_law_sides_here"]
theorem st_l_fault {a0 a1 : V} : L2.start N_l_fault [a0, a1] = [some a0, some a1, none, none] := rfl
def t_l_fault (K : PySem.W.Frag) : TS :=
  (tSeq ((tFor ((iRng1 ((tCons ((tCB (rLenS K) ((tCons (tVar 1) (tNil))))) (tNil))))) (gName 2) ((tSeq ((tAsg ((tCall (sp_l_sides K) [] E0 ((tCons (tVar 0) ((tCons ((tOp (rIxL K) (tVar 1) (tVar 2))) (tNil))))))) (gName 3)))
    ((tSeq ((tIfS ((tTest (tOp (rEqD K) (tVar 3) ((tLst (tNil)))))) ((tRet (tVar 2))) (tNext)))
    ((tIfS ((tAnd ((tTest (tOp (rI0 fun i j => .bl (decide (j < i))) (tVar 2) (tC (.int 0))))) ((tTest (tOp rNe ((tOp (rIxL K) ((tCall (sp_l_sides K) [] E0 ((tCons (tVar 0) ((tCons ((tOp (rIxL K) (tVar 1) ((tOp (rI0 fun i j => .int (i - j)) (tVar 2) (tC (.int 1)))))) (tNil))))))) (tC (.int 1)))) ((tOp (rIxL K) (tVar 3) (tC (.int 0))))))))) ((tRet (tVar 2))) (tNext)))))))))
    ((tRet ((tUn (rU fun i => .int (-i)) (tC (.int 1)))))))

theorem pure_l_fault (K : PySem.W.Frag) (vs : List V) (H : Hp) (Q : VK) (E : XK) (h : sp_l_fault K vs H Q E) : t_l_fault K { nx := fun _ H' => Q .non H', rt := Q } (L2.start N_l_fault vs) H := by
  obtain ⟨s, w, ss, xs, rs, ws, rfl, hs, rws, hw, st, few, asc, kb, kg⟩ := h
  have elx := st.len
  rw [st_l_fault]
  unfold t_l_fault
  walk_at "st"
  refine loop1 (by omega) (fun i σ' H' => ∃ (x y : Option V), σ' = [some (.ref s), some (.ref w), x, y] ∧ Same H H' ∧ ∀ j < i, bad rs ws j = false) ⟨_, _, rfl, Same.refl _, fun j hj => absurd hj (Nat.not_lt_zero _)⟩ ?_ ?_
  · rintro i σ' H' hi ⟨x, y, rfl, t1, hg⟩
    have hi : i < ws.length := by omega
    obtain ⟨u, eu⟩ : ∃ u, ws[i]? = some u := ⟨_, List.getElem?_eq_getElem hi⟩
    obtain ⟨p, ep, _, hp⟩ := st.atI_ eu
    have hw1 := t1 _ _ hw
    walk_at "st"
    refine wp_ixL (sq_of hw1) (at_nth ep) ?_
    walk_at "st"
    refine c_l_sides (st := u) (t1 _ _ hs) (rws.mono t1) (t1 _ _ hp) fun q H2 t2 _ hq => ?_
    walk_at "st"
    refine ⟨Nat.zero_le _, fun l hl => ?_⟩
    have t3 := Same.new (o := .lst []) hl
    refine eq_sd (t3 _ _ hq) upd_same (fun p e => sd_asc asc e) ?_
    have t13 := (t1.trans t2).trans t3
    have hq3 := t3 _ _ hq
    revert t13 hq3
    generalize upd H2 l (.lst []) = H3
    intro t13 hq3
    cases eo : sd rs u with
    | none =>
      rw [show (none : Option (List Nat × List Nat)).isNone = true from rfl]
      walk_at "st"
      exact kb i H3 t13 hi (bad_none eu eo) hg
    | some o =>
      rw [show (some o : Option (List Nat × List Nat)).isNone = false from rfl]
      rw [eo] at hq3
      have hq3 : H3 q = some (.lst [sv o.1, sv o.2]) := hq3
      walk_at "st"
      refine ite_dec (fun h0 => ?_) (fun h0 => ?_)
      · have h0 : i ≠ 0 := by have : (0 : Int) < (i : Int) := h0; omega
        obtain ⟨u2, eu2⟩ : ∃ u2, ws[i - 1]? = some u2 := ⟨_, List.getElem?_eq_getElem (by omega)⟩
        obtain ⟨p2, ep2, _, hp2⟩ := st.atI_ eu2
        obtain ⟨o2, eo2⟩ := bad_sd eu2 (hg (i - 1) (by omega))
        have hw3 := t13 _ _ hw
        walk_at "st"
        rw [show ((i : Int) - 1) = ((i - 1 : Nat) : Int) by omega]
        refine wp_ixL (sq_of hw3) (at_nth ep2) ?_
        walk_at "st"
        refine c_l_sides (st := u2) (t13 _ _ hs) (rws.mono t13) (t13 _ _ hp2) fun q2 H4 t4 _ hq4 => ?_
        rw [eo2] at hq4
        have hq4 : H4 q2 = some (.lst [sv o2.1, sv o2.2]) := hq4
        have hq5 := t4 _ _ hq3
        walk_at "st"
        have bs := bad_some eu eo h0 eu2 eo2
        refine ite_ndec (fun h1 => ?_) (fun h1 => ?_)
        · walk_at "st"
          refine kb i H4 (t13.trans t4) hi ?_ hg
          rw [bs, decide_eq_false fun z => h1 (by rw [z])]
          rfl
        · walk_at "st"
          refine ⟨_, _, rfl, t13.trans t4, fun j hj => ?_⟩
          by_cases c : j = i
          · rw [c, bs, decide_eq_true (S_inj h1)]; rfl
          · exact hg j (by omega)
      · have h0 : i = 0 := by have : ¬ (0 : Int) < (i : Int) := h0; omega
        subst h0
        walk_at "st"
        refine ⟨_, _, rfl, t13, fun j hj => ?_⟩
        obtain rfl : j = 0 := by omega
        exact bad_zero eu eo
  · rintro σ' H' ⟨x, y, rfl, t1, hg⟩
    walk_at "st"
    exact kg H' t1 fun i hi => hg i (by omega)
theorem len_l_fault (K : PySem.W.Frag) (vs : List V) (H : Hp) (Q : VK) (E : XK) (h : sp_l_fault K vs H Q E) : vs.length = 2 := by
  obtain ⟨_, _, _, _, _, _, rfl, _⟩ := h
  rfl
theorem c_l_fault {K : PySem.W.Frag} {s w : Addr} {ss xs : List V} {rs : List Row} {ws : List (Int × Int)} {H : Hp} {Q : VK} {E : XK} (hs : H s = some (.lst ss)) (rws : Rws H ss rs) (hw : H w = some (.lst xs)) (st : StI H xs ws) (few : ws.length ≤ 1000) (asc : ∀ r ∈ rs, AscR r)
    (kb : ∀ i H', Same H H' → i < ws.length → bad rs ws i = true → (∀ j < i, bad rs ws j = false) → Q (.int (i : Nat)) H') (kg : ∀ H', Same H H' → (∀ i < ws.length, bad rs ws i = false) → Q (.int (-1)) H') : sp_l_fault K [.ref s, .ref w] H Q E := ⟨s, w, ss, xs, rs, ws, rfl, hs, rws, hw, st, few, asc, kb, kg⟩
/-- how the law names an error -/
def knd (c : Str) : List Nat := if c = ("BadNumber" : Str) then Y_length else if c = ("WrongNames" : Str) then Y_names else if c = ("BrokenSpan" : Str) then Y_span else Y_walk
def unL : Option Er → List V
  | none => []
  | some er => .str (S (knd er.c)) :: (er.fs.map (·.2)).reverse
theorem unL_N {n : Int} : unL (some (eN n)) = [.str (S Y_length), .int n] := by
  show [V.str (S (knd "BadNumber")), .int n] = _
  rw [show knd "BadNumber" = Y_length from if_pos rfl]
theorem unL_W {l : List Nat} : unL (some (eW l)) = [.str (S Y_names), .str (S l)] := by
  show [V.str (S (knd "WrongNames")), .str (S l)] = _
  rw [show knd "WrongNames" = Y_names from (if_neg (by decide +kernel)).trans (if_pos rfl)]
theorem unL_B {n : Int} : unL (some (eB n)) = [.str (S Y_span), .int n] := by
  show [V.str (S (knd "BrokenSpan")), .int n] = _
  rw [show knd "BrokenSpan" = Y_span from (if_neg (by decide +kernel)).trans ((if_neg (by decide +kernel)).trans (if_pos rfl))]
theorem unL_K {n : Nat} : unL (some (eK n)) = [.str (S Y_walk), .int (n : Nat)] := by
  show [V.str (S (knd "BadWalk")), .int (n : Nat)] = _
  rw [show knd "BadWalk" = Y_walk from (if_neg (by decide +kernel)).trans ((if_neg (by decide +kernel)).trans (if_neg (by decide +kernel)))]
def sp_l_unfit (K : PySem.W.Frag) : Sp := fun vs H Q _ => ∃ (T T' : Int) (q p d : Addr) (ns ms : List (List Nat)) (ss : List V) (rs : List Row) (m : List Nat → Int), vs = [.int T, .ref q, .ref p, .int T', .ref d] ∧ 0 < T ∧ H q = some (.lst (ns.map sv)) ∧ H p = some (.lst ss) ∧ Rws H ss rs ∧ (∀ r ∈ rs, r.u ∈ ns ∧ r.v ∈ ns) ∧ rs.length ≤ 100 ∧ H d = some (.dK (mD m ms)) ∧
  ∀ (b : Addr) H', Same H H' → H b = none → H' b = some (.lst (unL (cKept T ns rs T' ms m))) → Q (.ref b) H'
abbrev N_l_unfit : List Str := ["_law_length_here", "_law_names_here", "_law_spans", "_law_other", "_law_minutes", "_law_name", "_law_number"]
theorem st_l_unfit {a0 a1 a2 a3 a4 : V} : L2.start N_l_unfit [a0, a1, a2, a3, a4] = [some a0, some a1, some a2, some a3, some a4, none, none] := rfl
def t_l_unfit (K : PySem.W.Frag) : TS :=
  (tSeq ((tIfS ((tTest (tOp rNe (tVar 3) (tVar 0)))) ((tRet ((tLst ((tCons (tC (.str (S Y_length))) ((tCons (tVar 3) (tNil))))))))) (tNext)))
    ((tSeq ((tFor ((iList K (tVar 1))) (gName 5) ((tIfS ((tB (tDNotIn (tVar 5) (tVar 4)))) ((tRet ((tLst ((tCons (tC (.str (S Y_names))) ((tCons (tVar 5) (tNil))))))))) (tNext)))))
    ((tSeq ((tLock (tFor ((iKeys (tVar 4))) (gName 5) ((tIfS ((tTest (tOp (rIn K true) (tVar 5) (tVar 1)))) ((tRet ((tLst ((tCons (tC (.str (S Y_names))) ((tCons (tVar 5) (tNil))))))))) (tNext))))))
    ((tSeq ((tFor ((iRng1 ((tCons ((tCB (rLenS K) ((tCons (tVar 2) (tNil))))) (tNil))))) (gName 6) ((tIfS ((tTest (tOp rIsN ((tCall (sp_l_gone K) [] E0 ((tCons (tVar 0) ((tCons ((tOp (rIxL K) (tVar 2) (tVar 6))) ((tCons (tVar 4) (tNil))))))))) (tC .non)))) ((tRet ((tLst ((tCons (tC (.str (S Y_span))) ((tCons (tVar 6) (tNil))))))))) (tNext)))))
    ((tRet ((tLst (tNil))))))))))))

theorem pure_l_unfit (K : PySem.W.Frag) (vs : List V) (H : Hp) (Q : VK) (E : XK) (h : sp_l_unfit K vs H Q E) : t_l_unfit K { nx := fun _ H' => Q .non H', rt := Q } (L2.start N_l_unfit vs) H := by
  obtain ⟨T, T', q, p, d, ns, ms, ss, rs, m, rfl, hT, hq, hp, hr, hn, h100, hd, k⟩ := h
  have lr := hr.len
  have nqd : q ≠ d := fun z => by rw [z, hd] at hq; cases hq
  have npd : p ≠ d := fun z => by rw [z, hd] at hp; cases hp
  rw [st_l_unfit]
  unfold t_l_unfit
  walk_at "st"
  refine ite_ndec (fun h1 => ?_) (fun h1 => ?_)
  · walk_at "st"
    refine ⟨by simp [sizeLine_eq], fun b hb => ?_⟩
    exact k b _ (Same.new hb) hb (by rw [upd_same]; unfold cKept; rw [if_pos h1, unL_N])
  · subst h1
    walk_at "st"
    refine loopL (xs := ns.map sv) (sq_of hq) (fun i σ' H' => ∃ x, σ' = [some (.int T'), some (.ref q), some (.ref p), some (.int T'), some (.ref d), x, none] ∧ H' = H ∧ ∀ l ∈ ns.take i, cIn ms l = none) ⟨_, rfl, rfl, by simp⟩ ?_ ?_ ?_
    · rintro i σ' H' _ ⟨x, rfl, rfl, _⟩
      exact sq_of hq
    · rintro i v σ' H' hv ⟨x, rfl, rfl, ha⟩
      rw [List.getElem?_map] at hv
      obtain ⟨l, hl, rfl⟩ := Option.map_eq_some_iff.mp hv
      walk_at "st"
      refine wp_dnotin ?_
      walk_at "st"
      refine dnin_s (.inl hd) ?_
      unfold mD
      rw [dN_some]
      walk_at "st"
      refine ite_ndec (fun h2 => ?_) (fun h2 => ?_)
      · walk_at "st"
        refine ⟨by simp [sizeLine_eq], fun b hb => ?_⟩
        refine k b _ (Same.new hb) hb ?_
        rw [upd_same]
        unfold cKept
        rw [if_neg (by simp), cFold_at (er := eW l) hl ha (if_neg h2)]
        exact congrArg (fun z => some (HO.lst z)) unL_W.symm
      · walk_at "st"
        refine ⟨_, rfl, rfl, fun z hz => ?_⟩
        rw [take_snoc hl] at hz
        rcases List.mem_append.mp hz with h | h
        · exact ha z h
        · rw [List.mem_singleton.mp h]; exact if_pos h2
    · rintro σ' H' ⟨x, rfl, rfl, ha⟩
      rw [List.length_map, List.take_length] at ha
      have f1 : cFold (cIn ms) ns = none := cFold_none ha
      have inm := cIn_none f1
      walk_at "st"
      refine wp_lock hd fun od => ?_
      walk_at "st"
      refine loopKeysN upd_same (fun i σ' H2 => ∃ x, σ' = [some (.int T'), some (.ref q), some (.ref p), some (.int T'), some (.ref d), x, none] ∧ H2 = upd H' d (.frz od (.dK (mD m ms))) ∧ ∀ l ∈ ms.take i, cIn ns l = none) ⟨_, rfl, rfl, by simp⟩ ?_ ?_ ?_
      · rintro i σ' H2 _ ⟨x, rfl, rfl, _⟩
        exact upd_same
      · rintro i l σ' H2 hl ⟨x, rfl, rfl, hb⟩
        walk_at "st"
        refine wp_notInSv (sq_of ((upd_ne nqd).trans hq)) ?_
        walk_at "st"
        refine ite_ndec (fun h2 => ?_) (fun h2 => ?_)
        · walk_at "st"
          refine ⟨by simp [sizeLine_eq], fun b w1 => ?_⟩
          have nbd : b ≠ d := fun z => by rw [z, upd_same] at w1; cases w1
          rw [upd_ne nbd] at w1
          refine ⟨by rw [upd_ne nbd.symm]; exact upd_same, k b _ (unl hd (Same.new (by rw [upd_ne nbd]; exact w1))) w1 ?_⟩
          rw [upd_ne nbd, upd_same]
          unfold cKept
          rw [if_neg (by simp), f1, Option.none_or, cFold_at (er := eW l) hl hb (if_neg h2)]
          exact congrArg (fun z => some (HO.lst z)) unL_W.symm
        · walk_at "st"
          refine ⟨_, rfl, rfl, fun z hz => ?_⟩
          rw [take_snoc hl] at hz
          rcases List.mem_append.mp hz with h | h
          · exact hb z h
          · rw [List.mem_singleton.mp h]; exact if_pos h2
      · rintro σ' H2 ⟨x, rfl, rfl, hb⟩
        rw [List.take_length] at hb
        have f2 : cFold (cIn ns) ms = none := cFold_none hb
        refine ⟨upd_same, ?_⟩
        have e0 : upd (upd H' d (.frz od (.dK (mD m ms)))) d (.dK (mD m ms)) = H' := by
          rw [upd_upd]
          funext a
          by_cases e : a = d
          · subst e; rw [upd_same, hd]
          · rw [upd_ne e]
        rw [e0]
        walk_at "st"
        refine loop1 (by omega) (fun i σ' H2 => ∃ x y, σ' = [some (.int T'), some (.ref q), some (.ref p), some (.int T'), some (.ref d), x, y] ∧ H2 = H' ∧ ∀ r ∈ rs.take i, isK T' m r = true) ⟨_, _, rfl, rfl, by simp⟩ ?_ ?_
        · rintro i σ' H2 hi ⟨x, y, rfl, rfl, hk⟩
          obtain ⟨r, er⟩ : ∃ r, rs[i]? = some r := ⟨_, List.getElem?_eq_getElem (by omega : i < rs.length)⟩
          obtain ⟨a, ea, ha'⟩ := row_at hr er
          obtain ⟨ru, rv⟩ := hn r (List.mem_of_getElem? er)
          walk_at "st"
          refine wp_ixL (sq_of hp) (at_nth ea) ?_
          walk_at "st"
          refine c_l_gone hT ha' (.inl hd) (inm _ ru) (inm _ rv) ?_
          walk_at "st"
          cases hb2 : isK T' m r with
          | false =>
            rw [pas_non hb2]
            walk_at "st"
            refine ⟨_, rfl, ?_⟩
            walk_at "st"
            refine ⟨by simp [sizeLine_eq], fun b hb' => ?_⟩
            refine k b _ (Same.new hb') hb' ?_
            rw [upd_same]
            unfold cKept
            rw [if_neg (by simp), f1, f2, Option.none_or, Option.none_or, brk_at er hk hb2, Nat.zero_add]
            exact congrArg (fun z => some (HO.lst z)) unL_B.symm
          | true =>
            obtain ⟨v, ev⟩ := pas_int hb2
            rw [ev]
            walk_at "st"
            refine ⟨_, _, rfl, rfl, fun z hz => ?_⟩
            rw [take_snoc er] at hz
            rcases List.mem_append.mp hz with h | h
            · exact hk z h
            · rw [List.mem_singleton.mp h]; exact hb2
        · rintro σ' H2 ⟨x, y, rfl, rfl, hk⟩
          rw [lr, Int.toNat_natCast, List.take_length] at hk
          walk_at "st"
          refine ⟨Nat.zero_le _, fun b hb' => ?_⟩
          refine k b _ (Same.new hb') hb' ?_
          rw [upd_same]
          unfold cKept
          rw [if_neg (by simp), f1, f2, Option.none_or, Option.none_or, brk_none hk]
          rfl
theorem len_l_unfit (K : PySem.W.Frag) (vs : List V) (H : Hp) (Q : VK) (E : XK) (h : sp_l_unfit K vs H Q E) : vs.length = 5 := by
  obtain ⟨_, _, _, _, _, _, _, _, _, _, rfl, _⟩ := h
  rfl
theorem c_l_unfit {K : PySem.W.Frag} {T T' : Int} {q p d : Addr} {ns ms : List (List Nat)} {ss : List V} {rs : List Row} {m : List Nat → Int} {H : Hp} {Q : VK} {E : XK} (hT : 0 < T) (hq : H q = some (.lst (ns.map sv))) (hp : H p = some (.lst ss)) (hr : Rws H ss rs) (hn : ∀ r ∈ rs, r.u ∈ ns ∧ r.v ∈ ns) (h100 : rs.length ≤ 100) (hd : H d = some (.dK (mD m ms)))
    (k : ∀ (b : Addr) H', Same H H' → H b = none → H' b = some (.lst (unL (cKept T ns rs T' ms m))) → Q (.ref b) H') : sp_l_unfit K [.int T, .ref q, .ref p, .int T', .ref d] H Q E := ⟨T, T', q, p, d, ns, ms, ss, rs, m, rfl, hT, hq, hp, hr, hn, h100, hd, k⟩
def ShpW (er : Er) : Prop := (∃ n, er = eN n) ∨ (∃ l, Asc l ∧ er = eW l) ∨ (∃ n, er = eB n) ∨ ∃ n, er = eK n
theorem cIn_shpW {ms : List (List Nat)} {er : Er} : ∀ {ns : List (List Nat)}, (∀ l ∈ ns, Asc l) → cFold (cIn ms) ns = some er → ShpW er
  | l :: ns, hA, h => by
    have h' : (cIn ms l).or (cFold (cIn ms) ns) = some er := h
    by_cases e : l ∈ ms
    · rw [show cIn ms l = none from if_pos e, Option.none_or] at h'
      exact cIn_shpW (fun x hx => hA x (List.mem_cons_of_mem _ hx)) h'
    · rw [show cIn ms l = some (eW l) from if_neg e] at h'
      cases h'
      exact .inr (.inl ⟨l, hA l List.mem_cons_self, rfl⟩)
theorem cTurn_shp {T : Int} {ns : List (List Nat)} {rs : List Row} {T' : Int} {ms : List (List Nat)} {m : List Nat → Int} {o : Option Nat} {er : Er} (an : ∀ l ∈ ns, Asc l) (am : ∀ l ∈ ms, Asc l) (h : cTurn T ns rs T' ms m o = some er) : ShpW er := by
  unfold cTurn cKept at h
  split at h
  · cases h; exact .inl ⟨_, rfl⟩
  · cases h1 : cFold (cIn ms) ns with
    | some e1 => rw [h1] at h; cases h; exact cIn_shpW an h1
    | none =>
      rw [h1, Option.none_or] at h
      cases h2 : cFold (cIn ns) ms with
      | some e2 => rw [h2] at h; cases h; exact cIn_shpW am h2
      | none =>
        rw [h2, Option.none_or] at h
        cases h3 : brk T m 0 rs with
        | some e3 =>
          rw [h3] at h
          cases h
          obtain ⟨j, r, _, _, _, rfl⟩ := brk_some h3
          exact .inr (.inr (.inl ⟨_, rfl⟩))
        | none =>
          rw [h3, Option.none_or] at h
          cases o with
          | none => cases h
          | some i => cases h; exact .inr (.inr (.inr ⟨_, rfl⟩))
def sp_l_told (K : PySem.W.Frag) : Sp := fun vs H Q _ => ∃ (a b w : Addr) (T T' : Int) (ns ms : List (List Nat)) (ss : List V) (rs : List Row) (m : List Nat → Int) (xs : List V) (ws : List (Int × Int)) (o : Option Nat) (er : Er), vs = [.ref a, .ref b, .ref w] ∧ Tk K H a b w T T' ns ms ss rs m xs ws o ∧ cTurn T ns rs T' ms m o = some er ∧ ShpW er ∧
  ∀ (p : Addr) H', Same H H' → H p = none → H' p = some (.lst (unL (some er))) → Q (.ref p) H'
abbrev N_l_told : List Str := ["_law_net", "_law_times", "_law_walk_here", "_law_told_here", "e"]
theorem st_l_told {a0 a1 a2 : V} : L2.start N_l_told [a0, a1, a2] = [some a0, some a1, some a2, none, none] := rfl
def t_l_told (K : PySem.W.Frag) : TS :=
  (tSeq ((tAsg (tC .non) (gName 3)))
    ((tSeq ((tTry K 4 (fun W => ((tDrop ((tCallS (sp_turn K) (WE W) ((tCons (tVar 0) ((tCons (tVar 1) ((tCons (tVar 2) (tNil)))))))))))) [(.ref (C_BadNumber K), fun a cls d => ((tAsg ((tLst ((tCons (tC (.str (S Y_length))) ((tCons ((tXf a cls d (C_BadNumber K) "number" (tVar 4))) (tNil))))))) (gName 3)))), (.ref (C_WrongNames K), fun a cls d => ((tAsg ((tLst ((tCons (tC (.str (S Y_names))) ((tCons ((tXf a cls d (C_WrongNames K) "name" (tVar 4))) (tNil))))))) (gName 3)))), (.ref (C_BrokenSpan K), fun a cls d => ((tAsg ((tLst ((tCons (tC (.str (S Y_span))) ((tCons ((tXf a cls d (C_BrokenSpan K) "number" (tVar 4))) (tNil))))))) (gName 3)))), (.ref (C_BadWalk K), fun a cls d => ((tAsg ((tLst ((tCons (tC (.str (S Y_walk))) ((tCons ((tXf a cls d (C_BadWalk K) "at" (tVar 4))) (tNil))))))) (gName 3))))]))
    ((tRet (tVar 3))))))

theorem pure_l_told (K : PySem.W.Frag) (XF : XFacts K exs) (vs : List V) (H : Hp) (Q : VK) (E : XK) (h : sp_l_told K vs H Q E) : t_l_told K { nx := fun _ H' => Q .non H', rt := Q } (L2.start N_l_told vs) H := by
  obtain ⟨a0, b0, w0, T, T', ns, ms, ss, rs, m, xs, ws, o, er, rfl, tk, ec, sh, k⟩ := h
  rw [st_l_told]
  unfold t_l_told
  walk_at "st"
  refine wp_tryCall ?_
  walk_at "st"
  refine c_turn tk (fun er2 e2 => ?_) (fun e0 => by rw [ec] at e0; cases e0)
  rw [ec] at e2
  cases e2
  intro d H3 s3 hd hx
  rcases sh with ⟨n, rfl⟩ | ⟨l, _, rfl⟩ | ⟨n, rfl⟩ | ⟨n, rfl⟩
  · refine wAs_yes ((XF.m "BadNumber" (by decide +kernel) "BadNumber" (by decide +kernel)).trans (congrArg some (by decide +kernel))) fun ea hea => ?_
    rw [show ([some (.ref a0), some (.ref b0), some (.ref w0), some .non, none] : L2.St).set 4 (some (.ref ea)) = [some (.ref a0), some (.ref b0), some (.ref w0), some .non, some (.ref ea)] from rfl]
    walk_at "st"
    refine wp_xfV rfl hx (by rfl) ?_
    walk_at "st"
    refine ⟨by simp [sizeLine_eq], fun b hb => ?_⟩
    walk_at "st"
    show tRet (tVar 3) { nx := fun _ H' => Q .non H', rt := Q } [some (.ref a0), some (.ref b0), some (.ref w0), some (.ref b), none] _
    walk_at "st"
    exact k b _ (s3.trans (Same.new hb)) (s3.free hb) (by rw [upd_same, unL_N])
  · refine wAs_no ((XF.m "WrongNames" (by decide +kernel) "BadNumber" (by decide +kernel)).trans (congrArg some (by decide +kernel))) ?_
    refine wAs_yes ((XF.m "WrongNames" (by decide +kernel) "WrongNames" (by decide +kernel)).trans (congrArg some (by decide +kernel))) fun ea hea => ?_
    rw [show ([some (.ref a0), some (.ref b0), some (.ref w0), some .non, none] : L2.St).set 4 (some (.ref ea)) = [some (.ref a0), some (.ref b0), some (.ref w0), some .non, some (.ref ea)] from rfl]
    walk_at "st"
    refine wp_xfV rfl hx (by rfl) ?_
    walk_at "st"
    refine ⟨by simp [sizeLine_eq], fun b hb => ?_⟩
    walk_at "st"
    show tRet (tVar 3) { nx := fun _ H' => Q .non H', rt := Q } [some (.ref a0), some (.ref b0), some (.ref w0), some (.ref b), none] _
    walk_at "st"
    exact k b _ (s3.trans (Same.new hb)) (s3.free hb) (by rw [upd_same, unL_W])
  · refine wAs_no ((XF.m "BrokenSpan" (by decide +kernel) "BadNumber" (by decide +kernel)).trans (congrArg some (by decide +kernel))) ?_
    refine wAs_no ((XF.m "BrokenSpan" (by decide +kernel) "WrongNames" (by decide +kernel)).trans (congrArg some (by decide +kernel))) ?_
    refine wAs_yes ((XF.m "BrokenSpan" (by decide +kernel) "BrokenSpan" (by decide +kernel)).trans (congrArg some (by decide +kernel))) fun ea hea => ?_
    rw [show ([some (.ref a0), some (.ref b0), some (.ref w0), some .non, none] : L2.St).set 4 (some (.ref ea)) = [some (.ref a0), some (.ref b0), some (.ref w0), some .non, some (.ref ea)] from rfl]
    walk_at "st"
    refine wp_xfV rfl hx (by rfl) ?_
    walk_at "st"
    refine ⟨by simp [sizeLine_eq], fun b hb => ?_⟩
    walk_at "st"
    show tRet (tVar 3) { nx := fun _ H' => Q .non H', rt := Q } [some (.ref a0), some (.ref b0), some (.ref w0), some (.ref b), none] _
    walk_at "st"
    exact k b _ (s3.trans (Same.new hb)) (s3.free hb) (by rw [upd_same, unL_B])
  · refine wAs_no ((XF.m "BadWalk" (by decide +kernel) "BadNumber" (by decide +kernel)).trans (congrArg some (by decide +kernel))) ?_
    refine wAs_no ((XF.m "BadWalk" (by decide +kernel) "WrongNames" (by decide +kernel)).trans (congrArg some (by decide +kernel))) ?_
    refine wAs_no ((XF.m "BadWalk" (by decide +kernel) "BrokenSpan" (by decide +kernel)).trans (congrArg some (by decide +kernel))) ?_
    refine wAs_yes ((XF.m "BadWalk" (by decide +kernel) "BadWalk" (by decide +kernel)).trans (congrArg some (by decide +kernel))) fun ea hea => ?_
    rw [show ([some (.ref a0), some (.ref b0), some (.ref w0), some .non, none] : L2.St).set 4 (some (.ref ea)) = [some (.ref a0), some (.ref b0), some (.ref w0), some .non, some (.ref ea)] from rfl]
    walk_at "st"
    refine wp_xfV rfl hx (by rfl) ?_
    walk_at "st"
    refine ⟨by simp [sizeLine_eq], fun b hb => ?_⟩
    walk_at "st"
    show tRet (tVar 3) { nx := fun _ H' => Q .non H', rt := Q } [some (.ref a0), some (.ref b0), some (.ref w0), some (.ref b), none] _
    walk_at "st"
    exact k b _ (s3.trans (Same.new hb)) (s3.free hb) (by rw [upd_same, unL_K])
theorem len_l_told (K : PySem.W.Frag) (vs : List V) (H : Hp) (Q : VK) (E : XK) (h : sp_l_told K vs H Q E) : vs.length = 3 := by
  obtain ⟨_, _, _, _, _, _, _, _, _, _, _, _, _, _, rfl, _⟩ := h
  rfl
theorem c_l_told {K : PySem.W.Frag} {a b w : Addr} {T T' : Int} {ns ms : List (List Nat)} {ss : List V} {rs : List Row} {m : List Nat → Int} {xs : List V} {ws : List (Int × Int)} {o : Option Nat} {er : Er} {H : Hp} {Q : VK} {E : XK} (tk : Tk K H a b w T T' ns ms ss rs m xs ws o) (ec : cTurn T ns rs T' ms m o = some er) (sh : ShpW er)
    (k : ∀ (p : Addr) H', Same H H' → H p = none → H' p = some (.lst (unL (some er))) → Q (.ref p) H') : sp_l_told K [.ref a, .ref b, .ref w] H Q E := ⟨a, b, w, T, T', ns, ms, ss, rs, m, xs, ws, o, er, rfl, tk, ec, sh, k⟩
def oI : Option Nat → Int
  | none => -1
  | some i => i
theorem c_l_faultO {K : PySem.W.Frag} {s w : Addr} {ss xs : List V} {rs : List Row} {ws : List (Int × Int)} {o : Option Nat} {H : Hp} {Q : VK} {E : XK} (hs : H s = some (.lst ss)) (rws : Rws H ss rs) (hw : H w = some (.lst xs)) (st : StI H xs ws) (few : ws.length ≤ 1000) (asc : ∀ r ∈ rs, AscR r) (fb : FB rs ws o) (k : ∀ H', Same H H' → Q (.int (oI o)) H') : sp_l_fault K [.ref s, .ref w] H Q E :=
  c_l_fault hs rws hw st few asc (fun i H' s h1 h2 h3 => by
    have e := fb.at h1 h2 h3
    subst e
    exact k H' s) (fun H' s hg => by
    have e := fb.good hg
    subst e
    exact k H' s)
theorem Y_asc : Asc Y_length ∧ Asc Y_names ∧ Asc Y_span ∧ Asc Y_walk := by
  refine ⟨?_, ?_, ?_, ?_⟩
  · exact (by decide : ∀ c ∈ Y_length, c < 127)
  · exact (by decide : ∀ c ∈ Y_names, c < 127)
  · exact (by decide : ∀ c ∈ Y_span, c < 127)
  · exact (by decide : ∀ c ∈ Y_walk, c < 127)
theorem unL_dp {K : PySem.W.Frag} {H : Hp} {er : Er} (h : ShpW er) : ∃ ds, DpAll K H (unL (some er)) ds ∧ SeqAt.shaped (.list ds) = true ∧ ds ≠ [] := by
  obtain ⟨y1, y2, y3, y4⟩ := Y_asc
  have shI : ∀ {y : List Nat} {i : Int}, Asc y → SeqAt.shaped (.list [.str (S y), .int i]) = true := fun {y i} a => by
    show ((PyData.strOk (S y) && (true && true)) && decide (max 0 (max 0 0) + 1 ≤ 64)) = true
    rw [asc_ok a]; rfl
  rcases h with ⟨n, rfl⟩ | ⟨l, al, rfl⟩ | ⟨n, rfl⟩ | ⟨n, rfl⟩
  · rw [unL_N]; exact ⟨_, .cons (.str _) (.cons (.int _) .nil), shI y1, by simp⟩
  · rw [unL_W]
    refine ⟨_, .cons (.str _) (.cons (.str _) .nil), ?_, by simp⟩
    show ((PyData.strOk (S Y_names) && (PyData.strOk (S l) && true)) && decide (max 0 (max 0 0) + 1 ≤ 64)) = true
    rw [asc_ok y2, asc_ok al]; rfl
  · rw [unL_B]; exact ⟨_, .cons (.str _) (.cons (.int _) .nil), shI y3, by simp⟩
  · rw [unL_K]; exact ⟨_, .cons (.str _) (.cons (.int _) .nil), shI y4, by simp⟩
theorem eq_unL {K : PySem.W.Frag} {H : Hp} {Q : VK} {a b : Addr} {e : Option Er} (h1 : H a = some (.lst (unL e))) (h2 : H b = some (.lst [])) (sh : ∀ er, e = some er → ShpW er) (q : Q (.bl e.isNone) H) : rEqD K (.ref a) (.ref b) H Q := by
  cases e with
  | none => exact wp_eqNL (ds := []) h1 h2 .nil rfl q
  | some er =>
    obtain ⟨ds, k1, k2, k3⟩ := unL_dp (K := K) (H := H) (sh er rfl)
    exact wp_eqNL h1 h2 k1 k2 (by rw [decide_eq_false k3]; exact q)
theorem ne_unL {K : PySem.W.Frag} {H : Hp} {Q : VK} {a b : Addr} {e : Option Er} (h1 : H a = some (.lst (unL e))) (h2 : H b = some (.lst [])) (sh : ∀ er, e = some er → ShpW er) (q : Q (.bl e.isSome) H) : rNeD K (.ref a) (.ref b) H Q := by
  cases e with
  | none => exact wp_neNL (ds := []) h1 h2 .nil rfl q
  | some er =>
    obtain ⟨ds, k1, k2, k3⟩ := unL_dp (K := K) (H := H) (sh er rfl)
    exact wp_neNL h1 h2 k1 k2 (by rw [decide_eq_false k3]; exact q)
theorem unL_mem {er : Er} (h : ShpW er) : er.c ∈ exs := by
  rcases h with ⟨n, rfl⟩ | ⟨l, _, rfl⟩ | ⟨n, rfl⟩ | ⟨n, rfl⟩
  · exact (by decide +kernel : ("BadNumber" : Str) ∈ exs)
  · exact (by decide +kernel : ("WrongNames" : Str) ∈ exs)
  · exact (by decide +kernel : ("BrokenSpan" : Str) ∈ exs)
  · exact (by decide +kernel : ("BadWalk" : Str) ∈ exs)
theorem unL_sm {H : Hp} {n : Nat} {a b : Addr} {er : Er} (h : ShpW er) (ha : H a = some (.lst (unL (some er)))) (hb : H b = some (.lst (unL (some er)))) : Sm H (n + 2) (.ref a) (.ref b) := by
  rcases h with ⟨i, rfl⟩ | ⟨l, _, rfl⟩ | ⟨i, rfl⟩ | ⟨i, rfl⟩
  · rw [unL_N] at ha hb
    exact sm_lst ha hb (by simp) fun x hx => by
      rcases List.mem_cons.mp hx with rfl | hx
      · exact sm_str
      · rw [List.mem_singleton.mp hx]; exact sm_int
  · rw [unL_W] at ha hb
    exact sm_lst ha hb (by simp) fun x hx => by
      rcases List.mem_cons.mp hx with rfl | hx
      · exact sm_str
      · rw [List.mem_singleton.mp hx]; exact sm_str
  · rw [unL_B] at ha hb
    exact sm_lst ha hb (by simp) fun x hx => by
      rcases List.mem_cons.mp hx with rfl | hx
      · exact sm_str
      · rw [List.mem_singleton.mp hx]; exact sm_int
  · rw [unL_K] at ha hb
    exact sm_lst ha hb (by simp) fun x hx => by
      rcases List.mem_cons.mp hx with rfl | hx
      · exact sm_str
      · rw [List.mem_singleton.mp hx]; exact sm_int
def kYs : List (List Nat) := [Y_length, Y_names, Y_span, Y_walk]
theorem unL_at {er : Er} : unL (some er) = .str (S (knd er.c)) :: (er.fs.map (·.2)).reverse := rfl
theorem dueB {er : Er} (h : ShpW er) : (kYs.map fun y => decide (S y = S (knd er.c))) = [decide (er.c = "BadNumber"), decide (er.c = "WrongNames"), decide (er.c = "BrokenSpan"), decide (er.c = "BadWalk")] ∧ decide (er.c = "UnknownEvent") = false ∧ decide (er.c = "UnknownSpan") = false := by
  rcases h with ⟨i, rfl⟩ | ⟨l, _, rfl⟩ | ⟨i, rfl⟩ | ⟨i, rfl⟩
  · exact (by decide +kernel : (kYs.map fun y => decide (S y = S (knd "BadNumber"))) = [decide (("BadNumber" : Str) = "BadNumber"), decide (("BadNumber" : Str) = "WrongNames"), decide (("BadNumber" : Str) = "BrokenSpan"), decide (("BadNumber" : Str) = "BadWalk")] ∧ decide (("BadNumber" : Str) = "UnknownEvent") = false ∧ decide (("BadNumber" : Str) = "UnknownSpan") = false)
  · exact (by decide +kernel : (kYs.map fun y => decide (S y = S (knd "WrongNames"))) = [decide (("WrongNames" : Str) = "BadNumber"), decide (("WrongNames" : Str) = "WrongNames"), decide (("WrongNames" : Str) = "BrokenSpan"), decide (("WrongNames" : Str) = "BadWalk")] ∧ decide (("WrongNames" : Str) = "UnknownEvent") = false ∧ decide (("WrongNames" : Str) = "UnknownSpan") = false)
  · exact (by decide +kernel : (kYs.map fun y => decide (S y = S (knd "BrokenSpan"))) = [decide (("BrokenSpan" : Str) = "BadNumber"), decide (("BrokenSpan" : Str) = "WrongNames"), decide (("BrokenSpan" : Str) = "BrokenSpan"), decide (("BrokenSpan" : Str) = "BadWalk")] ∧ decide (("BrokenSpan" : Str) = "UnknownEvent") = false ∧ decide (("BrokenSpan" : Str) = "UnknownSpan") = false)
  · exact (by decide +kernel : (kYs.map fun y => decide (S y = S (knd "BadWalk"))) = [decide (("BadWalk" : Str) = "BadNumber"), decide (("BadWalk" : Str) = "WrongNames"), decide (("BadWalk" : Str) = "BrokenSpan"), decide (("BadWalk" : Str) = "BadWalk")] ∧ decide (("BadWalk" : Str) = "UnknownEvent") = false ∧ decide (("BadWalk" : Str) = "UnknownSpan") = false)
theorem sm_sti {H : Hp} {n : Nat} {a b : Addr} {xs ys : List V} {ws : List (Int × Int)} (ha : H a = some (.lst xs)) (hb : H b = some (.lst ys)) (h : StI H xs ws) (k : StI H ys ws) (hl : ws.length ≤ 1000) : Sm H (n + 3) (.ref a) (.ref b) := by
  refine .inr ⟨a, b, xs, ys, rfl, rfl, .inl ⟨ha, hb⟩, h.len.trans k.len.symm, by rw [k.len]; exact hl, fun i x y hx hy => ?_⟩
  obtain ⟨x, s, rfl, e1, _, h1⟩ := h.at_ hx
  obtain ⟨y, t, rfl, e2, _, h2⟩ := k.at_ hy
  rw [e1] at e2
  cases e2
  refine .inr ⟨x, y, _, _, rfl, rfl, .inr ⟨h1, h2⟩, rfl, by simp, fun i u v hu hv => ?_⟩
  rw [hu] at hv
  cases hv
  match i, hu with
  | 0, hu => cases hu; exact sm_int
  | 1, hu => cases hu; exact sm_int
def sp_l_kept (K : PySem.W.Frag) : Sp := fun vs H Q _ => ∃ (n C F W N Sp B A D : Addr) (T T' : Int) (ns ms : List (List Nat)) (ss : List V) (rs : List Row) (m : List Nat → Int) (xs : List V) (ws : List (Int × Int)) (o : Option Nat), vs = [.ref n, .ref C, .ref F, .ref W] ∧
  IsNet (C_Net K) H n T ns ss ∧ H C = some (.lst [.int T, .ref N, .ref Sp, .ref B, .ref A]) ∧ H N = some (.lst (ns.map sv)) ∧ H Sp = some (.lst ss) ∧ Rws H ss rs ∧ (∀ r ∈ rs, OkR T ns r ∧ AscR r) ∧ rs.length ≤ 24 ∧ OkNs T ns ∧ H F = some (.lst [.int T', .ref D]) ∧ H D = some (.dK (mD m ms)) ∧ OkTm T' ms m ∧ H W = some (.lst xs) ∧ StI H xs ws ∧ ws.length ≤ 1000 ∧ FB rs ws o ∧ ∀ H', Same H H' → Q (.bl true) H'
abbrev N_l_kept : List Str := ["_law_net", "_law_case_here", "_law_found", "_law_walk_here", "_law_times", "_law_fault_here", "_law_at", "_law_handed", "_law_got", "_law_flags", "e", "_law_due", "_law_apart", "_law_kind"]
theorem st_l_kept {a0 a1 a2 a3 : V} : L2.start N_l_kept [a0, a1, a2, a3] = [some a0, some a1, some a2, some a3, none, none, none, none, none, none, none, none, none, none] := rfl
def t_l_kept (K : PySem.W.Frag) : TS :=
  (tSeq ((tAsg ((tMake (C_Times K) (sp_Times_init K) [] E0 ((tCons ((tOp (rIxL K) (tVar 2) (tC (.int 0)))) ((tCons ((tCB rDictOf ((tCons ((tOp (rIxL K) (tVar 2) (tC (.int 1)))) (tNil))))) (tNil))))))) (gName 4)))
    ((tSeq ((tAsg ((tCall (sp_l_unfit K) [] E0 ((tCons ((tOp (rIxL K) (tVar 1) (tC (.int 0)))) ((tCons ((tOp (rIxL K) (tVar 1) (tC (.int 1)))) ((tCons ((tOp (rIxL K) (tVar 1) (tC (.int 2)))) ((tCons ((tOp (rIxL K) (tVar 2) (tC (.int 0)))) ((tCons ((tOp (rIxL K) (tVar 2) (tC (.int 1)))) (tNil))))))))))))) (gName 5)))
    ((tSeq ((tAsg ((tCall (sp_l_fault K) [] E0 ((tCons ((tOp (rIxL K) (tVar 1) (tC (.int 2)))) ((tCons (tVar 3) (tNil))))))) (gName 6)))
    ((C8.tCut ((tIfS ((tAnd ((tTest (tOp (rEqD K) (tVar 5) ((tLst (tNil)))))) ((tTest (tOp (rI0 fun i j => .bl (decide (j ≤ i))) (tVar 6) (tC (.int 0))))))) ((tAsg ((tLst ((tCons (tC (.str (S Y_walk))) ((tCons (tVar 6) (tNil))))))) (gName 5))) (tNext)))
    ((tSeq ((tAsg ((tCB (rListS K) ((tCons (tVar 3) (tNil))))) (gName 7)))
    ((tSeq ((tAsg (tC .non) (gName 8)))
    ((tSeq ((tAsg ((tLst (tNil))) (gName 9)))
    ((tSeq ((tTry K 10 (fun W => ((tAsg ((tCallS (sp_turn K) (WE W) ((tCons (tVar 0) ((tCons (tVar 4) ((tCons (tVar 7) (tNil))))))))) (gName 8)))) [(.ref (C_MinuteError K), fun a cls d => ((tAsg ((tLst ((tCons ((tCB (rIsX K a cls d) ((tCons (tVar 10) ((tCons (tC (.ty "ValueError")) (tNil))))))) ((tCons ((tCB (rIsX K a cls d) ((tCons (tVar 10) ((tCons (tC (.ref (C_BadNumber K))) (tNil))))))) ((tCons ((tCB (rIsX K a cls d) ((tCons (tVar 10) ((tCons (tC (.ref (C_WrongNames K))) (tNil))))))) ((tCons ((tCB (rIsX K a cls d) ((tCons (tVar 10) ((tCons (tC (.ref (C_BrokenSpan K))) (tNil))))))) ((tCons ((tCB (rIsX K a cls d) ((tCons (tVar 10) ((tCons (tC (.ref (C_BadWalk K))) (tNil))))))) ((tCons ((tCB (rIsX K a cls d) ((tCons (tVar 10) ((tCons (tC (.ref (C_UnknownEvent K))) (tNil))))))) ((tCons ((tCB (rIsX K a cls d) ((tCons (tVar 10) ((tCons (tC (.ref (C_UnknownSpan K))) (tNil))))))) (tNil))))))))))))))))) (gName 9))))]))
    ((tSeq ((tIfS ((tOr ((tNot ((tB ((tCall (sp_l_same K 3) [] E0 ((tCons (tVar 7) ((tCons (tVar 3) (tNil))))))))))) ((tNot ((tB ((tCall (sp_l_same K 3) [] E0 ((tCons ((tProp (C_Times K) (sp_Times_minutes K) [] E0 (tVar 4))) ((tCons ((tOp (rIxL K) (tVar 2) (tC (.int 1)))) (tNil))))))))))))) ((tRet (tC (.bl false)))) (tNext)))
    ((tSeq ((tIfS ((tTest (tOp (rNeD K) (tVar 5) ((tLst (tNil)))))) ((tSeq ((tAsg ((tOp rCat ((tOp rCat ((tLst ((tCons (tC (.bl true)) (tNil))))) ((tLc ((iList K ((tLst ((tCons (tC (.str (S Y_length))) ((tCons (tC (.str (S Y_names))) ((tCons (tC (.str (S Y_span))) ((tCons (tC (.str (S Y_walk))) (tNil))))))))))))) ((gName 13)) (tYes) ((tOp rEq (tVar 13) ((tOp (rIxL K) (tVar 5) (tC (.int 0)))))) [13])))) ((tLst ((tCons (tC (.bl false)) ((tCons (tC (.bl false)) (tNil))))))))) (gName 11)))
    ((tRet ((tAndV ((tOp (rEqD K) (tVar 9) (tVar 11))) ((tCall (sp_l_same K 3) [] E0 ((tCons ((tCall (sp_l_told K) [] E0 ((tCons (tVar 0) ((tCons (tVar 4) ((tCons (tVar 7) (tNil))))))))) ((tCons (tVar 5) (tNil))))))))))))) (tNext)))
    ((tSeq ((tIfS ((tOr ((tTest (tOp (rNeD K) (tVar 9) ((tLst (tNil)))))) ((tNot ((tB ((tCall (sp_l_same K 3) [] E0 ((tCons (tVar 8) ((tCons ((tCall (sp_l_turn K) [] E0 ((tCons ((tCall (sp_l_all_gone K) [] E0 ((tCons ((tOp (rIxL K) (tVar 1) (tC (.int 0)))) ((tCons ((tOp (rIxL K) (tVar 1) (tC (.int 2)))) ((tCons ((tOp (rIxL K) (tVar 2) (tC (.int 1)))) (tNil))))))))) ((tCons (tVar 3) (tNil))))))) (tNil))))))))))))) ((tRet (tC (.bl false)))) (tNext)))
    ((tSeq ((tIfS ((tTest (tOp rEq ((tCB (rLenS K) ((tCons (tVar 3) (tNil))))) (tC (.int 0))))) ((tRet ((tOp rEq (tVar 8) (tC (.int 0)))))) (tNext)))
    ((tSeq ((tAsg ((tOp (rI0 fun i j => .int (i - j)) ((tDGet ((tOp (rIxL K) (tVar 2) (tC (.int 1)))) ((tCall (sp_l_finish K) [] E0 ((tCons ((tOp (rIxL K) (tVar 1) (tC (.int 2)))) ((tCons (tVar 3) (tNil))))))))) ((tDGet ((tOp (rIxL K) (tVar 2) (tC (.int 1)))) ((tCall (sp_l_begin K) [] E0 ((tCons ((tOp (rIxL K) (tVar 1) (tC (.int 2)))) ((tCons (tVar 3) (tNil))))))))))) (gName 12)))
    ((tRet ((tOp rEq ((tOp (rI (fun _ j => 0 < j) fun i j => .int (i % j)) ((tCB rInt1 ((tCons ((tOp (rI0 fun i j => .int (i - j)) (tVar 8) (tVar 12))) (tNil))))) ((tOp (rIxL K) (tVar 1) (tC (.int 0)))))) (tC (.int 0)))))))))))))))))))))))))))))))

theorem pure_l_kept (K : PySem.W.Frag) (XF : XFacts K exs) (vs : List V) (H : Hp) (Q : VK) (E : XK) (h : sp_l_kept K vs H Q E) : t_l_kept K { nx := fun _ H' => Q .non H', rt := Q } (L2.start N_l_kept vs) H := by
  obtain ⟨n, C, F, W, N, Sp, B, A, D, T, T', ns, ms, ss, rs, m, xs, ws, o, rfl, hn, hC, hN, hS, rws, okr, few24, okn, hF, hD, okt, hW, st, few, fb, k⟩ := h
  have elx := st.len
  have elr := rws.len
  have t0 := okn.t0
  have t1 := okn.t1
  have inn : ∀ r ∈ rs, r.u ∈ ns ∧ r.v ∈ ns := fun r hr => ⟨(okr r hr).1.u, (okr r hr).1.v⟩
  have asc : ∀ r ∈ rs, AscR r := fun r hr => (okr r hr).2
  have an : ∀ l ∈ ns, Asc l := fun l hl => nm_asc (okn.nm l hl)
  have am : ∀ l ∈ ms, Asc l := fun l hl => nm_asc (okt.nm l hl)
  have shp : ∀ er, cTurn T ns rs T' ms m o = some er → ShpW er := fun er e => cTurn_shp an am e
  rw [st_l_kept]
  unfold t_l_kept
  walk_at "st"
  refine wp_dictOf (.inl hD) fun p hp => ?_
  have u1 : Same H (upd H p (.dK (mD m ms))) := Same.new hp
  have hp1 : upd H p (.dK (mD m ms)) p = some (.dK (mD m ms)) := upd_same
  revert u1 hp1
  generalize upd H p (.dK (mD m ms)) = H1
  intro u1 hp1
  walk_at "st"
  refine c_TimesG (Same.refl _) hp1 okt fun b G2 H2 v1 v2 v3 _ it => ?_
  have it := it.mono v2
  have u2 := u1.trans v3
  have hC2 := u2 _ _ hC
  have hF2 := u2 _ _ hF
  clear v1 v2 v3 u1 hp1 hp
  walk_at "st"
  refine c_l_unfit (by omega) (u2 _ _ hN) (u2 _ _ hS) (rws.mono u2) inn (by omega) (u2 _ _ hD) fun fa H3 v3 _ hfa => ?_
  have u3 := u2.trans v3
  have it := it.mono v3
  have hC3 := u3 _ _ hC
  clear hC2 hF2 u2 v3
  walk_at "st"
  refine c_l_faultO (u3 _ _ hS) (rws.mono u3) (u3 _ _ hW) (st.mono u3) few asc fb fun H4 v4 => ?_
  have u4 := u3.trans v4
  have it := it.mono v4
  have hfa := v4 _ _ hfa
  clear hC3 u3 v4
  walk_at "st"
  refine wp_cut (fun σ' H' => ∃ fa : Addr, σ' = [some (.ref n), some (.ref C), some (.ref F), some (.ref W), some (.ref b), some (.ref fa), some (.int (oI o)), none, none, none, none, none, none, none] ∧ H' fa = some (.lst (unL (cTurn T ns rs T' ms m o))) ∧ Same H H' ∧ IsTimes (C_Times K) H' b T' ms m) ?_ ?_
  · walk_at "st"
    refine ⟨Nat.zero_le _, fun z hz => ?_⟩
    have v5 := Same.new (o := .lst []) hz
    refine eq_unL (v5 _ _ hfa) upd_same (fun er e => cTurn_shp (o := none) an am (by unfold cTurn; rw [e]; rfl)) ?_
    have u5 := u4.trans v5
    have hfa5 := v5 _ _ hfa
    have it5 := it.mono v5
    cases ek : cKept T ns rs T' ms m with
    | some er =>
      have ec : cTurn T ns rs T' ms m o = some er := by unfold cTurn; rw [ek]; rfl
      rw [ek] at hfa5
      rw [ec]
      walk_at "st"
      exact ⟨fa, rfl, hfa5, u5, it5⟩
    | none =>
      cases o with
      | none =>
        have ec : cTurn T ns rs T' ms m none = none := by unfold cTurn; rw [ek]; rfl
        rw [ek] at hfa5
        rw [ec]
        rw [show oI none = -1 from rfl]
        walk_at "st"
        refine ⟨_, rfl, ?_⟩
        walk_at "st"
        exact ⟨fa, rfl, hfa5, u5, it5⟩
      | some i =>
        have ec : cTurn T ns rs T' ms m (some i) = some (eK i) := by unfold cTurn; rw [ek]; rfl
        rw [ec]
        rw [show oI (some i) = (i : Int) from rfl]
        walk_at "st"
        refine ⟨_, rfl, ?_⟩
        walk_at "st"
        refine ⟨by simp [sizeLine_eq], fun f2 hf2 => ?_⟩
        walk_at "st"
        exact ⟨f2, rfl, by rw [upd_same, unL_K], u5.trans (Same.new hf2), it5.mono (Same.new hf2)⟩
  · clear hfa u4 it
    rintro σ' H4 ⟨fa, rfl, hfa, u4, it⟩
    have hW4 := u4 _ _ hW
    walk_at "st"
    refine wp_listL (sq_of hW4) fun hd hhd => ?_
    have v5 := Same.new (o := .lst xs) hhd
    have u5 := u4.trans v5
    have it := it.mono v5
    have hfa := v5 _ _ hfa
    have hh : upd H4 hd (.lst xs) hd = some (.lst xs) := upd_same
    revert u5 it hfa hh
    generalize upd H4 hd (.lst xs) = H5
    intro u5 it hfa hh
    clear v5 hW4
    walk_at "st"
    refine ⟨Nat.zero_le _, fun fl hfl => ?_⟩
    have v6 := Same.new (o := .lst []) hfl
    have u6 := u5.trans v6
    have it := it.mono v6
    have hfa := v6 _ _ hfa
    have hh := v6 _ _ hh
    have hfl6 : upd H5 fl (.lst []) fl = some (.lst []) := upd_same
    revert u6 it hfa hh hfl6
    generalize upd H5 fl (.lst []) = H6
    intro u6 it hfa hh hfl6
    clear v6
    have tk : Tk K H6 n b hd T T' ns ms ss rs m xs ws o := ⟨hn.mono u6, it, rws.mono u6, inn, by omega, by omega, by omega, hh, st.mono u6, few, fb⟩
    walk_at "st"
    refine wp_tryW ?_
    walk_at "st"
    refine wp_callSW ?_
    walk_at "st"
    refine c_turn tk (fun er ec => ?_) (fun ec H7 s7 => ?_)
    · have sh := shp er ec
      have mem := unL_mem sh
      have i0 := XF.i er.c mem
      rw [ec] at hfa
      intro dd H7 s7 hdd hx
      have u7 := u6.trans s7
      have tk := tk.mono s7
      have hfa7 := s7 _ _ hfa
      have hh7 := s7 _ _ hh
      refine wAs_yes (XF.b er.c mem) fun ea hea => ?_
      rw [show ([some (.ref n), some (.ref C), some (.ref F), some (.ref W), some (.ref b), some (.ref fa), some (.int (oI o)), some (.ref hd), some .non, some (.ref fl), none, none, none, none] : L2.St).set 10 (some (.ref ea)) = [some (.ref n), some (.ref C), some (.ref F), some (.ref W), some (.ref b), some (.ref fa), some (.int (oI o)), some (.ref hd), some .non, some (.ref fl), some (.ref ea), none, none, none] from rfl]
      walk_at "st"
      refine wp_isX hx i0 (fun u hu => hu) (XF.v er.c mem) ?_
      walk_at "st"
      refine wp_isX hx i0 (fun u hu => hu) (XF.k er.c mem "BadNumber" (by decide +kernel)) ?_
      walk_at "st"
      refine wp_isX hx i0 (fun u hu => hu) (XF.k er.c mem "WrongNames" (by decide +kernel)) ?_
      walk_at "st"
      refine wp_isX hx i0 (fun u hu => hu) (XF.k er.c mem "BrokenSpan" (by decide +kernel)) ?_
      walk_at "st"
      refine wp_isX hx i0 (fun u hu => hu) (XF.k er.c mem "BadWalk" (by decide +kernel)) ?_
      walk_at "st"
      refine wp_isX hx i0 (fun u hu => hu) (XF.k er.c mem "UnknownEvent" (by decide +kernel)) ?_
      walk_at "st"
      refine wp_isX hx i0 (fun u hu => hu) (XF.k er.c mem "UnknownSpan" (by decide +kernel)) ?_
      walk_at "st"
      refine ⟨by simp [sizeLine_eq], fun g hg => ?_⟩
      obtain ⟨d1, d2, d3⟩ := dueB sh
      rw [d2, d3]
      have v8 := Same.new (o := .lst [.bl true, .bl (decide (er.c = "BadNumber")), .bl (decide (er.c = "WrongNames")), .bl (decide (er.c = "BrokenSpan")), .bl (decide (er.c = "BadWalk")), .bl false, .bl false]) hg
      have hg8 : upd H7 g (.lst [.bl true, .bl (decide (er.c = "BadNumber")), .bl (decide (er.c = "WrongNames")), .bl (decide (er.c = "BrokenSpan")), .bl (decide (er.c = "BadWalk")), .bl false, .bl false]) g = some (.lst (([true] ++ (kYs.map fun y => decide (S y = S (knd er.c))) ++ [false, false]).map V.bl)) := by
        rw [upd_same, d1]
        rfl
      have u8 := u7.trans v8
      have tk := tk.mono v8
      have hfa8 := v8 _ _ hfa7
      have hh8 := v8 _ _ hh7
      revert u8 tk hfa8 hh8 hg8
      generalize upd H7 g (.lst [.bl true, .bl (decide (er.c = "BadNumber")), .bl (decide (er.c = "WrongNames")), .bl (decide (er.c = "BrokenSpan")), .bl (decide (er.c = "BadWalk")), .bl false, .bl false]) = H8
      intro hg8 u8 tk hfa8 hh8
      clear v8 hfa7 hh7 u7
      walk_at "st"
      rw [show ([some (.ref n), some (.ref C), some (.ref F), some (.ref W), some (.ref b), some (.ref fa), some (.int (oI o)), some (.ref hd), some .non, some (.ref g), some (.ref ea), none, none, none] : L2.St).set 10 none = [some (.ref n), some (.ref C), some (.ref F), some (.ref W), some (.ref b), some (.ref fa), some (.int (oI o)), some (.ref hd), some .non, some (.ref g), none, none, none, none] from rfl]
      walk_at "st"
      refine c_l_same (sm_sti hh8 (u8 _ _ hW) (st.mono u8) (st.mono u8) few) fun H9 v9 => ?_
      have u9 := u8.trans v9
      have tk := tk.mono v9
      have hF9 := u9 _ _ hF
      walk_at "st"
      refine c_Times_minutes tk.t fun mi hmi => ?_
      have v10 := Same.new (o := .dK (mD m ms)) hmi
      have hF10 := v10 _ _ hF9
      have hD10 := v10 _ _ (u9 _ _ hD)
      have nmD : mi ≠ D := fun e => by rw [e, u9 _ _ hD] at hmi; cases hmi
      walk_at "st"
      refine c_l_sameD (smD_m nmD upd_same hD10 okt.few am) fun H11 v11 => ?_
      have v911 := v10.trans v11
      have u11 := u9.trans v911
      have tk := tk.mono v911
      have hfa11 := v911 _ _ (v9 _ _ hfa8)
      have hg11 := v911 _ _ (v9 _ _ hg8)
      clear hF9 hF10 hD10 u9 v911 v10 v11 v9 hfa8 hh8 hg8 u8
      walk_at "st"
      refine ⟨Nat.zero_le _, fun z hz => ?_⟩
      have v12 := Same.new (o := .lst []) hz
      refine ne_unL (e := some er) (v12 _ _ hfa11) upd_same (fun er' e => by cases e; exact sh) ?_
      have u12 := u11.trans v12
      have tk := tk.mono v12
      have hfa12 := v12 _ _ hfa11
      have hg12 := v12 _ _ hg11
      revert u12 tk hfa12 hg12
      generalize upd H11 z (.lst []) = H12
      intro u12 tk hfa12 hg12
      clear v12 hfa11 hg11 u11
      walk_at "st"
      refine ⟨by simp [sizeLine_eq], fun t1 ht1 => ?_⟩
      have v13 := Same.new (o := .lst [.bl true]) ht1
      have ht13 : upd H12 t1 (.lst [.bl true]) t1 = some (.lst [.bl true]) := upd_same
      have hfa13 := v13 _ _ hfa12
      revert v13 ht13 hfa13
      generalize upd H12 t1 (.lst [.bl true]) = H13
      intro v13 ht13 hfa13
      walk_at "st"
      refine ⟨by simp [sizeLine_eq], fun t2 ht2 => ?_⟩
      have v14 := Same.new (o := .lst (kYs.map sv)) ht2
      have ht24 : upd H13 t2 (.lst (kYs.map sv)) t2 = some (.lst (kYs.map sv)) := upd_same
      have e14 : upd H13 t2 (.lst [.str (S Y_length), .str (S Y_names), .str (S Y_span), .str (S Y_walk)]) = upd H13 t2 (.lst (kYs.map sv)) := rfl
      rw [e14]
      have hfa14 := v14 _ _ hfa13
      have ht14 := v14 _ _ ht13
      revert v14 ht24 hfa14 ht14
      generalize upd H13 t2 (.lst (kYs.map sv)) = H14
      intro v14 ht24 hfa14 ht14
      refine lcGL (sq_of ht24) (by simp [kYs]) (fun i => (((kYs.take i).map fun y => decide (S y = S (knd er.c))).map V.bl)) rfl (fun i => by simp only [List.length_map, List.length_take]; omega) (fun i x H15 R R0 hi s15 k1 k0 => ?_) (fun t3 H15 ht3 v15 ht35 => ?_)
      · rw [List.getElem?_map] at hi
        obtain ⟨y, hy, rfl⟩ := Option.map_eq_some_iff.mp hi
        have hfa15 := s15 _ _ hfa14
        rw [unL_at] at hfa15
        rw [show wipe ([some (.ref n), some (.ref C), some (.ref F), some (.ref W), some (.ref b), some (.ref fa), some (.int (oI o)), some (.ref hd), some .non, some (.ref g), none, none, none, none] : L2.St) [13] = [some (.ref n), some (.ref C), some (.ref F), some (.ref W), some (.ref b), some (.ref fa), some (.int (oI o)), some (.ref hd), some .non, some (.ref g), none, none, none, none] from rfl]
        walk_at "st"
        refine ⟨rfl, ?_⟩
        walk_at "st"
        exact k1 _ _ (Same.refl _) (by rw [take_snoc hy, List.map_append, List.map_append]; rfl)
      rw [List.length_map, List.take_length] at ht35
      have v25 := (v13.trans v14).trans v15
      walk_at "st"
      refine wp_cat (v15 _ _ ht14) ht35 (by simp [kYs]) fun t4 ht4 => ?_
      have v16 := Same.new (o := .lst ([.bl true] ++ ((kYs.map fun y => decide (S y = S (knd er.c))).map V.bl))) ht4
      walk_at "st"
      refine ⟨by simp [sizeLine_eq], fun t5 ht5 => ?_⟩
      have v17 := Same.new (o := .lst [.bl false, .bl false]) ht5
      refine wp_cat (v17 _ _ upd_same) upd_same (by simp [kYs]) fun t6 ht6 => ?_
      have v18 := Same.new (o := .lst ([.bl true] ++ ((kYs.map fun y => decide (S y = S (knd er.c))).map V.bl) ++ [.bl false, .bl false])) ht6
      have v28 := v25.trans (v16.trans (v17.trans v18))
      have hd18 : upd (upd (upd H15 t4 (.lst ([.bl true] ++ ((kYs.map fun y => decide (S y = S (knd er.c))).map V.bl)))) t5 (.lst [.bl false, .bl false])) t6 (.lst ([.bl true] ++ ((kYs.map fun y => decide (S y = S (knd er.c))).map V.bl) ++ [.bl false, .bl false])) t6 = some (.lst (([true] ++ (kYs.map fun y => decide (S y = S (knd er.c))) ++ [false, false]).map V.bl)) := by
        rw [upd_same, List.map_append, List.map_append]
        rfl
      have u18 := u12.trans v28
      have tk := tk.mono v28
      have hfa18 := v28 _ _ hfa12
      have hg18 := v28 _ _ hg12
      revert u18 tk hfa18 hg18 hd18
      generalize upd (upd (upd H15 t4 (.lst ([.bl true] ++ ((kYs.map fun y => decide (S y = S (knd er.c))).map V.bl)))) t5 (.lst [.bl false, .bl false])) t6 (.lst ([.bl true] ++ ((kYs.map fun y => decide (S y = S (knd er.c))).map V.bl) ++ [.bl false, .bl false])) = H18
      intro hd18 u18 tk hfa18 hg18
      walk_at "st"
      refine wp_eqBs2 hg18 hd18 ?_
      walk_at "st"
      refine c_l_told tk ec sh fun to H19 v19 _ hto => ?_
      walk_at "st"
      refine c_l_same (unL_sm sh hto (v19 _ _ hfa18)) fun H20 v20 => ?_
      exact k H20 ((u18.trans v19).trans v20)
    · have u7 := u6.trans s7
      have tk := tk.mono s7
      rw [ec] at hfa
      have hfa7 := s7 _ _ hfa
      have hh7 := s7 _ _ hh
      have hfl7 := s7 _ _ hfl6
      have eo : o = none := by
        unfold cTurn at ec
        have z := (Option.or_eq_none_iff.mp ec).2
        cases o with
        | none => rfl
        | some i => cases z
      subst eo
      have hgood : ∀ i < ws.length, bad rs ws i = false := fb
      have ek : cKept T ns rs T' ms m = none := (Option.or_eq_none_iff.mp ec).1
      obtain ⟨eT, inm, al⟩ := kept_all ek
      subst eT
      generalize hv : sov (gvs T' m rs) ((gvs T' m rs).map fun i => -i) ws = v
      walk_at "st"
      refine c_l_same (sm_sti hh7 (u7 _ _ hW) (st.mono u7) (st.mono u7) few) fun H9 v9 => ?_
      have u9 := u7.trans v9
      have tk := tk.mono v9
      have hF9 := u9 _ _ hF
      walk_at "st"
      refine c_Times_minutes tk.t fun mi hmi => ?_
      have v10 := Same.new (o := .dK (mD m ms)) hmi
      have hF10 := v10 _ _ hF9
      have hD10 := v10 _ _ (u9 _ _ hD)
      have nmD : mi ≠ D := fun e => by rw [e, u9 _ _ hD] at hmi; cases hmi
      walk_at "st"
      refine c_l_sameD (smD_m nmD upd_same hD10 okt.few am) fun H11 v11 => ?_
      have v911 := v10.trans v11
      have u11 := u9.trans v911
      have hfa11 := v911 _ _ (v9 _ _ hfa7)
      have hfl11 := v911 _ _ (v9 _ _ hfl7)
      clear hF9 hF10 hD10 u9 v911 v10 v11 v9 hfa7 hh7 u7
      walk_at "st"
      refine ⟨Nat.zero_le _, fun z hz => ?_⟩
      have v12 := Same.new (o := .lst []) hz
      refine ne_unL (e := none) (v12 _ _ hfa11) upd_same (fun er' e => by cases e) ?_
      have u12 := u11.trans v12
      have hfl12 := v12 _ _ hfl11
      revert u12 hfl12
      generalize upd H11 z (.lst []) = H12
      intro u12 hfl12
      clear v12 hfa11 hfl11 u11
      walk_at "st"
      refine ⟨_, rfl, ?_⟩
      walk_at "st"
      refine ⟨Nat.zero_le _, fun z hz => ?_⟩
      have v13 := Same.new (o := .lst []) hz
      refine wp_neNL (ds := []) (v13 _ _ hfl12) upd_same .nil rfl ?_
      rw [show (!decide (([] : List PyData) = [])) = false from rfl]
      have u13 := u12.trans v13
      revert u13
      generalize upd H12 z (.lst []) = H13
      intro u13
      have hC13 := u13 _ _ hC
      have hF13 := u13 _ _ hF
      walk_at "st"
      refine c_l_all_gone (by omega) (u13 _ _ hS) (rws.mono u13) (by omega) (u13 _ _ hD) (fun r hr => ⟨inm _ (inn r hr).1, inm _ (inn r hr).2⟩) fun ga H14 hga0 v14 hga => ?_
      have u14 := u13.trans v14
      rw [pas_gvs al] at hga
      have stp : Stp (gvs T' m rs).length ws := by
        unfold gvs
        rw [List.length_map]
        exact stp_good hgood
      walk_at "st"
      refine c_l_turn hga (u14 _ _ hW) (st.mono u14) few stp ?_
      rw [hv]
      walk_at "st"
      refine c_l_same sm_int fun H15 v15 => ?_
      have u15 := u14.trans v15
      have hW15 := u15 _ _ hW
      walk_at "st"
      by_cases e0 : ws = []
      · have hx0 : xs.length = 0 := by rw [elx, e0]; rfl
        have hv0 : v = 0 := by rw [← hv, e0]; rfl
        subst hv0
        walk_at "st"
        rw [show decide ((0 : Int) = 0) = true from rfl]
        exact k H15 u15
      · have hp := List.length_pos_iff.mpr e0
        obtain ⟨s0, w0⟩ : ∃ s0, ws[0]? = some s0 := ⟨_, List.getElem?_eq_getElem hp⟩
        obtain ⟨sl, wl⟩ : ∃ sl, ws[ws.length - 1]? = some sl := ⟨_, List.getElem?_eq_getElem (by omega)⟩
        obtain ⟨⟨a0, c⟩, es0⟩ := bad_sd w0 (hgood 0 hp)
        obtain ⟨⟨d, b0⟩, esl⟩ := bad_sd wl (hgood (ws.length - 1) (by omega))
        have en : EndsOf rs ws a0 b0 := ⟨s0, sl, c, d, w0, es0, wl, esl⟩
        have wk := wk_good hgood en
        have z0 := sov_mod (T := T') (m := m) wk
        rw [hv] at z0
        have amem : ∀ {s : Int × Int} {x y : List Nat}, sd rs s = some (x, y) → x ∈ ms ∧ y ∈ ms := fun {s x y} e => by
          obtain ⟨i, r, _, er, hd⟩ := sd_row e
          have q := inn r (List.mem_of_getElem? er)
          rcases hd with ⟨_, rfl, rfl⟩ | ⟨_, rfl, rfl⟩
          · exact ⟨inm _ q.1, inm _ q.2⟩
          · exact ⟨inm _ q.2, inm _ q.1⟩
        have hC15 := u15 _ _ hC
        have hF15 := u15 _ _ hF
        have hD15 := u15 _ _ hD
        unfold mD at hD15
        refine ite_dec (fun z => absurd (show (xs.length : Int) = 0 from z) (by omega)) (fun _ => ?_)
        walk_at "st"
        refine c_l_finish (u15 _ _ hS) (rws.mono u15) hW15 (st.mono u15) wl esl ?_
        walk_at "st"
        refine dget_s (.inl hD15) (dN_val (amem esl).2) ?_
        walk_at "st"
        refine c_l_begin (u15 _ _ hS) (rws.mono u15) hW15 (st.mono u15) w0 es0 ?_
        walk_at "st"
        refine dget_s (.inl hD15) (dN_val (amem es0).1) ?_
        walk_at "st"
        rw [z0]
        exact k H15 u15
theorem len_l_kept (K : PySem.W.Frag) (vs : List V) (H : Hp) (Q : VK) (E : XK) (h : sp_l_kept K vs H Q E) : vs.length = 4 := by
  obtain ⟨_, _, _, _, _, _, _, _, _, _, _, _, _, _, _, _, _, _, _, rfl, _⟩ := h
  rfl
theorem c_l_kept {K : PySem.W.Frag} {n C F W N Sp B A D : Addr} {T T' : Int} {ns ms : List (List Nat)} {ss : List V} {rs : List Row} {m : List Nat → Int} {xs : List V} {ws : List (Int × Int)} {o : Option Nat} {H : Hp} {Q : VK} {E : XK} (hn : IsNet (C_Net K) H n T ns ss) (hC : H C = some (.lst [.int T, .ref N, .ref Sp, .ref B, .ref A])) (hN : H N = some (.lst (ns.map sv))) (hS : H Sp = some (.lst ss)) (rws : Rws H ss rs) (okr : ∀ r ∈ rs, OkR T ns r ∧ AscR r) (few24 : rs.length ≤ 24) (okn : OkNs T ns)
    (hF : H F = some (.lst [.int T', .ref D])) (hD : H D = some (.dK (mD m ms))) (okt : OkTm T' ms m) (hW : H W = some (.lst xs)) (st : StI H xs ws) (few : ws.length ≤ 1000) (fb : FB rs ws o) (k : ∀ H', Same H H' → Q (.bl true) H') : sp_l_kept K [.ref n, .ref C, .ref F, .ref W] H Q E := ⟨n, C, F, W, N, Sp, B, A, D, T, T', ns, ms, ss, rs, m, xs, ws, o, rfl, hn, hC, hN, hS, rws, okr, few24, okn, hF, hD, okt, hW, st, few, fb, k⟩
def sp_law (K : PySem.W.Frag) : Sp := fun vs H Q _ => ∃ (a : Addr) (ns : List Int), vs = [.ref a] ∧ SqL K H a (ns.map V.int) ∧ ns.length ≤ 63 ∧ ∀ H', Q (.bl true) H' 
abbrev N_law : List Str := ["_law_script", "_law_pool_here", "_law_size", "_law_case_here", "_law_net", "_law_walk_here", "_law_back", "_law_found", "_law_steps_here", "_law_step"]
theorem st_law {a0 : V} : L2.start N_law [a0] = [some a0, none, none, none, none, none, none, none, none, none] := rfl
def t_law (K : PySem.W.Frag) : TS :=
  (tSeq ((tAsg ((tCall (sp_l_pool K) [] E0 ((tCons (tVar 0) (tNil))))) (gName 1)))
    ((tSeq ((tAsg ((tCall (sp_l_draw K) [] E0 ((tCons (tVar 1) ((tCons (tC (.int 4)) (tNil))))))) (gName 2)))
    ((tSeq ((tAsg ((tCall (sp_l_case K) [] E0 ((tCons (tVar 1) ((tCons ((tOp (rI0 fun i j => .int (i + j)) ((tOp (rI CMul fun i j => .int (i * j)) (tC (.int 3)) (tVar 2))) (tC (.int 3)))) ((tCons ((tOp (rI0 fun i j => .int (i + j)) ((tOp (rI CMul fun i j => .int (i * j)) (tC (.int 6)) (tVar 2))) (tC (.int 6)))) ((tCons (tC (.int 120)) (tNil))))))))))) (gName 3)))
    ((tSeq ((tAsg ((tMake (C_Net K) (sp_Net_init K) [] E0 ((tCons ((tOp (rIxL K) (tVar 3) (tC (.int 0)))) ((tCons ((tCB (rListS K) ((tCons ((tOp (rIxL K) (tVar 3) (tC (.int 1)))) (tNil))))) ((tCons ((tCB (rListS K) ((tCons ((tOp (rIxL K) (tVar 3) (tC (.int 2)))) (tNil))))) (tNil))))))))) (gName 4)))
    ((tSeq ((tAsg ((tCall (sp_l_steps K) [] E0 ((tCons (tVar 1) ((tCons ((tOp (rIxL K) (tVar 3) (tC (.int 1)))) ((tCons ((tOp (rIxL K) (tVar 3) (tC (.int 2)))) ((tCons (tC (.int 16)) (tNil))))))))))) (gName 5)))
    ((tSeq ((tAsg (tLc ((iList K ((tRevL K (tVar 5))))) ((gName 9)) (tYes) ((tTup ((tCons ((tOp (rIxT K) (tVar 9) (tC (.int 0)))) ((tCons ((tUn (rU fun i => .int (-i)) ((tOp (rIxT K) (tVar 9) (tC (.int 1)))))) (tNil))))))) [9]) (gName 6)))
    ((tSeq ((tAsg ((tCall (sp_l_faulty K) [] E0 ((tCons (tVar 1) ((tCons ((tOp (rIxL K) (tVar 3) (tC (.int 0)))) ((tCons ((tOp (rIxL K) (tVar 3) (tC (.int 1)))) ((tCons ((tOp (rIxL K) (tVar 3) ((tOp (rI0 fun i j => .int (i + j)) (tC (.int 3)) ((tCall (sp_l_draw K) [] E0 ((tCons (tVar 1) ((tCons (tC (.int 2)) (tNil))))))))))) (tNil))))))))))) (gName 7)))
    ((tSeq ((tFor ((iList K ((tLst ((tCons (tVar 5) ((tCons (tVar 6) ((tCons (tVar 5) (tNil))))))))))) (gName 8) ((tIfS ((tNot ((tB ((tCall (sp_l_kept K) [] E0 ((tCons (tVar 4) ((tCons (tVar 3) ((tCons (tVar 7) ((tCons (tVar 8) (tNil))))))))))))))) ((tRet (tC (.bl false)))) (tNext)))))
    ((tRet (tC (.bl true)))))))))))))))))))

theorem pure_law (K : PySem.W.Frag) (vs : List V) (H : Hp) (Q : VK) (E : XK) (h : sp_law K vs H Q E) : t_law K { nx := fun _ H' => Q .non H', rt := Q } (L2.start N_law vs) H := by
  obtain ⟨z0, cs, rfl, hx, hn, kq⟩ := h
  rw [st_law]
  unfold t_law
  walk_at "st"
  refine c_l_pool hx hn fun P G0 H0 _ hs0 => ?_
  walk_at "st"
  refine c_l_draw hs0 (by omega) fun z H1 y0 y1 hs1 => ?_
  walk_at "st"
  refine c_l_case hs1 (by omega) (by omega) (by omega) fun C T N S A B ns ss bs cs G2 H2 cc g2 hs2 => ?_
  have fs : ss.length ≤ 24 := by have := cc.ms; omega
  have ok := cc.ok
  have hC2 := hs2.sub _ _ cc.hL
  walk_at "st"
  refine wp_listL (sq_of (hs2.sub _ _ cc.hN)) fun e he => ?_
  obtain ⟨G4, hs4, g4, e4⟩ := hs2.new' (.lst (ns.map sv)) he
  have hC4 := hs4.sub _ _ (g4 _ _ cc.hL)
  walk_at "st"
  refine wp_listL (sq_of (hs4.sub _ _ (g4 _ _ cc.hS))) fun f hf => ?_
  obtain ⟨G5, hs5, g5, e5⟩ := hs4.new' (.lst ss) hf
  have g45 := g4.trans g5
  have spz : ∀ x ∈ ss, IsSp G2 T ns x := fun x hx => (cc.sp x hx).sp
  walk_at "st"
  refine c_Net hs5 (hs5.sub _ _ (g5 _ _ e4)) (hs5.sub _ _ e5) ok ⟨fs, fun x hx => ((spz x hx).mono g45).mono hs5.sub⟩ fun n G6 H6 g6 s6 _ hnet hs6 => ?_
  have g46 := g45.trans g6
  have hC6 := hs6.sub _ _ (g46 _ _ cc.hL)
  have hN6 := g46 _ _ cc.hN
  have hS6 := g46 _ _ cc.hS
  obtain ⟨rs, rws2⟩ := rws_ex spz
  have okr := rws2.all ok.nm spz
  have rws6 := rws2.mono g46
  have elr := rws2.len
  walk_at "st"
  refine c_l_steps hs6 hN6 hS6 rws6 (fun r hr => ⟨(okr r hr).1.u, (okr r hr).1.v⟩) ok.nodup (by have := ok.few; omega) (by omega) (by omega) fun W xs ws G7 H7 lw st hW g7 hs7 => ?_
  have elx := st.len
  walk_at "st"
  refine wp_revW ?_
  walk_at "st"
  refine ⟨W, xs, rfl, sq_of (hs7.sub _ _ hW), fun R hR => ?_⟩
  obtain ⟨G8, hs8, g8, e8⟩ := hs7.new' (.lst xs.reverse) hR
  walk_at "st"
  refine lcInvL (sq_of (hs8.sub _ _ e8)) (by rw [List.length_reverse]; omega) (fun i acc G' => ∃ us, us.length = i ∧ StF (upd H7 R (.lst xs.reverse)) G' acc us) ⟨[], rfl, .nil⟩ (fun i x acc G' H9 Rr hx' s1 s2 hI kR => ?_) (fun D acc G' H9 hD s1 s2 hD9 hl hI gD => ?_)
  · obtain ⟨us, lu, hus⟩ := hI
    have hi := (List.getElem?_eq_some_iff.mp hx').1
    rw [List.length_reverse] at hi
    rw [List.getElem?_reverse hi] at hx'
    obtain ⟨p, u, rfl, _, _, hp⟩ := (st.mono hs7.sub).at_ hx'
    have hp9 := s2 _ _ (s1 _ _ (Same.new hR _ _ hp))
    rw [show wipe ([some (.ref z0), some (.ref P.p), some (.int z), some (.ref C), some (.ref n), some (.ref W), none, none, none, none] : L2.St) [9] = [some (.ref z0), some (.ref P.p), some (.int z), some (.ref C), some (.ref n), some (.ref W), none, none, none, none] from rfl]
    walk_at "st"
    refine ⟨rfl, ?_⟩
    walk_at "st"
    refine ⟨by simp [sizeLine_eq], fun a ha => ?_⟩
    have ga := s2.free ha
    exact kR _ (upd G' a (.tup [.int u.1, .int (-u.2)])) _ (Same.new ga) (Same.upd2 s2) (Same.new ha) (fun q o e f => by rw [upd_ne (ne_of_none e ha)]; exact f) ⟨us ++ [(u.1, -u.2)], by rw [List.length_append, lu]; rfl, StF.app (StF.one (s1.free ga) upd_same) (hus.mono (Same.new ga))⟩
  obtain ⟨us, lu, hus⟩ := hI
  rw [List.length_reverse] at lu
  have s12 := s1.trans s2
  obtain ⟨G9, hs9, g9, new9, _⟩ := hs8.gain s12
  have stu : StI G9 acc us := (hus.mono s2).map fun _ _ f e => ⟨rfl, new9 _ _ f e⟩
  have hD9' := new9 D _ hD hD9
  have g79 := g8.trans g9
  have g29 := g46.trans (g7.trans g79)
  have hC9 := hs9.sub _ _ (g29 _ _ cc.hL)
  clear hs8 hs7 hs6 hs5 hs4 hs2 hs1 hs0 hC6 hC4 hC2
  walk_at "st"
  refine c_l_draw hs9 (by omega) fun dr HA d0 d1 hsA => ?_
  have hCA := hsA.sub _ _ (g29 _ _ cc.hL)
  obtain ⟨M, is, eM, hM, lM⟩ : ∃ (M : Addr) (is : List Int), ([.int T, .ref N, .ref S, .ref B, .ref A] : List V)[(3 + dr).toNat]? = some (.ref M) ∧ G9 M = some (.lst (is.map V.int)) ∧ is.length = ns.length := by
    rcases (show dr = 0 ∨ dr = 1 by omega) with rfl | rfl
    · exact ⟨B, bs, rfl, g29 _ _ cc.hB, cc.lb⟩
    · exact ⟨A, _, rfl, g29 _ _ cc.hA, by rw [List.length_map, List.length_range]⟩
  walk_at "st"
  refine wp_ixV (sq_of hCA) (by omega) eM ?_
  walk_at "st"
  refine c_l_faulty hsA ⟨ok.t0, ok.t1⟩ ok.few ok.nm (g29 _ _ cc.hN) hM lM fun F D2 T' ms fm GB HB okt ndm hF hD2 gB hsB => ?_
  have g2B := g29.trans gB
  have g9B := g79.trans gB
  walk_at "st"
  refine ⟨by simp [sizeLine_eq], fun L hL => ?_⟩
  obtain ⟨GC, hsC, gC, eC⟩ := hsB.new' (.lst [.ref W, .ref D, .ref W]) hL
  have g2C := g2B.trans gC
  have g7C := g9B.trans gC
  have kept : ∀ {H' : Hp} {Qb : VK} {x : V}, Same GC H' → x ∈ ([.ref W, .ref D, .ref W] : List V) → (∀ H2, Same H' H2 → Qb (.bl true) H2) → sp_l_kept K [.ref n, .ref C, .ref F, x] H' Qb E0 := by
    intro H' Qb x sh hx kk
    have one : ∀ {w : Addr} {ys : List V} {us : List (Int × Int)}, GC w = some (.lst ys) → StI GC ys us → us.length ≤ 1000 → sp_l_kept K [.ref n, .ref C, .ref F, .ref w] H' Qb E0 := fun {w ys us} hw hst hl => by
      obtain ⟨o, fb⟩ := fb_ex rs us
      exact c_l_kept ((hnet.mono (g7.trans g7C)).mono sh) (sh _ _ (g2C _ _ cc.hL)) (sh _ _ (g2C _ _ cc.hN)) (sh _ _ (g2C _ _ cc.hS)) ((rws2.mono g2C).mono sh) okr (by omega) ok (sh _ _ (gC _ _ hF)) (sh _ _ (gC _ _ hD2)) okt (sh _ _ hw) (hst.mono sh) hl fb kk
    have sW := one (g7C _ _ hW) (st.mono g7C) (by omega)
    rcases List.mem_cons.mp hx with rfl | hx
    · exact sW
    · rcases List.mem_cons.mp hx with rfl | hx
      · exact one ((gB.trans gC) _ _ hD9') (stu.mono (gB.trans gC)) (by omega)
      · rw [List.mem_singleton.mp hx]
        exact sW
  walk_at "st"
  refine loopL (sq_of (hsC.sub _ _ eC)) (fun i σ' H' => ∃ x, σ' = [some (.ref z0), some (.ref P.p), some (.int z), some (.ref C), some (.ref n), some (.ref W), some (.ref D), some (.ref F), x, none] ∧ Same GC H') ⟨_, rfl, hsC.sub⟩ ?_ ?_ ?_
  · rintro i σ' H' _ ⟨x, rfl, sh⟩
    exact sq_of (sh _ _ eC)
  · rintro i v σ' H' hv ⟨x, rfl, sh⟩
    walk_at "st"
    refine kept sh (List.mem_of_getElem? hv) fun H2 s2 => ?_
    walk_at "st"
    exact ⟨_, rfl, sh.trans s2⟩
  · rintro σ' H' ⟨x, rfl, sh⟩
    walk_at "st"
    exact kq H'
theorem len_law (K : PySem.W.Frag) (vs : List V) (H : Hp) (Q : VK) (E : XK) (h : sp_law K vs H Q E) : vs.length = 1 := by
  obtain ⟨_, _, rfl, _⟩ := h
  rfl
structure Txt (K : PySem.W.Frag) (mg : Str → Option Value) : Prop where
  f_list : mg "list" = none
  cls_Net : Cls K (C_Net K)
  na_Net__round_length : NoAttr K (C_Net K) "_round_length"
  na_Net__events : NoAttr K (C_Net K) "_events"
  na_Net__spans : NoAttr K (C_Net K) "_spans"
  g_Net : mg "Net" = some (.ref (C_Net K))
  rd_Net : ClX.CRead K (C_Net K) (.type "type")
  cv_Net_EVENTS : ∃ u, ClX.CVal K (C_Net K) (.type "type") "EVENTS" (.int 12) u
  f_len : mg "len" = none
  f_enumerate : mg "enumerate" = none
  cv_Net_SPANS : ∃ u, ClX.CVal K (C_Net K) (.type "type") "SPANS" (.int 24) u
  cv_Net_LONGEST : ∃ u, ClX.CVal K (C_Net K) (.type "type") "LONGEST" (.int 120) u
  cv_Net_SHORTEST : ∃ u, ClX.CVal K (C_Net K) (.type "type") "SHORTEST" (.int 3) u
  c_LONGEST_NAME : ∃ u, mg "LONGEST_NAME" = some u ∧ RelV (.int 8) u
  c_LETTERS : ∃ u, mg "LETTERS" = some u ∧ RelV (.str (S Z26)) u
  c_DIGITS : ∃ u, mg "DIGITS" = some u ∧ RelV (.str (S Z10)) u
  f_all : mg "all" = none
  cv_Net_HEAVIEST : ∃ u, ClX.CVal K (C_Net K) (.type "type") "HEAVIEST" (.int 99) u
  f_int : mg "int" = none
  f_range : mg "range" = none
  f_str : mg "str" = none
  f_min : mg "min" = none
  f_max : mg "max" = none
  f_dict : mg "dict" = none
  g_MinuteError : mg "MinuteError" = some (.ref (C_MinuteError K))
  f_isinstance : mg "isinstance" = none
  g_UnknownSpan : mg "UnknownSpan" = some (.ref (C_UnknownSpan K))
  g_UnknownEvent : mg "UnknownEvent" = some (.ref (C_UnknownEvent K))
  g_BadWalk : mg "BadWalk" = some (.ref (C_BadWalk K))
  g_BrokenSpan : mg "BrokenSpan" = some (.ref (C_BrokenSpan K))
  g_WrongNames : mg "WrongNames" = some (.ref (C_WrongNames K))
  g_BadNumber : mg "BadNumber" = some (.ref (C_BadNumber K))
  f_ValueError : mg "ValueError" = none
  cls_Times : Cls K (C_Times K)
  ox_BrokenSpan : OexC K (C_BrokenSpan K)
  na_BrokenSpan_number : NoAttr K (C_BrokenSpan K) "number"
  ox_BadNumber : OexC K (C_BadNumber K)
  na_BadNumber_number : NoAttr K (C_BadNumber K) "number"
  ox_WrongNames : OexC K (C_WrongNames K)
  na_WrongNames_name : NoAttr K (C_WrongNames K) "name"
  f_iter : mg "iter" = none
  na_Times__round_length : NoAttr K (C_Times K) "_round_length"
  na_Times__minutes : NoAttr K (C_Times K) "_minutes"
  ox_BadWalk : OexC K (C_BadWalk K)
  na_BadWalk_at : NoAttr K (C_BadWalk K) "at"
  f_sum : mg "sum" = none
  f_bool : mg "bool" = none
  f_tuple : mg "tuple" = none
  xf_BadNumber : XfC K (C_BadNumber K)
  xf_WrongNames : XfC K (C_WrongNames K)
  xf_BrokenSpan : XfC K (C_BrokenSpan K)
  xf_BadWalk : XfC K (C_BadWalk K)
  xf : XFacts K exs
  g_Times : mg "Times" = some (.ref (C_Times K))
section
variable {P : Program} {w : World} {K : PySem.W.Frag} {mg : Str → Option Value} {base : Heap}
theorem sc_check_range : FnScope N_check_range ["number", "low", "high"] (defScope s_check_range) := ⟨rfl, rfl, rfl, by decide +kernel, rfl, by decide +kernel, by decide +kernel⟩
theorem ok_check_range {f : Addr} {fd : FuncData} (F : FunD K "check_range" "check_range" (defArgs s_check_range) (defBody s_check_range) (defScope s_check_range) [] [] f fd) (T : Txt K mg) : FnOk P w K mg base CX0 1 f fd ["number", "low", "high"] (sp_check_range K) := by
  refine F.ok sc_check_range (len_check_range K) (fun cdv A outer s H vs Q E hr h => ⟨t_check_range K, PSs.nox ?_, pure_check_range K vs H Q E h⟩)
  exact (pss_one (ps_if (pt_not (pt_chain op_le op_le (pv 1) (pv 0) (pv 2))) (pss_one ps_never) pss_nil))
theorem sc_check_round_length : FnScope N_check_round_length ["round_length"] (defScope s_check_round_length) := ⟨rfl, rfl, rfl, by decide +kernel, rfl, by decide +kernel, by decide +kernel⟩
theorem ok_check_round_length {f : Addr} {fd : FuncData} (F : FunD K "check_round_length" "check_round_length" (defArgs s_check_round_length) (defBody s_check_round_length) (defScope s_check_round_length) [] [] f fd) (T : Txt K mg) (G_check_range : C8.Cal P w K mg base (1) "check_range" (sp_check_range K) []) : FnOk P w K mg base CX0 2 f fd ["round_length"] (sp_check_round_length K) := by
  refine F.ok sc_check_round_length (len_check_round_length K) (fun cdv A outer s H vs Q E hr h => ⟨t_check_round_length K, PSs.nox ?_, pure_check_round_length K vs H Q E h⟩)
  exact (pss_one (ps_expr (C8.pe_c G_check_range hr (by omega) (by rfl) (pa_cons (pv 0) (pa_cons (pe_cint (by rfl) T.g_Net T.rd_Net T.cv_Net_SHORTEST) (pa_cons (pe_cint (by rfl) T.g_Net T.rd_Net T.cv_Net_LONGEST) pa_nil))))))
theorem sc_check_count : FnScope N_check_count ["count", "limit"] (defScope s_check_count) := ⟨rfl, rfl, rfl, by decide +kernel, rfl, by decide +kernel, by decide +kernel⟩
theorem ok_check_count {f : Addr} {fd : FuncData} (F : FunD K "check_count" "check_count" (defArgs s_check_count) (defBody s_check_count) (defScope s_check_count) [] [] f fd) (T : Txt K mg) : FnOk P w K mg base CX0 1 f fd ["count", "limit"] (sp_check_count K) := by
  refine F.ok sc_check_count (len_check_count K) (fun cdv A outer s H vs Q E hr h => ⟨t_check_count K, PSs.nox ?_, pure_check_count K vs H Q E h⟩)
  exact (pss_one (ps_if (pt_cmpR op_gt (pv 0) (pv 1) (nomark _)) (pss_one ps_never) pss_nil))
theorem sc_is_name : FnScope N_is_name ["text"] (defScope s_is_name) := ⟨rfl, rfl, rfl, by decide +kernel, rfl, by decide +kernel, by decide +kernel⟩
theorem ok_is_name {f : Addr} {fd : FuncData} (F : FunD K "is_name" "is_name" (defArgs s_is_name) (defBody s_is_name) (defScope s_is_name) [] [] f fd) (T : Txt K mg) : FnOk P w K mg base CX0 1 f fd ["text"] (sp_is_name K) := by
  refine F.ok sc_is_name (len_is_name K) (fun cdv A outer s H vs Q E hr h => ⟨t_is_name K, PSs.nox ?_, pure_is_name K vs H Q E h⟩)
  exact (pss_cons (ps_if (pt_not (pt_chain op_le op_le pe_int (pe_callB callLenStr (by rfl) T.f_len (by decide +kernel) (pa_cons (pv 0) pa_nil)) (C8.pe_gc (by rfl) T.c_LONGEST_NAME))) (pss_one (ps_ret pe_bl)) pss_nil)
    (pss_one (ps_ret (pe_and (pe_cmpR op_inS (pe_ix ix_str (pv 0) pe_int (fun _ _ => rfl)) (C8.pe_gc (by rfl) T.c_LETTERS) (by rfl)) (pe_one (pe_callB (cr_all rfl) (by rfl) T.f_all (by decide +kernel) (pa_cons (pe_lc (own := [("sign", 1)]) rfl sc_is_name.nd (pi_str (pv 0)) (blkOk_by (N := N_is_name) (sc := defScope s_is_name) (by decide +kernel)) (fun _ _ _ _ _ => (pg_name (i := 1) sc_is_name.nd rfl (Or.inl rfl))) (fun _ _ _ _ _ => pts_nil) (fun _ _ _ _ _ => (pe_or (pe_cmpR op_inS (pv 1) (C8.pe_gc (by rfl) T.c_LETTERS) (by rfl)) (pe_one (pe_cmpR op_inS (pv 1) (C8.pe_gc (by rfl) T.c_DIGITS) (by rfl)))))) pa_nil)))))))
theorem sc_check_name : FnScope N_check_name ["text"] (defScope s_check_name) := ⟨rfl, rfl, rfl, by decide +kernel, rfl, by decide +kernel, by decide +kernel⟩
theorem ok_check_name {f : Addr} {fd : FuncData} (F : FunD K "check_name" "check_name" (defArgs s_check_name) (defBody s_check_name) (defScope s_check_name) [] [] f fd) (T : Txt K mg) (G_is_name : C8.Cal P w K mg base (1) "is_name" (sp_is_name K) []) : FnOk P w K mg base CX0 2 f fd ["text"] (sp_check_name K) := by
  refine F.ok sc_check_name (len_check_name K) (fun cdv A outer s H vs Q E hr h => ⟨t_check_name K, PSs.nox ?_, pure_check_name K vs H Q E h⟩)
  exact (pss_one (ps_if (pt_not (pt_val (C8.pe_c G_is_name hr (by omega) (by rfl) (pa_cons (pv 0) pa_nil)))) (pss_one ps_never) pss_nil))
theorem sc_check_event : FnScope N_check_event ["name", "before"] (defScope s_check_event) := ⟨rfl, rfl, rfl, by decide +kernel, rfl, by decide +kernel, by decide +kernel⟩
theorem ok_check_event {f : Addr} {fd : FuncData} (F : FunD K "check_event" "check_event" (defArgs s_check_event) (defBody s_check_event) (defScope s_check_event) [] [] f fd) (T : Txt K mg) (G_check_name : C8.Cal P w K mg base (2) "check_name" (sp_check_name K) []) : FnOk P w K mg base CX0 3 f fd ["name", "before"] (sp_check_event K) := by
  refine F.ok sc_check_event (len_check_event K) (fun cdv A outer s H vs Q E hr h => ⟨t_check_event K, PSs.nox ?_, pure_check_event K vs H Q E h⟩)
  exact (pss_cons (ps_expr (C8.pe_c G_check_name hr (by omega) (by rfl) (pa_cons (pv 0) pa_nil)))
    (pss_one (ps_if (pt_cmpR op_in_seq (pv 0) (pv 1) (by rfl)) (pss_one ps_never) pss_nil)))
theorem sc_check_known : FnScope N_check_known ["names", "known"] (defScope s_check_known) := ⟨rfl, rfl, rfl, by decide +kernel, rfl, by decide +kernel, by decide +kernel⟩
theorem ok_check_known {f : Addr} {fd : FuncData} (F : FunD K "check_known" "check_known" (defArgs s_check_known) (defBody s_check_known) (defScope s_check_known) [] [] f fd) (T : Txt K mg) : FnOk P w K mg base CX0 1 f fd ["names", "known"] (sp_check_known K) := by
  refine F.ok sc_check_known (len_check_known K) (fun cdv A outer s H vs Q E hr h => ⟨t_check_known K, PSs.nox ?_, pure_check_known K vs H Q E h⟩)
  exact (pss_one (ps_for PassesOwn.never rfl (pi_list (pv 0)) (pg_name (i := 2) sc_check_known.nd rfl (Or.inl rfl)) (pss_one (ps_if (pt_cmpR (op_notInX (u1 hr)) (pv 2) (pv 1) (by rfl)) (pss_one ps_never) pss_nil))))
theorem sc_check_span : FnScope N_check_span ["round_length", "events", "span"] (defScope s_check_span) := ⟨rfl, rfl, rfl, by decide +kernel, rfl, by decide +kernel, by decide +kernel⟩
theorem ok_check_span {f : Addr} {fd : FuncData} (F : FunD K "check_span" "check_span" (defArgs s_check_span) (defBody s_check_span) (defScope s_check_span) [] [] f fd) (T : Txt K mg) (G_check_range : C8.Cal P w K mg base (1) "check_range" (sp_check_range K) []) (G_check_known : C8.Cal P w K mg base (1) "check_known" (sp_check_known K) []) : FnOk P w K mg base CX0 2 f fd ["round_length", "events", "span"] (sp_check_span K) := by
  refine F.ok sc_check_span (len_check_span K) (fun cdv A outer s H vs Q E hr h => ⟨t_check_span K, PSs.nox ?_, pure_check_span K vs H Q E h⟩)
  exact (pss_cons (ps_asg (pv 2) (pg_tup rfl (pgs_cons (pg_name (i := 3) sc_check_span.nd rfl (Or.inl rfl)) (pgs_cons (pg_name (i := 4) sc_check_span.nd rfl (Or.inl rfl)) (pgs_cons (pg_name (i := 5) sc_check_span.nd rfl (Or.inl rfl)) (pgs_cons (pg_name (i := 6) sc_check_span.nd rfl (Or.inl rfl)) (pgs_cons (pg_name (i := 7) sc_check_span.nd rfl (Or.inl rfl)) pgs_nil)))))))
    (pss_cons (ps_expr (C8.pe_c G_check_known hr (by omega) (by rfl) (pa_cons (pe_lst (pa_cons (pv 3) (pa_cons (pv 4) pa_nil))) (pa_cons (pv 1) pa_nil))))
    (pss_cons (ps_if (pt_cmpR op_eq (pv 3) (pv 4) (nomark _)) (pss_one ps_never) pss_nil)
    (pss_cons (ps_expr (C8.pe_c G_check_range hr (by omega) (by rfl) (pa_cons (pv 5) (pa_cons pe_int (pa_cons (pe_op op_sub (pv 0) pe_int) pa_nil)))))
    (pss_cons (ps_expr (C8.pe_c G_check_range hr (by omega) (by rfl) (pa_cons (pv 6) (pa_cons (pv 5) (pa_cons (pe_op op_sub (pe_op op_add (pv 5) (pv 0)) pe_int) pa_nil)))))
    (pss_one (ps_expr (C8.pe_c G_check_range hr (by omega) (by rfl) (pa_cons (pv 7) (pa_cons pe_int (pa_cons (pe_cint (by rfl) T.g_Net T.rd_Net T.cv_Net_HEAVIEST) pa_nil)))))))))))
theorem sc_check_net : FnScope N_check_net ["round_length", "events", "spans"] (defScope s_check_net) := ⟨rfl, rfl, rfl, by decide +kernel, rfl, by decide +kernel, by decide +kernel⟩
theorem ok_check_net {f : Addr} {fd : FuncData} (F : FunD K "check_net" "check_net" (defArgs s_check_net) (defBody s_check_net) (defScope s_check_net) [] [] f fd) (T : Txt K mg) (G_check_round_length : C8.Cal P w K mg base (2) "check_round_length" (sp_check_round_length K) []) (G_check_count : C8.Cal P w K mg base (1) "check_count" (sp_check_count K) []) (G_check_event : C8.Cal P w K mg base (3) "check_event" (sp_check_event K) []) (G_check_span : C8.Cal P w K mg base (2) "check_span" (sp_check_span K) []) : FnOk P w K mg base CX0 4 f fd ["round_length", "events", "spans"] (sp_check_net K) := by
  refine F.ok sc_check_net (len_check_net K) (fun cdv A outer s H vs Q E hr h => ⟨t_check_net K, PSs.nox ?_, pure_check_net K vs H Q E h⟩)
  exact (pss_cons (ps_expr (C8.pe_c G_check_round_length hr (by omega) (by rfl) (pa_cons (pv 0) pa_nil)))
    (pss_cons (ps_expr (C8.pe_c G_check_count hr (by omega) (by rfl) (pa_cons (pe_callB callLenSeq (by rfl) T.f_len (by decide +kernel) (pa_cons (pv 1) pa_nil)) (pa_cons (pe_cint (by rfl) T.g_Net T.rd_Net T.cv_Net_EVENTS) pa_nil))))
    (pss_cons (ps_for PassesOwn.never rfl (pi_enum rfl T.f_enumerate (pa_cons (pv 1) pa_nil)) (pg_tup rfl (pgs_cons (pg_name (i := 3) sc_check_net.nd rfl (Or.inl rfl)) (pgs_cons (pg_name (i := 4) sc_check_net.nd rfl (Or.inl rfl)) pgs_nil))) (pss_one (ps_expr (C8.pe_c G_check_event hr (by omega) (by rfl) (pa_cons (pv 4) (pa_cons (pe_slice sl_list (pv 1) po_none (po_some (pv 3))) pa_nil))))))
    (pss_cons (ps_expr (C8.pe_c G_check_count hr (by omega) (by rfl) (pa_cons (pe_callB callLenSeq (by rfl) T.f_len (by decide +kernel) (pa_cons (pv 2) pa_nil)) (pa_cons (pe_cint (by rfl) T.g_Net T.rd_Net T.cv_Net_SPANS) pa_nil))))
    (pss_one (ps_for PassesOwn.never rfl (pi_list (pv 2)) (pg_name (i := 5) sc_check_net.nd rfl (Or.inl rfl)) (pss_one (ps_expr (C8.pe_c G_check_span hr (by omega) (by rfl) (pa_cons (pv 0) (pa_cons (pv 1) (pa_cons (pv 5) pa_nil))))))))))))
theorem sc_Net_init : FnScope N_Net_init ["self", "round_length", "events", "spans"] (defScope s_Net_init) := ⟨rfl, rfl, rfl, by decide +kernel, rfl, by decide +kernel, by decide +kernel⟩
theorem ok_Net_init {f : Addr} {fd : FuncData} (F : FunD K "__init__" "Net.__init__" (defArgs s_Net_init) (defBody s_Net_init) (defScope s_Net_init) [] [] f fd) (T : Txt K mg) (G_check_net : C8.Cal P w K mg base (4) "check_net" (sp_check_net K) []) : FnOk P w K mg base CX0 5 f fd ["self", "round_length", "events", "spans"] (sp_Net_init K) := by
  refine F.ok sc_Net_init (len_Net_init K) (fun cdv A outer s H vs Q E hr h => ⟨t_Net_init K, PSs.nox ?_, pure_Net_init K vs H Q E h⟩)
  exact (pss_cons (ps_expr (C8.pe_c G_check_net hr (by omega) (by rfl) (pa_cons (pv 1) (pa_cons (pv 2) (pa_cons (pv 3) pa_nil)))))
    (pss_cons (ps_fldC T.cls_Net T.na_Net__round_length (pv 0) (pv 1))
    (pss_cons (ps_fldC T.cls_Net T.na_Net__events (pv 0) (pe_callTy callListOf (by rfl) T.f_list (by decide +kernel) (pa_cons (pv 2) pa_nil)))
    (pss_one (ps_fldC T.cls_Net T.na_Net__spans (pv 0) (pe_callTy callListOf (by rfl) T.f_list (by decide +kernel) (pa_cons (pv 3) pa_nil)))))))
theorem sc_l_pool : FnScope N_l_pool ["_law_script"] (defScope s_l_pool) := ⟨rfl, rfl, rfl, by decide +kernel, rfl, by decide +kernel, by decide +kernel⟩
theorem ok_l_pool {f : Addr} {fd : FuncData} (F : FunD K "_law_pool" "_law_pool" (defArgs s_l_pool) (defBody s_l_pool) (defScope s_l_pool) [] [] f fd) (T : Txt K mg) : FnOk P w K mg base CX0 1 f fd ["_law_script"] (sp_l_pool K) := by
  refine F.ok sc_l_pool (len_l_pool K) (fun cdv A outer s H vs Q E hr h => ⟨t_l_pool K, PSs.nox ?_, pure_l_pool K vs H Q E h⟩)
  exact (pss_cons (ps_setLc (i := 1) (own := [("_law_cell", 3)]) rfl sc_l_pool.nd rfl rfl (sw_true rfl rfl rfl (by decide +kernel)) (pi_list (pv 0)) (blkOk_by (N := N_l_pool) (sc := defScope s_l_pool) (by decide +kernel)) (fun _ _ _ _ _ => (pg_name (i := 3) sc_l_pool.nd rfl (Or.inl rfl))) (fun _ _ _ _ _ => pts_nil) (fun _ _ _ _ _ => (pe_callTy callInt1 (by rfl) T.f_int (by decide +kernel) (pa_cons (pv 3) pa_nil))))
    (pss_cons (ps_set (i := 2) sc_l_pool.nd rfl (Or.inl rfl) pe_int)
    (pss_cons (ps_if (PW.pt (pw_and (pt_cmpR op_gt (pe_callB callLenSeq (by rfl) T.f_len (by decide +kernel) (pa_cons (pv 1) pa_nil)) pe_int (nomark _)) (pw_and1 (pt_cmpR op_ge (pe_ix ix_list (pv 1) pe_int (fun _ _ => rfl)) (pe_op op_pow pe_int pe_int) (nomark _))))) (pss_one (ps_set (i := 2) sc_l_pool.nd rfl (Or.inl rfl) (pe_ix ix_list (pv 1) pe_int (fun _ _ => rfl)))) pss_nil)
    (pss_one (ps_ret (pe_lst (pa_cons (pv 2) (pa_cons pe_int (pa_cons (pv 1) pa_nil)))))))))
theorem sc_l_draw : FnScope N_l_draw ["_law_pool_here", "_law_many"] (defScope s_l_draw) := ⟨rfl, rfl, rfl, by decide +kernel, rfl, by decide +kernel, by decide +kernel⟩
theorem ok_l_draw {f : Addr} {fd : FuncData} (F : FunD K "_law_draw" "_law_draw" (defArgs s_l_draw) (defBody s_l_draw) (defScope s_l_draw) [] [] f fd) (T : Txt K mg) : FnOk P w K mg base CX0 1 f fd ["_law_pool_here", "_law_many"] (sp_l_draw K) := by
  refine F.ok sc_l_draw (len_l_draw K) (fun cdv A outer s H vs Q E hr h => ⟨t_l_draw K, PSs.nox ?_, pure_l_draw K vs H Q E h⟩)
  exact (pss_cons (ps_if (pt_cmpR op_gt (pe_ix ix_list (pv 0) pe_int (fun _ _ => rfl)) pe_int (nomark _)) (pss_cons (ps_set (i := 2) sc_l_draw.nd rfl (Or.inl rfl) (pe_op op_mod (pe_callTy callInt1 (by rfl) T.f_int (by decide +kernel) (pa_cons (pe_ix ix_list (pv 0) pe_int (fun _ _ => rfl)) pa_nil)) (pv 1)))
    (pss_cons (ps_asg (pe_op op_fdivW (pe_ix ix_list (pv 0) pe_int (fun _ _ => rfl)) (pv 1)) (pg_sub (pv 0) pe_int set_list))
    (pss_one (ps_ret (pv 2))))) pss_nil)
    (pss_cons (ps_asg (pe_op op_add (pe_ix ix_list (pv 0) pe_int (fun _ _ => rfl)) pe_int) (pg_sub (pv 0) pe_int set_list))
    (pss_cons (ps_set (i := 3) sc_l_draw.nd rfl (Or.inl rfl) (pe_ix ix_list (pv 0) pe_int (fun _ _ => rfl)))
    (pss_cons (ps_set (i := 4) sc_l_draw.nd rfl (Or.inl rfl) pe_int)
    (pss_cons (ps_set (i := 5) sc_l_draw.nd rfl (Or.inl rfl) pe_int)
    (pss_cons (ps_if (pt_cmpR op_gt (pe_callB callLenSeq (by rfl) T.f_len (by decide +kernel) (pa_cons (pv 3) pa_nil)) pe_int (nomark _)) (pss_cons (ps_set (i := 4) sc_l_draw.nd rfl (Or.inl rfl) (pe_ix ix_list (pv 3) (pe_op op_mod (pe_callTy callInt1 (by rfl) T.f_int (by decide +kernel) (pa_cons (pe_ix ix_list (pv 0) pe_int (fun _ _ => rfl)) pa_nil)) (pe_callB callLenSeq (by rfl) T.f_len (by decide +kernel) (pa_cons (pv 3) pa_nil))) (fun _ _ => rfl)))
    (pss_one (ps_set (i := 5) sc_l_draw.nd rfl (Or.inl rfl) (pe_ix ix_list (pv 3) pe_int (fun _ _ => rfl))))) pss_nil)
    (pss_cons (ps_set (i := 6) sc_l_draw.nd rfl (Or.inl rfl) (pe_op op_mod (pe_callTy callInt1 (by rfl) T.f_int (by decide +kernel) (pa_cons (pe_op op_add (pe_op op_add (pe_op op_add (pe_op op_mul (pv 4) pe_int) (pe_op op_mul (pv 5) pe_int)) (pe_op op_mul (pe_ix ix_list (pv 0) pe_int (fun _ _ => rfl)) pe_int)) pe_int) pa_nil)) pe_int))
    (pss_cons (ps_set (i := 6) sc_l_draw.nd rfl (Or.inl rfl) (pe_op op_mod (pe_callTy callInt1 (by rfl) T.f_int (by decide +kernel) (pa_cons (pe_op op_add (pe_op op_add (pe_op op_mul (pv 6) (pv 6)) (pe_op op_mul (pv 6) pe_int)) (pe_op op_mul (pe_ix ix_list (pv 0) pe_int (fun _ _ => rfl)) pe_int)) pa_nil)) pe_int))
    (pss_one (ps_ret (pe_op op_mod (pe_callTy callInt1 (by rfl) T.f_int (by decide +kernel) (pa_cons (pe_op op_fdivW (pv 6) pe_int) pa_nil)) (pv 1))))))))))))
theorem sc_l_word : FnScope N_l_word ["_law_pool_here", "_law_size"] (defScope s_l_word) := ⟨rfl, rfl, rfl, by decide +kernel, rfl, by decide +kernel, by decide +kernel⟩
theorem ok_l_word {f : Addr} {fd : FuncData} (F : FunD K "_law_word" "_law_word" (defArgs s_l_word) (defBody s_l_word) (defScope s_l_word) [] [] f fd) (T : Txt K mg) (G_l_draw : C8.Cal P w K mg base (1) "_law_draw" (sp_l_draw K) []) : FnOk P w K mg base CX0 2 f fd ["_law_pool_here", "_law_size"] (sp_l_word K) := by
  refine F.ok sc_l_word (len_l_word K) (fun cdv A outer s H vs Q E hr h => ⟨t_l_word K, PSs.nox ?_, pure_l_word K vs H Q E h⟩)
  exact (pss_cons (ps_set (i := 2) sc_l_word.nd rfl (Or.inl rfl) (pe_strS (by decide +kernel)))
    (pss_cons (ps_set (i := 3) sc_l_word.nd rfl (Or.inl rfl) (pe_strS (by decide +kernel)))
    (pss_cons (ps_for PassesOwn.never rfl (pi_range1 rfl T.f_range (pa_cons (pv 1) pa_nil)) (pg_name (i := 4) sc_l_word.nd rfl (Or.inl rfl)) (pss_one (ps_set (i := 3) sc_l_word.nd rfl (Or.inl rfl) (pe_op opAddStr (pv 3) (pe_ix ix_str (pv 2) (C8.pe_c G_l_draw hr (by omega) (by rfl) (pa_cons (pv 0) (pa_cons pe_int pa_nil))) (fun _ _ => rfl))))))
    (pss_one (ps_ret (pv 3))))))
theorem sc_l_names : FnScope N_l_names ["_law_pool_here", "_law_many"] (defScope s_l_names) := ⟨rfl, rfl, rfl, by decide +kernel, rfl, by decide +kernel, by decide +kernel⟩
theorem ok_l_names {f : Addr} {fd : FuncData} (F : FunD K "_law_names" "_law_names" (defArgs s_l_names) (defBody s_l_names) (defScope s_l_names) [] [] f fd) (T : Txt K mg) (G_l_draw : C8.Cal P w K mg base (1) "_law_draw" (sp_l_draw K) []) (G_l_word : C8.Cal P w K mg base (2) "_law_word" (sp_l_word K) []) : FnOk P w K mg base CX0 3 f fd ["_law_pool_here", "_law_many"] (sp_l_names K) := by
  refine F.ok sc_l_names (len_l_names K) (fun cdv A outer s H vs Q E hr h => ⟨t_l_names K, PSs.nox ?_, pure_l_names K vs H Q E h⟩)
  exact (pss_cons (ps_set (i := 2) sc_l_names.nd rfl (Or.inl rfl) (pe_strS (by decide +kernel)))
    (pss_cons (ps_set (i := 3) sc_l_names.nd rfl (Or.inl rfl) (pe_strS (by decide +kernel)))
    (pss_cons (ps_set (i := 4) sc_l_names.nd rfl (Or.inl rfl) (C8.pe_c G_l_draw hr (by omega) (by rfl) (pa_cons (pv 0) (pa_cons pe_int pa_nil))))
    (pss_cons (ps_set (i := 5) sc_l_names.nd rfl (Or.inl rfl) (pe_op opAddStr (pe_ix ix_str (pv 2) (C8.pe_c G_l_draw hr (by omega) (by rfl) (pa_cons (pv 0) (pa_cons pe_int pa_nil))) (fun _ _ => rfl)) (C8.pe_c G_l_word hr (by omega) (by rfl) (pa_cons (pv 0) (pa_cons (C8.pe_c G_l_draw hr (by omega) (by rfl) (pa_cons (pv 0) (pa_cons pe_int pa_nil))) pa_nil)))))
    (pss_cons (ps_set (i := 6) sc_l_names.nd rfl (Or.inl rfl) (C8.pe_c G_l_word hr (by omega) (by rfl) (pa_cons (pv 0) (pa_cons (C8.pe_c G_l_draw hr (by omega) (by rfl) (pa_cons (pv 0) (pa_cons pe_int pa_nil))) pa_nil))))
    (pss_cons (ps_set (i := 7) sc_l_names.nd rfl (Or.inl rfl) (C8.pe_c G_l_draw hr (by omega) (by rfl) (pa_cons (pv 0) (pa_cons pe_int pa_nil))))
    (pss_cons (ps_set (i := 8) sc_l_names.nd rfl (Or.inl rfl) (pe_lst pa_nil))
    (pss_cons (ps_for PassesOwn.never rfl (pi_range1 rfl T.f_range (pa_cons (pv 1) pa_nil)) (pg_name (i := 9) sc_l_names.nd rfl (Or.inl rfl)) (pss_cons (ps_set (i := 10) sc_l_names.nd rfl (Or.inl rfl) (pe_op opAddStr (pe_op opAddStr (pv 5) (pe_ix ix_str (pv 3) (pe_op op_mod (pe_callTy callInt1 (by rfl) T.f_int (by decide +kernel) (pa_cons (pe_op op_add (pv 7) (pe_op op_mul pe_int (pv 9))) pa_nil)) pe_int) (fun _ _ => rfl))) (pv 6)))
    (C8.pss_cut (ps_if (pt_cmpR op_eq (pv 4) pe_int (nomark _)) (pss_one (ps_set (i := 10) sc_l_names.nd rfl (Or.inl rfl) (pe_op opAddStr (pe_ix ix_str (pv 2) (pe_op op_mod (pe_callTy callInt1 (by rfl) T.f_int (by decide +kernel) (pa_cons (pe_op op_add (pv 7) (pe_op op_mul pe_int (pv 9))) pa_nil)) pe_int) (fun _ _ => rfl)) (C8.pe_c G_l_word hr (by omega) (by rfl) (pa_cons (pv 0) (pa_cons (C8.pe_c G_l_draw hr (by omega) (by rfl) (pa_cons (pv 0) (pa_cons pe_int pa_nil))) pa_nil)))))) pss_nil)
    (C8.pss_cut (ps_if (pt_cmpR op_eq (pv 4) pe_int (nomark _)) (pss_one (ps_set (i := 10) sc_l_names.nd rfl (Or.inl rfl) (pe_op opAddStr (pe_ix ix_str (pv 2) (C8.pe_c G_l_draw hr (by omega) (by rfl) (pa_cons (pv 0) (pa_cons pe_int pa_nil))) (fun _ _ => rfl)) (C8.pe_c G_l_word hr (by omega) (by rfl) (pa_cons (pv 0) (pa_cons (C8.pe_c G_l_draw hr (by omega) (by rfl) (pa_cons (pv 0) (pa_cons pe_int pa_nil))) pa_nil)))))) pss_nil)
    (pss_cons (ps_for PassesOwn.never rfl (pi_range1 rfl T.f_range (pa_cons pe_int pa_nil)) (pg_name (i := 11) sc_l_names.nd rfl (Or.inl rfl)) (pss_one (ps_if (PW.pt (pw_and (pt_cmpR op_in_seq (pv 10) (pv 8) (by rfl)) (pw_and1 (pt_cmpR op_notIn_seq (pe_op opAddStr (pe_strS (by decide +kernel)) (pe_callTy callStrInt (by rfl) T.f_str (by decide +kernel) (pa_cons (pv 11) pa_nil))) (pv 8) (by rfl))))) (pss_one (ps_set (i := 10) sc_l_names.nd rfl (Or.inl rfl) (pe_op opAddStr (pe_strS (by decide +kernel)) (pe_callTy callStrInt (by rfl) T.f_str (by decide +kernel) (pa_cons (pv 11) pa_nil))))) pss_nil)))
    (pss_one (ps_expr (pe_bm PySem.F.plainAttrs_list PySem.F.slot_list_append PySem.F.type_list_append mt_append (pv 8) (pa_cons (pv 10) pa_nil)))))))))
    (pss_one (ps_ret (pv 8)))))))))))
theorem sc_l_length : FnScope N_l_length ["_law_pool_here", "_law_most"] (defScope s_l_length) := ⟨rfl, rfl, rfl, by decide +kernel, rfl, by decide +kernel, by decide +kernel⟩
theorem ok_l_length {f : Addr} {fd : FuncData} (F : FunD K "_law_length" "_law_length" (defArgs s_l_length) (defBody s_l_length) (defScope s_l_length) [] [] f fd) (T : Txt K mg) (G_l_draw : C8.Cal P w K mg base (1) "_law_draw" (sp_l_draw K) []) : FnOk P w K mg base CX0 2 f fd ["_law_pool_here", "_law_most"] (sp_l_length K) := by
  refine F.ok sc_l_length (len_l_length K) (fun cdv A outer s H vs Q E hr h => ⟨t_l_length K, PSs.nox ?_, pure_l_length K vs H Q E h⟩)
  exact (pss_cons (ps_set (i := 2) sc_l_length.nd rfl (Or.inl rfl) (C8.pe_c G_l_draw hr (by omega) (by rfl) (pa_cons (pv 0) (pa_cons pe_int pa_nil))))
    (pss_cons (ps_if (pt_cmpR op_lt (pv 2) pe_int (nomark _)) (pss_one (ps_ret (pe_op op_add pe_int (C8.pe_c G_l_draw hr (by omega) (by rfl) (pa_cons (pv 0) (pa_cons pe_int pa_nil)))))) pss_nil)
    (pss_cons (ps_if (pt_cmpR op_lt (pv 2) pe_int (nomark _)) (pss_one (ps_ret (pe_callB (callMin2 rfl) (by rfl) T.f_min (by decide +kernel) (pa_cons (pv 1) (pa_cons (pe_op op_add pe_int (C8.pe_c G_l_draw hr (by omega) (by rfl) (pa_cons (pv 0) (pa_cons pe_int pa_nil)))) pa_nil))))) pss_nil)
    (pss_one (ps_ret (pe_callB (callMax2 rfl) (by rfl) T.f_max (by decide +kernel) (pa_cons pe_int (pa_cons (pe_op op_sub (pv 1) (C8.pe_c G_l_draw hr (by omega) (by rfl) (pa_cons (pv 0) (pa_cons (pv 1) pa_nil)))) pa_nil))))))))
theorem sc_l_changes : FnScope N_l_changes ["_law_pool_here", "_law_many", "_law_length_here"] (defScope s_l_changes) := ⟨rfl, rfl, rfl, by decide +kernel, rfl, by decide +kernel, by decide +kernel⟩
theorem ok_l_changes {f : Addr} {fd : FuncData} (F : FunD K "_law_changes" "_law_changes" (defArgs s_l_changes) (defBody s_l_changes) (defScope s_l_changes) [] [] f fd) (T : Txt K mg) (G_l_draw : C8.Cal P w K mg base (1) "_law_draw" (sp_l_draw K) []) : FnOk P w K mg base CX0 2 f fd ["_law_pool_here", "_law_many", "_law_length_here"] (sp_l_changes K) := by
  refine F.ok sc_l_changes (len_l_changes K) (fun cdv A outer s H vs Q E hr h => ⟨t_l_changes K, PSs.nox ?_, pure_l_changes K vs H Q E h⟩)
  exact (pss_cons (ps_set (i := 3) sc_l_changes.nd rfl (Or.inl rfl) (C8.pe_c G_l_draw hr (by omega) (by rfl) (pa_cons (pv 0) (pa_cons pe_int pa_nil))))
    (pss_cons (ps_set (i := 4) sc_l_changes.nd rfl (Or.inl rfl) (pe_op op_mul (C8.pe_c G_l_draw hr (by omega) (by rfl) (pa_cons (pv 0) (pa_cons pe_int pa_nil))) (C8.pe_c G_l_draw hr (by omega) (by rfl) (pa_cons (pv 0) (pa_cons (pv 2) pa_nil)))))
    (pss_cons (ps_set (i := 5) sc_l_changes.nd rfl (Or.inl rfl) (pe_lst pa_nil))
    (pss_cons (ps_for PassesOwn.never rfl (pi_range1 rfl T.f_range (pa_cons (pv 1) pa_nil)) (pg_name (i := 6) sc_l_changes.nd rfl (Or.inl rfl)) (pss_cons (ps_set (i := 7) sc_l_changes.nd rfl (Or.inl rfl) pe_int)
    (pss_cons (ps_if (PW.pt (pw_or (pt_cmpR op_eq (pv 3) pe_int (nomark _)) (pw_or1 (pt_cmpR op_eq (pv 3) pe_int (nomark _))))) (pss_one (ps_set (i := 7) sc_l_changes.nd rfl (Or.inl rfl) (pe_op op_sub (C8.pe_c G_l_draw hr (by omega) (by rfl) (pa_cons (pv 0) (pa_cons pe_int pa_nil))) pe_int))) pss_nil)
    (pss_cons (ps_if (pt_cmpR op_eq (pv 3) pe_int (nomark _)) (pss_one (ps_set (i := 7) sc_l_changes.nd rfl (Or.inl rfl) (pe_op op_sub (C8.pe_c G_l_draw hr (by omega) (by rfl) (pa_cons (pv 0) (pa_cons (pe_op op_mul pe_int (pv 2)) pa_nil))) (pv 2)))) pss_nil)
    (pss_one (ps_expr (pe_bm PySem.F.plainAttrs_list PySem.F.slot_list_append PySem.F.type_list_append mt_append (pv 5) (pa_cons (pe_op op_add (pv 4) (pv 7)) pa_nil))))))))
    (pss_one (ps_ret (pv 5)))))))
theorem sc_l_weight : FnScope N_l_weight ["_law_pool_here"] (defScope s_l_weight) := ⟨rfl, rfl, rfl, by decide +kernel, rfl, by decide +kernel, by decide +kernel⟩
theorem ok_l_weight {f : Addr} {fd : FuncData} (F : FunD K "_law_weight" "_law_weight" (defArgs s_l_weight) (defBody s_l_weight) (defScope s_l_weight) [] [] f fd) (T : Txt K mg) (G_l_draw : C8.Cal P w K mg base (1) "_law_draw" (sp_l_draw K) []) : FnOk P w K mg base CX0 2 f fd ["_law_pool_here"] (sp_l_weight K) := by
  refine F.ok sc_l_weight (len_l_weight K) (fun cdv A outer s H vs Q E hr h => ⟨t_l_weight K, PSs.nox ?_, pure_l_weight K vs H Q E h⟩)
  exact (pss_cons (ps_if (pt_cmpR op_eq (C8.pe_c G_l_draw hr (by omega) (by rfl) (pa_cons (pv 0) (pa_cons pe_int pa_nil))) pe_int (nomark _)) (pss_one (ps_ret (C8.pe_c G_l_draw hr (by omega) (by rfl) (pa_cons (pv 0) (pa_cons pe_int pa_nil))))) pss_nil)
    (pss_one (ps_ret (C8.pe_c G_l_draw hr (by omega) (by rfl) (pa_cons (pv 0) (pa_cons pe_int pa_nil))))))
theorem sc_l_some : FnScope N_l_some ["_law_pool_here", "_law_most"] (defScope s_l_some) := ⟨rfl, rfl, rfl, by decide +kernel, rfl, by decide +kernel, by decide +kernel⟩
theorem ok_l_some {f : Addr} {fd : FuncData} (F : FunD K "_law_some" "_law_some" (defArgs s_l_some) (defBody s_l_some) (defScope s_l_some) [] [] f fd) (T : Txt K mg) (G_l_draw : C8.Cal P w K mg base (1) "_law_draw" (sp_l_draw K) []) : FnOk P w K mg base CX0 2 f fd ["_law_pool_here", "_law_most"] (sp_l_some K) := by
  refine F.ok sc_l_some (len_l_some K) (fun cdv A outer s H vs Q E hr h => ⟨t_l_some K, PSs.nox ?_, pure_l_some K vs H Q E h⟩)
  exact (pss_cons (ps_set (i := 2) sc_l_some.nd rfl (Or.inl rfl) (C8.pe_c G_l_draw hr (by omega) (by rfl) (pa_cons (pv 0) (pa_cons pe_int pa_nil))))
    (pss_cons (ps_if (pt_cmpR op_eq (pv 2) pe_int (nomark _)) (pss_one (ps_ret (pv 1))) pss_nil)
    (pss_cons (ps_if (pt_cmpR op_eq (pv 2) pe_int (nomark _)) (pss_one (ps_ret (C8.pe_c G_l_draw hr (by omega) (by rfl) (pa_cons (pv 0) (pa_cons (pe_op op_add (pv 1) pe_int) pa_nil))))) pss_nil)
    (pss_one (ps_ret (C8.pe_c G_l_draw hr (by omega) (by rfl) (pa_cons (pv 0) (pa_cons (pe_op op_add (pe_callB (callMin2 rfl) (by rfl) T.f_min (by decide +kernel) (pa_cons (pv 1) (pa_cons pe_int pa_nil))) pe_int) pa_nil))))))))
theorem sc_l_window : FnScope N_l_window ["_law_pool_here", "_law_length_here", "_law_start", "_law_change", "_law_straight"] (defScope s_l_window) := ⟨rfl, rfl, rfl, by decide +kernel, rfl, by decide +kernel, by decide +kernel⟩
theorem ok_l_window {f : Addr} {fd : FuncData} (F : FunD K "_law_window" "_law_window" (defArgs s_l_window) (defBody s_l_window) (defScope s_l_window) [] [] f fd) (T : Txt K mg) (G_l_draw : C8.Cal P w K mg base (1) "_law_draw" (sp_l_draw K) []) (G_l_some : C8.Cal P w K mg base (2) "_law_some" (sp_l_some K) []) : FnOk P w K mg base CX0 3 f fd ["_law_pool_here", "_law_length_here", "_law_start", "_law_change", "_law_straight"] (sp_l_window K) := by
  refine F.ok sc_l_window (len_l_window K) (fun cdv A outer s H vs Q E hr h => ⟨t_l_window K, PSs.nox ?_, pure_l_window K vs H Q E h⟩)
  exact (pss_cons (ps_set (i := 5) sc_l_window.nd rfl (Or.inl rfl) (pe_callB (callMin2 rfl) (by rfl) T.f_min (by decide +kernel) (pa_cons pe_int (pa_cons (pv 3) pa_nil))))
    (pss_cons (ps_set (i := 6) sc_l_window.nd rfl (Or.inl rfl) (pe_callB (callMax2 rfl) (by rfl) T.f_max (by decide +kernel) (pa_cons pe_int (pa_cons (pv 3) pa_nil))))
    (C8.pss_cut (ps_if (PW.pt (pw_or (pt_not (pt_val (pv 4))) (pw_or1 (pt_cmpR op_gt (pe_op op_sub (pv 6) (pv 5)) (pe_op op_sub (pv 1) pe_int) (nomark _))))) (pss_cons (ps_set (i := 7) sc_l_window.nd rfl (Or.inl rfl) (pe_op op_mod (pe_callTy callInt1 (by rfl) T.f_int (by decide +kernel) (pa_cons (pv 3) pa_nil)) (pv 1)))
    (pss_cons (ps_set (i := 8) sc_l_window.nd rfl (Or.inl rfl) (C8.pe_c G_l_draw hr (by omega) (by rfl) (pa_cons (pv 0) (pa_cons pe_int pa_nil))))
    (pss_cons (ps_set (i := 5) sc_l_window.nd rfl (Or.inl rfl) pe_int)
    (pss_cons (ps_set (i := 6) sc_l_window.nd rfl (Or.inl rfl) (pv 7))
    (pss_cons (ps_if (PW.pt (pw_or (pt_cmpR op_gt (pv 7) (pe_op op_sub (pv 1) pe_int) (nomark _)) (pw_or1 (PW.pt (pw_and (pt_cmpR op_eq (pv 8) pe_int (nomark _)) (pw_and1 (pt_cmpR op_ge (pv 7) pe_int (nomark _)))))))) (pss_cons (ps_set (i := 5) sc_l_window.nd rfl (Or.inl rfl) (pe_op op_sub (pv 7) (pv 1)))
    (pss_one (ps_set (i := 6) sc_l_window.nd rfl (Or.inl rfl) pe_int))) pss_nil)
    (pss_one (ps_if (pt_cmpR op_gt (pe_op op_sub (pv 6) (pv 5)) (pe_op op_sub (pv 1) pe_int) (nomark _)) (pss_one (ps_ret (pe_lst pa_nil))) pss_nil))))))) pss_nil)
    (pss_cons (ps_set (i := 9) sc_l_window.nd rfl (Or.inl rfl) (pe_op op_sub (pe_op op_sub (pv 1) pe_int) (pe_op op_sub (pv 6) (pv 5))))
    (pss_cons (ps_set (i := 10) sc_l_window.nd rfl (Or.inl rfl) (C8.pe_c G_l_some hr (by omega) (by rfl) (pa_cons (pv 0) (pa_cons (pv 9) pa_nil))))
    (pss_cons (ps_set (i := 11) sc_l_window.nd rfl (Or.inl rfl) (C8.pe_c G_l_some hr (by omega) (by rfl) (pa_cons (pv 0) (pa_cons (pe_op op_sub (pv 9) (pv 10)) pa_nil))))
    (pss_cons (ps_set (i := 12) sc_l_window.nd rfl (Or.inl rfl) (pe_op op_mod (pe_callTy callInt1 (by rfl) T.f_int (by decide +kernel) (pa_cons (pe_op op_sub (pe_op op_add (pv 2) (pv 5)) (pv 10)) pa_nil)) (pv 1)))
    (pss_one (ps_ret (pe_lst (pa_cons (pv 12) (pa_cons (pe_op op_add (pe_op op_sub (pe_op op_add (pe_op op_add (pv 12) (pv 10)) (pv 6)) (pv 5)) (pv 11)) pa_nil))))))))))))
theorem sc_l_span : FnScope N_l_span ["_law_pool_here", "_law_length_here", "_law_names_here", "_law_before", "_law_changes_here", "_law_k", "_law_straight"] (defScope s_l_span) := ⟨rfl, rfl, rfl, by decide +kernel, rfl, by decide +kernel, by decide +kernel⟩
theorem ok_l_span {f : Addr} {fd : FuncData} (F : FunD K "_law_span" "_law_span" (defArgs s_l_span) (defBody s_l_span) (defScope s_l_span) [] [] f fd) (T : Txt K mg) (G_l_draw : C8.Cal P w K mg base (1) "_law_draw" (sp_l_draw K) []) (G_l_weight : C8.Cal P w K mg base (2) "_law_weight" (sp_l_weight K) []) (G_l_window : C8.Cal P w K mg base (3) "_law_window" (sp_l_window K) []) : FnOk P w K mg base CX0 4 f fd ["_law_pool_here", "_law_length_here", "_law_names_here", "_law_before", "_law_changes_here", "_law_k", "_law_straight"] (sp_l_span K) := by
  refine F.ok sc_l_span (len_l_span K) (fun cdv A outer s H vs Q E hr h => ⟨t_l_span K, PSs.nox ?_, pure_l_span K vs H Q E h⟩)
  exact (pss_cons (ps_set (i := 7) sc_l_span.nd rfl (Or.inl rfl) (pe_callB callLenSeq (by rfl) T.f_len (by decide +kernel) (pa_cons (pv 2) pa_nil)))
    (pss_cons (ps_set (i := 8) sc_l_span.nd rfl (Or.inl rfl) (C8.pe_c G_l_draw hr (by omega) (by rfl) (pa_cons (pv 0) (pa_cons (pv 7) pa_nil))))
    (pss_cons (ps_set (i := 9) sc_l_span.nd rfl (Or.inl rfl) (pe_op op_mod (pe_callTy callInt1 (by rfl) T.f_int (by decide +kernel) (pa_cons (pe_op op_add (pe_op op_add (pv 8) pe_int) (C8.pe_c G_l_draw hr (by omega) (by rfl) (pa_cons (pv 0) (pa_cons (pe_op op_sub (pv 7) pe_int) pa_nil)))) pa_nil)) (pv 7)))
    (C8.pss_cut (ps_if (PW.pt (pw_and (pt_cmpR op_lt (pe_op op_add (pv 5) pe_int) (pv 7) (nomark _)) (pw_and1 (pt_cmpR op_gt (C8.pe_c G_l_draw hr (by omega) (by rfl) (pa_cons (pv 0) (pa_cons pe_int pa_nil))) pe_int (nomark _))))) (pss_cons (ps_set (i := 8) sc_l_span.nd rfl (Or.inl rfl) (pe_op op_add (pv 5) pe_int))
    (pss_cons (ps_set (i := 9) sc_l_span.nd rfl (Or.inl rfl) (C8.pe_c G_l_draw hr (by omega) (by rfl) (pa_cons (pv 0) (pa_cons (pe_op op_add (pv 5) pe_int) pa_nil))))
    (pss_one (ps_if (pt_cmpR op_eq (C8.pe_c G_l_draw hr (by omega) (by rfl) (pa_cons (pv 0) (pa_cons pe_int pa_nil))) pe_int (nomark _)) (pss_cons (ps_set (i := 8) sc_l_span.nd rfl (Or.inl rfl) (pv 9))
    (pss_one (ps_set (i := 9) sc_l_span.nd rfl (Or.inl rfl) (pe_op op_add (pv 5) pe_int)))) pss_nil)))) pss_nil)
    (pss_cons (ps_set (i := 10) sc_l_span.nd rfl (Or.inl rfl) (C8.pe_c G_l_window hr (by omega) (by rfl) (pa_cons (pv 0) (pa_cons (pv 1) (pa_cons (pe_op op_sub (pe_ix ix_list (pv 3) (pv 9) (fun _ _ => rfl)) (pe_ix ix_list (pv 3) (pv 8) (fun _ _ => rfl))) (pa_cons (pe_op op_sub (pe_ix ix_list (pv 4) (pv 9) (fun _ _ => rfl)) (pe_ix ix_list (pv 4) (pv 8) (fun _ _ => rfl))) (pa_cons (pv 6) pa_nil)))))))
    (pss_cons (ps_if (pt_cmpR (op_eqD hr.units) (pv 10) (pe_lst pa_nil) (nomark _)) (pss_one (ps_ret (pe_lst pa_nil))) pss_nil)
    (pss_one (ps_ret (pe_lst (pa_cons (pe_tup (pa_cons (pe_ix ix_list (pv 2) (pv 8) (fun _ _ => rfl)) (pa_cons (pe_ix ix_list (pv 2) (pv 9) (fun _ _ => rfl)) (pa_cons (pe_ix ix_list (pv 10) pe_int (fun _ _ => rfl)) (pa_cons (pe_ix ix_list (pv 10) pe_int (fun _ _ => rfl)) (pa_cons (C8.pe_c G_l_weight hr (by omega) (by rfl) (pa_cons (pv 0) pa_nil)) pa_nil)))))) pa_nil))))))))))
theorem sc_l_case : FnScope N_l_case ["_law_pool_here", "_law_most_events", "_law_most_spans", "_law_most_length"] (defScope s_l_case) := ⟨rfl, rfl, rfl, by decide +kernel, rfl, by decide +kernel, by decide +kernel⟩
theorem ok_l_case {f : Addr} {fd : FuncData} (F : FunD K "_law_case" "_law_case" (defArgs s_l_case) (defBody s_l_case) (defScope s_l_case) [] [] f fd) (T : Txt K mg) (G_l_draw : C8.Cal P w K mg base (1) "_law_draw" (sp_l_draw K) []) (G_l_names : C8.Cal P w K mg base (3) "_law_names" (sp_l_names K) []) (G_l_length : C8.Cal P w K mg base (2) "_law_length" (sp_l_length K) []) (G_l_changes : C8.Cal P w K mg base (2) "_law_changes" (sp_l_changes K) []) (G_l_span : C8.Cal P w K mg base (4) "_law_span" (sp_l_span K) []) : FnOk P w K mg base CX0 5 f fd ["_law_pool_here", "_law_most_events", "_law_most_spans", "_law_most_length"] (sp_l_case K) := by
  refine F.ok sc_l_case (len_l_case K) (fun cdv A outer s H vs Q E hr h => ⟨t_l_case K, PSs.nox ?_, pure_l_case K vs H Q E h⟩)
  exact (pss_cons (ps_set (i := 4) sc_l_case.nd rfl (Or.inr rfl) (C8.pe_c G_l_length hr (by omega) (by rfl) (pa_cons (pv 0) (pa_cons (pv 3) pa_nil))))
    (pss_cons (ps_set (i := 5) sc_l_case.nd rfl (Or.inl rfl) (C8.pe_c G_l_draw hr (by omega) (by rfl) (pa_cons (pv 0) (pa_cons (pe_op op_add (pv 1) pe_int) pa_nil))))
    (pss_cons (ps_set (i := 6) sc_l_case.nd rfl (Or.inl rfl) (C8.pe_c G_l_names hr (by omega) (by rfl) (pa_cons (pv 0) (pa_cons (pv 5) pa_nil))))
    (pss_cons (ps_set (i := 7) sc_l_case.nd rfl (Or.inr rfl) (pe_lc (own := [("_law_name", 15)]) rfl sc_l_case.nd (pi_list (pv 6)) (blkOk_by (N := N_l_case) (sc := defScope s_l_case) (by decide +kernel)) (fun _ _ _ _ _ => (pg_name (i := 15) sc_l_case.nd rfl (Or.inl rfl))) (fun _ _ _ _ _ => pts_nil) (fun _ _ _ _ _ => (C8.pe_c G_l_draw hr (by omega) (by rfl) (pa_cons (pv 0) (pa_cons (pv 4) pa_nil))))))
    (pss_cons (ps_set (i := 8) sc_l_case.nd rfl (Or.inr rfl) (C8.pe_c G_l_changes hr (by omega) (by rfl) (pa_cons (pv 0) (pa_cons (pv 5) (pa_cons (pv 4) pa_nil)))))
    (pss_cons (ps_set (i := 9) sc_l_case.nd rfl (Or.inl rfl) (pe_cmpR op_eq (C8.pe_c G_l_draw hr (by omega) (by rfl) (pa_cons (pv 0) (pa_cons pe_int pa_nil))) pe_int (nomark _)))
    (pss_cons (ps_set (i := 10) sc_l_case.nd rfl (Or.inl rfl) (pe_lst pa_nil))
    (C8.pss_cut (ps_if (pt_cmpR op_gt (pv 5) pe_int (nomark _)) (pss_one (ps_for PassesOwn.never rfl (pi_range1 rfl T.f_range (pa_cons (C8.pe_c G_l_draw hr (by omega) (by rfl) (pa_cons (pv 0) (pa_cons (pe_op op_add (pv 2) pe_int) pa_nil))) pa_nil)) (pg_name (i := 11) sc_l_case.nd rfl (Or.inl rfl)) (pss_cons (ps_set (i := 12) sc_l_case.nd rfl (Or.inl rfl) pe_bl)
    (C8.pss_cut (ps_if (pt_val (pv 9)) (pss_one (ps_set (i := 12) sc_l_case.nd rfl (Or.inl rfl) (pe_cmpR op_eq (C8.pe_c G_l_draw hr (by omega) (by rfl) (pa_cons (pv 0) (pa_cons pe_int pa_nil))) pe_int (nomark _)))) pss_nil)
    (pss_one (ps_set (i := 10) sc_l_case.nd rfl (Or.inl rfl) (pe_op op_cat (pv 10) (C8.pe_c G_l_span hr (by omega) (by rfl) (pa_cons (pv 0) (pa_cons (pv 4) (pa_cons (pv 6) (pa_cons (pv 7) (pa_cons (pv 8) (pa_cons (pv 11) (pa_cons (pv 12) pa_nil))))))))))))))) pss_nil)
    (pss_cons (ps_set (i := 13) sc_l_case.nd rfl (Or.inl rfl) (C8.pe_c G_l_draw hr (by omega) (by rfl) (pa_cons (pv 0) (pa_cons (pe_op op_add (pe_callB callLenSeq (by rfl) T.f_len (by decide +kernel) (pa_cons (pv 10) pa_nil)) pe_int) pa_nil))))
    (pss_cons (ps_set (i := 10) sc_l_case.nd rfl (Or.inl rfl) (pe_op op_cat (pe_slice sl_list (pv 10) (po_some (pv 13)) po_none) (pe_slice sl_list (pv 10) po_none (po_some (pv 13)))))
    (pss_cons (ps_setLc (i := 14) (own := [("_law_k", 11)]) rfl sc_l_case.nd rfl rfl (sw_true rfl rfl rfl (by decide +kernel)) (pi_range1 rfl T.f_range (pa_cons (pv 5) pa_nil)) (blkOk_by (N := N_l_case) (sc := defScope s_l_case) (by decide +kernel)) (fun _ _ _ _ _ => (pg_name (i := 11) sc_l_case.nd rfl (Or.inl rfl))) (fun _ _ _ _ _ => pts_nil) (fun _ _ _ _ _ => (pe_op op_mod (pe_callTy callInt1 (by rfl) T.f_int (by decide +kernel) (pa_cons (pe_op op_add (pe_ix ix_list (pv 7) (pv 11) (fun _ _ => rfl)) (pe_ix ix_list (pv 8) (pv 11) (fun _ _ => rfl))) pa_nil)) (pv 4))))
    (pss_one (ps_ret (pe_lst (pa_cons (pv 4) (pa_cons (pv 6) (pa_cons (pv 10) (pa_cons (pv 7) (pa_cons (pv 14) pa_nil)))))))))))))))))))
theorem sc_l_walk : FnScope N_l_walk ["_law_pool_here", "_law_names_here", "_law_spans", "_law_many"] (defScope s_l_walk) := ⟨rfl, rfl, rfl, by decide +kernel, rfl, by decide +kernel, by decide +kernel⟩
theorem ok_l_walk {f : Addr} {fd : FuncData} (F : FunD K "_law_walk" "_law_walk" (defArgs s_l_walk) (defBody s_l_walk) (defScope s_l_walk) [] [] f fd) (T : Txt K mg) (G_l_draw : C8.Cal P w K mg base (1) "_law_draw" (sp_l_draw K) []) : FnOk P w K mg base CX0 2 f fd ["_law_pool_here", "_law_names_here", "_law_spans", "_law_many"] (sp_l_walk K) := by
  refine F.ok sc_l_walk (len_l_walk K) (fun cdv A outer s H vs Q E hr h => ⟨t_l_walk K, PSs.nox ?_, pure_l_walk K vs H Q E h⟩)
  exact (pss_cons (ps_set (i := 4) sc_l_walk.nd rfl (Or.inl rfl) (pe_lst pa_nil))
    (pss_cons (ps_if (pt_cmpR op_eq (pe_callB callLenSeq (by rfl) T.f_len (by decide +kernel) (pa_cons (pv 1) pa_nil)) pe_int (nomark _)) (pss_one (ps_ret (pv 4))) pss_nil)
    (pss_cons (ps_set (i := 5) sc_l_walk.nd rfl (Or.inr rfl) (pe_ix ix_list (pv 1) (C8.pe_c G_l_draw hr (by omega) (by rfl) (pa_cons (pv 0) (pa_cons (pe_callB callLenSeq (by rfl) T.f_len (by decide +kernel) (pa_cons (pv 1) pa_nil)) pa_nil))) (fun _ _ => rfl)))
    (pss_cons (ps_for PassesOwn.never rfl (pi_range1 rfl T.f_range (pa_cons (pv 3) pa_nil)) (pg_name (i := 6) sc_l_walk.nd rfl (Or.inl rfl)) (pss_cons (ps_setLc (i := 7) (own := [("_law_number", 9)]) rfl sc_l_walk.nd rfl rfl (sw_true rfl rfl rfl (by decide +kernel)) (pi_range1 rfl T.f_range (pa_cons (pe_callB callLenSeq (by rfl) T.f_len (by decide +kernel) (pa_cons (pv 2) pa_nil)) pa_nil)) (blkOk_by (N := N_l_walk) (sc := defScope s_l_walk) (by decide +kernel)) (fun _ _ _ _ _ => (pg_name (i := 9) sc_l_walk.nd rfl (Or.inl rfl))) (fun _ _ _ _ _ => (pts_one (pt_cmpR op_eq (pe_ix ix_tup (pe_ix ix_list (pv 2) (pv 9) (fun _ _ => rfl)) pe_int (fun _ _ => rfl)) (pv 5) (nomark _)))) (fun _ _ _ _ _ => (pe_tup (pa_cons (pv 9) (pa_cons pe_int pa_nil)))))
    (pss_cons (ps_set (i := 7) sc_l_walk.nd rfl (Or.inl rfl) (pe_op op_cat (pv 7) (pe_lc (own := [("_law_number", 9)]) rfl sc_l_walk.nd (pi_range1 rfl T.f_range (pa_cons (pe_callB callLenSeq (by rfl) T.f_len (by decide +kernel) (pa_cons (pv 2) pa_nil)) pa_nil)) (blkOk_by (N := N_l_walk) (sc := defScope s_l_walk) (by decide +kernel)) (fun _ _ _ _ _ => (pg_name (i := 9) sc_l_walk.nd rfl (Or.inl rfl))) (fun _ _ _ _ _ => (pts_one (pt_cmpR op_eq (pe_ix ix_tup (pe_ix ix_list (pv 2) (pv 9) (fun _ _ => rfl)) pe_int (fun _ _ => rfl)) (pv 5) (nomark _)))) (fun _ _ _ _ _ => (pe_tup (pa_cons (pv 9) (pa_cons (pe_un un_neg pe_int) pa_nil)))))))
    (pss_one (ps_if (pt_cmpR op_gt (pe_callB callLenSeq (by rfl) T.f_len (by decide +kernel) (pa_cons (pv 7) pa_nil)) pe_int (nomark _)) (pss_cons (ps_set (i := 8) sc_l_walk.nd rfl (Or.inl rfl) (pe_ix ix_list (pv 7) (C8.pe_c G_l_draw hr (by omega) (by rfl) (pa_cons (pv 0) (pa_cons (pe_callB callLenSeq (by rfl) T.f_len (by decide +kernel) (pa_cons (pv 7) pa_nil)) pa_nil))) (fun _ _ => rfl)))
    (pss_cons (ps_expr (pe_bm PySem.F.plainAttrs_list PySem.F.slot_list_append PySem.F.type_list_append mt_append (pv 4) (pa_cons (pv 8) pa_nil)))
    (pss_cons (ps_set (i := 5) sc_l_walk.nd rfl (Or.inr rfl) (pe_ix ix_tup (pe_ix ix_list (pv 2) (pe_ix ix_tup (pv 8) pe_int (fun _ _ => rfl)) (fun _ _ => rfl)) pe_int (fun _ _ => rfl)))
    (pss_one (ps_if (pt_cmpR op_eq (pe_ix ix_tup (pv 8) pe_int (fun _ _ => rfl)) (pe_un un_neg pe_int) (nomark _)) (pss_one (ps_set (i := 5) sc_l_walk.nd rfl (Or.inr rfl) (pe_ix ix_tup (pe_ix ix_list (pv 2) (pe_ix ix_tup (pv 8) pe_int (fun _ _ => rfl)) (fun _ _ => rfl)) pe_int (fun _ _ => rfl)))) pss_nil))))) pss_nil)))))
    (pss_one (ps_ret (pv 4)))))))
theorem sc_l_begin : FnScope N_l_begin ["_law_spans", "_law_walk_here"] (defScope s_l_begin) := ⟨rfl, rfl, rfl, by decide +kernel, rfl, by decide +kernel, by decide +kernel⟩
theorem ok_l_begin {f : Addr} {fd : FuncData} (F : FunD K "_law_begin" "_law_begin" (defArgs s_l_begin) (defBody s_l_begin) (defScope s_l_begin) [] [] f fd) (T : Txt K mg) : FnOk P w K mg base CX0 1 f fd ["_law_spans", "_law_walk_here"] (sp_l_begin K) := by
  refine F.ok sc_l_begin (len_l_begin K) (fun cdv A outer s H vs Q E hr h => ⟨t_l_begin K, PSs.nox ?_, pure_l_begin K vs H Q E h⟩)
  exact (pss_cons (ps_if (pt_cmpR op_eq (pe_ix ix_tup (pe_ix ix_list (pv 1) pe_int (fun _ _ => rfl)) pe_int (fun _ _ => rfl)) pe_int (nomark _)) (pss_one (ps_ret (pe_ix ix_tup (pe_ix ix_list (pv 0) (pe_ix ix_tup (pe_ix ix_list (pv 1) pe_int (fun _ _ => rfl)) pe_int (fun _ _ => rfl)) (fun _ _ => rfl)) pe_int (fun _ _ => rfl)))) pss_nil)
    (pss_one (ps_ret (pe_ix ix_tup (pe_ix ix_list (pv 0) (pe_ix ix_tup (pe_ix ix_list (pv 1) pe_int (fun _ _ => rfl)) pe_int (fun _ _ => rfl)) (fun _ _ => rfl)) pe_int (fun _ _ => rfl)))))
theorem sc_l_finish : FnScope N_l_finish ["_law_spans", "_law_walk_here"] (defScope s_l_finish) := ⟨rfl, rfl, rfl, by decide +kernel, rfl, by decide +kernel, by decide +kernel⟩
theorem ok_l_finish {f : Addr} {fd : FuncData} (F : FunD K "_law_finish" "_law_finish" (defArgs s_l_finish) (defBody s_l_finish) (defScope s_l_finish) [] [] f fd) (T : Txt K mg) : FnOk P w K mg base CX0 1 f fd ["_law_spans", "_law_walk_here"] (sp_l_finish K) := by
  refine F.ok sc_l_finish (len_l_finish K) (fun cdv A outer s H vs Q E hr h => ⟨t_l_finish K, PSs.nox ?_, pure_l_finish K vs H Q E h⟩)
  exact (pss_cons (ps_if (pt_cmpR op_eq (pe_ix ix_tup (pe_ix ix_list (pv 1) (pe_un un_neg pe_int) (fun _ _ => rfl)) pe_int (fun _ _ => rfl)) pe_int (nomark _)) (pss_one (ps_ret (pe_ix ix_tup (pe_ix ix_list (pv 0) (pe_ix ix_tup (pe_ix ix_list (pv 1) (pe_un un_neg pe_int) (fun _ _ => rfl)) pe_int (fun _ _ => rfl)) (fun _ _ => rfl)) pe_int (fun _ _ => rfl)))) pss_nil)
    (pss_one (ps_ret (pe_ix ix_tup (pe_ix ix_list (pv 0) (pe_ix ix_tup (pe_ix ix_list (pv 1) (pe_un un_neg pe_int) (fun _ _ => rfl)) pe_int (fun _ _ => rfl)) (fun _ _ => rfl)) pe_int (fun _ _ => rfl)))))
theorem sc_l_labels : FnScope N_l_labels ["_law_names_here", "_law_spans"] (defScope s_l_labels) := ⟨rfl, rfl, rfl, by decide +kernel, rfl, by decide +kernel, by decide +kernel⟩
theorem ok_l_labels {f : Addr} {fd : FuncData} (F : FunD K "_law_labels" "_law_labels" (defArgs s_l_labels) (defBody s_l_labels) (defScope s_l_labels) [] [] f fd) (T : Txt K mg) : FnOk P w K mg base CX0 1 f fd ["_law_names_here", "_law_spans"] (sp_l_labels K) := by
  refine F.ok sc_l_labels (len_l_labels K) (fun cdv A outer s H vs Q E hr h => ⟨t_l_labels K, PSs.nox ?_, pure_l_labels K vs H Q E h⟩)
  exact (pss_cons (ps_set (i := 2) sc_l_labels.nd rfl (Or.inl rfl) pe_dnewK)
    (pss_cons (ps_for PassesOwn.never rfl (pi_range1 rfl T.f_range (pa_cons (pe_callB callLenSeq (by rfl) T.f_len (by decide +kernel) (pa_cons (pv 0) pa_nil)) pa_nil)) (pg_name (i := 3) sc_l_labels.nd rfl (Or.inl rfl)) (pss_one (ps_asg (pv 3) (pg_sub (pv 2) (pe_ix ix_list (pv 0) (pv 3) (fun _ _ => rfl)) (set_dict (u1 hr))))))
    (pss_cons (ps_set (i := 4) sc_l_labels.nd rfl (Or.inl rfl) (pe_lst pa_nil))
    (pss_cons (ps_set (i := 5) sc_l_labels.nd rfl (Or.inl rfl) (pe_lst pa_nil))
    (pss_cons (ps_for PassesOwn.never rfl (pi_range1 rfl T.f_range (pa_cons (pe_callB callLenSeq (by rfl) T.f_len (by decide +kernel) (pa_cons (pv 1) pa_nil)) pa_nil)) (pg_name (i := 6) sc_l_labels.nd rfl (Or.inl rfl)) (pss_cons (ps_set (i := 7) sc_l_labels.nd rfl (Or.inl rfl) (pe_dget (u1 hr) (pv 2) (pe_ix ix_tup (pe_ix ix_list (pv 1) (pv 6) (fun _ _ => rfl)) pe_int (fun _ _ => rfl)) (fun _ _ => rfl)))
    (pss_cons (ps_set (i := 8) sc_l_labels.nd rfl (Or.inl rfl) (pe_dget (u1 hr) (pv 2) (pe_ix ix_tup (pe_ix ix_list (pv 1) (pv 6) (fun _ _ => rfl)) pe_int (fun _ _ => rfl)) (fun _ _ => rfl)))
    (pss_one (ps_if (pt_cmpR op_eq (pv 7) (pv 8) (nomark _)) (pss_one (ps_expr (pe_bm PySem.F.plainAttrs_list PySem.F.slot_list_append PySem.F.type_list_append mt_append (pv 5) (pa_cons (pv 6) pa_nil)))) (pss_cons (ps_expr (pe_bm PySem.F.plainAttrs_list PySem.F.slot_list_append PySem.F.type_list_append mt_append (pv 4) (pa_cons (pv 6) pa_nil)))
    (pss_one (ps_for PassesOwn.never rfl (pi_list (pv 0)) (pg_name (i := 9) sc_l_labels.nd rfl (Or.inl rfl)) (pss_one (ps_if (pt_cmpR op_eq (pe_dget (u1 hr) (pv 2) (pv 9) (fun _ _ => rfl)) (pv 8) (nomark _)) (pss_one (ps_asg (pv 7) (pg_sub (pv 2) (pv 9) (set_dict (u1 hr))))) pss_nil))))))))))
    (pss_one (ps_ret (pe_lst (pa_cons (pv 2) (pa_cons (pv 4) (pa_cons (pv 5) pa_nil)))))))))))
theorem sc_l_path : FnScope N_l_path ["_law_spans", "_law_tree", "_law_first", "_law_second"] (defScope s_l_path) := ⟨rfl, rfl, rfl, by decide +kernel, rfl, by decide +kernel, by decide +kernel⟩
theorem ok_l_path {f : Addr} {fd : FuncData} (F : FunD K "_law_path" "_law_path" (defArgs s_l_path) (defBody s_l_path) (defScope s_l_path) [] [] f fd) (T : Txt K mg) : FnOk P w K mg base CX0 1 f fd ["_law_spans", "_law_tree", "_law_first", "_law_second"] (sp_l_path K) := by
  refine F.ok sc_l_path (len_l_path K) (fun cdv A outer s H vs Q E hr h => ⟨t_l_path K, PSs.nox ?_, pure_l_path K vs H Q E h⟩)
  exact (pss_cons (ps_set (i := 4) sc_l_path.nd rfl (Or.inl rfl) (pe_disp (pps_cons (pv 2) (pe_lst pa_nil) pps_nil) rfl rfl (by simp) (by decide)))
    (pss_cons (ps_for PassesOwn.never rfl (pi_list (pv 1)) (pg_name (i := 5) sc_l_path.nd rfl (Or.inl rfl)) (pss_one (ps_for PassesOwn.never rfl (pi_list (pv 1)) (pg_name (i := 6) sc_l_path.nd rfl (Or.inl rfl)) (pss_cons (ps_set (i := 7) sc_l_path.nd rfl (Or.inl rfl) (pe_ix ix_tup (pe_ix ix_list (pv 0) (pv 6) (fun _ _ => rfl)) pe_int (fun _ _ => rfl)))
    (pss_cons (ps_set (i := 8) sc_l_path.nd rfl (Or.inl rfl) (pe_ix ix_tup (pe_ix ix_list (pv 0) (pv 6) (fun _ _ => rfl)) pe_int (fun _ _ => rfl)))
    (C8.pss_cut (ps_if (PW.pt (pw_and (pt_cmp (pc_din (u1 hr) (pv 7) (pv 4))) (pw_and1 (pt_cmp (pc_dnotin (u1 hr) (pv 8) (pv 4)))))) (pss_one (ps_asg (pe_op op_cat (pe_dget (u1 hr) (pv 4) (pv 7) (fun _ _ => rfl)) (pe_lst (pa_cons (pe_tup (pa_cons (pv 6) (pa_cons pe_int pa_nil))) pa_nil))) (pg_sub (pv 4) (pv 8) (set_dict (u1 hr))))) pss_nil)
    (pss_one (ps_if (PW.pt (pw_and (pt_cmp (pc_din (u1 hr) (pv 8) (pv 4))) (pw_and1 (pt_cmp (pc_dnotin (u1 hr) (pv 7) (pv 4)))))) (pss_one (ps_asg (pe_op op_cat (pe_dget (u1 hr) (pv 4) (pv 8) (fun _ _ => rfl)) (pe_lst (pa_cons (pe_tup (pa_cons (pv 6) (pa_cons (pe_un un_neg pe_int) pa_nil))) pa_nil))) (pg_sub (pv 4) (pv 7) (set_dict (u1 hr))))) pss_nil))))))))
    (pss_cons (ps_if (pt_cmp (pc_dnotin (u1 hr) (pv 3) (pv 4))) (pss_one (ps_ret pe_non)) pss_nil)
    (pss_one (ps_ret (pe_dget (u1 hr) (pv 4) (pv 3) (fun _ _ => rfl)))))))
theorem sc_l_ring : FnScope N_l_ring ["_law_pool_here", "_law_names_here", "_law_spans", "_law_many"] (defScope s_l_ring) := ⟨rfl, rfl, rfl, by decide +kernel, rfl, by decide +kernel, by decide +kernel⟩
theorem ok_l_ring {f : Addr} {fd : FuncData} (F : FunD K "_law_ring" "_law_ring" (defArgs s_l_ring) (defBody s_l_ring) (defScope s_l_ring) [] [] f fd) (T : Txt K mg) (G_l_begin : C8.Cal P w K mg base (1) "_law_begin" (sp_l_begin K) []) (G_l_finish : C8.Cal P w K mg base (1) "_law_finish" (sp_l_finish K) []) (G_l_labels : C8.Cal P w K mg base (1) "_law_labels" (sp_l_labels K) []) (G_l_path : C8.Cal P w K mg base (1) "_law_path" (sp_l_path K) []) (G_l_walk : C8.Cal P w K mg base (2) "_law_walk" (sp_l_walk K) []) : FnOk P w K mg base CX0 3 f fd ["_law_pool_here", "_law_names_here", "_law_spans", "_law_many"] (sp_l_ring K) := by
  refine F.ok sc_l_ring (len_l_ring K) (fun cdv A outer s H vs Q E hr h => ⟨t_l_ring K, PSs.nox ?_, pure_l_ring K vs H Q E h⟩)
  exact (pss_cons (ps_set (i := 4) sc_l_ring.nd rfl (Or.inl rfl) (C8.pe_c G_l_walk hr (by omega) (by rfl) (pa_cons (pv 0) (pa_cons (pv 1) (pa_cons (pv 2) (pa_cons (pv 3) pa_nil))))))
    (pss_cons (ps_if (pt_cmpR op_eq (pe_callB callLenSeq (by rfl) T.f_len (by decide +kernel) (pa_cons (pv 4) pa_nil)) pe_int (nomark _)) (pss_one (ps_ret (pe_lst pa_nil))) pss_nil)
    (pss_cons (ps_set (i := 5) sc_l_ring.nd rfl (Or.inl rfl) (pe_ix ix_list (C8.pe_c G_l_labels hr (by omega) (by rfl) (pa_cons (pv 1) (pa_cons (pv 2) pa_nil))) pe_int (fun _ _ => rfl)))
    (pss_one (ps_ret (pe_op op_cat (pv 4) (C8.pe_c G_l_path hr (by omega) (by rfl) (pa_cons (pv 2) (pa_cons (pv 5) (pa_cons (C8.pe_c G_l_finish hr (by omega) (by rfl) (pa_cons (pv 2) (pa_cons (pv 4) pa_nil))) (pa_cons (C8.pe_c G_l_begin hr (by omega) (by rfl) (pa_cons (pv 2) (pa_cons (pv 4) pa_nil))) pa_nil)))))))))))
theorem sc_l_spoilt : FnScope N_l_spoilt ["_law_pool_here", "_law_walk_here", "_law_count"] (defScope s_l_spoilt) := ⟨rfl, rfl, rfl, by decide +kernel, rfl, by decide +kernel, by decide +kernel⟩
theorem ok_l_spoilt {f : Addr} {fd : FuncData} (F : FunD K "_law_spoilt" "_law_spoilt" (defArgs s_l_spoilt) (defBody s_l_spoilt) (defScope s_l_spoilt) [] [] f fd) (T : Txt K mg) (G_l_draw : C8.Cal P w K mg base (1) "_law_draw" (sp_l_draw K) []) : FnOk P w K mg base CX0 2 f fd ["_law_pool_here", "_law_walk_here", "_law_count"] (sp_l_spoilt K) := by
  refine F.ok sc_l_spoilt (len_l_spoilt K) (fun cdv A outer s H vs Q E hr h => ⟨t_l_spoilt K, PSs.nox ?_, pure_l_spoilt K vs H Q E h⟩)
  exact (pss_cons (ps_set (i := 3) sc_l_spoilt.nd rfl (Or.inl rfl) (pe_callTy callListOf (by rfl) T.f_list (by decide +kernel) (pa_cons (pv 1) pa_nil)))
    (pss_cons (ps_set (i := 4) sc_l_spoilt.nd rfl (Or.inl rfl) (C8.pe_c G_l_draw hr (by omega) (by rfl) (pa_cons (pv 0) (pa_cons pe_int pa_nil))))
    (pss_cons (ps_if (pt_cmpR op_gt (pe_callB callLenSeq (by rfl) T.f_len (by decide +kernel) (pa_cons (pv 3) pa_nil)) pe_int (nomark _)) (pss_cons (ps_set (i := 5) sc_l_spoilt.nd rfl (Or.inl rfl) (C8.pe_c G_l_draw hr (by omega) (by rfl) (pa_cons (pv 0) (pa_cons (pe_callB callLenSeq (by rfl) T.f_len (by decide +kernel) (pa_cons (pv 3) pa_nil)) pa_nil))))
    (C8.pss_cut (ps_if (pt_cmpR op_eq (pv 4) pe_int (nomark _)) (pss_one (ps_asg (pe_tup (pa_cons (pe_ix ix_list (pe_lst (pa_cons (pe_un un_neg pe_int) (pa_cons (pv 2) (pa_cons (pe_op op_add (pv 2) pe_int) pa_nil)))) (C8.pe_c G_l_draw hr (by omega) (by rfl) (pa_cons (pv 0) (pa_cons pe_int pa_nil))) (fun _ _ => rfl)) (pa_cons (pe_ix ix_tup (pe_ix ix_list (pv 3) (pv 5) (fun _ _ => rfl)) pe_int (fun _ _ => rfl)) pa_nil))) (pg_sub (pv 3) (pv 5) set_list))) pss_nil)
    (C8.pss_cut (ps_if (pt_cmpR op_eq (pv 4) pe_int (nomark _)) (pss_one (ps_asg (pe_tup (pa_cons (pe_ix ix_tup (pe_ix ix_list (pv 3) (pv 5) (fun _ _ => rfl)) pe_int (fun _ _ => rfl)) (pa_cons (pe_ix ix_list (pe_lst (pa_cons pe_int (pa_cons pe_int (pa_cons (pe_un un_neg pe_int) pa_nil)))) (C8.pe_c G_l_draw hr (by omega) (by rfl) (pa_cons (pv 0) (pa_cons pe_int pa_nil))) (fun _ _ => rfl)) pa_nil))) (pg_sub (pv 3) (pv 5) set_list))) pss_nil)
    (C8.pss_cut (ps_if (pt_cmpR op_eq (pv 4) pe_int (nomark _)) (pss_one (ps_asg (pe_tup (pa_cons (pe_ix ix_tup (pe_ix ix_list (pv 3) (pv 5) (fun _ _ => rfl)) pe_int (fun _ _ => rfl)) (pa_cons (pe_un un_neg (pe_ix ix_tup (pe_ix ix_list (pv 3) (pv 5) (fun _ _ => rfl)) pe_int (fun _ _ => rfl))) pa_nil))) (pg_sub (pv 3) (pv 5) set_list))) pss_nil)
    (C8.pss_cut (ps_if (pt_cmpR op_eq (pv 4) pe_int (nomark _)) (pss_one (ps_set (i := 3) sc_l_spoilt.nd rfl (Or.inl rfl) (pe_op op_cat (pe_slice sl_list (pv 3) po_none (po_some (pv 5))) (pe_slice sl_list (pv 3) (po_some (pe_op op_add (pv 5) pe_int)) po_none)))) pss_nil)
    (pss_one (ps_if (pt_cmpR op_eq (pv 4) pe_int (nomark _)) (pss_one (ps_set (i := 3) sc_l_spoilt.nd rfl (Or.inl rfl) (pe_op op_cat (pe_slice sl_list (pv 3) (po_some (pv 5)) po_none) (pe_slice sl_list (pv 3) po_none (po_some (pv 5)))))) pss_nil))))))) pss_nil)
    (pss_one (ps_ret (pv 3))))))
theorem sc_l_loose : FnScope N_l_loose ["_law_pool_here", "_law_count", "_law_many"] (defScope s_l_loose) := ⟨rfl, rfl, rfl, by decide +kernel, rfl, by decide +kernel, by decide +kernel⟩
theorem ok_l_loose {f : Addr} {fd : FuncData} (F : FunD K "_law_loose" "_law_loose" (defArgs s_l_loose) (defBody s_l_loose) (defScope s_l_loose) [] [] f fd) (T : Txt K mg) (G_l_draw : C8.Cal P w K mg base (1) "_law_draw" (sp_l_draw K) []) : FnOk P w K mg base CX0 2 f fd ["_law_pool_here", "_law_count", "_law_many"] (sp_l_loose K) := by
  refine F.ok sc_l_loose (len_l_loose K) (fun cdv A outer s H vs Q E hr h => ⟨t_l_loose K, PSs.nox ?_, pure_l_loose K vs H Q E h⟩)
  exact (pss_cons (ps_set (i := 3) sc_l_loose.nd rfl (Or.inl rfl) (pe_lst pa_nil))
    (pss_cons (ps_for PassesOwn.never rfl (pi_range1 rfl T.f_range (pa_cons (pv 2) pa_nil)) (pg_name (i := 4) sc_l_loose.nd rfl (Or.inl rfl)) (pss_cons (ps_set (i := 5) sc_l_loose.nd rfl (Or.inl rfl) (pe_op op_sub (C8.pe_c G_l_draw hr (by omega) (by rfl) (pa_cons (pv 0) (pa_cons (pe_op op_add (pv 1) pe_int) pa_nil))) pe_int))
    (C8.pss_cut (ps_if (pt_cmpR op_eq (C8.pe_c G_l_draw hr (by omega) (by rfl) (pa_cons (pv 0) (pa_cons pe_int pa_nil))) pe_int (nomark _)) (pss_one (ps_set (i := 5) sc_l_loose.nd rfl (Or.inl rfl) (pe_op op_sub (C8.pe_c G_l_draw hr (by omega) (by rfl) (pa_cons (pv 0) (pa_cons (pe_op op_add (pe_op op_mul pe_int (pe_op op_pow pe_int pe_int)) pe_int) pa_nil))) (pe_op op_pow pe_int pe_int)))) pss_nil)
    (pss_cons (ps_set (i := 6) sc_l_loose.nd rfl (Or.inl rfl) (pe_op op_sub pe_int (pe_op op_mul pe_int (C8.pe_c G_l_draw hr (by omega) (by rfl) (pa_cons (pv 0) (pa_cons pe_int pa_nil))))))
    (C8.pss_cut (ps_if (pt_cmpR op_eq (C8.pe_c G_l_draw hr (by omega) (by rfl) (pa_cons (pv 0) (pa_cons pe_int pa_nil))) pe_int (nomark _)) (pss_one (ps_set (i := 6) sc_l_loose.nd rfl (Or.inl rfl) (pe_op op_sub (C8.pe_c G_l_draw hr (by omega) (by rfl) (pa_cons (pv 0) (pa_cons (pe_op op_add (pe_op op_mul pe_int (pe_op op_pow pe_int pe_int)) pe_int) pa_nil))) (pe_op op_pow pe_int pe_int)))) pss_nil)
    (pss_one (ps_expr (pe_bm PySem.F.plainAttrs_list PySem.F.slot_list_append PySem.F.type_list_append mt_append (pv 3) (pa_cons (pe_tup (pa_cons (pv 5) (pa_cons (pv 6) pa_nil))) pa_nil)))))))))
    (pss_one (ps_ret (pv 3)))))
theorem sc_l_steps : FnScope N_l_steps ["_law_pool_here", "_law_names_here", "_law_spans", "_law_many"] (defScope s_l_steps) := ⟨rfl, rfl, rfl, by decide +kernel, rfl, by decide +kernel, by decide +kernel⟩
theorem ok_l_steps {f : Addr} {fd : FuncData} (F : FunD K "_law_steps" "_law_steps" (defArgs s_l_steps) (defBody s_l_steps) (defScope s_l_steps) [] [] f fd) (T : Txt K mg) (G_l_draw : C8.Cal P w K mg base (1) "_law_draw" (sp_l_draw K) []) (G_l_walk : C8.Cal P w K mg base (2) "_law_walk" (sp_l_walk K) []) (G_l_ring : C8.Cal P w K mg base (3) "_law_ring" (sp_l_ring K) []) (G_l_spoilt : C8.Cal P w K mg base (2) "_law_spoilt" (sp_l_spoilt K) []) (G_l_loose : C8.Cal P w K mg base (2) "_law_loose" (sp_l_loose K) []) : FnOk P w K mg base CX0 4 f fd ["_law_pool_here", "_law_names_here", "_law_spans", "_law_many"] (sp_l_steps K) := by
  refine F.ok sc_l_steps (len_l_steps K) (fun cdv A outer s H vs Q E hr h => ⟨t_l_steps K, PSs.nox ?_, pure_l_steps K vs H Q E h⟩)
  exact (pss_cons (ps_set (i := 4) sc_l_steps.nd rfl (Or.inl rfl) (C8.pe_c G_l_draw hr (by omega) (by rfl) (pa_cons (pv 0) (pa_cons pe_int pa_nil))))
    (pss_cons (ps_set (i := 5) sc_l_steps.nd rfl (Or.inl rfl) (C8.pe_c G_l_draw hr (by omega) (by rfl) (pa_cons (pv 0) (pa_cons (pe_op op_add (pv 3) pe_int) pa_nil))))
    (pss_cons (ps_if (pt_cmpR op_eq (pv 4) pe_int (nomark _)) (pss_one (ps_ret (C8.pe_c G_l_loose hr (by omega) (by rfl) (pa_cons (pv 0) (pa_cons (pe_callB callLenSeq (by rfl) T.f_len (by decide +kernel) (pa_cons (pv 2) pa_nil)) (pa_cons (pv 5) pa_nil)))))) pss_nil)
    (C8.pss_cut (ps_if (PW.pt (pw_or (pt_cmpR op_eq (pv 4) pe_int (nomark _)) (pw_or1 (pt_cmpR op_eq (pv 4) pe_int (nomark _))))) (pss_one (ps_set (i := 6) sc_l_steps.nd rfl (Or.inl rfl) (C8.pe_c G_l_ring hr (by omega) (by rfl) (pa_cons (pv 0) (pa_cons (pv 1) (pa_cons (pv 2) (pa_cons (pv 5) pa_nil))))))) (pss_one (ps_set (i := 6) sc_l_steps.nd rfl (Or.inl rfl) (C8.pe_c G_l_walk hr (by omega) (by rfl) (pa_cons (pv 0) (pa_cons (pv 1) (pa_cons (pv 2) (pa_cons (pv 5) pa_nil))))))))
    (C8.pss_cut (ps_if (PW.pt (pw_or (pt_cmpR op_eq (pv 4) pe_int (nomark _)) (pw_or1 (pt_cmpR op_gt (pv 4) pe_int (nomark _))))) (pss_one (ps_set (i := 6) sc_l_steps.nd rfl (Or.inl rfl) (C8.pe_c G_l_spoilt hr (by omega) (by rfl) (pa_cons (pv 0) (pa_cons (pv 6) (pa_cons (pe_callB callLenSeq (by rfl) T.f_len (by decide +kernel) (pa_cons (pv 2) pa_nil)) pa_nil)))))) pss_nil)
    (pss_cons (ps_if (pt_cmpR op_eq (pv 4) pe_int (nomark _)) (pss_one (ps_set (i := 6) sc_l_steps.nd rfl (Or.inl rfl) (C8.pe_c G_l_spoilt hr (by omega) (by rfl) (pa_cons (pv 0) (pa_cons (pv 6) (pa_cons (pe_callB callLenSeq (by rfl) T.f_len (by decide +kernel) (pa_cons (pv 2) pa_nil)) pa_nil)))))) pss_nil)
    (pss_one (ps_ret (pv 6)))))))))
theorem sc_l_stranger : FnScope N_l_stranger ["_law_pool_here", "_law_names_here"] (defScope s_l_stranger) := ⟨rfl, rfl, rfl, by decide +kernel, rfl, by decide +kernel, by decide +kernel⟩
theorem ok_l_stranger {f : Addr} {fd : FuncData} (F : FunD K "_law_stranger" "_law_stranger" (defArgs s_l_stranger) (defBody s_l_stranger) (defScope s_l_stranger) [] [] f fd) (T : Txt K mg) (G_l_draw : C8.Cal P w K mg base (1) "_law_draw" (sp_l_draw K) []) (G_l_word : C8.Cal P w K mg base (2) "_law_word" (sp_l_word K) []) : FnOk P w K mg base CX0 3 f fd ["_law_pool_here", "_law_names_here"] (sp_l_stranger K) := by
  refine F.ok sc_l_stranger (len_l_stranger K) (fun cdv A outer s H vs Q E hr h => ⟨t_l_stranger K, PSs.nox ?_, pure_l_stranger K vs H Q E h⟩)
  exact (pss_cons (ps_set (i := 2) sc_l_stranger.nd rfl (Or.inl rfl) (pe_op opAddStr (pe_strS (by decide +kernel)) (C8.pe_c G_l_word hr (by omega) (by rfl) (pa_cons (pv 0) (pa_cons (C8.pe_c G_l_draw hr (by omega) (by rfl) (pa_cons (pv 0) (pa_cons pe_int pa_nil))) pa_nil)))))
    (C8.pss_cut (ps_if (PW.pt (pw_and (pt_cmpR op_gt (pe_callB callLenSeq (by rfl) T.f_len (by decide +kernel) (pa_cons (pv 1) pa_nil)) pe_int (nomark _)) (pw_and1 (pt_cmpR op_eq (C8.pe_c G_l_draw hr (by omega) (by rfl) (pa_cons (pv 0) (pa_cons pe_int pa_nil))) pe_int (nomark _))))) (pss_one (ps_set (i := 2) sc_l_stranger.nd rfl (Or.inl rfl) (pe_op opAddStr (pe_slice sl_str (pe_ix ix_list (pv 1) (C8.pe_c G_l_draw hr (by omega) (by rfl) (pa_cons (pv 0) (pa_cons (pe_callB callLenSeq (by rfl) T.f_len (by decide +kernel) (pa_cons (pv 1) pa_nil)) pa_nil))) (fun _ _ => rfl)) po_none (po_some pe_int)) (pe_strS (by decide +kernel))))) pss_nil)
    (pss_cons (ps_for PassesOwn.never rfl (pi_range1 rfl T.f_range (pa_cons pe_int pa_nil)) (pg_name (i := 3) sc_l_stranger.nd rfl (Or.inl rfl)) (pss_one (ps_if (PW.pt (pw_and (pt_cmpR op_in_seq (pv 2) (pv 1) (by rfl)) (pw_and1 (pt_cmpR op_notIn_seq (pe_op opAddStr (pe_strS (by decide +kernel)) (pe_callTy callStrInt (by rfl) T.f_str (by decide +kernel) (pa_cons (pv 3) pa_nil))) (pv 1) (by rfl))))) (pss_one (ps_set (i := 2) sc_l_stranger.nd rfl (Or.inl rfl) (pe_op opAddStr (pe_strS (by decide +kernel)) (pe_callTy callStrInt (by rfl) T.f_str (by decide +kernel) (pa_cons (pv 3) pa_nil))))) pss_nil)))
    (pss_one (ps_ret (pv 2))))))
theorem sc_l_faulty : FnScope N_l_faulty ["_law_pool_here", "_law_length_here", "_law_names_here", "_law_minutes"] (defScope s_l_faulty) := ⟨rfl, rfl, rfl, by decide +kernel, rfl, by decide +kernel, by decide +kernel⟩
theorem ok_l_faulty {f : Addr} {fd : FuncData} (F : FunD K "_law_faulty" "_law_faulty" (defArgs s_l_faulty) (defBody s_l_faulty) (defScope s_l_faulty) [] [] f fd) (T : Txt K mg) (G_l_draw : C8.Cal P w K mg base (1) "_law_draw" (sp_l_draw K) []) (G_l_stranger : C8.Cal P w K mg base (3) "_law_stranger" (sp_l_stranger K) []) : FnOk P w K mg base CX0 4 f fd ["_law_pool_here", "_law_length_here", "_law_names_here", "_law_minutes"] (sp_l_faulty K) := by
  refine F.ok sc_l_faulty (len_l_faulty K) (fun cdv A outer s H vs Q E hr h => ⟨t_l_faulty K, PSs.nox ?_, pure_l_faulty K vs H Q E h⟩)
  exact (pss_cons (ps_set (i := 4) sc_l_faulty.nd rfl (Or.inl rfl) (C8.pe_c G_l_draw hr (by omega) (by rfl) (pa_cons (pv 0) (pa_cons (pe_callB (callMax2 rfl) (by rfl) T.f_max (by decide +kernel) (pa_cons pe_int (pa_cons (pe_callB callLenSeq (by rfl) T.f_len (by decide +kernel) (pa_cons (pv 2) pa_nil)) pa_nil))) pa_nil))))
    (pss_cons (ps_set (i := 5) sc_l_faulty.nd rfl (Or.inl rfl) (C8.pe_c G_l_draw hr (by omega) (by rfl) (pa_cons (pv 0) (pa_cons pe_int pa_nil))))
    (pss_cons (ps_set (i := 6) sc_l_faulty.nd rfl (Or.inl rfl) (pe_lst pa_nil))
    (pss_cons (ps_for PassesOwn.never rfl (pi_range1 rfl T.f_range (pa_cons (pe_callB callLenSeq (by rfl) T.f_len (by decide +kernel) (pa_cons (pv 2) pa_nil)) pa_nil)) (pg_name (i := 7) sc_l_faulty.nd rfl (Or.inl rfl)) (pss_cons (ps_set (i := 8) sc_l_faulty.nd rfl (Or.inl rfl) (pe_op op_mod (pe_callTy callInt1 (by rfl) T.f_int (by decide +kernel) (pa_cons (pe_op op_add (pv 7) (pv 4)) pa_nil)) (pe_callB callLenSeq (by rfl) T.f_len (by decide +kernel) (pa_cons (pv 2) pa_nil))))
    (pss_cons (ps_set (i := 9) sc_l_faulty.nd rfl (Or.inl rfl) (pe_ix ix_list (pv 3) (pv 8) (fun _ _ => rfl)))
    (C8.pss_cut (ps_if (PW.pt (pw_and (pt_cmpR op_gt (pv 5) pe_int (nomark _)) (pw_and1 (pt_cmpR op_eq (C8.pe_c G_l_draw hr (by omega) (by rfl) (pa_cons (pv 0) (pa_cons pe_int pa_nil))) pe_int (nomark _))))) (pss_one (ps_set (i := 9) sc_l_faulty.nd rfl (Or.inl rfl) (C8.pe_c G_l_draw hr (by omega) (by rfl) (pa_cons (pv 0) (pa_cons (pv 1) pa_nil))))) pss_nil)
    (pss_one (ps_if (PW.pt (pw_or (pt_cmpR op_lt (pv 5) pe_int (nomark _)) (pw_or1 (pt_cmpR op_gt (C8.pe_c G_l_draw hr (by omega) (by rfl) (pa_cons (pv 0) (pa_cons pe_int pa_nil))) pe_int (nomark _))))) (pss_one (ps_expr (pe_bm PySem.F.plainAttrs_list PySem.F.slot_list_append PySem.F.type_list_append mt_append (pv 6) (pa_cons (pe_tup (pa_cons (pe_ix ix_list (pv 2) (pv 8) (fun _ _ => rfl)) (pa_cons (pv 9) pa_nil))) pa_nil)))) pss_nil))))))
    (pss_cons (ps_set (i := 10) sc_l_faulty.nd rfl (Or.inl rfl) (pv 1))
    (C8.pss_cut (ps_if (pt_cmpR op_eq (pv 5) pe_int (nomark _)) (pss_cons (ps_for PassesOwn.never rfl (pi_range1 rfl T.f_range (pa_cons (C8.pe_c G_l_draw hr (by omega) (by rfl) (pa_cons (pv 0) (pa_cons pe_int pa_nil))) pa_nil)) (pg_name (i := 7) sc_l_faulty.nd rfl (Or.inl rfl)) (pss_cons (ps_set (i := 8) sc_l_faulty.nd rfl (Or.inl rfl) (C8.pe_c G_l_draw hr (by omega) (by rfl) (pa_cons (pv 0) (pa_cons (pe_op op_add (pe_callB callLenSeq (by rfl) T.f_len (by decide +kernel) (pa_cons (pv 6) pa_nil)) pe_int) pa_nil))))
    (pss_one (ps_set (i := 6) sc_l_faulty.nd rfl (Or.inl rfl) (pe_op op_cat (pe_op op_cat (pe_slice sl_list (pv 6) po_none (po_some (pv 8))) (pe_lst (pa_cons (pe_tup (pa_cons (C8.pe_c G_l_stranger hr (by omega) (by rfl) (pa_cons (pv 0) (pa_cons (pv 2) pa_nil))) (pa_cons (C8.pe_c G_l_draw hr (by omega) (by rfl) (pa_cons (pv 0) (pa_cons (pv 1) pa_nil))) pa_nil))) pa_nil))) (pe_slice sl_list (pv 6) (po_some (pv 8)) po_none))))))
    (pss_one (ps_if (pt_cmpR op_eq (C8.pe_c G_l_draw hr (by omega) (by rfl) (pa_cons (pv 0) (pa_cons pe_int pa_nil))) pe_int (nomark _)) (pss_one (ps_set (i := 10) sc_l_faulty.nd rfl (Or.inl rfl) (pe_op op_add pe_int (C8.pe_c G_l_draw hr (by omega) (by rfl) (pa_cons (pv 0) (pa_cons pe_int pa_nil)))))) pss_nil))) pss_nil)
    (pss_cons (ps_set (i := 11) sc_l_faulty.nd rfl (Or.inl rfl) pe_dnewK)
    (pss_cons (ps_for PassesOwn.never rfl (pi_list (pv 6)) (pg_name (i := 12) sc_l_faulty.nd rfl (Or.inl rfl)) (pss_one (ps_asg (pe_op op_mod (pe_callTy callInt1 (by rfl) T.f_int (by decide +kernel) (pa_cons (pe_ix ix_tup (pv 12) pe_int (fun _ _ => rfl)) pa_nil)) (pv 10)) (pg_sub (pv 11) (pe_ix ix_tup (pv 12) pe_int (fun _ _ => rfl)) (set_dict (u1 hr))))))
    (pss_one (ps_ret (pe_lst (pa_cons (pv 10) (pa_cons (pv 11) pa_nil)))))))))))))
theorem sc_Net_spans : FnScope N_Net_spans ["self"] (defScope s_Net_spans) := ⟨rfl, rfl, rfl, by decide +kernel, rfl, by decide +kernel, by decide +kernel⟩
theorem ok_Net_spans {f : Addr} {fd : FuncData} (F : FunD K "spans" "Net.spans" (defArgs s_Net_spans) (defBody s_Net_spans) (defScope s_Net_spans) [] [] f fd) (T : Txt K mg) : FnOk P w K mg base CX0 1 f fd ["self"] (sp_Net_spans K) := by
  refine F.ok sc_Net_spans (len_Net_spans K) (fun cdv A outer s H vs Q E hr h => ⟨t_Net_spans K, PSs.nox ?_, pure_Net_spans K vs H Q E h⟩)
  exact (pss_one (ps_ret (pe_callTy callListOf (by rfl) T.f_list (by decide +kernel) (pa_cons (pe_fldC T.cls_Net T.na_Net__spans (pv 0)) pa_nil))))
theorem sc_Net_round_length : FnScope N_Net_round_length ["self"] (defScope s_Net_round_length) := ⟨rfl, rfl, rfl, by decide +kernel, rfl, by decide +kernel, by decide +kernel⟩
theorem ok_Net_round_length {f : Addr} {fd : FuncData} (F : FunD K "round_length" "Net.round_length" (defArgs s_Net_round_length) (defBody s_Net_round_length) (defScope s_Net_round_length) [] [] f fd) (T : Txt K mg) : FnOk P w K mg base CX0 1 f fd ["self"] (sp_Net_round_length K) := by
  refine F.ok sc_Net_round_length (len_Net_round_length K) (fun cdv A outer s H vs Q E hr h => ⟨t_Net_round_length K, PSs.nox ?_, pure_Net_round_length K vs H Q E h⟩)
  exact (pss_one (ps_ret (pe_fldC T.cls_Net T.na_Net__round_length (pv 0))))
theorem sc_Net_contains : FnScope N_Net_contains ["self", "name"] (defScope s_Net_contains) := ⟨rfl, rfl, rfl, by decide +kernel, rfl, by decide +kernel, by decide +kernel⟩
theorem ok_Net_contains {f : Addr} {fd : FuncData} (F : FunD K "__contains__" "Net.__contains__" (defArgs s_Net_contains) (defBody s_Net_contains) (defScope s_Net_contains) [] [] f fd) (T : Txt K mg) : FnOk P w K mg base CX0 1 f fd ["self", "name"] (sp_Net_contains K) := by
  refine F.ok sc_Net_contains (len_Net_contains K) (fun cdv A outer s H vs Q E hr h => ⟨t_Net_contains K, PSs.nox ?_, pure_Net_contains K vs H Q E h⟩)
  exact (pss_one (ps_ret (pe_cmpR op_in_seq (pv 1) (pe_fldC T.cls_Net T.na_Net__events (pv 0)) (by rfl))))
theorem sc_Times_round_length : FnScope N_Times_round_length ["self"] (defScope s_Times_round_length) := ⟨rfl, rfl, rfl, by decide +kernel, rfl, by decide +kernel, by decide +kernel⟩
theorem ok_Times_round_length {f : Addr} {fd : FuncData} (F : FunD K "round_length" "Times.round_length" (defArgs s_Times_round_length) (defBody s_Times_round_length) (defScope s_Times_round_length) [] [] f fd) (T : Txt K mg) : FnOk P w K mg base CX0 1 f fd ["self"] (sp_Times_round_length K) := by
  refine F.ok sc_Times_round_length (len_Times_round_length K) (fun cdv A outer s H vs Q E hr h => ⟨t_Times_round_length K, PSs.nox ?_, pure_Times_round_length K vs H Q E h⟩)
  exact (pss_one (ps_ret (pe_fldC T.cls_Times T.na_Times__round_length (pv 0))))
theorem sc_Times_contains : FnScope N_Times_contains ["self", "name"] (defScope s_Times_contains) := ⟨rfl, rfl, rfl, by decide +kernel, rfl, by decide +kernel, by decide +kernel⟩
theorem ok_Times_contains {f : Addr} {fd : FuncData} (F : FunD K "__contains__" "Times.__contains__" (defArgs s_Times_contains) (defBody s_Times_contains) (defScope s_Times_contains) [] [] f fd) (T : Txt K mg) : FnOk P w K mg base CX0 1 f fd ["self", "name"] (sp_Times_contains K) := by
  refine F.ok sc_Times_contains (len_Times_contains K) (fun cdv A outer s H vs Q E hr h => ⟨t_Times_contains K, PSs.nox ?_, pure_Times_contains K vs H Q E h⟩)
  exact (pss_one (ps_ret (pe_cmp (pc_din (u1 hr) (pv 1) (pe_fldC T.cls_Times T.na_Times__minutes (pv 0))))))
theorem sc_check_names : FnScope N_check_names ["net", "times"] (defScope s_check_names) := ⟨rfl, rfl, rfl, by decide +kernel, rfl, by decide +kernel, by decide +kernel⟩
theorem ok_check_names {f : Addr} {fd : FuncData} (F : FunD K "check_names" "check_names" (defArgs s_check_names) (defBody s_check_names) (defScope s_check_names) [] [] f fd) (T : Txt K mg) (GX_BadNumber : XMk P w K mg base 1 "BadNumber" (C_BadNumber K) (spX (C_BadNumber K) ["number"])) (GX_WrongNames : XMk P w K mg base 1 "WrongNames" (C_WrongNames K) (spX (C_WrongNames K) ["name"])) (G_Net_round_length : Prp P w K mg base 1 (C_Net K) "round_length" (sp_Net_round_length K)) (GI_Net_iter : ItrN P w K mg base 1 (C_Net K) (spYoung K (C_Net K) "_events")) (G_Net_contains : Spc P w K mg base 1 (C_Net K) "__contains__" (sp_Net_contains K)) (G_Times_round_length : Prp P w K mg base 1 (C_Times K) "round_length" (sp_Times_round_length K)) (GI_Times_iter : ItrN P w K mg base 1 (C_Times K) (spYoungK (C_Times K) "_minutes")) (G_Times_contains : Spc P w K mg base 1 (C_Times K) "__contains__" (sp_Times_contains K)) : FnOk P w K mg base (L2.CX P w) 3 f fd ["net", "times"] (sp_check_names K) := by
  refine F.ok sc_check_names (len_check_names K) (fun cdv A outer s H vs Q E hr h => ⟨t_check_names K E, ?_, pure_check_names K vs H Q E h⟩)
  exact (pss_cons (ps_if (pt_cmpR op_ne (pe_prp T.cls_Times G_Times_round_length hr (by omega) (pv 1)) (pe_prp T.cls_Net G_Net_round_length hr (by omega) (pv 0)) (nomark _)) (pss_one (ps_rs GX_BadNumber hr (by omega) rfl tkOf (by rfl) (pa_cons (pe_prp T.cls_Times G_Times_round_length hr (by omega) (pv 1)) pa_nil))) pss_nil)
    (pss_cons (ps_for poOf rfl (pi_ownL GI_Net_iter hr (by omega) (pv 0)) (pg_name (i := 2) sc_check_names.nd rfl (Or.inl rfl)) (pss_one (ps_if (pt_cmpR (op_notInOwn G_Times_contains (hr.mono (by omega))) (pv 2) (pv 1) (by rfl)) (pss_one (ps_rs GX_WrongNames hr (by omega) rfl tkOf (by rfl) (pa_cons (pv 2) pa_nil))) pss_nil)))
    (pss_one (ps_lockX tkOf fun E1 t1 => (ps_for poOf rfl (pi_ownK GI_Times_iter hr (by omega) (pv 1)) (pg_name (i := 2) sc_check_names.nd rfl (Or.inl rfl)) (pss_one (ps_if (pt_cmpR (op_notInOwn G_Net_contains (hr.mono (by omega))) (pv 2) (pv 0) (by rfl)) (pss_one (ps_rs GX_WrongNames hr (by omega) rfl t1 (by rfl) (pa_cons (pv 2) pa_nil))) pss_nil)))))))
theorem sc_Times_getitem : FnScope N_Times_getitem ["self", "name"] (defScope s_Times_getitem) := ⟨rfl, rfl, rfl, by decide +kernel, rfl, by decide +kernel, by decide +kernel⟩
theorem ok_Times_getitem {f : Addr} {fd : FuncData} (F : FunD K "__getitem__" "Times.__getitem__" (defArgs s_Times_getitem) (defBody s_Times_getitem) (defScope s_Times_getitem) [] [] f fd) (T : Txt K mg) (G_check_known : C8.Cal P w K mg base (1) "check_known" (sp_check_known K) []) : FnOk P w K mg base CX0 2 f fd ["self", "name"] (sp_Times_getitem K) := by
  refine F.ok sc_Times_getitem (len_Times_getitem K) (fun cdv A outer s H vs Q E hr h => ⟨t_Times_getitem K, PSs.nox ?_, pure_Times_getitem K vs H Q E h⟩)
  exact (pss_cons (ps_expr (C8.pe_c G_check_known hr (by omega) (by rfl) (pa_cons (pe_lst (pa_cons (pv 1) pa_nil)) (pa_cons (pe_fldC T.cls_Times T.na_Times__minutes (pv 0)) pa_nil))))
    (pss_one (ps_ret (pe_dget (u1 hr) (pe_fldC T.cls_Times T.na_Times__minutes (pv 0)) (pv 1) (fun _ _ => rfl)))))
theorem sc_on_span : FnScope N_on_span ["times", "span"] (defScope s_on_span) := ⟨rfl, rfl, rfl, by decide +kernel, rfl, by decide +kernel, by decide +kernel⟩
theorem ok_on_span {f : Addr} {fd : FuncData} (F : FunD K "on_span" "on_span" (defArgs s_on_span) (defBody s_on_span) (defScope s_on_span) [] [] f fd) (T : Txt K mg) (G_Times_round_length : Prp P w K mg base 1 (C_Times K) "round_length" (sp_Times_round_length K)) (G_Times_getitem : SpcG P w K mg base 2 (C_Times K) (sp_Times_getitem K)) : FnOk P w K mg base CX0 4 f fd ["times", "span"] (sp_on_span K) := by
  refine F.ok sc_on_span (len_on_span K) (fun cdv A outer s H vs Q E hr h => ⟨t_on_span K, PSs.nox ?_, pure_on_span K vs H Q E h⟩)
  exact (pss_cons (ps_asg (pv 1) (pg_tup rfl (pgs_cons (pg_name (i := 2) sc_on_span.nd rfl (Or.inl rfl)) (pgs_cons (pg_name (i := 3) sc_on_span.nd rfl (Or.inl rfl)) (pgs_cons (pg_name (i := 4) sc_on_span.nd rfl (Or.inl rfl)) (pgs_cons (pg_name (i := 5) sc_on_span.nd rfl (Or.inl rfl)) (pgs_cons (pg_name (i := 6) sc_on_span.nd rfl (Or.inl rfl)) pgs_nil)))))))
    (pss_cons (ps_set (i := 7) sc_on_span.nd rfl (Or.inl rfl) (pe_op op_add (pv 4) (pe_op op_mod (pe_op op_sub (pe_op op_sub (pe_subOwn G_Times_getitem hr (by omega) (pv 0) (pv 3) (fun _ _ => rfl)) (pe_subOwn G_Times_getitem hr (by omega) (pv 0) (pv 2) (fun _ _ => rfl))) (pv 4)) (pe_prp T.cls_Times G_Times_round_length hr (by omega) (pv 0)))))
    (pss_one (ps_ret (pe_ifExp (pt_cmpR op_le (pv 7) (pv 5) (nomark _)) (pv 7) pe_non)))))
theorem sc_on_all_spans : FnScope N_on_all_spans ["net", "times"] (defScope s_on_all_spans) := ⟨rfl, rfl, rfl, by decide +kernel, rfl, by decide +kernel, by decide +kernel⟩
theorem ok_on_all_spans {f : Addr} {fd : FuncData} (F : FunD K "on_all_spans" "on_all_spans" (defArgs s_on_all_spans) (defBody s_on_all_spans) (defScope s_on_all_spans) [] [] f fd) (T : Txt K mg) (G_Net_spans : Prp P w K mg base 1 (C_Net K) "spans" (sp_Net_spans K)) (G_check_names : CalX P w K mg base (3) "check_names" (sp_check_names K) []) (G_on_span : C8.Cal P w K mg base (4) "on_span" (sp_on_span K) []) : FnOk P w K mg base (L2.CX P w) 5 f fd ["net", "times"] (sp_on_all_spans K) := by
  refine F.ok sc_on_all_spans (len_on_all_spans K) (fun cdv A outer s H vs Q E hr h => ⟨t_on_all_spans K E, ?_, pure_on_all_spans K vs H Q E h⟩)
  exact (pss_cons (ps_expr (pe_cX G_check_names hr (by omega) (by rfl) pxOf (pa_cons (pv 0) (pa_cons (pv 1) pa_nil))))
    (pss_one (ps_ret (pe_lc (own := [("span", 2)]) rfl sc_on_all_spans.nd (pi_list (pe_prp T.cls_Net G_Net_spans hr (by omega) (pv 0))) (blkOk_by (N := N_on_all_spans) (sc := defScope s_on_all_spans) (by decide +kernel)) (fun _ _ _ _ _ => (pg_name (i := 2) sc_on_all_spans.nd rfl (Or.inl rfl))) (fun _ _ _ _ _ => pts_nil) (fun _ _ _ _ _ => (C8.pe_c G_on_span hr (by omega) (by rfl) (pa_cons (pv 1) (pa_cons (pv 2) pa_nil))))))))
theorem sc_kept_minutes : FnScope N_kept_minutes ["net", "times"] (defScope s_kept_minutes) := ⟨rfl, rfl, rfl, by decide +kernel, rfl, by decide +kernel, by decide +kernel⟩
theorem ok_kept_minutes {f : Addr} {fd : FuncData} (F : FunD K "kept_minutes" "kept_minutes" (defArgs s_kept_minutes) (defBody s_kept_minutes) (defScope s_kept_minutes) [] [] f fd) (T : Txt K mg) (GX_BrokenSpan : XMk P w K mg base 1 "BrokenSpan" (C_BrokenSpan K) (spX (C_BrokenSpan K) ["number"])) (G_on_all_spans : CalX P w K mg base (5) "on_all_spans" (sp_on_all_spans K) []) : FnOk P w K mg base (L2.CX P w) 6 f fd ["net", "times"] (sp_kept_minutes K) := by
  refine F.ok sc_kept_minutes (len_kept_minutes K) (fun cdv A outer s H vs Q E hr h => ⟨t_kept_minutes K E, ?_, pure_kept_minutes K vs H Q E h⟩)
  exact (pss_cons (ps_set (i := 2) sc_kept_minutes.nd rfl (Or.inl rfl) (pe_cX G_on_all_spans hr (by omega) (by rfl) pxOf (pa_cons (pv 0) (pa_cons (pv 1) pa_nil))))
    (pss_cons (ps_if (pt_cmpR op_in_seq pe_non (pv 2) (by rfl)) (pss_one (ps_rs GX_BrokenSpan hr (by omega) rfl tkOf (by rfl) (pa_cons (pe_bm PySem.F.plainAttrs_list PySem.F.slot_list_index PySem.F.type_list_index mt_index (pv 2) (pa_cons pe_non pa_nil)) pa_nil))) pss_nil)
    (pss_one (ps_ret (pv 2)))))
theorem sc_ends : FnScope N_ends ["net", "walk"] (defScope s_ends) := ⟨rfl, rfl, rfl, by decide +kernel, rfl, by decide +kernel, by decide +kernel⟩
theorem ok_ends {f : Addr} {fd : FuncData} (F : FunD K "ends" "ends" (defArgs s_ends) (defBody s_ends) (defScope s_ends) [] [] f fd) (T : Txt K mg) (GX_BadWalk : XMk P w K mg base 1 "BadWalk" (C_BadWalk K) (spX (C_BadWalk K) ["at"])) (G_Net_spans : Prp P w K mg base 1 (C_Net K) "spans" (sp_Net_spans K)) : FnOk P w K mg base (L2.CX P w) 3 f fd ["net", "walk"] (sp_ends K) := by
  refine F.ok sc_ends (len_ends K) (fun cdv A outer s H vs Q E hr h => ⟨t_ends K E, ?_, pure_ends K vs H Q E h⟩)
  exact (pss_cons (ps_set (i := 2) sc_ends.nd rfl (Or.inl rfl) (pe_prp T.cls_Net G_Net_spans hr (by omega) (pv 0)))
    (pss_cons (ps_asg2 pe_non (pg_name (i := 3) sc_ends.nd rfl (Or.inl rfl)) (pg_name (i := 4) sc_ends.nd rfl (Or.inl rfl)))
    (pss_cons (ps_for poOf rfl (pi_enum rfl T.f_enumerate (pa_cons (pv 1) pa_nil)) (pg_tup rfl (pgs_cons (pg_name (i := 5) sc_ends.nd rfl (Or.inl rfl)) (pgs_cons (pg_tup rfl (pgs_cons (pg_name (i := 6) sc_ends.nd rfl (Or.inl rfl)) (pgs_cons (pg_name (i := 7) sc_ends.nd rfl (Or.inl rfl)) pgs_nil))) pgs_nil))) (pss_cons (ps_if (PW.pt (pw_or (pt_not (pt_chain op_le op_lt pe_int (pv 6) (pe_callB callLenSeq (by rfl) T.f_len (by decide +kernel) (pa_cons (pv 2) pa_nil)))) (pw_or1 (pt_cmpR op_notIn_seq (pv 7) (pe_tup (pa_cons pe_int (pa_cons (pe_un un_neg pe_int) pa_nil))) (by rfl))))) (pss_one (ps_rs GX_BadWalk hr (by omega) rfl tkOf (by rfl) (pa_cons (pv 5) pa_nil))) pss_nil)
    (pss_cons (ps_asg (pe_slice sl_tupA (pe_ix ix_list (pv 2) (pv 6) (fun _ _ => rfl)) po_none (po_some pe_int)) (pg_tup rfl (pgs_cons (pg_name (i := 8) sc_ends.nd rfl (Or.inl rfl)) (pgs_cons (pg_name (i := 9) sc_ends.nd rfl (Or.inl rfl)) pgs_nil))))
    (C8.pss_cut (ps_asg (pe_ifExp (pt_cmpR op_eq (pv 7) pe_int (nomark _)) (pe_tup (pa_cons (pv 8) (pa_cons (pv 9) pa_nil))) (pe_tup (pa_cons (pv 9) (pa_cons (pv 8) pa_nil)))) (pg_tup rfl (pgs_cons (pg_name (i := 10) sc_ends.nd rfl (Or.inl rfl)) (pgs_cons (pg_name (i := 11) sc_ends.nd rfl (Or.inl rfl)) pgs_nil))))
    (C8.pss_cut (ps_if (pt_cmpR op_eq (pv 5) pe_int (nomark _)) (pss_one (ps_set (i := 3) sc_ends.nd rfl (Or.inl rfl) (pv 10))) (pss_one (ps_if (pt_cmpR op_ne (pv 10) (pv 4) (nomark _)) (pss_one (ps_rs GX_BadWalk hr (by omega) rfl tkOf (by rfl) (pa_cons (pv 5) pa_nil))) pss_nil)))
    (pss_one (ps_set (i := 4) sc_ends.nd rfl (Or.inl rfl) (pv 11))))))))
    (pss_one (ps_ret (pe_ifExp (pt_truth (pv 1) (fun _ => rfl)) (pe_tup (pa_cons (pv 3) (pa_cons (pv 4) pa_nil))) pe_non))))))
theorem sc_sum_over : FnScope N_sum_over ["walk", "forward", "backward"] (defScope s_sum_over) := ⟨rfl, rfl, rfl, by decide +kernel, rfl, by decide +kernel, by decide +kernel⟩
theorem ok_sum_over {f : Addr} {fd : FuncData} (F : FunD K "sum_over" "sum_over" (defArgs s_sum_over) (defBody s_sum_over) (defScope s_sum_over) [] [] f fd) (T : Txt K mg) : FnOk P w K mg base CX0 1 f fd ["walk", "forward", "backward"] (sp_sum_over K) := by
  refine F.ok sc_sum_over (len_sum_over K) (fun cdv A outer s H vs Q E hr h => ⟨t_sum_over K, PSs.nox ?_, pure_sum_over K vs H Q E h⟩)
  exact (pss_one (ps_ret (pe_callB (cr_sum rfl) (by rfl) T.f_sum (by decide +kernel) (pa_cons (pe_lc (own := [("number", 3), ("direction", 4)]) rfl sc_sum_over.nd (pi_list (pv 0)) (blkOk_by (N := N_sum_over) (sc := defScope s_sum_over) (by decide +kernel)) (fun _ _ _ _ _ => (pg_tup rfl (pgs_cons (pg_name (i := 3) sc_sum_over.nd rfl (Or.inl rfl)) (pgs_cons (pg_name (i := 4) sc_sum_over.nd rfl (Or.inl rfl)) pgs_nil)))) (fun _ _ _ _ _ => pts_nil) (fun _ _ _ _ _ => (pe_ifExp (pt_cmpR op_eq (pv 4) pe_int (nomark _)) (pe_ix ix_list (pv 1) (pv 3) (fun _ _ => rfl)) (pe_ix ix_list (pv 2) (pv 3) (fun _ _ => rfl))))) pa_nil))))
theorem sc_turn_of : FnScope N_turn_of ["walk", "minutes"] (defScope s_turn_of) := ⟨rfl, rfl, rfl, by decide +kernel, rfl, by decide +kernel, by decide +kernel⟩
theorem ok_turn_of {f : Addr} {fd : FuncData} (F : FunD K "turn_of" "turn_of" (defArgs s_turn_of) (defBody s_turn_of) (defScope s_turn_of) [] [] f fd) (T : Txt K mg) (G_sum_over : C8.Cal P w K mg base (1) "sum_over" (sp_sum_over K) []) : FnOk P w K mg base CX0 2 f fd ["walk", "minutes"] (sp_turn_of K) := by
  refine F.ok sc_turn_of (len_turn_of K) (fun cdv A outer s H vs Q E hr h => ⟨t_turn_of K, PSs.nox ?_, pure_turn_of K vs H Q E h⟩)
  exact (pss_one (ps_ret (C8.pe_c G_sum_over hr (by omega) (by rfl) (pa_cons (pv 0) (pa_cons (pv 1) (pa_cons (pe_lc (own := [("passing", 2)]) rfl sc_turn_of.nd (pi_list (pv 1)) (blkOk_by (N := N_turn_of) (sc := defScope s_turn_of) (by decide +kernel)) (fun _ _ _ _ _ => (pg_name (i := 2) sc_turn_of.nd rfl (Or.inl rfl))) (fun _ _ _ _ _ => pts_nil) (fun _ _ _ _ _ => (pe_un un_neg (pv 2)))) pa_nil))))))
theorem sc_turn : FnScope N_turn ["net", "times", "walk"] (defScope s_turn) := ⟨rfl, rfl, rfl, by decide +kernel, rfl, by decide +kernel, by decide +kernel⟩
theorem ok_turn {f : Addr} {fd : FuncData} (F : FunD K "turn" "turn" (defArgs s_turn) (defBody s_turn) (defScope s_turn) [] [] f fd) (T : Txt K mg) (G_kept_minutes : CalX P w K mg base (6) "kept_minutes" (sp_kept_minutes K) []) (G_ends : CalX P w K mg base (3) "ends" (sp_ends K) []) (G_turn_of : C8.Cal P w K mg base (2) "turn_of" (sp_turn_of K) []) : FnOk P w K mg base (L2.CX P w) 7 f fd ["net", "times", "walk"] (sp_turn K) := by
  refine F.ok sc_turn (len_turn K) (fun cdv A outer s H vs Q E hr h => ⟨t_turn K E, ?_, pure_turn K vs H Q E h⟩)
  exact (pss_cons (ps_set (i := 3) sc_turn.nd rfl (Or.inl rfl) (pe_cX G_kept_minutes hr (by omega) (by rfl) pxOf (pa_cons (pv 0) (pa_cons (pv 1) pa_nil))))
    (pss_cons (ps_expr (pe_cX G_ends hr (by omega) (by rfl) pxOf (pa_cons (pv 0) (pa_cons (pv 2) pa_nil))))
    (pss_one (ps_ret (C8.pe_c G_turn_of hr (by omega) (by rfl) (pa_cons (pv 2) (pa_cons (pv 3) pa_nil)))))))
theorem sc_Times_init : FnScope N_Times_init ["self", "round_length", "minutes"] (defScope s_Times_init) := ⟨rfl, rfl, rfl, by decide +kernel, rfl, by decide +kernel, by decide +kernel⟩
theorem ok_Times_init {f : Addr} {fd : FuncData} (F : FunD K "__init__" "Times.__init__" (defArgs s_Times_init) (defBody s_Times_init) (defScope s_Times_init) [] [] f fd) (T : Txt K mg) (G_check_name : C8.Cal P w K mg base (2) "check_name" (sp_check_name K) []) (G_check_range : C8.Cal P w K mg base (1) "check_range" (sp_check_range K) []) (G_check_round_length : C8.Cal P w K mg base (2) "check_round_length" (sp_check_round_length K) []) : FnOk P w K mg base CX0 3 f fd ["self", "round_length", "minutes"] (sp_Times_init K) := by
  refine F.ok sc_Times_init (len_Times_init K) (fun cdv A outer s H vs Q E hr h => ⟨t_Times_init K, PSs.nox ?_, pure_Times_init K vs H Q E h⟩)
  exact (pss_cons (ps_expr (C8.pe_c G_check_round_length hr (by omega) (by rfl) (pa_cons (pv 1) pa_nil)))
    (pss_cons (ps_lock (ps_for PassesOwn.never rfl (pi_items (pv 2)) (pg_tup rfl (pgs_cons (pg_name (i := 3) sc_Times_init.nd rfl (Or.inl rfl)) (pgs_cons (pg_name (i := 4) sc_Times_init.nd rfl (Or.inl rfl)) pgs_nil))) (pss_cons (ps_expr (C8.pe_c G_check_name hr (by omega) (by rfl) (pa_cons (pv 3) pa_nil)))
    (pss_one (ps_expr (C8.pe_c G_check_range hr (by omega) (by rfl) (pa_cons (pv 4) (pa_cons pe_int (pa_cons (pe_op op_sub (pv 1) pe_int) pa_nil)))))))))
    (pss_cons (ps_fldC T.cls_Times T.na_Times__round_length (pv 0) (pv 1))
    (pss_one (ps_fldC T.cls_Times T.na_Times__minutes (pv 0) (pe_callTy callDictOf (by rfl) T.f_dict (by decide +kernel) (pa_cons (pv 2) pa_nil)))))))
theorem sc_Times_minutes : FnScope N_Times_minutes ["self"] (defScope s_Times_minutes) := ⟨rfl, rfl, rfl, by decide +kernel, rfl, by decide +kernel, by decide +kernel⟩
theorem ok_Times_minutes {f : Addr} {fd : FuncData} (F : FunD K "minutes" "Times.minutes" (defArgs s_Times_minutes) (defBody s_Times_minutes) (defScope s_Times_minutes) [] [] f fd) (T : Txt K mg) : FnOk P w K mg base CX0 1 f fd ["self"] (sp_Times_minutes K) := by
  refine F.ok sc_Times_minutes (len_Times_minutes K) (fun cdv A outer s H vs Q E hr h => ⟨t_Times_minutes K, PSs.nox ?_, pure_Times_minutes K vs H Q E h⟩)
  exact (pss_one (ps_ret (pe_callTy callDictOf (by rfl) T.f_dict (by decide +kernel) (pa_cons (pe_fldC T.cls_Times T.na_Times__minutes (pv 0)) pa_nil))))
theorem sc_l_is_int : FnScope N_l_is_int ["_law_thing"] (defScope s_l_is_int) := ⟨rfl, rfl, rfl, by decide +kernel, rfl, by decide +kernel, by decide +kernel⟩
theorem ok_l_is_int {f : Addr} {fd : FuncData} (F : FunD K "_law_is_int" "_law_is_int" (defArgs s_l_is_int) (defBody s_l_is_int) (defScope s_l_is_int) [] [] f fd) (T : Txt K mg) : FnOk P w K mg base CX0 1 f fd ["_law_thing"] (sp_l_is_int K) := by
  refine F.ok sc_l_is_int (len_l_is_int K) (fun cdv A outer s H vs Q E hr h => ⟨t_l_is_int K, PSs.nox ?_, pure_l_is_int K vs H Q E h⟩)
  exact (pss_one (ps_ret (pe_and (pe_callB call_isi (by rfl) T.f_isinstance (by decide +kernel) (pa_cons (pv 0) (pa_cons (pe_bltn (v := .ty "int") (by rfl) T.f_int (by decide +kernel) rfl) pa_nil))) (pe_one (pe_not (pe_callB call_isi (by rfl) T.f_isinstance (by decide +kernel) (pa_cons (pv 0) (pa_cons (pe_bltn (v := .ty "bool") (by rfl) T.f_bool (by decide +kernel) rfl) pa_nil))))))))
theorem sc_l_same : FnScope N_l_same ["_law_actual", "_law_due"] (defScope s_l_same) := ⟨rfl, rfl, rfl, by decide +kernel, rfl, by decide +kernel, by decide +kernel⟩
theorem ok0_l_same {f : Addr} {fd : FuncData} (F : FunD K "_law_same" "_law_same" (defArgs s_l_same) (defBody s_l_same) (defScope s_l_same) [] [] f fd) : FnOk P w K mg base CX0 (2 + 0) f fd ["_law_actual", "_law_due"] (sp_l_same K 0) := F.ok sc_l_same (fun _ _ _ _ h => (sp0_l_same K h).elim) (fun _ _ _ _ _ _ _ _ _ h => (sp0_l_same K h).elim)
theorem ok_l_same {f : Addr} {fd : FuncData} (F : FunD K "_law_same" "_law_same" (defArgs s_l_same) (defBody s_l_same) (defScope s_l_same) [] [] f fd) (T : Txt K mg) (G_l_is_int : C8.Cal P w K mg base (1) "_law_is_int" (sp_l_is_int K) []) (n : Nat) (G_l_same : C8.Cal P w K mg base (2 + n) "_law_same" (sp_l_same K n) []) : FnOk P w K mg base CX0 ((2 + n) + 1) f fd ["_law_actual", "_law_due"] (sp_l_same K (n + 1)) := by
  refine F.ok sc_l_same (len_l_same K (n + 1)) (fun cdv A outer s H vs Q E hr h => ⟨t_l_same K n, PSs.nox ?_, pure_l_same K n vs H Q E h⟩)
  exact (pss_cons (ps_if (pt_cmpR op_isN1 (pv 1) pe_non (nomark _)) (pss_one (ps_ret (pe_cmpR op_isN1 (pv 0) pe_non (nomark _)))) pss_nil)
    (pss_cons (ps_if (pt_val (pe_callB call_isi (by rfl) T.f_isinstance (by decide +kernel) (pa_cons (pv 1) (pa_cons (pe_bltn (v := .ty "bool") (by rfl) T.f_bool (by decide +kernel) rfl) pa_nil)))) (pss_one (ps_ret (pe_and (pe_callB call_isi (by rfl) T.f_isinstance (by decide +kernel) (pa_cons (pv 0) (pa_cons (pe_bltn (v := .ty "bool") (by rfl) T.f_bool (by decide +kernel) rfl) pa_nil))) (pe_one (pe_cmpR op_eq (pv 0) (pv 1) (nomark _)))))) pss_nil)
    (pss_cons (ps_if (pt_val (pe_callB call_isi (by rfl) T.f_isinstance (by decide +kernel) (pa_cons (pv 1) (pa_cons (pe_bltn (v := .ty "int") (by rfl) T.f_int (by decide +kernel) rfl) pa_nil)))) (pss_one (ps_ret (pe_and (C8.pe_c G_l_is_int hr (by omega) (by rfl) (pa_cons (pv 0) pa_nil)) (pe_one (pe_cmpR op_eq (pv 0) (pv 1) (nomark _)))))) pss_nil)
    (pss_cons (ps_if (pt_val (pe_callB call_isi (by rfl) T.f_isinstance (by decide +kernel) (pa_cons (pv 1) (pa_cons (pe_bltn (v := .ty "str") (by rfl) T.f_str (by decide +kernel) rfl) pa_nil)))) (pss_one (ps_ret (pe_and (pe_callB call_isi (by rfl) T.f_isinstance (by decide +kernel) (pa_cons (pv 0) (pa_cons (pe_bltn (v := .ty "str") (by rfl) T.f_str (by decide +kernel) rfl) pa_nil))) (pe_one (pe_cmpR op_eq (pv 0) (pv 1) (nomark _)))))) pss_nil)
    (pss_cons (ps_if (pt_val (pe_callB call_isi (by rfl) T.f_isinstance (by decide +kernel) (pa_cons (pv 1) (pa_cons (pe_bltn (v := .ty "dict") (by rfl) T.f_dict (by decide +kernel) rfl) pa_nil)))) (pss_cons (ps_if (PW.pt (pw_or (pt_not (pt_val (pe_callB call_isi (by rfl) T.f_isinstance (by decide +kernel) (pa_cons (pv 0) (pa_cons (pe_bltn (v := .ty "dict") (by rfl) T.f_dict (by decide +kernel) rfl) pa_nil))))) (pw_or1 (pt_cmpR (op_neD hr.units) (pe_callTy (call_list_dK rfl) (by rfl) T.f_list (by decide +kernel) (pa_cons (pv 0) pa_nil)) (pe_callTy (call_list_dK rfl) (by rfl) T.f_list (by decide +kernel) (pa_cons (pv 1) pa_nil)) (nomark _))))) (pss_one (ps_ret pe_bl)) pss_nil)
    (pss_cons (ps_lock (ps_for PassesOwn.never rfl (pi_keys (pv 1)) (pg_name (i := 2) sc_l_same.nd rfl (Or.inl rfl)) (pss_one (ps_if (pt_not (pt_val (C8.pe_c G_l_same hr (by omega) (by rfl) (pa_cons (pe_dget (u1 hr) (pv 0) (pv 2) (fun _ _ => rfl)) (pa_cons (pe_dget (u1 hr) (pv 1) (pv 2) (fun _ _ => rfl)) pa_nil))))) (pss_one (ps_ret pe_bl)) pss_nil))))
    (pss_one (ps_ret pe_bl)))) pss_nil)
    (pss_cons (ps_if (PW.pt (pw_and (pt_val (pe_callB call_isi (by rfl) T.f_isinstance (by decide +kernel) (pa_cons (pv 1) (pa_cons (pe_bltn (v := .ty "list") (by rfl) T.f_list (by decide +kernel) rfl) pa_nil)))) (pw_and1 (pt_not (pt_val (pe_callB call_isi (by rfl) T.f_isinstance (by decide +kernel) (pa_cons (pv 0) (pa_cons (pe_bltn (v := .ty "list") (by rfl) T.f_list (by decide +kernel) rfl) pa_nil)))))))) (pss_one (ps_ret pe_bl)) pss_nil)
    (pss_cons (ps_if (PW.pt (pw_and (pt_val (pe_callB call_isi (by rfl) T.f_isinstance (by decide +kernel) (pa_cons (pv 1) (pa_cons (pe_bltn (v := .ty "tuple") (by rfl) T.f_tuple (by decide +kernel) rfl) pa_nil)))) (pw_and1 (pt_not (pt_val (pe_callB call_isi (by rfl) T.f_isinstance (by decide +kernel) (pa_cons (pv 0) (pa_cons (pe_bltn (v := .ty "tuple") (by rfl) T.f_tuple (by decide +kernel) rfl) pa_nil)))))))) (pss_one (ps_ret pe_bl)) pss_nil)
    (pss_cons (ps_if (pt_cmpR op_ne (pe_callB callLenSeq (by rfl) T.f_len (by decide +kernel) (pa_cons (pv 0) pa_nil)) (pe_callB callLenSeq (by rfl) T.f_len (by decide +kernel) (pa_cons (pv 1) pa_nil)) (nomark _)) (pss_one (ps_ret pe_bl)) pss_nil)
    (pss_cons (ps_for PassesOwn.never rfl (pi_range1 rfl T.f_range (pa_cons (pe_callB callLenSeq (by rfl) T.f_len (by decide +kernel) (pa_cons (pv 1) pa_nil)) pa_nil)) (pg_name (i := 3) sc_l_same.nd rfl (Or.inl rfl)) (pss_one (ps_if (pt_not (pt_val (C8.pe_c G_l_same hr (by omega) (by rfl) (pa_cons (pe_ix ix_seq (pv 0) (pv 3) (fun _ _ => rfl)) (pa_cons (pe_ix ix_seq (pv 1) (pv 3) (fun _ _ => rfl)) pa_nil))))) (pss_one (ps_ret pe_bl)) pss_nil)))
    (pss_one (ps_ret pe_bl)))))))))))
theorem sc_l_gone : FnScope N_l_gone ["_law_length_here", "_law_span_here", "_law_minutes"] (defScope s_l_gone) := ⟨rfl, rfl, rfl, by decide +kernel, rfl, by decide +kernel, by decide +kernel⟩
theorem ok_l_gone {f : Addr} {fd : FuncData} (F : FunD K "_law_gone" "_law_gone" (defArgs s_l_gone) (defBody s_l_gone) (defScope s_l_gone) [] [] f fd) (T : Txt K mg) : FnOk P w K mg base CX0 1 f fd ["_law_length_here", "_law_span_here", "_law_minutes"] (sp_l_gone K) := by
  refine F.ok sc_l_gone (len_l_gone K) (fun cdv A outer s H vs Q E hr h => ⟨t_l_gone K, PSs.nox ?_, pure_l_gone K vs H Q E h⟩)
  exact (pss_cons (ps_set (i := 3) sc_l_gone.nd rfl (Or.inl rfl) (pe_op op_add (pe_ix ix_tup (pv 1) pe_int (fun _ _ => rfl)) (pe_op op_mod (pe_callTy callInt1 (by rfl) T.f_int (by decide +kernel) (pa_cons (pe_op op_sub (pe_op op_sub (pe_dget (u1 hr) (pv 2) (pe_ix ix_tup (pv 1) pe_int (fun _ _ => rfl)) (fun _ _ => rfl)) (pe_dget (u1 hr) (pv 2) (pe_ix ix_tup (pv 1) pe_int (fun _ _ => rfl)) (fun _ _ => rfl))) (pe_ix ix_tup (pv 1) pe_int (fun _ _ => rfl))) pa_nil)) (pv 0))))
    (pss_cons (ps_if (pt_cmpR op_gt (pv 3) (pe_ix ix_tup (pv 1) pe_int (fun _ _ => rfl)) (nomark _)) (pss_one (ps_ret pe_non)) pss_nil)
    (pss_one (ps_ret (pv 3)))))
theorem sc_l_all_gone : FnScope N_l_all_gone ["_law_length_here", "_law_spans", "_law_minutes"] (defScope s_l_all_gone) := ⟨rfl, rfl, rfl, by decide +kernel, rfl, by decide +kernel, by decide +kernel⟩
theorem ok_l_all_gone {f : Addr} {fd : FuncData} (F : FunD K "_law_all_gone" "_law_all_gone" (defArgs s_l_all_gone) (defBody s_l_all_gone) (defScope s_l_all_gone) [] [] f fd) (T : Txt K mg) (G_l_gone : C8.Cal P w K mg base (1) "_law_gone" (sp_l_gone K) []) : FnOk P w K mg base CX0 2 f fd ["_law_length_here", "_law_spans", "_law_minutes"] (sp_l_all_gone K) := by
  refine F.ok sc_l_all_gone (len_l_all_gone K) (fun cdv A outer s H vs Q E hr h => ⟨t_l_all_gone K, PSs.nox ?_, pure_l_all_gone K vs H Q E h⟩)
  exact (pss_one (ps_ret (pe_lc (own := [("_law_span_here", 3)]) rfl sc_l_all_gone.nd (pi_list (pv 1)) (blkOk_by (N := N_l_all_gone) (sc := defScope s_l_all_gone) (by decide +kernel)) (fun _ _ _ _ _ => (pg_name (i := 3) sc_l_all_gone.nd rfl (Or.inl rfl))) (fun _ _ _ _ _ => pts_nil) (fun _ _ _ _ _ => (C8.pe_c G_l_gone hr (by omega) (by rfl) (pa_cons (pv 0) (pa_cons (pv 3) (pa_cons (pv 2) pa_nil))))))))
theorem sc_l_turn : FnScope N_l_turn ["_law_gone_here", "_law_walk_here"] (defScope s_l_turn) := ⟨rfl, rfl, rfl, by decide +kernel, rfl, by decide +kernel, by decide +kernel⟩
theorem ok_l_turn {f : Addr} {fd : FuncData} (F : FunD K "_law_turn" "_law_turn" (defArgs s_l_turn) (defBody s_l_turn) (defScope s_l_turn) [] [] f fd) (T : Txt K mg) : FnOk P w K mg base CX0 1 f fd ["_law_gone_here", "_law_walk_here"] (sp_l_turn K) := by
  refine F.ok sc_l_turn (len_l_turn K) (fun cdv A outer s H vs Q E hr h => ⟨t_l_turn K, PSs.nox ?_, pure_l_turn K vs H Q E h⟩)
  exact (pss_cons (ps_set (i := 2) sc_l_turn.nd rfl (Or.inl rfl) pe_int)
    (pss_cons (ps_for PassesOwn.never rfl (pi_list (pv 1)) (pg_name (i := 3) sc_l_turn.nd rfl (Or.inl rfl)) (pss_one (ps_set (i := 2) sc_l_turn.nd rfl (Or.inl rfl) (pe_op op_add (pv 2) (pe_op op_mul (pe_ix ix_tup (pv 3) pe_int (fun _ _ => rfl)) (pe_ix ix_list (pv 0) (pe_ix ix_tup (pv 3) pe_int (fun _ _ => rfl)) (fun _ _ => rfl)))))))
    (pss_one (ps_ret (pv 2)))))
theorem sc_l_sides : FnScope N_l_sides ["_law_spans", "_law_step"] (defScope s_l_sides) := ⟨rfl, rfl, rfl, by decide +kernel, rfl, by decide +kernel, by decide +kernel⟩
theorem ok_l_sides {f : Addr} {fd : FuncData} (F : FunD K "_law_sides" "_law_sides" (defArgs s_l_sides) (defBody s_l_sides) (defScope s_l_sides) [] [] f fd) (T : Txt K mg) : FnOk P w K mg base CX0 1 f fd ["_law_spans", "_law_step"] (sp_l_sides K) := by
  refine F.ok sc_l_sides (len_l_sides K) (fun cdv A outer s H vs Q E hr h => ⟨t_l_sides K, PSs.nox ?_, pure_l_sides K vs H Q E h⟩)
  exact (pss_cons (ps_if (PW.pt (pw_or (pt_cmpR op_lt (pe_ix ix_tup (pv 1) pe_int (fun _ _ => rfl)) pe_int (nomark _)) (pw_or1 (pt_cmpR op_ge (pe_ix ix_tup (pv 1) pe_int (fun _ _ => rfl)) (pe_callB callLenSeq (by rfl) T.f_len (by decide +kernel) (pa_cons (pv 0) pa_nil)) (nomark _))))) (pss_one (ps_ret (pe_lst pa_nil))) pss_nil)
    (pss_cons (ps_set (i := 2) sc_l_sides.nd rfl (Or.inl rfl) (pe_ix ix_list (pv 0) (pe_ix ix_tup (pv 1) pe_int (fun _ _ => rfl)) (fun _ _ => rfl)))
    (pss_cons (ps_if (pt_cmpR op_eq (pe_ix ix_tup (pv 1) pe_int (fun _ _ => rfl)) pe_int (nomark _)) (pss_one (ps_ret (pe_lst (pa_cons (pe_ix ix_tup (pv 2) pe_int (fun _ _ => rfl)) (pa_cons (pe_ix ix_tup (pv 2) pe_int (fun _ _ => rfl)) pa_nil))))) pss_nil)
    (pss_cons (ps_if (pt_cmpR op_eq (pe_ix ix_tup (pv 1) pe_int (fun _ _ => rfl)) (pe_un un_neg pe_int) (nomark _)) (pss_one (ps_ret (pe_lst (pa_cons (pe_ix ix_tup (pv 2) pe_int (fun _ _ => rfl)) (pa_cons (pe_ix ix_tup (pv 2) pe_int (fun _ _ => rfl)) pa_nil))))) pss_nil)
    (pss_one (ps_ret (pe_lst pa_nil)))))))
theorem sc_l_fault : FnScope N_l_fault ["_law_spans", "_law_walk_here"] (defScope s_l_fault) := ⟨rfl, rfl, rfl, by decide +kernel, rfl, by decide +kernel, by decide +kernel⟩
theorem ok_l_fault {f : Addr} {fd : FuncData} (F : FunD K "_law_fault" "_law_fault" (defArgs s_l_fault) (defBody s_l_fault) (defScope s_l_fault) [] [] f fd) (T : Txt K mg) (G_l_sides : C8.Cal P w K mg base (1) "_law_sides" (sp_l_sides K) []) : FnOk P w K mg base CX0 2 f fd ["_law_spans", "_law_walk_here"] (sp_l_fault K) := by
  refine F.ok sc_l_fault (len_l_fault K) (fun cdv A outer s H vs Q E hr h => ⟨t_l_fault K, PSs.nox ?_, pure_l_fault K vs H Q E h⟩)
  exact (pss_cons (ps_for PassesOwn.never rfl (pi_range1 rfl T.f_range (pa_cons (pe_callB callLenSeq (by rfl) T.f_len (by decide +kernel) (pa_cons (pv 1) pa_nil)) pa_nil)) (pg_name (i := 2) sc_l_fault.nd rfl (Or.inl rfl)) (pss_cons (ps_set (i := 3) sc_l_fault.nd rfl (Or.inl rfl) (C8.pe_c G_l_sides hr (by omega) (by rfl) (pa_cons (pv 0) (pa_cons (pe_ix ix_list (pv 1) (pv 2) (fun _ _ => rfl)) pa_nil))))
    (pss_cons (ps_if (pt_cmpR (op_eqD hr.units) (pv 3) (pe_lst pa_nil) (nomark _)) (pss_one (ps_ret (pv 2))) pss_nil)
    (pss_one (ps_if (PW.pt (pw_and (pt_cmpR op_gt (pv 2) pe_int (nomark _)) (pw_and1 (pt_cmpR op_ne (pe_ix ix_list (C8.pe_c G_l_sides hr (by omega) (by rfl) (pa_cons (pv 0) (pa_cons (pe_ix ix_list (pv 1) (pe_op op_sub (pv 2) pe_int) (fun _ _ => rfl)) pa_nil))) pe_int (fun _ _ => rfl)) (pe_ix ix_list (pv 3) pe_int (fun _ _ => rfl)) (nomark _))))) (pss_one (ps_ret (pv 2))) pss_nil)))))
    (pss_one (ps_ret (pe_un un_neg pe_int))))
theorem sc_l_unfit : FnScope N_l_unfit ["_law_length_here", "_law_names_here", "_law_spans", "_law_other", "_law_minutes"] (defScope s_l_unfit) := ⟨rfl, rfl, rfl, by decide +kernel, rfl, by decide +kernel, by decide +kernel⟩
theorem ok_l_unfit {f : Addr} {fd : FuncData} (F : FunD K "_law_unfit" "_law_unfit" (defArgs s_l_unfit) (defBody s_l_unfit) (defScope s_l_unfit) [] [] f fd) (T : Txt K mg) (G_l_gone : C8.Cal P w K mg base (1) "_law_gone" (sp_l_gone K) []) : FnOk P w K mg base CX0 2 f fd ["_law_length_here", "_law_names_here", "_law_spans", "_law_other", "_law_minutes"] (sp_l_unfit K) := by
  refine F.ok sc_l_unfit (len_l_unfit K) (fun cdv A outer s H vs Q E hr h => ⟨t_l_unfit K, PSs.nox ?_, pure_l_unfit K vs H Q E h⟩)
  exact (pss_cons (ps_if (pt_cmpR op_ne (pv 3) (pv 0) (nomark _)) (pss_one (ps_ret (pe_lst (pa_cons (pe_strS (by decide +kernel)) (pa_cons (pv 3) pa_nil))))) pss_nil)
    (pss_cons (ps_for PassesOwn.never rfl (pi_list (pv 1)) (pg_name (i := 5) sc_l_unfit.nd rfl (Or.inl rfl)) (pss_one (ps_if (pt_cmp (pc_dnotin (u1 hr) (pv 5) (pv 4))) (pss_one (ps_ret (pe_lst (pa_cons (pe_strS (by decide +kernel)) (pa_cons (pv 5) pa_nil))))) pss_nil)))
    (pss_cons (ps_lock (ps_for PassesOwn.never rfl (pi_keys (pv 4)) (pg_name (i := 5) sc_l_unfit.nd rfl (Or.inl rfl)) (pss_one (ps_if (pt_cmpR op_notIn_seq (pv 5) (pv 1) (by rfl)) (pss_one (ps_ret (pe_lst (pa_cons (pe_strS (by decide +kernel)) (pa_cons (pv 5) pa_nil))))) pss_nil))))
    (pss_cons (ps_for PassesOwn.never rfl (pi_range1 rfl T.f_range (pa_cons (pe_callB callLenSeq (by rfl) T.f_len (by decide +kernel) (pa_cons (pv 2) pa_nil)) pa_nil)) (pg_name (i := 6) sc_l_unfit.nd rfl (Or.inl rfl)) (pss_one (ps_if (pt_cmpR op_isN1 (C8.pe_c G_l_gone hr (by omega) (by rfl) (pa_cons (pv 0) (pa_cons (pe_ix ix_list (pv 2) (pv 6) (fun _ _ => rfl)) (pa_cons (pv 4) pa_nil)))) pe_non (nomark _)) (pss_one (ps_ret (pe_lst (pa_cons (pe_strS (by decide +kernel)) (pa_cons (pv 6) pa_nil))))) pss_nil)))
    (pss_one (ps_ret (pe_lst pa_nil)))))))
theorem sc_l_told : FnScope N_l_told ["_law_net", "_law_times", "_law_walk_here"] (defScope s_l_told) := ⟨rfl, rfl, rfl, by decide +kernel, rfl, by decide +kernel, by decide +kernel⟩
theorem ok_l_told {f : Addr} {fd : FuncData} (F : FunD K "_law_told" "_law_told" (defArgs s_l_told) (defBody s_l_told) (defScope s_l_told) [] [] f fd) (T : Txt K mg) (G_turn : CalX P w K mg base (7) "turn" (sp_turn K) []) : FnOk P w K mg base CX0 8 f fd ["_law_net", "_law_times", "_law_walk_here"] (sp_l_told K) := by
  refine F.ok sc_l_told (len_l_told K) (fun cdv A outer s H vs Q E hr h => ⟨t_l_told K, PSs.nox ?_, pure_l_told K T.xf vs H Q E h⟩)
  exact (pss_cons (ps_set (i := 3) sc_l_told.nd rfl (Or.inl rfl) pe_non)
    (pss_cons (ps_try_asm rfl rfl sc_l_told.nd (i := 4) rfl rfl (fun W pn xe tk po => (pss_one (ps_expr (pe_cS G_turn hr (by omega) (by rfl) tk (pa_cons (pv 0) (pa_cons (pv 1) (pa_cons (pv 2) pa_nil))))))) (HdA.cons ⟨by rfl, by decide, .inl T.g_BadNumber⟩ (fun a oe cls d pn hz hf => (pss_one (ps_set (i := 3) sc_l_told.nd rfl (Or.inl rfl) (pe_lst (pa_cons (pe_strS (by decide +kernel)) (pa_cons (pe_xf T.xf_BadNumber T.na_BadNumber_number hz hf (pv 4)) pa_nil)))))) (HdA.cons ⟨by rfl, by decide, .inl T.g_WrongNames⟩ (fun a oe cls d pn hz hf => (pss_one (ps_set (i := 3) sc_l_told.nd rfl (Or.inl rfl) (pe_lst (pa_cons (pe_strS (by decide +kernel)) (pa_cons (pe_xf T.xf_WrongNames T.na_WrongNames_name hz hf (pv 4)) pa_nil)))))) (HdA.cons ⟨by rfl, by decide, .inl T.g_BrokenSpan⟩ (fun a oe cls d pn hz hf => (pss_one (ps_set (i := 3) sc_l_told.nd rfl (Or.inl rfl) (pe_lst (pa_cons (pe_strS (by decide +kernel)) (pa_cons (pe_xf T.xf_BrokenSpan T.na_BrokenSpan_number hz hf (pv 4)) pa_nil)))))) (HdA.cons ⟨by rfl, by decide, .inl T.g_BadWalk⟩ (fun a oe cls d pn hz hf => (pss_one (ps_set (i := 3) sc_l_told.nd rfl (Or.inl rfl) (pe_lst (pa_cons (pe_strS (by decide +kernel)) (pa_cons (pe_xf T.xf_BadWalk T.na_BadWalk_at hz hf (pv 4)) pa_nil)))))) HdA.nil)))))
    (pss_one (ps_ret (pv 3)))))
theorem sc_l_kept : FnScope N_l_kept ["_law_net", "_law_case_here", "_law_found", "_law_walk_here"] (defScope s_l_kept) := ⟨rfl, rfl, rfl, by decide +kernel, rfl, by decide +kernel, by decide +kernel⟩
theorem ok_l_kept {f : Addr} {fd : FuncData} (F : FunD K "_law_kept" "_law_kept" (defArgs s_l_kept) (defBody s_l_kept) (defScope s_l_kept) [] [] f fd) (T : Txt K mg) (G_turn : CalX P w K mg base (7) "turn" (sp_turn K) []) (G_Times_init : C8.Mak P w K mg base 3 "Times" (C_Times K) (sp_Times_init K) []) (G_Times_minutes : Prp P w K mg base 1 (C_Times K) "minutes" (sp_Times_minutes K)) (G_l_same : C8.Cal P w K mg base (5) "_law_same" (sp_l_same K 3) []) (G_l_all_gone : C8.Cal P w K mg base (2) "_law_all_gone" (sp_l_all_gone K) []) (G_l_begin : C8.Cal P w K mg base (1) "_law_begin" (sp_l_begin K) []) (G_l_finish : C8.Cal P w K mg base (1) "_law_finish" (sp_l_finish K) []) (G_l_turn : C8.Cal P w K mg base (1) "_law_turn" (sp_l_turn K) []) (G_l_fault : C8.Cal P w K mg base (2) "_law_fault" (sp_l_fault K) []) (G_l_unfit : C8.Cal P w K mg base (2) "_law_unfit" (sp_l_unfit K) []) (G_l_told : C8.Cal P w K mg base (8) "_law_told" (sp_l_told K) []) : FnOk P w K mg base CX0 9 f fd ["_law_net", "_law_case_here", "_law_found", "_law_walk_here"] (sp_l_kept K) := by
  refine F.ok sc_l_kept (len_l_kept K) (fun cdv A outer s H vs Q E hr h => ⟨t_l_kept K, PSs.nox ?_, pure_l_kept K T.xf vs H Q E h⟩)
  exact (pss_cons (ps_set (i := 4) sc_l_kept.nd rfl (Or.inl rfl) (C8.pe_mk G_Times_init hr (by omega) (by rfl) (pa_cons (pe_ix ix_list (pv 2) pe_int (fun _ _ => rfl)) (pa_cons (pe_callTy callDictOf (by rfl) T.f_dict (by decide +kernel) (pa_cons (pe_ix ix_list (pv 2) pe_int (fun _ _ => rfl)) pa_nil)) pa_nil))))
    (pss_cons (ps_set (i := 5) sc_l_kept.nd rfl (Or.inr rfl) (C8.pe_c G_l_unfit hr (by omega) (by rfl) (pa_cons (pe_ix ix_list (pv 1) pe_int (fun _ _ => rfl)) (pa_cons (pe_ix ix_list (pv 1) pe_int (fun _ _ => rfl)) (pa_cons (pe_ix ix_list (pv 1) pe_int (fun _ _ => rfl)) (pa_cons (pe_ix ix_list (pv 2) pe_int (fun _ _ => rfl)) (pa_cons (pe_ix ix_list (pv 2) pe_int (fun _ _ => rfl)) pa_nil)))))))
    (pss_cons (ps_set (i := 6) sc_l_kept.nd rfl (Or.inl rfl) (C8.pe_c G_l_fault hr (by omega) (by rfl) (pa_cons (pe_ix ix_list (pv 1) pe_int (fun _ _ => rfl)) (pa_cons (pv 3) pa_nil))))
    (C8.pss_cut (ps_if (PW.pt (pw_and (pt_cmpR (op_eqD hr.units) (pv 5) (pe_lst pa_nil) (nomark _)) (pw_and1 (pt_cmpR op_ge (pv 6) pe_int (nomark _))))) (pss_one (ps_set (i := 5) sc_l_kept.nd rfl (Or.inr rfl) (pe_lst (pa_cons (pe_strS (by decide +kernel)) (pa_cons (pv 6) pa_nil))))) pss_nil)
    (pss_cons (ps_set (i := 7) sc_l_kept.nd rfl (Or.inl rfl) (pe_callTy callListOf (by rfl) T.f_list (by decide +kernel) (pa_cons (pv 3) pa_nil)))
    (pss_cons (ps_set (i := 8) sc_l_kept.nd rfl (Or.inl rfl) pe_non)
    (pss_cons (ps_set (i := 9) sc_l_kept.nd rfl (Or.inl rfl) (pe_lst pa_nil))
    (pss_cons (ps_try_asm rfl rfl sc_l_kept.nd (i := 10) rfl rfl (fun W pn xe tk po => (pss_one (ps_set (i := 8) sc_l_kept.nd rfl (Or.inl rfl) (pe_cS G_turn hr (by omega) (by rfl) tk (pa_cons (pv 0) (pa_cons (pv 4) (pa_cons (pv 7) pa_nil))))))) (HdA.cons ⟨by rfl, by decide, .inl T.g_MinuteError⟩ (fun a oe cls d pn hz hf => (pss_one (ps_set (i := 9) sc_l_kept.nd rfl (Or.inl rfl) (pe_lst (pa_cons (pe_callB (call_isX hz hf) (by rfl) T.f_isinstance (by decide +kernel) (pa_cons (pv 10) (pa_cons (pe_bltn (v := .ty "ValueError") (by rfl) T.f_ValueError (by decide +kernel) rfl) pa_nil))) (pa_cons (pe_callB (call_isX hz hf) (by rfl) T.f_isinstance (by decide +kernel) (pa_cons (pv 10) (pa_cons (pe_clsv (by rfl) T.g_BadNumber) pa_nil))) (pa_cons (pe_callB (call_isX hz hf) (by rfl) T.f_isinstance (by decide +kernel) (pa_cons (pv 10) (pa_cons (pe_clsv (by rfl) T.g_WrongNames) pa_nil))) (pa_cons (pe_callB (call_isX hz hf) (by rfl) T.f_isinstance (by decide +kernel) (pa_cons (pv 10) (pa_cons (pe_clsv (by rfl) T.g_BrokenSpan) pa_nil))) (pa_cons (pe_callB (call_isX hz hf) (by rfl) T.f_isinstance (by decide +kernel) (pa_cons (pv 10) (pa_cons (pe_clsv (by rfl) T.g_BadWalk) pa_nil))) (pa_cons (pe_callB (call_isX hz hf) (by rfl) T.f_isinstance (by decide +kernel) (pa_cons (pv 10) (pa_cons (pe_clsv (by rfl) T.g_UnknownEvent) pa_nil))) (pa_cons (pe_callB (call_isX hz hf) (by rfl) T.f_isinstance (by decide +kernel) (pa_cons (pv 10) (pa_cons (pe_clsv (by rfl) T.g_UnknownSpan) pa_nil))) pa_nil))))))))))) HdA.nil))
    (pss_cons (ps_if (PW.pt (pw_or (pt_not (pt_val (C8.pe_c G_l_same hr (by omega) (by rfl) (pa_cons (pv 7) (pa_cons (pv 3) pa_nil))))) (pw_or1 (pt_not (pt_val (C8.pe_c G_l_same hr (by omega) (by rfl) (pa_cons (pe_prp T.cls_Times G_Times_minutes hr (by omega) (pv 4)) (pa_cons (pe_ix ix_list (pv 2) pe_int (fun _ _ => rfl)) pa_nil)))))))) (pss_one (ps_ret pe_bl)) pss_nil)
    (pss_cons (ps_if (pt_cmpR (op_neD hr.units) (pv 5) (pe_lst pa_nil) (nomark _)) (pss_cons (ps_set (i := 11) sc_l_kept.nd rfl (Or.inl rfl) (pe_op op_cat (pe_op op_cat (pe_lst (pa_cons pe_bl pa_nil)) (pe_lc (own := [("_law_kind", 13)]) rfl sc_l_kept.nd (pi_list (pe_lst (pa_cons (pe_strS (by decide +kernel)) (pa_cons (pe_strS (by decide +kernel)) (pa_cons (pe_strS (by decide +kernel)) (pa_cons (pe_strS (by decide +kernel)) pa_nil)))))) (blkOk_by (N := N_l_kept) (sc := defScope s_l_kept) (by decide +kernel)) (fun _ _ _ _ _ => (pg_name (i := 13) sc_l_kept.nd rfl (Or.inl rfl))) (fun _ _ _ _ _ => pts_nil) (fun _ _ _ _ _ => (pe_cmpR op_eq (pv 13) (pe_ix ix_list (pv 5) pe_int (fun _ _ => rfl)) (nomark _))))) (pe_lst (pa_cons pe_bl (pa_cons pe_bl pa_nil)))))
    (pss_one (ps_ret (pe_and (pe_cmpR (op_eqD hr.units) (pv 9) (pv 11) (nomark _)) (pe_one (C8.pe_c G_l_same hr (by omega) (by rfl) (pa_cons (C8.pe_c G_l_told hr (by omega) (by rfl) (pa_cons (pv 0) (pa_cons (pv 4) (pa_cons (pv 7) pa_nil)))) (pa_cons (pv 5) pa_nil)))))))) pss_nil)
    (pss_cons (ps_if (PW.pt (pw_or (pt_cmpR (op_neD hr.units) (pv 9) (pe_lst pa_nil) (nomark _)) (pw_or1 (pt_not (pt_val (C8.pe_c G_l_same hr (by omega) (by rfl) (pa_cons (pv 8) (pa_cons (C8.pe_c G_l_turn hr (by omega) (by rfl) (pa_cons (C8.pe_c G_l_all_gone hr (by omega) (by rfl) (pa_cons (pe_ix ix_list (pv 1) pe_int (fun _ _ => rfl)) (pa_cons (pe_ix ix_list (pv 1) pe_int (fun _ _ => rfl)) (pa_cons (pe_ix ix_list (pv 2) pe_int (fun _ _ => rfl)) pa_nil)))) (pa_cons (pv 3) pa_nil))) pa_nil)))))))) (pss_one (ps_ret pe_bl)) pss_nil)
    (pss_cons (ps_if (pt_cmpR op_eq (pe_callB callLenSeq (by rfl) T.f_len (by decide +kernel) (pa_cons (pv 3) pa_nil)) pe_int (nomark _)) (pss_one (ps_ret (pe_cmpR op_eq (pv 8) pe_int (nomark _)))) pss_nil)
    (pss_cons (ps_set (i := 12) sc_l_kept.nd rfl (Or.inl rfl) (pe_op op_sub (pe_dget (u1 hr) (pe_ix ix_list (pv 2) pe_int (fun _ _ => rfl)) (C8.pe_c G_l_finish hr (by omega) (by rfl) (pa_cons (pe_ix ix_list (pv 1) pe_int (fun _ _ => rfl)) (pa_cons (pv 3) pa_nil))) (fun _ _ => rfl)) (pe_dget (u1 hr) (pe_ix ix_list (pv 2) pe_int (fun _ _ => rfl)) (C8.pe_c G_l_begin hr (by omega) (by rfl) (pa_cons (pe_ix ix_list (pv 1) pe_int (fun _ _ => rfl)) (pa_cons (pv 3) pa_nil))) (fun _ _ => rfl))))
    (pss_one (ps_ret (pe_cmpR op_eq (pe_op op_mod (pe_callTy callInt1 (by rfl) T.f_int (by decide +kernel) (pa_cons (pe_op op_sub (pv 8) (pv 12)) pa_nil)) (pe_ix ix_list (pv 1) pe_int (fun _ _ => rfl))) pe_int (nomark _)))))))))))))))))
theorem sc_law : FnScope N_law ["_law_script"] (defScope s_law) := ⟨rfl, rfl, rfl, by decide +kernel, rfl, by decide +kernel, by decide +kernel⟩
theorem ok_law {f : Addr} {fd : FuncData} (F : FunD K "law" "law" (defArgs s_law) (defBody s_law) (defScope s_law) [] [] f fd) (T : Txt K mg) (G_Net_init : C8.Mak P w K mg base 5 "Net" (C_Net K) (sp_Net_init K) []) (G_l_pool : C8.Cal P w K mg base (1) "_law_pool" (sp_l_pool K) []) (G_l_draw : C8.Cal P w K mg base (1) "_law_draw" (sp_l_draw K) []) (G_l_case : C8.Cal P w K mg base (5) "_law_case" (sp_l_case K) []) (G_l_steps : C8.Cal P w K mg base (4) "_law_steps" (sp_l_steps K) []) (G_l_faulty : C8.Cal P w K mg base (4) "_law_faulty" (sp_l_faulty K) []) (G_l_kept : C8.Cal P w K mg base (9) "_law_kept" (sp_l_kept K) []) : FnOk P w K mg base CX0 10 f fd ["_law_script"] (sp_law K) := by
  refine F.ok sc_law (len_law K) (fun cdv A outer s H vs Q E hr h => ⟨t_law K, PSs.nox ?_, pure_law K vs H Q E h⟩)
  exact (pss_cons (ps_set (i := 1) sc_law.nd rfl (Or.inl rfl) (C8.pe_c G_l_pool hr (by omega) (by rfl) (pa_cons (pv 0) pa_nil)))
    (pss_cons (ps_set (i := 2) sc_law.nd rfl (Or.inl rfl) (C8.pe_c G_l_draw hr (by omega) (by rfl) (pa_cons (pv 1) (pa_cons pe_int pa_nil))))
    (pss_cons (ps_set (i := 3) sc_law.nd rfl (Or.inl rfl) (C8.pe_c G_l_case hr (by omega) (by rfl) (pa_cons (pv 1) (pa_cons (pe_op op_add (pe_op op_mul pe_int (pv 2)) pe_int) (pa_cons (pe_op op_add (pe_op op_mul pe_int (pv 2)) pe_int) (pa_cons pe_int pa_nil))))))
    (pss_cons (ps_set (i := 4) sc_law.nd rfl (Or.inl rfl) (C8.pe_mk G_Net_init hr (by omega) (by rfl) (pa_cons (pe_ix ix_list (pv 3) pe_int (fun _ _ => rfl)) (pa_cons (pe_callTy callListOf (by rfl) T.f_list (by decide +kernel) (pa_cons (pe_ix ix_list (pv 3) pe_int (fun _ _ => rfl)) pa_nil)) (pa_cons (pe_callTy callListOf (by rfl) T.f_list (by decide +kernel) (pa_cons (pe_ix ix_list (pv 3) pe_int (fun _ _ => rfl)) pa_nil)) pa_nil)))))
    (pss_cons (ps_set (i := 5) sc_law.nd rfl (Or.inl rfl) (C8.pe_c G_l_steps hr (by omega) (by rfl) (pa_cons (pv 1) (pa_cons (pe_ix ix_list (pv 3) pe_int (fun _ _ => rfl)) (pa_cons (pe_ix ix_list (pv 3) pe_int (fun _ _ => rfl)) (pa_cons pe_int pa_nil))))))
    (pss_cons (ps_setLc (i := 6) (own := [("_law_step", 9)]) rfl sc_law.nd rfl rfl (sw_true rfl rfl rfl (by decide +kernel)) (pi_list (pe_revL (pv 5))) (blkOk_by (N := N_law) (sc := defScope s_law) (by decide +kernel)) (fun _ _ _ _ _ => (pg_name (i := 9) sc_law.nd rfl (Or.inl rfl))) (fun _ _ _ _ _ => pts_nil) (fun _ _ _ _ _ => (pe_tup (pa_cons (pe_ix ix_tup (pv 9) pe_int (fun _ _ => rfl)) (pa_cons (pe_un un_neg (pe_ix ix_tup (pv 9) pe_int (fun _ _ => rfl))) pa_nil)))))
    (pss_cons (ps_set (i := 7) sc_law.nd rfl (Or.inl rfl) (C8.pe_c G_l_faulty hr (by omega) (by rfl) (pa_cons (pv 1) (pa_cons (pe_ix ix_list (pv 3) pe_int (fun _ _ => rfl)) (pa_cons (pe_ix ix_list (pv 3) pe_int (fun _ _ => rfl)) (pa_cons (pe_ix ix_list (pv 3) (pe_op op_add pe_int (C8.pe_c G_l_draw hr (by omega) (by rfl) (pa_cons (pv 1) (pa_cons pe_int pa_nil)))) (fun _ _ => rfl)) pa_nil))))))
    (pss_cons (ps_for PassesOwn.never rfl (pi_list (pe_lst (pa_cons (pv 5) (pa_cons (pv 6) (pa_cons (pv 5) pa_nil))))) (pg_name (i := 8) sc_law.nd rfl (Or.inl rfl)) (pss_one (ps_if (pt_not (pt_val (C8.pe_c G_l_kept hr (by omega) (by rfl) (pa_cons (pv 4) (pa_cons (pv 3) (pa_cons (pv 7) (pa_cons (pv 8) pa_nil))))))) (pss_one (ps_ret pe_bl)) pss_nil)))
    (pss_one (ps_ret pe_bl))))))))))
abbrev N_BadNumber_init : List Str := ["self", "number"]
theorem sc_BadNumber_init : FnScope N_BadNumber_init ["self", "number"] (defScope s_BadNumber_init) := ⟨rfl, rfl, rfl, by decide +kernel, rfl, by decide +kernel, by decide +kernel⟩
theorem ok_BadNumber_init {f : Addr} {fd : FuncData} (F : FunD K "__init__" "BadNumber.__init__" (defArgs s_BadNumber_init) (defBody s_BadNumber_init) (defScope s_BadNumber_init) [] [] f fd) (T : Txt K mg) : FnOk P w K mg base CX0 1 f fd ["self", "number"] (spX (C_BadNumber K) ["number"]) := by
  refine F.ok sc_BadNumber_init (fun vs H Q E h => len_spX h) (fun cdv A outer s H vs Q E hr h => ⟨_, PSs.nox ?_, ini1 T.ox_BadNumber T.na_BadNumber_number h⟩)
  exact (pss_one (ps_ost (pv 0) (pv 1)))
abbrev N_BadWalk_init : List Str := ["self", "at"]
theorem sc_BadWalk_init : FnScope N_BadWalk_init ["self", "at"] (defScope s_BadWalk_init) := ⟨rfl, rfl, rfl, by decide +kernel, rfl, by decide +kernel, by decide +kernel⟩
theorem ok_BadWalk_init {f : Addr} {fd : FuncData} (F : FunD K "__init__" "BadWalk.__init__" (defArgs s_BadWalk_init) (defBody s_BadWalk_init) (defScope s_BadWalk_init) [] [] f fd) (T : Txt K mg) : FnOk P w K mg base CX0 1 f fd ["self", "at"] (spX (C_BadWalk K) ["at"]) := by
  refine F.ok sc_BadWalk_init (fun vs H Q E h => len_spX h) (fun cdv A outer s H vs Q E hr h => ⟨_, PSs.nox ?_, ini1 T.ox_BadWalk T.na_BadWalk_at h⟩)
  exact (pss_one (ps_ost (pv 0) (pv 1)))
abbrev N_BrokenSpan_init : List Str := ["self", "number"]
theorem sc_BrokenSpan_init : FnScope N_BrokenSpan_init ["self", "number"] (defScope s_BrokenSpan_init) := ⟨rfl, rfl, rfl, by decide +kernel, rfl, by decide +kernel, by decide +kernel⟩
theorem ok_BrokenSpan_init {f : Addr} {fd : FuncData} (F : FunD K "__init__" "BrokenSpan.__init__" (defArgs s_BrokenSpan_init) (defBody s_BrokenSpan_init) (defScope s_BrokenSpan_init) [] [] f fd) (T : Txt K mg) : FnOk P w K mg base CX0 1 f fd ["self", "number"] (spX (C_BrokenSpan K) ["number"]) := by
  refine F.ok sc_BrokenSpan_init (fun vs H Q E h => len_spX h) (fun cdv A outer s H vs Q E hr h => ⟨_, PSs.nox ?_, ini1 T.ox_BrokenSpan T.na_BrokenSpan_number h⟩)
  exact (pss_one (ps_ost (pv 0) (pv 1)))
abbrev N_WrongNames_init : List Str := ["self", "name"]
theorem sc_WrongNames_init : FnScope N_WrongNames_init ["self", "name"] (defScope s_WrongNames_init) := ⟨rfl, rfl, rfl, by decide +kernel, rfl, by decide +kernel, by decide +kernel⟩
theorem ok_WrongNames_init {f : Addr} {fd : FuncData} (F : FunD K "__init__" "WrongNames.__init__" (defArgs s_WrongNames_init) (defBody s_WrongNames_init) (defScope s_WrongNames_init) [] [] f fd) (T : Txt K mg) : FnOk P w K mg base CX0 1 f fd ["self", "name"] (spX (C_WrongNames K) ["name"]) := by
  refine F.ok sc_WrongNames_init (fun vs H Q E h => len_spX h) (fun cdv A outer s H vs Q E hr h => ⟨_, PSs.nox ?_, ini1 T.ox_WrongNames T.na_WrongNames_name h⟩)
  exact (pss_one (ps_ost (pv 0) (pv 1)))
abbrev N_Net_iter : List Str := ["self"]
theorem sc_Net_iter : FnScope N_Net_iter ["self"] (defScope s_Net_iter) := ⟨rfl, rfl, rfl, by decide +kernel, rfl, by decide +kernel, by decide +kernel⟩
theorem okN_Net_iter {f : Addr} {fd : FuncData} (F : FunD K "__iter__" "Net.__iter__" (defArgs s_Net_iter) (defBody s_Net_iter) (defScope s_Net_iter) [] [] f fd) (T : Txt K mg) : FnN P w K mg base 1 f fd ["self"] (spYoung K (C_Net K) "_events") := by
  refine fn_young F sc_Net_iter (fun n vs H Q E h => by
    obtain ⟨a, dx, fs, l, zs, rfl, h1, h2, h3, h4⟩ := h
    rfl) (fun cdv A outer s H vs Q E hr h => ⟨tRet (tCB (ItX.rIterN K s.heap.objs.size) (tCons (tFldC (C_Net K) (tVar 0) "_events") tNil)), PSs.nox ?_, ?_⟩)
  · exact (pss_one (ps_ret (pe_callB ItX.call_iterN (by rfl) T.f_iter (by decide +kernel) (pa_cons (pe_fldC T.cls_Net T.na_Net__events (pv 0)) pa_nil))))
  · obtain ⟨a, dx, fs, l, zs, rfl, h1, h2, h3, h4⟩ := h
    exact ⟨_, rfl, a, dx, fs, _, rfl, h1, h2, l, zs, rfl, h3, h4⟩
abbrev N_Times_iter : List Str := ["self"]
theorem sc_Times_iter : FnScope N_Times_iter ["self"] (defScope s_Times_iter) := ⟨rfl, rfl, rfl, by decide +kernel, rfl, by decide +kernel, by decide +kernel⟩
theorem okN_Times_iter {f : Addr} {fd : FuncData} (F : FunD K "__iter__" "Times.__iter__" (defArgs s_Times_iter) (defBody s_Times_iter) (defScope s_Times_iter) [] [] f fd) (T : Txt K mg) : FnN P w K mg base 1 f fd ["self"] (spYoungK (C_Times K) "_minutes") := by
  refine fn_young F sc_Times_iter (fun n vs H Q E h => by
    obtain ⟨a, dx, fs, d, o, kvs, rfl, h1, h2, h3, h4⟩ := h
    rfl) (fun cdv A outer s H vs Q E hr h => ⟨tRet (tCB (rIterK s.heap.objs.size) (tCons (tFldC (C_Times K) (tVar 0) "_minutes") tNil)), PSs.nox ?_, ?_⟩)
  · exact (pss_one (ps_ret (pe_callB call_iterK (by rfl) T.f_iter (by decide +kernel) (pa_cons (pe_fldC T.cls_Times T.na_Times__minutes (pv 0)) pa_nil))))
  · obtain ⟨a, dx, fs, d, o, kvs, rfl, h1, h2, h3, h4⟩ := h
    exact ⟨_, rfl, a, dx, fs, _, rfl, h1, h2, d, o, kvs, rfl, h3, h4⟩
end
theorem facts {P : Program} {w : World} {K : PySem.W.Frag} {h : Heap} {mg : Str → Option Value} {f : Addr} (X : K.In h) (G : h.Ns mainGlobals mg) (hfa : mg ("law" : Str) = some (.ref f)) (c : SaysX bs fas fns K) :
    ∃ fd : FuncData, (∀ (s : Shared) (v : Value), BindsTo s fd ⟨[v], []⟩ [("_law_script", v)]) ∧ ∀ base : Heap, K.In base → base.Ns mainGlobals mg → FnOk P w K mg base CX0 10 f fd ["_law_script"] (sp_law K) := by
  obtain ⟨fd_check_range, F_check_range⟩ := c.def_ 0 (d := d_check_range) rfl
  have g_check_range := He.glo_ok X G (c.fact 0 (f := .glo "check_range") rfl)
  obtain ⟨fd_check_round_length, F_check_round_length⟩ := c.def_ 1 (d := d_check_round_length) rfl
  have g_check_round_length := He.glo_ok X G (c.fact 1 (f := .glo "check_round_length") rfl)
  obtain ⟨fd_check_count, F_check_count⟩ := c.def_ 2 (d := d_check_count) rfl
  have g_check_count := He.glo_ok X G (c.fact 2 (f := .glo "check_count") rfl)
  obtain ⟨fd_is_name, F_is_name⟩ := c.def_ 3 (d := d_is_name) rfl
  have g_is_name := He.glo_ok X G (c.fact 3 (f := .glo "is_name") rfl)
  obtain ⟨fd_check_name, F_check_name⟩ := c.def_ 4 (d := d_check_name) rfl
  have g_check_name := He.glo_ok X G (c.fact 4 (f := .glo "check_name") rfl)
  obtain ⟨fd_check_event, F_check_event⟩ := c.def_ 5 (d := d_check_event) rfl
  have g_check_event := He.glo_ok X G (c.fact 5 (f := .glo "check_event") rfl)
  obtain ⟨fd_check_known, F_check_known⟩ := c.def_ 6 (d := d_check_known) rfl
  have g_check_known := He.glo_ok X G (c.fact 6 (f := .glo "check_known") rfl)
  obtain ⟨fd_check_span, F_check_span⟩ := c.def_ 7 (d := d_check_span) rfl
  have g_check_span := He.glo_ok X G (c.fact 7 (f := .glo "check_span") rfl)
  obtain ⟨fd_check_net, F_check_net⟩ := c.def_ 8 (d := d_check_net) rfl
  have g_check_net := He.glo_ok X G (c.fact 8 (f := .glo "check_net") rfl)
  obtain ⟨fd_Net_init, F_Net_init⟩ := c.def_ 9 (d := d_Net_init) rfl
  have m_Net_init := He.mkr_ok (c.fact 9 (f := .mkr "Net") rfl)
  obtain ⟨fd_l_pool, F_l_pool⟩ := c.def_ 10 (d := d_l_pool) rfl
  have g_l_pool := He.glo_ok X G (c.fact 10 (f := .glo "_law_pool") rfl)
  obtain ⟨fd_l_draw, F_l_draw⟩ := c.def_ 11 (d := d_l_draw) rfl
  have g_l_draw := He.glo_ok X G (c.fact 11 (f := .glo "_law_draw") rfl)
  obtain ⟨fd_l_word, F_l_word⟩ := c.def_ 12 (d := d_l_word) rfl
  have g_l_word := He.glo_ok X G (c.fact 12 (f := .glo "_law_word") rfl)
  obtain ⟨fd_l_names, F_l_names⟩ := c.def_ 13 (d := d_l_names) rfl
  have g_l_names := He.glo_ok X G (c.fact 13 (f := .glo "_law_names") rfl)
  obtain ⟨fd_l_length, F_l_length⟩ := c.def_ 14 (d := d_l_length) rfl
  have g_l_length := He.glo_ok X G (c.fact 14 (f := .glo "_law_length") rfl)
  obtain ⟨fd_l_changes, F_l_changes⟩ := c.def_ 15 (d := d_l_changes) rfl
  have g_l_changes := He.glo_ok X G (c.fact 15 (f := .glo "_law_changes") rfl)
  obtain ⟨fd_l_weight, F_l_weight⟩ := c.def_ 16 (d := d_l_weight) rfl
  have g_l_weight := He.glo_ok X G (c.fact 16 (f := .glo "_law_weight") rfl)
  obtain ⟨fd_l_some, F_l_some⟩ := c.def_ 17 (d := d_l_some) rfl
  have g_l_some := He.glo_ok X G (c.fact 17 (f := .glo "_law_some") rfl)
  obtain ⟨fd_l_window, F_l_window⟩ := c.def_ 18 (d := d_l_window) rfl
  have g_l_window := He.glo_ok X G (c.fact 18 (f := .glo "_law_window") rfl)
  obtain ⟨fd_l_span, F_l_span⟩ := c.def_ 19 (d := d_l_span) rfl
  have g_l_span := He.glo_ok X G (c.fact 19 (f := .glo "_law_span") rfl)
  obtain ⟨fd_l_case, F_l_case⟩ := c.def_ 20 (d := d_l_case) rfl
  have g_l_case := He.glo_ok X G (c.fact 20 (f := .glo "_law_case") rfl)
  obtain ⟨fd_l_walk, F_l_walk⟩ := c.def_ 21 (d := d_l_walk) rfl
  have g_l_walk := He.glo_ok X G (c.fact 21 (f := .glo "_law_walk") rfl)
  obtain ⟨fd_l_begin, F_l_begin⟩ := c.def_ 22 (d := d_l_begin) rfl
  have g_l_begin := He.glo_ok X G (c.fact 22 (f := .glo "_law_begin") rfl)
  obtain ⟨fd_l_finish, F_l_finish⟩ := c.def_ 23 (d := d_l_finish) rfl
  have g_l_finish := He.glo_ok X G (c.fact 23 (f := .glo "_law_finish") rfl)
  obtain ⟨fd_l_labels, F_l_labels⟩ := c.def_ 24 (d := d_l_labels) rfl
  have g_l_labels := He.glo_ok X G (c.fact 24 (f := .glo "_law_labels") rfl)
  obtain ⟨fd_l_path, F_l_path⟩ := c.def_ 25 (d := d_l_path) rfl
  have g_l_path := He.glo_ok X G (c.fact 25 (f := .glo "_law_path") rfl)
  obtain ⟨fd_l_ring, F_l_ring⟩ := c.def_ 26 (d := d_l_ring) rfl
  have g_l_ring := He.glo_ok X G (c.fact 26 (f := .glo "_law_ring") rfl)
  obtain ⟨fd_l_spoilt, F_l_spoilt⟩ := c.def_ 27 (d := d_l_spoilt) rfl
  have g_l_spoilt := He.glo_ok X G (c.fact 27 (f := .glo "_law_spoilt") rfl)
  obtain ⟨fd_l_loose, F_l_loose⟩ := c.def_ 28 (d := d_l_loose) rfl
  have g_l_loose := He.glo_ok X G (c.fact 28 (f := .glo "_law_loose") rfl)
  obtain ⟨fd_l_steps, F_l_steps⟩ := c.def_ 29 (d := d_l_steps) rfl
  have g_l_steps := He.glo_ok X G (c.fact 29 (f := .glo "_law_steps") rfl)
  obtain ⟨fd_l_stranger, F_l_stranger⟩ := c.def_ 30 (d := d_l_stranger) rfl
  have g_l_stranger := He.glo_ok X G (c.fact 30 (f := .glo "_law_stranger") rfl)
  obtain ⟨fd_l_faulty, F_l_faulty⟩ := c.def_ 31 (d := d_l_faulty) rfl
  have g_l_faulty := He.glo_ok X G (c.fact 31 (f := .glo "_law_faulty") rfl)
  obtain ⟨fd_Net_spans, F_Net_spans⟩ := c.def_ 32 (d := d_Net_spans) rfl
  have m_Net_spans := bProp_ok (c.b 15 (f := bProp "Net" "spans") rfl)
  obtain ⟨fd_Net_round_length, F_Net_round_length⟩ := c.def_ 33 (d := d_Net_round_length) rfl
  have m_Net_round_length := bProp_ok (c.b 16 (f := bProp "Net" "round_length") rfl)
  obtain ⟨fd_Net_contains, F_Net_contains⟩ := c.def_ 34 (d := d_Net_contains) rfl
  have m_Net_contains := He.meth_ok (c.fact 32 (f := .meth "Net" "__contains__") rfl)
  obtain ⟨fd_Times_round_length, F_Times_round_length⟩ := c.def_ 35 (d := d_Times_round_length) rfl
  have m_Times_round_length := bProp_ok (c.b 17 (f := bProp "Times" "round_length") rfl)
  obtain ⟨fd_Times_contains, F_Times_contains⟩ := c.def_ 36 (d := d_Times_contains) rfl
  have m_Times_contains := He.meth_ok (c.fact 33 (f := .meth "Times" "__contains__") rfl)
  obtain ⟨fd_check_names, F_check_names⟩ := c.def_ 37 (d := d_check_names) rfl
  have g_check_names := He.glo_ok X G (c.fact 34 (f := .glo "check_names") rfl)
  obtain ⟨fd_Times_getitem, F_Times_getitem⟩ := c.def_ 38 (d := d_Times_getitem) rfl
  have m_Times_getitem := He.meth_ok (c.fact 35 (f := .meth "Times" "__getitem__") rfl)
  obtain ⟨fd_on_span, F_on_span⟩ := c.def_ 39 (d := d_on_span) rfl
  have g_on_span := He.glo_ok X G (c.fact 36 (f := .glo "on_span") rfl)
  obtain ⟨fd_on_all_spans, F_on_all_spans⟩ := c.def_ 40 (d := d_on_all_spans) rfl
  have g_on_all_spans := He.glo_ok X G (c.fact 37 (f := .glo "on_all_spans") rfl)
  obtain ⟨fd_kept_minutes, F_kept_minutes⟩ := c.def_ 41 (d := d_kept_minutes) rfl
  have g_kept_minutes := He.glo_ok X G (c.fact 38 (f := .glo "kept_minutes") rfl)
  obtain ⟨fd_ends, F_ends⟩ := c.def_ 42 (d := d_ends) rfl
  have g_ends := He.glo_ok X G (c.fact 39 (f := .glo "ends") rfl)
  obtain ⟨fd_sum_over, F_sum_over⟩ := c.def_ 43 (d := d_sum_over) rfl
  have g_sum_over := He.glo_ok X G (c.fact 40 (f := .glo "sum_over") rfl)
  obtain ⟨fd_turn_of, F_turn_of⟩ := c.def_ 44 (d := d_turn_of) rfl
  have g_turn_of := He.glo_ok X G (c.fact 41 (f := .glo "turn_of") rfl)
  obtain ⟨fd_turn, F_turn⟩ := c.def_ 45 (d := d_turn) rfl
  have g_turn := He.glo_ok X G (c.fact 42 (f := .glo "turn") rfl)
  obtain ⟨fd_Times_init, F_Times_init⟩ := c.def_ 46 (d := d_Times_init) rfl
  have m_Times_init := He.mkr_ok (c.fact 43 (f := .mkr "Times") rfl)
  obtain ⟨fd_Times_minutes, F_Times_minutes⟩ := c.def_ 47 (d := d_Times_minutes) rfl
  have m_Times_minutes := bProp_ok (c.b 18 (f := bProp "Times" "minutes") rfl)
  obtain ⟨fd_l_is_int, F_l_is_int⟩ := c.def_ 48 (d := d_l_is_int) rfl
  have g_l_is_int := He.glo_ok X G (c.fact 44 (f := .glo "_law_is_int") rfl)
  obtain ⟨fd_l_same, F_l_same⟩ := c.def_ 49 (d := d_l_same) rfl
  have g_l_same := He.glo_ok X G (c.fact 45 (f := .glo "_law_same") rfl)
  obtain ⟨fd_l_gone, F_l_gone⟩ := c.def_ 50 (d := d_l_gone) rfl
  have g_l_gone := He.glo_ok X G (c.fact 46 (f := .glo "_law_gone") rfl)
  obtain ⟨fd_l_all_gone, F_l_all_gone⟩ := c.def_ 51 (d := d_l_all_gone) rfl
  have g_l_all_gone := He.glo_ok X G (c.fact 47 (f := .glo "_law_all_gone") rfl)
  obtain ⟨fd_l_turn, F_l_turn⟩ := c.def_ 52 (d := d_l_turn) rfl
  have g_l_turn := He.glo_ok X G (c.fact 48 (f := .glo "_law_turn") rfl)
  obtain ⟨fd_l_sides, F_l_sides⟩ := c.def_ 53 (d := d_l_sides) rfl
  have g_l_sides := He.glo_ok X G (c.fact 49 (f := .glo "_law_sides") rfl)
  obtain ⟨fd_l_fault, F_l_fault⟩ := c.def_ 54 (d := d_l_fault) rfl
  have g_l_fault := He.glo_ok X G (c.fact 50 (f := .glo "_law_fault") rfl)
  obtain ⟨fd_l_unfit, F_l_unfit⟩ := c.def_ 55 (d := d_l_unfit) rfl
  have g_l_unfit := He.glo_ok X G (c.fact 51 (f := .glo "_law_unfit") rfl)
  obtain ⟨fd_l_told, F_l_told⟩ := c.def_ 56 (d := d_l_told) rfl
  have g_l_told := He.glo_ok X G (c.fact 52 (f := .glo "_law_told") rfl)
  obtain ⟨fd_l_kept, F_l_kept⟩ := c.def_ 57 (d := d_l_kept) rfl
  have g_l_kept := He.glo_ok X G (c.fact 53 (f := .glo "_law_kept") rfl)
  obtain ⟨fd_law, F_law⟩ := c.def_ 58 (d := d_law) rfl
  have g_law := He.glo_ok X G (c.fact 54 (f := .glo "law") rfl)
  obtain ⟨fd_Net_iter, F_Net_iter⟩ := c.def_ 59 (d := d_Net_iter) rfl
  have m_Net_iter := He.meth_ok (c.fact 55 (f := .meth "Net" "__iter__") rfl)
  obtain ⟨fd_Times_iter, F_Times_iter⟩ := c.def_ 60 (d := d_Times_iter) rfl
  have m_Times_iter := He.meth_ok (c.fact 56 (f := .meth "Times" "__iter__") rfl)
  obtain ⟨fd_BadNumber_init, F_BadNumber_init⟩ := c.def_ 61 (d := d_BadNumber_init) rfl
  have m_BadNumber_init := He.meth_ok (c.fact 57 (f := .meth "BadNumber" "__init__") rfl)
  obtain ⟨fd_BadWalk_init, F_BadWalk_init⟩ := c.def_ 62 (d := d_BadWalk_init) rfl
  have m_BadWalk_init := He.meth_ok (c.fact 58 (f := .meth "BadWalk" "__init__") rfl)
  obtain ⟨fd_BrokenSpan_init, F_BrokenSpan_init⟩ := c.def_ 63 (d := d_BrokenSpan_init) rfl
  have m_BrokenSpan_init := He.meth_ok (c.fact 59 (f := .meth "BrokenSpan" "__init__") rfl)
  obtain ⟨fd_WrongNames_init, F_WrongNames_init⟩ := c.def_ 64 (d := d_WrongNames_init) rfl
  have m_WrongNames_init := He.meth_ok (c.fact 60 (f := .meth "WrongNames" "__init__") rfl)
  have t_f_list := He.free_ok X G (c.fact 61 (f := .free "list") rfl)
  have t_cls_Net := He.cls_ok (c.fact 62 (f := .cls "Net") rfl)
  have t_na_Net__round_length := He.noat_ok (c.fact 63 (f := .noat "Net" "_round_length") rfl)
  have t_na_Net__events := He.noat_ok (c.fact 64 (f := .noat "Net" "_events") rfl)
  have t_na_Net__spans := He.noat_ok (c.fact 65 (f := .noat "Net" "_spans") rfl)
  have t_g_Net := He.glo_ok X G (c.fact 66 (f := .glo "Net") rfl)
  have t_rd_Net := bRead_ok (c.b 0 (f := bRead "Net") rfl)
  have t_cv_Net_EVENTS := bCval_ok (c.b 1 (f := bCval "Net" "EVENTS" 12) rfl)
  have t_f_len := He.free_ok X G (c.fact 67 (f := .free "len") rfl)
  have t_f_enumerate := He.free_ok X G (c.fact 68 (f := .free "enumerate") rfl)
  have t_cv_Net_SPANS := bCval_ok (c.b 2 (f := bCval "Net" "SPANS" 24) rfl)
  have t_cv_Net_LONGEST := bCval_ok (c.b 3 (f := bCval "Net" "LONGEST" 120) rfl)
  have t_cv_Net_SHORTEST := bCval_ok (c.b 4 (f := bCval "Net" "SHORTEST" 3) rfl)
  have t_c_LONGEST_NAME : ∃ u, mg "LONGEST_NAME" = some u ∧ RelV (.int 8) u := (He.int_ok X G (c.fact 69 (f := .int "LONGEST_NAME" (8)) rfl)).elim fun t e => ⟨_, e, ⟨t, rfl⟩⟩
  have z_c_LETTERS : ("abcdefghijklmnopqrstuvwxyz" : Str) = S Z26 := by decide +kernel
  have t_c_LETTERS : ∃ u, mg "LETTERS" = some u ∧ RelV (.str (S Z26)) u := (He.str_ok X G (c.fact 70 (f := .str "LETTERS" "abcdefghijklmnopqrstuvwxyz") rfl)).elim fun t e => ⟨_, e, ⟨t, by rw [z_c_LETTERS]⟩⟩
  have z_c_DIGITS : ("0123456789" : Str) = S Z10 := by decide +kernel
  have t_c_DIGITS : ∃ u, mg "DIGITS" = some u ∧ RelV (.str (S Z10)) u := (He.str_ok X G (c.fact 71 (f := .str "DIGITS" "0123456789") rfl)).elim fun t e => ⟨_, e, ⟨t, by rw [z_c_DIGITS]⟩⟩
  have t_f_all := He.free_ok X G (c.fact 72 (f := .free "all") rfl)
  have t_cv_Net_HEAVIEST := bCval_ok (c.b 5 (f := bCval "Net" "HEAVIEST" 99) rfl)
  have t_f_int := He.free_ok X G (c.fact 73 (f := .free "int") rfl)
  have t_f_range := He.free_ok X G (c.fact 74 (f := .free "range") rfl)
  have t_f_str := He.free_ok X G (c.fact 75 (f := .free "str") rfl)
  have t_f_min := He.free_ok X G (c.fact 76 (f := .free "min") rfl)
  have t_f_max := He.free_ok X G (c.fact 77 (f := .free "max") rfl)
  have t_f_dict := He.free_ok X G (c.fact 78 (f := .free "dict") rfl)
  have t_g_MinuteError := He.glo_ok X G (c.fact 79 (f := .glo "MinuteError") rfl)
  have t_f_isinstance := He.free_ok X G (c.fact 80 (f := .free "isinstance") rfl)
  have t_g_UnknownSpan := He.glo_ok X G (c.fact 81 (f := .glo "UnknownSpan") rfl)
  have t_g_UnknownEvent := He.glo_ok X G (c.fact 82 (f := .glo "UnknownEvent") rfl)
  have t_g_BadWalk := He.glo_ok X G (c.fact 83 (f := .glo "BadWalk") rfl)
  have t_g_BrokenSpan := He.glo_ok X G (c.fact 84 (f := .glo "BrokenSpan") rfl)
  have t_g_WrongNames := He.glo_ok X G (c.fact 85 (f := .glo "WrongNames") rfl)
  have t_g_BadNumber := He.glo_ok X G (c.fact 86 (f := .glo "BadNumber") rfl)
  have t_f_ValueError := He.free_ok X G (c.fact 87 (f := .free "ValueError") rfl)
  have t_cls_Times := He.cls_ok (c.fact 88 (f := .cls "Times") rfl)
  have t_ox_BrokenSpan := bOex_ok (c.b 6 (f := bOex "BrokenSpan") rfl)
  have t_na_BrokenSpan_number := He.noat_ok (c.fact 89 (f := .noat "BrokenSpan" "number") rfl)
  have t_ox_BadNumber := bOex_ok (c.b 7 (f := bOex "BadNumber") rfl)
  have t_na_BadNumber_number := He.noat_ok (c.fact 90 (f := .noat "BadNumber" "number") rfl)
  have t_ox_WrongNames := bOex_ok (c.b 8 (f := bOex "WrongNames") rfl)
  have t_na_WrongNames_name := He.noat_ok (c.fact 91 (f := .noat "WrongNames" "name") rfl)
  have t_f_iter := He.free_ok X G (c.fact 92 (f := .free "iter") rfl)
  have t_na_Times__round_length := He.noat_ok (c.fact 93 (f := .noat "Times" "_round_length") rfl)
  have t_na_Times__minutes := He.noat_ok (c.fact 94 (f := .noat "Times" "_minutes") rfl)
  have t_ox_BadWalk := bOex_ok (c.b 9 (f := bOex "BadWalk") rfl)
  have t_na_BadWalk_at := He.noat_ok (c.fact 95 (f := .noat "BadWalk" "at") rfl)
  have t_f_sum := He.free_ok X G (c.fact 96 (f := .free "sum") rfl)
  have t_f_bool := He.free_ok X G (c.fact 97 (f := .free "bool") rfl)
  have t_f_tuple := He.free_ok X G (c.fact 98 (f := .free "tuple") rfl)
  have t_xf_BadNumber := bXf_ok (c.b 10 (f := bXf "BadNumber") rfl)
  have t_xf_WrongNames := bXf_ok (c.b 11 (f := bXf "WrongNames") rfl)
  have t_xf_BrokenSpan := bXf_ok (c.b 12 (f := bXf "BrokenSpan") rfl)
  have t_xf_BadWalk := bXf_ok (c.b 13 (f := bXf "BadWalk") rfl)
  have t_xf := bXall_ok (c.b 14 (f := bXall exs) rfl)
  have t_g_Times := He.glo_ok X G (c.fact 99 (f := .glo "Times") rfl)
  have T : Txt K mg := ⟨t_f_list, t_cls_Net, t_na_Net__round_length, t_na_Net__events, t_na_Net__spans, t_g_Net, t_rd_Net, t_cv_Net_EVENTS, t_f_len, t_f_enumerate, t_cv_Net_SPANS, t_cv_Net_LONGEST, t_cv_Net_SHORTEST, t_c_LONGEST_NAME, t_c_LETTERS, t_c_DIGITS, t_f_all, t_cv_Net_HEAVIEST, t_f_int, t_f_range, t_f_str, t_f_min, t_f_max, t_f_dict, t_g_MinuteError, t_f_isinstance, t_g_UnknownSpan, t_g_UnknownEvent, t_g_BadWalk, t_g_BrokenSpan, t_g_WrongNames, t_g_BadNumber, t_f_ValueError, t_cls_Times, t_ox_BrokenSpan, t_na_BrokenSpan_number, t_ox_BadNumber, t_na_BadNumber_number, t_ox_WrongNames, t_na_WrongNames_name, t_f_iter, t_na_Times__round_length, t_na_Times__minutes, t_ox_BadWalk, t_na_BadWalk_at, t_f_sum, t_f_bool, t_f_tuple, t_xf_BadNumber, t_xf_WrongNames, t_xf_BrokenSpan, t_xf_BadWalk, t_xf, t_g_Times⟩
  have e := hfa.symm.trans g_law
  cases e
  have b := FunD.bindsA (ps := ["_law_script"]) F_law fun _ _ _ _ _ _ us hl => match us, hl with | [_], _ => rfl
  refine ⟨fd_law, fun s v => b s [v] rfl, fun base _ _ => ?_⟩
  have GX_BadNumber : XMk P w K mg base 1 "BadNumber" (C_BadNumber K) (spX (C_BadNumber K) ["number"]) := ⟨_, fd_BadNumber_init, _, ⟨t_ox_BadNumber, m_BadNumber_init.at_, beq_iff_eq.mp m_BadNumber_init.fn⟩, ok_BadNumber_init F_BadNumber_init T, F_BadNumber_init.bindsN (ps := ["self", "number"]) (fun _ _ _ _ _ _ us hl => match us, hl with | [_, _], _ => rfl), t_g_BadNumber⟩
  have GX_BadWalk : XMk P w K mg base 1 "BadWalk" (C_BadWalk K) (spX (C_BadWalk K) ["at"]) := ⟨_, fd_BadWalk_init, _, ⟨t_ox_BadWalk, m_BadWalk_init.at_, beq_iff_eq.mp m_BadWalk_init.fn⟩, ok_BadWalk_init F_BadWalk_init T, F_BadWalk_init.bindsN (ps := ["self", "at"]) (fun _ _ _ _ _ _ us hl => match us, hl with | [_, _], _ => rfl), t_g_BadWalk⟩
  have GX_BrokenSpan : XMk P w K mg base 1 "BrokenSpan" (C_BrokenSpan K) (spX (C_BrokenSpan K) ["number"]) := ⟨_, fd_BrokenSpan_init, _, ⟨t_ox_BrokenSpan, m_BrokenSpan_init.at_, beq_iff_eq.mp m_BrokenSpan_init.fn⟩, ok_BrokenSpan_init F_BrokenSpan_init T, F_BrokenSpan_init.bindsN (ps := ["self", "number"]) (fun _ _ _ _ _ _ us hl => match us, hl with | [_, _], _ => rfl), t_g_BrokenSpan⟩
  have GX_WrongNames : XMk P w K mg base 1 "WrongNames" (C_WrongNames K) (spX (C_WrongNames K) ["name"]) := ⟨_, fd_WrongNames_init, _, ⟨t_ox_WrongNames, m_WrongNames_init.at_, beq_iff_eq.mp m_WrongNames_init.fn⟩, ok_WrongNames_init F_WrongNames_init T, F_WrongNames_init.bindsN (ps := ["self", "name"]) (fun _ _ _ _ _ _ us hl => match us, hl with | [_, _], _ => rfl), t_g_WrongNames⟩
  have GI_Net_iter : ItrN P w K mg base 1 (C_Net K) (spYoung K (C_Net K) "_events") := ⟨_, fd_Net_iter, _, m_Net_iter.at_, m_Net_iter.fn, okN_Net_iter F_Net_iter T, F_Net_iter.bindsN (ps := ["self"]) (fun _ _ _ _ _ _ us hl => match us, hl with | [_], _ => rfl)⟩
  have GI_Times_iter : ItrN P w K mg base 1 (C_Times K) (spYoungK (C_Times K) "_minutes") := ⟨_, fd_Times_iter, _, m_Times_iter.at_, m_Times_iter.fn, okN_Times_iter F_Times_iter T, F_Times_iter.bindsN (ps := ["self"]) (fun _ _ _ _ _ _ us hl => match us, hl with | [_], _ => rfl)⟩
  have G_check_range : C8.Cal P w K mg base (1) "check_range" (sp_check_range K) [] := ⟨_, fd_check_range, _, [], ok_check_range F_check_range T , g_check_range, F_check_range.kp, F_check_range.bindsN (ps := ["number", "low", "high"]) (fun _ _ _ _ _ _ us hl => match us, hl with | [_, _, _], _ => rfl), .nil⟩
  have G_check_round_length : C8.Cal P w K mg base (2) "check_round_length" (sp_check_round_length K) [] := ⟨_, fd_check_round_length, _, [], ok_check_round_length F_check_round_length T G_check_range, g_check_round_length, F_check_round_length.kp, F_check_round_length.bindsN (ps := ["round_length"]) (fun _ _ _ _ _ _ us hl => match us, hl with | [_], _ => rfl), .nil⟩
  have G_check_count : C8.Cal P w K mg base (1) "check_count" (sp_check_count K) [] := ⟨_, fd_check_count, _, [], ok_check_count F_check_count T , g_check_count, F_check_count.kp, F_check_count.bindsN (ps := ["count", "limit"]) (fun _ _ _ _ _ _ us hl => match us, hl with | [_, _], _ => rfl), .nil⟩
  have G_is_name : C8.Cal P w K mg base (1) "is_name" (sp_is_name K) [] := ⟨_, fd_is_name, _, [], ok_is_name F_is_name T , g_is_name, F_is_name.kp, F_is_name.bindsN (ps := ["text"]) (fun _ _ _ _ _ _ us hl => match us, hl with | [_], _ => rfl), .nil⟩
  have G_check_name : C8.Cal P w K mg base (2) "check_name" (sp_check_name K) [] := ⟨_, fd_check_name, _, [], ok_check_name F_check_name T G_is_name, g_check_name, F_check_name.kp, F_check_name.bindsN (ps := ["text"]) (fun _ _ _ _ _ _ us hl => match us, hl with | [_], _ => rfl), .nil⟩
  have G_check_event : C8.Cal P w K mg base (3) "check_event" (sp_check_event K) [] := ⟨_, fd_check_event, _, [], ok_check_event F_check_event T G_check_name, g_check_event, F_check_event.kp, F_check_event.bindsN (ps := ["name", "before"]) (fun _ _ _ _ _ _ us hl => match us, hl with | [_, _], _ => rfl), .nil⟩
  have G_check_known : C8.Cal P w K mg base (1) "check_known" (sp_check_known K) [] := ⟨_, fd_check_known, _, [], ok_check_known F_check_known T , g_check_known, F_check_known.kp, F_check_known.bindsN (ps := ["names", "known"]) (fun _ _ _ _ _ _ us hl => match us, hl with | [_, _], _ => rfl), .nil⟩
  have G_check_span : C8.Cal P w K mg base (2) "check_span" (sp_check_span K) [] := ⟨_, fd_check_span, _, [], ok_check_span F_check_span T G_check_range G_check_known, g_check_span, F_check_span.kp, F_check_span.bindsN (ps := ["round_length", "events", "span"]) (fun _ _ _ _ _ _ us hl => match us, hl with | [_, _, _], _ => rfl), .nil⟩
  have G_check_net : C8.Cal P w K mg base (4) "check_net" (sp_check_net K) [] := ⟨_, fd_check_net, _, [], ok_check_net F_check_net T G_check_round_length G_check_count G_check_event G_check_span, g_check_net, F_check_net.kp, F_check_net.bindsN (ps := ["round_length", "events", "spans"]) (fun _ _ _ _ _ _ us hl => match us, hl with | [_, _, _], _ => rfl), .nil⟩
  have G_Net_init : C8.Mak P w K mg base 5 "Net" (C_Net K) (sp_Net_init K) [] := ⟨_, fd_Net_init, _, [], m_Net_init, ok_Net_init F_Net_init T G_check_net, t_g_Net, F_Net_init.bindsN (ps := ["self", "round_length", "events", "spans"]) (fun _ _ _ _ _ _ us hl => match us, hl with | [_, _, _, _], _ => rfl), .nil⟩
  have G_l_pool : C8.Cal P w K mg base (1) "_law_pool" (sp_l_pool K) [] := ⟨_, fd_l_pool, _, [], ok_l_pool F_l_pool T , g_l_pool, F_l_pool.kp, F_l_pool.bindsN (ps := ["_law_script"]) (fun _ _ _ _ _ _ us hl => match us, hl with | [_], _ => rfl), .nil⟩
  have G_l_draw : C8.Cal P w K mg base (1) "_law_draw" (sp_l_draw K) [] := ⟨_, fd_l_draw, _, [], ok_l_draw F_l_draw T , g_l_draw, F_l_draw.kp, F_l_draw.bindsN (ps := ["_law_pool_here", "_law_many"]) (fun _ _ _ _ _ _ us hl => match us, hl with | [_, _], _ => rfl), .nil⟩
  have G_l_word : C8.Cal P w K mg base (2) "_law_word" (sp_l_word K) [] := ⟨_, fd_l_word, _, [], ok_l_word F_l_word T G_l_draw, g_l_word, F_l_word.kp, F_l_word.bindsN (ps := ["_law_pool_here", "_law_size"]) (fun _ _ _ _ _ _ us hl => match us, hl with | [_, _], _ => rfl), .nil⟩
  have G_l_names : C8.Cal P w K mg base (3) "_law_names" (sp_l_names K) [] := ⟨_, fd_l_names, _, [], ok_l_names F_l_names T G_l_draw G_l_word, g_l_names, F_l_names.kp, F_l_names.bindsN (ps := ["_law_pool_here", "_law_many"]) (fun _ _ _ _ _ _ us hl => match us, hl with | [_, _], _ => rfl), .nil⟩
  have G_l_length : C8.Cal P w K mg base (2) "_law_length" (sp_l_length K) [] := ⟨_, fd_l_length, _, [], ok_l_length F_l_length T G_l_draw, g_l_length, F_l_length.kp, F_l_length.bindsN (ps := ["_law_pool_here", "_law_most"]) (fun _ _ _ _ _ _ us hl => match us, hl with | [_, _], _ => rfl), .nil⟩
  have G_l_changes : C8.Cal P w K mg base (2) "_law_changes" (sp_l_changes K) [] := ⟨_, fd_l_changes, _, [], ok_l_changes F_l_changes T G_l_draw, g_l_changes, F_l_changes.kp, F_l_changes.bindsN (ps := ["_law_pool_here", "_law_many", "_law_length_here"]) (fun _ _ _ _ _ _ us hl => match us, hl with | [_, _, _], _ => rfl), .nil⟩
  have G_l_weight : C8.Cal P w K mg base (2) "_law_weight" (sp_l_weight K) [] := ⟨_, fd_l_weight, _, [], ok_l_weight F_l_weight T G_l_draw, g_l_weight, F_l_weight.kp, F_l_weight.bindsN (ps := ["_law_pool_here"]) (fun _ _ _ _ _ _ us hl => match us, hl with | [_], _ => rfl), .nil⟩
  have G_l_some : C8.Cal P w K mg base (2) "_law_some" (sp_l_some K) [] := ⟨_, fd_l_some, _, [], ok_l_some F_l_some T G_l_draw, g_l_some, F_l_some.kp, F_l_some.bindsN (ps := ["_law_pool_here", "_law_most"]) (fun _ _ _ _ _ _ us hl => match us, hl with | [_, _], _ => rfl), .nil⟩
  have G_l_window : C8.Cal P w K mg base (3) "_law_window" (sp_l_window K) [] := ⟨_, fd_l_window, _, [], ok_l_window F_l_window T G_l_draw G_l_some, g_l_window, F_l_window.kp, F_l_window.bindsN (ps := ["_law_pool_here", "_law_length_here", "_law_start", "_law_change", "_law_straight"]) (fun _ _ _ _ _ _ us hl => match us, hl with | [_, _, _, _, _], _ => rfl), .nil⟩
  have G_l_span : C8.Cal P w K mg base (4) "_law_span" (sp_l_span K) [] := ⟨_, fd_l_span, _, [], ok_l_span F_l_span T G_l_draw G_l_weight G_l_window, g_l_span, F_l_span.kp, F_l_span.bindsN (ps := ["_law_pool_here", "_law_length_here", "_law_names_here", "_law_before", "_law_changes_here", "_law_k", "_law_straight"]) (fun _ _ _ _ _ _ us hl => match us, hl with | [_, _, _, _, _, _, _], _ => rfl), .nil⟩
  have G_l_case : C8.Cal P w K mg base (5) "_law_case" (sp_l_case K) [] := ⟨_, fd_l_case, _, [], ok_l_case F_l_case T G_l_draw G_l_names G_l_length G_l_changes G_l_span, g_l_case, F_l_case.kp, F_l_case.bindsN (ps := ["_law_pool_here", "_law_most_events", "_law_most_spans", "_law_most_length"]) (fun _ _ _ _ _ _ us hl => match us, hl with | [_, _, _, _], _ => rfl), .nil⟩
  have G_l_walk : C8.Cal P w K mg base (2) "_law_walk" (sp_l_walk K) [] := ⟨_, fd_l_walk, _, [], ok_l_walk F_l_walk T G_l_draw, g_l_walk, F_l_walk.kp, F_l_walk.bindsN (ps := ["_law_pool_here", "_law_names_here", "_law_spans", "_law_many"]) (fun _ _ _ _ _ _ us hl => match us, hl with | [_, _, _, _], _ => rfl), .nil⟩
  have G_l_begin : C8.Cal P w K mg base (1) "_law_begin" (sp_l_begin K) [] := ⟨_, fd_l_begin, _, [], ok_l_begin F_l_begin T , g_l_begin, F_l_begin.kp, F_l_begin.bindsN (ps := ["_law_spans", "_law_walk_here"]) (fun _ _ _ _ _ _ us hl => match us, hl with | [_, _], _ => rfl), .nil⟩
  have G_l_finish : C8.Cal P w K mg base (1) "_law_finish" (sp_l_finish K) [] := ⟨_, fd_l_finish, _, [], ok_l_finish F_l_finish T , g_l_finish, F_l_finish.kp, F_l_finish.bindsN (ps := ["_law_spans", "_law_walk_here"]) (fun _ _ _ _ _ _ us hl => match us, hl with | [_, _], _ => rfl), .nil⟩
  have G_l_labels : C8.Cal P w K mg base (1) "_law_labels" (sp_l_labels K) [] := ⟨_, fd_l_labels, _, [], ok_l_labels F_l_labels T , g_l_labels, F_l_labels.kp, F_l_labels.bindsN (ps := ["_law_names_here", "_law_spans"]) (fun _ _ _ _ _ _ us hl => match us, hl with | [_, _], _ => rfl), .nil⟩
  have G_l_path : C8.Cal P w K mg base (1) "_law_path" (sp_l_path K) [] := ⟨_, fd_l_path, _, [], ok_l_path F_l_path T , g_l_path, F_l_path.kp, F_l_path.bindsN (ps := ["_law_spans", "_law_tree", "_law_first", "_law_second"]) (fun _ _ _ _ _ _ us hl => match us, hl with | [_, _, _, _], _ => rfl), .nil⟩
  have G_l_ring : C8.Cal P w K mg base (3) "_law_ring" (sp_l_ring K) [] := ⟨_, fd_l_ring, _, [], ok_l_ring F_l_ring T G_l_begin G_l_finish G_l_labels G_l_path G_l_walk, g_l_ring, F_l_ring.kp, F_l_ring.bindsN (ps := ["_law_pool_here", "_law_names_here", "_law_spans", "_law_many"]) (fun _ _ _ _ _ _ us hl => match us, hl with | [_, _, _, _], _ => rfl), .nil⟩
  have G_l_spoilt : C8.Cal P w K mg base (2) "_law_spoilt" (sp_l_spoilt K) [] := ⟨_, fd_l_spoilt, _, [], ok_l_spoilt F_l_spoilt T G_l_draw, g_l_spoilt, F_l_spoilt.kp, F_l_spoilt.bindsN (ps := ["_law_pool_here", "_law_walk_here", "_law_count"]) (fun _ _ _ _ _ _ us hl => match us, hl with | [_, _, _], _ => rfl), .nil⟩
  have G_l_loose : C8.Cal P w K mg base (2) "_law_loose" (sp_l_loose K) [] := ⟨_, fd_l_loose, _, [], ok_l_loose F_l_loose T G_l_draw, g_l_loose, F_l_loose.kp, F_l_loose.bindsN (ps := ["_law_pool_here", "_law_count", "_law_many"]) (fun _ _ _ _ _ _ us hl => match us, hl with | [_, _, _], _ => rfl), .nil⟩
  have G_l_steps : C8.Cal P w K mg base (4) "_law_steps" (sp_l_steps K) [] := ⟨_, fd_l_steps, _, [], ok_l_steps F_l_steps T G_l_draw G_l_walk G_l_ring G_l_spoilt G_l_loose, g_l_steps, F_l_steps.kp, F_l_steps.bindsN (ps := ["_law_pool_here", "_law_names_here", "_law_spans", "_law_many"]) (fun _ _ _ _ _ _ us hl => match us, hl with | [_, _, _, _], _ => rfl), .nil⟩
  have G_l_stranger : C8.Cal P w K mg base (3) "_law_stranger" (sp_l_stranger K) [] := ⟨_, fd_l_stranger, _, [], ok_l_stranger F_l_stranger T G_l_draw G_l_word, g_l_stranger, F_l_stranger.kp, F_l_stranger.bindsN (ps := ["_law_pool_here", "_law_names_here"]) (fun _ _ _ _ _ _ us hl => match us, hl with | [_, _], _ => rfl), .nil⟩
  have G_l_faulty : C8.Cal P w K mg base (4) "_law_faulty" (sp_l_faulty K) [] := ⟨_, fd_l_faulty, _, [], ok_l_faulty F_l_faulty T G_l_draw G_l_stranger, g_l_faulty, F_l_faulty.kp, F_l_faulty.bindsN (ps := ["_law_pool_here", "_law_length_here", "_law_names_here", "_law_minutes"]) (fun _ _ _ _ _ _ us hl => match us, hl with | [_, _, _, _], _ => rfl), .nil⟩
  have G_Net_spans : Prp P w K mg base 1 (C_Net K) "spans" (sp_Net_spans K) := ⟨_, _, fd_Net_spans, _, m_Net_spans, ok_Net_spans F_Net_spans T , F_Net_spans.bindsN (ps := ["self"]) (fun _ _ _ _ _ _ us hl => match us, hl with | [_], _ => rfl)⟩
  have G_Net_round_length : Prp P w K mg base 1 (C_Net K) "round_length" (sp_Net_round_length K) := ⟨_, _, fd_Net_round_length, _, m_Net_round_length, ok_Net_round_length F_Net_round_length T , F_Net_round_length.bindsN (ps := ["self"]) (fun _ _ _ _ _ _ us hl => match us, hl with | [_], _ => rfl)⟩
  have G_Net_contains : Spc P w K mg base 1 (C_Net K) "__contains__" (sp_Net_contains K) := ⟨_, fd_Net_contains, _, m_Net_contains.at_, m_Net_contains.fn, ok_Net_contains F_Net_contains T , F_Net_contains.bindsN (ps := ["self", "name"]) (fun _ _ _ _ _ _ us hl => match us, hl with | [_, _], _ => rfl)⟩
  have G_Times_round_length : Prp P w K mg base 1 (C_Times K) "round_length" (sp_Times_round_length K) := ⟨_, _, fd_Times_round_length, _, m_Times_round_length, ok_Times_round_length F_Times_round_length T , F_Times_round_length.bindsN (ps := ["self"]) (fun _ _ _ _ _ _ us hl => match us, hl with | [_], _ => rfl)⟩
  have G_Times_contains : Spc P w K mg base 1 (C_Times K) "__contains__" (sp_Times_contains K) := ⟨_, fd_Times_contains, _, m_Times_contains.at_, m_Times_contains.fn, ok_Times_contains F_Times_contains T , F_Times_contains.bindsN (ps := ["self", "name"]) (fun _ _ _ _ _ _ us hl => match us, hl with | [_, _], _ => rfl)⟩
  have G_check_names : CalX P w K mg base (3) "check_names" (sp_check_names K) [] := ⟨_, fd_check_names, _, [], ok_check_names F_check_names T GX_BadNumber GX_WrongNames G_Net_round_length GI_Net_iter G_Net_contains G_Times_round_length GI_Times_iter G_Times_contains, g_check_names, F_check_names.kp, F_check_names.bindsN (ps := ["net", "times"]) (fun _ _ _ _ _ _ us hl => match us, hl with | [_, _], _ => rfl), .nil⟩
  have G_Times_getitem : SpcG P w K mg base 2 (C_Times K) (sp_Times_getitem K) := ⟨_, fd_Times_getitem, _, m_Times_getitem.at_, m_Times_getitem.fn, FunD.isIn F_Times_getitem, ok_Times_getitem F_Times_getitem T G_check_known, F_Times_getitem.bindsN (ps := ["self", "name"]) (fun _ _ _ _ _ _ us hl => match us, hl with | [_, _], _ => rfl)⟩
  have G_on_span : C8.Cal P w K mg base (4) "on_span" (sp_on_span K) [] := ⟨_, fd_on_span, _, [], ok_on_span F_on_span T G_Times_round_length G_Times_getitem, g_on_span, F_on_span.kp, F_on_span.bindsN (ps := ["times", "span"]) (fun _ _ _ _ _ _ us hl => match us, hl with | [_, _], _ => rfl), .nil⟩
  have G_on_all_spans : CalX P w K mg base (5) "on_all_spans" (sp_on_all_spans K) [] := ⟨_, fd_on_all_spans, _, [], ok_on_all_spans F_on_all_spans T G_Net_spans G_check_names G_on_span, g_on_all_spans, F_on_all_spans.kp, F_on_all_spans.bindsN (ps := ["net", "times"]) (fun _ _ _ _ _ _ us hl => match us, hl with | [_, _], _ => rfl), .nil⟩
  have G_kept_minutes : CalX P w K mg base (6) "kept_minutes" (sp_kept_minutes K) [] := ⟨_, fd_kept_minutes, _, [], ok_kept_minutes F_kept_minutes T GX_BrokenSpan G_on_all_spans, g_kept_minutes, F_kept_minutes.kp, F_kept_minutes.bindsN (ps := ["net", "times"]) (fun _ _ _ _ _ _ us hl => match us, hl with | [_, _], _ => rfl), .nil⟩
  have G_ends : CalX P w K mg base (3) "ends" (sp_ends K) [] := ⟨_, fd_ends, _, [], ok_ends F_ends T GX_BadWalk G_Net_spans, g_ends, F_ends.kp, F_ends.bindsN (ps := ["net", "walk"]) (fun _ _ _ _ _ _ us hl => match us, hl with | [_, _], _ => rfl), .nil⟩
  have G_sum_over : C8.Cal P w K mg base (1) "sum_over" (sp_sum_over K) [] := ⟨_, fd_sum_over, _, [], ok_sum_over F_sum_over T , g_sum_over, F_sum_over.kp, F_sum_over.bindsN (ps := ["walk", "forward", "backward"]) (fun _ _ _ _ _ _ us hl => match us, hl with | [_, _, _], _ => rfl), .nil⟩
  have G_turn_of : C8.Cal P w K mg base (2) "turn_of" (sp_turn_of K) [] := ⟨_, fd_turn_of, _, [], ok_turn_of F_turn_of T G_sum_over, g_turn_of, F_turn_of.kp, F_turn_of.bindsN (ps := ["walk", "minutes"]) (fun _ _ _ _ _ _ us hl => match us, hl with | [_, _], _ => rfl), .nil⟩
  have G_turn : CalX P w K mg base (7) "turn" (sp_turn K) [] := ⟨_, fd_turn, _, [], ok_turn F_turn T G_kept_minutes G_ends G_turn_of, g_turn, F_turn.kp, F_turn.bindsN (ps := ["net", "times", "walk"]) (fun _ _ _ _ _ _ us hl => match us, hl with | [_, _, _], _ => rfl), .nil⟩
  have G_Times_init : C8.Mak P w K mg base 3 "Times" (C_Times K) (sp_Times_init K) [] := ⟨_, fd_Times_init, _, [], m_Times_init, ok_Times_init F_Times_init T G_check_name G_check_range G_check_round_length, t_g_Times, F_Times_init.bindsN (ps := ["self", "round_length", "minutes"]) (fun _ _ _ _ _ _ us hl => match us, hl with | [_, _, _], _ => rfl), .nil⟩
  have G_Times_minutes : Prp P w K mg base 1 (C_Times K) "minutes" (sp_Times_minutes K) := ⟨_, _, fd_Times_minutes, _, m_Times_minutes, ok_Times_minutes F_Times_minutes T , F_Times_minutes.bindsN (ps := ["self"]) (fun _ _ _ _ _ _ us hl => match us, hl with | [_], _ => rfl)⟩
  have G_l_is_int : C8.Cal P w K mg base (1) "_law_is_int" (sp_l_is_int K) [] := ⟨_, fd_l_is_int, _, [], ok_l_is_int F_l_is_int T , g_l_is_int, F_l_is_int.kp, F_l_is_int.bindsN (ps := ["_law_thing"]) (fun _ _ _ _ _ _ us hl => match us, hl with | [_], _ => rfl), .nil⟩
  have B_l_same := F_l_same.bindsN (ps := ["_law_actual", "_law_due"]) (fun _ _ _ _ _ _ us hl => match us, hl with | [_, _], _ => rfl)
  have R_l_same : ∀ n : Nat, C8.Cal P w K mg base (2 + n) "_law_same" (sp_l_same K n) [] := fun n => by
    induction n with
    | zero => exact ⟨_, fd_l_same, _, [], ok0_l_same F_l_same, g_l_same, F_l_same.kp, B_l_same, .nil⟩
    | succ n ih => exact ⟨_, fd_l_same, _, [], ok_l_same F_l_same T G_l_is_int n ih, g_l_same, F_l_same.kp, B_l_same, .nil⟩
  have G_l_same : C8.Cal P w K mg base (5) "_law_same" (sp_l_same K 3) [] := R_l_same 3
  have G_l_gone : C8.Cal P w K mg base (1) "_law_gone" (sp_l_gone K) [] := ⟨_, fd_l_gone, _, [], ok_l_gone F_l_gone T , g_l_gone, F_l_gone.kp, F_l_gone.bindsN (ps := ["_law_length_here", "_law_span_here", "_law_minutes"]) (fun _ _ _ _ _ _ us hl => match us, hl with | [_, _, _], _ => rfl), .nil⟩
  have G_l_all_gone : C8.Cal P w K mg base (2) "_law_all_gone" (sp_l_all_gone K) [] := ⟨_, fd_l_all_gone, _, [], ok_l_all_gone F_l_all_gone T G_l_gone, g_l_all_gone, F_l_all_gone.kp, F_l_all_gone.bindsN (ps := ["_law_length_here", "_law_spans", "_law_minutes"]) (fun _ _ _ _ _ _ us hl => match us, hl with | [_, _, _], _ => rfl), .nil⟩
  have G_l_turn : C8.Cal P w K mg base (1) "_law_turn" (sp_l_turn K) [] := ⟨_, fd_l_turn, _, [], ok_l_turn F_l_turn T , g_l_turn, F_l_turn.kp, F_l_turn.bindsN (ps := ["_law_gone_here", "_law_walk_here"]) (fun _ _ _ _ _ _ us hl => match us, hl with | [_, _], _ => rfl), .nil⟩
  have G_l_sides : C8.Cal P w K mg base (1) "_law_sides" (sp_l_sides K) [] := ⟨_, fd_l_sides, _, [], ok_l_sides F_l_sides T , g_l_sides, F_l_sides.kp, F_l_sides.bindsN (ps := ["_law_spans", "_law_step"]) (fun _ _ _ _ _ _ us hl => match us, hl with | [_, _], _ => rfl), .nil⟩
  have G_l_fault : C8.Cal P w K mg base (2) "_law_fault" (sp_l_fault K) [] := ⟨_, fd_l_fault, _, [], ok_l_fault F_l_fault T G_l_sides, g_l_fault, F_l_fault.kp, F_l_fault.bindsN (ps := ["_law_spans", "_law_walk_here"]) (fun _ _ _ _ _ _ us hl => match us, hl with | [_, _], _ => rfl), .nil⟩
  have G_l_unfit : C8.Cal P w K mg base (2) "_law_unfit" (sp_l_unfit K) [] := ⟨_, fd_l_unfit, _, [], ok_l_unfit F_l_unfit T G_l_gone, g_l_unfit, F_l_unfit.kp, F_l_unfit.bindsN (ps := ["_law_length_here", "_law_names_here", "_law_spans", "_law_other", "_law_minutes"]) (fun _ _ _ _ _ _ us hl => match us, hl with | [_, _, _, _, _], _ => rfl), .nil⟩
  have G_l_told : C8.Cal P w K mg base (8) "_law_told" (sp_l_told K) [] := ⟨_, fd_l_told, _, [], ok_l_told F_l_told T G_turn, g_l_told, F_l_told.kp, F_l_told.bindsN (ps := ["_law_net", "_law_times", "_law_walk_here"]) (fun _ _ _ _ _ _ us hl => match us, hl with | [_, _, _], _ => rfl), .nil⟩
  have G_l_kept : C8.Cal P w K mg base (9) "_law_kept" (sp_l_kept K) [] := ⟨_, fd_l_kept, _, [], ok_l_kept F_l_kept T G_turn G_Times_init G_Times_minutes G_l_same G_l_all_gone G_l_begin G_l_finish G_l_turn G_l_fault G_l_unfit G_l_told, g_l_kept, F_l_kept.kp, F_l_kept.bindsN (ps := ["_law_net", "_law_case_here", "_law_found", "_law_walk_here"]) (fun _ _ _ _ _ _ us hl => match us, hl with | [_, _, _, _], _ => rfl), .nil⟩
  exact ok_law F_law T G_Net_init G_l_pool G_l_draw G_l_case G_l_steps G_l_faulty G_l_kept
end RM
open PySem PySem.W PySem.Calls PyProof.Rows
set_option maxRecDepth 100000 in
set_option maxHeartbeats 0 in
theorem PySem.Challenge.cw_roundminutes_k26_turns_holds : PySem.Challenge.rw_roundminutes_k26_turns.Holds := by
  w_on; o_law
  refine HandSHeadRun.head_any (r := OpenLaw.row PySem.Challenge.rw_roundminutes_k26_turns) (q := view RM.Rw.prog [74]) (H := RM.hk) (ob := RM.ob) (M := 8000) (loose := RM.loose)
    (d := HandSHeadRun.topDef RM.Rw.prog 74) (kwd := []) RM.ob_ok
    (by kernel_rfl) (fun s => by kernel_rfl) RM.run (by kernel_rfl) (by kernel_rfl) (by kernel_rfl) (by rfl) (by first | assumption | decide +kernel) (by decide +kernel) ⟨rfl, rfl, rfl, rfl, rfl, by decide +kernel⟩ ?hw ?hc
  case hw => w_witness2
  case hc =>
    refine L2.walk_ofE (l := PySem.Challenge.rw_roundminutes_k26_turns) (n := 63) (k := 10) (x := "_law_script") (CX := L2.CX0) rfl (by decide) (by kernel_rfl) ⟨rfl, by decide, by decide⟩ ?F (fun _ _ _ _ z => z)
    intro w mg fa h Y G hmg0
    obtain ⟨K, KX, c⟩ := Y
    have hmg : mg ("law" : PySem.Str) = some (.ref fa) := by
      have e : (HandSHeadRun.topDef RM.Rw.prog 74).name = ("law" : PySem.Str) := by kernel_rfl
      rw [← e]
      exact hmg0
    obtain ⟨fd, hb, hF⟩ := RM.facts (P := PySem.Challenge.rw_roundminutes_k26_turns.prog) (w := w) KX G hmg c
    exact ⟨K, fd, RM.sp_law K, KX, hb, fun H a ns hl _ hS => ⟨a, ns, rfl, hS, hl, fun _ => rfl⟩, hF⟩
