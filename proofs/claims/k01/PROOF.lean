import PyProof.Rows.All
import Wide.All
import OpenK.AllK
import Wide.FinOn
import HandS.ForMost
import HandS.ForExc
import HandS.Codes
import HandS.Steps
import HandS.Walk
import HandS.IsInst
import HandS.Defaults
import HandS.More
import HandS.Small
import HandS.AnyAll
import HandS.Head0
import HandS.Head1
import HandS.Head2
import HandS.HeadEnd
import HandS.HeadHook1
import HandS.HeadHook2
import HandS.OwnEq
import HandS.OwnIter
import HandS.IterNext
import HandS.IterVal
import HandS.ClsMeth
import HandS.Property
import HandS.Star
import HandS.MapObj
import HandS.ListItems
import HandS.DictComp
import HandS.SetKeys
import KE.KDictList
import PySem.Challenge.RW_roundminutes_k01_valid_names
set_option Elab.async false
set_option linter.all false
set_option maxRecDepth 100000
set_option maxHeartbeats 4000000
namespace RM
open PySem PySem.Spec PyProof.Rows L2 C8
/-! ### texts as lists of signs -/
abbrev S (l : List Nat) : Str := ⟨l.toArray⟩
theorem S_tl (x : Str) : S x.cps.toList = x := SX.S_tl x
theorem S_inj {a b : List Nat} (h : S a = S b) : a = b := SX.S_inj h
theorem S_len (a : List Nat) : (S a).length = a.length := SX.S_len a
theorem S_cat (a b : List Nat) : S a ++ S b = S (a ++ b) := SX.S_cat a b
abbrev sv (l : List Nat) : V := .str (S l)
def Z26 : List Nat := [97, 98, 99, 100, 101, 102, 103, 104, 105, 106, 107, 108, 109, 110, 111, 112, 113, 114, 115, 116, 117, 118, 119, 120, 121, 122]
def Z10 : List Nat := [48, 49, 50, 51, 52, 53, 54, 55, 56, 57]
def Z36 : List Nat := [97, 98, 99, 100, 101, 102, 103, 104, 105, 106, 107, 108, 109, 110, 111, 112, 113, 114, 115, 116, 117, 118, 119, 120, 121, 122, 48, 49, 50, 51, 52, 53, 54, 55, 56, 57]
/-- a letter; a letter or a digit -/
def LT (c : Nat) : Prop := 97 ≤ c ∧ c ≤ 122
def LD (c : Nat) : Prop := (97 ≤ c ∧ c ≤ 122) ∨ (48 ≤ c ∧ c ≤ 57)
instance (c : Nat) : Decidable (LT c) := by unfold LT; infer_instance
instance (c : Nat) : Decidable (LD c) := by unfold LD; infer_instance
theorem z26 {c : Nat} : c ∈ Z26 ↔ LT c := by
  constructor
  · intro h
    exact (by decide : ∀ c ∈ Z26, LT c) c h
  · intro ⟨h1, h2⟩
    obtain ⟨k, rfl⟩ : ∃ k, c = 97 + k := ⟨c - 97, by omega⟩
    exact (by decide : ∀ k, k < 26 → 97 + k ∈ Z26) k (by omega)
theorem z10 {c : Nat} : c ∈ Z10 ↔ (48 ≤ c ∧ c ≤ 57) := by
  constructor
  · intro h
    exact (by decide : ∀ c ∈ Z10, 48 ≤ c ∧ c ≤ 57) c h
  · intro ⟨h1, h2⟩
    obtain ⟨k, rfl⟩ : ∃ k, c = 48 + k := ⟨c - 48, by omega⟩
    exact (by decide : ∀ k, k < 10 → 48 + k ∈ Z10) k (by omega)
theorem z36 {c : Nat} : c ∈ Z36 ↔ LD c := by
  have e : Z36 = Z26 ++ Z10 := rfl
  rw [e, List.mem_append, z26, z10]
  rfl
/-- a name -/
def isNm (l : List Nat) : Bool := decide (1 ≤ l.length) && (decide (l.length ≤ 8) && ((match l with | [] => false | c :: _ => decide (LT c)) && l.all fun c => decide (LD c)))
structure Nm (l : List Nat) : Prop where
  len : l.length ≤ 8
  first : ∃ c r, l = c :: r ∧ LT c
  all : ∀ c ∈ l, LD c
theorem Nm.pos {l : List Nat} (h : Nm l) : 1 ≤ l.length := by
  obtain ⟨c, r, rfl, _⟩ := h.first
  simp
theorem nm_iff {l : List Nat} : isNm l = true ↔ Nm l := by
  unfold isNm
  constructor
  · intro h
    simp only [Bool.and_eq_true, decide_eq_true_eq, List.all_eq_true] at h
    obtain ⟨h1, h2, h3, h4⟩ := h
    cases l with
    | nil => simp at h1
    | cons c r => exact ⟨h2, ⟨c, r, rfl, by simpa using h3⟩, h4⟩
  · intro h
    obtain ⟨h2, ⟨c, r, rfl, h3⟩, h4⟩ := h
    simp only [Bool.and_eq_true, decide_eq_true_eq, List.all_eq_true]
    exact ⟨by simp, h2, by simpa using h3, h4⟩
/-- the digits of j as a text -/
def dg (j : Nat) : List Nat := ((toString ((j : Nat) : Int) : String) : Str).cps.toList
def zn (j : Nat) : List Nat := [122] ++ dg j
theorem zn_nm {j : Nat} (h : j < 13) : Nm (zn j) := nm_iff.mp ((by decide +kernel : ∀ j, j < 13 → isNm (zn j) = true) j h)
theorem zn_nodup : ((List.range 13).map zn).Nodup := by decide +kernel
theorem nodup_sub {α : Type} [DecidableEq α] : ∀ {l m : List α}, l.Nodup → (∀ x ∈ l, x ∈ m) → l.length ≤ m.length
  | [], _, _, _ => Nat.zero_le _
  | x :: l, m, hn, hs => by
    have hx := hs x List.mem_cons_self
    obtain ⟨h1, h2⟩ := List.nodup_cons.mp hn
    have ih := nodup_sub (l := l) (m := m.erase x) h2 fun y hy => by
      have ne : y ≠ x := fun e => h1 (e ▸ hy)
      exact (List.mem_erase_of_ne ne).mpr (hs y (List.mem_cons_of_mem _ hy))
    rw [List.length_erase_of_mem hx] at ih
    have : 0 < m.length := List.length_pos_of_mem hx
    rw [List.length_cons]
    omega
theorem zn_out {ns : List (List Nat)} (h : ∀ i, i < 13 → zn i ∈ ns) : 13 ≤ ns.length := by
  have z := nodup_sub zn_nodup (m := ns) fun x hx => by
    obtain ⟨i, hi, rfl⟩ := List.mem_map.mp hx
    exact h i (List.mem_range.mp hi)
  simpa using z
/-- a slice -/
def cutG {α : Type} (xs : List α) (lo hi : Option Int) : List α := (xs.drop (HT.sIx xs.length 0 lo)).take (HT.sIx xs.length xs.length hi - HT.sIx xs.length 0 lo)
theorem six_nat {n d k : Nat} (h : k ≤ n) : HT.sIx n d (some (k : Int)) = k := by
  unfold HT.sIx
  simp only []
  split <;> omega
theorem cutG_to {α : Type} {xs : List α} {k : Nat} (h : k ≤ xs.length) : cutG xs none (some (k : Int)) = xs.take k := by
  unfold cutG
  rw [six_nat h]
  show (xs.drop 0).take (k - 0) = xs.take k
  simp
theorem cutG_from {α : Type} {xs : List α} {k : Nat} (h : k ≤ xs.length) : cutG xs (some (k : Int)) none = xs.drop k := by
  unfold cutG
  rw [six_nat h]
  show (xs.drop k).take (xs.length - k) = xs.drop k
  rw [← List.length_drop, List.take_length]
/-! ### short names of readings -/
def rAddStr : R2 := fun x y H Q => ∃ i j, x = .str i ∧ y = .str j ∧ i.length + j.length ≤ sizeLine ∧ Q (.str (i ++ j)) H
def rLtStr : R2 := fun x y H Q => ∃ i j, x = .str i ∧ y = .str j ∧ Q (.bl (decide (i.cps.toList < j.cps.toList))) H
def rLenStr : List V → Hp → VK → Prop := fun xs H Q => ∃ z, xs = [.str z] ∧ z.length ≤ sizeLine ∧ Q (.int z.length) H
def rLenS (K : PySem.W.Frag) : List V → Hp → VK → Prop := fun xs H Q => ∃ p ys, xs = [.ref p] ∧ (SqL K H p ys ∨ SqT K H p ys) ∧ Q (.int ys.length) H
def rListS (K : PySem.W.Frag) : List V → Hp → VK → Prop := fun xs H Q => ∃ p ys, xs = [.ref p] ∧ (SqL K H p ys ∨ SqT K H p ys) ∧ ∀ l, H l = none → Q (.ref l) (upd H l (.lst ys))
def rInt1 : List V → Hp → VK → Prop := fun xs H Q => (∃ i, xs = [.int i] ∧ Q (.int i) H) ∨ ∃ k, xs = [.bl k] ∧ Q (.int (if k then 1 else 0)) H
def rStrInt : List V → Hp → VK → Prop := fun xs H Q => ∃ i, xs = [.int i] ∧ i.natAbs.log2 < 1920 ∧ Q (.str (toString i)) H
def rMin2 : List V → Hp → VK → Prop := fun xs H Q => ∃ i j, xs = [.int i, .int j] ∧ Q (.int (if j < i then j else i)) H
def rMax2 : List V → Hp → VK → Prop := fun xs H Q => ∃ i j, xs = [.int i, .int j] ∧ Q (.int (if j > i then j else i)) H
def rAbs : List V → Hp → VK → Prop := fun xs H Q => ∃ i, xs = [.int i] ∧ Q (.int (if i < 0 then -i else i)) H
def rFind : V → List V → Hp → VK → Prop := fun x xs H Q => ∃ a b, x = .str a ∧ xs = [.str b] ∧ Q (.int (Txt.find a b)) H

section
variable {X : Cx}
theorem opAddStr : OpR X (binaryOp .Add) rAddStr := op_add_str
theorem opLtStr : OpR X (compareOp .Lt) rLtStr := op_lt_str
theorem callLenStr : CallR X (.builtin "len") rLenStr := call_len_str
theorem callLenSeq : CallR X (.builtin "len") (rLenS X.K) := call_len_seq
theorem callListOf : CallR X (.type "list") (rListS X.K) := call_list_of
theorem callInt1 : CallR X (.type "int") rInt1 := call_int1
theorem callStrInt : CallR X (.type "str") rStrInt := call_str_int
theorem callMin2 (hc : X.calm = true) : CallR X (.builtin "min") rMin2 := call_min2 hc
theorem callMax2 (hc : X.calm = true) : CallR X (.builtin "max") rMax2 := call_max2 hc
theorem callAbs : CallR X (.builtin "abs") rAbs := call_abs
theorem mtFind : MtR X "str.find" rFind := mt_find
end
theorem Same.new {H : Hp} {p : Addr} {o : HO} (h : H p = none) : Same H (upd H p o) := fun a u e => by
  rw [upd_ne (ne_of_none e h)]
  exact e
theorem Same.mut {H H' : Hp} {p : Addr} {o : HO} (e : Same H H') (h : H p = none) : Same H (upd H' p o) := fun a u ha => by
  rw [upd_ne (ne_of_none ha h)]
  exact e a u ha
theorem szl {n : Nat} (h : n ≤ 100000) : n ≤ sizeLine := Nat.le_trans h (by decide)
theorem szlt {n : Nat} (h : n < 100000) : n < sizeLine := Nat.lt_of_lt_of_le h (by decide)
/-! ### readings from the head -/
section
variable {σ : L2.St} {H : Hp} {Q : VK} {i : Nat} {v : V} {ta tb tc : TE} {tl : TA} {t u : TT} {s1 s2 : TS} {D : Ends} {K : PySem.W.Frag} {r r' : R2} {sp : Sp} {E : XK} {QA : List V → Hp → Prop} {QT : Bool → Hp → Prop}
theorem wp_var (h : σ[i]? = some (some v)) (q : Q v H) : tVar i σ H Q := ⟨v, h, q⟩
theorem wp_c (q : Q v H) : tC v σ H Q := q
theorem wp_op (h : ta σ H fun x H1 => tb σ H1 fun y H2 => r x y H2 Q) : tOp r ta tb σ H Q := h
theorem wp_un {r : V → Hp → VK → Prop} (h : ta σ H fun x H1 => r x H1 Q) : tUn r ta σ H Q := h
theorem wp_nil (h : QA [] H) : tNil σ H QA := h
theorem wp_cons (h : ta σ H fun x H1 => tl σ H1 fun xs H2 => QA (x :: xs) H2) : tCons ta tl σ H QA := h
theorem wp_call (h : tl σ H fun vs H1 => sp vs H1 Q E) : tCall sp [] E tl σ H Q := by
  show tl σ H fun vs H1 => sp (vs ++ []) H1 Q E
  simpa only [List.append_nil] using h
theorem wp_cb {r : List V → Hp → VK → Prop} (h : tl σ H fun vs H1 => r vs H1 Q) : tCB r tl σ H Q := h
theorem wp_tup (h : tl σ H fun xs H1 => xs.length ≤ sizeLine ∧ ∀ p, H1 p = none → Q (.ref p) (upd H1 p (.tup xs))) : tTup tl σ H Q := h
theorem wp_lst (h : tl σ H fun xs H1 => xs.length ≤ sizeLine ∧ ∀ p, H1 p = none → Q (.ref p) (upd H1 p (.lst xs))) : tLst tl σ H Q := h
theorem wp_test (h : ta σ H fun x H1 => ∃ k, x = .bl k ∧ QT k H1) : tTest ta σ H QT := h
theorem wp_B (h : ta σ H fun x H1 => ∃ k, x = .bl k ∧ QT k H1) : tB ta σ H QT := h
theorem wp_bl {k : Bool} {R : Bool → Prop} (h : R k) : ∃ k', V.bl k = .bl k' ∧ R k' := ⟨k, rfl, h⟩
theorem wp_not (h : t σ H fun c H1 => QT (!c) H1) : tNot t σ H QT := h
theorem wp_and (h : t σ H fun c H1 => if c = true then u σ H1 QT else QT false H1) : tAnd t u σ H QT := h
theorem wp_or (h : t σ H fun c H1 => if c = true then QT true H1 else u σ H1 QT) : tOr t u σ H QT := h
theorem wp_notV (h : ta σ H fun x H1 => ∃ c, x = .bl c ∧ Q (.bl (!c)) H1) : tNotV ta σ H Q := h
theorem wp_andV (h : ta σ H fun x H1 => ∃ c, x = .bl c ∧ if c = true then tb σ H1 Q else Q (.bl false) H1) : tAndV ta tb σ H Q := h
theorem wp_orV (h : ta σ H fun x H1 => ∃ c, x = .bl c ∧ if c = true then Q (.bl true) H1 else tb σ H1 Q) : tOrV ta tb σ H Q := h
theorem wp_ifE (h : t σ H fun c H1 => if c = true then ta σ H1 Q else tb σ H1 Q) : tIf t ta tb σ H Q := h
theorem wp_chain (h : ta σ H fun x H1 => tb σ H1 fun y H2 => r x y H2 fun z H3 => ∃ k, z = .bl k ∧ (if k = true then tc σ H3 fun w' H4 => r' y w' H4 Q else Q (.bl false) H3)) : tChain r r' ta tb tc σ H Q := h
theorem wp_slice {r : V → Option Int → Option Int → Hp → VK → Prop} {tlo thi : TO} (h : ta σ H fun x H1 => tlo σ H1 fun l H2 => thi σ H2 fun u H3 => r x l u H3 Q) : tSl r ta tlo thi σ H Q := h
theorem wp_noPart {QO : Option Int → Hp → Prop} (h : QO none H) : tNoPart σ H QO := h
theorem wp_part {QO : Option Int → Hp → Prop} (h : ta σ H fun x H1 => ∃ i, x = .int i ∧ QO (some i) H1) : tPart ta σ H QO := h
theorem wp_partI {k : Int} {R : Int → Prop} (h : R k) : ∃ i, V.int k = .int i ∧ R i := ⟨k, rfl, h⟩
theorem wp_bm {T : String} {r : V → List V → Hp → VK → Prop} (h : ta σ H fun x H1 => tyV K T x H1 ∧ tl σ H1 fun xs H2 => r x xs H2 Q) : tBM K T r ta tl σ H Q := h
theorem wp_bm0 {T : String} {r : V → List V → Hp → VK → Prop} (h : ta σ H fun x H1 => tyV K T x H1 ∧ r x [] H1 Q) : tBM0 K T r ta σ H Q := h
/- operations -/
theorem wp_rI0 {g : Int → Int → V} {a b : Int} (h : Q (g a b) H) : rI0 g (.int a) (.int b) H Q := ⟨a, b, rfl, rfl, h⟩
theorem wp_rI {C : Int → Int → Prop} {g : Int → Int → V} {a b : Int} (hc : C a b) (h : Q (g a b) H) : rI C g (.int a) (.int b) H Q := ⟨a, b, rfl, rfl, hc, h⟩
theorem wp_rU {g : Int → V} {a : Int} (h : Q (g a) H) : rU g (.int a) H Q := ⟨a, rfl, h⟩
theorem wp_eqI {a b : Int} (h : Q (.bl (decide (a = b))) H) : rEq (.int a) (.int b) H Q := ⟨rfl, by
  have e : decide (V.int a = V.int b) = decide (a = b) := by simp
  rw [e]; exact h⟩
theorem wp_eqS {a b : Str} (h : Q (.bl (decide (a = b))) H) : rEq (.str a) (.str b) H Q := ⟨rfl, by
  have e : decide (V.str a = V.str b) = decide (a = b) := by simp
  rw [e]; exact h⟩
theorem wp_eqB {a b : Bool} (h : Q (.bl (decide (a = b))) H) : rEq (.bl a) (.bl b) H Q := ⟨rfl, by
  have e : decide (V.bl a = V.bl b) = decide (a = b) := by simp
  rw [e]; exact h⟩
theorem wp_neI {a b : Int} (h : Q (.bl (!decide (a = b))) H) : rNe (.int a) (.int b) H Q := ⟨rfl, by
  have e : decide (V.int a = V.int b) = decide (a = b) := by simp
  rw [e]; exact h⟩
theorem wp_neS {a b : Str} (h : Q (.bl (!decide (a = b))) H) : rNe (.str a) (.str b) H Q := ⟨rfl, by
  have e : decide (V.str a = V.str b) = decide (a = b) := by simp
  rw [e]; exact h⟩
theorem wp_addStr {a b : Str} (hl : a.length + b.length ≤ 100000) (h : Q (.str (a ++ b)) H) : rAddStr (.str a) (.str b) H Q := ⟨a, b, rfl, rfl, Nat.le_trans hl (by decide), h⟩
theorem wp_ixL {a : Addr} {k : Int} {xs : List V} (hx : SqL K H a xs) (ha : atI xs k = some v) (h : Q v H) : rIxL K (.ref a) (.int k) H Q := ⟨a, xs, k, v, rfl, rfl, hx, ha, h⟩
theorem wp_ixT {a : Addr} {k : Int} {xs : List V} (hx : SqT K H a xs) (ha : atI xs k = some v) (h : Q v H) : rIxT K (.ref a) (.int k) H Q := ⟨a, xs, k, v, rfl, rfl, hx, ha, h⟩
theorem wp_ixS {z : Str} {k : Int} {c : Nat} (hz : z.length ≤ 100000) (ha : atI z.cps.toList k = some c) (h : Q (.str ⟨#[c]⟩) H) : rIxS (.str z) (.int k) H Q := ⟨z, k, c, rfl, rfl, Nat.le_trans hz (by decide), ha, h⟩
theorem wp_inS {c : Nat} {z : Str} (h : Q (.bl (decide (c ∈ z.cps.toList))) H) : rInS (.str ⟨#[c]⟩) (.str z) H Q := ⟨c, z, rfl, rfl, h⟩
theorem wp_notInS {c : Nat} {z : Str} (h : Q (.bl (!decide (c ∈ z.cps.toList))) H) : rNotInS (.str ⟨#[c]⟩) (.str z) H Q := ⟨c, z, rfl, rfl, h⟩
theorem wp_inL {a : Addr} {x : V} {xs : List V} (hx : SqL K H a xs) (h1 : flatV x = true) (h2 : xs.all flatV = true) (h : Q (.bl (inV x xs)) H) : rIn K false x (.ref a) H Q := ⟨a, xs, rfl, .inl hx, h1, h2, h⟩
theorem wp_notInL {a : Addr} {x : V} {xs : List V} (hx : SqL K H a xs) (h1 : flatV x = true) (h2 : xs.all flatV = true) (h : Q (.bl (!inV x xs)) H) : rIn K true x (.ref a) H Q := ⟨a, xs, rfl, .inl hx, h1, h2, h⟩
theorem wp_int1 {a : Int} (h : Q (.int a) H) : rInt1 [.int a] H Q := .inl ⟨a, rfl, h⟩
theorem wp_strInt {a : Int} (hl : a.natAbs.log2 < 1920) (h : Q (.str (toString a)) H) : rStrInt [.int a] H Q := ⟨a, rfl, hl, h⟩
theorem wp_lenStr {z : Str} (hz : z.length ≤ 100000) (h : Q (.int z.length) H) : rLenStr [.str z] H Q := ⟨z, rfl, Nat.le_trans hz (by decide), h⟩
theorem wp_lenL {a : Addr} {xs : List V} (hx : SqL K H a xs) (h : Q (.int xs.length) H) : rLenS K [.ref a] H Q := ⟨a, xs, rfl, .inl hx, h⟩
theorem wp_lenT {a : Addr} {xs : List V} (hx : SqT K H a xs) (h : Q (.int xs.length) H) : rLenS K [.ref a] H Q := ⟨a, xs, rfl, .inr hx, h⟩
theorem wp_min2 {a b : Int} (h : Q (.int (if b < a then b else a)) H) : rMin2 [.int a, .int b] H Q := ⟨a, b, rfl, h⟩
theorem wp_max2 {a b : Int} (h : Q (.int (if b > a then b else a)) H) : rMax2 [.int a, .int b] H Q := ⟨a, b, rfl, h⟩
theorem wp_find {a b : Str} (h : Q (.int (Txt.find a b)) H) : rFind (.str a) [.str b] H Q := ⟨a, b, rfl, rfl, h⟩
theorem wp_listL {a : Addr} {xs : List V} (hx : SqL K H a xs) (h : ∀ l, H l = none → Q (.ref l) (upd H l (.lst xs))) : rListS K [.ref a] H Q := ⟨a, xs, rfl, .inl hx, h⟩
theorem wp_append {a : Addr} {x : V} {xs : List V} (hx : H a = some (.lst xs)) (hl : xs.length < 100000) (h : Q .non (upd H a (.lst (xs ++ [x])))) : rAppend (.ref a) [x] H Q := ⟨a, xs, x, rfl, rfl, hx, Nat.lt_of_lt_of_le hl (by decide), h⟩
theorem ty_list {a : Addr} {xs : List V} {R : Prop} (hx : SqL K H a xs) (h : R) : tyV K "list" (.ref a) H ∧ R := ⟨.inl ⟨rfl, xs, hx⟩, h⟩
theorem ty_str {z : Str} {R : Prop} (h : R) : tyV K "str" (.str z) H ∧ R := ⟨rfl, h⟩
theorem wp_isi {x : V} {n : String} {tv : Value} {b : Bool} (ty : TyX K H x tv) (e : PySem.W.kitOne K tv (.type n) = some b) (h : Q (.bl b) H) : rIsi K [x, .ty n] H Q := ⟨x, .ty n, tv, .type n, b, rfl, .ty n, ty, e, h⟩
theorem pe_strS {X : Cx} {x : Str} {j : Nat} {pos : Pos} {l : List Nat} (h : x = S l) : PE X (.Constant (.str x) j pos) (tC (.str (S l))) := by
  rw [h]
  exact pe_str
theorem wp_addS {a b : List Nat} (hl : a.length + b.length ≤ 100000) (h : Q (.str (S (a ++ b))) H) : rAddStr (.str (S a)) (.str (S b)) H Q := by
  refine wp_addStr (by rw [S_len, S_len]; exact hl) ?_
  rw [S_cat]
  exact h
theorem wp_ixSM {z : List Nat} {k : Int} (hz : z.length ≤ 100000) (h0 : 0 ≤ k) (h1 : k < z.length) (h : ∀ c, c ∈ z → z[k.toNat]? = some c → Q (.str (S [c])) H) : rIxS (.str (S z)) (.int k) H Q := by
  have hl : k.toNat < z.length := by omega
  have e : k = ((k.toNat : Nat) : Int) := by omega
  have y := atI_nat (List.getElem?_eq_getElem hl)
  rw [← e] at y
  exact wp_ixS (by rw [S_len]; exact hz) y (h _ (List.getElem_mem hl) (List.getElem?_eq_getElem hl))
theorem wp_lenS {z : List Nat} (hz : z.length ≤ 100000) (h : Q (.int z.length) H) : rLenStr [.str (S z)] H Q := by
  refine wp_lenStr (by rw [S_len]; exact hz) ?_
  rw [S_len]
  exact h
theorem wp_strIntS {j : Nat} (hj : j < 1000000) (h : Q (.str (S (dg j))) H) : rStrInt [.int j] H Q := by
  refine wp_strInt ?_ ?_
  · have e : (j : Int).natAbs = j := Int.natAbs_natCast j
    rw [e]
    have : j.log2 ≤ j := Nat.log2_le_self j
    by_cases hz : j = 0
    · subst hz; decide
    · exact Nat.lt_trans ((Nat.log2_lt hz).mpr (show j < 2 ^ 20 by omega)) (by decide)
  · have e : (S (dg j)) = ((toString ((j : Nat) : Int) : String) : Str) := S_tl _
    rw [e] at h
    exact h
theorem inV_sv {a : List Nat} {ns : List (List Nat)} : inV (sv a) (ns.map sv) = decide (a ∈ ns) := by
  unfold inV
  rw [List.any_map, Bool.eq_iff_iff, List.any_eq_true, decide_eq_true_eq]
  constructor
  · rintro ⟨x, hx, e⟩
    have e2 : (S x == S a) = true := e
    rw [SX.S_beq_eq, decide_eq_true_eq] at e2
    rw [← e2]; exact hx
  · intro h
    refine ⟨a, h, ?_⟩
    show (S a == S a) = true
    exact beq_self_eq_true _
theorem flat_sv {ns : List (List Nat)} : (ns.map sv).all flatV = true := by
  rw [List.all_map, List.all_eq_true]
  intro x _
  rfl
theorem wp_inSv {p : Addr} {a : List Nat} {ns : List (List Nat)} (hx : SqL K H p (ns.map sv)) (h : Q (.bl (decide (a ∈ ns))) H) : rIn K false (.str (S a)) (.ref p) H Q := by
  refine wp_inL hx rfl flat_sv ?_
  show Q (.bl (inV (sv a) (ns.map sv))) H
  rw [inV_sv]; exact h
theorem wp_notInSv {p : Addr} {a : List Nat} {ns : List (List Nat)} (hx : SqL K H p (ns.map sv)) (h : Q (.bl (!decide (a ∈ ns))) H) : rIn K true (.str (S a)) (.ref p) H Q := by
  refine wp_notInL hx rfl flat_sv ?_
  show Q (.bl (!inV (sv a) (ns.map sv))) H
  rw [inV_sv]; exact h
theorem wp_minL {a : Addr} {ns : List Int} (hx : SqL K H a (ns.map V.int)) (h0 : 0 < ns.length) (h : ∀ m, m ∈ ns → (∀ y ∈ ns, m ≤ y) → Q (.int m) H) : rMin K [.ref a] H Q := ⟨a, ns, rfl, hx, h0, h⟩
theorem wp_maxL {a : Addr} {ns : List Int} (hx : SqL K H a (ns.map V.int)) (h0 : 0 < ns.length) (h : ∀ m, m ∈ ns → (∀ y ∈ ns, y ≤ m) → Q (.int m) H) : rMax K [.ref a] H Q := ⟨a, ns, rfl, hx, h0, h⟩
theorem wp_allL {a : Addr} {bs : List Bool} (hx : SqL K H a (bs.map V.bl)) (h : Q (.bl (bs.all id)) H) : rAll K [.ref a] H Q := ⟨a, bs, rfl, hx, h⟩
theorem wp_anyL {a : Addr} {bs : List Bool} (hx : SqL K H a (bs.map V.bl)) (h : Q (.bl (bs.any id)) H) : rAny K [.ref a] H Q := ⟨a, bs, rfl, hx, h⟩
theorem wp_isiB {b : Bool} (h : Q (.bl true) H) : rIsi K [.bl b, .ty "bool"] H Q := wp_isi (.base (.bl b)) (by unfold PySem.W.kitOne; rw [if_pos (by decide)]) h
theorem wp_sliceS {z : List Nat} {lo hi : Option Int} (hz : z.length ≤ 100000) (h : Q (.str (S (cutG z lo hi))) H) : rSlS (.str (S z)) lo hi H Q := by
  refine ⟨S z, rfl, szl (by rw [S_len]; exact hz), ?_⟩
  have e : cutS (S z) lo hi = S (cutG z lo hi) := by
    unfold cutS cutG
    rw [S_len]
  rw [e]
  exact h
/- statements -/
theorem wp_seq (h : s1 { D with nx := s2 D } σ H) : tSeq s1 s2 D σ H := h
theorem wp_next (h : D.nx σ H) : tNext D σ H := h
theorem wp_brk (h : D.bk σ H) : tBreak D σ H := h
theorem wp_cont (h : D.ct σ H) : tCont D σ H := h
theorem wp_ret (h : ta σ H D.rt) : tRet ta D σ H := h
theorem wp_drop (h : ta σ H fun _ H1 => D.nx σ H1) : tDrop ta D σ H := h
theorem wp_asg {g : TG} (h : ta σ H fun x H1 => g x σ H1 D.nx) : tAsg ta g D σ H := h
theorem wp_gname {QS : L2.St → Hp → Prop} (h : QS (σ.set i (some v)) H) : gName i v σ H QS := h
theorem wp_gsub {ts : TSet} {QS : L2.St → Hp → Prop} (h : ta σ H fun o H1 => tb σ H1 fun k H2 => ts o k v H2 fun H3 => QS σ H3) : gSub ta tb ts v σ H QS := h
theorem wp_setL {QH : Hp → Prop} {a : Addr} {k : Int} {j : Nat} {xs : List V} (hx : H a = some (.lst xs)) (hj : ixN xs.length k = some j) (h : QH (upd H a (.lst (xs.set j v)))) : rSetL (.ref a) (.int k) v H QH := ⟨a, xs, k, j, rfl, rfl, hx, hj, h⟩
theorem wp_setL0 {QH : Hp → Prop} {a : Addr} {x : V} {xs : List V} (hx : H a = some (.lst (x :: xs))) (h : QH (upd H a (.lst (v :: xs)))) : rSetL (.ref a) (.int 0) v H QH :=
  ⟨a, x :: xs, 0, 0, rfl, rfl, hx, by unfold ixN; simp only [List.length_cons]; rw [if_pos (by omega), if_pos (by omega)]; rfl, h⟩
theorem wp_setL1 {QH : Hp → Prop} {a : Addr} {x y : V} {xs : List V} (hx : H a = some (.lst (x :: y :: xs))) (h : QH (upd H a (.lst (x :: v :: xs)))) : rSetL (.ref a) (.int 1) v H QH :=
  ⟨a, x :: y :: xs, 1, 1, rfl, rfl, hx, by unfold ixN; simp only [List.length_cons]; rw [if_pos (by omega), if_pos (by omega)]; rfl, h⟩
theorem is_isi {xs : List V} (h : rIsi K xs H Q) : rIsi K xs H Q := h
theorem is_var (h : tVar i σ H Q) : tVar i σ H Q := h
theorem is_gname {QS : L2.St → Hp → Prop} (h : gName i v σ H QS) : gName i v σ H QS := h
theorem wp_ixLM {a : Addr} {k : Int} {xs : List V} (hx : SqL K H a xs) (h0 : 0 ≤ k) (h1 : k < xs.length) (h : ∀ v, v ∈ xs → xs[k.toNat]? = some v → Q v H) : rIxL K (.ref a) (.int k) H Q := by
  have hl : k.toNat < xs.length := by omega
  have e : k = ((k.toNat : Nat) : Int) := by omega
  have z := atI_nat (List.getElem?_eq_getElem hl)
  rw [← e] at z
  exact wp_ixL hx z (h _ (List.getElem_mem hl) (List.getElem?_eq_getElem hl))
theorem wp_ixLI {a : Addr} {k : Int} {cs : List Int} (hx : SqL K H a (cs.map V.int)) (h0 : 0 ≤ k) (h1 : k < (cs.map V.int).length) (h : ∀ c, c ∈ cs → Q (.int c) H) : rIxL K (.ref a) (.int k) H Q :=
  wp_ixLM hx h0 h1 fun v hv _ => by
    obtain ⟨c, hc, rfl⟩ := List.mem_map.mp hv
    exact h c hc
theorem wp_cut {s1 s2 : TS} (Mid : L2.St → Hp → Prop) (h1 : s1 { D with nx := Mid } σ H) (h2 : ∀ σ' H', Mid σ' H' → s2 D σ' H') : C8.tCut s1 s2 D σ H := ⟨Mid, h1, h2⟩
theorem wp_ifS (h : t σ H fun b H1 => if b = true then s1 D σ H1 else s2 D σ H1) : tIfS t s1 s2 D σ H := h
/- loops -/
def ForW (J : It) (g : TG) (tb : TS) (D : Ends) (σ : L2.St) (H : Hp) : Prop := tFor (fun _ H1 R => R J H1) g tb D σ H
theorem wp_for1 {g : TG} {tb : TS} (h : tl σ H fun vs H1 => ∃ j : Int, vs = [.int j] ∧ -(2 ^ 62) ≤ j ∧ j < 2 ^ 62 ∧ ForW (Itr 0 j.toNat) g tb D σ H1) : tFor (iRng1 tl) g tb D σ H := h
theorem wp_for2 {g : TG} {tb : TS} (h : tl σ H fun vs H1 => ∃ i j : Int, vs = [.int i, .int j] ∧ (-(2 ^ 62) ≤ i ∧ i < 2 ^ 62 ∧ -(2 ^ 62) ≤ j ∧ j < 2 ^ 62) ∧ ForW (Itr i (j - i).toNat) g tb D σ H1) : tFor (iRng2 tl) g tb D σ H := h
theorem wp_forL {g : TG} {tb : TS} (h : ta σ H fun x H1 => ∃ a, x = .ref a ∧ (∃ xs, SqL K H1 a xs) ∧ ForW (Itl K a) g tb D σ H1) : tFor (iList K ta) g tb D σ H := h
theorem wp_forT {g : TG} {tb : TS} (h : ta σ H fun x H1 => ∃ a, x = .ref a ∧ (∃ xs, SqT K H1 a xs) ∧ ForW (Itt K a) g tb D σ H1) : tFor (iTup K ta) g tb D σ H := h
theorem wp_forS {g : TG} {tb : TS} (h : ta σ H fun v H1 => ∃ x, v = .str x ∧ ForW (Its x) g tb D σ H1) : tFor (iStr ta) g tb D σ H := h
theorem loop1 {g : TG} {tb : TS} {n : Int} (b : -4611686018427387904 ≤ n ∧ n < 4611686018427387904) (Pv : Nat → L2.St → Hp → Prop) (h0 : Pv 0 σ H)
    (hs : ∀ (i : Nat) σ' H', (i : Int) < n → Pv i σ' H' → g (.int ((i : Nat) : Int)) σ' H' fun σ2 H2 => tb { D with nx := Pv (i + 1), ct := Pv (i + 1), bk := D.nx } σ2 H2) (hd : ∀ σ' H', Pv n.toNat σ' H' → D.nx σ' H') :
    ∃ j : Int, [V.int n] = [V.int j] ∧ -(2 ^ 62) ≤ j ∧ j < 2 ^ 62 ∧ ForW (Itr 0 j.toNat) g tb D σ H := by
  refine ⟨n, rfl, by omega, by omega, for_range Pv h0 (fun i σ' H' hi p => ?_) hd⟩
  have e0 : (0 : Int) + (i : Int) = (i : Int) := Int.zero_add _
  rw [e0]
  exact hs i σ' H' (by omega) p
theorem loop2 {g : TG} {tb : TS} {lo n : Int} (b : -4611686018427387904 ≤ lo ∧ lo < 4611686018427387904 ∧ -4611686018427387904 ≤ n ∧ n < 4611686018427387904) (Pv : Nat → L2.St → Hp → Prop) (h0 : Pv 0 σ H)
    (hs : ∀ (i : Nat) σ' H', lo + (i : Int) < n → Pv i σ' H' → g (.int (lo + ((i : Nat) : Int))) σ' H' fun σ2 H2 => tb { D with nx := Pv (i + 1), ct := Pv (i + 1), bk := D.nx } σ2 H2) (hd : ∀ σ' H', Pv (n - lo).toNat σ' H' → D.nx σ' H') :
    ∃ i j : Int, [V.int lo, V.int n] = [V.int i, V.int j] ∧ (-(2 ^ 62) ≤ i ∧ i < 2 ^ 62 ∧ -(2 ^ 62) ≤ j ∧ j < 2 ^ 62) ∧ ForW (Itr i (j - i).toNat) g tb D σ H :=
  ⟨lo, n, rfl, ⟨by omega, by omega, by omega, by omega⟩, for_range Pv h0 (fun i σ' H' hi p => hs i σ' H' (by omega) p) hd⟩
theorem loopL {g : TG} {tb : TS} {a : Addr} {xs : List V} (hx : SqL K H a xs) (Pv : Nat → L2.St → Hp → Prop) (h0 : Pv 0 σ H) (hl : ∀ i σ' H', i ≤ xs.length → Pv i σ' H' → SqL K H' a xs)
    (hs : ∀ i x σ' H', xs[i]? = some x → Pv i σ' H' → g x σ' H' fun σ2 H2 => tb { D with nx := Pv (i + 1), ct := Pv (i + 1), bk := D.nx } σ2 H2) (hd : ∀ σ' H', Pv xs.length σ' H' → D.nx σ' H') :
    ∃ b, V.ref a = .ref b ∧ (∃ xs, SqL K H b xs) ∧ ForW (Itl K b) g tb D σ H := ⟨a, rfl, ⟨xs, hx⟩, for_list Pv h0 hl hs hd⟩
theorem loopT {g : TG} {tb : TS} {a : Addr} {xs : List V} (hx : SqT K H a xs) (Pv : Nat → L2.St → Hp → Prop) (h0 : Pv 0 σ H) (hl : ∀ i σ' H', i ≤ xs.length → Pv i σ' H' → SqT K H' a xs)
    (hs : ∀ i x σ' H', xs[i]? = some x → Pv i σ' H' → g x σ' H' fun σ2 H2 => tb { D with nx := Pv (i + 1), ct := Pv (i + 1), bk := D.nx } σ2 H2) (hd : ∀ σ' H', Pv xs.length σ' H' → D.nx σ' H') :
    ∃ b, V.ref a = .ref b ∧ (∃ xs, SqT K H b xs) ∧ ForW (Itt K b) g tb D σ H := ⟨a, rfl, ⟨xs, hx⟩, for_tup Pv h0 hl hs hd⟩
theorem loopS {g : TG} {tb : TS} {l : List Nat} (Pv : Nat → L2.St → Hp → Prop) (h0 : Pv 0 σ H)
    (hs : ∀ i c σ' H', l[i]? = some c → Pv i σ' H' → g (.str (S [c])) σ' H' fun σ2 H2 => tb { D with nx := Pv (i + 1), ct := Pv (i + 1), bk := D.nx } σ2 H2) (hd : ∀ σ' H', Pv l.length σ' H' → D.nx σ' H') :
    ∃ x, V.str (S l) = .str x ∧ ForW (Its x) g tb D σ H := by
  refine ⟨S l, rfl, for_it (walk_str (z := S l)) Pv h0 (fun _ _ _ _ _ => trivial) (fun i x σ' H1 H2 hi p y => ?_) (fun σ' H' p => ?_)⟩
  · obtain ⟨rfl, c, hc, rfl⟩ := y
    exact hs i c σ' H2 (by simpa using hc) p
  · exact hd σ' H' (by simpa using p)
/- comprehensions: each item's value, nothing else changed -/
def LcW (J : It) (g : TG) (tt : TT) (te : TE) (vs : List Nat) (σ : L2.St) (H1 : Hp) (Q : VK) : Prop := tLc (fun _ H R => R J H) g tt te vs σ H1 Q
theorem wp_lcL {g : TG} {tt : TT} {te : TE} {vs : List Nat} (h : ta σ H fun x H1 => ∃ a, x = .ref a ∧ (∃ xs, SqL K H1 a xs) ∧ LcW (Itl K a) g tt te vs σ H1 Q) : tLc (iList K ta) g tt te vs σ H Q := h
theorem wp_lcT {g : TG} {tt : TT} {te : TE} {vs : List Nat} (h : ta σ H fun x H1 => ∃ a, x = .ref a ∧ (∃ xs, SqT K H1 a xs) ∧ LcW (Itt K a) g tt te vs σ H1 Q) : tLc (iTup K ta) g tt te vs σ H Q := h
theorem wp_lcS {g : TG} {tt : TT} {te : TE} {vs : List Nat} (h : ta σ H fun v H1 => ∃ x, v = .str x ∧ LcW (Its x) g tt te vs σ H1 Q) : tLc (iStr ta) g tt te vs σ H Q := h
theorem wp_lc1 {g : TG} {tt : TT} {te : TE} {vs : List Nat} (h : tl σ H fun us H1 => ∃ j : Int, us = [.int j] ∧ -(2 ^ 62) ≤ j ∧ j < 2 ^ 62 ∧ LcW (Itr 0 j.toNat) g tt te vs σ H1 Q) : tLc (iRng1 tl) g tt te vs σ H Q := h
/-- a walk by items, an element that changes nothing: the list of their values -/
theorem lcMap {J : It} {n : Nat} {it : Nat → V} {Gd : Hp → Prop} (w : Walk J n Gd (fun i H x H' => H' = H ∧ x = it i)) (hn : n ≤ 100000) {g : TG} {te : TE} {vs : List Nat} (hG : ∀ H', Same H H' → Gd H') (f : Nat → V)
    (he : ∀ i H2, i < n → Same H H2 → ∀ R : VK, (∀ H3, Same H2 H3 → R (f i) H3) → g (it i) (wipe σ vs) H2 fun σ2 H3 => wipe σ2 vs = wipe σ vs ∧ te σ2 H3 R)
    (hq : ∀ D H2, H D = none → Same H H2 → H2 D = some (.lst ((List.range n).map f)) → Q (.ref D) H2) : LcW J g tYes te vs σ H Q := by
  intro D hD
  refine lc_it w (fun i H2 => Same H H2 ∧ H2 D = some (.lst ((List.range i).map f))) ⟨Same.new hD, upd_same⟩ (fun i H2 _ p => hG H2 p.1) (fun i x H2 H3 hi p y => ?_) (fun H2 p => hq D H2 hD p.1 p.2)
  obtain ⟨rfl, rfl⟩ := y
  have z := he i H3 hi p.1 (fun y H4 => ∃ acc, H4 D = some (.lst acc) ∧ acc.length < sizeLine ∧ (Same H (upd H4 D (.lst (acc ++ [y]))) ∧ upd H4 D (.lst (acc ++ [y])) D = some (.lst ((List.range (i + 1)).map f)))) (fun H4 s4 => ?_)
  · exact z
  · refine ⟨_, s4 _ _ p.2, ?_, Same.mut (p.1.trans s4) hD, ?_⟩
    · rw [List.length_map, List.length_range]
      exact szlt (by omega)
    · rw [List.range_succ, List.map_append]
      exact upd_same
theorem lcMapL {a : Addr} {xs : List V} {j : Nat} {te : TE} (hx : SqL K H a xs) (hn : xs.length ≤ 100000) (σx : V → L2.St) (hw : ∀ x, (wipe σ [j]).set j (some x) = σx x ∧ wipe (σx x) [j] = wipe σ [j]) (f : V → V)
    (he : ∀ x H2, x ∈ xs → Same H H2 → ∀ R : VK, (∀ H3, Same H2 H3 → R (f x) H3) → te (σx x) H2 R)
    (hq : ∀ D H2, H D = none → Same H H2 → H2 D = some (.lst (xs.map f)) → Q (.ref D) H2) : ∃ b, V.ref a = .ref b ∧ (∃ ys, SqL K H b ys) ∧ LcW (Itl K b) (gName j) tYes te [j] σ H Q := by
  refine ⟨a, rfl, ⟨xs, hx⟩, ?_⟩
  intro D hD
  refine lc_list (xs := xs) (fun i H2 => Same H H2 ∧ H2 D = some (.lst ((xs.take i).map f))) ⟨Same.new hD, upd_same⟩ (fun i H2 _ p => Same.seq p.1 hx) (fun i x H3 hi p => ?_) (fun H2 p => hq D H2 hD p.1 (by have q := p.2; rw [List.take_length] at q; exact q))
  obtain ⟨hl, ex⟩ := List.getElem?_eq_some_iff.mp hi
  show wipe ((wipe σ [j]).set j (some x)) [j] = wipe σ [j] ∧ te ((wipe σ [j]).set j (some x)) H3 fun y H4 => ∃ acc, H4 D = some (.lst acc) ∧ acc.length < sizeLine ∧ (Same H (upd H4 D (.lst (acc ++ [y]))) ∧ upd H4 D (.lst (acc ++ [y])) D = some (.lst ((xs.take (i + 1)).map f)))
  rw [(hw x).1]
  refine ⟨(hw x).2, he x H3 (ex ▸ List.getElem_mem hl) p.1 _ fun H4 s4 => ⟨_, s4 _ _ p.2, ?_, Same.mut (p.1.trans s4) hD, ?_⟩⟩
  · rw [List.length_map, List.length_take]
    exact szlt (by omega)
  · rw [← List.take_append_getElem hl, List.map_append, ex]
    exact upd_same
theorem lcMapS {l : List Nat} {j : Nat} {te : TE} (hn : l.length ≤ 100000) (σx : V → L2.St) (hw : ∀ x, (wipe σ [j]).set j (some x) = σx x ∧ wipe (σx x) [j] = wipe σ [j]) (f : Nat → V)
    (he : ∀ c H2, c ∈ l → Same H H2 → ∀ R : VK, (∀ H3, Same H2 H3 → R (f c) H3) → te (σx (.str (S [c]))) H2 R)
    (hq : ∀ D H2, H D = none → Same H H2 → H2 D = some (.lst (l.map f)) → Q (.ref D) H2) : ∃ x, V.str (S l) = .str x ∧ LcW (Its x) (gName j) tYes te [j] σ H Q := by
  refine ⟨S l, rfl, ?_⟩
  intro D hD
  have e0 : (S l).cps.size = l.length := by simp
  refine lc_it (walk_str (z := S l)) (fun i H2 => Same H H2 ∧ H2 D = some (.lst ((l.take i).map f))) ⟨Same.new hD, upd_same⟩ (fun _ _ _ _ => trivial) (fun i x H2 H3 hi p y => ?_) (fun H2 p => hq D H2 hD p.1 (by have q := p.2; rw [e0, List.take_length] at q; exact q))
  obtain ⟨rfl, c, hc, rfl⟩ := y
  have hc : l[i]? = some c := by simpa using hc
  obtain ⟨hl, ex⟩ := List.getElem?_eq_some_iff.mp hc
  show wipe ((wipe σ [j]).set j (some (V.str (S [c])))) [j] = wipe σ [j] ∧ te ((wipe σ [j]).set j (some (V.str (S [c])))) H3 fun y H4 => ∃ acc, H4 D = some (.lst acc) ∧ acc.length < sizeLine ∧ (Same H (upd H4 D (.lst (acc ++ [y]))) ∧ upd H4 D (.lst (acc ++ [y])) D = some (.lst ((l.take (i + 1)).map f)))
  rw [(hw _).1]
  refine ⟨(hw _).2, he c H3 (ex ▸ List.getElem_mem hl) p.1 _ fun H4 s4 => ⟨_, s4 _ _ p.2, ?_, Same.mut (p.1.trans s4) hD, ?_⟩⟩
  · rw [List.length_map, List.length_take]
    exact szlt (by omega)
  · rw [← List.take_append_getElem hl, List.map_append, ex]
    exact upd_same
/- ways -/
theorem ite_dec {c A B : Prop} {dc : Decidable c} (h1 : c → A) (h2 : ¬ c → B) : if decide c = true then A else B := by
  by_cases h : c
  · rw [decide_eq_true h]; exact h1 h
  · rw [decide_eq_false h]; exact h2 h
theorem ite_ndec {c A B : Prop} {dc : Decidable c} (h1 : ¬ c → A) (h2 : c → B) : if (!decide c) = true then A else B := by
  by_cases h : c
  · rw [decide_eq_true h]; exact h2 h
  · rw [decide_eq_false h]; exact h1 h
theorem ite_T {c A B : Prop} {dc : Decidable c} (hc : c) (h : A) : if decide c = true then A else B := by
  rw [decide_eq_true hc]; exact h
theorem ite_F {c A B : Prop} {dc : Decidable c} (hc : ¬ c) (h : B) : if decide c = true then A else B := by
  rw [decide_eq_false hc]; exact h
theorem ite_nT {c A B : Prop} {dc : Decidable c} (hc : ¬ c) (h : A) : if (!decide c) = true then A else B := by
  rw [decide_eq_false hc]; exact h
theorem ite_nF {c A B : Prop} {dc : Decidable c} (hc : c) (h : B) : if (!decide c) = true then A else B := by
  rw [decide_eq_true hc]; exact h
theorem ite_t {A B : Prop} (h : A) : if true = true then A else B := by rw [if_pos rfl]; exact h
theorem ite_f {A B : Prop} (h : B) : if false = true then A else B := by rw [if_neg Bool.false_ne_true]; exact h
theorem ite_nt {A B : Prop} (h : B) : if (!true) = true then A else B := by rw [if_neg (by decide)]; exact h
theorem ite_nff {A B : Prop} (h : A) : if (!false) = true then A else B := by rw [if_pos (by decide)]; exact h
theorem ite_b {b : Bool} {A B : Prop} (h1 : b = true → A) (h2 : b = false → B) : if b = true then A else B := by
  cases b
  · exact h2 rfl
  · exact h1 rfl
theorem ite_nb {b : Bool} {A B : Prop} (h1 : b = false → A) (h2 : b = true → B) : if (!b) = true then A else B := by
  cases b
  · exact h1 rfl
  · exact h2 rfl
end
/- slots -/
section
variable {v : V} {H : Hp} {QS : L2.St → Hp → Prop} {r : L2.St}
theorem wp_g0 {a0 : Option V} (h : QS (some v :: r) H) : gName 0 v (a0 :: r) H QS := h
theorem wp_g1 {a0 a1 : Option V} (h : QS (a0 :: some v :: r) H) : gName 1 v (a0 :: a1 :: r) H QS := h
theorem wp_g2 {a0 a1 a2 : Option V} (h : QS (a0 :: a1 :: some v :: r) H) : gName 2 v (a0 :: a1 :: a2 :: r) H QS := h
theorem wp_g3 {a0 a1 a2 a3 : Option V} (h : QS (a0 :: a1 :: a2 :: some v :: r) H) : gName 3 v (a0 :: a1 :: a2 :: a3 :: r) H QS := h
theorem wp_g4 {a0 a1 a2 a3 a4 : Option V} (h : QS (a0 :: a1 :: a2 :: a3 :: some v :: r) H) : gName 4 v (a0 :: a1 :: a2 :: a3 :: a4 :: r) H QS := h
theorem wp_g5 {a0 a1 a2 a3 a4 a5 : Option V} (h : QS (a0 :: a1 :: a2 :: a3 :: a4 :: some v :: r) H) : gName 5 v (a0 :: a1 :: a2 :: a3 :: a4 :: a5 :: r) H QS := h
theorem wp_g6 {a0 a1 a2 a3 a4 a5 a6 : Option V} (h : QS (a0 :: a1 :: a2 :: a3 :: a4 :: a5 :: some v :: r) H) : gName 6 v (a0 :: a1 :: a2 :: a3 :: a4 :: a5 :: a6 :: r) H QS := h
theorem wp_g7 {a0 a1 a2 a3 a4 a5 a6 a7 : Option V} (h : QS (a0 :: a1 :: a2 :: a3 :: a4 :: a5 :: a6 :: some v :: r) H) : gName 7 v (a0 :: a1 :: a2 :: a3 :: a4 :: a5 :: a6 :: a7 :: r) H QS := h
theorem wp_g8 {a0 a1 a2 a3 a4 a5 a6 a7 a8 : Option V} (h : QS (a0 :: a1 :: a2 :: a3 :: a4 :: a5 :: a6 :: a7 :: some v :: r) H) : gName 8 v (a0 :: a1 :: a2 :: a3 :: a4 :: a5 :: a6 :: a7 :: a8 :: r) H QS := h
theorem wp_g9 {a0 a1 a2 a3 a4 a5 a6 a7 a8 a9 : Option V} (h : QS (a0 :: a1 :: a2 :: a3 :: a4 :: a5 :: a6 :: a7 :: a8 :: some v :: r) H) : gName 9 v (a0 :: a1 :: a2 :: a3 :: a4 :: a5 :: a6 :: a7 :: a8 :: a9 :: r) H QS := h
theorem wp_g10 {a0 a1 a2 a3 a4 a5 a6 a7 a8 a9 a10 : Option V} (h : QS (a0 :: a1 :: a2 :: a3 :: a4 :: a5 :: a6 :: a7 :: a8 :: a9 :: some v :: r) H) : gName 10 v (a0 :: a1 :: a2 :: a3 :: a4 :: a5 :: a6 :: a7 :: a8 :: a9 :: a10 :: r) H QS := h
theorem wp_g11 {a0 a1 a2 a3 a4 a5 a6 a7 a8 a9 a10 a11 : Option V} (h : QS (a0 :: a1 :: a2 :: a3 :: a4 :: a5 :: a6 :: a7 :: a8 :: a9 :: a10 :: some v :: r) H) : gName 11 v (a0 :: a1 :: a2 :: a3 :: a4 :: a5 :: a6 :: a7 :: a8 :: a9 :: a10 :: a11 :: r) H QS := h
theorem wp_g12 {a0 a1 a2 a3 a4 a5 a6 a7 a8 a9 a10 a11 a12 : Option V} (h : QS (a0 :: a1 :: a2 :: a3 :: a4 :: a5 :: a6 :: a7 :: a8 :: a9 :: a10 :: a11 :: some v :: r) H) : gName 12 v (a0 :: a1 :: a2 :: a3 :: a4 :: a5 :: a6 :: a7 :: a8 :: a9 :: a10 :: a11 :: a12 :: r) H QS := h
theorem wp_g13 {a0 a1 a2 a3 a4 a5 a6 a7 a8 a9 a10 a11 a12 a13 : Option V} (h : QS (a0 :: a1 :: a2 :: a3 :: a4 :: a5 :: a6 :: a7 :: a8 :: a9 :: a10 :: a11 :: a12 :: some v :: r) H) : gName 13 v (a0 :: a1 :: a2 :: a3 :: a4 :: a5 :: a6 :: a7 :: a8 :: a9 :: a10 :: a11 :: a12 :: a13 :: r) H QS := h
theorem wp_g14 {a0 a1 a2 a3 a4 a5 a6 a7 a8 a9 a10 a11 a12 a13 a14 : Option V} (h : QS (a0 :: a1 :: a2 :: a3 :: a4 :: a5 :: a6 :: a7 :: a8 :: a9 :: a10 :: a11 :: a12 :: a13 :: some v :: r) H) : gName 14 v (a0 :: a1 :: a2 :: a3 :: a4 :: a5 :: a6 :: a7 :: a8 :: a9 :: a10 :: a11 :: a12 :: a13 :: a14 :: r) H QS := h
theorem wp_g15 {a0 a1 a2 a3 a4 a5 a6 a7 a8 a9 a10 a11 a12 a13 a14 a15 : Option V} (h : QS (a0 :: a1 :: a2 :: a3 :: a4 :: a5 :: a6 :: a7 :: a8 :: a9 :: a10 :: a11 :: a12 :: a13 :: a14 :: some v :: r) H) : gName 15 v (a0 :: a1 :: a2 :: a3 :: a4 :: a5 :: a6 :: a7 :: a8 :: a9 :: a10 :: a11 :: a12 :: a13 :: a14 :: a15 :: r) H QS := h
theorem wp_g16 {a0 a1 a2 a3 a4 a5 a6 a7 a8 a9 a10 a11 a12 a13 a14 a15 a16 : Option V} (h : QS (a0 :: a1 :: a2 :: a3 :: a4 :: a5 :: a6 :: a7 :: a8 :: a9 :: a10 :: a11 :: a12 :: a13 :: a14 :: a15 :: some v :: r) H) : gName 16 v (a0 :: a1 :: a2 :: a3 :: a4 :: a5 :: a6 :: a7 :: a8 :: a9 :: a10 :: a11 :: a12 :: a13 :: a14 :: a15 :: a16 :: r) H QS := h
theorem wp_g17 {a0 a1 a2 a3 a4 a5 a6 a7 a8 a9 a10 a11 a12 a13 a14 a15 a16 a17 : Option V} (h : QS (a0 :: a1 :: a2 :: a3 :: a4 :: a5 :: a6 :: a7 :: a8 :: a9 :: a10 :: a11 :: a12 :: a13 :: a14 :: a15 :: a16 :: some v :: r) H) : gName 17 v (a0 :: a1 :: a2 :: a3 :: a4 :: a5 :: a6 :: a7 :: a8 :: a9 :: a10 :: a11 :: a12 :: a13 :: a14 :: a15 :: a16 :: a17 :: r) H QS := h
theorem wp_g18 {a0 a1 a2 a3 a4 a5 a6 a7 a8 a9 a10 a11 a12 a13 a14 a15 a16 a17 a18 : Option V} (h : QS (a0 :: a1 :: a2 :: a3 :: a4 :: a5 :: a6 :: a7 :: a8 :: a9 :: a10 :: a11 :: a12 :: a13 :: a14 :: a15 :: a16 :: a17 :: some v :: r) H) : gName 18 v (a0 :: a1 :: a2 :: a3 :: a4 :: a5 :: a6 :: a7 :: a8 :: a9 :: a10 :: a11 :: a12 :: a13 :: a14 :: a15 :: a16 :: a17 :: a18 :: r) H QS := h
theorem wp_g19 {a0 a1 a2 a3 a4 a5 a6 a7 a8 a9 a10 a11 a12 a13 a14 a15 a16 a17 a18 a19 : Option V} (h : QS (a0 :: a1 :: a2 :: a3 :: a4 :: a5 :: a6 :: a7 :: a8 :: a9 :: a10 :: a11 :: a12 :: a13 :: a14 :: a15 :: a16 :: a17 :: a18 :: some v :: r) H) : gName 19 v (a0 :: a1 :: a2 :: a3 :: a4 :: a5 :: a6 :: a7 :: a8 :: a9 :: a10 :: a11 :: a12 :: a13 :: a14 :: a15 :: a16 :: a17 :: a18 :: a19 :: r) H QS := h
theorem wp_g20 {a0 a1 a2 a3 a4 a5 a6 a7 a8 a9 a10 a11 a12 a13 a14 a15 a16 a17 a18 a19 a20 : Option V} (h : QS (a0 :: a1 :: a2 :: a3 :: a4 :: a5 :: a6 :: a7 :: a8 :: a9 :: a10 :: a11 :: a12 :: a13 :: a14 :: a15 :: a16 :: a17 :: a18 :: a19 :: some v :: r) H) : gName 20 v (a0 :: a1 :: a2 :: a3 :: a4 :: a5 :: a6 :: a7 :: a8 :: a9 :: a10 :: a11 :: a12 :: a13 :: a14 :: a15 :: a16 :: a17 :: a18 :: a19 :: a20 :: r) H QS := h
theorem wp_g21 {a0 a1 a2 a3 a4 a5 a6 a7 a8 a9 a10 a11 a12 a13 a14 a15 a16 a17 a18 a19 a20 a21 : Option V} (h : QS (a0 :: a1 :: a2 :: a3 :: a4 :: a5 :: a6 :: a7 :: a8 :: a9 :: a10 :: a11 :: a12 :: a13 :: a14 :: a15 :: a16 :: a17 :: a18 :: a19 :: a20 :: some v :: r) H) : gName 21 v (a0 :: a1 :: a2 :: a3 :: a4 :: a5 :: a6 :: a7 :: a8 :: a9 :: a10 :: a11 :: a12 :: a13 :: a14 :: a15 :: a16 :: a17 :: a18 :: a19 :: a20 :: a21 :: r) H QS := h
theorem wp_g22 {a0 a1 a2 a3 a4 a5 a6 a7 a8 a9 a10 a11 a12 a13 a14 a15 a16 a17 a18 a19 a20 a21 a22 : Option V} (h : QS (a0 :: a1 :: a2 :: a3 :: a4 :: a5 :: a6 :: a7 :: a8 :: a9 :: a10 :: a11 :: a12 :: a13 :: a14 :: a15 :: a16 :: a17 :: a18 :: a19 :: a20 :: a21 :: some v :: r) H) : gName 22 v (a0 :: a1 :: a2 :: a3 :: a4 :: a5 :: a6 :: a7 :: a8 :: a9 :: a10 :: a11 :: a12 :: a13 :: a14 :: a15 :: a16 :: a17 :: a18 :: a19 :: a20 :: a21 :: a22 :: r) H QS := h
theorem wp_g23 {a0 a1 a2 a3 a4 a5 a6 a7 a8 a9 a10 a11 a12 a13 a14 a15 a16 a17 a18 a19 a20 a21 a22 a23 : Option V} (h : QS (a0 :: a1 :: a2 :: a3 :: a4 :: a5 :: a6 :: a7 :: a8 :: a9 :: a10 :: a11 :: a12 :: a13 :: a14 :: a15 :: a16 :: a17 :: a18 :: a19 :: a20 :: a21 :: a22 :: some v :: r) H) : gName 23 v (a0 :: a1 :: a2 :: a3 :: a4 :: a5 :: a6 :: a7 :: a8 :: a9 :: a10 :: a11 :: a12 :: a13 :: a14 :: a15 :: a16 :: a17 :: a18 :: a19 :: a20 :: a21 :: a22 :: a23 :: r) H QS := h
theorem wp_g24 {a0 a1 a2 a3 a4 a5 a6 a7 a8 a9 a10 a11 a12 a13 a14 a15 a16 a17 a18 a19 a20 a21 a22 a23 a24 : Option V} (h : QS (a0 :: a1 :: a2 :: a3 :: a4 :: a5 :: a6 :: a7 :: a8 :: a9 :: a10 :: a11 :: a12 :: a13 :: a14 :: a15 :: a16 :: a17 :: a18 :: a19 :: a20 :: a21 :: a22 :: a23 :: some v :: r) H) : gName 24 v (a0 :: a1 :: a2 :: a3 :: a4 :: a5 :: a6 :: a7 :: a8 :: a9 :: a10 :: a11 :: a12 :: a13 :: a14 :: a15 :: a16 :: a17 :: a18 :: a19 :: a20 :: a21 :: a22 :: a23 :: a24 :: r) H QS := h
theorem wp_g25 {a0 a1 a2 a3 a4 a5 a6 a7 a8 a9 a10 a11 a12 a13 a14 a15 a16 a17 a18 a19 a20 a21 a22 a23 a24 a25 : Option V} (h : QS (a0 :: a1 :: a2 :: a3 :: a4 :: a5 :: a6 :: a7 :: a8 :: a9 :: a10 :: a11 :: a12 :: a13 :: a14 :: a15 :: a16 :: a17 :: a18 :: a19 :: a20 :: a21 :: a22 :: a23 :: a24 :: some v :: r) H) : gName 25 v (a0 :: a1 :: a2 :: a3 :: a4 :: a5 :: a6 :: a7 :: a8 :: a9 :: a10 :: a11 :: a12 :: a13 :: a14 :: a15 :: a16 :: a17 :: a18 :: a19 :: a20 :: a21 :: a22 :: a23 :: a24 :: a25 :: r) H QS := h
end
section
variable {v : V} {H : Hp} {Q : VK} {r : L2.St}
theorem wp_v0 (q : Q v H) : tVar 0 (some v :: r) H Q := ⟨v, rfl, q⟩
theorem wp_v1 {a0 : Option V} (q : Q v H) : tVar 1 (a0 :: some v :: r) H Q := ⟨v, rfl, q⟩
theorem wp_v2 {a0 a1 : Option V} (q : Q v H) : tVar 2 (a0 :: a1 :: some v :: r) H Q := ⟨v, rfl, q⟩
theorem wp_v3 {a0 a1 a2 : Option V} (q : Q v H) : tVar 3 (a0 :: a1 :: a2 :: some v :: r) H Q := ⟨v, rfl, q⟩
theorem wp_v4 {a0 a1 a2 a3 : Option V} (q : Q v H) : tVar 4 (a0 :: a1 :: a2 :: a3 :: some v :: r) H Q := ⟨v, rfl, q⟩
theorem wp_v5 {a0 a1 a2 a3 a4 : Option V} (q : Q v H) : tVar 5 (a0 :: a1 :: a2 :: a3 :: a4 :: some v :: r) H Q := ⟨v, rfl, q⟩
theorem wp_v6 {a0 a1 a2 a3 a4 a5 : Option V} (q : Q v H) : tVar 6 (a0 :: a1 :: a2 :: a3 :: a4 :: a5 :: some v :: r) H Q := ⟨v, rfl, q⟩
theorem wp_v7 {a0 a1 a2 a3 a4 a5 a6 : Option V} (q : Q v H) : tVar 7 (a0 :: a1 :: a2 :: a3 :: a4 :: a5 :: a6 :: some v :: r) H Q := ⟨v, rfl, q⟩
theorem wp_v8 {a0 a1 a2 a3 a4 a5 a6 a7 : Option V} (q : Q v H) : tVar 8 (a0 :: a1 :: a2 :: a3 :: a4 :: a5 :: a6 :: a7 :: some v :: r) H Q := ⟨v, rfl, q⟩
theorem wp_v9 {a0 a1 a2 a3 a4 a5 a6 a7 a8 : Option V} (q : Q v H) : tVar 9 (a0 :: a1 :: a2 :: a3 :: a4 :: a5 :: a6 :: a7 :: a8 :: some v :: r) H Q := ⟨v, rfl, q⟩
theorem wp_v10 {a0 a1 a2 a3 a4 a5 a6 a7 a8 a9 : Option V} (q : Q v H) : tVar 10 (a0 :: a1 :: a2 :: a3 :: a4 :: a5 :: a6 :: a7 :: a8 :: a9 :: some v :: r) H Q := ⟨v, rfl, q⟩
theorem wp_v11 {a0 a1 a2 a3 a4 a5 a6 a7 a8 a9 a10 : Option V} (q : Q v H) : tVar 11 (a0 :: a1 :: a2 :: a3 :: a4 :: a5 :: a6 :: a7 :: a8 :: a9 :: a10 :: some v :: r) H Q := ⟨v, rfl, q⟩
theorem wp_v12 {a0 a1 a2 a3 a4 a5 a6 a7 a8 a9 a10 a11 : Option V} (q : Q v H) : tVar 12 (a0 :: a1 :: a2 :: a3 :: a4 :: a5 :: a6 :: a7 :: a8 :: a9 :: a10 :: a11 :: some v :: r) H Q := ⟨v, rfl, q⟩
theorem wp_v13 {a0 a1 a2 a3 a4 a5 a6 a7 a8 a9 a10 a11 a12 : Option V} (q : Q v H) : tVar 13 (a0 :: a1 :: a2 :: a3 :: a4 :: a5 :: a6 :: a7 :: a8 :: a9 :: a10 :: a11 :: a12 :: some v :: r) H Q := ⟨v, rfl, q⟩
theorem wp_v14 {a0 a1 a2 a3 a4 a5 a6 a7 a8 a9 a10 a11 a12 a13 : Option V} (q : Q v H) : tVar 14 (a0 :: a1 :: a2 :: a3 :: a4 :: a5 :: a6 :: a7 :: a8 :: a9 :: a10 :: a11 :: a12 :: a13 :: some v :: r) H Q := ⟨v, rfl, q⟩
theorem wp_v15 {a0 a1 a2 a3 a4 a5 a6 a7 a8 a9 a10 a11 a12 a13 a14 : Option V} (q : Q v H) : tVar 15 (a0 :: a1 :: a2 :: a3 :: a4 :: a5 :: a6 :: a7 :: a8 :: a9 :: a10 :: a11 :: a12 :: a13 :: a14 :: some v :: r) H Q := ⟨v, rfl, q⟩
theorem wp_v16 {a0 a1 a2 a3 a4 a5 a6 a7 a8 a9 a10 a11 a12 a13 a14 a15 : Option V} (q : Q v H) : tVar 16 (a0 :: a1 :: a2 :: a3 :: a4 :: a5 :: a6 :: a7 :: a8 :: a9 :: a10 :: a11 :: a12 :: a13 :: a14 :: a15 :: some v :: r) H Q := ⟨v, rfl, q⟩
theorem wp_v17 {a0 a1 a2 a3 a4 a5 a6 a7 a8 a9 a10 a11 a12 a13 a14 a15 a16 : Option V} (q : Q v H) : tVar 17 (a0 :: a1 :: a2 :: a3 :: a4 :: a5 :: a6 :: a7 :: a8 :: a9 :: a10 :: a11 :: a12 :: a13 :: a14 :: a15 :: a16 :: some v :: r) H Q := ⟨v, rfl, q⟩
theorem wp_v18 {a0 a1 a2 a3 a4 a5 a6 a7 a8 a9 a10 a11 a12 a13 a14 a15 a16 a17 : Option V} (q : Q v H) : tVar 18 (a0 :: a1 :: a2 :: a3 :: a4 :: a5 :: a6 :: a7 :: a8 :: a9 :: a10 :: a11 :: a12 :: a13 :: a14 :: a15 :: a16 :: a17 :: some v :: r) H Q := ⟨v, rfl, q⟩
theorem wp_v19 {a0 a1 a2 a3 a4 a5 a6 a7 a8 a9 a10 a11 a12 a13 a14 a15 a16 a17 a18 : Option V} (q : Q v H) : tVar 19 (a0 :: a1 :: a2 :: a3 :: a4 :: a5 :: a6 :: a7 :: a8 :: a9 :: a10 :: a11 :: a12 :: a13 :: a14 :: a15 :: a16 :: a17 :: a18 :: some v :: r) H Q := ⟨v, rfl, q⟩
theorem wp_v20 {a0 a1 a2 a3 a4 a5 a6 a7 a8 a9 a10 a11 a12 a13 a14 a15 a16 a17 a18 a19 : Option V} (q : Q v H) : tVar 20 (a0 :: a1 :: a2 :: a3 :: a4 :: a5 :: a6 :: a7 :: a8 :: a9 :: a10 :: a11 :: a12 :: a13 :: a14 :: a15 :: a16 :: a17 :: a18 :: a19 :: some v :: r) H Q := ⟨v, rfl, q⟩
theorem wp_v21 {a0 a1 a2 a3 a4 a5 a6 a7 a8 a9 a10 a11 a12 a13 a14 a15 a16 a17 a18 a19 a20 : Option V} (q : Q v H) : tVar 21 (a0 :: a1 :: a2 :: a3 :: a4 :: a5 :: a6 :: a7 :: a8 :: a9 :: a10 :: a11 :: a12 :: a13 :: a14 :: a15 :: a16 :: a17 :: a18 :: a19 :: a20 :: some v :: r) H Q := ⟨v, rfl, q⟩
theorem wp_v22 {a0 a1 a2 a3 a4 a5 a6 a7 a8 a9 a10 a11 a12 a13 a14 a15 a16 a17 a18 a19 a20 a21 : Option V} (q : Q v H) : tVar 22 (a0 :: a1 :: a2 :: a3 :: a4 :: a5 :: a6 :: a7 :: a8 :: a9 :: a10 :: a11 :: a12 :: a13 :: a14 :: a15 :: a16 :: a17 :: a18 :: a19 :: a20 :: a21 :: some v :: r) H Q := ⟨v, rfl, q⟩
theorem wp_v23 {a0 a1 a2 a3 a4 a5 a6 a7 a8 a9 a10 a11 a12 a13 a14 a15 a16 a17 a18 a19 a20 a21 a22 : Option V} (q : Q v H) : tVar 23 (a0 :: a1 :: a2 :: a3 :: a4 :: a5 :: a6 :: a7 :: a8 :: a9 :: a10 :: a11 :: a12 :: a13 :: a14 :: a15 :: a16 :: a17 :: a18 :: a19 :: a20 :: a21 :: a22 :: some v :: r) H Q := ⟨v, rfl, q⟩
theorem wp_v24 {a0 a1 a2 a3 a4 a5 a6 a7 a8 a9 a10 a11 a12 a13 a14 a15 a16 a17 a18 a19 a20 a21 a22 a23 : Option V} (q : Q v H) : tVar 24 (a0 :: a1 :: a2 :: a3 :: a4 :: a5 :: a6 :: a7 :: a8 :: a9 :: a10 :: a11 :: a12 :: a13 :: a14 :: a15 :: a16 :: a17 :: a18 :: a19 :: a20 :: a21 :: a22 :: a23 :: some v :: r) H Q := ⟨v, rfl, q⟩
theorem wp_v25 {a0 a1 a2 a3 a4 a5 a6 a7 a8 a9 a10 a11 a12 a13 a14 a15 a16 a17 a18 a19 a20 a21 a22 a23 a24 : Option V} (q : Q v H) : tVar 25 (a0 :: a1 :: a2 :: a3 :: a4 :: a5 :: a6 :: a7 :: a8 :: a9 :: a10 :: a11 :: a12 :: a13 :: a14 :: a15 :: a16 :: a17 :: a18 :: a19 :: a20 :: a21 :: a22 :: a23 :: a24 :: some v :: r) H Q := ⟨v, rfl, q⟩
end
/-! ### small words about heaps -/
theorem sq_of {K : PySem.W.Frag} {H : Hp} {a : Addr} {xs : List V} (h : H a = some (.lst xs)) : SqL K H a xs := SqL.of h
theorem st_of {K : PySem.W.Frag} {H : Hp} {a : Addr} {xs : List V} (h : H a = some (.tup xs)) : SqT K H a xs := SqT.of h
theorem at_in {α : Type} {xs : List α} {i : Int} (h0 : 0 ≤ i) (h1 : i < xs.length) : ∃ v, atI xs i = some v ∧ v ∈ xs ∧ xs[i.toNat]? = some v := by
  have hl : i.toNat < xs.length := by omega
  have e : i = ((i.toNat : Nat) : Int) := by omega
  have h := atI_nat (List.getElem?_eq_getElem hl)
  rw [← e] at h
  exact ⟨_, h, List.getElem_mem hl, List.getElem?_eq_getElem hl⟩
theorem at0 {α : Type} {x : α} {xs : List α} : atI (x :: xs) 0 = some x := atI_nat (j := 0) rfl
theorem at1 {α : Type} {x y : α} {xs : List α} : atI (x :: y :: xs) 1 = some y := atI_nat (j := 1) rfl
/-! ### the pool: what a draw may change -/
structure Pl where
  p : Addr
  l : Addr
  cs : List Int
/-- the pool stands at P.p, its cells at P.l; G: all that is known besides, P.p not among it -/
structure Sees (P : Pl) (G H : Hp) : Prop where
  pool : ∃ (n c : Int), H P.p = some (.lst [.int n, .int c, .ref P.l])
  cell : G P.l = some (.lst (P.cs.map V.int))
  few : P.cs.length ≤ 63
  free : G P.p = none
  sub : Same G H
theorem Sees.more {P : Pl} {G G' H : Hp} (s : Sees P G H) (g : Same G G') (h : Same G' H) (hp : G' P.p = none) : Sees P G' H :=
  ⟨s.pool, g _ _ s.cell, s.few, hp, h⟩
/-- a thing outside of G that stands in H is known too -/
theorem Sees.with {P : Pl} {q : Addr} {o : HO} {G H : Hp} (s : Sees P G H) (hq : G q = none) (hH : H q = some o) (hqp : q ≠ P.p) : Sees P (upd G q o) H := by
  refine s.more (Same.new hq) (fun a u e => ?_) (by rw [upd_ne hqp.symm]; exact s.free)
  by_cases h : a = q
  · subst h; rw [upd_same] at e; cases e; exact hH
  · rw [upd_ne h] at e; exact s.sub _ _ e
/-- .. and may be forgotten behind a call -/
theorem Sees.back {P : Pl} {q : Addr} {o : HO} {G H H' : Hp} (s : Sees P (upd G q o) H') (s0 : Sees P G H) (hq : G q = none) : Sees P G H' ∧ H' q = some o :=
  ⟨⟨s.pool, s0.cell, s.few, s0.free, Same.trans (Same.new hq) s.sub⟩, s.sub _ _ upd_same⟩
theorem Sees.fresh {P : Pl} {q : Addr} {G H : Hp} (s : Sees P G H) (hq : H q = none) : G q = none ∧ q ≠ P.p := by
  refine ⟨s.sub.free hq, fun e => ?_⟩
  obtain ⟨n, c, h⟩ := s.pool
  rw [e, h] at hq
  cases hq
/-- a local object is made, or changed -/
theorem Sees.set {P : Pl} {q : Addr} {o : HO} {G H : Hp} (s : Sees P G H) (hq : G q = none) (hqp : q ≠ P.p) : Sees P G (upd H q o) := by
  obtain ⟨n, c, h⟩ := s.pool
  exact ⟨⟨n, c, by rw [upd_ne hqp.symm]; exact h⟩, s.cell, s.few, s.free, Same.mut s.sub hq⟩
/-- .. and known for good -/
theorem Sees.new {P : Pl} {q : Addr} {o : HO} {G H : Hp} (s : Sees P G H) (hq : H q = none) : Sees P (upd G q o) (upd H q o) := by
  obtain ⟨h1, h2⟩ := s.fresh hq
  exact (s.set h1 h2).with h1 upd_same h2
theorem Sees.drawn {P : Pl} {G H : Hp} (s : Sees P G H) (n c : Int) : Sees P G (upd H P.p (.lst [.int n, .int c, .ref P.l])) :=
  ⟨⟨n, c, upd_same⟩, s.cell, s.few, s.free, Same.mut s.sub s.free⟩
/-- what a call that leaves all as it was leaves -/
theorem Sees.same {P : Pl} {G H H' : Hp} (s : Sees P G H) (h : Same H H') : Sees P G H' := by
  obtain ⟨n, c, e⟩ := s.pool
  exact ⟨⟨n, c, h _ _ e⟩, s.cell, s.few, s.free, s.sub.trans h⟩
end RM
namespace RM
open PySem PySem.Spec PyProof.Rows L2
/-! ### own classes: the operators that the text defines -/
section
variable {X : Cx} {pins : List (Addr × Obj)} {σ : L2.St} {H : Hp} {s : Shared} {n : Nat} {A : Around} {f C : Addr} {fd : FuncData} {ps : List Str} {sp : Sp}
/-- a def run somewhere below the body -/
theorem run_at {E' : Value → Shared → Prop} (sb : Sub X n A) (F : FnOk X.prog X.w X.K X.mg X.base CX0 n f fd ps sp) (hb : Binds X.K fd ps []) (I : Inv X pins σ H s) {us : List Value} {vs : List V} {Q : VK} (r : Vals vs us) (h : sp vs H Q E0) :
    wpAny (model X.prog X.w) A (call (.ref f) us) (EP X pins σ Q) E' s := by
  have e0 : Env0 X.prog X.w X.K X.mg X.base A X.stack s H := by
    have e := I.env0
    exact ⟨by rw [sb.fr]; exact e.frames, e.mod, e.bs, e.bsz, e.funs, e.frf, e.hok, e.bare⟩
  have hl := F.len _ _ _ _ h
  have hl2 : (us ++ ([] : List Value)).length = ps.length := by rw [List.append_nil, ← r.length]; exact hl
  have bt := hb s us I.kIn hl2
  rw [List.append_nil] at bt
  refine wpAny_call (codeAny_mono (F.run A X.stack s H ⟨us, []⟩ us vs Q E0 sb.room e0 bt r h) fun r s' hq => ?_)
  cases r with
  | error e => exact False.elim hq
  | ok fl =>
    cases fl with
    | ret u => exact I.after hq
    | next => exact False.elim hq
    | brk => exact False.elim hq
    | cont => exact False.elim hq
/-- a class's method by a special name -/
structure Spc (P : Program) (w : World) (K : PySem.W.Frag) (mg : Str → Option Value) (base : Heap) (n : Nat) (C : Addr) (nm : Str) (sp : Sp) : Prop where
  ex : ∃ (f : Addr) (fd : FuncData) (ps : List Str), PySem.W.findIn K (.ref C) nm = some (some (.ref f)) ∧ PySem.W.isFn K (.ref f) = true ∧ FnOk P w K mg base CX0 n f fd ps sp ∧ Binds K fd ps []
theorem inst_of {a dx : Addr} {fs : List (Str × V)} (I : Inv X pins σ H s) (ha : H a = some (.ins C dx fs)) : ∃ od, PySem.W.InstAt s.heap a (PySem.W.instObj C dx) C (some od) := by
  obtain ⟨mA, J, _⟩ := ins_get I.hok ha
  obtain ⟨od, J, _⟩ := J.look
  exact ⟨od, J⟩
/-- len(o) -/
def rLenOwn (C : Addr) (sp : Sp) : List V → Hp → VK → Prop := fun xs H Q => ∃ a dx fs, xs = [.ref a] ∧ H a = some (.ins C dx fs) ∧ sp [.ref a] H (fun v H' => ∃ k : Int, v = .int k ∧ 0 ≤ k ∧ k < 100000 ∧ Q (.int k) H') E0
theorem call_lenOwn (S : Spc X.prog X.w X.K X.mg X.base n C "__len__" sp) (hr : Room (n + 1) X.A) : CallR X (.builtin "len") (rLenOwn C sp) := by
  obtain ⟨f, fd, ps, hs, hf, F, hb⟩ := S.ex
  intro pins s σ H xs us Q I r h
  obtain ⟨a, dx, fs, rfl, ha, h⟩ := h
  obtain ⟨u, rfl, ru⟩ := r.one
  cases ru
  obtain ⟨od, J⟩ := inst_of I ha
  obtain ⟨m, hF⟩ := I.fr
  refine PySem.W.len_K hF I.ok.mod.kin J hs hf ?_
  refine wpAny_mono (run_at (us := [.ref a]) (vs := [.ref a]) (Sub.in1 ⟨hr, rfl⟩) F hb I (.cons rfl .nil) h) (fun v s' hv => ?_) fun _ _ e => e
  obtain ⟨x, H', I', rx, k, rfl, h0, h1, q⟩ := hv
  obtain ⟨t, rfl⟩ := rx
  refine ⟨⟨h0, by omega⟩, .int k, H', I'.tok _, ⟨_, rfl⟩, q⟩
/-- x in o, x not in o -/
def rInOwn (C : Addr) (sp : Sp) (neg : Bool) : R2 := fun x y H Q => ∃ a dx fs, y = .ref a ∧ H a = some (.ins C dx fs) ∧ sp [.ref a, x] H (fun v H' => ∃ k : Bool, v = .bl k ∧ Q (.bl (if neg then !k else k)) H') E0
theorem op_inOwn (S : Spc X.prog X.w X.K X.mg X.base n C "__contains__" sp) (hr : Room n X.A) : OpR X (compareOp .In) (rInOwn C sp false) := by
  obtain ⟨f, fd, ps, hs, hf, F, hb⟩ := S.ex
  intro pins s σ H x y v u Q I rx ry h
  obtain ⟨a, dx, fs, rfl, ha, h⟩ := h
  cases ry
  obtain ⟨od, J⟩ := inst_of I ha
  obtain ⟨m, hF⟩ := I.fr
  refine PySem.W.in_K hF I.ok.mod.kin J hs hf ?_
  refine wpAny_mono (run_at (us := [.ref a, v]) (vs := [.ref a, x]) ⟨hr, rfl⟩ F hb I (.cons rfl (.cons rx .nil)) h) (fun v s' hv => ?_) fun _ _ e => e
  obtain ⟨z, H', I', rz, k, rfl, q⟩ := hv
  cases rz
  exact wpAny_truthy_bool ⟨.bl k, H', I', rfl, q⟩
theorem op_notInOwn (S : Spc X.prog X.w X.K X.mg X.base n C "__contains__" sp) (hr : Room n X.A) : OpR X (compareOp .NotIn) (rInOwn C sp true) := by
  obtain ⟨f, fd, ps, hs, hf, F, hb⟩ := S.ex
  intro pins s σ H x y v u Q I rx ry h
  obtain ⟨a, dx, fs, rfl, ha, h⟩ := h
  cases ry
  obtain ⟨od, J⟩ := inst_of I ha
  obtain ⟨m, hF⟩ := I.fr
  refine PySem.W.notIn_K hF I.ok.mod.kin J hs hf ?_
  refine wpAny_mono (run_at (us := [.ref a, v]) (vs := [.ref a, x]) ⟨hr, rfl⟩ F hb I (.cons rfl (.cons rx .nil)) h) (fun v s' hv => ?_) fun _ _ e => e
  obtain ⟨z, H', I', rz, k, rfl, q⟩ := hv
  cases rz
  exact wpAny_truthy_bool ⟨.bl (!k), H', I', rfl, q⟩
/-- o == p, two instances of one class -/
def rEqOwn (C : Addr) (sp : Sp) : R2 := fun x y H Q => ∃ a dx fs b dy gs, x = .ref a ∧ H a = some (.ins C dx fs) ∧ y = .ref b ∧ H b = some (.ins C dy gs) ∧ sp [.ref a, .ref b] H (fun v H' => ∃ k : Bool, v = .bl k ∧ Q (.bl k) H') E0
theorem op_eqOwn (S : Spc X.prog X.w X.K X.mg X.base n C "__eq__" sp) (hr : Room n X.A) : OpR X (compareOp .Eq) (rEqOwn C sp) := by
  obtain ⟨f, fd, ps, hs, hf, F, hb⟩ := S.ex
  intro pins s σ H x y v u Q I rx ry h
  obtain ⟨a, dx, fs, b, dy, gs, rfl, ha, rfl, hb', h⟩ := h
  cases rx
  cases ry
  obtain ⟨od, J⟩ := inst_of I ha
  obtain ⟨od', J'⟩ := inst_of I hb'
  obtain ⟨m, hF⟩ := I.fr
  show wpAny (model X.prog X.w) X.A (richCompare .Eq (.ref a) (.ref b)) (EP X pins σ Q) X.xe s
  refine PySem.W.cmp_K (op := .Eq) (tb := .ref C) hr.units0 hF I.ok.mod.kin J J'.type (by simp [PySem.W.notFirst]) hs hf ?_
  refine wpAny_mono (run_at (us := [.ref a, .ref b]) (vs := [.ref a, .ref b]) ⟨hr, rfl⟩ F hb I (.cons rfl (.cons rfl .nil)) h) (fun v s' hv => ?_) fun _ _ e => e
  obtain ⟨z, H', I', rz, k, rfl, q⟩ := hv
  cases rz
  exact ⟨.bl k, H', I', rfl, q⟩
end
end RM
namespace RM
open PySem PySem.Spec PyProof.Rows L2
/-! ### list(o), o of an own class whose __iter__ hands out a list's iterator and that has a __len__ -/
/-- at it an iterator over the list at l, the next place is i (its object left open) -/
def ItS (l it : Addr) (i : Nat) : HO := .ext fun h => h.IsListIter it l i
section
variable {X : Cx} {pins : List (Addr × Obj)} {σ : L2.St} {H : Hp} {s : Shared} {n : Nat} {A : Around} {f C l it q : Addr} {fd : FuncData} {ps : List Str} {sp : Sp} {i : Nat}
theorem itS_ok {P : Program} {w : World} {h : Heap} (e : h.IsListIter it l i) : ObjOk P w H h it (ItS l it i) := by
  obtain ⟨o, ho, hr⟩ := id e
  refine ⟨e, ⟨o, ho⟩, fun h1 h2 x k => ?_⟩
  obtain ⟨o1, ho1, hr1⟩ := x
  exact ⟨o1, k _ ho1, hr1⟩
theorem itS_get (I : Inv X pins σ H s) (e : H it = some (ItS l it i)) : s.heap.IsListIter it l i := (I.hok it _ e).1
theorem endit {Q : Option Value → Shared → Prop} {items : Array Value} {E : Value → Shared → Prop} {prog : Program} {w : World} (hh : A.handled = none) (hit : s.heap.IsListIter it l i) (hl : s.heap.IsList l items) (hx : items[i]? = none)
    (hQ : ∀ h', (∃ o, h'.get? it = some o) → (∀ b o, b ≠ it → s.heap.get? b = some o → h'.get? b = some o) → Q none { s with heap := h' }) : wpAny (model prog w) A (pyNext (.ref it)) Q E s := by
  obtain ⟨o, ho, hc, hd⟩ := id hit
  obtain ⟨ol, hol, _, nl, hdl⟩ := hl
  unfold pyNext
  refine wpAny_bind (wpAny_attempt (wpAny_callSpecial?_slot (name := Str.ofString "__next__") hit.typeIs slot_listiter_next
    (wpAny_call_entry slot_listiter_next hit.typeIs entry_listiter_next ?_ (args_listiter_next _))))
  show wpAny _ _ (field (.ref it) 0 >>= _) _ _ s
  refine wpAny_bind (wpAny_field ho hd (x := .ref l) rfl ?_)
  show wpAny _ _ (if (Value.ref l == Value.none) = true then _ else _) _ _ s
  rw [if_neg (show ¬ ((Value.ref l == Value.none) = true) from Bool.false_ne_true)]
  show wpAny _ _ (field (.ref it) 1 >>= _) _ _ s
  refine wpAny_bind (wpAny_field ho hd (x := .int i 0) rfl ?_)
  show wpAny _ _ (seqItems? (.ref l) >>= _) _ _ s
  refine wpAny_bind (wpAny_seqItems hol hdl ?_)
  simp only [Int.toNat_natCast, hx]
  refine wpAny_bind (wpAny_rule (wpAny_bind (wpAny_setField ho hd (by simp) ?_)))
  show wpAny _ _ (newExc (.type "StopIteration") [] >>= _) _ _ _
  refine wpAny_bind ?_
  simp only [newExc, newTuple]
  refine wpAny_bind (wpAny_newObj_type ?_ (by size_fits))
  refine wpAny_bind (m := firstArgMember _ _) (wpAny_of_eq (a := Value.none) (by first | rfl | (simp only [firstArgMember]; rfl)) ?_)
  refine wpAny_newObj_type ?_ (by size_fits)
  simp only [raiseNew]
  refine wpAny_bind (wpAny_handled ?_)
  rw [show A.in1.handled = none from hh]
  refine wpAny_bind (wpAny_pure (wpAny_throw ?_))
  refine wpAny_bind (wpAny_isInstance (T := "StopIteration") (b := true) ⟨_, Heap.get?_push_size _ rfl, rfl⟩ isSubtype_stop ?_)
  have nf : (Obj.mapFields (fun x => x.setIfInBounds 0 Value.none) o).isFreed = false := by
    obtain ⟨oc, od, dt, sl⟩ := o
    simp only at hc hd
    subst hc hd
    rfl
  refine wpAny_pure (hQ _ ⟨_, Heap.get?_push_of_some _ (Heap.get?_push_of_some _ (Heap.get?_update_self _ ho nf))⟩ fun b o hb e => Heap.get?_push_of_some _ (Heap.get?_push_of_some _ ?_))
  exact (Heap.get?_update_other _ _ (Ne.symm hb)).trans e
/-- the loop that fills the list at q from the iterator at it -/
theorem it_loop {zs : List V} {Rs : Result → Shared → Prop} (hh : A.in1.handled = none) (hz : zs.length < 100000) (hlq : l ≠ q) (hli : l ≠ it) (hiq : it ≠ q)
    (hdone : ∀ H' s', Inv X pins σ H' s' → (∀ b o, b ≠ it → b ≠ q → H b = some o → H' b = some o) → H' q = some (.lst zs) → Rs (.ok (.ret .none)) s') :
    ∀ (m i : Nat) (H' : Hp) (s : Shared), zs.length - i = m → i ≤ zs.length → Inv X pins σ H' s → (∀ b o, b ≠ it → b ≠ q → H b = some o → H' b = some o) → SqL X.K H' l zs → H' it = some (ItS l it i) → H' q = some (.lst (zs.take i)) →
      codeAny (model X.prog X.w) A (.builtin "list.extend.loop" ⟨[.ref q, .ref it, .none], []⟩) Rs s := by
  intro m
  induction m with
  | zero =>
    intro i H' s hm hi I hk hl hI hq
    have ei : i = zs.length := by omega
    refine codeAny_builtin PySem.F.entry_extend_loop ?_
    rw [Around.under_plainId PySem.F.plain_extend_loop _]
    show wpAny _ A.in1 (pyNext (.ref it) >>= _) _ _ s
    obtain ⟨its, rv, pl, _⟩ := I.list hl
    refine wpAny_bind (endit hh (itS_get I hI) pl.isList (by rw [List.getElem?_toArray]; exact List.getElem?_eq_none (by rw [← rv.length]; omega)) fun h' he hk' => ?_)
    refine wpAny_pure ?_
    obtain ⟨oe, heo⟩ := he
    have mu : Mut (H' it) := by rw [hI]; exact True.intro
    have ok2 : ObjOk X.prog X.w (upd H' it (.ext fun h => ∃ o, h.get? it = some o)) h' it (.ext fun h => ∃ o, h.get? it = some o) := ⟨⟨oe, heo⟩, ⟨oe, heo⟩, fun h1 h2 ⟨o, x⟩ k => ⟨o, k _ x⟩⟩
    have I2 := I.write (x := it) (e := it) (t' := s.toks) mu (.inl rfl) (fun b u hb e => hk' b u hb e) ⟨oe, heo⟩ ok2
    refine hdone _ _ I2 (fun b o h1 h2 e => by rw [upd_ne h1]; exact hk b o h1 h2 e) ?_
    rw [upd_ne (Ne.symm hiq), hq, ei, List.take_length]
  | succ m ih =>
    intro i H' s hm hi I hk hl hI hq
    have hlt : i < zs.length := by omega
    refine codeAny_builtin PySem.F.entry_extend_loop ?_
    rw [Around.under_plainId PySem.F.plain_extend_loop _]
    show wpAny _ A.in1 (pyNext (.ref it) >>= _) _ _ s
    obtain ⟨its, rv, pl, _⟩ := I.list hl
    obtain ⟨u, hu, ru⟩ := rv.get (List.getElem?_eq_getElem hlt)
    refine wpAny_bind (wpAny_pyNext_list_item (itS_get I hI) pl.isList (x := u) (by rw [List.getElem?_toArray]; exact hu) fun h' st sb => ?_)
    have mu : Mut (H' it) := by rw [hI]; exact True.intro
    obtain ⟨oe, heo, hoe⟩ := id st
    have I2 := I.write (x := it) (e := it) (t' := s.toks) mu (.inl rfl) (fun b o hb e => (sb.2 b hb).trans e) ⟨oe, heo⟩ (itS_ok (H := upd H' it (ItS l it (i + 1))) (P := X.prog) (w := X.w) st)
    have hq2 : upd H' it (ItS l it (i + 1)) q = some (.lst (zs.take i)) := by rw [upd_ne (Ne.symm hiq)]; exact hq
    show wpAny _ A.in1 (updateSeq q (·.push u) >>= _) _ _ _
    obtain ⟨z, its2, k2, r2, hl2, e2⟩ := I2.lstM hq2
    have hz2 : its2.length = i := by rw [← hl2, List.length_take]; omega
    refine wpAny_bind (wpAny_updateSeq e2 rfl (wpAny_pure ⟨plainId_quiet PySem.F.plain_extend_loop _, ?_⟩) (by rw [List.size_toArray, hz2]; exact Nat.le_trans (Nat.le_of_lt hlt) (szl (by omega))) (by show (its2.toArray.push u).size ≤ sizeLine + 1; rw [Array.size_push, List.size_toArray, hz2]; exact Nat.succ_le_succ (szl (by omega))))
    have I3 := I2.lset (f := (·.push u)) (its' := its2 ++ [u]) (ys := zs.take i ++ [zs[i]]) (t' := s.toks) hq2 e2 (by simp) (r2.append (.cons ru .nil)) (by rw [List.length_append, List.length_take]; exact szl (by show _ + 1 ≤ _; omega))
    refine ih (i + 1) _ _ (by omega) hlt I3 (fun b o h1 h2 e => by rw [upd_ne h2, upd_ne h1]; exact hk b o h1 h2 e) ?_ ?_ ?_
    · have e1 : upd (upd H' it (ItS l it (i + 1))) q (.lst (zs.take i ++ [zs[i]])) l = H' l := by rw [upd_ne hlq, upd_ne hli]
      unfold SqL Rd at hl ⊢
      simp only [e1]
      exact hl
    · rw [upd_ne hiq]; exact upd_same
    · rw [List.take_append_getElem]; exact upd_same
/-- list(o) -/
def rListOwn (K : PySem.W.Frag) (C : Addr) (spI spL : Sp) : List V → Hp → VK → Prop := fun xs H Q => ∃ a dx fs, xs = [.ref a] ∧ H a = some (.ins C dx fs) ∧ ∀ q, H q = none →
  spI [.ref a] (upd H q (.lst [])) (fun v H1 => ∃ it l zs, v = .ref it ∧ H1 it = some (ItO l it 0) ∧ SqL K H1 l zs ∧ zs.length < 100000 ∧ l ≠ q ∧ l ≠ it ∧ it ≠ q ∧ H1 q = some (.lst []) ∧ H1 a = some (.ins C dx fs) ∧
    spL [.ref a] H1 (fun v2 H2 => ∃ k : Int, v2 = .int k ∧ 0 ≤ k ∧ k < 100000 ∧ H2 = H1 ∧ ∀ H3, (∀ b o, b ≠ it → b ≠ q → H1 b = some o → H3 b = some o) → H3 q = some (.lst zs) → Q (.ref q) H3) E0) E0
theorem call_listIt {spI spL : Sp} (SI : Spc X.prog X.w X.K X.mg X.base n C "__iter__" spI) (SL : Spc X.prog X.w X.K X.mg X.base n C "__len__" spL) (hr : Room (n + 3) X.A) : CallR X (.type "list") (rListOwn X.K C spI spL) := by
  obtain ⟨fI, fdI, psI, hsI, hfI, FI, bI⟩ := SI.ex
  obtain ⟨fL, fdL, psL, hsL, hfL, FL, bL⟩ := SL.ex
  intro pins s σ H xs us Q I rv h
  obtain ⟨a, dx, fs, rfl, ha, h⟩ := h
  obtain ⟨u, rfl, ru⟩ := rv.one
  cases ru
  have sb : Sub X (n + 1) X.A.in1.in1 := Sub.in1 (Sub.in1 (⟨hr, rfl⟩ : Sub X (n + 3) X.A))
  refine callType_codes (Q₁ := fun obj s₁ => obj = .ref s.heap.objs.size ∧ s₁ = { s with heap := s.heap.push { cls := .type "list", data := .seq #[] } }) PySem.F.called_list (PySem.F.typeCall_list_1 _) PySem.F.entry_list_init
    (code_list_new _ ⟨rfl, rfl⟩) fun obj s₁ h₁ => ?_
  obtain ⟨rfl, rfl⟩ := h₁
  have hS : (s.heap.push { cls := .type "list", data := .seq #[] }).get? s.heap.objs.size = some { cls := .type "list", data := .seq #[] } := Heap.get?_push_size _ rfl
  refine ⟨⟨_, hS, rfl⟩, PySem.F.args_list_init_2 _ _, ?_⟩
  have fr : H s.heap.objs.size = none := I.hok.fresh (Nat.le_refl _)
  have h := h _ fr
  generalize hqe : s.heap.objs.size = q at *
  have I1 : Inv X pins σ (upd H q (.lst [])) { s with heap := s.heap.push { cls := .type "list", data := .seq #[] } } := by
    have z := I.lnew (its := []) (ys := []) (t' := s.toks) .nil (Nat.zero_le _)
    rw [hqe] at z
    exact z
  show wpAny _ _ (do let old ← Builtin.List.listItems (.ref q); Builtin.List.listUpdate (.ref q) (fun _ => #[]); letGo old.toList.reverse; Builtin.List.listExtendWith (.ref q) (.ref a) .none) _ _ _
  refine wpAny_bind ?_
  unfold Builtin.List.listItems
  refine wpAny_bind (wpAny_seqItems hS rfl (wpAny_pure ?_))
  show wpAny _ _ (updateSeq q (fun _ => #[]) >>= fun _ => letGo (#[] : Array Value).toList.reverse >>= fun _ => Builtin.List.listExtendWith (.ref q) (.ref a) .none) _ _ _
  refine wpAny_bind (wpAny_updateSeq hS rfl ?_)
  have I2 := I1.lset (f := fun _ => #[]) (its := []) (its' := []) (ys := []) (t' := s.toks) upd_same hS rfl .nil (Nat.zero_le _)
  rw [upd_upd] at I2
  refine wpAny_bind (wpAny_letGo ?_)
  have ha2 : upd H q (.lst []) a = some (.ins C dx fs) := by rw [upd_ne (ne_of_none ha fr)]; exact ha
  have hne : q ≠ a := ne_of (H := upd H q (.lst [])) upd_same ha2 (fun z => nomatch z)
  obtain ⟨od, J⟩ := inst_of I2 ha2
  obtain ⟨m0, hF⟩ := I2.fr
  show wpAny _ X.A.in1.in1 (Builtin.List.listExtendWith (.ref q) (.ref a) .none) _ _ _
  unfold Builtin.List.listExtendWith
  refine wpAny_bind (J.type.here ?_)
  have h1 : Builtin.List.listSameRef (.ref q) (.ref a) = false := by simp [Builtin.List.listSameRef, hne]
  have h2 : (Value.ref C == Value.type "list") = false := rfl
  have h3 : (Value.ref C == Value.type "tuple") = false := rfl
  simp only [h1, h2, h3, Bool.or_false, Bool.false_eq_true, if_false]
  refine wpAny_bind (PySem.W.owit_iter hF I2.ok.mod.kin J hsI hfI ?_)
  refine wpAny_mono (run_at (us := [.ref a]) (vs := [.ref a]) (sb.mono (Nat.le_succ _)) FI bI I2 (.cons rfl .nil) h) (fun u s' hu => ?_) (fun _ _ e => e)
  obtain ⟨v, H1, I3, rv3, it, l, zs, rfl, hit, hlz, hz, n1, n2, n3, hq1, ha3, hL⟩ := hu
  cases rv3
  have ito := itO_get I3 hit
  have hT : s'.TypeIs (.ref it) "list_iterator" := ⟨_, ito, rfl⟩
  unfold PySem.W.OwitIt
  show wpAny _ _ (typeOf (.ref it) >>= fun t => typeLookup t "__next__") _ _ _
  refine wpAny_bind (wpAny_typeOf hT (wpAny_of_eq slot_listiter_next.lookup ?_))
  show wpAny _ _ _ _ _ _
  obtain ⟨od', J'⟩ := inst_of I3 ha3
  obtain ⟨m1, hF'⟩ := I3.fr
  refine wpAny_bind (wpAny_holding ?_)
  unfold Builtin.List.listLengthHint
  refine wpAny_bind (wpAny_bind (J'.type.here ((PySem.W.looks_findIn I3.kIn hsL).here ?_)))
  refine PySem.W.KFB.if_not rfl ?_
  refine PySem.W.KFB.if_so rfl ?_
  refine wpAny_bind (wpAny_rule (wpAny_bind (wpAny_attempt ?_)))
  refine PySem.W.len_K hF' I3.ok.mod.kin J' hsL hfL ?_
  refine wpAny_mono (run_at (E' := fun _ _ => False) (us := [.ref a]) (vs := [.ref a]) sb.in1 FL bL I3 (.cons rfl .nil) hL) (fun u s2 hu => ?_) fun _ _ e => e.elim
  obtain ⟨v2, H2, I4, rv4, k, rfl, k0, k1, e2, hend⟩ := hu
  obtain ⟨tk, rfl⟩ := rv4
  subst e2
  refine ⟨⟨k0, by omega⟩, ?_⟩
  have I5 := I4.tok (s2.toks + 1)
  refine wpAny_bind (wpAny_of_eq (a := some k) rfl ?_)
  refine PySem.W.KFB.if_not (notLongL (szl (by omega))) ?_
  refine wpAny_pure ?_
  have st := itS_ok (H := upd H2 it (ItS l it 0)) (P := X.prog) (w := X.w) (i := 0) (⟨_, itO_get I5 hit, rfl, rfl⟩ : Heap.IsListIter _ it l 0)
  have mu : Mut (H2 it) := by rw [hit]; exact True.intro
  have I6 := I5.write (x := it) (e := it) (t' := s2.toks + 1) mu (.inl rfl) (fun _ _ _ e => e) ⟨_, itO_get I5 hit⟩ st
  have fin : ∀ (t' : Nat) (s3 : Shared), Inv X pins σ (upd H2 it (ItS l it 0)) s3 → codeAny (model X.prog X.w) X.A.in1 (.builtin "list.extend.loop" ⟨[.ref q, .ref it, .none], []⟩) (wants (fun r s₂ => r = .none ∧ EP X pins σ Q (.ref q) s₂) X.xe) s3 := fun t' s3 I7 => by
    have kk : ∀ b o, b ≠ it → b ≠ q → H2 b = some o → upd H2 it (ItS l it 0) b = some o := fun b o h1 _ e => by rw [upd_ne h1]; exact e
    refine it_loop (A := X.A.in1) (H := H2) (zs := zs) (hr.hd) hz n1 n2 n3 (fun H3 s4 I8 hk3 hq3 => ⟨rfl, .ref q, H3, I8, rfl, hend H3 hk3 hq3⟩) zs.length 0 _ s3 rfl (Nat.zero_le _) I7 kk ?_ upd_same ?_
    · have e1 : upd H2 it (ItS l it 0) l = H2 l := upd_ne n2
      unfold SqL Rd at hlz ⊢
      simp only [e1]
      exact hlz
    · rw [upd_ne (Ne.symm n3)]; exact hq1
  refine wpAny_ite_split (fun _ => ?_) (fun _ => wpAny_pure ⟨plainId_quiet PySem.F.plain_extend_loop _, fin 0 _ I6⟩)
  have hq6 : upd H2 it (ItS l it 0) q = some (.lst []) := by rw [upd_ne (Ne.symm n3)]; exact hq1
  obtain ⟨z, its, k3, r3, hl3, e3⟩ := I6.lstM hq6
  cases r3
  refine wpAny_bind (wpAny_rule ?_)
  refine wpAny_bind ?_
  show wpAny _ _ (updateSeq q (·.push .none) >>= fun _ => updateSeq q (·.pop)) _ _ _
  refine wpAny_bind (wpAny_updateSeq e3 rfl ?_)
  have I7 := I6.lset (f := (·.push Value.none)) (its' := [Value.none]) (ys := [.non]) (t' := s2.toks + 1) hq6 e3 (by simp) (.cons rfl .nil) (by rw [List.length_singleton, sizeLine_eq]; decide)
  obtain ⟨z4, its4, k4, r4, hl4, e4⟩ := I7.lstM upd_same
  obtain ⟨u4, rfl, ru4⟩ := r4.one
  refine wpAny_updateSeq e4 rfl ?_ (by show 1 ≤ sizeLine; rw [sizeLine_eq]; decide) (by show 0 ≤ sizeLine + 1; exact Nat.zero_le _)
  refine wpAny_pure ⟨plainId_quiet PySem.F.plain_extend_loop _, fin 0 _ ?_⟩
  have I8 := I7.lset (f := (·.pop)) (its := [u4]) (its' := []) (ys := []) (t' := s2.toks + 1) upd_same e4 (by rfl) .nil (Nat.zero_le _)
  rw [upd_upd] at I8
  have hH : upd (upd H2 it (ItS l it 0)) q (.lst []) = upd H2 it (ItS l it 0) := by
    funext b
    by_cases hb : b = q
    · rw [hb, upd_same, hq6]
    · rw [upd_ne hb]
  rw [hH] at I8
  exact I8
end
end RM
namespace RM
open PySem PySem.Spec PyProof.Rows L2
/-! ### attributes, properties, class values: readings that ask nothing of the written part -/
section
variable {X : Cx} {C : Addr} {o e value : Expr} {f : Str} {pos pos' : Pos} {ta tv : TE}
theorem pe_imp {t t' : TE} (h : PE X e t) (k : ∀ σ H Q, t' σ H Q → t σ H Q) : PE X e t' := ⟨fun pins s σ H Q I q => h.run pins s σ H Q I (k σ H Q q)⟩
def tFldC (C : Addr) (ta : TE) (f : Str) : TE := fun σ H Q => ta σ H fun x H1 => ∃ a dx fs v, x = .ref a ∧ H1 a = some (.ins C dx fs) ∧ fs.lookup f = some v ∧ Q v H1
def sFldC (C : Addr) (ta tv : TE) (f : Str) : TS := fun D σ H => tv σ H fun y H1 => ta σ H1 fun x H2 => ∃ a dx fs, x = .ref a ∧ H2 a = some (.ins C dx fs) ∧ fs.length < 1000 ∧ D.nx σ (upd H2 a (.ins C dx (putF f y fs)))
theorem pe_fldC (c : Cls X.K C) (n : NoAttr X.K C f) (he : PE X e ta) (hb : attributeBase e f X.env (eval e X.env) = eval e X.env := by rfl) : PE X (.Attribute e f pos) (tFldC C ta f) := by
  refine ⟨fun pins s σ H Q I h => ?_⟩
  refine attr_of hb (thn (he.run pins s σ H _ I h) fun u s1 hu => ?_)
  obtain ⟨x, H1, I1, rx, a, dx, fs, v, ex, ea, l, q⟩ := hu
  subst ex
  obtain rfl : u = Value.ref a := rx
  exact getattr_ok I1 ea c n l fun u' s2 I2 ru => ⟨v, H1, I2, ru, q⟩
theorem ps_fldC (c : Cls X.K C) (n : NoAttr X.K C f) (ha : PE X o ta) (hv : PE X value tv) (hs : swapsWith value (some (.Attribute o f pos')) pos.line X.env = pure false := by rfl) : PS X (.Assign [.Attribute o f pos'] value pos) (sFldC C ta tv f) := by
  refine ⟨fun pins s σ H D I h => ?_⟩
  refine plainObj_wpAny_Assign_Attribute (thn (hv.run pins s σ H _ I h) fun u s1 hu => ?_) hs
  obtain ⟨y, H1, I1, ry, q⟩ := hu
  refine thn (ha.run pins s1 σ H1 _ I1 q) fun ov s2 ho => ?_
  obtain ⟨x, H2, I2, rx, a, dx, fs, ex, ea, l, q2⟩ := ho
  subst ex
  obtain rfl : ov = Value.ref a := rx
  exact setattr_ok I2 ea c n l ry fun s3 I3 => ⟨σ, _, I3, q2⟩
/-- a class's name as a value; an int that stands in the class -/
theorem pe_clsv {x : Str} (hg : Gl X x) (hm : X.mg x = some (.ref C)) (hd : (x == ("__debug__" : Str)) = false := by decide) : PE X (.Name x pos) (tC (.ref C)) := pe_glob hg hm rfl hd
theorem pe_cint {x : Str} {i : Int} {p : Pos} (hg : Gl X x) (hm : X.mg x = some (.ref C)) (r : ClX.CRead X.K C (.type "type")) (k : ∃ u, ClX.CVal X.K C (.type "type") f (.int i) u) (hd : (x == ("__debug__" : Str)) = false := by decide)
    (hb : attributeBase (.Name x p) f X.env (eval (.Name x p) X.env) = eval (.Name x p) X.env := by rfl) : PE X (.Attribute (.Name x p) f pos) (tC (.int i)) :=
  pe_imp (ClX.pe_cval (pe_clsv hg hm hd) hb) fun σ H Q q => by
    obtain ⟨u, k⟩ := k
    exact ⟨C, .type "type", .int i, u, rfl, r, k, q⟩
/-- a property of the class, read -/
structure Prp (P : Program) (w : World) (K : PySem.W.Frag) (mg : Str → Option Value) (base : Heap) (k : Nat) (C : Addr) (f : Str) (sp : Sp) : Prop where
  ex : ∃ (p g : Addr) (fd : FuncData) (ps : List Str), PropOf K C f p g ∧ FnOk P w K mg base CX0 k g fd ps sp ∧ Binds K fd ps []
theorem pe_prp {k j : Nat} {sp : Sp} (c : Cls X.K C) (p : Prp X.prog X.w X.K X.mg X.base k C f sp) (hr : Room j X.A) (hk : k + 1 ≤ j) (he : PE X e ta) (hab : attributeBase e f X.env (eval e X.env) = eval e X.env := by rfl) :
    PE X (.Attribute e f pos) (tProp C sp [] E0 ta) := by
  obtain ⟨pa, g, fd, ps, hp, F, hb⟩ := p.ex
  exact pe_prop he c hp F (hr.mono hk) hb .nil (fun _ _ _ _ _ _ _ h => h.elim) hab
end
/-! ### isinstance against built-in types and one own class -/
section
variable {X : Cx} {K : PySem.W.Frag} {H : Hp} {Q : VK}
def rIsC (C : Addr) : List V → Hp → VK → Prop := fun xs H Q => ∃ a dx fs, xs = [.ref a, .ref C] ∧ H a = some (.ins C dx fs) ∧ Q (.bl true) H
theorem callIsC {C : Addr} (c : C8.InsC X.K C) : CallR X (.builtin "isinstance") (rIsC C) := C8.call_isC c
theorem isi_of {x : V} {a b : String} {r : Bool} (ty : TyOf K H x (.type a)) (h : kitB a b = some r) (q : Q (.bl r) H) : rIsi K [x, .ty b] H Q := wp_isi (.base ty) (kit_ty h) q
theorem is_non_int (q : Q (.bl false) H) : rIsi K [.non, .ty "int"] H Q := isi_of (.non) (by decide +kernel) q
theorem is_non_bool (q : Q (.bl false) H) : rIsi K [.non, .ty "bool"] H Q := isi_of (.non) (by decide +kernel) q
theorem is_non_str (q : Q (.bl false) H) : rIsi K [.non, .ty "str"] H Q := isi_of (.non) (by decide +kernel) q
theorem is_non_dict (q : Q (.bl false) H) : rIsi K [.non, .ty "dict"] H Q := isi_of (.non) (by decide +kernel) q
theorem is_non_list (q : Q (.bl false) H) : rIsi K [.non, .ty "list"] H Q := isi_of (.non) (by decide +kernel) q
theorem is_non_tuple (q : Q (.bl false) H) : rIsi K [.non, .ty "tuple"] H Q := isi_of (.non) (by decide +kernel) q
theorem is_bl_int {b : Bool} (q : Q (.bl true) H) : rIsi K [.bl b, .ty "int"] H Q := isi_of (.bl b) (by decide +kernel) q
theorem is_bl_bool {b : Bool} (q : Q (.bl true) H) : rIsi K [.bl b, .ty "bool"] H Q := isi_of (.bl b) (by decide +kernel) q
theorem is_bl_str {b : Bool} (q : Q (.bl false) H) : rIsi K [.bl b, .ty "str"] H Q := isi_of (.bl b) (by decide +kernel) q
theorem is_bl_dict {b : Bool} (q : Q (.bl false) H) : rIsi K [.bl b, .ty "dict"] H Q := isi_of (.bl b) (by decide +kernel) q
theorem is_bl_list {b : Bool} (q : Q (.bl false) H) : rIsi K [.bl b, .ty "list"] H Q := isi_of (.bl b) (by decide +kernel) q
theorem is_bl_tuple {b : Bool} (q : Q (.bl false) H) : rIsi K [.bl b, .ty "tuple"] H Q := isi_of (.bl b) (by decide +kernel) q
theorem is_int_int {i : Int} (q : Q (.bl true) H) : rIsi K [.int i, .ty "int"] H Q := isi_of (.int i) (by decide +kernel) q
theorem is_int_bool {i : Int} (q : Q (.bl false) H) : rIsi K [.int i, .ty "bool"] H Q := isi_of (.int i) (by decide +kernel) q
theorem is_int_str {i : Int} (q : Q (.bl false) H) : rIsi K [.int i, .ty "str"] H Q := isi_of (.int i) (by decide +kernel) q
theorem is_int_dict {i : Int} (q : Q (.bl false) H) : rIsi K [.int i, .ty "dict"] H Q := isi_of (.int i) (by decide +kernel) q
theorem is_int_list {i : Int} (q : Q (.bl false) H) : rIsi K [.int i, .ty "list"] H Q := isi_of (.int i) (by decide +kernel) q
theorem is_int_tuple {i : Int} (q : Q (.bl false) H) : rIsi K [.int i, .ty "tuple"] H Q := isi_of (.int i) (by decide +kernel) q
theorem is_str_int {z : Str} (q : Q (.bl false) H) : rIsi K [.str z, .ty "int"] H Q := isi_of (.str z) (by decide +kernel) q
theorem is_str_bool {z : Str} (q : Q (.bl false) H) : rIsi K [.str z, .ty "bool"] H Q := isi_of (.str z) (by decide +kernel) q
theorem is_str_str {z : Str} (q : Q (.bl true) H) : rIsi K [.str z, .ty "str"] H Q := isi_of (.str z) (by decide +kernel) q
theorem is_str_dict {z : Str} (q : Q (.bl false) H) : rIsi K [.str z, .ty "dict"] H Q := isi_of (.str z) (by decide +kernel) q
theorem is_str_list {z : Str} (q : Q (.bl false) H) : rIsi K [.str z, .ty "list"] H Q := isi_of (.str z) (by decide +kernel) q
theorem is_str_tuple {z : Str} (q : Q (.bl false) H) : rIsi K [.str z, .ty "tuple"] H Q := isi_of (.str z) (by decide +kernel) q
theorem is_lst_int {a : Addr} {xs : List V} (e : H a = some (.lst xs)) (q : Q (.bl false) H) : rIsi K [.ref a, .ty "int"] H Q := isi_of (.lst e) (by decide +kernel) q
theorem is_lst_bool {a : Addr} {xs : List V} (e : H a = some (.lst xs)) (q : Q (.bl false) H) : rIsi K [.ref a, .ty "bool"] H Q := isi_of (.lst e) (by decide +kernel) q
theorem is_lst_str {a : Addr} {xs : List V} (e : H a = some (.lst xs)) (q : Q (.bl false) H) : rIsi K [.ref a, .ty "str"] H Q := isi_of (.lst e) (by decide +kernel) q
theorem is_lst_dict {a : Addr} {xs : List V} (e : H a = some (.lst xs)) (q : Q (.bl false) H) : rIsi K [.ref a, .ty "dict"] H Q := isi_of (.lst e) (by decide +kernel) q
theorem is_lst_list {a : Addr} {xs : List V} (e : H a = some (.lst xs)) (q : Q (.bl true) H) : rIsi K [.ref a, .ty "list"] H Q := isi_of (.lst e) (by decide +kernel) q
theorem is_lst_tuple {a : Addr} {xs : List V} (e : H a = some (.lst xs)) (q : Q (.bl false) H) : rIsi K [.ref a, .ty "tuple"] H Q := isi_of (.lst e) (by decide +kernel) q
theorem is_tup_int {a : Addr} {xs : List V} (e : H a = some (.tup xs)) (q : Q (.bl false) H) : rIsi K [.ref a, .ty "int"] H Q := isi_of (.tup e) (by decide +kernel) q
theorem is_tup_bool {a : Addr} {xs : List V} (e : H a = some (.tup xs)) (q : Q (.bl false) H) : rIsi K [.ref a, .ty "bool"] H Q := isi_of (.tup e) (by decide +kernel) q
theorem is_tup_str {a : Addr} {xs : List V} (e : H a = some (.tup xs)) (q : Q (.bl false) H) : rIsi K [.ref a, .ty "str"] H Q := isi_of (.tup e) (by decide +kernel) q
theorem is_tup_dict {a : Addr} {xs : List V} (e : H a = some (.tup xs)) (q : Q (.bl false) H) : rIsi K [.ref a, .ty "dict"] H Q := isi_of (.tup e) (by decide +kernel) q
theorem is_tup_list {a : Addr} {xs : List V} (e : H a = some (.tup xs)) (q : Q (.bl false) H) : rIsi K [.ref a, .ty "list"] H Q := isi_of (.tup e) (by decide +kernel) q
theorem is_tup_tuple {a : Addr} {xs : List V} (e : H a = some (.tup xs)) (q : Q (.bl true) H) : rIsi K [.ref a, .ty "tuple"] H Q := isi_of (.tup e) (by decide +kernel) q
theorem is_dK_int {a : Addr} {kvs : List (Key × V)} (e : H a = some (.dK kvs)) (q : Q (.bl false) H) : rIsi K [.ref a, .ty "int"] H Q := isi_of (.dK e) (by decide +kernel) q
theorem is_dK_bool {a : Addr} {kvs : List (Key × V)} (e : H a = some (.dK kvs)) (q : Q (.bl false) H) : rIsi K [.ref a, .ty "bool"] H Q := isi_of (.dK e) (by decide +kernel) q
theorem is_dK_str {a : Addr} {kvs : List (Key × V)} (e : H a = some (.dK kvs)) (q : Q (.bl false) H) : rIsi K [.ref a, .ty "str"] H Q := isi_of (.dK e) (by decide +kernel) q
theorem is_dK_dict {a : Addr} {kvs : List (Key × V)} (e : H a = some (.dK kvs)) (q : Q (.bl true) H) : rIsi K [.ref a, .ty "dict"] H Q := isi_of (.dK e) (by decide +kernel) q
theorem is_dK_list {a : Addr} {kvs : List (Key × V)} (e : H a = some (.dK kvs)) (q : Q (.bl false) H) : rIsi K [.ref a, .ty "list"] H Q := isi_of (.dK e) (by decide +kernel) q
theorem is_dK_tuple {a : Addr} {kvs : List (Key × V)} (e : H a = some (.dK kvs)) (q : Q (.bl false) H) : rIsi K [.ref a, .ty "tuple"] H Q := isi_of (.dK e) (by decide +kernel) q
end
/-! ### what the head tells, by Bools -/
section
open PySem.W
def gAd (K : Frag) (C : Addr) (f : Str) : Addr := match recIn K (He.ma K C f) "property" with
  | some (.ref g :: _) => g
  | _ => 0
def bProp (x f : Str) (K : Frag) : Bool :=
  He.eqO (findIn K (.ref (He.ga K x)) f) (some (some (.ref (He.ma K (He.ga K x) f)))) && (He.eqO (specialIn K (.ref (He.ma K (He.ga K x) f)) "__get__") (some (some (.builtin "property.__get__"))) &&
    (decide (takesIn K (.ref (He.ma K (He.ga K x) f)) = some true) && (match recIn K (He.ma K (He.ga K x) f) "property" with
      | some (.ref _ :: _) => true
      | _ => false)))
theorem bProp_ok {x f : Str} {K : Frag} (h : bProp x f K = true) : PropOf K (He.ga K x) f (He.ma K (He.ga K x) f) (gAd K (He.ga K x) f) := by
  obtain ⟨h1, h⟩ := He.ba h
  obtain ⟨h2, h⟩ := He.ba h
  obtain ⟨h3, h4⟩ := He.ba h
  refine ⟨He.eqO_ok h1, He.eqO_ok h2, of_decide_eq_true h3, ?_⟩
  unfold gAd
  cases e : recIn K (He.ma K (He.ga K x) f) "property" with
  | none => rw [e] at h4; cases h4
  | some l =>
    rw [e] at h4
    cases l with
    | nil => cases h4
    | cons v r =>
      cases v with
      | ref g => exact ⟨r, rfl⟩
      | _ => cases h4
def bRead (x : Str) (K : Frag) : Bool := readsIn K (He.ga K x) (.type "type") && He.eqO (specialIn K (.ref (He.ga K x)) "__getattribute__") (some (some (.builtin "type.__getattribute__")))
theorem bRead_ok {x : Str} {K : Frag} (h : bRead x K = true) : ClX.CRead K (He.ga K x) (.type "type") := by
  obtain ⟨h1, h2⟩ := He.ba h
  exact ⟨h1, He.eqO_ok h2⟩
def bCval (x f : Str) (i : Int) (K : Frag) : Bool := match findCls K (.ref (He.ga K x)) (.type "type") f with
  | some (.val (.int j _)) => decide (j = i)
  | _ => false
theorem bCval_ok {x f : Str} {i : Int} {K : Frag} (h : bCval x f i K = true) : ∃ u, ClX.CVal K (He.ga K x) (.type "type") f (.int i) u := by
  unfold bCval at h
  cases e : findCls K (.ref (He.ga K x)) (.type "type") f with
  | none => rw [e] at h; cases h
  | some c =>
    rw [e] at h
    cases c with
    | val u =>
      cases u with
      | int j t =>
        have ej : j = i := of_decide_eq_true h
        subst ej
        exact ⟨_, e, ⟨t, rfl⟩⟩
      | _ => cases h
    | _ => cases h
def bIns (x : Str) (K : Frag) : Bool := He.eqO (findIn K (.ref (He.ga K x)) "__class__") (some (some (.builtin "object.__class__"))) && (He.eqO (specialIn K (.builtin "object.__class__") "__get__") (some (some (.builtin "getset_descriptor.__get__"))) &&
  (decide (takesIn K (.builtin "object.__class__") = some true) && decide (mroIn K (He.ga K x) (.type "object") = some true)))
theorem bIns_ok {x : Str} {K : Frag} (c : Cls K (He.ga K x)) (h : bIns x K = true) : C8.InsC K (He.ga K x) := by
  obtain ⟨h1, h⟩ := He.ba h
  obtain ⟨h2, h⟩ := He.ba h
  obtain ⟨h3, h4⟩ := He.ba h
  exact ⟨c, He.eqO_ok h1, He.eqO_ok h2, of_decide_eq_true h3, of_decide_eq_true h4, by unfold kitOne; rw [if_pos (by simp)]⟩
/-- a def of the text, by a way to its address -/
structure DX where
  at_ : Frag → Addr
  name : Str
  qual : Str
  params : Arguments
  body : List Stmt
  scope : Scope
  dfl : List He.Dv := []
  kwd : List (Str × He.Dv) := []
def fnX (K : Frag) (a : Addr) : He.FnW := match K.lookup a with
  | some ⟨_, _, .func fd, _⟩ => some (fd.name, fd.qualname, fd.params, fd.body, fd.scope, fd.globals, fd.closure, fd.builtins)
  | _ => none
def DX.val (d : DX) : He.FnW := some (d.name, d.qual, d.params, .stmts d.body, d.scope, mainGlobals, [], builtinsNs)
def DX.ok (K : Frag) (d : DX) : Bool := keepIn K (.ref (d.at_ K)) && (match K.lookup (d.at_ K) with
  | some ⟨_, _, .func fd, _⟩ => codeIn K fd.code d.qual && (He.dflB K fd.defaults (d.dfl.map (He.Dv.v K)) && He.kwdB K fd.kwdefaults (d.kwd.map fun q => (q.1, q.2.v K)))
  | _ => false)
theorem DX.funD {K : Frag} {d : DX} (e : fnX K (d.at_ K) = d.val) (c : d.ok K = true) : ∃ fd, FunD K d.name d.qual d.params d.body d.scope (d.dfl.map (He.Dv.v K)) (d.kwd.map fun q => (q.1, q.2.v K)) (d.at_ K) fd := by
  obtain ⟨kp, c2⟩ := He.ba c
  unfold fnX at e
  split at e
  · rename_i oc od fd osl q
    rw [q] at c2
    obtain ⟨k1, k2⟩ := He.ba c2
    obtain ⟨k3, k4⟩ := He.ba k2
    obtain ⟨n1, n2, n3, n4, n5, n6, n7, n8, n9, n10, n11, n12, n13, n14, n15⟩ := fd
    unfold DX.val at e
    simp only [Option.some.injEq, Prod.mk.injEq] at e
    obtain ⟨h1, h2, h3, h4, h5, h6, h7, h8⟩ := e
    subst h1 h2 h3 h4 h5 h6 h7 h8
    exact ⟨_, ⟨oc, od, n8, n9, n10, n11, n12, n13, n14, osl, rfl, q, k1, He.dflB_ok k3, He.kwdB_ok k4⟩, kp⟩
  · cases e
abbrev AlX : Type := Bool × List He.FnW
def obsX (bs : List (Frag → Bool)) (fa : List He.Fa) (fn : List DX) (K : Frag) : AlX := ((bs.all fun b => b K) && ((fa.all fun f => f.ok K) && fn.all fun d => d.ok K), fn.map fun d => fnX K (d.at_ K))
def valX (fn : List DX) : AlX := (true, fn.map DX.val)
def SaysX (bs : List (Frag → Bool)) (fa : List He.Fa) (fn : List DX) (K : Frag) : Prop := obsX bs fa fn K = valX fn
def obsXG (n : Nat) (bs : List (Frag → Bool)) (fa : List He.Fa) (fn : List DX) (g : Addr → Option Obj) : AlX := obsX bs fa fn (He.frG g (cStatics :: He.asD g n))
def hookX (n : Nat) (bs : List (Frag → Bool)) (fa : List He.Fa) (fn : List DX) : Hook where
  α := AlX
  obs := fun s => obsXG n bs fa fn s.heap.get?
  val := fun _ => valX fn
  says := fun _ h => ∃ K : Frag, K.In h ∧ SaysX bs fa fn K
  of := fun _ _ e => ⟨_, He.frG_in, e⟩
  keeps := fun _ _ _ ⟨K, hK, c⟩ k => ⟨K, Frag.In.keeps hK k, c⟩
theorem obsXG_eq {n : Nat} {bs : List (Frag → Bool)} {fa : List He.Fa} {fn : List DX} {g : Addr → Option Obj} {s : Shared} (h : ∀ a, g a = s.heap.get? a) : obsXG n bs fa fn g = (hookX n bs fa fn).obs s := by
  have e : g = s.heap.get? := funext h
  rw [e] <;> rfl
variable {bs : List (Frag → Bool)} {fa : List He.Fa} {fn : List DX} {K : Frag}
theorem SaysX.b (c : SaysX bs fa fn K) (i : Nat) {f : Frag → Bool} (h : bs[i]? = some f := by rfl) : f K = true :=
  List.all_eq_true.mp (He.ba (show ((bs.all fun b => b K) && ((fa.all fun f => f.ok K) && fn.all fun d => d.ok K)) = true from congrArg (fun z : AlX => z.1) c)).1 f (List.mem_of_getElem? h)
theorem SaysX.fact (c : SaysX bs fa fn K) (i : Nat) {f : He.Fa} (h : fa[i]? = some f := by rfl) : f.ok K = true :=
  List.all_eq_true.mp (He.ba (He.ba (show ((bs.all fun b => b K) && ((fa.all fun f => f.ok K) && fn.all fun d => d.ok K)) = true from congrArg (fun z : AlX => z.1) c)).2).1 f (List.mem_of_getElem? h)
theorem SaysX.def_ (c : SaysX bs fa fn K) (i : Nat) {d : DX} (h : fn[i]? = some d := by rfl) : ∃ fd, FunD K d.name d.qual d.params d.body d.scope (d.dfl.map (He.Dv.v K)) (d.kwd.map fun q => (q.1, q.2.v K)) (d.at_ K) fd := by
  have c2 := (He.ba (He.ba (show ((bs.all fun b => b K) && ((fa.all fun f => f.ok K) && fn.all fun d => d.ok K)) = true from congrArg (fun z : AlX => z.1) c)).2).2
  have e : fn.map (fun d => fnX K (d.at_ K)) = fn.map DX.val := congrArg (fun z : AlX => z.2) c
  have e2 : (fn.map fun d => fnX K (d.at_ K))[i]? = (fn.map DX.val)[i]? := by rw [e]
  rw [List.getElem?_map, List.getElem?_map, h] at e2
  exact DX.funD (Option.some.inj e2) (List.all_eq_true.mp c2 d (List.mem_of_getElem? h))
end
end RM
namespace RM
open PySem PySem.Spec PyProof.Rows L2
/-! ### readings of classes, tuples, lists -/
section
variable {σ : L2.St} {H : Hp} {Q : VK} {v : V} {ta tb tc : TE} {tl : TA} {t u : TT} {D : Ends} {K : PySem.W.Frag} {sp : Sp} {E : XK} {QA : List V → Hp → Prop} {C : Addr} {f m : Str}
theorem wp_fldC (h : ta σ H fun x H1 => ∃ a dx fs v, x = .ref a ∧ H1 a = some (.ins C dx fs) ∧ fs.lookup f = some v ∧ Q v H1) : tFldC C ta f σ H Q := h
theorem fld_at {a dx : Addr} {fs : List (Str × V)} {R : V → Prop} (ha : H a = some (.ins C dx fs)) (hl : fs.lookup f = some v) (q : R v) : ∃ a' dx fs v, V.ref a = .ref a' ∧ H a' = some (.ins C dx fs) ∧ fs.lookup f = some v ∧ R v := ⟨a, dx, fs, v, rfl, ha, hl, q⟩
theorem wp_sfldC {v : TE} (h : v σ H fun y H1 => ta σ H1 fun x H2 => ∃ a dx fs, x = .ref a ∧ H2 a = some (.ins C dx fs) ∧ fs.length < 1000 ∧ D.nx σ (upd H2 a (.ins C dx (putF f y fs)))) : sFldC C ta v f D σ H := h
theorem sfld_at {a dx : Addr} {fs gs : List (Str × V)} {R : Hp → Prop} (ha : H a = some (.ins C dx fs)) (hl : fs.length < 1000) (e : putF f v fs = gs) (q : R (upd H a (.ins C dx gs))) : ∃ a' dx fs, V.ref a = .ref a' ∧ H a' = some (.ins C dx fs) ∧ fs.length < 1000 ∧ R (upd H a' (.ins C dx (putF f v fs))) := ⟨a, dx, fs, rfl, ha, hl, by rw [e]; exact q⟩
theorem wp_prop (h : ta σ H fun x H1 => ∃ a dx fs, x = .ref a ∧ H1 a = some (.ins C dx fs) ∧ sp [.ref a] H1 Q E) : tProp C sp [] E ta σ H Q := h
theorem own_at {a dx : Addr} {fs : List (Str × V)} {R : Addr → Prop} (ha : H a = some (.ins C dx fs)) (q : R a) : ∃ a' dx fs, V.ref a = .ref a' ∧ H a' = some (.ins C dx fs) ∧ R a' := ⟨a, dx, fs, rfl, ha, q⟩
def MetW (C : Addr) (m : Str) (sp : Sp) (E : XK) (t : TA) (σ : L2.St) (Q : VK) (x : V) (H1 : Hp) : Prop := ∃ a dx fs, x = .ref a ∧ H1 a = some (.ins C dx fs) ∧ fs.lookup m = none ∧ t σ H1 fun vs H2 => sp (x :: (vs ++ [])) H2 Q E
theorem wp_meth (h : ta σ H fun x H1 => MetW C m sp E tl σ Q x H1) : tMeth C m sp [] E ta tl σ H Q := h
theorem met_at {a dx : Addr} {fs : List (Str × V)} (ha : H a = some (.ins C dx fs)) (hl : fs.lookup m = none) (q : tl σ H fun vs H2 => sp (.ref a :: vs) H2 Q E) : MetW C m sp E tl σ Q (.ref a) H := ⟨a, dx, fs, rfl, ha, hl, by simpa only [List.append_nil] using q⟩
def MkW (C : Addr) (sp : Sp) (E : XK) (Q : VK) (vs : List V) (H1 : Hp) : Prop := ∀ x dx, H1 x = none → H1 dx = none → dx ≠ x → sp (.ref x :: vs) (upd (upd H1 dx (.own x)) x (.ins C dx [])) (fun v H2 => v = .non ∧ Q (.ref x) H2) E
theorem wp_make (h : tl σ H fun vs H1 => MkW C sp E Q vs H1) : tMake C sp [] E tl σ H Q := by
  show tl σ H fun vs H1 => ∀ x dx, H1 x = none → H1 dx = none → dx ≠ x → sp (.ref x :: (vs ++ [])) (upd (upd H1 dx (.own x)) x (.ins C dx [])) (fun v H2 => v = .non ∧ Q (.ref x) H2) E
  simp only [List.append_nil]
  exact h
theorem wp_gtup {n : Nat} {a : Addr} {xs : List V} {gs : TGs} {QS : L2.St → Hp → Prop} (hx : SqT K H a xs) (hn : xs.length = n) (h : gs xs σ H QS) : gTup K n gs (.ref a) σ H QS := ⟨a, xs, rfl, hx, hn, h⟩
theorem wp_gcons {g : TG} {gs : TGs} {r : List V} {QS : L2.St → Hp → Prop} (h : g v σ H fun σ' H' => gs r σ' H' QS) : gCons g gs (v :: r) σ H QS := ⟨v, r, rfl, h⟩
theorem wp_gnil {QS : L2.St → Hp → Prop} (h : QS σ H) : gNil [] σ H QS := ⟨rfl, h⟩
theorem wp_enum {g : TG} {tb : TS} (h : tl σ H fun vs H1 => ∃ a xs, vs = [.ref a] ∧ SqL K H1 a xs ∧ ForW (Ite K a) g tb D σ H1) : tFor (iEnum K tl) g tb D σ H := h
theorem loopE {g : TG} {tb : TS} {a : Addr} {xs : List V} (hx : SqL K H a xs) (Pv : Nat → L2.St → Hp → Prop) (h0 : Pv 0 σ H) (hl : ∀ i σ' H', i ≤ xs.length → Pv i σ' H' → SqL K H' a xs)
    (hs : ∀ i x T σ' H', xs[i]? = some x → Pv i σ' H' → H' T = none → g (.ref T) σ' (upd H' T (.tup [.int (i : Nat), x])) fun σ2 H2 => tb { D with nx := Pv (i + 1), ct := Pv (i + 1), bk := D.nx } σ2 H2) (hd : ∀ σ' H', Pv xs.length σ' H' → D.nx σ' H') :
    ∃ b ys, [V.ref a] = [.ref b] ∧ SqL K H b ys ∧ ForW (Ite K b) g tb D σ H := by
  refine ⟨a, xs, rfl, hx, for_it walk_enum Pv h0 hl (fun i v σ' H1 H2 hi p y => ?_) hd⟩
  obtain ⟨T, x, y', h1, h2, h3, h4, h5⟩ := y
  subst h1
  cases h4
  rw [h3]
  exact hs i y' T σ' H1 h5 p h2
theorem wp_cat {l b : Addr} {xs zs : List V} (h1 : H l = some (.lst xs)) (h2 : H b = some (.lst zs)) (hl : xs.length + zs.length ≤ 100000) (k : ∀ p, H p = none → Q (.ref p) (upd H p (.lst (xs ++ zs)))) : rCat (.ref l) (.ref b) H Q := ⟨l, b, xs, zs, rfl, rfl, h1, h2, szl hl, k⟩
theorem wp_sliceL {a : Addr} {xs : List V} {lo hi : Option Int} (hx : SqL K H a xs) (k : ∀ p, H p = none → Q (.ref p) (upd H p (.lst (cutG xs lo hi)))) : rSlL K (.ref a) lo hi H Q := ⟨a, xs, rfl, hx, k⟩
theorem wp_rixL {a : Addr} {k : Int} {xs : List V} (hx : SqL K H a xs) (ha : atI xs k = some v) (h : Q v H) : rIx K (.ref a) (.int k) H Q := .inl ⟨a, xs, k, v, rfl, rfl, hx, ha, h⟩
theorem wp_rixT {a : Addr} {k : Int} {xs : List V} (hx : SqT K H a xs) (ha : atI xs k = some v) (h : Q v H) : rIx K (.ref a) (.int k) H Q := .inr (.inl ⟨a, xs, k, v, rfl, rfl, hx, ha, h⟩)
theorem wp_isN {x : V} (h : Q (.bl (decide (x = .non))) H) : rIsN x .non H Q := ⟨rfl, h⟩
theorem wp_isC {a dx : Addr} {fs : List (Str × V)} (ha : H a = some (.ins C dx fs)) (h : Q (.bl true) H) : rIsC C [.ref a, .ref C] H Q := ⟨a, dx, fs, rfl, ha, h⟩
theorem wp_iterL {l : Addr} {zs : List V} (hx : SqL K H l zs) (h : ∀ it, H it = none → Q (.ref it) (upd H it (ItO l it 0))) : rIter K [.ref l] H Q := ⟨l, zs, rfl, hx, h⟩
theorem at_nth {α : Type} {xs : List α} {i : Nat} {x : α} (h : xs[i]? = some x) : atI xs (i : Int) = some x := atI_nat h
end
/-! ### the same data, told by the law -/
def Sc (v : V) : Prop := v = .non ∨ (∃ b, v = .bl b) ∨ (∃ i, v = .int i) ∨ ∃ z, v = .str z
def Sm (H : Hp) : Nat → V → V → Prop
  | 0, _, _ => False
  | n + 1, u, v => (u = v ∧ Sc u) ∨ ∃ (a b : Addr) (xs ys : List V), u = .ref a ∧ v = .ref b ∧ ((H a = some (.lst xs) ∧ H b = some (.lst ys)) ∨ (H a = some (.tup xs) ∧ H b = some (.tup ys))) ∧
      xs.length = ys.length ∧ ys.length ≤ 1000 ∧ ∀ (i : Nat) (x y : V), xs[i]? = some x → ys[i]? = some y → Sm H n x y
theorem Sm.mono {H H' : Hp} (e : Same H H') : ∀ {n : Nat} {u v : V}, Sm H n u v → Sm H' n u v
  | 0, _, _, h => h.elim
  | n + 1, u, v, h => by
    rcases h with h | ⟨a, b, xs, ys, h1, h2, h3, h4, h5, h6⟩
    · exact .inl h
    · refine .inr ⟨a, b, xs, ys, h1, h2, ?_, h4, h5, fun i x y hx hy => Sm.mono e (h6 i x y hx hy)⟩
      rcases h3 with ⟨p, q⟩ | ⟨p, q⟩
      · exact .inl ⟨e _ _ p, e _ _ q⟩
      · exact .inr ⟨e _ _ p, e _ _ q⟩
section
variable {H : Hp} {n : Nat}
theorem sm_int {i : Int} : Sm H (n + 1) (.int i) (.int i) := .inl ⟨rfl, .inr (.inr (.inl ⟨i, rfl⟩))⟩
theorem sm_str {z : Str} : Sm H (n + 1) (.str z) (.str z) := .inl ⟨rfl, .inr (.inr (.inr ⟨z, rfl⟩))⟩
theorem sm_bl {b : Bool} : Sm H (n + 1) (.bl b) (.bl b) := .inl ⟨rfl, .inr (.inl ⟨b, rfl⟩)⟩
theorem sm_non : Sm H (n + 1) .non .non := .inl ⟨rfl, .inl rfl⟩
theorem sm_lst {a b : Addr} {xs : List V} (h1 : H a = some (.lst xs)) (h2 : H b = some (.lst xs)) (hl : xs.length ≤ 1000) (h : ∀ x ∈ xs, Sm H n x x) : Sm H (n + 1) (.ref a) (.ref b) :=
  .inr ⟨a, b, xs, xs, rfl, rfl, .inl ⟨h1, h2⟩, rfl, hl, fun i x y hx hy => by
    rw [hx] at hy
    cases hy
    exact h x (List.mem_of_getElem? hx)⟩
theorem sm_tup {a b : Addr} {xs : List V} (h1 : H a = some (.tup xs)) (h2 : H b = some (.tup xs)) (hl : xs.length ≤ 1000) (h : ∀ x ∈ xs, Sm H n x x) : Sm H (n + 1) (.ref a) (.ref b) :=
  .inr ⟨a, b, xs, xs, rfl, rfl, .inr ⟨h1, h2⟩, rfl, hl, fun i x y hx hy => by
    rw [hx] at hy
    cases hy
    exact h x (List.mem_of_getElem? hx)⟩
theorem sm_names {a b : Addr} {ns : List (List Nat)} (h1 : H a = some (.lst (ns.map sv))) (h2 : H b = some (.lst (ns.map sv))) (hl : ns.length ≤ 1000) : Sm H (n + 2) (.ref a) (.ref b) :=
  sm_lst h1 h2 (by simpa using hl) fun x hx => by
    obtain ⟨l, _, rfl⟩ := List.mem_map.mp hx
    exact sm_str
end
/-! ### rows: the spans -/
structure Row where
  u : List Nat
  v : List Nat
  lo : Int
  hi : Int
  w : Int
deriving DecidableEq
def rowV (r : Row) : List V := [sv r.u, sv r.v, .int r.lo, .int r.hi, .int r.w]
structure OkR (T : Int) (ns : List (List Nat)) (r : Row) : Prop where
  u : r.u ∈ ns
  v : r.v ∈ ns
  ne : r.u ≠ r.v
  l0 : 0 ≤ r.lo
  l1 : r.lo ≤ T - 1
  h0 : r.lo ≤ r.hi
  h1 : r.hi ≤ r.lo + T - 3
  w0 : 0 ≤ r.w
  w1 : r.w ≤ 99
def IsRow (H : Hp) (x : V) (r : Row) : Prop := ∃ p, x = .ref p ∧ H p = some (.tup (rowV r))
def IsSp (H : Hp) (T : Int) (ns : List (List Nat)) (x : V) : Prop := ∃ r, IsRow H x r ∧ OkR T ns r
theorem IsRow.mono {H H' : Hp} (e : Same H H') {x : V} {r : Row} (h : IsRow H x r) : IsRow H' x r := by
  obtain ⟨p, h1, h2⟩ := h
  exact ⟨p, h1, e _ _ h2⟩
theorem IsSp.mono {H H' : Hp} (e : Same H H') {T : Int} {ns : List (List Nat)} {x : V} (h : IsSp H T ns x) : IsSp H' T ns x := by
  obtain ⟨r, h1, h2⟩ := h
  exact ⟨r, h1.mono e, h2⟩
theorem sm_row {H : Hp} {n : Nat} {x : V} {r : Row} (h : IsRow H x r) : Sm H (n + 2) x x := by
  obtain ⟨p, rfl, h⟩ := h
  refine sm_tup h h (by simp [rowV]) fun y hy => ?_
  simp only [rowV, List.mem_cons, List.not_mem_nil, or_false] at hy
  rcases hy with rfl | rfl | rfl | rfl | rfl
  · exact sm_str
  · exact sm_str
  · exact sm_int
  · exact sm_int
  · exact sm_int
theorem sm_spans {H : Hp} {n : Nat} {a b : Addr} {T : Int} {ns : List (List Nat)} {ss : List V} (h1 : H a = some (.lst ss)) (h2 : H b = some (.lst ss)) (hl : ss.length ≤ 1000) (h : ∀ x ∈ ss, IsSp H T ns x) : Sm H (n + 3) (.ref a) (.ref b) :=
  sm_lst h1 h2 hl fun x hx => by
    obtain ⟨r, h, _⟩ := h x hx
    exact sm_row h
/-- what a net may be made of -/
structure OkNs (T : Int) (ns : List (List Nat)) : Prop where
  t0 : 3 ≤ T
  t1 : T ≤ 120
  few : ns.length ≤ 12
  nodup : ns.Nodup
  nm : ∀ l ∈ ns, Nm l
structure OkSp (H : Hp) (T : Int) (ns : List (List Nat)) (ss : List V) : Prop where
  few : ss.length ≤ 24
  sp : ∀ x ∈ ss, IsSp H T ns x
theorem OkSp.mono {H H' : Hp} (e : Same H H') {T : Int} {ns : List (List Nat)} {ss : List V} (h : OkSp H T ns ss) : OkSp H' T ns ss := ⟨h.few, fun x hx => (h.sp x hx).mono e⟩
/-! ### == of names and rows -/
def nD (ns : List (List Nat)) : List PyData := ns.map fun l => .str (S l)
def rD (r : Row) : PyData := .tuple [.str (S r.u), .str (S r.v), .int r.lo, .int r.hi, .int r.w]
theorem S_beq (a b : List Nat) : (S a == S b) = decide (a = b) := SX.S_beq_eq ..
theorem eqv_names : ∀ {a b : List (List Nat)}, PyData.eqvAll (nD a) (nD b) = decide (a = b)
  | [], [] => rfl
  | [], _ :: _ => rfl
  | _ :: _, [] => rfl
  | x :: a, y :: b => by
    show ((S x == S y) && PyData.eqvAll (nD a) (nD b)) = _
    rw [eqv_names, S_beq, ← Bool.decide_and]
    exact decide_eq_decide.mpr (by simp)
theorem eqv_row {a b : Row} : PyData.eqv (rD a) (rD b) = decide (a = b) := by
  show ((S a.u == S b.u) && ((S a.v == S b.v) && ((a.lo == b.lo) && ((a.hi == b.hi) && ((a.w == b.w) && true))))) = _
  rw [S_beq, S_beq, Bool.eq_iff_iff]
  obtain ⟨u, v, l, h, w⟩ := a
  obtain ⟨u', v', l', h', w'⟩ := b
  simp
theorem eqv_rows : ∀ {a b : List Row}, PyData.eqvAll (a.map rD) (b.map rD) = decide (a = b)
  | [], [] => rfl
  | [], _ :: _ => rfl
  | _ :: _, [] => rfl
  | x :: a, y :: b => by
    show (PyData.eqv (rD x) (rD y) && PyData.eqvAll (a.map rD) (b.map rD)) = _
    rw [eqv_rows, eqv_row, ← Bool.decide_and]
    exact decide_eq_decide.mpr (by simp)
inductive Rws (H : Hp) : List V → List Row → Prop
  | nil : Rws H [] []
  | cons {x : V} {r : Row} {xs : List V} {rs : List Row} : IsRow H x r → Rws H xs rs → Rws H (x :: xs) (r :: rs)
theorem rws_ex {H : Hp} {T : Int} {ns : List (List Nat)} : ∀ {ss : List V}, (∀ x ∈ ss, IsSp H T ns x) → ∃ rs, Rws H ss rs
  | [], _ => ⟨[], .nil⟩
  | x :: ss, h => by
    obtain ⟨rs, h2⟩ := rws_ex fun y hy => h y (List.mem_cons_of_mem _ hy)
    obtain ⟨r, h1, _⟩ := h x List.mem_cons_self
    exact ⟨r :: rs, .cons h1 h2⟩
theorem Rws.mono {H H' : Hp} (e : Same H H') : ∀ {ss : List V} {rs : List Row}, Rws H ss rs → Rws H' ss rs
  | _, _, .nil => .nil
  | _, _, .cons h t => .cons (h.mono e) (t.mono e)
theorem Rws.len {H : Hp} : ∀ {ss : List V} {rs : List Row}, Rws H ss rs → ss.length = rs.length
  | _, _, .nil => rfl
  | _, _, .cons _ t => by rw [List.length_cons, List.length_cons, t.len]
theorem Rws.at {H : Hp} : ∀ {ss : List V} {rs : List Row} {i : Nat} {x : V}, Rws H ss rs → ss[i]? = some x → ∃ r, rs[i]? = some r ∧ IsRow H x r
  | _, _, 0, x, .cons h _, e => by
    cases e
    exact ⟨_, rfl, h⟩
  | _, _, i + 1, x, .cons _ t, e => Rws.at (i := i) t e
theorem IsRow.inj {H : Hp} {x : V} {a b : Row} (h : IsRow H x a) (k : IsRow H x b) : a = b := by
  obtain ⟨p, rfl, h⟩ := h
  obtain ⟨q, e, k⟩ := k
  cases e
  rw [h] at k
  obtain ⟨u, v, l, h, w⟩ := a
  obtain ⟨u', v', l', h', w'⟩ := b
  simp only [rowV, Option.some.injEq, HO.tup.injEq, List.cons.injEq, V.str.injEq, V.int.injEq, and_true] at k
  obtain ⟨k1, k2, k3, k4, k5⟩ := k
  rw [S_inj k1, S_inj k2, k3, k4, k5]
section
variable {K : PySem.W.Frag} {H : Hp}
theorem dp_names : ∀ ns : List (List Nat), DpAll K H (ns.map sv) (nD ns)
  | [] => .nil
  | l :: ns => .cons (.str _) (dp_names ns)
theorem dp_row {x : V} {r : Row} (h : IsRow H x r) : Dp K H x (rD r) := by
  obtain ⟨p, rfl, h⟩ := h
  exact .tup (st_of h) (.cons (.str _) (.cons (.str _) (.cons (.int _) (.cons (.int _) (.cons (.int _) .nil)))))
theorem dp_rows : ∀ {ss : List V} {rs : List Row}, Rws H ss rs → DpAll K H ss (rs.map rD)
  | _, _, .nil => .nil
  | _, _, .cons h t => .cons (dp_row h) (dp_rows t)
end
def Asc (l : List Nat) : Prop := ∀ c ∈ l, c < 127
theorem nm_asc {l : List Nat} (h : Nm l) : Asc l := fun c hc => by rcases h.all c hc with h | h <;> omega
theorem asc_ok {l : List Nat} (h : Asc l) : PyData.strOk (S l) = true := by
  unfold PyData.strOk
  rw [show (S l).cps = l.toArray from rfl, List.all_toArray, List.all_eq_true]
  intro c hc
  have := h c hc
  exact decide_eq_true (by omega)
theorem lay_names : ∀ {ns : List (List Nat)}, (∀ l ∈ ns, Asc l) → PyData.canLayAll0 (nD ns) = true ∧ PyData.depthAll (nD ns) = 0
  | [], _ => ⟨rfl, rfl⟩
  | l :: ns, h => by
    obtain ⟨h1, h2⟩ := lay_names (ns := ns) fun x hx => h x (List.mem_cons_of_mem _ hx)
    refine ⟨?_, ?_⟩
    · show (PyData.strOk (S l) && PyData.canLayAll0 (nD ns)) = true
      rw [asc_ok (h l List.mem_cons_self), h1]
      rfl
    · show max 0 (PyData.depthAll (nD ns)) = 0
      rw [h2]
      rfl
theorem sh_names {ns : List (List Nat)} (h : ∀ l ∈ ns, Asc l) : SeqAt.shaped (.list (nD ns)) = true := by
  obtain ⟨h1, h2⟩ := lay_names h
  show (PyData.canLayAll0 (nD ns) && decide (PyData.depthAll (nD ns) + 1 ≤ 64)) = true
  rw [h1, h2]
  rfl
structure AscR (r : Row) : Prop where
  u : Asc r.u
  v : Asc r.v
theorem lay_row {r : Row} (h : AscR r) : PyData.canLay0 (rD r) = true ∧ PyData.depth (rD r) = 1 := by
  refine ⟨?_, rfl⟩
  show (PyData.strOk (S r.u) && (PyData.strOk (S r.v) && _)) = true
  rw [asc_ok h.u, asc_ok h.v]
  rfl
theorem sh_row {r : Row} (h : AscR r) : SeqAt.shaped (rD r) = true := by
  obtain ⟨h1, h2⟩ := lay_row h
  show (PyData.canLay0 (rD r) && decide (PyData.depth (rD r) ≤ 64)) = true
  rw [h1, h2]
  rfl
theorem lay_rows : ∀ {rs : List Row}, (∀ r ∈ rs, AscR r) → PyData.canLayAll0 (rs.map rD) = true ∧ PyData.depthAll (rs.map rD) ≤ 1
  | [], _ => ⟨rfl, Nat.zero_le _⟩
  | l :: ns, h => by
    obtain ⟨h1, h2⟩ := lay_rows (rs := ns) fun x hx => h x (List.mem_cons_of_mem _ hx)
    obtain ⟨h3, h4⟩ := lay_row (h l List.mem_cons_self)
    refine ⟨?_, ?_⟩
    · show (PyData.canLay0 (rD l) && PyData.canLayAll0 (ns.map rD)) = true
      rw [h3, h1]
      rfl
    · show max (PyData.depth (rD l)) (PyData.depthAll (ns.map rD)) ≤ 1
      omega
theorem sh_rows {rs : List Row} (h : ∀ r ∈ rs, AscR r) : SeqAt.shaped (.list (rs.map rD)) = true := by
  obtain ⟨h1, h2⟩ := lay_rows h
  show (PyData.canLayAll0 (rs.map rD) && decide (PyData.depthAll (rs.map rD) + 1 ≤ 64)) = true
  rw [h1]
  exact decide_eq_true (by omega)
theorem Rws.all {H : Hp} {T : Int} {ns : List (List Nat)} (hn : ∀ l ∈ ns, Nm l) {ss : List V} {rs : List Row} (h : ∀ x ∈ ss, IsSp H T ns x) (t : Rws H ss rs) : ∀ r ∈ rs, OkR T ns r ∧ AscR r := by
  induction t with
  | nil => simp
  | @cons x r xs rs h1 t ih =>
    intro q hq
    rcases List.mem_cons.mp hq with rfl | hq
    · obtain ⟨r', k1, k2⟩ := h x List.mem_cons_self
      have e := k1.inj h1
      subst e
      exact ⟨k2, nm_asc (hn _ k2.u), nm_asc (hn _ k2.v)⟩
    · exact ih (fun y hy => h y (List.mem_cons_of_mem _ hy)) q hq
section
variable {K : PySem.W.Frag} {H : Hp} {Q : VK} {a b : Addr}
theorem wp_eqN {ns ms : List (List Nat)} (h1 : H a = some (.lst (ns.map sv))) (h2 : H b = some (.lst (ms.map sv))) (k1 : ∀ l ∈ ns, Asc l) (k2 : ∀ l ∈ ms, Asc l) (q : Q (.bl (decide (ns = ms))) H) : rEqD K (.ref a) (.ref b) H Q := by
  refine ⟨.list (nD ns), .list (nD ms), .lst (sq_of h1) (dp_names _), .lst (sq_of h2) (dp_names _), sh_names k1, sh_names k2, ?_⟩
  show Q (.bl (PyData.eqvAll (nD ns) (nD ms))) H
  rw [eqv_names]
  exact q
theorem wp_neN {ns ms : List (List Nat)} (h1 : H a = some (.lst (ns.map sv))) (h2 : H b = some (.lst (ms.map sv))) (k1 : ∀ l ∈ ns, Asc l) (k2 : ∀ l ∈ ms, Asc l) (q : Q (.bl (!decide (ns = ms))) H) : rNeD K (.ref a) (.ref b) H Q := by
  refine ⟨.list (nD ns), .list (nD ms), .lst (sq_of h1) (dp_names _), .lst (sq_of h2) (dp_names _), sh_names k1, sh_names k2, ?_⟩
  show Q (.bl (!PyData.eqvAll (nD ns) (nD ms))) H
  rw [eqv_names]
  exact q
theorem wp_eqR {ss ts : List V} {rs qs : List Row} (h1 : H a = some (.lst ss)) (h2 : H b = some (.lst ts)) (r1 : Rws H ss rs) (r2 : Rws H ts qs) (k1 : ∀ r ∈ rs, AscR r) (k2 : ∀ r ∈ qs, AscR r) (q : Q (.bl (decide (rs = qs))) H) : rEqD K (.ref a) (.ref b) H Q := by
  refine ⟨.list (rs.map rD), .list (qs.map rD), .lst (sq_of h1) (dp_rows r1), .lst (sq_of h2) (dp_rows r2), sh_rows k1, sh_rows k2, ?_⟩
  show Q (.bl (PyData.eqvAll (rs.map rD) (qs.map rD))) H
  rw [eqv_rows]
  exact q
theorem wp_neR {ss ts : List V} {rs qs : List Row} (h1 : H a = some (.lst ss)) (h2 : H b = some (.lst ts)) (r1 : Rws H ss rs) (r2 : Rws H ts qs) (k1 : ∀ r ∈ rs, AscR r) (k2 : ∀ r ∈ qs, AscR r) (q : Q (.bl (!decide (rs = qs))) H) : rNeD K (.ref a) (.ref b) H Q := by
  refine ⟨.list (rs.map rD), .list (qs.map rD), .lst (sq_of h1) (dp_rows r1), .lst (sq_of h2) (dp_rows r2), sh_rows k1, sh_rows k2, ?_⟩
  show Q (.bl (!PyData.eqvAll (rs.map rD) (qs.map rD))) H
  rw [eqv_rows]
  exact q
theorem wp_neRow {x y : V} {r s : Row} (h1 : IsRow H x r) (h2 : IsRow H y s) (k1 : AscR r) (k2 : AscR s) (q : Q (.bl (!decide (r = s))) H) : rNeD K x y H Q := by
  refine ⟨rD r, rD s, dp_row h1, dp_row h2, sh_row k1, sh_row k2, ?_⟩
  rw [eqv_row]
  exact q
end
/-! ### nets -/
abbrev netF (T : Int) (le ls : Addr) : List (Str × V) := [("_round_length", .int T), ("_events", .ref le), ("_spans", .ref ls)]
def IsNet (C : Addr) (H : Hp) (a : Addr) (T : Int) (ns : List (List Nat)) (ss : List V) : Prop := ∃ dx le ls, H a = some (.ins C dx (netF T le ls)) ∧ H le = some (.lst (ns.map sv)) ∧ H ls = some (.lst ss)
theorem IsNet.mono {C : Addr} {H H' : Hp} (e : Same H H') {a : Addr} {T : Int} {ns : List (List Nat)} {ss : List V} (h : IsNet C H a T ns ss) : IsNet C H' a T ns ss := by
  obtain ⟨dx, le, ls, h1, h2, h3⟩ := h
  exact ⟨dx, le, ls, e _ _ h1, e _ _ h2, e _ _ h3⟩
theorem lk_T {T : Int} {le ls : Addr} : (netF T le ls).lookup ("_round_length" : Str) = some (.int T) := rfl
theorem lk_e {T : Int} {le ls : Addr} : (netF T le ls).lookup ("_events" : Str) = some (.ref le) := rfl
theorem lk_s {T : Int} {le ls : Addr} : (netF T le ls).lookup ("_spans" : Str) = some (.ref ls) := rfl
abbrev netF1 (T : Int) : List (Str × V) := [("_round_length", .int T)]
abbrev netF2 (T : Int) (le : Addr) : List (Str × V) := [("_round_length", .int T), ("_events", .ref le)]
theorem pt_1 {T : Int} : putF "_round_length" (.int T) [] = netF1 T := rfl
theorem pt_2 {T : Int} {le : Addr} : putF "_events" (.ref le) (netF1 T) = netF2 T le := by
  unfold putF
  rw [if_neg (by decide)]
  rfl
theorem pt_3 {T : Int} {le ls : Addr} : putF "_spans" (.ref ls) (netF2 T le) = netF T le ls := by
  unfold putF
  rw [if_neg (by decide)]
  unfold putF
  rw [if_neg (by decide)]
  rfl
/-- all but one thing -/
def rmv (G : Hp) (q : Addr) : Hp := fun a => if a = q then none else G a
theorem rmv_same {G : Hp} {q : Addr} : rmv G q q = none := by unfold rmv; rw [if_pos rfl]
theorem rmv_ne {G : Hp} {q a : Addr} (h : a ≠ q) : rmv G q a = G a := by unfold rmv; rw [if_neg h]
theorem rmv_sub {G : Hp} {q : Addr} : Same (rmv G q) G := fun a o h => by
  by_cases e : a = q
  · rw [e, rmv_same] at h; cases h
  · rw [rmv_ne e] at h; exact h
theorem Same.rmv {G G' : Hp} {q : Addr} (s : Same G G') (h : G q = none) : Same G (rmv G' q) := fun a o ha => by
  rw [rmv_ne (ne_of_none ha h)]
  exact s _ _ ha
theorem Sees.less {P : Pl} {G H : Hp} {q : Addr} {ys : List V} (s : Sees P G H) (hq : G q = some (.lst ys)) (hc : q ≠ P.l) : Sees P (rmv G q) H :=
  ⟨s.pool, by rw [rmv_ne hc.symm]; exact s.cell, s.few, by
    by_cases e : P.p = q
    · rw [e]; exact rmv_same
    · rw [rmv_ne e]; exact s.free, Same.trans rmv_sub s.sub⟩
theorem IsRow.rmv {G : Hp} {q : Addr} {ys : List V} {x : V} {r : Row} (hq : G q = some (.lst ys)) (h : IsRow G x r) : IsRow (rmv G q) x r := by
  obtain ⟨p, rfl, hp⟩ := h
  exact ⟨p, rfl, by rw [rmv_ne (fun e => by rw [e, hq] at hp; cases hp)]; exact hp⟩
theorem IsSp.rmv {G : Hp} {q : Addr} {ys : List V} {T : Int} {ns : List (List Nat)} {x : V} (hq : G q = some (.lst ys)) (h : IsSp G T ns x) : IsSp (rmv G q) T ns x := by
  obtain ⟨r, h1, h2⟩ := h
  exact ⟨r, h1.rmv hq, h2⟩
/-- a list of one's own that is changed: outside of G -/
structure Lcl (P : Pl) (L : Addr) (xs : List V) (G H : Hp) : Prop where
  s : Sees P G H
  h : H L = some (.lst xs)
  g : G L = none
  ne : L ≠ P.p
theorem Lcl.new {P : Pl} {L q : Addr} {xs : List V} {G H : Hp} {o : HO} (l : Lcl P L xs G H) (hq : H q = none) : Lcl P L xs (upd G q o) (upd H q o) :=
  have e : L ≠ q := ne_of_none l.h hq
  ⟨l.s.new hq, by rw [upd_ne e]; exact l.h, by rw [upd_ne e]; exact l.g, l.ne⟩
theorem Lcl.put {P : Pl} {L : Addr} {xs ys : List V} {G H : Hp} (l : Lcl P L xs G H) : Lcl P L ys G (upd H L (.lst ys)) := ⟨l.s.set l.g l.ne, upd_same, l.g, l.ne⟩
theorem Lcl.in_ {P : Pl} {L : Addr} {xs : List V} {G H : Hp} (l : Lcl P L xs G H) : Sees P (upd G L (.lst xs)) H := l.s.with l.g l.h l.ne
theorem Lcl.out {P : Pl} {L : Addr} {xs : List V} {G H H' : Hp} (l : Lcl P L xs G H) (s : Sees P (upd G L (.lst xs)) H') : Lcl P L xs G H' :=
  have z := s.back l.s l.g
  ⟨z.1, z.2, l.g, l.ne⟩
/-! ### rows in parts of lists -/
theorem Rws.app {H : Hp} : ∀ {a : List V} {ra : List Row} {b : List V} {rb : List Row}, Rws H a ra → Rws H b rb → Rws H (a ++ b) (ra ++ rb)
  | _, _, _, _, .nil, k => k
  | _, _, _, _, .cons h t, k => .cons h (t.app k)
theorem Rws.take {H : Hp} : ∀ {a : List V} {ra : List Row} (n : Nat), Rws H a ra → Rws H (a.take n) (ra.take n)
  | _, _, 0, _ => .nil
  | _, _, _ + 1, .nil => .nil
  | _, _, n + 1, .cons h t => .cons h (t.take n)
theorem Rws.drop {H : Hp} : ∀ {a : List V} {ra : List Row} (n : Nat), Rws H a ra → Rws H (a.drop n) (ra.drop n)
  | _, _, 0, h => h
  | _, _, _ + 1, .nil => .nil
  | _, _, n + 1, .cons _ t => t.drop n
theorem IsSp.up {H : Hp} {T T' : Int} {ns ns' : List (List Nat)} {x : V} (h : IsSp H T ns x) (e : T ≤ T') (m : ∀ l ∈ ns, l ∈ ns') : IsSp H T' ns' x := by
  obtain ⟨r, h1, h2⟩ := h
  exact ⟨r, h1, m _ h2.u, m _ h2.v, h2.ne, h2.l0, by have := h2.l1; omega, h2.h0, by have := h2.h1; omega, h2.w0, h2.w1⟩
theorem six_neg {n d : Nat} (h : 0 < n) : HT.sIx n d (some (-1)) = n - 1 := by
  unfold HT.sIx
  simp only []
  split <;> omega
theorem cutG_last {α : Type} {xs : List α} (h : 0 < xs.length) : cutG xs none (some (-1)) = xs.take (xs.length - 1) := by
  unfold cutG
  rw [six_neg h]
  show (xs.drop 0).take (xs.length - 1 - 0) = _
  simp
theorem cutG_to1 {α : Type} {xs : List α} {k : Int} (h0 : 0 ≤ k) (h : k ≤ xs.length) : cutG xs none (some k) = xs.take k.toNat := by
  obtain ⟨j, rfl⟩ : ∃ j : Nat, k = j := ⟨k.toNat, by omega⟩
  rw [cutG_to (by omega), Int.toNat_natCast]
theorem cutG_from1 {α : Type} {xs : List α} {k : Int} (h0 : 0 ≤ k) (h : k ≤ xs.length) : cutG xs (some k) none = xs.drop k.toNat := by
  obtain ⟨j, rfl⟩ : ∃ j : Nat, k = j := ⟨k.toNat, by omega⟩
  rw [cutG_from (by omega), Int.toNat_natCast]
theorem cut_set {α : Type} {xs : List α} {k : Nat} {y : α} (h : k < xs.length) : (xs.take k ++ [y] ++ xs.drop (k + 1))[k]? = some y := by
  have : (xs.take k).length = k := by rw [List.length_take]; omega
  rw [List.append_assoc, List.getElem?_append_right (by omega), this]
  simp
theorem at2 {α : Type} {a b c : α} {xs : List α} : atI (a :: b :: c :: xs) 2 = some c := atI_nat (j := 2) rfl
theorem at3 {α : Type} {a b c d : α} {xs : List α} : atI (a :: b :: c :: d :: xs) 3 = some d := atI_nat (j := 3) rfl
theorem at4 {α : Type} {a b c d e : α} {xs : List α} : atI (a :: b :: c :: d :: e :: xs) 4 = some e := atI_nat (j := 4) rfl
theorem mem_cut {α : Type} {xs : List α} {k m : Nat} {ys : List α} {x : α} (h : x ∈ xs.take k ++ ys ++ xs.drop m) : x ∈ xs ∨ x ∈ ys := by
  rcases List.mem_append.mp h with h | h
  · rcases List.mem_append.mp h with h | h
    · exact .inl (List.mem_of_mem_take h)
    · exact .inr h
  · exact .inl (List.mem_of_mem_drop h)
theorem cut_set2 {α : Type} {xs ys : List α} {k m : Nat} {y : α} (h : k < xs.length) : (xs.take k ++ (y :: ys) ++ xs.drop m)[k]? = some y := by
  have : (xs.take k).length = k := by rw [List.length_take]; omega
  rw [List.append_assoc, List.getElem?_append_right (by omega), this]
  simp
/-! ### comprehensions with tests and tuple targets -/
section
variable {σ : L2.St} {H : Hp} {Q : VK} {K : PySem.W.Frag} {g : TG} {tt : TT} {te : TE} {vs : List Nat}
theorem lcGen {J : It} {n : Nat} {Gd : Hp → Prop} {Y : Nat → Hp → V → Hp → Prop} (w : Walk J n Gd Y) (hn : n ≤ 100000) (hG : ∀ H', Same H H' → Gd H') (hY : ∀ i H2 x H3, Y i H2 x H3 → Same H2 H3) (accs : Nat → List V) (h0 : accs 0 = []) (hlen : ∀ i, (accs i).length ≤ i)
    (hs : ∀ i x H2 H3 (R : VK) (R0 : Hp → Prop), i < n → Same H H2 → Y i H2 x H3 → (∀ y H6, Same H3 H6 → accs (i + 1) = accs i ++ [y] → R y H6) → (∀ H5, Same H3 H5 → accs (i + 1) = accs i → R0 H5) → g x (wipe σ vs) H3 fun σ2 H4 => wipe σ2 vs = wipe σ vs ∧ tt σ2 H4 fun b H5 => if b = true then te σ2 H5 R else R0 H5)
    (hq : ∀ D H2, H D = none → Same H H2 → H2 D = some (.lst (accs n)) → Q (.ref D) H2) : LcW J g tt te vs σ H Q := by
  intro D hD
  refine lc_it w (fun i H2 => Same H H2 ∧ H2 D = some (.lst (accs i))) ⟨Same.new hD, by rw [h0]; exact upd_same⟩ (fun i H2 _ p => hG H2 p.1) (fun i x H2 H3 hi p y => ?_) (fun H2 p => hq D H2 hD p.1 p.2)
  have s3 := hY i H2 x H3 y
  exact hs i x H2 H3 (fun y H4 => ∃ acc, H4 D = some (.lst acc) ∧ acc.length < sizeLine ∧ (Same H (upd H4 D (.lst (acc ++ [y]))) ∧ upd H4 D (.lst (acc ++ [y])) D = some (.lst (accs (i + 1))))) (fun H' => Same H H' ∧ H' D = some (.lst (accs (i + 1)))) hi p.1 y
    (fun y H6 s6 e => ⟨accs i, s6 _ _ (s3 _ _ p.2), szlt (by have := hlen i; omega), Same.mut (p.1.trans (s3.trans s6)) hD, by rw [e]; exact upd_same⟩)
    (fun H5 s5 e => ⟨p.1.trans (s3.trans s5), by rw [e]; exact s5 _ _ (s3 _ _ p.2)⟩)
theorem lcGL {a : Addr} {xs : List V} (hx : SqL K H a xs) (hn : xs.length ≤ 100000) (accs : Nat → List V) (h0 : accs 0 = []) (hlen : ∀ i, (accs i).length ≤ i)
    (hs : ∀ i x H2 (R : VK) (R0 : Hp → Prop), xs[i]? = some x → Same H H2 → (∀ y H6, Same H2 H6 → accs (i + 1) = accs i ++ [y] → R y H6) → (∀ H5, Same H2 H5 → accs (i + 1) = accs i → R0 H5) → g x (wipe σ vs) H2 fun σ2 H4 => wipe σ2 vs = wipe σ vs ∧ tt σ2 H4 fun b H5 => if b = true then te σ2 H5 R else R0 H5)
    (hq : ∀ D H2, H D = none → Same H H2 → H2 D = some (.lst (accs xs.length)) → Q (.ref D) H2) : ∃ b, V.ref a = .ref b ∧ (∃ ys, SqL K H b ys) ∧ LcW (Itl K b) g tt te vs σ H Q :=
  ⟨a, rfl, ⟨xs, hx⟩, lcGen walk_list hn (fun H' s => Same.seq s hx) (fun i H2 x H3 y => by rw [y.1]; exact Same.refl _) accs h0 hlen (fun i x H2 H3 R R0 _ s2 y k1 k0 => by
    obtain ⟨e, hi⟩ := y
    subst e
    exact hs i x _ R R0 hi s2 k1 k0) hq⟩
theorem lcGE {a : Addr} {xs : List V} (hx : SqL K H a xs) (hn : xs.length ≤ 100000) (accs : Nat → List V) (h0 : accs 0 = []) (hlen : ∀ i, (accs i).length ≤ i)
    (hs : ∀ i x T H2 (R : VK) (R0 : Hp → Prop), xs[i]? = some x → Same H H2 → H2 T = some (.tup [.int (i : Nat), x]) → (∀ y H6, Same H2 H6 → accs (i + 1) = accs i ++ [y] → R y H6) → (∀ H5, Same H2 H5 → accs (i + 1) = accs i → R0 H5) → g (.ref T) (wipe σ vs) H2 fun σ2 H4 => wipe σ2 vs = wipe σ vs ∧ tt σ2 H4 fun b H5 => if b = true then te σ2 H5 R else R0 H5)
    (hq : ∀ D H2, H D = none → Same H H2 → H2 D = some (.lst (accs xs.length)) → Q (.ref D) H2) : ∃ b ys, [V.ref a] = [.ref b] ∧ SqL K H b ys ∧ LcW (Ite K b) g tt te vs σ H Q :=
  ⟨a, xs, rfl, hx, lcGen walk_enum hn (fun H' s => Same.seq s hx) (fun i H2 x H3 y => by
    obtain ⟨T, x', y', _, hT, e, _⟩ := y
    rw [e]; exact Same.new hT) accs h0 hlen (fun i x H2 H3 R R0 _ s2 y k1 k0 => by
    obtain ⟨T, x', y', rfl, hT, e, h4, h5⟩ := y
    cases h4
    subst e
    exact hs i y' T _ R R0 h5 (s2.trans (Same.new hT)) upd_same k1 k0) hq⟩
theorem lcGR {n : Nat} (hn : n ≤ 100000) (accs : Nat → List V) (h0 : accs 0 = []) (hlen : ∀ i, (accs i).length ≤ i)
    (hs : ∀ i H2 (R : VK) (R0 : Hp → Prop), i < n → Same H H2 → (∀ y H6, Same H2 H6 → accs (i + 1) = accs i ++ [y] → R y H6) → (∀ H5, Same H2 H5 → accs (i + 1) = accs i → R0 H5) → g (.int (i : Nat)) (wipe σ vs) H2 fun σ2 H4 => wipe σ2 vs = wipe σ vs ∧ tt σ2 H4 fun b H5 => if b = true then te σ2 H5 R else R0 H5)
    (hq : ∀ D H2, H D = none → Same H H2 → H2 D = some (.lst (accs n)) → Q (.ref D) H2) : ∃ j : Int, [V.int n] = [V.int j] ∧ -(2 ^ 62) ≤ j ∧ j < 2 ^ 62 ∧ LcW (Itr 0 j.toNat) g tt te vs σ H Q :=
  ⟨n, rfl, by omega, by omega, lcGen (n := ((n : Int)).toNat) walk_range (by omega) (fun _ _ => trivial) (fun i H2 x H3 y => by rw [y.1]; exact Same.refl _) accs h0 hlen (fun i x H2 H3 R R0 hi s2 y k1 k0 => by
    obtain ⟨e, e2⟩ := y
    subst e
    have e3 : x = .int (i : Nat) := by rw [e2]; exact congrArg V.int (Int.zero_add _)
    subst e3
    exact hs i _ R R0 (by omega) s2 k1 k0) (by rw [Int.toNat_natCast]; exact hq)⟩
theorem wp_lcE {tl : TA} (h : tl σ H fun us H1 => ∃ b ys, us = [.ref b] ∧ SqL K H1 b ys ∧ LcW (Ite K b) g tt te vs σ H1 Q) : tLc (iEnum K tl) g tt te vs σ H Q := h
theorem inV_int {k : Int} {is : List Int} : inV (.int k) (is.map V.int) = decide (k ∈ is) := by
  unfold inV
  rw [List.any_map, Bool.eq_iff_iff, List.any_eq_true, decide_eq_true_eq]
  constructor
  · rintro ⟨x, hx, e⟩
    have e2 : (x == k) = true := e
    rw [beq_iff_eq] at e2
    rw [← e2]; exact hx
  · intro h
    refine ⟨k, h, ?_⟩
    show (k == k) = true
    exact beq_self_eq_true _
theorem wp_notInI {p : Addr} {k : Int} {is : List Int} (hx : SqL K H p (is.map V.int) ∨ SqT K H p (is.map V.int)) (h : Q (.bl (!decide (k ∈ is))) H) : rIn K true (.int k) (.ref p) H Q := by
  refine ⟨p, is.map V.int, rfl, hx, rfl, by rw [List.all_map, List.all_eq_true]; intro x _; rfl, ?_⟩
  show Q (.bl (!inV (.int k) (is.map V.int))) H
  rw [inV_int]; exact h
end
/-- what stays of a list without these places -/
def keepG {α : Type} (is : List Int) (xs : List α) : Nat → List α
  | 0 => []
  | i + 1 => if (i : Int) ∈ is then keepG is xs i else keepG is xs i ++ (xs[i]?).toList
theorem keepG_len {α : Type} {is : List Int} {xs : List α} : ∀ i, (keepG is xs i).length ≤ i
  | 0 => Nat.le_refl _
  | i + 1 => by
    unfold keepG
    have := keepG_len (is := is) (xs := xs) i
    split
    · omega
    · rw [List.length_append]
      cases xs[i]? <;> simp <;> omega
theorem keepG_mem {α : Type} {is : List Int} {xs : List α} {y : α} : ∀ {i}, y ∈ keepG is xs i → y ∈ xs
  | 0, h => absurd h (by simp [keepG])
  | i + 1, h => by
    unfold keepG at h
    split at h
    · exact keepG_mem h
    · rcases List.mem_append.mp h with h | h
      · exact keepG_mem h
      · cases e : xs[i]? with
        | none => rw [e] at h; simp at h
        | some z =>
          rw [e] at h
          simp at h
          rw [h]
          exact List.mem_of_getElem? e
theorem Rws.keep {H : Hp} {ss : List V} {rs : List Row} (h : Rws H ss rs) (is : List Int) : ∀ n, Rws H (keepG is ss n) (keepG is rs n)
  | 0 => .nil
  | n + 1 => by
    unfold keepG
    split
    · exact h.keep is n
    · refine (h.keep is n).app ?_
      cases e : ss[n]? with
      | none =>
        have : rs[n]? = none := by
          rw [List.getElem?_eq_none_iff] at e ⊢
          rw [← h.len]; exact e
        rw [this]
        exact .nil
      | some x =>
        obtain ⟨r, e1, e2⟩ := h.at e
        rw [e1]
        exact .cons e2 .nil
def flipR (r : Row) : Row := ⟨r.v, r.u, r.lo, r.hi, r.w⟩
theorem OkR.flip {T : Int} {ns : List (List Nat)} {r : Row} (k : OkR T ns r) : OkR T ns (flipR r) := ⟨k.v, k.u, k.ne.symm, k.l0, k.l1, k.h0, k.h1, k.w0, k.w1⟩
/-- rows that are good make good spans -/
theorem Rws.sp {H : Hp} {T : Int} {ns : List (List Nat)} {ss : List V} {rs : List Row} (h : Rws H ss rs) (k : ∀ r ∈ rs, OkR T ns r) : ∀ x ∈ ss, IsSp H T ns x := by
  induction h with
  | nil => simp
  | @cons x r xs rs h1 t ih =>
    intro z hz
    rcases List.mem_cons.mp hz with rfl | hz
    · exact ⟨r, h1, k r List.mem_cons_self⟩
    · exact ih (fun y hy => k y (List.mem_cons_of_mem _ hy)) z hz
theorem Rws.okr {H : Hp} {T : Int} {ns : List (List Nat)} {ss : List V} {rs : List Row} (h : Rws H ss rs) (k : ∀ x ∈ ss, IsSp H T ns x) : ∀ r ∈ rs, OkR T ns r := by
  induction h with
  | nil => simp
  | @cons x r xs rs h1 t ih =>
    intro z hz
    rcases List.mem_cons.mp hz with rfl | hz
    · obtain ⟨r', k1, k2⟩ := k x List.mem_cons_self
      rw [h1.inj k1]
      exact k2
    · exact ih (fun y hy => k y (List.mem_cons_of_mem _ hy)) z hz
theorem sm_rows {H : Hp} {n : Nat} {x y : V} {r : Row} (h : IsRow H x r) (k : IsRow H y r) : Sm H (n + 2) x y := by
  obtain ⟨p, rfl, h⟩ := h
  obtain ⟨q, rfl, k⟩ := k
  refine sm_tup h k (by simp [rowV]) fun y hy => ?_
  simp only [rowV, List.mem_cons, List.not_mem_nil, or_false] at hy
  rcases hy with rfl | rfl | rfl | rfl | rfl
  · exact sm_str
  · exact sm_str
  · exact sm_int
  · exact sm_int
  · exact sm_int
theorem sm_rws {H : Hp} {n : Nat} {a b : Addr} {xs ys : List V} {rs : List Row} (ha : H a = some (.lst xs)) (hb : H b = some (.lst ys)) (h : Rws H xs rs) (k : Rws H ys rs) (hl : rs.length ≤ 1000) : Sm H (n + 3) (.ref a) (.ref b) :=
  .inr ⟨a, b, xs, ys, rfl, rfl, .inl ⟨ha, hb⟩, by rw [h.len, k.len], by rw [k.len]; exact hl, fun i x y hx hy => by
    obtain ⟨r, e1, e2⟩ := h.at hx
    obtain ⟨s, e3, e4⟩ := k.at hy
    rw [e1] at e3
    cases e3
    exact sm_rows e2 e4⟩
section
variable {σ : L2.St} {H : Hp} {Q : VK} {K : PySem.W.Frag} {g : TG} {te : TE} {vs : List Nat}
/-- a comprehension that makes new things: I speaks of what is known (G), the list itself aside -/
theorem lcInvL {a : Addr} {xs : List V} (hx : SqL K H a xs) (hn : xs.length ≤ 100000) (I : Nat → List V → Hp → Prop) (h0 : I 0 [] H)
    (hs : ∀ i x acc G H2 (R : VK), xs[i]? = some x → Same H G → Same G H2 → I i acc G → (∀ y G' H6, Same G G' → Same G' H6 → Same H2 H6 → (∀ q o, H2 q = some o → G q = none → G' q = none) → I (i + 1) (acc ++ [y]) G' → R y H6) → g x (wipe σ vs) H2 fun σ2 H4 => wipe σ2 vs = wipe σ vs ∧ te σ2 H4 R)
    (hq : ∀ D acc G H2, H D = none → Same H G → Same G H2 → H2 D = some (.lst acc) → acc.length ≤ xs.length → I xs.length acc G → G D = none → Q (.ref D) H2) : ∃ b, V.ref a = .ref b ∧ (∃ ys, SqL K H b ys) ∧ LcW (Itl K b) g tYes te vs σ H Q := by
  refine ⟨a, rfl, ⟨xs, hx⟩, ?_⟩
  intro D hD
  refine lc_it (walk_list (xs := xs)) (fun i H2 => ∃ acc G, Same H G ∧ Same G H2 ∧ G D = none ∧ H2 D = some (.lst acc) ∧ acc.length ≤ i ∧ I i acc G) ⟨[], H, Same.refl _, Same.new hD, hD, upd_same, Nat.le_refl _, h0⟩ (fun i H2 _ p => ?_) (fun i x H2 H3 hi p y => ?_) (fun H2 p => ?_)
  · obtain ⟨acc, G, s1, s2, _⟩ := p
    exact Same.seq (s1.trans s2) hx
  · obtain ⟨e, hi2⟩ := y
    subst e
    obtain ⟨acc, G, s1, s2, gD, hD2, hl, hI⟩ := p
    have z := hs i x acc G _ (fun y H4 => ∃ acc', H4 D = some (.lst acc') ∧ acc'.length < sizeLine ∧ ∃ acc2 G2, Same H G2 ∧ Same G2 (upd H4 D (.lst (acc' ++ [y]))) ∧ G2 D = none ∧ upd H4 D (.lst (acc' ++ [y])) D = some (.lst acc2) ∧ acc2.length ≤ i + 1 ∧ I (i + 1) acc2 G2) hi2 s1 s2 hI
      (fun y G' H6 t1 t2 t3 t4 hI2 => ⟨acc, t3 _ _ hD2, szlt (by omega), acc ++ [y], G', s1.trans t1, Same.mut t2 (t4 _ _ hD2 gD), t4 _ _ hD2 gD, upd_same, by rw [List.length_append]; simp; omega, hI2⟩)
    exact z
  · obtain ⟨acc, G, s1, s2, gD, hD2, hl, hI⟩ := p
    exact hq D acc G H2 hD s1 s2 hD2 hl hI gD
end
theorem wp_star {σ : L2.St} {H : Hp} {K : PySem.W.Frag} {tl : TA} {QA : List V → Hp → Prop} {p : Addr} {xs : List V} (hx : SqT K H p xs ∨ SqL K H p xs) (h : tl σ H fun ys H2 => QA (xs ++ ys) H2) : ∃ p' xs, V.ref p = V.ref p' ∧ (SqT K H p' xs ∨ SqL K H p' xs) ∧ tl σ H fun ys H2 => QA (xs ++ ys) H2 := ⟨p, xs, rfl, hx, h⟩
theorem wp_starT {σ : L2.St} {H : Hp} {K : PySem.W.Frag} {te : TE} {tl : TA} {QA : List V → Hp → Prop} (h : te σ H fun x H1 => ∃ p xs, x = V.ref p ∧ (SqT K H1 p xs ∨ SqL K H1 p xs) ∧ tl σ H1 fun ys H2 => QA (xs ++ ys) H2) : StX.tStar K te tl σ H QA := h
theorem Rws.set {H : Hp} {x : V} {r : Row} (hx : IsRow H x r) : ∀ {ss : List V} {rs : List Row} (i : Nat), Rws H ss rs → Rws H (ss.set i x) (rs.set i r)
  | _, _, _, .nil => .nil
  | _, _, 0, .cons _ t => .cons hx t
  | _, _, i + 1, .cons h t => .cons h (t.set hx i)
section
variable {σ : L2.St} {H : Hp} {Q : VK} {ta : TE} {tl tk : TA} {K : PySem.W.Frag} {sp : Sp} {E : XK} {C : Addr} {m : Str}
def MetWD (C : Addr) (m : Str) (sp : Sp) (dvs : List V) (E : XK) (t : TA) (σ : L2.St) (Q : VK) (x : V) (H1 : Hp) : Prop := ∃ a dx fs, x = .ref a ∧ H1 a = some (.ins C dx fs) ∧ fs.lookup m = none ∧ t σ H1 fun vs H2 => sp (x :: (vs ++ dvs)) H2 Q E
theorem wp_methD {d : V} (h : ta σ H fun x H1 => MetWD C m sp [d] E tl σ Q x H1) : tMeth C m sp [d] E ta tl σ H Q := h
theorem met_atD {a dx : Addr} {fs : List (Str × V)} {dvs : List V} (ha : H a = some (.ins C dx fs)) (hl : fs.lookup m = none) (q : tl σ H fun vs H2 => sp (.ref a :: (vs ++ dvs)) H2 Q E) : MetWD C m sp dvs E tl σ Q (.ref a) H := ⟨a, dx, fs, rfl, ha, hl, q⟩
def MetWR (C : Addr) (m : Str) (sp : Sp) (E : XK) (t : TA) (σ : L2.St) (Q : VK) (x : V) (H1 : Hp) : Prop := ∃ a dx fs, x = .ref a ∧ H1 a = some (.ins C dx fs) ∧ fs.lookup m = none ∧ t σ H1 fun vs H2 => sp (x :: vs) H2 Q E
theorem wp_methR (h : ta σ H fun x H1 => MetWR C m sp E tl σ Q x H1) : tMethR C m sp E ta tl σ H Q := h
theorem met_atR {a dx : Addr} {fs : List (Str × V)} (ha : H a = some (.ins C dx fs)) (hl : fs.lookup m = none) (q : tl σ H fun vs H2 => sp (.ref a :: vs) H2 Q E) : MetWR C m sp E tl σ Q (.ref a) H := ⟨a, dx, fs, rfl, ha, hl, q⟩
end
theorem wp_yes {σ : L2.St} {H : Hp} {QT : Bool → Hp → Prop} (h : QT true H) : tYes σ H QT := h
theorem Sees.new' {P : Pl} {q : Addr} {G H : Hp} (o : HO) (s : Sees P G H) (hq : H q = none) : ∃ G', Sees P G' (upd H q o) ∧ Same G G' ∧ G' q = some o := ⟨_, s.new hq, Same.new (s.sub.free hq), upd_same⟩
theorem net_at {C : Addr} {H : Hp} {a : Addr} {T : Int} {ns : List (List Nat)} {ss : List V} (h : IsNet C H a T ns ss) : ∃ dx le ls, H a = some (.ins C dx (netF T le ls)) := by
  obtain ⟨dx, le, ls, h, _⟩ := h
  exact ⟨dx, le, ls, h⟩
theorem keepG_nil {α : Type} {xs : List α} : ∀ n, keepG [] xs n = xs.take n
  | 0 => rfl
  | n + 1 => by
    show (if (n : Int) ∈ ([] : List Int) then _ else keepG [] xs n ++ (xs[n]?).toList) = _
    rw [if_neg (by simp), keepG_nil n, List.take_succ]
theorem keepG_none {α : Type} {xs : List α} : keepG [] xs xs.length = xs := by rw [keepG_nil, List.take_length]
theorem flip_flip (rs : List Row) : (rs.map flipR).map flipR = rs := by
  rw [List.map_map]
  exact List.map_id rs
end RM
namespace RM
open PySem PySem.Spec PyProof.Rows L2
/-! ### methods with a star parameter, with keywords -/
section
variable {X : Cx} {k j : Nat} {C : Addr} {m : Str} {sp : Sp} {apos pos : Pos} {e o : Expr} {es : List Expr} {ta : TE} {t tk : TA}
theorem cxUp0 : StX.CXUp CX0 := fun _ _ _ _ _ _ _ _ _ _ _ z => z
theorem fun_star {P : Program} {w : World} {K : PySem.W.Frag} {mg : Str → Option Value} {base : Heap} {x qual pv : Str} {params : Arguments} {body : List Stmt} {scope : Scope} {f : Addr} {fd : FuncData} {N ps : List Str}
    (F : FunD K x qual params body scope [] [] f fd) (S : FnScope N (ps ++ [pv]) scope)
    (hb : ∀ (kV doc pm : Value) (an : Option Addr) (cdv ct : Value) (us rest : List Value), us.length = ps.length → bindArgs (PySem.W.fnOf x qual params body scope .none kV doc pm an cdv ct) ⟨us ++ rest, []⟩ = (newTuple rest >>= fun t => pure (ps.zip us ++ [(pv, t)])))
    (hbody : ∀ (cdv : Value) (A : Around) (outer : List Env) (s : Shared) (H : Hp) (vs : List V) (Q : VK) (E : XK), Room k (A.deeper (envOfC qual scope s.heap.objs.size f cdv)) → sp vs H Q E →
      ∃ t, PSs (cxOf CX0 P w K mg base N qual scope f cdv A outer s H E) body t ∧ t { nx := fun _ H' => Q .non H', rt := Q } (L2.start N vs) H) :
    FnR P w K mg base CX0 (k + 1) f (fun vs H Q E => ∃ ws rest, vs = ws ++ rest ∧ ws.length = ps.length ∧ rest.length ≤ sizeLine ∧ ∀ p, H p = none → sp (ws ++ [V.ref p]) (upd H p (.tup rest)) Q E) := by
  obtain ⟨oc, od, dV, kV, doc, pm, an, cdv, ct, osl, rfl, lk, hcd, hD, _⟩ := F.ex
  rcases hD with ⟨_, rfl⟩ | ⟨e, _⟩
  · exact StX.fn_star lk hcd S cxUp0 (hb kV doc pm an cdv ct) fun A outer s H vs Q E hr h => hbody cdv A outer s H vs Q E hr h
  · exact absurd rfl e
/-- what is handed to a star parameter: a new tuple -/
def StarW (sp : Sp) : Sp := fun vs H Q E => ∃ x rest, vs = x :: rest ∧ rest.length ≤ 1000 ∧ ∀ p, H p = none → sp [x, V.ref p] (upd H p (.tup rest)) Q E
/-- a method def m(self, *v) -/
structure MetS (P : Program) (w : World) (K : PySem.W.Frag) (mg : Str → Option Value) (base : Heap) (k : Nat) (C : Addr) (m : Str) (sp : Sp) : Prop where
  ex : ∃ f : Addr, Cls K C ∧ Meth K C m f ∧ FnR P w K mg base CX0 k f (StarW sp)
theorem MetS.of {P : Program} {w : World} {K : PySem.W.Frag} {mg : Str → Option Value} {base : Heap} {f : Addr} {p0 : Str} (c : Cls K C) (hm : Meth K C m f)
    (F : FnR P w K mg base CX0 k f (fun vs H Q E => ∃ ws rest, vs = ws ++ rest ∧ ws.length = [p0].length ∧ rest.length ≤ sizeLine ∧ ∀ p, H p = none → sp (ws ++ [V.ref p]) (upd H p (.tup rest)) Q E)) : MetS P w K mg base k C m sp :=
  ⟨f, c, hm, F.imp fun vs H Q E ⟨x, rest, e, hl, q⟩ => ⟨[x], rest, e, rfl, szl (by omega), q⟩⟩
/-- o.m(es, kws) as it is run -/
def MC (X : Cx) (o : Expr) (m : Str) (apos pos : Pos) (es : List Expr) (kws : List Keyword) (pl : Sem Bool) : Prop :=
  eval (.Call (.Attribute o m apos) es kws pos) X.env = (eval o X.env >>= fun ov => standAt apos.atName >>= fun _ => holding [ov] (getMethod ov m pl) >>= fun q =>
    callWith pos q.1 q.2 (backTo pos (starEach es X.env)) (backToKw pos (keywordEach kws X.env)))
def NoStar (X : Cx) (pos : Pos) (e : Expr) (es : List Expr) : Prop := starEach (e :: es) X.env = (false, eval e X.env) :: starEach es X.env ∧ (backTo pos (starEach es X.env)).any (·.1) = false
theorem pe_mtS {pl : Sem Bool} (c : MetS X.prog X.w X.K X.mg X.base k C m sp) (hr : Room j X.A) (hk : k ≤ j) (he : PE X o ta) (ha : PA X (e :: es) t) (hst : NoStar X pos e es := by exact ⟨rfl, rfl⟩) (ht : MC X o m apos pos (e :: es) [] pl := by exact rfl) :
    PE X (.Call (.Attribute o m apos) (e :: es) [] pos) (tMethR C m (StarW sp) E0 ta t) := by
  obtain ⟨f, hc, hm, F⟩ := c.ex
  exact pe_methR (pl := pl) he hc hm F (hr.mono hk) C8.pass0 ha hst.1 hst.2 ht
theorem pe_mtS0 {pl : Sem Bool} (c : MetS X.prog X.w X.K X.mg X.base k C m sp) (hr : Room j X.A) (hk : k ≤ j) (he : PE X o ta) (ht : MC X o m apos pos [] [] pl := by exact rfl) :
    PE X (.Call (.Attribute o m apos) [] [] pos) (tMethR C m (StarW sp) E0 ta tNil) := by
  obtain ⟨f, hc, hm, F⟩ := c.ex
  refine ⟨fun pins s σ H Q I h => PySem.W.methodCall_KW (pl := pl) (thn (he.run pins s σ H _ I h) fun u s1 hu => ?_) ht⟩
  obtain ⟨x, H1, I1, rx, a, dx, fs, rfl, ea, l, q⟩ := hu
  cases rx
  refine getmeth_ok I1 ea hc hm l (PySem.W.callWith_K0 (first := [.ref a]) I1.kIn hm.kp ?_)
  exact wpAny_call (run_fnR (us := [.ref a]) (vs := [.ref a]) F (hr.mono hk) C8.pass0 I1 (.cons rfl .nil) q)
/-- a method called with keywords: n the number of positional values, self among them -/
structure MetK (P : Program) (w : World) (K : PySem.W.Frag) (mg : Str → Option Value) (base : Heap) (k : Nat) (C : Addr) (m : Str) (sp : Sp) (n : Nat) (ks : List Str) : Prop where
  ex : ∃ (f : Addr) (fd : FuncData) (ps : List Str), Cls K C ∧ Meth K C m f ∧ FnOk P w K mg base CX0 k f fd ps sp ∧ KBn K fd ps n ks (fun us ws => us ++ ws) (fun us ws => us ++ ws)
def tMethK (C : Addr) (m : Str) (n r : Nat) (sp : Sp) (ta : TE) (t tk : TA) : TE := fun σ H Q => ta σ H fun x H1 => ∃ a dx fs, x = .ref a ∧ H1 a = some (.ins C dx fs) ∧ fs.lookup m = none ∧ t σ H1 fun vs H2 => tk σ H2 fun zs H3 => (x :: vs).length = n ∧ zs.length = r ∧ sp (x :: (vs ++ zs)) H3 Q E0
def KwOk (X : Cx) (pos : Pos) (e : Expr) (es : List Expr) (kws : List Keyword) (ks : List Str) : Prop :=
  (backToKw pos (keywordEach kws X.env)).all (·.1.isSome) = true ∧ (backToKw pos (keywordEach kws X.env)).filterMap (·.1) = ks ∧ starEach (e :: es) X.env = (false, eval e X.env) :: starEach es X.env ∧
    ((backTo pos (starEach (e :: es) X.env)).any (·.1) || (backToKw pos (keywordEach kws X.env)).any (·.1.isNone)) = false
theorem pe_mtK {pl : Sem Bool} {n r : Nat} {ks : List Str} {kws : List Keyword} (c : MetK X.prog X.w X.K X.mg X.base k C m sp n ks) (hr : Room j X.A) (hk : k ≤ j) (he : PE X o ta) (ha : PA X (e :: es) t) (hkw : PK X kws tk)
    (hq : KwOk X pos e es kws ks := by exact ⟨rfl, rfl, rfl, rfl⟩) (ht : MC X o m apos pos (e :: es) kws pl := by exact rfl) (hl : ks.length = r := by rfl) : PE X (.Call (.Attribute o m apos) (e :: es) kws pos) (tMethK C m n r sp ta t tk) := by
  subst hl
  obtain ⟨f, fd, ps, hc, hm, F, hb⟩ := c.ex
  refine ⟨fun pins s σ H Q I h => PySem.W.methodCall_KW (pl := pl) (thn (he.run pins s σ H _ I h) fun u s1 hu => ?_) ht⟩
  obtain ⟨x, H1, I1, rx, a, dx, fs, rfl, ea, l, q⟩ := hu
  cases rx
  refine getmeth_ok I1 ea hc hm l (PySem.W.callWith_KW (first := [.ref a]) (h₀ := X.base) I.ok.mod.kin hm.kp hq.1 (thn (ha.run pos pins s1 σ H1 _ I1 q) fun us s2 hu => ?_) hq.2.2.2 hq.2.2.1)
  obtain ⟨vs, H2, I2, r, q2⟩ := hu
  refine thn (hkw.run pos pins s2 σ H2 _ I2 q2) fun ws s3 hw => ?_
  obtain ⟨zs, H3, I3, rz, l1, l2, q3⟩ := hw
  refine ⟨I3.kIn, ?_⟩
  rw [hq.2.1]
  exact run_fnN (us := .ref a :: us) (vs := .ref a :: vs) F (hr.mono hk) hb C8.pass0 I3 (.cons rfl r) rz l1 l2 q3
/-- keyword-only parameters, all given in their order; no positional defaults -/
theorem kbn_all {K : PySem.W.Frag} {x qual : Str} {params : Arguments} {body : List Stmt} {scope : Scope} {kws : List (Str × V)} {f : Addr} {fd : FuncData} {ps : List Str} (F : FunD K x qual params body scope [] kws f fd) (n : Nat) (ks : List Str)
    (h : ∀ (kV doc pm : Value) (an : Option Addr) (cdv ct : Value) (us ws : List Value), us.length = n → ws.length = ks.length → bindArgs (PySem.W.fnOf x qual params body scope .none kV doc pm an cdv ct) ⟨us, ks.zip ws⟩ = pure (ps.zip (us ++ ws))) : KBn K fd ps n ks (fun us ws => us ++ ws) (fun us ws => us ++ ws) := by
  obtain ⟨oc, od, dV, kV, doc, pm, an, cdv, ct, osl, rfl, lk, hcd, hD, _⟩ := F.ex
  rcases hD with ⟨_, rfl⟩ | ⟨e, _⟩
  · exact ⟨fun s us ws _ l1 l2 => .of_eq (h kV doc pm an cdv ct us ws l1 l2), fun r1 r2 => r1.append r2⟩
  · exact absurd rfl e
end
end RM
namespace RM
open PySem PySem.Spec PyProof.Rows L2
section
variable {σ : L2.St} {H : Hp} {Q : VK} {ta : TE} {tl tk : TA} {sp : Sp} {C : Addr} {m : Str}
def MetWK (C : Addr) (m : Str) (n r : Nat) (sp : Sp) (t tk : TA) (σ : L2.St) (Q : VK) (x : V) (H1 : Hp) : Prop := ∃ a dx fs, x = .ref a ∧ H1 a = some (.ins C dx fs) ∧ fs.lookup m = none ∧ t σ H1 fun vs H2 => tk σ H2 fun zs H3 => (x :: vs).length = n ∧ zs.length = r ∧ sp (x :: (vs ++ zs)) H3 Q E0
theorem wp_methK {n r : Nat} (h : ta σ H fun x H1 => MetWK C m n r sp tl tk σ Q x H1) : tMethK C m n r sp ta tl tk σ H Q := h
theorem met_atK {a dx : Addr} {fs : List (Str × V)} {n r : Nat} (ha : H a = some (.ins C dx fs)) (hl : fs.lookup m = none) (q : tl σ H fun vs H2 => tk σ H2 fun zs H3 => (V.ref a :: vs).length = n ∧ zs.length = r ∧ sp (.ref a :: (vs ++ zs)) H3 Q E0) : MetWK C m n r sp tl tk σ Q (.ref a) H := ⟨a, dx, fs, rfl, ha, hl, q⟩
end
end RM
namespace RM
open PySem PySem.Spec PyProof.Rows L2
local macro_rules | `(tactic| walk_at "vn") => `(tactic| (first
  | with_reducible refine wp_v0 ?_
  | with_reducible refine wp_v1 ?_
  | with_reducible refine wp_v2 ?_
  | with_reducible refine wp_v3 ?_
  | with_reducible refine wp_v4 ?_
  | with_reducible refine wp_v5 ?_
  | with_reducible refine wp_v6 ?_
  | with_reducible refine wp_v7 ?_
  | with_reducible refine wp_v8 ?_
  | with_reducible refine wp_v9 ?_
  | with_reducible refine wp_v10 ?_
  | with_reducible refine wp_v11 ?_
  | with_reducible refine wp_v12 ?_
  | with_reducible refine wp_v13 ?_
  | with_reducible refine wp_v14 ?_
  | with_reducible refine wp_v15 ?_
  | with_reducible refine wp_v16 ?_
  | with_reducible refine wp_v17 ?_
  | with_reducible refine wp_v18 ?_
  | with_reducible refine wp_v19 ?_
  | with_reducible refine wp_v20 ?_
  | with_reducible refine wp_v21 ?_
  | with_reducible refine wp_v22 ?_
  | with_reducible refine wp_v23 ?_
  | with_reducible refine wp_v24 ?_
  | with_reducible refine wp_v25 ?_))
local macro_rules | `(tactic| walk_at "gn") => `(tactic| (first
  | with_reducible refine wp_g0 ?_
  | with_reducible refine wp_g1 ?_
  | with_reducible refine wp_g2 ?_
  | with_reducible refine wp_g3 ?_
  | with_reducible refine wp_g4 ?_
  | with_reducible refine wp_g5 ?_
  | with_reducible refine wp_g6 ?_
  | with_reducible refine wp_g7 ?_
  | with_reducible refine wp_g8 ?_
  | with_reducible refine wp_g9 ?_
  | with_reducible refine wp_g10 ?_
  | with_reducible refine wp_g11 ?_
  | with_reducible refine wp_g12 ?_
  | with_reducible refine wp_g13 ?_
  | with_reducible refine wp_g14 ?_
  | with_reducible refine wp_g15 ?_
  | with_reducible refine wp_g16 ?_
  | with_reducible refine wp_g17 ?_
  | with_reducible refine wp_g18 ?_
  | with_reducible refine wp_g19 ?_
  | with_reducible refine wp_g20 ?_
  | with_reducible refine wp_g21 ?_
  | with_reducible refine wp_g22 ?_
  | with_reducible refine wp_g23 ?_
  | with_reducible refine wp_g24 ?_
  | with_reducible refine wp_g25 ?_))
local macro_rules | `(tactic| walk_at "h") => `(tactic| (first
  | assumption
  | exact upd_same
  | exact (Sees.sub (by assumption) _ _ (by assumption))
  | exact (Sees.sub (by assumption) _ _ upd_same)
  | exact (Sees.sub (by assumption) _ _ (Eq.trans (upd_ne (by first | assumption | exact Ne.symm (by assumption))) (by assumption)))
  | exact (Sees.cell (by assumption))
  | exact (Sees.sub (by assumption) _ _ (Sees.cell (by assumption))) | fail "h"))
local macro_rules | `(tactic| walk_at "sq") => `(tactic| (first | assumption | exact sq_of (by walk_at "h") | fail "sq"))
local macro_rules | `(tactic| walk_at "tq") => `(tactic| (first | assumption | exact st_of (by walk_at "h") | fail "tq"))
local macro_rules | `(tactic| walk_at "isi") => `(tactic| (first
  | with_reducible refine is_non_int ?_
  | with_reducible refine is_non_bool ?_
  | with_reducible refine is_non_str ?_
  | with_reducible refine is_non_dict ?_
  | with_reducible refine is_non_list ?_
  | with_reducible refine is_non_tuple ?_
  | with_reducible refine is_bl_int ?_
  | with_reducible refine is_bl_bool ?_
  | with_reducible refine is_bl_str ?_
  | with_reducible refine is_bl_dict ?_
  | with_reducible refine is_bl_list ?_
  | with_reducible refine is_bl_tuple ?_
  | with_reducible refine is_int_int ?_
  | with_reducible refine is_int_bool ?_
  | with_reducible refine is_int_str ?_
  | with_reducible refine is_int_dict ?_
  | with_reducible refine is_int_list ?_
  | with_reducible refine is_int_tuple ?_
  | with_reducible refine is_str_int ?_
  | with_reducible refine is_str_bool ?_
  | with_reducible refine is_str_str ?_
  | with_reducible refine is_str_dict ?_
  | with_reducible refine is_str_list ?_
  | with_reducible refine is_str_tuple ?_
  | ((with_reducible refine' is_lst_int ?k1 ?_); (case k1 => walk_at "h"))
  | ((with_reducible refine' is_lst_bool ?k1 ?_); (case k1 => walk_at "h"))
  | ((with_reducible refine' is_lst_str ?k1 ?_); (case k1 => walk_at "h"))
  | ((with_reducible refine' is_lst_dict ?k1 ?_); (case k1 => walk_at "h"))
  | ((with_reducible refine' is_lst_list ?k1 ?_); (case k1 => walk_at "h"))
  | ((with_reducible refine' is_lst_tuple ?k1 ?_); (case k1 => walk_at "h"))
  | ((with_reducible refine' is_tup_int ?k1 ?_); (case k1 => walk_at "h"))
  | ((with_reducible refine' is_tup_bool ?k1 ?_); (case k1 => walk_at "h"))
  | ((with_reducible refine' is_tup_str ?k1 ?_); (case k1 => walk_at "h"))
  | ((with_reducible refine' is_tup_dict ?k1 ?_); (case k1 => walk_at "h"))
  | ((with_reducible refine' is_tup_list ?k1 ?_); (case k1 => walk_at "h"))
  | ((with_reducible refine' is_tup_tuple ?k1 ?_); (case k1 => walk_at "h"))
  | ((with_reducible refine' is_dK_int ?k1 ?_); (case k1 => walk_at "h"))
  | ((with_reducible refine' is_dK_bool ?k1 ?_); (case k1 => walk_at "h"))
  | ((with_reducible refine' is_dK_str ?k1 ?_); (case k1 => walk_at "h"))
  | ((with_reducible refine' is_dK_dict ?k1 ?_); (case k1 => walk_at "h"))
  | ((with_reducible refine' is_dK_list ?k1 ?_); (case k1 => walk_at "h"))
  | ((with_reducible refine' is_dK_tuple ?k1 ?_); (case k1 => walk_at "h"))
  | fail "isi"))
local macro_rules | `(tactic| walk_at "len") => `(tactic| (first | assumption | omega | (simp only [List.length_map, List.length_append, List.length_cons, List.length_nil] <;> omega) | decide | fail "len"))
local macro_rules | `(tactic| walk_at "at") => `(tactic| (first | exact at0 | exact at1 | exact at2 | exact at3 | exact at4 | rfl | assumption | fail "at"))
local macro_rules | `(tactic| walk_at "one") => `(tactic| (first
  | with_reducible refine wp_seq ?_
  | with_reducible refine wp_asg ?_
  | ((with_reducible refine is_var ?_); walk_at "vn")
  | ((with_reducible refine is_gname ?_); walk_at "gn")
  | with_reducible refine wp_c ?_
  | with_reducible refine wp_op ?_
  | with_reducible refine wp_cb ?_
  | with_reducible refine wp_cons ?_
  | with_reducible refine wp_nil ?_
  | with_reducible refine wp_call ?_
  | with_reducible refine wp_ret ?_
  | with_reducible refine wp_dgetE ?_
  | with_reducible refine wp_forItems ?_
  | with_reducible refine wp_forOwnL ?_
  | with_reducible refine wp_forOwnK ?_
  | with_reducible refine wp_subOwn ?_
  | with_reducible refine wp_din ?_
  | with_reducible refine wp_next ?_
  | with_reducible refine wp_rI0 ?_
  | with_reducible refine wp_int1 ?_
  | with_reducible refine wp_test ?_
  | with_reducible refine wp_bl ?_
  | with_reducible refine wp_ifS ?_
  | with_reducible refine wp_drop ?_
  | with_reducible refine wp_eqI ?_
  | with_reducible refine wp_eqS ?_
  | with_reducible refine wp_eqB ?_
  | with_reducible refine wp_neI ?_
  | with_reducible refine wp_neS ?_
  | with_reducible refine wp_min2 ?_
  | with_reducible refine wp_max2 ?_
  | with_reducible refine wp_find ?_
  | with_reducible refine wp_B ?_
  | with_reducible refine wp_not ?_
  | with_reducible refine wp_and ?_
  | with_reducible refine wp_or ?_
  | with_reducible refine wp_notV ?_
  | with_reducible refine wp_andV ?_
  | with_reducible refine wp_orV ?_
  | with_reducible refine wp_ifE ?_
  | with_reducible refine wp_chain ?_
  | with_reducible refine wp_slice ?_
  | with_reducible refine wp_noPart ?_
  | with_reducible refine wp_part ?_
  | with_reducible refine wp_partI ?_
  | with_reducible refine wp_for1 ?_
  | with_reducible refine wp_for2 ?_
  | with_reducible refine wp_forL ?_
  | with_reducible refine wp_forT ?_
  | with_reducible refine wp_forS ?_
  | with_reducible refine wp_lcL ?_
  | with_reducible refine wp_lcT ?_
  | with_reducible refine wp_lcS ?_
  | with_reducible refine wp_lc1 ?_
  | with_reducible refine wp_lcE ?_
  | with_reducible refine wp_starT ?_
  | with_reducible refine wp_brk ?_
  | with_reducible refine wp_cont ?_
  | with_reducible refine wp_bm ?_
  | with_reducible refine wp_bm0 ?_
  | with_reducible refine wp_gsub ?_
  | with_reducible refine wp_inS ?_
  | with_reducible refine wp_notInS ?_
  | with_reducible refine wp_un ?_
  | with_reducible refine wp_rU ?_
  | with_reducible refine wp_tup ?_
  | with_reducible refine wp_lst ?_
  | with_reducible refine ty_str ?_
  | with_reducible refine ite_t ?_
  | with_reducible refine ite_f ?_
  | with_reducible refine ite_nt ?_
  | with_reducible refine ite_nff ?_
  | ((with_reducible refine' ite_T ?k1 ?_); (case k1 => omega))
  | ((with_reducible refine' ite_F ?k1 ?_); (case k1 => omega))
  | ((with_reducible refine' ite_nT ?k1 ?_); (case k1 => omega))
  | ((with_reducible refine' ite_nF ?k1 ?_); (case k1 => omega))
  | ((with_reducible refine' wp_rI ?k1 ?_); (case k1 => (first | omega | exact ⟨by omega, by omega⟩ | exact .inr ⟨by decide, by decide⟩ | exact .inl ⟨by omega, by omega⟩ | exact .inl ⟨by decide, by decide⟩ | exact ⟨by decide, by decide, by decide⟩)))
  | ((with_reducible refine' wp_ixL ?k1 ?k2 ?_); (case k1 => walk_at "sq"); (case k2 => walk_at "at"))
  | ((with_reducible refine' wp_setL0 ?k1 ?_); (case k1 => walk_at "h"))
  | ((with_reducible refine' wp_setL1 ?k1 ?_); (case k1 => walk_at "h"))
  | ((with_reducible refine' wp_setL ?k1 ?k2 ?_); (case k1 => walk_at "h"); (case k2 => walk_at "at"))
  | ((with_reducible refine' wp_ixT ?k1 ?k2 ?_); (case k1 => walk_at "tq"); (case k2 => walk_at "at"))
  | ((with_reducible refine' wp_lenL ?k1 ?_); (case k1 => walk_at "sq"))
  | ((with_reducible refine' wp_lenT ?k1 ?_); (case k1 => walk_at "tq"))
  | ((with_reducible refine' wp_sliceS ?k1 ?_); (case k1 => walk_at "len"))
  | ((with_reducible refine is_isi ?_); walk_at "isi")
  | ((with_reducible refine' wp_lenS ?k1 ?_); (case k1 => walk_at "len"))
  | ((with_reducible refine' wp_addS ?k1 ?_); (case k1 => walk_at "len"))
  | ((with_reducible refine' wp_lenStr ?k1 ?_); (case k1 => walk_at "len"))
  | ((with_reducible refine' ty_list ?k1 ?_); (case k1 => walk_at "sq"))
  | ((with_reducible refine' wp_addStr ?k1 ?_); (case k1 => walk_at "len"))
  | with_reducible refine wp_fldC ?_
  | with_reducible refine wp_sfldC ?_
  | with_reducible refine wp_prop ?_
  | with_reducible refine wp_meth ?_
  | with_reducible refine wp_methD ?_
  | with_reducible refine wp_methK ?_
  | with_reducible refine wp_yes ?_
  | with_reducible refine wp_methR ?_
  | with_reducible refine wp_make ?_
  | with_reducible refine wp_isN ?_
  | with_reducible refine wp_enum ?_
  | with_reducible refine wp_gcons ?_
  | with_reducible refine wp_gnil ?_
  | ((with_reducible refine' wp_gtup ?k1 ?k2 ?_); (case k1 => walk_at "tq"); (case k2 => first | rfl | fail "gtup"))
  | ((with_reducible refine' fld_at ?k1 lk_T ?_); (case k1 => walk_at "h"))
  | ((with_reducible refine' fld_at ?k1 lk_e ?_); (case k1 => walk_at "h"))
  | ((with_reducible refine' fld_at ?k1 lk_mT ?_); (case k1 => walk_at "h"))
  | ((with_reducible refine' fld_at ?k1 lk_md ?_); (case k1 => walk_at "h"))
  | ((with_reducible refine' fld_at ?k1 lk_s ?_); (case k1 => walk_at "h"))
  | ((with_reducible refine' wp_isC ?k1 ?_); (case k1 => walk_at "h"))
  | fail "no step"))
local macro_rules | `(tactic| walk_at "st") => `(tactic| (repeat' walk_at "one"))
def Z64 : List Nat := [32, 33, 34, 35, 36, 38, 39, 40, 41, 42, 43, 44, 45, 46, 47, 48, 49, 50, 51, 52, 53, 54, 55, 56, 57, 58, 59, 60, 61, 62, 63, 64, 65, 66, 67, 68, 69, 70, 71, 72, 73, 74, 75, 76, 77, 78, 79, 80, 81, 82, 83, 84, 85, 86, 87, 88, 89, 90, 91, 92, 93, 94, 95, 96]
def Z30 : List Nat := [97, 98, 99, 100, 101, 102, 103, 104, 105, 106, 107, 108, 109, 110, 111, 112, 113, 114, 115, 116, 117, 118, 119, 120, 121, 122, 123, 124, 125, 126]

def sp_l_draw (K : PySem.W.Frag) : Sp := fun vs H Q _ => ∃ (P : Pl) (m : Int) (G : Hp), vs = [.ref P.p, .int m] ∧ 0 < m ∧ m < 1073741824 ∧ Sees P G H ∧ ∀ d H', 0 ≤ d → d < m → Sees P G H' → Q (.int d) H'
abbrev N_l_draw : List Str := ["_law_pool_here", "_law_many", "_law_found", "_law_cells", "_law_near", "_law_head", "_law_mixed"]
theorem st_l_draw {a0 a1 : V} : L2.start N_l_draw [a0, a1] = [some a0, some a1, none, none, none, none, none] := rfl
def t_l_draw (K : PySem.W.Frag) : TS :=
  (tSeq ((tIfS ((tTest (tOp (rI0 fun i j => .bl (decide (j < i))) ((tOp (rIxL K) (tVar 0) (tC (.int 0)))) (tC (.int 1))))) ((tSeq ((tAsg ((tOp (rI (fun _ j => 0 < j) fun i j => .int (i % j)) ((tCB rInt1 ((tCons ((tOp (rIxL K) (tVar 0) (tC (.int 0)))) (tNil))))) (tVar 1))) (gName 2)))
    ((tSeq ((tAsg ((tOp (rI CDiv fun i j => .int (i / j)) ((tOp (rIxL K) (tVar 0) (tC (.int 0)))) (tVar 1))) (gSub (tVar 0) (tC (.int 0)) rSetL)))
    ((tRet (tVar 2))))))) (tNext)))
    ((tSeq ((tAsg ((tOp (rI0 fun i j => .int (i + j)) ((tOp (rIxL K) (tVar 0) (tC (.int 1)))) (tC (.int 1)))) (gSub (tVar 0) (tC (.int 1)) rSetL)))
    ((tSeq ((tAsg ((tOp (rIxL K) (tVar 0) (tC (.int 2)))) (gName 3)))
    ((tSeq ((tAsg (tC (.int 0)) (gName 4)))
    ((tSeq ((tAsg (tC (.int 0)) (gName 5)))
    ((tSeq ((tIfS ((tTest (tOp (rI0 fun i j => .bl (decide (j < i))) ((tCB (rLenS K) ((tCons (tVar 3) (tNil))))) (tC (.int 0))))) ((tSeq ((tAsg ((tOp (rIxL K) (tVar 3) ((tOp (rI (fun _ j => 0 < j) fun i j => .int (i % j)) ((tCB rInt1 ((tCons ((tOp (rIxL K) (tVar 0) (tC (.int 1)))) (tNil))))) ((tCB (rLenS K) ((tCons (tVar 3) (tNil))))))))) (gName 4)))
    ((tAsg ((tOp (rIxL K) (tVar 3) (tC (.int 0)))) (gName 5))))) (tNext)))
    ((tSeq ((tAsg ((tOp (rI (fun _ j => 0 < j) fun i j => .int (i % j)) ((tCB rInt1 ((tCons ((tOp (rI0 fun i j => .int (i + j)) ((tOp (rI0 fun i j => .int (i + j)) ((tOp (rI0 fun i j => .int (i + j)) ((tOp (rI CMul fun i j => .int (i * j)) (tVar 4) (tC (.int 48271)))) ((tOp (rI CMul fun i j => .int (i * j)) (tVar 5) (tC (.int 16807)))))) ((tOp (rI CMul fun i j => .int (i * j)) ((tOp (rIxL K) (tVar 0) (tC (.int 1)))) (tC (.int 69621)))))) (tC (.int 7)))) (tNil))))) (tC (.int 2147483647)))) (gName 6)))
    ((tSeq ((tAsg ((tOp (rI (fun _ j => 0 < j) fun i j => .int (i % j)) ((tCB rInt1 ((tCons ((tOp (rI0 fun i j => .int (i + j)) ((tOp (rI0 fun i j => .int (i + j)) ((tOp (rI CMul fun i j => .int (i * j)) (tVar 6) (tVar 6))) ((tOp (rI CMul fun i j => .int (i * j)) (tVar 6) (tC (.int 40692)))))) ((tOp (rI CMul fun i j => .int (i * j)) ((tOp (rIxL K) (tVar 0) (tC (.int 1)))) (tC (.int 7919)))))) (tNil))))) (tC (.int 1000000007)))) (gName 6)))
    ((tRet ((tOp (rI (fun _ j => 0 < j) fun i j => .int (i % j)) ((tCB rInt1 ((tCons ((tOp (rI CDiv fun i j => .int (i / j)) (tVar 6) (tC (.int 11)))) (tNil))))) (tVar 1))))))))))))))))))))

theorem pure_l_draw (K : PySem.W.Frag) (vs : List V) (H : Hp) (Q : VK) (E : XK) (h : sp_l_draw K vs H Q E) : t_l_draw K { nx := fun _ H' => Q .non H', rt := Q } (L2.start N_l_draw vs) H := by
  obtain ⟨P, m, G, rfl, hm, hm2, hs, k⟩ := h
  obtain ⟨n, c, hp⟩ := hs.pool
  rw [st_l_draw]
  unfold t_l_draw
  walk_at "st"
  refine ite_dec (fun h1 => ?_) (fun h1 => ?_)
  · walk_at "st"
    exact k _ _ (Int.emod_nonneg _ (by omega)) (Int.emod_lt_of_pos _ hm) (hs.drawn _ _)
  · walk_at "st"
    have hs2 := hs.drawn n (c + 1)
    have hp2 : upd H P.p (.lst [.int n, .int (c + 1), .ref P.l]) P.p = some (.lst [.int n, .int (c + 1), .ref P.l]) := upd_same
    revert hs2 hp2
    generalize upd H P.p (.lst [.int n, .int (c + 1), .ref P.l]) = H2
    intro hs2 hp2
    walk_at "st"
    refine ite_dec (fun h2 => ?_) (fun h2 => ?_)
    · walk_at "st"
      refine wp_ixLI (by walk_at "sq") (Int.emod_nonneg _ (by omega)) (Int.emod_lt_of_pos _ h2) fun x _ => ?_
      walk_at "st"
      refine wp_ixLI (by walk_at "sq") (by omega) h2 fun y _ => ?_
      walk_at "st"
      exact k _ _ (Int.emod_nonneg _ (by omega)) (Int.emod_lt_of_pos _ hm) hs2
    · walk_at "st"
      exact k _ _ (Int.emod_nonneg _ (by omega)) (Int.emod_lt_of_pos _ hm) hs2
theorem len_l_draw (K : PySem.W.Frag) (vs : List V) (H : Hp) (Q : VK) (E : XK) (h : sp_l_draw K vs H Q E) : vs.length = 2 := by
  obtain ⟨P, m, G, rfl, _⟩ := h
  rfl
theorem c_l_draw {K : PySem.W.Frag} {P : Pl} {G H : Hp} {m : Int} {Q : VK} {E : XK} (hs : Sees P G H) (h0 : 0 < m ∧ m < 1073741824) (k : ∀ d H', 0 ≤ d → d < m → Sees P G H' → Q (.int d) H') : sp_l_draw K [.ref P.p, .int m] H Q E :=
  ⟨P, m, G, rfl, h0.1, h0.2, hs, k⟩

def sp_l_pool (K : PySem.W.Frag) : Sp := fun vs H Q _ => ∃ (a : Addr) (ns : List Int), vs = [.ref a] ∧ SqL K H a (ns.map V.int) ∧ ns.length ≤ 63 ∧ ∀ (P : Pl) (G H' : Hp), Same H G → Sees P G H' → Q (.ref P.p) H'
abbrev N_l_pool : List Str := ["_law_script", "_law_cells", "_law_number", "_law_cell"]
theorem st_l_pool {a0 : V} : L2.start N_l_pool [a0] = [some a0, none, none, none] := rfl
def t_l_pool (K : PySem.W.Frag) : TS :=
  (tSeq ((tAsg (tLc ((iList K (tVar 0))) ((gName 3)) (tYes) ((tCB rInt1 ((tCons (tVar 3) (tNil))))) [3]) (gName 1)))
    ((tSeq ((tAsg (tC (.int 0)) (gName 2)))
    ((tSeq ((tIfS ((tAnd ((tTest (tOp (rI0 fun i j => .bl (decide (j < i))) ((tCB (rLenS K) ((tCons (tVar 1) (tNil))))) (tC (.int 0))))) ((tTest (tOp (rI0 fun i j => .bl (decide (j ≤ i))) ((tOp (rIxL K) (tVar 1) (tC (.int 0)))) ((tOp (rI CPow fun i j => .int (i ^ j.toNat)) (tC (.int 10)) (tC (.int 18))))))))) ((tAsg ((tOp (rIxL K) (tVar 1) (tC (.int 0)))) (gName 2))) (tNext)))
    ((tRet ((tLst ((tCons (tVar 2) ((tCons (tC (.int 0)) ((tCons (tVar 1) (tNil))))))))))))))))

theorem pure_l_pool (K : PySem.W.Frag) (vs : List V) (H : Hp) (Q : VK) (E : XK) (h : sp_l_pool K vs H Q E) : t_l_pool K { nx := fun _ H' => Q .non H', rt := Q } (L2.start N_l_pool vs) H := by
  obtain ⟨a, ns, rfl, hx, hn, k⟩ := h
  rw [st_l_pool]
  unfold t_l_pool
  walk_at "st"
  refine lcMapL hx (by rw [List.length_map]; omega) (fun x => [some (.ref a), none, none, some x]) (fun x => ⟨rfl, rfl⟩) id (fun x H2 hxm _ R hR => ?_) (fun D H2 hD s2 hl => ?_)
  · obtain ⟨n, _, rfl⟩ := List.mem_map.mp hxm
    walk_at "st"
    exact hR _ (Same.refl _)
  rw [List.map_id] at hl
  have fin : ∀ n : Int, [V.int n, V.int 0, V.ref D].length ≤ sizeLine ∧ ∀ p, H2 p = none → Q (.ref p) (upd H2 p (.lst [V.int n, V.int 0, V.ref D])) := fun n => ⟨szl (by simp), fun p hp => by
    have e : D ≠ p := ne_of_none hl hp
    exact k ⟨p, D, ns⟩ H2 _ s2 ⟨⟨n, 0, upd_same⟩, hl, hn, hp, Same.new hp⟩⟩
  walk_at "st"
  refine ite_dec (fun h1 => ?_) (fun h1 => ?_)
  · walk_at "st"
    refine wp_ixLI (by walk_at "sq") (by omega) h1 fun x _ => ?_
    walk_at "st"
    refine ite_dec (fun h2 => ?_) (fun h2 => ?_)
    · walk_at "st"
      refine wp_ixLI (by walk_at "sq") (by omega) h1 fun y _ => ?_
      walk_at "st"
      exact fin _
    · walk_at "st"
      exact fin _
  · walk_at "st"
    exact fin _
theorem len_l_pool (K : PySem.W.Frag) (vs : List V) (H : Hp) (Q : VK) (E : XK) (h : sp_l_pool K vs H Q E) : vs.length = 1 := by
  obtain ⟨a, ns, rfl, _⟩ := h
  rfl
theorem c_l_pool {K : PySem.W.Frag} {a : Addr} {ns : List Int} {H : Hp} {Q : VK} {E : XK} (hx : SqL K H a (ns.map V.int)) (hn : ns.length ≤ 63) (k : ∀ (P : Pl) (G H' : Hp), Same H G → Sees P G H' → Q (.ref P.p) H') : sp_l_pool K [.ref a] H Q E :=
  ⟨a, ns, rfl, hx, hn, k⟩

def sp_l_word (K : PySem.W.Frag) : Sp := fun vs H Q _ => ∃ (P : Pl) (n : Int) (G : Hp), vs = [.ref P.p, .int n] ∧ 0 ≤ n ∧ n ≤ 100 ∧ Sees P G H ∧ ∀ (l : List Nat) H', (l.length : Int) = n → (∀ c ∈ l, LD c) → Sees P G H' → Q (.str (S l)) H'
abbrev N_l_word : List Str := ["_law_pool_here", "_law_size", "_law_signs", "_law_word_here", "_law_k"]
theorem st_l_word {a0 a1 : V} : L2.start N_l_word [a0, a1] = [some a0, some a1, none, none, none] := rfl
def t_l_word (K : PySem.W.Frag) : TS :=
  (tSeq ((tAsg (tC (.str (S Z36))) (gName 2)))
    ((tSeq ((tAsg (tC (.str (S []))) (gName 3)))
    ((tSeq ((tFor ((iRng1 ((tCons (tVar 1) (tNil))))) (gName 4) ((tAsg ((tOp rAddStr (tVar 3) ((tOp rIxS (tVar 2) ((tCall (sp_l_draw K) [] E0 ((tCons (tVar 0) ((tCons (tC (.int 36)) (tNil))))))))))) (gName 3)))))
    ((tRet (tVar 3))))))))

theorem pure_l_word (K : PySem.W.Frag) (vs : List V) (H : Hp) (Q : VK) (E : XK) (h : sp_l_word K vs H Q E) : t_l_word K { nx := fun _ H' => Q .non H', rt := Q } (L2.start N_l_word vs) H := by
  obtain ⟨P, n, G, rfl, hn, hn2, hs, k⟩ := h
  rw [st_l_word]
  unfold t_l_word
  walk_at "st"
  refine loop1 (by omega) (fun i σ' H' => ∃ (x : Option V) (l : List Nat), σ' = [some (.ref P.p), some (.int n), some (.str (S Z36)), some (.str (S l)), x] ∧ l.length = i ∧ (∀ c ∈ l, LD c) ∧ Sees P G H') ⟨none, [], rfl, rfl, by simp, hs⟩ ?_ ?_
  · rintro i σ' H' hi ⟨x, l, rfl, hl, hc, hs⟩
    walk_at "st"
    refine c_l_draw hs (by omega) fun d H2 h0 h1 hs2 => ?_
    walk_at "st"
    refine wp_ixSM (by decide) h0 h1 fun c hc2 _ => ?_
    refine wp_addS (by simp; omega) ?_
    walk_at "st"
    refine ⟨_, _, rfl, by simp; omega, fun c' h => ?_, hs2⟩
    rcases List.mem_append.mp h with h | h
    · exact hc _ h
    · rw [List.mem_singleton.mp h]
      exact z36.mp hc2
  · rintro σ' H' ⟨x, l, rfl, hl, hc, hs⟩
    walk_at "st"
    exact k l _ (by omega) hc hs
theorem len_l_word (K : PySem.W.Frag) (vs : List V) (H : Hp) (Q : VK) (E : XK) (h : sp_l_word K vs H Q E) : vs.length = 2 := by
  obtain ⟨P, m, G, rfl, _⟩ := h
  rfl
theorem c_l_word {K : PySem.W.Frag} {P : Pl} {G H : Hp} {n : Int} {Q : VK} {E : XK} (hs : Sees P G H) (h0 : 0 ≤ n ∧ n ≤ 100) (k : ∀ (l : List Nat) H', (l.length : Int) = n → (∀ c ∈ l, LD c) → Sees P G H' → Q (.str (S l)) H') : sp_l_word K [.ref P.p, .int n] H Q E :=
  ⟨P, n, G, rfl, h0.1, h0.2, hs, k⟩

def sp_l_names (K : PySem.W.Frag) : Sp := fun vs H Q _ => ∃ (P : Pl) (n : Int) (G : Hp), vs = [.ref P.p, .int n] ∧ 0 ≤ n ∧ n ≤ 12 ∧ Sees P G H ∧
  ∀ (ns : List (List Nat)) (q : Addr) (G' H' : Hp), (ns.length : Int) = n → (∀ l ∈ ns, Nm l) → ns.Nodup → Same G G' → G' q = some (.lst (ns.map sv)) → Sees P G' H' → Q (.ref q) H'
abbrev N_l_names : List Str := ["_law_pool_here", "_law_many", "_law_letters", "_law_signs", "_law_way", "_law_front", "_law_back", "_law_first", "_law_names_here", "_law_k", "_law_name", "_law_j"]
theorem st_l_names {a0 a1 : V} : L2.start N_l_names [a0, a1] = [some a0, some a1, none, none, none, none, none, none, none, none, none, none] := rfl
def t_l_names (K : PySem.W.Frag) : TS :=
  (tSeq ((tAsg (tC (.str (S Z26))) (gName 2)))
    ((tSeq ((tAsg (tC (.str (S Z36))) (gName 3)))
    ((tSeq ((tAsg ((tCall (sp_l_draw K) [] E0 ((tCons (tVar 0) ((tCons (tC (.int 3)) (tNil))))))) (gName 4)))
    ((tSeq ((tAsg ((tOp rAddStr ((tOp rIxS (tVar 2) ((tCall (sp_l_draw K) [] E0 ((tCons (tVar 0) ((tCons (tC (.int 26)) (tNil))))))))) ((tCall (sp_l_word K) [] E0 ((tCons (tVar 0) ((tCons ((tCall (sp_l_draw K) [] E0 ((tCons (tVar 0) ((tCons (tC (.int 4)) (tNil))))))) (tNil))))))))) (gName 5)))
    ((tSeq ((tAsg ((tCall (sp_l_word K) [] E0 ((tCons (tVar 0) ((tCons ((tCall (sp_l_draw K) [] E0 ((tCons (tVar 0) ((tCons (tC (.int 4)) (tNil))))))) (tNil))))))) (gName 6)))
    ((tSeq ((tAsg ((tCall (sp_l_draw K) [] E0 ((tCons (tVar 0) ((tCons (tC (.int 36)) (tNil))))))) (gName 7)))
    ((tSeq ((tAsg ((tLst (tNil))) (gName 8)))
    ((tSeq ((tFor ((iRng1 ((tCons (tVar 1) (tNil))))) (gName 9) ((tSeq ((tAsg ((tOp rAddStr ((tOp rAddStr (tVar 5) ((tOp rIxS (tVar 3) ((tOp (rI (fun _ j => 0 < j) fun i j => .int (i % j)) ((tCB rInt1 ((tCons ((tOp (rI0 fun i j => .int (i + j)) (tVar 7) ((tOp (rI CMul fun i j => .int (i * j)) (tC (.int 5)) (tVar 9))))) (tNil))))) (tC (.int 36)))))))) (tVar 6))) (gName 10)))
    ((C8.tCut ((tIfS ((tTest (tOp rEq (tVar 4) (tC (.int 1))))) ((tAsg ((tOp rAddStr ((tOp rIxS (tVar 2) ((tOp (rI (fun _ j => 0 < j) fun i j => .int (i % j)) ((tCB rInt1 ((tCons ((tOp (rI0 fun i j => .int (i + j)) (tVar 7) ((tOp (rI CMul fun i j => .int (i * j)) (tC (.int 5)) (tVar 9))))) (tNil))))) (tC (.int 26)))))) ((tCall (sp_l_word K) [] E0 ((tCons (tVar 0) ((tCons ((tCall (sp_l_draw K) [] E0 ((tCons (tVar 0) ((tCons (tC (.int 8)) (tNil))))))) (tNil))))))))) (gName 10))) (tNext)))
    ((C8.tCut ((tIfS ((tTest (tOp rEq (tVar 4) (tC (.int 2))))) ((tAsg ((tOp rAddStr ((tOp rIxS (tVar 2) ((tCall (sp_l_draw K) [] E0 ((tCons (tVar 0) ((tCons (tC (.int 26)) (tNil))))))))) ((tCall (sp_l_word K) [] E0 ((tCons (tVar 0) ((tCons ((tCall (sp_l_draw K) [] E0 ((tCons (tVar 0) ((tCons (tC (.int 8)) (tNil))))))) (tNil))))))))) (gName 10))) (tNext)))
    ((tSeq ((tFor ((iRng1 ((tCons (tC (.int 13)) (tNil))))) (gName 11) ((tIfS ((tAnd ((tTest (tOp (rIn K false) (tVar 10) (tVar 8)))) ((tTest (tOp (rIn K true) ((tOp rAddStr (tC (.str (S [122]))) ((tCB rStrInt ((tCons (tVar 11) (tNil))))))) (tVar 8)))))) ((tAsg ((tOp rAddStr (tC (.str (S [122]))) ((tCB rStrInt ((tCons (tVar 11) (tNil))))))) (gName 10))) (tNext)))))
    ((tDrop ((tBM K "list" rAppend (tVar 8) ((tCons (tVar 10) (tNil)))))))))))))))))
    ((tRet (tVar 8))))))))))))))))))

theorem pure_l_names (K : PySem.W.Frag) (vs : List V) (H : Hp) (Q : VK) (E : XK) (h : sp_l_names K vs H Q E) : t_l_names K { nx := fun _ H' => Q .non H', rt := Q } (L2.start N_l_names vs) H := by
  obtain ⟨P, n, G, rfl, hn, hn2, hs, k⟩ := h
  rw [st_l_names]
  unfold t_l_names
  walk_at "st"
  refine c_l_draw hs (by omega) fun way H1 w0 w1 hs1 => ?_
  walk_at "st"
  refine c_l_draw hs1 (by omega) fun d1 H2 a0 a1 hs2 => ?_
  walk_at "st"
  refine wp_ixSM (by decide) a0 a1 fun c1 hc1 _ => ?_
  walk_at "st"
  refine c_l_draw hs2 (by omega) fun d2 H3 b0 b1 hs3 => ?_
  walk_at "st"
  refine c_l_word hs3 (by omega) fun fr H4 f0 f1 hs4 => ?_
  refine wp_addS (by simp; omega) ?_
  walk_at "st"
  refine c_l_draw hs4 (by omega) fun d3 H5 e0 e1 hs5 => ?_
  walk_at "st"
  refine c_l_word hs5 (by omega) fun bk H6 g0 g1 hs6 => ?_
  walk_at "st"
  refine c_l_draw hs6 (by omega) fun fi H7 i0 i1 hs7 => ?_
  walk_at "st"
  refine ⟨Nat.zero_le _, fun q hq => ?_⟩
  obtain ⟨hG, hqp⟩ := hs7.fresh hq
  walk_at "st"
  refine loop1 (by omega) (fun i σ' H' => ∃ (x9 x10 x11 : Option V) (ns : List (List Nat)), σ' = [some (.ref P.p), some (.int n), some (.str (S Z26)), some (.str (S Z36)), some (.int way), some (.str (S ([c1] ++ fr))), some (.str (S bk)), some (.int fi), some (.ref q), x9, x10, x11] ∧
    ns.length = i ∧ (∀ l ∈ ns, Nm l) ∧ ns.Nodup ∧ H' q = some (.lst (ns.map sv)) ∧ Sees P G H') ⟨none, none, none, [], rfl, rfl, by simp, List.nodup_nil, upd_same, hs7.set hG hqp⟩ ?_ ?_
  · rintro i σ' H' hi ⟨x9, x10, x11, ns, rfl, hl, hnm, hnd, hqq, hs⟩
    walk_at "st"
    refine wp_ixSM (by decide) (Int.emod_nonneg _ (by omega)) (show _ < 36 from Int.emod_lt_of_pos _ (by omega)) fun c2 hc2 _ => ?_
    walk_at "st"
    have hc1' : LT c1 := z26.mp hc1
    have hc2' : LD c2 := z36.mp hc2
    have lt_ld : ∀ {c}, LT c → LD c := fun h => .inl h
    have mk1 : ∀ {a : Nat} {l : List Nat}, LT a → (∀ c ∈ l, LD c) → l.length ≤ 7 → Nm ([a] ++ l) := fun {a l} h1 h2 h3 => ⟨by simp; omega, ⟨a, l, rfl, h1⟩, fun c hc => by
      rcases List.mem_append.mp hc with h | h
      · rw [List.mem_singleton.mp h]; exact .inl h1
      · exact h2 c h⟩
    refine wp_cut (fun σ' H' => ∃ (nm : List Nat), σ' = [some (.ref P.p), some (.int n), some (.str (S Z26)), some (.str (S Z36)), some (.int way), some (.str (S ([c1] ++ fr))), some (.str (S bk)), some (.int fi), some (.ref q), some (.int i), some (.str (S nm)), x11] ∧ Nm nm ∧ H' q = some (.lst (ns.map sv)) ∧ Sees P G H') ?_ ?_
    · walk_at "st"
      refine ite_dec (fun h => ?_) (fun h => ?_)
      · walk_at "st"
        refine wp_ixSM (by decide) (Int.emod_nonneg _ (by omega)) (show _ < 26 from Int.emod_lt_of_pos _ (by omega)) fun c3 hc3 _ => ?_
        walk_at "st"
        refine c_l_draw (hs.with hG hqq hqp) (by omega) fun d4 H8 j0 j1 hs8 => ?_
        walk_at "st"
        refine c_l_word hs8 (by omega) fun w4 H9 k0 k1 hs9 => ?_
        walk_at "st"
        obtain ⟨hs10, hq10⟩ := hs9.back hs hG
        exact ⟨_, rfl, mk1 (z26.mp hc3) k1 (by omega), hq10, hs10⟩
      · walk_at "st"
        refine ⟨_, rfl, ?_, hqq, hs⟩
        have e : [c1] ++ fr ++ [c2] ++ bk = [c1] ++ (fr ++ [c2] ++ bk) := by simp
        rw [e]
        refine mk1 hc1' (fun c hc => ?_) (by simp; omega)
        rcases List.mem_append.mp hc with h | h
        · rcases List.mem_append.mp h with h | h
          · exact f1 c h
          · rw [List.mem_singleton.mp h]; exact hc2'
        · exact g1 c h
    · rintro σ' H8 ⟨nm, rfl, hnm1, hq8, hs8⟩
      refine wp_cut (fun σ' H' => ∃ (nm : List Nat), σ' = [some (.ref P.p), some (.int n), some (.str (S Z26)), some (.str (S Z36)), some (.int way), some (.str (S ([c1] ++ fr))), some (.str (S bk)), some (.int fi), some (.ref q), some (.int i), some (.str (S nm)), x11] ∧ Nm nm ∧ H' q = some (.lst (ns.map sv)) ∧ Sees P G H') ?_ ?_
      · walk_at "st"
        refine ite_dec (fun h => ?_) (fun h => ?_)
        · walk_at "st"
          refine c_l_draw (hs8.with hG hq8 hqp) (by omega) fun d4 H9 j0 j1 hs9 => ?_
          walk_at "st"
          refine wp_ixSM (by decide) j0 j1 fun c3 hc3 _ => ?_
          walk_at "st"
          refine c_l_draw hs9 (by omega) fun d5 H10 k0 k1 hs10 => ?_
          walk_at "st"
          refine c_l_word hs10 (by omega) fun w4 H11 l0 l1 hs11 => ?_
          walk_at "st"
          obtain ⟨hs12, hq12⟩ := hs11.back hs8 hG
          exact ⟨_, rfl, mk1 (z26.mp hc3) l1 (by omega), hq12, hs12⟩
        · walk_at "st"
          exact ⟨_, rfl, hnm1, hq8, hs8⟩
      · rintro σ' H9 ⟨nm, rfl, hnm1, hq9, hs9⟩
        walk_at "st"
        refine loop1 (by omega) (fun j σ' H' => ∃ (x11 : Option V) (nm : List Nat), σ' = [some (.ref P.p), some (.int n), some (.str (S Z26)), some (.str (S Z36)), some (.int way), some (.str (S ([c1] ++ fr))), some (.str (S bk)), some (.int fi), some (.ref q), some (.int i), some (.str (S nm)), x11] ∧
          Nm nm ∧ (nm ∉ ns ∨ ∀ a, a < j → zn a ∈ ns) ∧ H' = H9) ⟨x11, nm, rfl, hnm1, .inr (fun a h => absurd h (by omega)), rfl⟩ ?_ ?_
        · rintro j σ' H10 hj ⟨x, nm, rfl, hnm2, hout, rfl⟩
          walk_at "st"
          refine wp_inSv (sq_of hq9) ?_
          walk_at "st"
          refine ite_dec (fun h1 => ?_) (fun h1 => ?_)
          · walk_at "st"
            refine wp_strIntS (by omega) ?_
            refine wp_addS (by have := (zn_nm (j := j) (by omega)).len; unfold zn at this; simp at this ⊢; omega) ?_
            walk_at "st"
            refine wp_notInSv (sq_of hq9) ?_
            walk_at "st"
            refine ite_ndec (fun h2 => ?_) (fun h2 => ?_)
            · walk_at "st"
              refine wp_strIntS (by omega) ?_
              refine wp_addS (by have := (zn_nm (j := j) (by omega)).len; unfold zn at this; simp at this ⊢; omega) ?_
              walk_at "st"
              exact ⟨_, zn j, rfl, zn_nm (by omega), .inl h2, rfl⟩
            · walk_at "st"
              refine ⟨_, nm, rfl, hnm2, .inr fun a ha => ?_, rfl⟩
              rcases hout with h | h
              · exact absurd h1 h
              · by_cases e : a = j
                · rw [e]; exact h2
                · exact h a (by omega)
          · walk_at "st"
            exact ⟨_, nm, rfl, hnm2, .inl h1, rfl⟩
        · rintro σ' H10 ⟨x, nm, rfl, hnm2, hout, rfl⟩
          have hnot : nm ∉ ns := by
            rcases hout with h | h
            · exact h
            · exact absurd (zn_out (ns := ns) fun a ha => h a ha) (by omega)
          walk_at "st"
          refine wp_append hq9 (by rw [List.length_map]; omega) ?_
          walk_at "st"
          refine ⟨_, _, _, ns ++ [nm], rfl, by simp; omega, fun l h => ?_, ?_, ?_, hs9.set hG hqp⟩
          · rcases List.mem_append.mp h with h | h
            · exact hnm l h
            · rw [List.mem_singleton.mp h]; exact hnm2
          · refine List.nodup_append.mpr ⟨hnd, by simp, fun a ha b hb e => ?_⟩
            rw [List.mem_singleton] at hb
            rw [hb] at e
            exact hnot (e ▸ ha)
          · rw [List.map_append]; exact upd_same
  · rintro σ' H' ⟨x9, x10, x11, ns, rfl, hl, hnm, hnd, hqq, hs⟩
    walk_at "st"
    exact k ns q (upd G q (.lst (ns.map sv))) H' (by omega) hnm hnd (Same.new hG) upd_same (hs.with hG hqq hqp)
theorem len_l_names (K : PySem.W.Frag) (vs : List V) (H : Hp) (Q : VK) (E : XK) (h : sp_l_names K vs H Q E) : vs.length = 2 := by
  obtain ⟨P, m, G, rfl, _⟩ := h
  rfl
theorem c_l_names {K : PySem.W.Frag} {P : Pl} {G H : Hp} {n : Int} {Q : VK} {E : XK} (hs : Sees P G H) (h0 : 0 ≤ n ∧ n ≤ 12)
    (k : ∀ (ns : List (List Nat)) (q : Addr) (G' H' : Hp), (ns.length : Int) = n → (∀ l ∈ ns, Nm l) → ns.Nodup → Same G G' → G' q = some (.lst (ns.map sv)) → Sees P G' H' → Q (.ref q) H') : sp_l_names K [.ref P.p, .int n] H Q E :=
  ⟨P, n, G, rfl, h0.1, h0.2, hs, k⟩

def sp_l_sign (K : PySem.W.Frag) : Sp := fun vs H Q _ => ∃ (P : Pl) (G : Hp), vs = [.ref P.p] ∧ Sees P G H ∧ ∀ (c : Nat) H', 32 ≤ c → c < 127 → c ≠ 37 → Sees P G H' → Q (.str (S [c])) H'
abbrev N_l_sign : List Str := ["_law_pool_here", "_law_signs"]
theorem st_l_sign {a0 : V} : L2.start N_l_sign [a0] = [some a0, none] := rfl
def t_l_sign (K : PySem.W.Frag) : TS :=
  (tSeq ((tAsg (tC (.str (S Z64))) (gName 1)))
    ((tSeq ((tAsg ((tOp rAddStr (tVar 1) (tC (.str (S Z30))))) (gName 1)))
    ((tRet ((tOp rIxS (tVar 1) ((tCall (sp_l_draw K) [] E0 ((tCons (tVar 0) ((tCons (tC (.int 94)) (tNil))))))))))))))

theorem pure_l_sign (K : PySem.W.Frag) (vs : List V) (H : Hp) (Q : VK) (E : XK) (h : sp_l_sign K vs H Q E) : t_l_sign K { nx := fun _ H' => Q .non H', rt := Q } (L2.start N_l_sign vs) H := by
  obtain ⟨P, G, rfl, hs, k⟩ := h
  rw [st_l_sign]
  unfold t_l_sign
  walk_at "st"
  refine c_l_draw hs (by omega) fun d H2 h0 h1 hs2 => ?_
  walk_at "st"
  refine wp_ixSM (by decide) h0 h1 fun c hc _ => ?_
  have z := (by decide : ∀ c ∈ Z64 ++ Z30, 32 ≤ c ∧ c < 127 ∧ c ≠ 37) c hc
  exact k c H2 z.1 z.2.1 z.2.2 hs2
theorem len_l_sign (K : PySem.W.Frag) (vs : List V) (H : Hp) (Q : VK) (E : XK) (h : sp_l_sign K vs H Q E) : vs.length = 1 := by
  obtain ⟨P, G, rfl, _⟩ := h
  rfl
theorem c_l_sign {K : PySem.W.Frag} {P : Pl} {G H : Hp} {Q : VK} {E : XK} (hs : Sees P G H) (k : ∀ (c : Nat) H', 32 ≤ c → c < 127 → c ≠ 37 → Sees P G H' → Q (.str (S [c])) H') : sp_l_sign K [.ref P.p] H Q E := ⟨P, G, rfl, hs, k⟩

def sp_l_text (K : PySem.W.Frag) : Sp := fun vs H Q _ => ∃ (P : Pl) (w : Int) (G : Hp), vs = [.ref P.p, .int w] ∧ Sees P G H ∧ ∀ (l : List Nat) H', l.length ≤ 40 → (∀ c ∈ l, c < 127) → Sees P G H' → Q (.str (S l)) H'
abbrev N_l_text : List Str := ["_law_pool_here", "_law_way", "_law_size", "_law_text_here", "_law_k"]
theorem st_l_text {a0 a1 : V} : L2.start N_l_text [a0, a1] = [some a0, some a1, none, none, none] := rfl
def t_l_text (K : PySem.W.Frag) : TS :=
  (tSeq ((tAsg ((tCall (sp_l_draw K) [] E0 ((tCons (tVar 0) ((tCons (tC (.int 11)) (tNil))))))) (gName 2)))
    ((C8.tCut ((tIfS ((tTest (tOp rEq ((tCall (sp_l_draw K) [] E0 ((tCons (tVar 0) ((tCons (tC (.int 8)) (tNil))))))) (tC (.int 1))))) ((tAsg ((tCall (sp_l_draw K) [] E0 ((tCons (tVar 0) ((tCons (tC (.int 41)) (tNil))))))) (gName 2))) (tNext)))
    ((tSeq ((tIfS ((tTest (tOp rEq (tVar 1) (tC (.int 1))))) ((tRet ((tCall (sp_l_word K) [] E0 ((tCons (tVar 0) ((tCons (tVar 2) (tNil))))))))) (tNext)))
    ((tSeq ((tAsg (tC (.str (S []))) (gName 3)))
    ((tSeq ((tFor ((iRng1 ((tCons (tVar 2) (tNil))))) (gName 4) ((tAsg ((tOp rAddStr (tVar 3) ((tCall (sp_l_sign K) [] E0 ((tCons (tVar 0) (tNil))))))) (gName 3)))))
    ((tRet (tVar 3))))))))))))

theorem pure_l_text (K : PySem.W.Frag) (vs : List V) (H : Hp) (Q : VK) (E : XK) (h : sp_l_text K vs H Q E) : t_l_text K { nx := fun _ H' => Q .non H', rt := Q } (L2.start N_l_text vs) H := by
  obtain ⟨P, w, G, rfl, hs, k⟩ := h
  rw [st_l_text]
  unfold t_l_text
  walk_at "st"
  refine c_l_draw hs (by omega) fun d H2 h0 h1 hs2 => ?_
  walk_at "st"
  refine wp_cut (fun σ' H' => ∃ n : Int, σ' = [some (.ref P.p), some (.int w), some (.int n), none, none] ∧ 0 ≤ n ∧ n ≤ 40 ∧ Sees P G H') ?_ ?_
  · walk_at "st"
    refine c_l_draw hs2 (by omega) fun d2 H3 a0 a1 hs3 => ?_
    walk_at "st"
    refine ite_dec (fun h => ?_) (fun h => ?_)
    · walk_at "st"
      refine c_l_draw hs3 (by omega) fun d3 H4 b0 b1 hs4 => ?_
      walk_at "st"
      exact ⟨d3, rfl, b0, by omega, hs4⟩
    · walk_at "st"
      exact ⟨d, rfl, h0, by omega, hs3⟩
  · rintro σ' H3 ⟨n, rfl, n0, n1, hs3⟩
    walk_at "st"
    refine ite_dec (fun h => ?_) (fun h => ?_)
    · walk_at "st"
      refine c_l_word hs3 (by omega) fun l H4 l0 l1 hs4 => ?_
      exact k l H4 (by omega) (fun c hc => by rcases l1 c hc with h | h <;> omega) hs4
    · walk_at "st"
      refine loop1 (by omega) (fun i σ' H' => ∃ (x : Option V) (l : List Nat), σ' = [some (.ref P.p), some (.int w), some (.int n), some (.str (S l)), x] ∧ l.length = i ∧ (∀ c ∈ l, c < 127) ∧ Sees P G H') ⟨none, [], rfl, rfl, by simp, hs3⟩ ?_ ?_
      · rintro i σ' H' hi ⟨x, l, rfl, hl, hc, hs⟩
        walk_at "st"
        refine c_l_sign hs fun c H2 c0 c1 _ hs2 => ?_
        walk_at "st"
        refine ⟨_, _, rfl, by simp; omega, fun c' h => ?_, hs2⟩
        rcases List.mem_append.mp h with h | h
        · exact hc _ h
        · rw [List.mem_singleton.mp h]; exact c1
      · rintro σ' H' ⟨x, l, rfl, hl, hc, hs⟩
        walk_at "st"
        exact k l _ (by omega) hc hs
theorem len_l_text (K : PySem.W.Frag) (vs : List V) (H : Hp) (Q : VK) (E : XK) (h : sp_l_text K vs H Q E) : vs.length = 2 := by
  obtain ⟨P, w, G, rfl, _⟩ := h
  rfl
theorem c_l_text {K : PySem.W.Frag} {P : Pl} {G H : Hp} {w : Int} {Q : VK} {E : XK} (hs : Sees P G H) (k : ∀ (l : List Nat) H', l.length ≤ 40 → (∀ c ∈ l, c < 127) → Sees P G H' → Q (.str (S l)) H') : sp_l_text K [.ref P.p, .int w] H Q E := ⟨P, w, G, rfl, hs, k⟩

def fnd (c : Nat) : Int := Txt.find (S Z36) (S [c])
theorem fnd_ld {c : Nat} (h : c < 127) : 0 ≤ fnd c ↔ LD c := (by decide +kernel : ∀ c, c < 127 → (0 ≤ fnd c ↔ LD c)) c h
theorem fnd_lt {c : Nat} (h : c < 127) : (0 ≤ fnd c ∧ fnd c < 26) ↔ LT c := (by decide +kernel : ∀ c, c < 127 → ((0 ≤ fnd c ∧ fnd c < 26) ↔ LT c)) c h
def sp_l_valid (K : PySem.W.Frag) : Sp := fun vs H Q _ => ∃ (l : List Nat), vs = [.str (S l)] ∧ l.length ≤ 100 ∧ (∀ c ∈ l, c < 127) ∧ ∀ H', Same H H' → Q (.bl (isNm l)) H'
abbrev N_l_valid : List Str := ["_law_text_here", "_law_order", "_law_places", "_law_sign_here"]
theorem st_l_valid {a0 : V} : L2.start N_l_valid [a0] = [some a0, none, none, none] := rfl
def t_l_valid (K : PySem.W.Frag) : TS :=
  (tSeq ((tAsg (tC (.str (S Z36))) (gName 1)))
    ((tSeq ((tAsg (tLc ((iStr (tVar 0))) ((gName 3)) (tYes) ((tBM K "str" rFind (tVar 1) ((tCons (tVar 3) (tNil))))) [3]) (gName 2)))
    ((tSeq ((tIfS ((tOr ((tTest (tOp (rI0 fun i j => .bl (decide (i < j))) ((tCB (rLenS K) ((tCons (tVar 2) (tNil))))) (tC (.int 1))))) ((tTest (tOp (rI0 fun i j => .bl (decide (j < i))) ((tCB (rLenS K) ((tCons (tVar 2) (tNil))))) (tC (.int 8))))))) ((tRet (tC (.bl false)))) (tNext)))
    ((tRet ((tAndV ((tOp (rI0 fun i j => .bl (decide (j ≤ i))) ((tCB (rMin K) ((tCons (tVar 2) (tNil))))) (tC (.int 0)))) ((tOp (rI0 fun i j => .bl (decide (i < j))) ((tOp (rIxL K) (tVar 2) (tC (.int 0)))) (tC (.int 26)))))))))))))

theorem pure_l_valid (K : PySem.W.Frag) (vs : List V) (H : Hp) (Q : VK) (E : XK) (h : sp_l_valid K vs H Q E) : t_l_valid K { nx := fun _ H' => Q .non H', rt := Q } (L2.start N_l_valid vs) H := by
  obtain ⟨l, rfl, hl, hc, k⟩ := h
  rw [st_l_valid]
  unfold t_l_valid
  walk_at "st"
  refine lcMapS (by omega) (fun x => [some (.str (S l)), some (.str (S Z36)), none, some x]) (fun x => ⟨rfl, rfl⟩) (fun c => .int (fnd c)) (fun c H2 hxm _ R hR => ?_) (fun D H2 hD s2 hD2 => ?_)
  · walk_at "st"
    exact hR _ (Same.refl _)
  have hD3 : H2 D = some (.lst ((l.map fnd).map V.int)) := by rw [List.map_map]; exact hD2
  have e1 : ((l.map fun c => V.int (fnd c)).length : Int) = l.length := by rw [List.length_map]
  have e2 : (((l.map fnd).map V.int).length : Int) = l.length := by rw [List.length_map, List.length_map]
  walk_at "st"
  refine ite_dec (fun h => ?_) (fun h => ?_)
  · walk_at "st"
    have e : isNm l = false := by
      unfold isNm
      rw [decide_eq_false (by omega : ¬ 1 ≤ l.length)]
      rfl
    have z := k H2 s2
    rw [e] at z
    exact z
  · walk_at "st"
    refine ite_dec (fun h2 => ?_) (fun h2 => ?_)
    · walk_at "st"
      have e : isNm l = false := by
        unfold isNm
        rw [decide_eq_false (by omega : ¬ l.length ≤ 8), Bool.false_and, Bool.and_false]
      have z := k H2 s2
      rw [e] at z
      exact z
    · walk_at "st"
      refine wp_minL (sq_of hD3) (by rw [List.length_map]; omega) fun m hm hmin => ?_
      walk_at "st"
      cases l with
      | nil => exact absurd h (by simp)
      | cons c r =>
        have hlen : decide (1 ≤ (c :: r).length) = true := by simp
        have hlen2 : decide ((c :: r).length ≤ 8) = true := by rw [decide_eq_true_eq]; omega
        refine ite_dec (fun h3 => ?_) (fun h3 => ?_)
        · walk_at "st"
          have e : decide (fnd c < 26) = isNm (c :: r) := by
            have ha : ((c :: r).all fun c => decide (LD c)) = true := List.all_eq_true.mpr fun x hx => decide_eq_true ((fnd_ld (hc x hx)).mp (Int.le_trans h3 (hmin _ (List.mem_map.mpr ⟨x, hx, rfl⟩))))
            unfold isNm
            rw [hlen, hlen2, ha, Bool.true_and, Bool.true_and, Bool.and_true]
            have hz : 0 ≤ fnd c := Int.le_trans h3 (hmin _ (by simp))
            rw [decide_eq_decide, ← fnd_lt (hc c (by simp))]
            exact ⟨fun q => ⟨hz, q⟩, fun q => q.2⟩
          rw [e]
          exact k H2 s2
        · walk_at "st"
          have e : isNm (c :: r) = false := by
            rw [Bool.eq_false_iff]
            intro q
            have w := nm_iff.mp q
            obtain ⟨x, hx, rfl⟩ := List.mem_map.mp hm
            exact h3 ((fnd_ld (hc x hx)).mpr (w.all x hx))
          have z := k H2 s2
          rw [e] at z
          exact z
theorem len_l_valid (K : PySem.W.Frag) (vs : List V) (H : Hp) (Q : VK) (E : XK) (h : sp_l_valid K vs H Q E) : vs.length = 1 := by
  obtain ⟨l, rfl, _⟩ := h
  rfl
theorem c_l_valid {K : PySem.W.Frag} {l : List Nat} {H : Hp} {Q : VK} {E : XK} (hl : l.length ≤ 100) (hc : ∀ c ∈ l, c < 127) (k : ∀ H', Same H H' → Q (.bl (isNm l)) H') : sp_l_valid K [.str (S l)] H Q E := ⟨l, rfl, hl, hc, k⟩

def sp_l_same_truth (K : PySem.W.Frag) : Sp := fun vs H Q _ => ∃ (a b : Bool), vs = [.bl a, .bl b] ∧ Q (.bl (decide (a = b))) H
abbrev N_l_same_truth : List Str := ["_law_actual", "_law_due"]
theorem st_l_same_truth {a0 a1 : V} : L2.start N_l_same_truth [a0, a1] = [some a0, some a1] := rfl
def t_l_same_truth (K : PySem.W.Frag) : TS :=
  (tRet ((tAndV ((tCB (rIsi K) ((tCons (tVar 0) ((tCons (tC (.ty "bool")) (tNil))))))) ((tOp rEq (tVar 0) (tVar 1))))))

theorem pure_l_same_truth (K : PySem.W.Frag) (vs : List V) (H : Hp) (Q : VK) (E : XK) (h : sp_l_same_truth K vs H Q E) : t_l_same_truth K { nx := fun _ H' => Q .non H', rt := Q } (L2.start N_l_same_truth vs) H := by
  obtain ⟨a, b, rfl, k⟩ := h
  rw [st_l_same_truth]
  unfold t_l_same_truth
  walk_at "st"
  exact k
theorem len_l_same_truth (K : PySem.W.Frag) (vs : List V) (H : Hp) (Q : VK) (E : XK) (h : sp_l_same_truth K vs H Q E) : vs.length = 2 := by
  obtain ⟨a, b, rfl, _⟩ := h
  rfl

def sp_is_name (K : PySem.W.Frag) : Sp := fun vs H Q _ => ∃ (l : List Nat), vs = [.str (S l)] ∧ l.length ≤ 1000 ∧ ∀ H', Same H H' → Q (.bl (isNm l)) H'
abbrev N_is_name : List Str := ["text", "sign"]
theorem st_is_name {a0 : V} : L2.start N_is_name [a0] = [some a0, none] := rfl
def t_is_name (K : PySem.W.Frag) : TS :=
  (tSeq ((tIfS ((tNot ((tTest (tChain (rI0 fun i j => .bl (decide (i ≤ j))) (rI0 fun i j => .bl (decide (i ≤ j))) (tC (.int 1)) ((tCB rLenStr ((tCons (tVar 0) (tNil))))) (tC (.int 8))))))) ((tRet (tC (.bl false)))) (tNext)))
    ((tRet ((tAndV ((tOp rInS ((tOp rIxS (tVar 0) (tC (.int 0)))) (tC (.str (S Z26))))) ((tCB (rAll K) ((tCons ((tLc ((iStr (tVar 0))) ((gName 1)) (tYes) ((tOrV ((tOp rInS (tVar 1) (tC (.str (S Z26))))) ((tOp rInS (tVar 1) (tC (.str (S Z10))))))) [1])) (tNil))))))))))

theorem pure_is_name (K : PySem.W.Frag) (vs : List V) (H : Hp) (Q : VK) (E : XK) (h : sp_is_name K vs H Q E) : t_is_name K { nx := fun _ H' => Q .non H', rt := Q } (L2.start N_is_name vs) H := by
  obtain ⟨l, rfl, hl, k⟩ := h
  rw [st_is_name]
  unfold t_is_name
  walk_at "st"
  have no : isNm l = false → Q (.bl false) H := fun e => by
    have z := k H (Same.refl H)
    rw [e] at z
    exact z
  refine ite_dec (fun h => ?_) (fun h => ?_)
  · walk_at "st"
    refine ite_ndec (fun h2 => ?_) (fun h2 => ?_)
    · walk_at "st"
      refine no ?_
      unfold isNm
      rw [decide_eq_false (by omega : ¬ l.length ≤ 8), Bool.false_and, Bool.and_false]
    · walk_at "st"
      cases l with
      | nil => exact absurd h (by simp)
      | cons c r =>
        refine wp_ixS (by rw [S_len]; omega) (c := c) at0 ?_
        walk_at "st"
        have hlen : decide (1 ≤ (c :: r).length) = true := by simp
        have hlen2 : decide ((c :: r).length ≤ 8) = true := by rw [decide_eq_true_eq]; omega
        refine ite_dec (fun h3 => ?_) (fun h3 => ?_)
        · walk_at "st"
          refine lcMapS (by omega) (fun x => [some (.str (S (c :: r))), some x]) (fun x => ⟨rfl, rfl⟩) (fun c => .bl (decide (LD c))) (fun c H2 hxm _ R hR => ?_) (fun D H2 hD s2 hD2 => ?_)
          · walk_at "st"
            have e : decide (LD c) = (decide (c ∈ Z26) || decide (c ∈ Z10)) := by
              rw [← Bool.decide_or, decide_eq_decide, z26, z10]
              rfl
            have z := hR H2 (Same.refl _)
            rw [e] at z
            refine ite_b (fun q => ?_) (fun q => ?_)
            · have q2 : decide (c ∈ Z26) = true := q
              rw [q2] at z
              exact z
            · have q2 : decide (c ∈ Z26) = false := q
              rw [q2] at z
              walk_at "st"
              exact z
          walk_at "st"
          refine wp_allL (bs := (c :: r).map fun c => decide (LD c)) (sq_of (by rw [List.map_map]; exact hD2)) ?_
          have e : ((c :: r).map fun c => decide (LD c)).all id = isNm (c :: r) := by
            unfold isNm
            have hc : decide (LT c) = true := decide_eq_true (z26.mp h3)
            rw [hlen, hlen2]
            show _ = (true && (true && (decide (LT c) && _)))
            rw [hc, List.all_map]
            rfl
          rw [e]
          exact k H2 s2
        · walk_at "st"
          refine no ?_
          rw [Bool.eq_false_iff]
          intro q
          obtain ⟨x, y, e, hx⟩ := (nm_iff.mp q).first
          cases e
          exact h3 (z26.mpr hx)
  · walk_at "st"
    refine no ?_
    unfold isNm
    rw [decide_eq_false (by omega : ¬ 1 ≤ l.length)]
    rfl
theorem len_is_name (K : PySem.W.Frag) (vs : List V) (H : Hp) (Q : VK) (E : XK) (h : sp_is_name K vs H Q E) : vs.length = 1 := by
  obtain ⟨l, rfl, _⟩ := h
  rfl
theorem c_is_name {K : PySem.W.Frag} {l : List Nat} {H : Hp} {Q : VK} {E : XK} (hl : l.length ≤ 1000) (k : ∀ H', Same H H' → Q (.bl (isNm l)) H') : sp_is_name K [.str (S l)] H Q E := ⟨l, rfl, hl, k⟩

def sp_law (K : PySem.W.Frag) : Sp := fun vs H Q _ => ∃ (a : Addr) (ns : List Int), vs = [.ref a] ∧ SqL K H a (ns.map V.int) ∧ ns.length ≤ 63 ∧ ∀ H', Q (.bl true) H'
abbrev N_law : List Str := ["_law_script", "_law_pool_here", "_law_way", "_law_name", "_law_text_here", "_law_at", "_law_due"]
theorem st_law {a0 : V} : L2.start N_law [a0] = [some a0, none, none, none, none, none, none] := rfl
def t_law (K : PySem.W.Frag) : TS :=
  (tSeq ((tAsg ((tCall (sp_l_pool K) [] E0 ((tCons (tVar 0) (tNil))))) (gName 1)))
    ((tSeq ((tAsg ((tCall (sp_l_draw K) [] E0 ((tCons (tVar 1) ((tCons (tC (.int 4)) (tNil))))))) (gName 2)))
    ((tSeq ((tAsg ((tOp (rIxL K) ((tCall (sp_l_names K) [] E0 ((tCons (tVar 1) ((tCons (tC (.int 1)) (tNil))))))) (tC (.int 0)))) (gName 3)))
    ((tSeq ((tAsg (tC (.str (S []))) (gName 4)))
    ((C8.tCut ((tIfS ((tTest (tOp (rI0 fun i j => .bl (decide (i < j))) (tVar 2) (tC (.int 2))))) ((tAsg ((tCall (sp_l_text K) [] E0 ((tCons (tVar 1) ((tCons (tVar 2) (tNil))))))) (gName 4))) ((tIfS ((tTest (tOp rEq (tVar 2) (tC (.int 2))))) ((tSeq ((tAsg ((tCall (sp_l_draw K) [] E0 ((tCons (tVar 1) ((tCons ((tCB rLenStr ((tCons (tVar 3) (tNil))))) (tNil))))))) (gName 5)))
    ((tAsg ((tOp rAddStr ((tOp rAddStr ((tSl rSlS (tVar 3) tNoPart (tPart (tVar 5)))) ((tCall (sp_l_sign K) [] E0 ((tCons (tVar 1) (tNil))))))) ((tSl rSlS (tVar 3) (tPart ((tOp (rI0 fun i j => .int (i + j)) (tVar 5) (tC (.int 1))))) tNoPart)))) (gName 4))))) ((tAsg ((tOp rAddStr (tVar 3) ((tCall (sp_l_sign K) [] E0 ((tCons (tVar 1) (tNil))))))) (gName 4)))))))
    ((tSeq ((tAsg ((tCall (sp_l_valid K) [] E0 ((tCons (tVar 4) (tNil))))) (gName 6)))
    ((tSeq ((tIfS ((tNot ((tB ((tCall (sp_l_same_truth K) [] E0 ((tCons ((tCall (sp_is_name K) [] E0 ((tCons (tVar 4) (tNil))))) ((tCons (tVar 6) (tNil))))))))))) ((tRet (tC (.bl false)))) (tNext)))
    ((tSeq ((tIfS ((tNot ((tB ((tCall (sp_l_same_truth K) [] E0 ((tCons ((tCall (sp_is_name K) [] E0 ((tCons (tVar 3) (tNil))))) ((tCons (tC (.bl true)) (tNil))))))))))) ((tRet (tC (.bl false)))) (tNext)))
    ((tRet ((tCall (sp_l_same_truth K) [] E0 ((tCons ((tCall (sp_is_name K) [] E0 ((tCons (tVar 4) (tNil))))) ((tCons (tVar 6) (tNil))))))))))))))))))))))))

theorem nm127 {l : List Nat} (h : Nm l) : ∀ c ∈ l, c < 127 := fun c hc => by rcases h.all c hc with h | h <;> omega
theorem pure_law (K : PySem.W.Frag) (vs : List V) (H : Hp) (Q : VK) (E : XK) (h : sp_law K vs H Q E) : t_law K { nx := fun _ H' => Q .non H', rt := Q } (L2.start N_law vs) H := by
  obtain ⟨a, ns, rfl, hx, hn, k⟩ := h
  rw [st_law]
  unfold t_law
  walk_at "st"
  refine c_l_pool hx hn fun P G H1 _ hs1 => ?_
  walk_at "st"
  refine c_l_draw hs1 (by omega) fun way H2 w0 w1 hs2 => ?_
  walk_at "st"
  refine c_l_names hs2 (by omega) fun nl q G3 H3 n0 n1 _ _ hq hs3 => ?_
  obtain ⟨nm, rfl⟩ : ∃ nm, nl = [nm] := by
    cases nl with
    | nil => simp at n0
    | cons x r =>
      cases r with
      | nil => exact ⟨x, rfl⟩
      | cons y r => simp at n0; omega
  have hnm : Nm nm := n1 nm (by simp)
  have hnl := hnm.len
  walk_at "st"
  refine wp_cut (fun σ' H' => ∃ (x : Option V) (t : List Nat), σ' = [some (.ref a), some (.ref P.p), some (.int way), some (.str (S nm)), some (.str (S t)), x, none] ∧ t.length ≤ 100 ∧ (∀ c ∈ t, c < 127)) ?_ ?_
  · walk_at "st"
    refine ite_dec (fun h => ?_) (fun h => ?_)
    · walk_at "st"
      refine c_l_text hs3 fun l H4 l0 l1 _ => ?_
      walk_at "st"
      exact ⟨_, l, rfl, by omega, l1⟩
    · walk_at "st"
      refine ite_dec (fun h2 => ?_) (fun h2 => ?_)
      · walk_at "st"
        have := hnm.pos
        refine c_l_draw hs3 (by omega) fun at_ H4 a0 a1 hs4 => ?_
        obtain ⟨k, rfl⟩ : ∃ k : Nat, at_ = k := ⟨at_.toNat, by omega⟩
        walk_at "st"
        rw [cutG_to (by omega)]
        refine c_l_sign hs4 fun c H5 c0 c1 _ hs5 => ?_
        refine wp_addS (by simp; omega) ?_
        walk_at "st"
        have e : ((k : Int) + 1) = ((k + 1 : Nat) : Int) := by omega
        rw [e, cutG_from (by omega)]
        refine wp_addS (by simp; omega) ?_
        walk_at "st"
        refine ⟨_, _, rfl, by simp; omega, fun x hx => ?_⟩
        rcases List.mem_append.mp hx with h | h
        · rcases List.mem_append.mp h with h | h
          · exact nm127 hnm x (List.mem_of_mem_take h)
          · rw [List.mem_singleton.mp h]; exact c1
        · exact nm127 hnm x (List.mem_of_mem_drop h)
      · walk_at "st"
        refine c_l_sign hs3 fun c H4 c0 c1 _ hs4 => ?_
        walk_at "st"
        refine ⟨_, _, rfl, by simp; omega, fun x hx => ?_⟩
        rcases List.mem_append.mp hx with h | h
        · exact nm127 hnm x h
        · rw [List.mem_singleton.mp h]; exact c1
  · rintro σ' H4 ⟨x, t, rfl, ht, hc⟩
    walk_at "st"
    refine c_l_valid ht hc fun H5 _ => ?_
    walk_at "st"
    refine c_is_name (by omega) fun H6 _ => ?_
    walk_at "st"
    refine ⟨_, _, rfl, ?_⟩
    walk_at "st"
    rw [decide_eq_true rfl]
    walk_at "st"
    refine c_is_name (by omega) fun H7 _ => ?_
    walk_at "st"
    refine ⟨_, _, rfl, ?_⟩
    walk_at "st"
    rw [nm_iff.mpr hnm, decide_eq_true rfl]
    walk_at "st"
    refine c_is_name (by omega) fun H8 _ => ?_
    walk_at "st"
    refine ⟨_, _, rfl, ?_⟩
    rw [decide_eq_true rfl]
    exact k _
theorem len_law (K : PySem.W.Frag) (vs : List V) (H : Hp) (Q : VK) (E : XK) (h : sp_law K vs H Q E) : vs.length = 1 := by
  obtain ⟨a, ns, rfl, _⟩ := h
  rfl
def top (i : Nat) : Stmt := PySem.Challenge.pw_roundminutes_k01_valid_names.main.body.getD i (.Pass ⟨0, 0, 0, 0⟩)
def inClass (st : Stmt) (j : Nat) : Stmt := (C8.clsBody st).getD j (.Pass ⟨0, 0, 0, 0⟩)
structure Txt (K : PySem.W.Frag) (mg : Str → Option Value) : Prop where
  f_len : mg "len" = none
  c_LONGEST_NAME : ∃ u, mg "LONGEST_NAME" = some u ∧ RelV (.int 8) u
  c_LETTERS : ∃ u, mg "LETTERS" = some u ∧ RelV (.str (S Z26)) u
  c_DIGITS : ∃ u, mg "DIGITS" = some u ∧ RelV (.str (S Z10)) u
  f_all : mg "all" = none
  f_int : mg "int" = none
  f_range : mg "range" = none
  f_str : mg "str" = none
  f_min : mg "min" = none
  f_bool : mg "bool" = none
  f_isinstance : mg "isinstance" = none
section
variable {P : Program} {w : World} {K : PySem.W.Frag} {mg : Str → Option Value} {base : Heap}
abbrev s_is_name : Stmt := top 4
theorem sc_is_name : FnScope N_is_name ["text"] (defScope s_is_name) := ⟨rfl, rfl, rfl, by decide +kernel, rfl, by decide +kernel, by decide +kernel⟩
theorem ok_is_name {f : Addr} {fd : FuncData} (F : FunD K "is_name" "is_name" (defArgs s_is_name) (defBody s_is_name) (defScope s_is_name) [] [] f fd) (T : Txt K mg) : FnOk P w K mg base CX0 1 f fd ["text"] (sp_is_name K) := by
  refine F.ok sc_is_name (len_is_name K) (fun cdv A outer s H vs Q E hr h => ⟨t_is_name K, PSs.nox ?_, pure_is_name K vs H Q E h⟩)
  exact (pss_cons (ps_if (pt_not (pt_chain op_le op_le pe_int (pe_callB callLenStr (by rfl) T.f_len (by decide +kernel) (pa_cons (pv 0) pa_nil)) (C8.pe_gc (by rfl) T.c_LONGEST_NAME))) (pss_one (ps_ret pe_bl)) pss_nil)
    (pss_one (ps_ret (pe_and (pe_cmpR op_inS (pe_ix ix_str (pv 0) pe_int (fun _ _ => rfl)) (C8.pe_gc (by rfl) T.c_LETTERS) (by rfl)) (pe_one (pe_callB (cr_all rfl) (by rfl) T.f_all (by decide +kernel) (pa_cons (pe_lc (own := [("sign", 1)]) rfl sc_is_name.nd (pi_str (pv 0)) (blkOk_by (N := N_is_name) (sc := defScope s_is_name) (by decide +kernel)) (fun _ _ _ _ _ => (pg_name (i := 1) sc_is_name.nd rfl (Or.inl rfl))) (fun _ _ _ _ _ => pts_nil) (fun _ _ _ _ _ => (pe_or (pe_cmpR op_inS (pv 1) (C8.pe_gc (by rfl) T.c_LETTERS) (by rfl)) (pe_one (pe_cmpR op_inS (pv 1) (C8.pe_gc (by rfl) T.c_DIGITS) (by rfl)))))) pa_nil)))))))
abbrev s_l_pool : Stmt := top 6
theorem sc_l_pool : FnScope N_l_pool ["_law_script"] (defScope s_l_pool) := ⟨rfl, rfl, rfl, by decide +kernel, rfl, by decide +kernel, by decide +kernel⟩
theorem ok_l_pool {f : Addr} {fd : FuncData} (F : FunD K "_law_pool" "_law_pool" (defArgs s_l_pool) (defBody s_l_pool) (defScope s_l_pool) [] [] f fd) (T : Txt K mg) : FnOk P w K mg base CX0 1 f fd ["_law_script"] (sp_l_pool K) := by
  refine F.ok sc_l_pool (len_l_pool K) (fun cdv A outer s H vs Q E hr h => ⟨t_l_pool K, PSs.nox ?_, pure_l_pool K vs H Q E h⟩)
  exact (pss_cons (ps_setLc (i := 1) (own := [("_law_cell", 3)]) rfl sc_l_pool.nd rfl rfl (sw_true rfl rfl rfl (by decide +kernel)) (pi_list (pv 0)) (blkOk_by (N := N_l_pool) (sc := defScope s_l_pool) (by decide +kernel)) (fun _ _ _ _ _ => (pg_name (i := 3) sc_l_pool.nd rfl (Or.inl rfl))) (fun _ _ _ _ _ => pts_nil) (fun _ _ _ _ _ => (pe_callTy callInt1 (by rfl) T.f_int (by decide +kernel) (pa_cons (pv 3) pa_nil))))
    (pss_cons (ps_set (i := 2) sc_l_pool.nd rfl (Or.inl rfl) pe_int)
    (pss_cons (ps_if (PW.pt (pw_and (pt_cmpR op_gt (pe_callB callLenSeq (by rfl) T.f_len (by decide +kernel) (pa_cons (pv 1) pa_nil)) pe_int (nomark _)) (pw_and1 (pt_cmpR op_ge (pe_ix ix_list (pv 1) pe_int (fun _ _ => rfl)) (pe_op op_pow pe_int pe_int) (nomark _))))) (pss_one (ps_set (i := 2) sc_l_pool.nd rfl (Or.inl rfl) (pe_ix ix_list (pv 1) pe_int (fun _ _ => rfl)))) pss_nil)
    (pss_one (ps_ret (pe_lst (pa_cons (pv 2) (pa_cons pe_int (pa_cons (pv 1) pa_nil)))))))))
abbrev s_l_draw : Stmt := top 7
theorem sc_l_draw : FnScope N_l_draw ["_law_pool_here", "_law_many"] (defScope s_l_draw) := ⟨rfl, rfl, rfl, by decide +kernel, rfl, by decide +kernel, by decide +kernel⟩
theorem ok_l_draw {f : Addr} {fd : FuncData} (F : FunD K "_law_draw" "_law_draw" (defArgs s_l_draw) (defBody s_l_draw) (defScope s_l_draw) [] [] f fd) (T : Txt K mg) : FnOk P w K mg base CX0 1 f fd ["_law_pool_here", "_law_many"] (sp_l_draw K) := by
  refine F.ok sc_l_draw (len_l_draw K) (fun cdv A outer s H vs Q E hr h => ⟨t_l_draw K, PSs.nox ?_, pure_l_draw K vs H Q E h⟩)
  exact (pss_cons (ps_if (pt_cmpR op_gt (pe_ix ix_list (pv 0) pe_int (fun _ _ => rfl)) pe_int (nomark _)) (pss_cons (ps_set (i := 2) sc_l_draw.nd rfl (Or.inl rfl) (pe_op op_mod (pe_callTy callInt1 (by rfl) T.f_int (by decide +kernel) (pa_cons (pe_ix ix_list (pv 0) pe_int (fun _ _ => rfl)) pa_nil)) (pv 1)))
    (pss_cons (ps_asg (pe_op op_fdiv (pe_ix ix_list (pv 0) pe_int (fun _ _ => rfl)) (pv 1)) (pg_sub (pv 0) pe_int set_list))
    (pss_one (ps_ret (pv 2))))) pss_nil)
    (pss_cons (ps_asg (pe_op op_add (pe_ix ix_list (pv 0) pe_int (fun _ _ => rfl)) pe_int) (pg_sub (pv 0) pe_int set_list))
    (pss_cons (ps_set (i := 3) sc_l_draw.nd rfl (Or.inl rfl) (pe_ix ix_list (pv 0) pe_int (fun _ _ => rfl)))
    (pss_cons (ps_set (i := 4) sc_l_draw.nd rfl (Or.inl rfl) pe_int)
    (pss_cons (ps_set (i := 5) sc_l_draw.nd rfl (Or.inl rfl) pe_int)
    (pss_cons (ps_if (pt_cmpR op_gt (pe_callB callLenSeq (by rfl) T.f_len (by decide +kernel) (pa_cons (pv 3) pa_nil)) pe_int (nomark _)) (pss_cons (ps_set (i := 4) sc_l_draw.nd rfl (Or.inl rfl) (pe_ix ix_list (pv 3) (pe_op op_mod (pe_callTy callInt1 (by rfl) T.f_int (by decide +kernel) (pa_cons (pe_ix ix_list (pv 0) pe_int (fun _ _ => rfl)) pa_nil)) (pe_callB callLenSeq (by rfl) T.f_len (by decide +kernel) (pa_cons (pv 3) pa_nil))) (fun _ _ => rfl)))
    (pss_one (ps_set (i := 5) sc_l_draw.nd rfl (Or.inl rfl) (pe_ix ix_list (pv 3) pe_int (fun _ _ => rfl))))) pss_nil)
    (pss_cons (ps_set (i := 6) sc_l_draw.nd rfl (Or.inl rfl) (pe_op op_mod (pe_callTy callInt1 (by rfl) T.f_int (by decide +kernel) (pa_cons (pe_op op_add (pe_op op_add (pe_op op_add (pe_op op_mul (pv 4) pe_int) (pe_op op_mul (pv 5) pe_int)) (pe_op op_mul (pe_ix ix_list (pv 0) pe_int (fun _ _ => rfl)) pe_int)) pe_int) pa_nil)) pe_int))
    (pss_cons (ps_set (i := 6) sc_l_draw.nd rfl (Or.inl rfl) (pe_op op_mod (pe_callTy callInt1 (by rfl) T.f_int (by decide +kernel) (pa_cons (pe_op op_add (pe_op op_add (pe_op op_mul (pv 6) (pv 6)) (pe_op op_mul (pv 6) pe_int)) (pe_op op_mul (pe_ix ix_list (pv 0) pe_int (fun _ _ => rfl)) pe_int)) pa_nil)) pe_int))
    (pss_one (ps_ret (pe_op op_mod (pe_callTy callInt1 (by rfl) T.f_int (by decide +kernel) (pa_cons (pe_op op_fdiv (pv 6) pe_int) pa_nil)) (pv 1))))))))))))
abbrev s_l_word : Stmt := top 8
theorem sc_l_word : FnScope N_l_word ["_law_pool_here", "_law_size"] (defScope s_l_word) := ⟨rfl, rfl, rfl, by decide +kernel, rfl, by decide +kernel, by decide +kernel⟩
theorem ok_l_word {f : Addr} {fd : FuncData} (F : FunD K "_law_word" "_law_word" (defArgs s_l_word) (defBody s_l_word) (defScope s_l_word) [] [] f fd) (T : Txt K mg) (G_l_draw : C8.Cal P w K mg base (1) "_law_draw" (sp_l_draw K) []) : FnOk P w K mg base CX0 2 f fd ["_law_pool_here", "_law_size"] (sp_l_word K) := by
  refine F.ok sc_l_word (len_l_word K) (fun cdv A outer s H vs Q E hr h => ⟨t_l_word K, PSs.nox ?_, pure_l_word K vs H Q E h⟩)
  exact (pss_cons (ps_set (i := 2) sc_l_word.nd rfl (Or.inl rfl) (pe_strS (by decide +kernel)))
    (pss_cons (ps_set (i := 3) sc_l_word.nd rfl (Or.inl rfl) (pe_strS (by decide +kernel)))
    (pss_cons (ps_for PassesOwn.never rfl (pi_range1 rfl T.f_range (pa_cons (pv 1) pa_nil)) (pg_name (i := 4) sc_l_word.nd rfl (Or.inl rfl)) (pss_one (ps_set (i := 3) sc_l_word.nd rfl (Or.inl rfl) (pe_op opAddStr (pv 3) (pe_ix ix_str (pv 2) (C8.pe_c G_l_draw hr (by omega) (by rfl) (pa_cons (pv 0) (pa_cons pe_int pa_nil))) (fun _ _ => rfl))))))
    (pss_one (ps_ret (pv 3))))))
abbrev s_l_names : Stmt := top 9
theorem sc_l_names : FnScope N_l_names ["_law_pool_here", "_law_many"] (defScope s_l_names) := ⟨rfl, rfl, rfl, by decide +kernel, rfl, by decide +kernel, by decide +kernel⟩
theorem ok_l_names {f : Addr} {fd : FuncData} (F : FunD K "_law_names" "_law_names" (defArgs s_l_names) (defBody s_l_names) (defScope s_l_names) [] [] f fd) (T : Txt K mg) (G_l_draw : C8.Cal P w K mg base (1) "_law_draw" (sp_l_draw K) []) (G_l_word : C8.Cal P w K mg base (2) "_law_word" (sp_l_word K) []) : FnOk P w K mg base CX0 3 f fd ["_law_pool_here", "_law_many"] (sp_l_names K) := by
  refine F.ok sc_l_names (len_l_names K) (fun cdv A outer s H vs Q E hr h => ⟨t_l_names K, PSs.nox ?_, pure_l_names K vs H Q E h⟩)
  exact (pss_cons (ps_set (i := 2) sc_l_names.nd rfl (Or.inl rfl) (pe_strS (by decide +kernel)))
    (pss_cons (ps_set (i := 3) sc_l_names.nd rfl (Or.inl rfl) (pe_strS (by decide +kernel)))
    (pss_cons (ps_set (i := 4) sc_l_names.nd rfl (Or.inl rfl) (C8.pe_c G_l_draw hr (by omega) (by rfl) (pa_cons (pv 0) (pa_cons pe_int pa_nil))))
    (pss_cons (ps_set (i := 5) sc_l_names.nd rfl (Or.inl rfl) (pe_op opAddStr (pe_ix ix_str (pv 2) (C8.pe_c G_l_draw hr (by omega) (by rfl) (pa_cons (pv 0) (pa_cons pe_int pa_nil))) (fun _ _ => rfl)) (C8.pe_c G_l_word hr (by omega) (by rfl) (pa_cons (pv 0) (pa_cons (C8.pe_c G_l_draw hr (by omega) (by rfl) (pa_cons (pv 0) (pa_cons pe_int pa_nil))) pa_nil)))))
    (pss_cons (ps_set (i := 6) sc_l_names.nd rfl (Or.inl rfl) (C8.pe_c G_l_word hr (by omega) (by rfl) (pa_cons (pv 0) (pa_cons (C8.pe_c G_l_draw hr (by omega) (by rfl) (pa_cons (pv 0) (pa_cons pe_int pa_nil))) pa_nil))))
    (pss_cons (ps_set (i := 7) sc_l_names.nd rfl (Or.inl rfl) (C8.pe_c G_l_draw hr (by omega) (by rfl) (pa_cons (pv 0) (pa_cons pe_int pa_nil))))
    (pss_cons (ps_set (i := 8) sc_l_names.nd rfl (Or.inl rfl) (pe_lst pa_nil))
    (pss_cons (ps_for PassesOwn.never rfl (pi_range1 rfl T.f_range (pa_cons (pv 1) pa_nil)) (pg_name (i := 9) sc_l_names.nd rfl (Or.inl rfl)) (pss_cons (ps_set (i := 10) sc_l_names.nd rfl (Or.inl rfl) (pe_op opAddStr (pe_op opAddStr (pv 5) (pe_ix ix_str (pv 3) (pe_op op_mod (pe_callTy callInt1 (by rfl) T.f_int (by decide +kernel) (pa_cons (pe_op op_add (pv 7) (pe_op op_mul pe_int (pv 9))) pa_nil)) pe_int) (fun _ _ => rfl))) (pv 6)))
    (C8.pss_cut (ps_if (pt_cmpR op_eq (pv 4) pe_int (nomark _)) (pss_one (ps_set (i := 10) sc_l_names.nd rfl (Or.inl rfl) (pe_op opAddStr (pe_ix ix_str (pv 2) (pe_op op_mod (pe_callTy callInt1 (by rfl) T.f_int (by decide +kernel) (pa_cons (pe_op op_add (pv 7) (pe_op op_mul pe_int (pv 9))) pa_nil)) pe_int) (fun _ _ => rfl)) (C8.pe_c G_l_word hr (by omega) (by rfl) (pa_cons (pv 0) (pa_cons (C8.pe_c G_l_draw hr (by omega) (by rfl) (pa_cons (pv 0) (pa_cons pe_int pa_nil))) pa_nil)))))) pss_nil)
    (C8.pss_cut (ps_if (pt_cmpR op_eq (pv 4) pe_int (nomark _)) (pss_one (ps_set (i := 10) sc_l_names.nd rfl (Or.inl rfl) (pe_op opAddStr (pe_ix ix_str (pv 2) (C8.pe_c G_l_draw hr (by omega) (by rfl) (pa_cons (pv 0) (pa_cons pe_int pa_nil))) (fun _ _ => rfl)) (C8.pe_c G_l_word hr (by omega) (by rfl) (pa_cons (pv 0) (pa_cons (C8.pe_c G_l_draw hr (by omega) (by rfl) (pa_cons (pv 0) (pa_cons pe_int pa_nil))) pa_nil)))))) pss_nil)
    (pss_cons (ps_for PassesOwn.never rfl (pi_range1 rfl T.f_range (pa_cons pe_int pa_nil)) (pg_name (i := 11) sc_l_names.nd rfl (Or.inl rfl)) (pss_one (ps_if (PW.pt (pw_and (pt_cmpR op_in_seq (pv 10) (pv 8) (by rfl)) (pw_and1 (pt_cmpR op_notIn_seq (pe_op opAddStr (pe_strS (by decide +kernel)) (pe_callTy callStrInt (by rfl) T.f_str (by decide +kernel) (pa_cons (pv 11) pa_nil))) (pv 8) (by rfl))))) (pss_one (ps_set (i := 10) sc_l_names.nd rfl (Or.inl rfl) (pe_op opAddStr (pe_strS (by decide +kernel)) (pe_callTy callStrInt (by rfl) T.f_str (by decide +kernel) (pa_cons (pv 11) pa_nil))))) pss_nil)))
    (pss_one (ps_expr (pe_bm PySem.F.plainAttrs_list PySem.F.slot_list_append PySem.F.type_list_append mt_append (pv 8) (pa_cons (pv 10) pa_nil)))))))))
    (pss_one (ps_ret (pv 8)))))))))))
abbrev s_l_sign : Stmt := top 10
theorem sc_l_sign : FnScope N_l_sign ["_law_pool_here"] (defScope s_l_sign) := ⟨rfl, rfl, rfl, by decide +kernel, rfl, by decide +kernel, by decide +kernel⟩
theorem ok_l_sign {f : Addr} {fd : FuncData} (F : FunD K "_law_sign" "_law_sign" (defArgs s_l_sign) (defBody s_l_sign) (defScope s_l_sign) [] [] f fd) (T : Txt K mg) (G_l_draw : C8.Cal P w K mg base (1) "_law_draw" (sp_l_draw K) []) : FnOk P w K mg base CX0 2 f fd ["_law_pool_here"] (sp_l_sign K) := by
  refine F.ok sc_l_sign (len_l_sign K) (fun cdv A outer s H vs Q E hr h => ⟨t_l_sign K, PSs.nox ?_, pure_l_sign K vs H Q E h⟩)
  exact (pss_cons (ps_set (i := 1) sc_l_sign.nd rfl (Or.inl rfl) (pe_strS (by decide +kernel)))
    (pss_cons (ps_set (i := 1) sc_l_sign.nd rfl (Or.inl rfl) (pe_op opAddStr (pv 1) (pe_strS (by decide +kernel))))
    (pss_one (ps_ret (pe_ix ix_str (pv 1) (C8.pe_c G_l_draw hr (by omega) (by rfl) (pa_cons (pv 0) (pa_cons pe_int pa_nil))) (fun _ _ => rfl))))))
abbrev s_l_text : Stmt := top 11
theorem sc_l_text : FnScope N_l_text ["_law_pool_here", "_law_way"] (defScope s_l_text) := ⟨rfl, rfl, rfl, by decide +kernel, rfl, by decide +kernel, by decide +kernel⟩
theorem ok_l_text {f : Addr} {fd : FuncData} (F : FunD K "_law_text" "_law_text" (defArgs s_l_text) (defBody s_l_text) (defScope s_l_text) [] [] f fd) (T : Txt K mg) (G_l_draw : C8.Cal P w K mg base (1) "_law_draw" (sp_l_draw K) []) (G_l_word : C8.Cal P w K mg base (2) "_law_word" (sp_l_word K) []) (G_l_sign : C8.Cal P w K mg base (2) "_law_sign" (sp_l_sign K) []) : FnOk P w K mg base CX0 3 f fd ["_law_pool_here", "_law_way"] (sp_l_text K) := by
  refine F.ok sc_l_text (len_l_text K) (fun cdv A outer s H vs Q E hr h => ⟨t_l_text K, PSs.nox ?_, pure_l_text K vs H Q E h⟩)
  exact (pss_cons (ps_set (i := 2) sc_l_text.nd rfl (Or.inl rfl) (C8.pe_c G_l_draw hr (by omega) (by rfl) (pa_cons (pv 0) (pa_cons pe_int pa_nil))))
    (C8.pss_cut (ps_if (pt_cmpR op_eq (C8.pe_c G_l_draw hr (by omega) (by rfl) (pa_cons (pv 0) (pa_cons pe_int pa_nil))) pe_int (nomark _)) (pss_one (ps_set (i := 2) sc_l_text.nd rfl (Or.inl rfl) (C8.pe_c G_l_draw hr (by omega) (by rfl) (pa_cons (pv 0) (pa_cons pe_int pa_nil))))) pss_nil)
    (pss_cons (ps_if (pt_cmpR op_eq (pv 1) pe_int (nomark _)) (pss_one (ps_ret (C8.pe_c G_l_word hr (by omega) (by rfl) (pa_cons (pv 0) (pa_cons (pv 2) pa_nil))))) pss_nil)
    (pss_cons (ps_set (i := 3) sc_l_text.nd rfl (Or.inl rfl) (pe_strS (by decide +kernel)))
    (pss_cons (ps_for PassesOwn.never rfl (pi_range1 rfl T.f_range (pa_cons (pv 2) pa_nil)) (pg_name (i := 4) sc_l_text.nd rfl (Or.inl rfl)) (pss_one (ps_set (i := 3) sc_l_text.nd rfl (Or.inl rfl) (pe_op opAddStr (pv 3) (C8.pe_c G_l_sign hr (by omega) (by rfl) (pa_cons (pv 0) pa_nil))))))
    (pss_one (ps_ret (pv 3))))))))
abbrev s_l_valid : Stmt := top 12
theorem sc_l_valid : FnScope N_l_valid ["_law_text_here"] (defScope s_l_valid) := ⟨rfl, rfl, rfl, by decide +kernel, rfl, by decide +kernel, by decide +kernel⟩
theorem ok_l_valid {f : Addr} {fd : FuncData} (F : FunD K "_law_valid" "_law_valid" (defArgs s_l_valid) (defBody s_l_valid) (defScope s_l_valid) [] [] f fd) (T : Txt K mg) : FnOk P w K mg base CX0 1 f fd ["_law_text_here"] (sp_l_valid K) := by
  refine F.ok sc_l_valid (len_l_valid K) (fun cdv A outer s H vs Q E hr h => ⟨t_l_valid K, PSs.nox ?_, pure_l_valid K vs H Q E h⟩)
  exact (pss_cons (ps_set (i := 1) sc_l_valid.nd rfl (Or.inr rfl) (pe_strS (by decide +kernel)))
    (pss_cons (ps_setLc (i := 2) (own := [("_law_sign_here", 3)]) rfl sc_l_valid.nd rfl rfl (sw_true rfl rfl rfl (by decide +kernel)) (pi_str (pv 0)) (blkOk_by (N := N_l_valid) (sc := defScope s_l_valid) (by decide +kernel)) (fun _ _ _ _ _ => (pg_name (i := 3) sc_l_valid.nd rfl (Or.inl rfl))) (fun _ _ _ _ _ => pts_nil) (fun _ _ _ _ _ => (pe_bm PySem.F.plainAttrs_str PySem.F.slot_str_find PySem.F.type_str_find mtFind (pv 1) (pa_cons (pv 3) pa_nil))))
    (pss_cons (ps_if (PW.pt (pw_or (pt_cmpR op_lt (pe_callB callLenSeq (by rfl) T.f_len (by decide +kernel) (pa_cons (pv 2) pa_nil)) pe_int (nomark _)) (pw_or1 (pt_cmpR op_gt (pe_callB callLenSeq (by rfl) T.f_len (by decide +kernel) (pa_cons (pv 2) pa_nil)) pe_int (nomark _))))) (pss_one (ps_ret pe_bl)) pss_nil)
    (pss_one (ps_ret (pe_and (pe_cmpR op_ge (pe_callB (cr_min rfl) (by rfl) T.f_min (by decide +kernel) (pa_cons (pv 2) pa_nil)) pe_int (nomark _)) (pe_one (pe_cmpR op_lt (pe_ix ix_list (pv 2) pe_int (fun _ _ => rfl)) pe_int (nomark _)))))))))
abbrev s_l_same_truth : Stmt := top 13
theorem sc_l_same_truth : FnScope N_l_same_truth ["_law_actual", "_law_due"] (defScope s_l_same_truth) := ⟨rfl, rfl, rfl, by decide +kernel, rfl, by decide +kernel, by decide +kernel⟩
theorem ok_l_same_truth {f : Addr} {fd : FuncData} (F : FunD K "_law_same_truth" "_law_same_truth" (defArgs s_l_same_truth) (defBody s_l_same_truth) (defScope s_l_same_truth) [] [] f fd) (T : Txt K mg) : FnOk P w K mg base CX0 1 f fd ["_law_actual", "_law_due"] (sp_l_same_truth K) := by
  refine F.ok sc_l_same_truth (len_l_same_truth K) (fun cdv A outer s H vs Q E hr h => ⟨t_l_same_truth K, PSs.nox ?_, pure_l_same_truth K vs H Q E h⟩)
  exact (pss_one (ps_ret (pe_and (pe_callB call_isi (by rfl) T.f_isinstance (by decide +kernel) (pa_cons (pv 0) (pa_cons (pe_bltn (v := .ty "bool") (by rfl) T.f_bool (by decide +kernel) rfl) pa_nil))) (pe_one (pe_cmpR op_eq (pv 0) (pv 1) (nomark _))))))
abbrev s_law : Stmt := top 14
theorem sc_law : FnScope N_law ["_law_script"] (defScope s_law) := ⟨rfl, rfl, rfl, by decide +kernel, rfl, by decide +kernel, by decide +kernel⟩
theorem ok_law {f : Addr} {fd : FuncData} (F : FunD K "law" "law" (defArgs s_law) (defBody s_law) (defScope s_law) [] [] f fd) (T : Txt K mg) (G_is_name : C8.Cal P w K mg base (1) "is_name" (sp_is_name K) []) (G_l_pool : C8.Cal P w K mg base (1) "_law_pool" (sp_l_pool K) []) (G_l_draw : C8.Cal P w K mg base (1) "_law_draw" (sp_l_draw K) []) (G_l_names : C8.Cal P w K mg base (3) "_law_names" (sp_l_names K) []) (G_l_sign : C8.Cal P w K mg base (2) "_law_sign" (sp_l_sign K) []) (G_l_text : C8.Cal P w K mg base (3) "_law_text" (sp_l_text K) []) (G_l_valid : C8.Cal P w K mg base (1) "_law_valid" (sp_l_valid K) []) (G_l_same_truth : C8.Cal P w K mg base (1) "_law_same_truth" (sp_l_same_truth K) []) : FnOk P w K mg base CX0 4 f fd ["_law_script"] (sp_law K) := by
  refine F.ok sc_law (len_law K) (fun cdv A outer s H vs Q E hr h => ⟨t_law K, PSs.nox ?_, pure_law K vs H Q E h⟩)
  exact (pss_cons (ps_set (i := 1) sc_law.nd rfl (Or.inl rfl) (C8.pe_c G_l_pool hr (by omega) (by rfl) (pa_cons (pv 0) pa_nil)))
    (pss_cons (ps_set (i := 2) sc_law.nd rfl (Or.inl rfl) (C8.pe_c G_l_draw hr (by omega) (by rfl) (pa_cons (pv 1) (pa_cons pe_int pa_nil))))
    (pss_cons (ps_set (i := 3) sc_law.nd rfl (Or.inl rfl) (pe_ix ix_list (C8.pe_c G_l_names hr (by omega) (by rfl) (pa_cons (pv 1) (pa_cons pe_int pa_nil))) pe_int (fun _ _ => rfl)))
    (pss_cons (ps_set (i := 4) sc_law.nd rfl (Or.inl rfl) (pe_strS (by decide +kernel)))
    (C8.pss_cut (ps_if (pt_cmpR op_lt (pv 2) pe_int (nomark _)) (pss_one (ps_set (i := 4) sc_law.nd rfl (Or.inl rfl) (C8.pe_c G_l_text hr (by omega) (by rfl) (pa_cons (pv 1) (pa_cons (pv 2) pa_nil))))) (pss_one (ps_if (pt_cmpR op_eq (pv 2) pe_int (nomark _)) (pss_cons (ps_set (i := 5) sc_law.nd rfl (Or.inl rfl) (C8.pe_c G_l_draw hr (by omega) (by rfl) (pa_cons (pv 1) (pa_cons (pe_callB callLenStr (by rfl) T.f_len (by decide +kernel) (pa_cons (pv 3) pa_nil)) pa_nil))))
    (pss_one (ps_set (i := 4) sc_law.nd rfl (Or.inl rfl) (pe_op opAddStr (pe_op opAddStr (pe_slice sl_str (pv 3) po_none (po_some (pv 5))) (C8.pe_c G_l_sign hr (by omega) (by rfl) (pa_cons (pv 1) pa_nil))) (pe_slice sl_str (pv 3) (po_some (pe_op op_add (pv 5) pe_int)) po_none))))) (pss_one (ps_set (i := 4) sc_law.nd rfl (Or.inl rfl) (pe_op opAddStr (pv 3) (C8.pe_c G_l_sign hr (by omega) (by rfl) (pa_cons (pv 1) pa_nil))))))))
    (pss_cons (ps_set (i := 6) sc_law.nd rfl (Or.inl rfl) (C8.pe_c G_l_valid hr (by omega) (by rfl) (pa_cons (pv 4) pa_nil)))
    (pss_cons (ps_if (pt_not (pt_val (C8.pe_c G_l_same_truth hr (by omega) (by rfl) (pa_cons (C8.pe_c G_is_name hr (by omega) (by rfl) (pa_cons (pv 4) pa_nil)) (pa_cons (pv 6) pa_nil))))) (pss_one (ps_ret pe_bl)) pss_nil)
    (pss_cons (ps_if (pt_not (pt_val (C8.pe_c G_l_same_truth hr (by omega) (by rfl) (pa_cons (C8.pe_c G_is_name hr (by omega) (by rfl) (pa_cons (pv 3) pa_nil)) (pa_cons pe_bl pa_nil))))) (pss_one (ps_ret pe_bl)) pss_nil)
    (pss_one (ps_ret (C8.pe_c G_l_same_truth hr (by omega) (by rfl) (pa_cons (C8.pe_c G_is_name hr (by omega) (by rfl) (pa_cons (pv 4) pa_nil)) (pa_cons (pv 6) pa_nil)))))))))))))
end
def d_is_name : DX := ⟨fun K => He.ga K "is_name", "is_name", "is_name", defArgs s_is_name, defBody s_is_name, defScope s_is_name, [], []⟩
def d_l_pool : DX := ⟨fun K => He.ga K "_law_pool", "_law_pool", "_law_pool", defArgs s_l_pool, defBody s_l_pool, defScope s_l_pool, [], []⟩
def d_l_draw : DX := ⟨fun K => He.ga K "_law_draw", "_law_draw", "_law_draw", defArgs s_l_draw, defBody s_l_draw, defScope s_l_draw, [], []⟩
def d_l_word : DX := ⟨fun K => He.ga K "_law_word", "_law_word", "_law_word", defArgs s_l_word, defBody s_l_word, defScope s_l_word, [], []⟩
def d_l_names : DX := ⟨fun K => He.ga K "_law_names", "_law_names", "_law_names", defArgs s_l_names, defBody s_l_names, defScope s_l_names, [], []⟩
def d_l_sign : DX := ⟨fun K => He.ga K "_law_sign", "_law_sign", "_law_sign", defArgs s_l_sign, defBody s_l_sign, defScope s_l_sign, [], []⟩
def d_l_text : DX := ⟨fun K => He.ga K "_law_text", "_law_text", "_law_text", defArgs s_l_text, defBody s_l_text, defScope s_l_text, [], []⟩
def d_l_valid : DX := ⟨fun K => He.ga K "_law_valid", "_law_valid", "_law_valid", defArgs s_l_valid, defBody s_l_valid, defScope s_l_valid, [], []⟩
def d_l_same_truth : DX := ⟨fun K => He.ga K "_law_same_truth", "_law_same_truth", "_law_same_truth", defArgs s_l_same_truth, defBody s_l_same_truth, defScope s_l_same_truth, [], []⟩
def d_law : DX := ⟨fun K => He.ga K "law", "law", "law", defArgs s_law, defBody s_law, defScope s_law, [], []⟩
def fns : List DX := [d_is_name, d_l_pool, d_l_draw, d_l_word, d_l_names, d_l_sign, d_l_text, d_l_valid, d_l_same_truth, d_law]
def bs : List (PySem.W.Frag → Bool) := []
def fas : List He.Fa := [.glo "is_name", .glo "_law_pool", .glo "_law_draw", .glo "_law_word", .glo "_law_names", .glo "_law_sign", .glo "_law_text", .glo "_law_valid", .glo "_law_same_truth", .glo "law", .free "len", .int "LONGEST_NAME" (8), .str "LETTERS" "abcdefghijklmnopqrstuvwxyz", .str "DIGITS" "0123456789", .free "all", .free "int", .free "range", .free "str", .free "min", .free "bool", .free "isinstance"]
abbrev Rw : PySem.W.OpenRow := PySem.W.OpenLaw.row PySem.Challenge.rw_roundminutes_k01_valid_names
abbrev hk : PySem.W.Hook := hookX 7 bs fas fns
def ob (s : PySem.W.SharedT) : AlX := obsXG 7 bs fas fns (HandSHeadRun.getT s)
theorem ob_ok (s : PySem.W.SharedT) : ob s = hk.obs s.abs := obsXG_eq (HandSHeadRun.getT_eq s)
def loose : List Str := [("LETTERS" : Str), ("DIGITS" : Str), ("LONGEST_NAME" : Str), ("is_name" : Str), ("_law_pool" : Str), ("_law_draw" : Str), ("_law_word" : Str), ("_law_names" : Str), ("_law_sign" : Str), ("_law_text" : Str), ("_law_valid" : Str), ("_law_same_truth" : Str)]
theorem run (w : World) : HandSHeadRun.RunEq Rw (PySem.W.view Rw.prog [14]) hk ob 8000 loose w := by
  intro os
  kernel_rfl
theorem facts {P : Program} {w : World} {K : PySem.W.Frag} {h : Heap} {mg : Str → Option Value} {f : Addr} (X : K.In h) (G : h.Ns mainGlobals mg) (hfa : mg ("law" : Str) = some (.ref f)) (c : SaysX bs fas fns K) :
    ∃ fd : FuncData, (∀ (s : Shared) (v : Value), BindsTo s fd ⟨[v], []⟩ [("_law_script", v)]) ∧ ∀ base : Heap, K.In base → base.Ns mainGlobals mg → FnOk P w K mg base CX0 4 f fd ["_law_script"] (sp_law K) := by
  obtain ⟨fd_is_name, F_is_name⟩ := c.def_ 0 (d := d_is_name) rfl
  have g_is_name := He.glo_ok X G (c.fact 0 (f := .glo "is_name") rfl)
  obtain ⟨fd_l_pool, F_l_pool⟩ := c.def_ 1 (d := d_l_pool) rfl
  have g_l_pool := He.glo_ok X G (c.fact 1 (f := .glo "_law_pool") rfl)
  obtain ⟨fd_l_draw, F_l_draw⟩ := c.def_ 2 (d := d_l_draw) rfl
  have g_l_draw := He.glo_ok X G (c.fact 2 (f := .glo "_law_draw") rfl)
  obtain ⟨fd_l_word, F_l_word⟩ := c.def_ 3 (d := d_l_word) rfl
  have g_l_word := He.glo_ok X G (c.fact 3 (f := .glo "_law_word") rfl)
  obtain ⟨fd_l_names, F_l_names⟩ := c.def_ 4 (d := d_l_names) rfl
  have g_l_names := He.glo_ok X G (c.fact 4 (f := .glo "_law_names") rfl)
  obtain ⟨fd_l_sign, F_l_sign⟩ := c.def_ 5 (d := d_l_sign) rfl
  have g_l_sign := He.glo_ok X G (c.fact 5 (f := .glo "_law_sign") rfl)
  obtain ⟨fd_l_text, F_l_text⟩ := c.def_ 6 (d := d_l_text) rfl
  have g_l_text := He.glo_ok X G (c.fact 6 (f := .glo "_law_text") rfl)
  obtain ⟨fd_l_valid, F_l_valid⟩ := c.def_ 7 (d := d_l_valid) rfl
  have g_l_valid := He.glo_ok X G (c.fact 7 (f := .glo "_law_valid") rfl)
  obtain ⟨fd_l_same_truth, F_l_same_truth⟩ := c.def_ 8 (d := d_l_same_truth) rfl
  have g_l_same_truth := He.glo_ok X G (c.fact 8 (f := .glo "_law_same_truth") rfl)
  obtain ⟨fd_law, F_law⟩ := c.def_ 9 (d := d_law) rfl
  have g_law := He.glo_ok X G (c.fact 9 (f := .glo "law") rfl)
  have t_f_len := He.free_ok X G (c.fact 10 (f := .free "len") rfl)
  have t_c_LONGEST_NAME : ∃ u, mg "LONGEST_NAME" = some u ∧ RelV (.int 8) u := (He.int_ok X G (c.fact 11 (f := .int "LONGEST_NAME" (8)) rfl)).elim fun t e => ⟨_, e, ⟨t, rfl⟩⟩
  have z_c_LETTERS : ("abcdefghijklmnopqrstuvwxyz" : Str) = S Z26 := by decide +kernel
  have t_c_LETTERS : ∃ u, mg "LETTERS" = some u ∧ RelV (.str (S Z26)) u := (He.str_ok X G (c.fact 12 (f := .str "LETTERS" "abcdefghijklmnopqrstuvwxyz") rfl)).elim fun t e => ⟨_, e, ⟨t, by rw [z_c_LETTERS]⟩⟩
  have z_c_DIGITS : ("0123456789" : Str) = S Z10 := by decide +kernel
  have t_c_DIGITS : ∃ u, mg "DIGITS" = some u ∧ RelV (.str (S Z10)) u := (He.str_ok X G (c.fact 13 (f := .str "DIGITS" "0123456789") rfl)).elim fun t e => ⟨_, e, ⟨t, by rw [z_c_DIGITS]⟩⟩
  have t_f_all := He.free_ok X G (c.fact 14 (f := .free "all") rfl)
  have t_f_int := He.free_ok X G (c.fact 15 (f := .free "int") rfl)
  have t_f_range := He.free_ok X G (c.fact 16 (f := .free "range") rfl)
  have t_f_str := He.free_ok X G (c.fact 17 (f := .free "str") rfl)
  have t_f_min := He.free_ok X G (c.fact 18 (f := .free "min") rfl)
  have t_f_bool := He.free_ok X G (c.fact 19 (f := .free "bool") rfl)
  have t_f_isinstance := He.free_ok X G (c.fact 20 (f := .free "isinstance") rfl)
  have T : Txt K mg := ⟨t_f_len, t_c_LONGEST_NAME, t_c_LETTERS, t_c_DIGITS, t_f_all, t_f_int, t_f_range, t_f_str, t_f_min, t_f_bool, t_f_isinstance⟩
  have e := hfa.symm.trans g_law
  cases e
  have b := FunD.bindsA (ps := ["_law_script"]) F_law fun _ _ _ _ _ _ us hl => match us, hl with | [_], _ => rfl
  refine ⟨fd_law, fun s v => b s [v] rfl, fun base _ _ => ?_⟩
  have G_is_name : C8.Cal P w K mg base (1) "is_name" (sp_is_name K) [] := ⟨_, fd_is_name, _, [], ok_is_name F_is_name T , g_is_name, F_is_name.kp, F_is_name.bindsN (ps := ["text"]) (fun _ _ _ _ _ _ us hl => match us, hl with | [_], _ => rfl), .nil⟩
  have G_l_pool : C8.Cal P w K mg base (1) "_law_pool" (sp_l_pool K) [] := ⟨_, fd_l_pool, _, [], ok_l_pool F_l_pool T , g_l_pool, F_l_pool.kp, F_l_pool.bindsN (ps := ["_law_script"]) (fun _ _ _ _ _ _ us hl => match us, hl with | [_], _ => rfl), .nil⟩
  have G_l_draw : C8.Cal P w K mg base (1) "_law_draw" (sp_l_draw K) [] := ⟨_, fd_l_draw, _, [], ok_l_draw F_l_draw T , g_l_draw, F_l_draw.kp, F_l_draw.bindsN (ps := ["_law_pool_here", "_law_many"]) (fun _ _ _ _ _ _ us hl => match us, hl with | [_, _], _ => rfl), .nil⟩
  have G_l_word : C8.Cal P w K mg base (2) "_law_word" (sp_l_word K) [] := ⟨_, fd_l_word, _, [], ok_l_word F_l_word T G_l_draw, g_l_word, F_l_word.kp, F_l_word.bindsN (ps := ["_law_pool_here", "_law_size"]) (fun _ _ _ _ _ _ us hl => match us, hl with | [_, _], _ => rfl), .nil⟩
  have G_l_names : C8.Cal P w K mg base (3) "_law_names" (sp_l_names K) [] := ⟨_, fd_l_names, _, [], ok_l_names F_l_names T G_l_draw G_l_word, g_l_names, F_l_names.kp, F_l_names.bindsN (ps := ["_law_pool_here", "_law_many"]) (fun _ _ _ _ _ _ us hl => match us, hl with | [_, _], _ => rfl), .nil⟩
  have G_l_sign : C8.Cal P w K mg base (2) "_law_sign" (sp_l_sign K) [] := ⟨_, fd_l_sign, _, [], ok_l_sign F_l_sign T G_l_draw, g_l_sign, F_l_sign.kp, F_l_sign.bindsN (ps := ["_law_pool_here"]) (fun _ _ _ _ _ _ us hl => match us, hl with | [_], _ => rfl), .nil⟩
  have G_l_text : C8.Cal P w K mg base (3) "_law_text" (sp_l_text K) [] := ⟨_, fd_l_text, _, [], ok_l_text F_l_text T G_l_draw G_l_word G_l_sign, g_l_text, F_l_text.kp, F_l_text.bindsN (ps := ["_law_pool_here", "_law_way"]) (fun _ _ _ _ _ _ us hl => match us, hl with | [_, _], _ => rfl), .nil⟩
  have G_l_valid : C8.Cal P w K mg base (1) "_law_valid" (sp_l_valid K) [] := ⟨_, fd_l_valid, _, [], ok_l_valid F_l_valid T , g_l_valid, F_l_valid.kp, F_l_valid.bindsN (ps := ["_law_text_here"]) (fun _ _ _ _ _ _ us hl => match us, hl with | [_], _ => rfl), .nil⟩
  have G_l_same_truth : C8.Cal P w K mg base (1) "_law_same_truth" (sp_l_same_truth K) [] := ⟨_, fd_l_same_truth, _, [], ok_l_same_truth F_l_same_truth T , g_l_same_truth, F_l_same_truth.kp, F_l_same_truth.bindsN (ps := ["_law_actual", "_law_due"]) (fun _ _ _ _ _ _ us hl => match us, hl with | [_, _], _ => rfl), .nil⟩
  exact ok_law F_law T G_is_name G_l_pool G_l_draw G_l_names G_l_sign G_l_text G_l_valid G_l_same_truth
end RM
open PySem PySem.W PySem.Calls PyProof.Rows
set_option maxRecDepth 100000 in
set_option maxHeartbeats 0 in
theorem PySem.Challenge.cw_roundminutes_k01_valid_names_holds : PySem.Challenge.rw_roundminutes_k01_valid_names.Holds := by
  w_on; o_law
  refine HandSHeadRun.head_any (r := OpenLaw.row PySem.Challenge.rw_roundminutes_k01_valid_names) (q := view RM.Rw.prog [14]) (H := RM.hk) (ob := RM.ob) (M := 8000) (loose := RM.loose)
    (d := HandSHeadRun.topDef RM.Rw.prog 14) (kwd := []) RM.ob_ok
    (by kernel_rfl) (fun s => by kernel_rfl) RM.run (by kernel_rfl) (by kernel_rfl) (by kernel_rfl) (by rfl) (by first | assumption | decide +kernel) (by decide +kernel) ⟨rfl, rfl, rfl, rfl, rfl, by decide +kernel⟩ ?hw ?hc
  case hw => w_witness2
  case hc =>
    refine L2.walk_ofE (l := PySem.Challenge.rw_roundminutes_k01_valid_names) (n := 63) (k := 4) (x := "_law_script") (CX := L2.CX0) rfl (by decide) (by kernel_rfl) ⟨rfl, by decide, by decide⟩ ?F (fun _ _ _ _ z => z)
    intro w mg fa h Y G hmg0
    obtain ⟨K, KX, c⟩ := Y
    have hmg : mg ("law" : PySem.Str) = some (.ref fa) := by
      have e : (HandSHeadRun.topDef RM.Rw.prog 14).name = ("law" : PySem.Str) := by kernel_rfl
      rw [← e]
      exact hmg0
    obtain ⟨fd, hb, hF⟩ := RM.facts (P := PySem.Challenge.rw_roundminutes_k01_valid_names.prog) (w := w) KX G hmg c
    exact ⟨K, fd, RM.sp_law K, KX, hb, fun H a ns hl _ hS => ⟨a, ns, rfl, hS, hl, fun _ => rfl⟩, hF⟩
