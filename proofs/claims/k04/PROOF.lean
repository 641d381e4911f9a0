import PyProof.Rows.All
import Wide.All
import OpenK.AllK
import Wide.FinOn
import HandS.ForMost
import HandS.ForExc
import HandS.Codes
import HandS.Steps
import HandS.Walk
import HandS.IsInst
import HandS.Defaults
import HandS.More
import HandS.Small
import HandS.AnyAll
import HandS.Head0
import HandS.Head1
import HandS.Head2
import HandS.HeadEnd
import HandS.HeadHook1
import HandS.HeadHook2
import HandS.OwnEq
import HandS.OwnIter
import HandS.IterNext
import HandS.IterVal
import HandS.ClsMeth
import HandS.Property
import HandS.Star
import HandS.MapObj
import HandS.ListItems
import HandS.DictComp
import HandS.SetKeys
import KE.KDictList
import HandS.ExcInit
import HandS.ExcField
import HandS.ExcOwn
import HandS.WordsExc
import KE.KExcIs
import PySem.Challenge.RW_roundminutes_k04_net_refuses
set_option Elab.async false
set_option linter.all false
set_option maxRecDepth 100000
set_option maxHeartbeats 4000000
namespace RM
open PySem PySem.Spec PyProof.Rows L2 C8
/-! ### texts as lists of signs -/
abbrev S (l : List Nat) : Str := ⟨l.toArray⟩
theorem S_tl (x : Str) : S x.cps.toList = x := SX.S_tl x
theorem S_inj {a b : List Nat} (h : S a = S b) : a = b := SX.S_inj h
theorem S_len (a : List Nat) : (S a).length = a.length := SX.S_len a
theorem S_cat (a b : List Nat) : S a ++ S b = S (a ++ b) := SX.S_cat a b
abbrev sv (l : List Nat) : V := .str (S l)
def Z26 : List Nat := [97, 98, 99, 100, 101, 102, 103, 104, 105, 106, 107, 108, 109, 110, 111, 112, 113, 114, 115, 116, 117, 118, 119, 120, 121, 122]
def Z10 : List Nat := [48, 49, 50, 51, 52, 53, 54, 55, 56, 57]
def Z36 : List Nat := [97, 98, 99, 100, 101, 102, 103, 104, 105, 106, 107, 108, 109, 110, 111, 112, 113, 114, 115, 116, 117, 118, 119, 120, 121, 122, 48, 49, 50, 51, 52, 53, 54, 55, 56, 57]
/-- a letter; a letter or a digit -/
def LT (c : Nat) : Prop := 97 ≤ c ∧ c ≤ 122
def LD (c : Nat) : Prop := (97 ≤ c ∧ c ≤ 122) ∨ (48 ≤ c ∧ c ≤ 57)
instance (c : Nat) : Decidable (LT c) := by unfold LT; infer_instance
instance (c : Nat) : Decidable (LD c) := by unfold LD; infer_instance
theorem z26 {c : Nat} : c ∈ Z26 ↔ LT c := by
  constructor
  · intro h
    exact (by decide : ∀ c ∈ Z26, LT c) c h
  · intro ⟨h1, h2⟩
    obtain ⟨k, rfl⟩ : ∃ k, c = 97 + k := ⟨c - 97, by omega⟩
    exact (by decide : ∀ k, k < 26 → 97 + k ∈ Z26) k (by omega)
theorem z10 {c : Nat} : c ∈ Z10 ↔ (48 ≤ c ∧ c ≤ 57) := by
  constructor
  · intro h
    exact (by decide : ∀ c ∈ Z10, 48 ≤ c ∧ c ≤ 57) c h
  · intro ⟨h1, h2⟩
    obtain ⟨k, rfl⟩ : ∃ k, c = 48 + k := ⟨c - 48, by omega⟩
    exact (by decide : ∀ k, k < 10 → 48 + k ∈ Z10) k (by omega)
theorem z36 {c : Nat} : c ∈ Z36 ↔ LD c := by
  have e : Z36 = Z26 ++ Z10 := rfl
  rw [e, List.mem_append, z26, z10]
  rfl
/-- a name -/
def isNm (l : List Nat) : Bool := decide (1 ≤ l.length) && (decide (l.length ≤ 8) && ((match l with | [] => false | c :: _ => decide (LT c)) && l.all fun c => decide (LD c)))
structure Nm (l : List Nat) : Prop where
  len : l.length ≤ 8
  first : ∃ c r, l = c :: r ∧ LT c
  all : ∀ c ∈ l, LD c
theorem Nm.pos {l : List Nat} (h : Nm l) : 1 ≤ l.length := by
  obtain ⟨c, r, rfl, _⟩ := h.first
  simp
theorem nm_iff {l : List Nat} : isNm l = true ↔ Nm l := by
  unfold isNm
  constructor
  · intro h
    simp only [Bool.and_eq_true, decide_eq_true_eq, List.all_eq_true] at h
    obtain ⟨h1, h2, h3, h4⟩ := h
    cases l with
    | nil => simp at h1
    | cons c r => exact ⟨h2, ⟨c, r, rfl, by simpa using h3⟩, h4⟩
  · intro h
    obtain ⟨h2, ⟨c, r, rfl, h3⟩, h4⟩ := h
    simp only [Bool.and_eq_true, decide_eq_true_eq, List.all_eq_true]
    exact ⟨by simp, h2, by simpa using h3, h4⟩
/-- the digits of j as a text -/
def dg (j : Nat) : List Nat := ((toString ((j : Nat) : Int) : String) : Str).cps.toList
def zn (j : Nat) : List Nat := [122] ++ dg j
theorem zn_nm {j : Nat} (h : j < 13) : Nm (zn j) := nm_iff.mp ((by decide +kernel : ∀ j, j < 13 → isNm (zn j) = true) j h)
theorem zn_nodup : ((List.range 13).map zn).Nodup := by decide +kernel
theorem nodup_sub {α : Type} [DecidableEq α] : ∀ {l m : List α}, l.Nodup → (∀ x ∈ l, x ∈ m) → l.length ≤ m.length
  | [], _, _, _ => Nat.zero_le _
  | x :: l, m, hn, hs => by
    have hx := hs x List.mem_cons_self
    obtain ⟨h1, h2⟩ := List.nodup_cons.mp hn
    have ih := nodup_sub (l := l) (m := m.erase x) h2 fun y hy => by
      have ne : y ≠ x := fun e => h1 (e ▸ hy)
      exact (List.mem_erase_of_ne ne).mpr (hs y (List.mem_cons_of_mem _ hy))
    rw [List.length_erase_of_mem hx] at ih
    have : 0 < m.length := List.length_pos_of_mem hx
    rw [List.length_cons]
    omega
theorem zn_out {ns : List (List Nat)} (h : ∀ i, i < 13 → zn i ∈ ns) : 13 ≤ ns.length := by
  have z := nodup_sub zn_nodup (m := ns) fun x hx => by
    obtain ⟨i, hi, rfl⟩ := List.mem_map.mp hx
    exact h i (List.mem_range.mp hi)
  simpa using z
/-- a slice -/
def cutG {α : Type} (xs : List α) (lo hi : Option Int) : List α := (xs.drop (HT.sIx xs.length 0 lo)).take (HT.sIx xs.length xs.length hi - HT.sIx xs.length 0 lo)
theorem six_nat {n d k : Nat} (h : k ≤ n) : HT.sIx n d (some (k : Int)) = k := by
  unfold HT.sIx
  simp only []
  split <;> omega
theorem cutG_to {α : Type} {xs : List α} {k : Nat} (h : k ≤ xs.length) : cutG xs none (some (k : Int)) = xs.take k := by
  unfold cutG
  rw [six_nat h]
  show (xs.drop 0).take (k - 0) = xs.take k
  simp
theorem cutG_from {α : Type} {xs : List α} {k : Nat} (h : k ≤ xs.length) : cutG xs (some (k : Int)) none = xs.drop k := by
  unfold cutG
  rw [six_nat h]
  show (xs.drop k).take (xs.length - k) = xs.drop k
  rw [← List.length_drop, List.take_length]
/-! ### short names of readings -/
def rAddStr : R2 := fun x y H Q => ∃ i j, x = .str i ∧ y = .str j ∧ i.length + j.length ≤ sizeLine ∧ Q (.str (i ++ j)) H
def rLtStr : R2 := fun x y H Q => ∃ i j, x = .str i ∧ y = .str j ∧ Q (.bl (decide (i.cps.toList < j.cps.toList))) H
def rLenStr : List V → Hp → VK → Prop := fun xs H Q => ∃ z, xs = [.str z] ∧ z.length ≤ sizeLine ∧ Q (.int z.length) H
def rLenS (K : PySem.W.Frag) : List V → Hp → VK → Prop := fun xs H Q => ∃ p ys, xs = [.ref p] ∧ (SqL K H p ys ∨ SqT K H p ys) ∧ Q (.int ys.length) H
def rListS (K : PySem.W.Frag) : List V → Hp → VK → Prop := fun xs H Q => ∃ p ys, xs = [.ref p] ∧ (SqL K H p ys ∨ SqT K H p ys) ∧ ∀ l, H l = none → Q (.ref l) (upd H l (.lst ys))
def rInt1 : List V → Hp → VK → Prop := fun xs H Q => (∃ i, xs = [.int i] ∧ Q (.int i) H) ∨ ∃ k, xs = [.bl k] ∧ Q (.int (if k then 1 else 0)) H
def rStrInt : List V → Hp → VK → Prop := fun xs H Q => ∃ i, xs = [.int i] ∧ i.natAbs.log2 < 1920 ∧ Q (.str (toString i)) H
def rMin2 : List V → Hp → VK → Prop := fun xs H Q => ∃ i j, xs = [.int i, .int j] ∧ Q (.int (if j < i then j else i)) H
def rMax2 : List V → Hp → VK → Prop := fun xs H Q => ∃ i j, xs = [.int i, .int j] ∧ Q (.int (if j > i then j else i)) H
def rAbs : List V → Hp → VK → Prop := fun xs H Q => ∃ i, xs = [.int i] ∧ Q (.int (if i < 0 then -i else i)) H
def rFind : V → List V → Hp → VK → Prop := fun x xs H Q => ∃ a b, x = .str a ∧ xs = [.str b] ∧ Q (.int (Txt.find a b)) H

section
variable {X : Cx}
theorem opAddStr : OpR X (binaryOp .Add) rAddStr := op_add_str
theorem opLtStr : OpR X (compareOp .Lt) rLtStr := op_lt_str
theorem callLenStr : CallR X (.builtin "len") rLenStr := call_len_str
theorem callLenSeq : CallR X (.builtin "len") (rLenS X.K) := call_len_seq
theorem callListOf : CallR X (.type "list") (rListS X.K) := call_list_of
theorem callInt1 : CallR X (.type "int") rInt1 := call_int1
theorem callStrInt : CallR X (.type "str") rStrInt := call_str_int
theorem callMin2 (hc : X.calm = true) : CallR X (.builtin "min") rMin2 := call_min2 hc
theorem callMax2 (hc : X.calm = true) : CallR X (.builtin "max") rMax2 := call_max2 hc
theorem callAbs : CallR X (.builtin "abs") rAbs := call_abs
theorem mtFind : MtR X "str.find" rFind := mt_find
end
theorem Same.new {H : Hp} {p : Addr} {o : HO} (h : H p = none) : Same H (upd H p o) := fun a u e => by
  rw [upd_ne (ne_of_none e h)]
  exact e
theorem Same.mut {H H' : Hp} {p : Addr} {o : HO} (e : Same H H') (h : H p = none) : Same H (upd H' p o) := fun a u ha => by
  rw [upd_ne (ne_of_none ha h)]
  exact e a u ha
theorem szl {n : Nat} (h : n ≤ 100000) : n ≤ sizeLine := Nat.le_trans h (by decide)
theorem szlt {n : Nat} (h : n < 100000) : n < sizeLine := Nat.lt_of_lt_of_le h (by decide)
/-! ### readings from the head -/
section
variable {σ : L2.St} {H : Hp} {Q : VK} {i : Nat} {v : V} {ta tb tc : TE} {tl : TA} {t u : TT} {s1 s2 : TS} {D : Ends} {K : PySem.W.Frag} {r r' : R2} {sp : Sp} {E : XK} {QA : List V → Hp → Prop} {QT : Bool → Hp → Prop}
theorem wp_var (h : σ[i]? = some (some v)) (q : Q v H) : tVar i σ H Q := ⟨v, h, q⟩
theorem wp_c (q : Q v H) : tC v σ H Q := q
theorem wp_op (h : ta σ H fun x H1 => tb σ H1 fun y H2 => r x y H2 Q) : tOp r ta tb σ H Q := h
theorem wp_un {r : V → Hp → VK → Prop} (h : ta σ H fun x H1 => r x H1 Q) : tUn r ta σ H Q := h
theorem wp_nil (h : QA [] H) : tNil σ H QA := h
theorem wp_cons (h : ta σ H fun x H1 => tl σ H1 fun xs H2 => QA (x :: xs) H2) : tCons ta tl σ H QA := h
theorem wp_call (h : tl σ H fun vs H1 => sp vs H1 Q E) : tCall sp [] E tl σ H Q := by
  show tl σ H fun vs H1 => sp (vs ++ []) H1 Q E
  simpa only [List.append_nil] using h
theorem wp_cb {r : List V → Hp → VK → Prop} (h : tl σ H fun vs H1 => r vs H1 Q) : tCB r tl σ H Q := h
theorem wp_tup (h : tl σ H fun xs H1 => xs.length ≤ sizeLine ∧ ∀ p, H1 p = none → Q (.ref p) (upd H1 p (.tup xs))) : tTup tl σ H Q := h
theorem wp_lst (h : tl σ H fun xs H1 => xs.length ≤ sizeLine ∧ ∀ p, H1 p = none → Q (.ref p) (upd H1 p (.lst xs))) : tLst tl σ H Q := h
theorem wp_test (h : ta σ H fun x H1 => ∃ k, x = .bl k ∧ QT k H1) : tTest ta σ H QT := h
theorem wp_B (h : ta σ H fun x H1 => ∃ k, x = .bl k ∧ QT k H1) : tB ta σ H QT := h
theorem wp_bl {k : Bool} {R : Bool → Prop} (h : R k) : ∃ k', V.bl k = .bl k' ∧ R k' := ⟨k, rfl, h⟩
theorem wp_not (h : t σ H fun c H1 => QT (!c) H1) : tNot t σ H QT := h
theorem wp_and (h : t σ H fun c H1 => if c = true then u σ H1 QT else QT false H1) : tAnd t u σ H QT := h
theorem wp_or (h : t σ H fun c H1 => if c = true then QT true H1 else u σ H1 QT) : tOr t u σ H QT := h
theorem wp_notV (h : ta σ H fun x H1 => ∃ c, x = .bl c ∧ Q (.bl (!c)) H1) : tNotV ta σ H Q := h
theorem wp_andV (h : ta σ H fun x H1 => ∃ c, x = .bl c ∧ if c = true then tb σ H1 Q else Q (.bl false) H1) : tAndV ta tb σ H Q := h
theorem wp_orV (h : ta σ H fun x H1 => ∃ c, x = .bl c ∧ if c = true then Q (.bl true) H1 else tb σ H1 Q) : tOrV ta tb σ H Q := h
theorem wp_ifE (h : t σ H fun c H1 => if c = true then ta σ H1 Q else tb σ H1 Q) : tIf t ta tb σ H Q := h
theorem wp_chain (h : ta σ H fun x H1 => tb σ H1 fun y H2 => r x y H2 fun z H3 => ∃ k, z = .bl k ∧ (if k = true then tc σ H3 fun w' H4 => r' y w' H4 Q else Q (.bl false) H3)) : tChain r r' ta tb tc σ H Q := h
theorem wp_slice {r : V → Option Int → Option Int → Hp → VK → Prop} {tlo thi : TO} (h : ta σ H fun x H1 => tlo σ H1 fun l H2 => thi σ H2 fun u H3 => r x l u H3 Q) : tSl r ta tlo thi σ H Q := h
theorem wp_noPart {QO : Option Int → Hp → Prop} (h : QO none H) : tNoPart σ H QO := h
theorem wp_part {QO : Option Int → Hp → Prop} (h : ta σ H fun x H1 => ∃ i, x = .int i ∧ QO (some i) H1) : tPart ta σ H QO := h
theorem wp_partI {k : Int} {R : Int → Prop} (h : R k) : ∃ i, V.int k = .int i ∧ R i := ⟨k, rfl, h⟩
theorem wp_bm {T : String} {r : V → List V → Hp → VK → Prop} (h : ta σ H fun x H1 => tyV K T x H1 ∧ tl σ H1 fun xs H2 => r x xs H2 Q) : tBM K T r ta tl σ H Q := h
theorem wp_bm0 {T : String} {r : V → List V → Hp → VK → Prop} (h : ta σ H fun x H1 => tyV K T x H1 ∧ r x [] H1 Q) : tBM0 K T r ta σ H Q := h
/- operations -/
theorem wp_rI0 {g : Int → Int → V} {a b : Int} (h : Q (g a b) H) : rI0 g (.int a) (.int b) H Q := ⟨a, b, rfl, rfl, h⟩
theorem wp_rI {C : Int → Int → Prop} {g : Int → Int → V} {a b : Int} (hc : C a b) (h : Q (g a b) H) : rI C g (.int a) (.int b) H Q := ⟨a, b, rfl, rfl, hc, h⟩
theorem wp_rU {g : Int → V} {a : Int} (h : Q (g a) H) : rU g (.int a) H Q := ⟨a, rfl, h⟩
theorem wp_eqI {a b : Int} (h : Q (.bl (decide (a = b))) H) : rEq (.int a) (.int b) H Q := ⟨rfl, by
  have e : decide (V.int a = V.int b) = decide (a = b) := by simp
  rw [e]; exact h⟩
theorem wp_eqS {a b : Str} (h : Q (.bl (decide (a = b))) H) : rEq (.str a) (.str b) H Q := ⟨rfl, by
  have e : decide (V.str a = V.str b) = decide (a = b) := by simp
  rw [e]; exact h⟩
theorem wp_eqB {a b : Bool} (h : Q (.bl (decide (a = b))) H) : rEq (.bl a) (.bl b) H Q := ⟨rfl, by
  have e : decide (V.bl a = V.bl b) = decide (a = b) := by simp
  rw [e]; exact h⟩
theorem wp_neI {a b : Int} (h : Q (.bl (!decide (a = b))) H) : rNe (.int a) (.int b) H Q := ⟨rfl, by
  have e : decide (V.int a = V.int b) = decide (a = b) := by simp
  rw [e]; exact h⟩
theorem wp_neS {a b : Str} (h : Q (.bl (!decide (a = b))) H) : rNe (.str a) (.str b) H Q := ⟨rfl, by
  have e : decide (V.str a = V.str b) = decide (a = b) := by simp
  rw [e]; exact h⟩
theorem wp_addStr {a b : Str} (hl : a.length + b.length ≤ 100000) (h : Q (.str (a ++ b)) H) : rAddStr (.str a) (.str b) H Q := ⟨a, b, rfl, rfl, Nat.le_trans hl (by decide), h⟩
theorem wp_ixL {a : Addr} {k : Int} {xs : List V} (hx : SqL K H a xs) (ha : atI xs k = some v) (h : Q v H) : rIxL K (.ref a) (.int k) H Q := ⟨a, xs, k, v, rfl, rfl, hx, ha, h⟩
theorem wp_ixT {a : Addr} {k : Int} {xs : List V} (hx : SqT K H a xs) (ha : atI xs k = some v) (h : Q v H) : rIxT K (.ref a) (.int k) H Q := ⟨a, xs, k, v, rfl, rfl, hx, ha, h⟩
theorem wp_ixS {z : Str} {k : Int} {c : Nat} (hz : z.length ≤ 100000) (ha : atI z.cps.toList k = some c) (h : Q (.str ⟨#[c]⟩) H) : rIxS (.str z) (.int k) H Q := ⟨z, k, c, rfl, rfl, Nat.le_trans hz (by decide), ha, h⟩
theorem wp_inS {c : Nat} {z : Str} (h : Q (.bl (decide (c ∈ z.cps.toList))) H) : rInS (.str ⟨#[c]⟩) (.str z) H Q := ⟨c, z, rfl, rfl, h⟩
theorem wp_notInS {c : Nat} {z : Str} (h : Q (.bl (!decide (c ∈ z.cps.toList))) H) : rNotInS (.str ⟨#[c]⟩) (.str z) H Q := ⟨c, z, rfl, rfl, h⟩
theorem wp_inL {a : Addr} {x : V} {xs : List V} (hx : SqL K H a xs) (h1 : flatV x = true) (h2 : xs.all flatV = true) (h : Q (.bl (inV x xs)) H) : rIn K false x (.ref a) H Q := ⟨a, xs, rfl, .inl hx, h1, h2, h⟩
theorem wp_notInL {a : Addr} {x : V} {xs : List V} (hx : SqL K H a xs) (h1 : flatV x = true) (h2 : xs.all flatV = true) (h : Q (.bl (!inV x xs)) H) : rIn K true x (.ref a) H Q := ⟨a, xs, rfl, .inl hx, h1, h2, h⟩
theorem wp_int1 {a : Int} (h : Q (.int a) H) : rInt1 [.int a] H Q := .inl ⟨a, rfl, h⟩
theorem wp_strInt {a : Int} (hl : a.natAbs.log2 < 1920) (h : Q (.str (toString a)) H) : rStrInt [.int a] H Q := ⟨a, rfl, hl, h⟩
theorem wp_lenStr {z : Str} (hz : z.length ≤ 100000) (h : Q (.int z.length) H) : rLenStr [.str z] H Q := ⟨z, rfl, Nat.le_trans hz (by decide), h⟩
theorem wp_lenL {a : Addr} {xs : List V} (hx : SqL K H a xs) (h : Q (.int xs.length) H) : rLenS K [.ref a] H Q := ⟨a, xs, rfl, .inl hx, h⟩
theorem wp_lenT {a : Addr} {xs : List V} (hx : SqT K H a xs) (h : Q (.int xs.length) H) : rLenS K [.ref a] H Q := ⟨a, xs, rfl, .inr hx, h⟩
theorem wp_min2 {a b : Int} (h : Q (.int (if b < a then b else a)) H) : rMin2 [.int a, .int b] H Q := ⟨a, b, rfl, h⟩
theorem wp_max2 {a b : Int} (h : Q (.int (if b > a then b else a)) H) : rMax2 [.int a, .int b] H Q := ⟨a, b, rfl, h⟩
theorem wp_find {a b : Str} (h : Q (.int (Txt.find a b)) H) : rFind (.str a) [.str b] H Q := ⟨a, b, rfl, rfl, h⟩
theorem wp_listL {a : Addr} {xs : List V} (hx : SqL K H a xs) (h : ∀ l, H l = none → Q (.ref l) (upd H l (.lst xs))) : rListS K [.ref a] H Q := ⟨a, xs, rfl, .inl hx, h⟩
theorem wp_append {a : Addr} {x : V} {xs : List V} (hx : H a = some (.lst xs)) (hl : xs.length < 100000) (h : Q .non (upd H a (.lst (xs ++ [x])))) : rAppend (.ref a) [x] H Q := ⟨a, xs, x, rfl, rfl, hx, Nat.lt_of_lt_of_le hl (by decide), h⟩
theorem ty_list {a : Addr} {xs : List V} {R : Prop} (hx : SqL K H a xs) (h : R) : tyV K "list" (.ref a) H ∧ R := ⟨.inl ⟨rfl, xs, hx⟩, h⟩
theorem ty_str {z : Str} {R : Prop} (h : R) : tyV K "str" (.str z) H ∧ R := ⟨rfl, h⟩
theorem wp_isi {x : V} {n : String} {tv : Value} {b : Bool} (ty : TyX K H x tv) (e : PySem.W.kitOne K tv (.type n) = some b) (h : Q (.bl b) H) : rIsi K [x, .ty n] H Q := ⟨x, .ty n, tv, .type n, b, rfl, .ty n, ty, e, h⟩
theorem pe_strS {X : Cx} {x : Str} {j : Nat} {pos : Pos} {l : List Nat} (h : x = S l) : PE X (.Constant (.str x) j pos) (tC (.str (S l))) := by
  rw [h]
  exact pe_str
theorem wp_addS {a b : List Nat} (hl : a.length + b.length ≤ 100000) (h : Q (.str (S (a ++ b))) H) : rAddStr (.str (S a)) (.str (S b)) H Q := by
  refine wp_addStr (by rw [S_len, S_len]; exact hl) ?_
  rw [S_cat]
  exact h
theorem wp_ixSM {z : List Nat} {k : Int} (hz : z.length ≤ 100000) (h0 : 0 ≤ k) (h1 : k < z.length) (h : ∀ c, c ∈ z → z[k.toNat]? = some c → Q (.str (S [c])) H) : rIxS (.str (S z)) (.int k) H Q := by
  have hl : k.toNat < z.length := by omega
  have e : k = ((k.toNat : Nat) : Int) := by omega
  have y := atI_nat (List.getElem?_eq_getElem hl)
  rw [← e] at y
  exact wp_ixS (by rw [S_len]; exact hz) y (h _ (List.getElem_mem hl) (List.getElem?_eq_getElem hl))
theorem wp_lenS {z : List Nat} (hz : z.length ≤ 100000) (h : Q (.int z.length) H) : rLenStr [.str (S z)] H Q := by
  refine wp_lenStr (by rw [S_len]; exact hz) ?_
  rw [S_len]
  exact h
theorem wp_strIntS {j : Nat} (hj : j < 1000000) (h : Q (.str (S (dg j))) H) : rStrInt [.int j] H Q := by
  refine wp_strInt ?_ ?_
  · have e : (j : Int).natAbs = j := Int.natAbs_natCast j
    rw [e]
    have : j.log2 ≤ j := Nat.log2_le_self j
    by_cases hz : j = 0
    · subst hz; decide
    · exact Nat.lt_trans ((Nat.log2_lt hz).mpr (show j < 2 ^ 20 by omega)) (by decide)
  · have e : (S (dg j)) = ((toString ((j : Nat) : Int) : String) : Str) := S_tl _
    rw [e] at h
    exact h
theorem inV_sv {a : List Nat} {ns : List (List Nat)} : inV (sv a) (ns.map sv) = decide (a ∈ ns) := by
  unfold inV
  rw [List.any_map, Bool.eq_iff_iff, List.any_eq_true, decide_eq_true_eq]
  constructor
  · rintro ⟨x, hx, e⟩
    have e2 : (S x == S a) = true := e
    rw [SX.S_beq_eq, decide_eq_true_eq] at e2
    rw [← e2]; exact hx
  · intro h
    refine ⟨a, h, ?_⟩
    show (S a == S a) = true
    exact beq_self_eq_true _
theorem flat_sv {ns : List (List Nat)} : (ns.map sv).all flatV = true := by
  rw [List.all_map, List.all_eq_true]
  intro x _
  rfl
theorem wp_inSv {p : Addr} {a : List Nat} {ns : List (List Nat)} (hx : SqL K H p (ns.map sv)) (h : Q (.bl (decide (a ∈ ns))) H) : rIn K false (.str (S a)) (.ref p) H Q := by
  refine wp_inL hx rfl flat_sv ?_
  show Q (.bl (inV (sv a) (ns.map sv))) H
  rw [inV_sv]; exact h
theorem wp_notInSv {p : Addr} {a : List Nat} {ns : List (List Nat)} (hx : SqL K H p (ns.map sv)) (h : Q (.bl (!decide (a ∈ ns))) H) : rIn K true (.str (S a)) (.ref p) H Q := by
  refine wp_notInL hx rfl flat_sv ?_
  show Q (.bl (!inV (sv a) (ns.map sv))) H
  rw [inV_sv]; exact h
theorem wp_minL {a : Addr} {ns : List Int} (hx : SqL K H a (ns.map V.int)) (h0 : 0 < ns.length) (h : ∀ m, m ∈ ns → (∀ y ∈ ns, m ≤ y) → Q (.int m) H) : rMin K [.ref a] H Q := ⟨a, ns, rfl, hx, h0, h⟩
theorem wp_maxL {a : Addr} {ns : List Int} (hx : SqL K H a (ns.map V.int)) (h0 : 0 < ns.length) (h : ∀ m, m ∈ ns → (∀ y ∈ ns, y ≤ m) → Q (.int m) H) : rMax K [.ref a] H Q := ⟨a, ns, rfl, hx, h0, h⟩
theorem wp_allL {a : Addr} {bs : List Bool} (hx : SqL K H a (bs.map V.bl)) (h : Q (.bl (bs.all id)) H) : rAll K [.ref a] H Q := ⟨a, bs, rfl, hx, h⟩
theorem wp_anyL {a : Addr} {bs : List Bool} (hx : SqL K H a (bs.map V.bl)) (h : Q (.bl (bs.any id)) H) : rAny K [.ref a] H Q := ⟨a, bs, rfl, hx, h⟩
theorem wp_isiB {b : Bool} (h : Q (.bl true) H) : rIsi K [.bl b, .ty "bool"] H Q := wp_isi (.base (.bl b)) (by unfold PySem.W.kitOne; rw [if_pos (by decide)]) h
theorem wp_sliceS {z : List Nat} {lo hi : Option Int} (hz : z.length ≤ 100000) (h : Q (.str (S (cutG z lo hi))) H) : rSlS (.str (S z)) lo hi H Q := by
  refine ⟨S z, rfl, szl (by rw [S_len]; exact hz), ?_⟩
  have e : cutS (S z) lo hi = S (cutG z lo hi) := by
    unfold cutS cutG
    rw [S_len]
  rw [e]
  exact h
/- statements -/
theorem wp_seq (h : s1 { D with nx := s2 D } σ H) : tSeq s1 s2 D σ H := h
theorem wp_next (h : D.nx σ H) : tNext D σ H := h
theorem wp_brk (h : D.bk σ H) : tBreak D σ H := h
theorem wp_cont (h : D.ct σ H) : tCont D σ H := h
theorem wp_ret (h : ta σ H D.rt) : tRet ta D σ H := h
theorem wp_drop (h : ta σ H fun _ H1 => D.nx σ H1) : tDrop ta D σ H := h
theorem wp_asg {g : TG} (h : ta σ H fun x H1 => g x σ H1 D.nx) : tAsg ta g D σ H := h
theorem wp_gname {QS : L2.St → Hp → Prop} (h : QS (σ.set i (some v)) H) : gName i v σ H QS := h
theorem wp_gsub {ts : TSet} {QS : L2.St → Hp → Prop} (h : ta σ H fun o H1 => tb σ H1 fun k H2 => ts o k v H2 fun H3 => QS σ H3) : gSub ta tb ts v σ H QS := h
theorem wp_setL {QH : Hp → Prop} {a : Addr} {k : Int} {j : Nat} {xs : List V} (hx : H a = some (.lst xs)) (hj : ixN xs.length k = some j) (h : QH (upd H a (.lst (xs.set j v)))) : rSetL (.ref a) (.int k) v H QH := ⟨a, xs, k, j, rfl, rfl, hx, hj, h⟩
theorem wp_setL0 {QH : Hp → Prop} {a : Addr} {x : V} {xs : List V} (hx : H a = some (.lst (x :: xs))) (h : QH (upd H a (.lst (v :: xs)))) : rSetL (.ref a) (.int 0) v H QH :=
  ⟨a, x :: xs, 0, 0, rfl, rfl, hx, by unfold ixN; simp only [List.length_cons]; rw [if_pos (by omega), if_pos (by omega)]; rfl, h⟩
theorem wp_setL1 {QH : Hp → Prop} {a : Addr} {x y : V} {xs : List V} (hx : H a = some (.lst (x :: y :: xs))) (h : QH (upd H a (.lst (x :: v :: xs)))) : rSetL (.ref a) (.int 1) v H QH :=
  ⟨a, x :: y :: xs, 1, 1, rfl, rfl, hx, by unfold ixN; simp only [List.length_cons]; rw [if_pos (by omega), if_pos (by omega)]; rfl, h⟩
theorem is_isi {xs : List V} (h : rIsi K xs H Q) : rIsi K xs H Q := h
theorem is_var (h : tVar i σ H Q) : tVar i σ H Q := h
theorem is_gname {QS : L2.St → Hp → Prop} (h : gName i v σ H QS) : gName i v σ H QS := h
theorem wp_ixLM {a : Addr} {k : Int} {xs : List V} (hx : SqL K H a xs) (h0 : 0 ≤ k) (h1 : k < xs.length) (h : ∀ v, v ∈ xs → xs[k.toNat]? = some v → Q v H) : rIxL K (.ref a) (.int k) H Q := by
  have hl : k.toNat < xs.length := by omega
  have e : k = ((k.toNat : Nat) : Int) := by omega
  have z := atI_nat (List.getElem?_eq_getElem hl)
  rw [← e] at z
  exact wp_ixL hx z (h _ (List.getElem_mem hl) (List.getElem?_eq_getElem hl))
theorem wp_ixLI {a : Addr} {k : Int} {cs : List Int} (hx : SqL K H a (cs.map V.int)) (h0 : 0 ≤ k) (h1 : k < (cs.map V.int).length) (h : ∀ c, c ∈ cs → Q (.int c) H) : rIxL K (.ref a) (.int k) H Q :=
  wp_ixLM hx h0 h1 fun v hv _ => by
    obtain ⟨c, hc, rfl⟩ := List.mem_map.mp hv
    exact h c hc
theorem wp_cut {s1 s2 : TS} (Mid : L2.St → Hp → Prop) (h1 : s1 { D with nx := Mid } σ H) (h2 : ∀ σ' H', Mid σ' H' → s2 D σ' H') : C8.tCut s1 s2 D σ H := ⟨Mid, h1, h2⟩
theorem wp_ifS (h : t σ H fun b H1 => if b = true then s1 D σ H1 else s2 D σ H1) : tIfS t s1 s2 D σ H := h
/- loops -/
def ForW (J : It) (g : TG) (tb : TS) (D : Ends) (σ : L2.St) (H : Hp) : Prop := tFor (fun _ H1 R => R J H1) g tb D σ H
theorem wp_for1 {g : TG} {tb : TS} (h : tl σ H fun vs H1 => ∃ j : Int, vs = [.int j] ∧ -(2 ^ 62) ≤ j ∧ j < 2 ^ 62 ∧ ForW (Itr 0 j.toNat) g tb D σ H1) : tFor (iRng1 tl) g tb D σ H := h
theorem wp_for2 {g : TG} {tb : TS} (h : tl σ H fun vs H1 => ∃ i j : Int, vs = [.int i, .int j] ∧ (-(2 ^ 62) ≤ i ∧ i < 2 ^ 62 ∧ -(2 ^ 62) ≤ j ∧ j < 2 ^ 62) ∧ ForW (Itr i (j - i).toNat) g tb D σ H1) : tFor (iRng2 tl) g tb D σ H := h
theorem wp_forL {g : TG} {tb : TS} (h : ta σ H fun x H1 => ∃ a, x = .ref a ∧ (∃ xs, SqL K H1 a xs) ∧ ForW (Itl K a) g tb D σ H1) : tFor (iList K ta) g tb D σ H := h
theorem wp_forT {g : TG} {tb : TS} (h : ta σ H fun x H1 => ∃ a, x = .ref a ∧ (∃ xs, SqT K H1 a xs) ∧ ForW (Itt K a) g tb D σ H1) : tFor (iTup K ta) g tb D σ H := h
theorem wp_forS {g : TG} {tb : TS} (h : ta σ H fun v H1 => ∃ x, v = .str x ∧ ForW (Its x) g tb D σ H1) : tFor (iStr ta) g tb D σ H := h
theorem loop1 {g : TG} {tb : TS} {n : Int} (b : -4611686018427387904 ≤ n ∧ n < 4611686018427387904) (Pv : Nat → L2.St → Hp → Prop) (h0 : Pv 0 σ H)
    (hs : ∀ (i : Nat) σ' H', (i : Int) < n → Pv i σ' H' → g (.int ((i : Nat) : Int)) σ' H' fun σ2 H2 => tb { D with nx := Pv (i + 1), ct := Pv (i + 1), bk := D.nx } σ2 H2) (hd : ∀ σ' H', Pv n.toNat σ' H' → D.nx σ' H') :
    ∃ j : Int, [V.int n] = [V.int j] ∧ -(2 ^ 62) ≤ j ∧ j < 2 ^ 62 ∧ ForW (Itr 0 j.toNat) g tb D σ H := by
  refine ⟨n, rfl, by omega, by omega, for_range Pv h0 (fun i σ' H' hi p => ?_) hd⟩
  have e0 : (0 : Int) + (i : Int) = (i : Int) := Int.zero_add _
  rw [e0]
  exact hs i σ' H' (by omega) p
theorem loop2 {g : TG} {tb : TS} {lo n : Int} (b : -4611686018427387904 ≤ lo ∧ lo < 4611686018427387904 ∧ -4611686018427387904 ≤ n ∧ n < 4611686018427387904) (Pv : Nat → L2.St → Hp → Prop) (h0 : Pv 0 σ H)
    (hs : ∀ (i : Nat) σ' H', lo + (i : Int) < n → Pv i σ' H' → g (.int (lo + ((i : Nat) : Int))) σ' H' fun σ2 H2 => tb { D with nx := Pv (i + 1), ct := Pv (i + 1), bk := D.nx } σ2 H2) (hd : ∀ σ' H', Pv (n - lo).toNat σ' H' → D.nx σ' H') :
    ∃ i j : Int, [V.int lo, V.int n] = [V.int i, V.int j] ∧ (-(2 ^ 62) ≤ i ∧ i < 2 ^ 62 ∧ -(2 ^ 62) ≤ j ∧ j < 2 ^ 62) ∧ ForW (Itr i (j - i).toNat) g tb D σ H :=
  ⟨lo, n, rfl, ⟨by omega, by omega, by omega, by omega⟩, for_range Pv h0 (fun i σ' H' hi p => hs i σ' H' (by omega) p) hd⟩
theorem loopL {g : TG} {tb : TS} {a : Addr} {xs : List V} (hx : SqL K H a xs) (Pv : Nat → L2.St → Hp → Prop) (h0 : Pv 0 σ H) (hl : ∀ i σ' H', i ≤ xs.length → Pv i σ' H' → SqL K H' a xs)
    (hs : ∀ i x σ' H', xs[i]? = some x → Pv i σ' H' → g x σ' H' fun σ2 H2 => tb { D with nx := Pv (i + 1), ct := Pv (i + 1), bk := D.nx } σ2 H2) (hd : ∀ σ' H', Pv xs.length σ' H' → D.nx σ' H') :
    ∃ b, V.ref a = .ref b ∧ (∃ xs, SqL K H b xs) ∧ ForW (Itl K b) g tb D σ H := ⟨a, rfl, ⟨xs, hx⟩, for_list Pv h0 hl hs hd⟩
theorem loopT {g : TG} {tb : TS} {a : Addr} {xs : List V} (hx : SqT K H a xs) (Pv : Nat → L2.St → Hp → Prop) (h0 : Pv 0 σ H) (hl : ∀ i σ' H', i ≤ xs.length → Pv i σ' H' → SqT K H' a xs)
    (hs : ∀ i x σ' H', xs[i]? = some x → Pv i σ' H' → g x σ' H' fun σ2 H2 => tb { D with nx := Pv (i + 1), ct := Pv (i + 1), bk := D.nx } σ2 H2) (hd : ∀ σ' H', Pv xs.length σ' H' → D.nx σ' H') :
    ∃ b, V.ref a = .ref b ∧ (∃ xs, SqT K H b xs) ∧ ForW (Itt K b) g tb D σ H := ⟨a, rfl, ⟨xs, hx⟩, for_tup Pv h0 hl hs hd⟩
theorem loopS {g : TG} {tb : TS} {l : List Nat} (Pv : Nat → L2.St → Hp → Prop) (h0 : Pv 0 σ H)
    (hs : ∀ i c σ' H', l[i]? = some c → Pv i σ' H' → g (.str (S [c])) σ' H' fun σ2 H2 => tb { D with nx := Pv (i + 1), ct := Pv (i + 1), bk := D.nx } σ2 H2) (hd : ∀ σ' H', Pv l.length σ' H' → D.nx σ' H') :
    ∃ x, V.str (S l) = .str x ∧ ForW (Its x) g tb D σ H := by
  refine ⟨S l, rfl, for_it (walk_str (z := S l)) Pv h0 (fun _ _ _ _ _ => trivial) (fun i x σ' H1 H2 hi p y => ?_) (fun σ' H' p => ?_)⟩
  · obtain ⟨rfl, c, hc, rfl⟩ := y
    exact hs i c σ' H2 (by simpa using hc) p
  · exact hd σ' H' (by simpa using p)
/- comprehensions: each item's value, nothing else changed -/
def LcW (J : It) (g : TG) (tt : TT) (te : TE) (vs : List Nat) (σ : L2.St) (H1 : Hp) (Q : VK) : Prop := tLc (fun _ H R => R J H) g tt te vs σ H1 Q
theorem wp_lcL {g : TG} {tt : TT} {te : TE} {vs : List Nat} (h : ta σ H fun x H1 => ∃ a, x = .ref a ∧ (∃ xs, SqL K H1 a xs) ∧ LcW (Itl K a) g tt te vs σ H1 Q) : tLc (iList K ta) g tt te vs σ H Q := h
theorem wp_lcT {g : TG} {tt : TT} {te : TE} {vs : List Nat} (h : ta σ H fun x H1 => ∃ a, x = .ref a ∧ (∃ xs, SqT K H1 a xs) ∧ LcW (Itt K a) g tt te vs σ H1 Q) : tLc (iTup K ta) g tt te vs σ H Q := h
theorem wp_lcS {g : TG} {tt : TT} {te : TE} {vs : List Nat} (h : ta σ H fun v H1 => ∃ x, v = .str x ∧ LcW (Its x) g tt te vs σ H1 Q) : tLc (iStr ta) g tt te vs σ H Q := h
theorem wp_lc1 {g : TG} {tt : TT} {te : TE} {vs : List Nat} (h : tl σ H fun us H1 => ∃ j : Int, us = [.int j] ∧ -(2 ^ 62) ≤ j ∧ j < 2 ^ 62 ∧ LcW (Itr 0 j.toNat) g tt te vs σ H1 Q) : tLc (iRng1 tl) g tt te vs σ H Q := h
/-- a walk by items, an element that changes nothing: the list of their values -/
theorem lcMap {J : It} {n : Nat} {it : Nat → V} {Gd : Hp → Prop} (w : Walk J n Gd (fun i H x H' => H' = H ∧ x = it i)) (hn : n ≤ 100000) {g : TG} {te : TE} {vs : List Nat} (hG : ∀ H', Same H H' → Gd H') (f : Nat → V)
    (he : ∀ i H2, i < n → Same H H2 → ∀ R : VK, (∀ H3, Same H2 H3 → R (f i) H3) → g (it i) (wipe σ vs) H2 fun σ2 H3 => wipe σ2 vs = wipe σ vs ∧ te σ2 H3 R)
    (hq : ∀ D H2, H D = none → Same H H2 → H2 D = some (.lst ((List.range n).map f)) → Q (.ref D) H2) : LcW J g tYes te vs σ H Q := by
  intro D hD
  refine lc_it w (fun i H2 => Same H H2 ∧ H2 D = some (.lst ((List.range i).map f))) ⟨Same.new hD, upd_same⟩ (fun i H2 _ p => hG H2 p.1) (fun i x H2 H3 hi p y => ?_) (fun H2 p => hq D H2 hD p.1 p.2)
  obtain ⟨rfl, rfl⟩ := y
  have z := he i H3 hi p.1 (fun y H4 => ∃ acc, H4 D = some (.lst acc) ∧ acc.length < sizeLine ∧ (Same H (upd H4 D (.lst (acc ++ [y]))) ∧ upd H4 D (.lst (acc ++ [y])) D = some (.lst ((List.range (i + 1)).map f)))) (fun H4 s4 => ?_)
  · exact z
  · refine ⟨_, s4 _ _ p.2, ?_, Same.mut (p.1.trans s4) hD, ?_⟩
    · rw [List.length_map, List.length_range]
      exact szlt (by omega)
    · rw [List.range_succ, List.map_append]
      exact upd_same
theorem lcMapL {a : Addr} {xs : List V} {j : Nat} {te : TE} (hx : SqL K H a xs) (hn : xs.length ≤ 100000) (σx : V → L2.St) (hw : ∀ x, (wipe σ [j]).set j (some x) = σx x ∧ wipe (σx x) [j] = wipe σ [j]) (f : V → V)
    (he : ∀ x H2, x ∈ xs → Same H H2 → ∀ R : VK, (∀ H3, Same H2 H3 → R (f x) H3) → te (σx x) H2 R)
    (hq : ∀ D H2, H D = none → Same H H2 → H2 D = some (.lst (xs.map f)) → Q (.ref D) H2) : ∃ b, V.ref a = .ref b ∧ (∃ ys, SqL K H b ys) ∧ LcW (Itl K b) (gName j) tYes te [j] σ H Q := by
  refine ⟨a, rfl, ⟨xs, hx⟩, ?_⟩
  intro D hD
  refine lc_list (xs := xs) (fun i H2 => Same H H2 ∧ H2 D = some (.lst ((xs.take i).map f))) ⟨Same.new hD, upd_same⟩ (fun i H2 _ p => Same.seq p.1 hx) (fun i x H3 hi p => ?_) (fun H2 p => hq D H2 hD p.1 (by have q := p.2; rw [List.take_length] at q; exact q))
  obtain ⟨hl, ex⟩ := List.getElem?_eq_some_iff.mp hi
  show wipe ((wipe σ [j]).set j (some x)) [j] = wipe σ [j] ∧ te ((wipe σ [j]).set j (some x)) H3 fun y H4 => ∃ acc, H4 D = some (.lst acc) ∧ acc.length < sizeLine ∧ (Same H (upd H4 D (.lst (acc ++ [y]))) ∧ upd H4 D (.lst (acc ++ [y])) D = some (.lst ((xs.take (i + 1)).map f)))
  rw [(hw x).1]
  refine ⟨(hw x).2, he x H3 (ex ▸ List.getElem_mem hl) p.1 _ fun H4 s4 => ⟨_, s4 _ _ p.2, ?_, Same.mut (p.1.trans s4) hD, ?_⟩⟩
  · rw [List.length_map, List.length_take]
    exact szlt (by omega)
  · rw [← List.take_append_getElem hl, List.map_append, ex]
    exact upd_same
theorem lcMapS {l : List Nat} {j : Nat} {te : TE} (hn : l.length ≤ 100000) (σx : V → L2.St) (hw : ∀ x, (wipe σ [j]).set j (some x) = σx x ∧ wipe (σx x) [j] = wipe σ [j]) (f : Nat → V)
    (he : ∀ c H2, c ∈ l → Same H H2 → ∀ R : VK, (∀ H3, Same H2 H3 → R (f c) H3) → te (σx (.str (S [c]))) H2 R)
    (hq : ∀ D H2, H D = none → Same H H2 → H2 D = some (.lst (l.map f)) → Q (.ref D) H2) : ∃ x, V.str (S l) = .str x ∧ LcW (Its x) (gName j) tYes te [j] σ H Q := by
  refine ⟨S l, rfl, ?_⟩
  intro D hD
  have e0 : (S l).cps.size = l.length := by simp
  refine lc_it (walk_str (z := S l)) (fun i H2 => Same H H2 ∧ H2 D = some (.lst ((l.take i).map f))) ⟨Same.new hD, upd_same⟩ (fun _ _ _ _ => trivial) (fun i x H2 H3 hi p y => ?_) (fun H2 p => hq D H2 hD p.1 (by have q := p.2; rw [e0, List.take_length] at q; exact q))
  obtain ⟨rfl, c, hc, rfl⟩ := y
  have hc : l[i]? = some c := by simpa using hc
  obtain ⟨hl, ex⟩ := List.getElem?_eq_some_iff.mp hc
  show wipe ((wipe σ [j]).set j (some (V.str (S [c])))) [j] = wipe σ [j] ∧ te ((wipe σ [j]).set j (some (V.str (S [c])))) H3 fun y H4 => ∃ acc, H4 D = some (.lst acc) ∧ acc.length < sizeLine ∧ (Same H (upd H4 D (.lst (acc ++ [y]))) ∧ upd H4 D (.lst (acc ++ [y])) D = some (.lst ((l.take (i + 1)).map f)))
  rw [(hw _).1]
  refine ⟨(hw _).2, he c H3 (ex ▸ List.getElem_mem hl) p.1 _ fun H4 s4 => ⟨_, s4 _ _ p.2, ?_, Same.mut (p.1.trans s4) hD, ?_⟩⟩
  · rw [List.length_map, List.length_take]
    exact szlt (by omega)
  · rw [← List.take_append_getElem hl, List.map_append, ex]
    exact upd_same
/- ways -/
theorem ite_dec {c A B : Prop} {dc : Decidable c} (h1 : c → A) (h2 : ¬ c → B) : if decide c = true then A else B := by
  by_cases h : c
  · rw [decide_eq_true h]; exact h1 h
  · rw [decide_eq_false h]; exact h2 h
theorem ite_ndec {c A B : Prop} {dc : Decidable c} (h1 : ¬ c → A) (h2 : c → B) : if (!decide c) = true then A else B := by
  by_cases h : c
  · rw [decide_eq_true h]; exact h2 h
  · rw [decide_eq_false h]; exact h1 h
theorem ite_T {c A B : Prop} {dc : Decidable c} (hc : c) (h : A) : if decide c = true then A else B := by
  rw [decide_eq_true hc]; exact h
theorem ite_F {c A B : Prop} {dc : Decidable c} (hc : ¬ c) (h : B) : if decide c = true then A else B := by
  rw [decide_eq_false hc]; exact h
theorem ite_nT {c A B : Prop} {dc : Decidable c} (hc : ¬ c) (h : A) : if (!decide c) = true then A else B := by
  rw [decide_eq_false hc]; exact h
theorem ite_nF {c A B : Prop} {dc : Decidable c} (hc : c) (h : B) : if (!decide c) = true then A else B := by
  rw [decide_eq_true hc]; exact h
theorem ite_t {A B : Prop} (h : A) : if true = true then A else B := by rw [if_pos rfl]; exact h
theorem ite_f {A B : Prop} (h : B) : if false = true then A else B := by rw [if_neg Bool.false_ne_true]; exact h
theorem ite_nt {A B : Prop} (h : B) : if (!true) = true then A else B := by rw [if_neg (by decide)]; exact h
theorem ite_nff {A B : Prop} (h : A) : if (!false) = true then A else B := by rw [if_pos (by decide)]; exact h
theorem ite_b {b : Bool} {A B : Prop} (h1 : b = true → A) (h2 : b = false → B) : if b = true then A else B := by
  cases b
  · exact h2 rfl
  · exact h1 rfl
theorem ite_nb {b : Bool} {A B : Prop} (h1 : b = false → A) (h2 : b = true → B) : if (!b) = true then A else B := by
  cases b
  · exact h1 rfl
  · exact h2 rfl
end
/- slots -/
section
variable {v : V} {H : Hp} {QS : L2.St → Hp → Prop} {r : L2.St}
theorem wp_g0 {a0 : Option V} (h : QS (some v :: r) H) : gName 0 v (a0 :: r) H QS := h
theorem wp_g1 {a0 a1 : Option V} (h : QS (a0 :: some v :: r) H) : gName 1 v (a0 :: a1 :: r) H QS := h
theorem wp_g2 {a0 a1 a2 : Option V} (h : QS (a0 :: a1 :: some v :: r) H) : gName 2 v (a0 :: a1 :: a2 :: r) H QS := h
theorem wp_g3 {a0 a1 a2 a3 : Option V} (h : QS (a0 :: a1 :: a2 :: some v :: r) H) : gName 3 v (a0 :: a1 :: a2 :: a3 :: r) H QS := h
theorem wp_g4 {a0 a1 a2 a3 a4 : Option V} (h : QS (a0 :: a1 :: a2 :: a3 :: some v :: r) H) : gName 4 v (a0 :: a1 :: a2 :: a3 :: a4 :: r) H QS := h
theorem wp_g5 {a0 a1 a2 a3 a4 a5 : Option V} (h : QS (a0 :: a1 :: a2 :: a3 :: a4 :: some v :: r) H) : gName 5 v (a0 :: a1 :: a2 :: a3 :: a4 :: a5 :: r) H QS := h
theorem wp_g6 {a0 a1 a2 a3 a4 a5 a6 : Option V} (h : QS (a0 :: a1 :: a2 :: a3 :: a4 :: a5 :: some v :: r) H) : gName 6 v (a0 :: a1 :: a2 :: a3 :: a4 :: a5 :: a6 :: r) H QS := h
theorem wp_g7 {a0 a1 a2 a3 a4 a5 a6 a7 : Option V} (h : QS (a0 :: a1 :: a2 :: a3 :: a4 :: a5 :: a6 :: some v :: r) H) : gName 7 v (a0 :: a1 :: a2 :: a3 :: a4 :: a5 :: a6 :: a7 :: r) H QS := h
theorem wp_g8 {a0 a1 a2 a3 a4 a5 a6 a7 a8 : Option V} (h : QS (a0 :: a1 :: a2 :: a3 :: a4 :: a5 :: a6 :: a7 :: some v :: r) H) : gName 8 v (a0 :: a1 :: a2 :: a3 :: a4 :: a5 :: a6 :: a7 :: a8 :: r) H QS := h
theorem wp_g9 {a0 a1 a2 a3 a4 a5 a6 a7 a8 a9 : Option V} (h : QS (a0 :: a1 :: a2 :: a3 :: a4 :: a5 :: a6 :: a7 :: a8 :: some v :: r) H) : gName 9 v (a0 :: a1 :: a2 :: a3 :: a4 :: a5 :: a6 :: a7 :: a8 :: a9 :: r) H QS := h
theorem wp_g10 {a0 a1 a2 a3 a4 a5 a6 a7 a8 a9 a10 : Option V} (h : QS (a0 :: a1 :: a2 :: a3 :: a4 :: a5 :: a6 :: a7 :: a8 :: a9 :: some v :: r) H) : gName 10 v (a0 :: a1 :: a2 :: a3 :: a4 :: a5 :: a6 :: a7 :: a8 :: a9 :: a10 :: r) H QS := h
theorem wp_g11 {a0 a1 a2 a3 a4 a5 a6 a7 a8 a9 a10 a11 : Option V} (h : QS (a0 :: a1 :: a2 :: a3 :: a4 :: a5 :: a6 :: a7 :: a8 :: a9 :: a10 :: some v :: r) H) : gName 11 v (a0 :: a1 :: a2 :: a3 :: a4 :: a5 :: a6 :: a7 :: a8 :: a9 :: a10 :: a11 :: r) H QS := h
theorem wp_g12 {a0 a1 a2 a3 a4 a5 a6 a7 a8 a9 a10 a11 a12 : Option V} (h : QS (a0 :: a1 :: a2 :: a3 :: a4 :: a5 :: a6 :: a7 :: a8 :: a9 :: a10 :: a11 :: some v :: r) H) : gName 12 v (a0 :: a1 :: a2 :: a3 :: a4 :: a5 :: a6 :: a7 :: a8 :: a9 :: a10 :: a11 :: a12 :: r) H QS := h
theorem wp_g13 {a0 a1 a2 a3 a4 a5 a6 a7 a8 a9 a10 a11 a12 a13 : Option V} (h : QS (a0 :: a1 :: a2 :: a3 :: a4 :: a5 :: a6 :: a7 :: a8 :: a9 :: a10 :: a11 :: a12 :: some v :: r) H) : gName 13 v (a0 :: a1 :: a2 :: a3 :: a4 :: a5 :: a6 :: a7 :: a8 :: a9 :: a10 :: a11 :: a12 :: a13 :: r) H QS := h
theorem wp_g14 {a0 a1 a2 a3 a4 a5 a6 a7 a8 a9 a10 a11 a12 a13 a14 : Option V} (h : QS (a0 :: a1 :: a2 :: a3 :: a4 :: a5 :: a6 :: a7 :: a8 :: a9 :: a10 :: a11 :: a12 :: a13 :: some v :: r) H) : gName 14 v (a0 :: a1 :: a2 :: a3 :: a4 :: a5 :: a6 :: a7 :: a8 :: a9 :: a10 :: a11 :: a12 :: a13 :: a14 :: r) H QS := h
theorem wp_g15 {a0 a1 a2 a3 a4 a5 a6 a7 a8 a9 a10 a11 a12 a13 a14 a15 : Option V} (h : QS (a0 :: a1 :: a2 :: a3 :: a4 :: a5 :: a6 :: a7 :: a8 :: a9 :: a10 :: a11 :: a12 :: a13 :: a14 :: some v :: r) H) : gName 15 v (a0 :: a1 :: a2 :: a3 :: a4 :: a5 :: a6 :: a7 :: a8 :: a9 :: a10 :: a11 :: a12 :: a13 :: a14 :: a15 :: r) H QS := h
theorem wp_g16 {a0 a1 a2 a3 a4 a5 a6 a7 a8 a9 a10 a11 a12 a13 a14 a15 a16 : Option V} (h : QS (a0 :: a1 :: a2 :: a3 :: a4 :: a5 :: a6 :: a7 :: a8 :: a9 :: a10 :: a11 :: a12 :: a13 :: a14 :: a15 :: some v :: r) H) : gName 16 v (a0 :: a1 :: a2 :: a3 :: a4 :: a5 :: a6 :: a7 :: a8 :: a9 :: a10 :: a11 :: a12 :: a13 :: a14 :: a15 :: a16 :: r) H QS := h
theorem wp_g17 {a0 a1 a2 a3 a4 a5 a6 a7 a8 a9 a10 a11 a12 a13 a14 a15 a16 a17 : Option V} (h : QS (a0 :: a1 :: a2 :: a3 :: a4 :: a5 :: a6 :: a7 :: a8 :: a9 :: a10 :: a11 :: a12 :: a13 :: a14 :: a15 :: a16 :: some v :: r) H) : gName 17 v (a0 :: a1 :: a2 :: a3 :: a4 :: a5 :: a6 :: a7 :: a8 :: a9 :: a10 :: a11 :: a12 :: a13 :: a14 :: a15 :: a16 :: a17 :: r) H QS := h
theorem wp_g18 {a0 a1 a2 a3 a4 a5 a6 a7 a8 a9 a10 a11 a12 a13 a14 a15 a16 a17 a18 : Option V} (h : QS (a0 :: a1 :: a2 :: a3 :: a4 :: a5 :: a6 :: a7 :: a8 :: a9 :: a10 :: a11 :: a12 :: a13 :: a14 :: a15 :: a16 :: a17 :: some v :: r) H) : gName 18 v (a0 :: a1 :: a2 :: a3 :: a4 :: a5 :: a6 :: a7 :: a8 :: a9 :: a10 :: a11 :: a12 :: a13 :: a14 :: a15 :: a16 :: a17 :: a18 :: r) H QS := h
theorem wp_g19 {a0 a1 a2 a3 a4 a5 a6 a7 a8 a9 a10 a11 a12 a13 a14 a15 a16 a17 a18 a19 : Option V} (h : QS (a0 :: a1 :: a2 :: a3 :: a4 :: a5 :: a6 :: a7 :: a8 :: a9 :: a10 :: a11 :: a12 :: a13 :: a14 :: a15 :: a16 :: a17 :: a18 :: some v :: r) H) : gName 19 v (a0 :: a1 :: a2 :: a3 :: a4 :: a5 :: a6 :: a7 :: a8 :: a9 :: a10 :: a11 :: a12 :: a13 :: a14 :: a15 :: a16 :: a17 :: a18 :: a19 :: r) H QS := h
theorem wp_g20 {a0 a1 a2 a3 a4 a5 a6 a7 a8 a9 a10 a11 a12 a13 a14 a15 a16 a17 a18 a19 a20 : Option V} (h : QS (a0 :: a1 :: a2 :: a3 :: a4 :: a5 :: a6 :: a7 :: a8 :: a9 :: a10 :: a11 :: a12 :: a13 :: a14 :: a15 :: a16 :: a17 :: a18 :: a19 :: some v :: r) H) : gName 20 v (a0 :: a1 :: a2 :: a3 :: a4 :: a5 :: a6 :: a7 :: a8 :: a9 :: a10 :: a11 :: a12 :: a13 :: a14 :: a15 :: a16 :: a17 :: a18 :: a19 :: a20 :: r) H QS := h
theorem wp_g21 {a0 a1 a2 a3 a4 a5 a6 a7 a8 a9 a10 a11 a12 a13 a14 a15 a16 a17 a18 a19 a20 a21 : Option V} (h : QS (a0 :: a1 :: a2 :: a3 :: a4 :: a5 :: a6 :: a7 :: a8 :: a9 :: a10 :: a11 :: a12 :: a13 :: a14 :: a15 :: a16 :: a17 :: a18 :: a19 :: a20 :: some v :: r) H) : gName 21 v (a0 :: a1 :: a2 :: a3 :: a4 :: a5 :: a6 :: a7 :: a8 :: a9 :: a10 :: a11 :: a12 :: a13 :: a14 :: a15 :: a16 :: a17 :: a18 :: a19 :: a20 :: a21 :: r) H QS := h
theorem wp_g22 {a0 a1 a2 a3 a4 a5 a6 a7 a8 a9 a10 a11 a12 a13 a14 a15 a16 a17 a18 a19 a20 a21 a22 : Option V} (h : QS (a0 :: a1 :: a2 :: a3 :: a4 :: a5 :: a6 :: a7 :: a8 :: a9 :: a10 :: a11 :: a12 :: a13 :: a14 :: a15 :: a16 :: a17 :: a18 :: a19 :: a20 :: a21 :: some v :: r) H) : gName 22 v (a0 :: a1 :: a2 :: a3 :: a4 :: a5 :: a6 :: a7 :: a8 :: a9 :: a10 :: a11 :: a12 :: a13 :: a14 :: a15 :: a16 :: a17 :: a18 :: a19 :: a20 :: a21 :: a22 :: r) H QS := h
theorem wp_g23 {a0 a1 a2 a3 a4 a5 a6 a7 a8 a9 a10 a11 a12 a13 a14 a15 a16 a17 a18 a19 a20 a21 a22 a23 : Option V} (h : QS (a0 :: a1 :: a2 :: a3 :: a4 :: a5 :: a6 :: a7 :: a8 :: a9 :: a10 :: a11 :: a12 :: a13 :: a14 :: a15 :: a16 :: a17 :: a18 :: a19 :: a20 :: a21 :: a22 :: some v :: r) H) : gName 23 v (a0 :: a1 :: a2 :: a3 :: a4 :: a5 :: a6 :: a7 :: a8 :: a9 :: a10 :: a11 :: a12 :: a13 :: a14 :: a15 :: a16 :: a17 :: a18 :: a19 :: a20 :: a21 :: a22 :: a23 :: r) H QS := h
theorem wp_g24 {a0 a1 a2 a3 a4 a5 a6 a7 a8 a9 a10 a11 a12 a13 a14 a15 a16 a17 a18 a19 a20 a21 a22 a23 a24 : Option V} (h : QS (a0 :: a1 :: a2 :: a3 :: a4 :: a5 :: a6 :: a7 :: a8 :: a9 :: a10 :: a11 :: a12 :: a13 :: a14 :: a15 :: a16 :: a17 :: a18 :: a19 :: a20 :: a21 :: a22 :: a23 :: some v :: r) H) : gName 24 v (a0 :: a1 :: a2 :: a3 :: a4 :: a5 :: a6 :: a7 :: a8 :: a9 :: a10 :: a11 :: a12 :: a13 :: a14 :: a15 :: a16 :: a17 :: a18 :: a19 :: a20 :: a21 :: a22 :: a23 :: a24 :: r) H QS := h
theorem wp_g25 {a0 a1 a2 a3 a4 a5 a6 a7 a8 a9 a10 a11 a12 a13 a14 a15 a16 a17 a18 a19 a20 a21 a22 a23 a24 a25 : Option V} (h : QS (a0 :: a1 :: a2 :: a3 :: a4 :: a5 :: a6 :: a7 :: a8 :: a9 :: a10 :: a11 :: a12 :: a13 :: a14 :: a15 :: a16 :: a17 :: a18 :: a19 :: a20 :: a21 :: a22 :: a23 :: a24 :: some v :: r) H) : gName 25 v (a0 :: a1 :: a2 :: a3 :: a4 :: a5 :: a6 :: a7 :: a8 :: a9 :: a10 :: a11 :: a12 :: a13 :: a14 :: a15 :: a16 :: a17 :: a18 :: a19 :: a20 :: a21 :: a22 :: a23 :: a24 :: a25 :: r) H QS := h
end
section
variable {v : V} {H : Hp} {Q : VK} {r : L2.St}
theorem wp_v0 (q : Q v H) : tVar 0 (some v :: r) H Q := ⟨v, rfl, q⟩
theorem wp_v1 {a0 : Option V} (q : Q v H) : tVar 1 (a0 :: some v :: r) H Q := ⟨v, rfl, q⟩
theorem wp_v2 {a0 a1 : Option V} (q : Q v H) : tVar 2 (a0 :: a1 :: some v :: r) H Q := ⟨v, rfl, q⟩
theorem wp_v3 {a0 a1 a2 : Option V} (q : Q v H) : tVar 3 (a0 :: a1 :: a2 :: some v :: r) H Q := ⟨v, rfl, q⟩
theorem wp_v4 {a0 a1 a2 a3 : Option V} (q : Q v H) : tVar 4 (a0 :: a1 :: a2 :: a3 :: some v :: r) H Q := ⟨v, rfl, q⟩
theorem wp_v5 {a0 a1 a2 a3 a4 : Option V} (q : Q v H) : tVar 5 (a0 :: a1 :: a2 :: a3 :: a4 :: some v :: r) H Q := ⟨v, rfl, q⟩
theorem wp_v6 {a0 a1 a2 a3 a4 a5 : Option V} (q : Q v H) : tVar 6 (a0 :: a1 :: a2 :: a3 :: a4 :: a5 :: some v :: r) H Q := ⟨v, rfl, q⟩
theorem wp_v7 {a0 a1 a2 a3 a4 a5 a6 : Option V} (q : Q v H) : tVar 7 (a0 :: a1 :: a2 :: a3 :: a4 :: a5 :: a6 :: some v :: r) H Q := ⟨v, rfl, q⟩
theorem wp_v8 {a0 a1 a2 a3 a4 a5 a6 a7 : Option V} (q : Q v H) : tVar 8 (a0 :: a1 :: a2 :: a3 :: a4 :: a5 :: a6 :: a7 :: some v :: r) H Q := ⟨v, rfl, q⟩
theorem wp_v9 {a0 a1 a2 a3 a4 a5 a6 a7 a8 : Option V} (q : Q v H) : tVar 9 (a0 :: a1 :: a2 :: a3 :: a4 :: a5 :: a6 :: a7 :: a8 :: some v :: r) H Q := ⟨v, rfl, q⟩
theorem wp_v10 {a0 a1 a2 a3 a4 a5 a6 a7 a8 a9 : Option V} (q : Q v H) : tVar 10 (a0 :: a1 :: a2 :: a3 :: a4 :: a5 :: a6 :: a7 :: a8 :: a9 :: some v :: r) H Q := ⟨v, rfl, q⟩
theorem wp_v11 {a0 a1 a2 a3 a4 a5 a6 a7 a8 a9 a10 : Option V} (q : Q v H) : tVar 11 (a0 :: a1 :: a2 :: a3 :: a4 :: a5 :: a6 :: a7 :: a8 :: a9 :: a10 :: some v :: r) H Q := ⟨v, rfl, q⟩
theorem wp_v12 {a0 a1 a2 a3 a4 a5 a6 a7 a8 a9 a10 a11 : Option V} (q : Q v H) : tVar 12 (a0 :: a1 :: a2 :: a3 :: a4 :: a5 :: a6 :: a7 :: a8 :: a9 :: a10 :: a11 :: some v :: r) H Q := ⟨v, rfl, q⟩
theorem wp_v13 {a0 a1 a2 a3 a4 a5 a6 a7 a8 a9 a10 a11 a12 : Option V} (q : Q v H) : tVar 13 (a0 :: a1 :: a2 :: a3 :: a4 :: a5 :: a6 :: a7 :: a8 :: a9 :: a10 :: a11 :: a12 :: some v :: r) H Q := ⟨v, rfl, q⟩
theorem wp_v14 {a0 a1 a2 a3 a4 a5 a6 a7 a8 a9 a10 a11 a12 a13 : Option V} (q : Q v H) : tVar 14 (a0 :: a1 :: a2 :: a3 :: a4 :: a5 :: a6 :: a7 :: a8 :: a9 :: a10 :: a11 :: a12 :: a13 :: some v :: r) H Q := ⟨v, rfl, q⟩
theorem wp_v15 {a0 a1 a2 a3 a4 a5 a6 a7 a8 a9 a10 a11 a12 a13 a14 : Option V} (q : Q v H) : tVar 15 (a0 :: a1 :: a2 :: a3 :: a4 :: a5 :: a6 :: a7 :: a8 :: a9 :: a10 :: a11 :: a12 :: a13 :: a14 :: some v :: r) H Q := ⟨v, rfl, q⟩
theorem wp_v16 {a0 a1 a2 a3 a4 a5 a6 a7 a8 a9 a10 a11 a12 a13 a14 a15 : Option V} (q : Q v H) : tVar 16 (a0 :: a1 :: a2 :: a3 :: a4 :: a5 :: a6 :: a7 :: a8 :: a9 :: a10 :: a11 :: a12 :: a13 :: a14 :: a15 :: some v :: r) H Q := ⟨v, rfl, q⟩
theorem wp_v17 {a0 a1 a2 a3 a4 a5 a6 a7 a8 a9 a10 a11 a12 a13 a14 a15 a16 : Option V} (q : Q v H) : tVar 17 (a0 :: a1 :: a2 :: a3 :: a4 :: a5 :: a6 :: a7 :: a8 :: a9 :: a10 :: a11 :: a12 :: a13 :: a14 :: a15 :: a16 :: some v :: r) H Q := ⟨v, rfl, q⟩
theorem wp_v18 {a0 a1 a2 a3 a4 a5 a6 a7 a8 a9 a10 a11 a12 a13 a14 a15 a16 a17 : Option V} (q : Q v H) : tVar 18 (a0 :: a1 :: a2 :: a3 :: a4 :: a5 :: a6 :: a7 :: a8 :: a9 :: a10 :: a11 :: a12 :: a13 :: a14 :: a15 :: a16 :: a17 :: some v :: r) H Q := ⟨v, rfl, q⟩
theorem wp_v19 {a0 a1 a2 a3 a4 a5 a6 a7 a8 a9 a10 a11 a12 a13 a14 a15 a16 a17 a18 : Option V} (q : Q v H) : tVar 19 (a0 :: a1 :: a2 :: a3 :: a4 :: a5 :: a6 :: a7 :: a8 :: a9 :: a10 :: a11 :: a12 :: a13 :: a14 :: a15 :: a16 :: a17 :: a18 :: some v :: r) H Q := ⟨v, rfl, q⟩
theorem wp_v20 {a0 a1 a2 a3 a4 a5 a6 a7 a8 a9 a10 a11 a12 a13 a14 a15 a16 a17 a18 a19 : Option V} (q : Q v H) : tVar 20 (a0 :: a1 :: a2 :: a3 :: a4 :: a5 :: a6 :: a7 :: a8 :: a9 :: a10 :: a11 :: a12 :: a13 :: a14 :: a15 :: a16 :: a17 :: a18 :: a19 :: some v :: r) H Q := ⟨v, rfl, q⟩
theorem wp_v21 {a0 a1 a2 a3 a4 a5 a6 a7 a8 a9 a10 a11 a12 a13 a14 a15 a16 a17 a18 a19 a20 : Option V} (q : Q v H) : tVar 21 (a0 :: a1 :: a2 :: a3 :: a4 :: a5 :: a6 :: a7 :: a8 :: a9 :: a10 :: a11 :: a12 :: a13 :: a14 :: a15 :: a16 :: a17 :: a18 :: a19 :: a20 :: some v :: r) H Q := ⟨v, rfl, q⟩
theorem wp_v22 {a0 a1 a2 a3 a4 a5 a6 a7 a8 a9 a10 a11 a12 a13 a14 a15 a16 a17 a18 a19 a20 a21 : Option V} (q : Q v H) : tVar 22 (a0 :: a1 :: a2 :: a3 :: a4 :: a5 :: a6 :: a7 :: a8 :: a9 :: a10 :: a11 :: a12 :: a13 :: a14 :: a15 :: a16 :: a17 :: a18 :: a19 :: a20 :: a21 :: some v :: r) H Q := ⟨v, rfl, q⟩
theorem wp_v23 {a0 a1 a2 a3 a4 a5 a6 a7 a8 a9 a10 a11 a12 a13 a14 a15 a16 a17 a18 a19 a20 a21 a22 : Option V} (q : Q v H) : tVar 23 (a0 :: a1 :: a2 :: a3 :: a4 :: a5 :: a6 :: a7 :: a8 :: a9 :: a10 :: a11 :: a12 :: a13 :: a14 :: a15 :: a16 :: a17 :: a18 :: a19 :: a20 :: a21 :: a22 :: some v :: r) H Q := ⟨v, rfl, q⟩
theorem wp_v24 {a0 a1 a2 a3 a4 a5 a6 a7 a8 a9 a10 a11 a12 a13 a14 a15 a16 a17 a18 a19 a20 a21 a22 a23 : Option V} (q : Q v H) : tVar 24 (a0 :: a1 :: a2 :: a3 :: a4 :: a5 :: a6 :: a7 :: a8 :: a9 :: a10 :: a11 :: a12 :: a13 :: a14 :: a15 :: a16 :: a17 :: a18 :: a19 :: a20 :: a21 :: a22 :: a23 :: some v :: r) H Q := ⟨v, rfl, q⟩
theorem wp_v25 {a0 a1 a2 a3 a4 a5 a6 a7 a8 a9 a10 a11 a12 a13 a14 a15 a16 a17 a18 a19 a20 a21 a22 a23 a24 : Option V} (q : Q v H) : tVar 25 (a0 :: a1 :: a2 :: a3 :: a4 :: a5 :: a6 :: a7 :: a8 :: a9 :: a10 :: a11 :: a12 :: a13 :: a14 :: a15 :: a16 :: a17 :: a18 :: a19 :: a20 :: a21 :: a22 :: a23 :: a24 :: some v :: r) H Q := ⟨v, rfl, q⟩
end
/-! ### small words about heaps -/
theorem sq_of {K : PySem.W.Frag} {H : Hp} {a : Addr} {xs : List V} (h : H a = some (.lst xs)) : SqL K H a xs := SqL.of h
theorem st_of {K : PySem.W.Frag} {H : Hp} {a : Addr} {xs : List V} (h : H a = some (.tup xs)) : SqT K H a xs := SqT.of h
theorem at_in {α : Type} {xs : List α} {i : Int} (h0 : 0 ≤ i) (h1 : i < xs.length) : ∃ v, atI xs i = some v ∧ v ∈ xs ∧ xs[i.toNat]? = some v := by
  have hl : i.toNat < xs.length := by omega
  have e : i = ((i.toNat : Nat) : Int) := by omega
  have h := atI_nat (List.getElem?_eq_getElem hl)
  rw [← e] at h
  exact ⟨_, h, List.getElem_mem hl, List.getElem?_eq_getElem hl⟩
theorem at0 {α : Type} {x : α} {xs : List α} : atI (x :: xs) 0 = some x := atI_nat (j := 0) rfl
theorem at1 {α : Type} {x y : α} {xs : List α} : atI (x :: y :: xs) 1 = some y := atI_nat (j := 1) rfl
/-! ### the pool: what a draw may change -/
structure Pl where
  p : Addr
  l : Addr
  cs : List Int
/-- the pool stands at P.p, its cells at P.l; G: all that is known besides, P.p not among it -/
structure Sees (P : Pl) (G H : Hp) : Prop where
  pool : ∃ (n c : Int), H P.p = some (.lst [.int n, .int c, .ref P.l])
  cell : G P.l = some (.lst (P.cs.map V.int))
  few : P.cs.length ≤ 63
  free : G P.p = none
  sub : Same G H
theorem Sees.more {P : Pl} {G G' H : Hp} (s : Sees P G H) (g : Same G G') (h : Same G' H) (hp : G' P.p = none) : Sees P G' H :=
  ⟨s.pool, g _ _ s.cell, s.few, hp, h⟩
/-- a thing outside of G that stands in H is known too -/
theorem Sees.with {P : Pl} {q : Addr} {o : HO} {G H : Hp} (s : Sees P G H) (hq : G q = none) (hH : H q = some o) (hqp : q ≠ P.p) : Sees P (upd G q o) H := by
  refine s.more (Same.new hq) (fun a u e => ?_) (by rw [upd_ne hqp.symm]; exact s.free)
  by_cases h : a = q
  · subst h; rw [upd_same] at e; cases e; exact hH
  · rw [upd_ne h] at e; exact s.sub _ _ e
/-- .. and may be forgotten behind a call -/
theorem Sees.back {P : Pl} {q : Addr} {o : HO} {G H H' : Hp} (s : Sees P (upd G q o) H') (s0 : Sees P G H) (hq : G q = none) : Sees P G H' ∧ H' q = some o :=
  ⟨⟨s.pool, s0.cell, s.few, s0.free, Same.trans (Same.new hq) s.sub⟩, s.sub _ _ upd_same⟩
theorem Sees.fresh {P : Pl} {q : Addr} {G H : Hp} (s : Sees P G H) (hq : H q = none) : G q = none ∧ q ≠ P.p := by
  refine ⟨s.sub.free hq, fun e => ?_⟩
  obtain ⟨n, c, h⟩ := s.pool
  rw [e, h] at hq
  cases hq
/-- a local object is made, or changed -/
theorem Sees.set {P : Pl} {q : Addr} {o : HO} {G H : Hp} (s : Sees P G H) (hq : G q = none) (hqp : q ≠ P.p) : Sees P G (upd H q o) := by
  obtain ⟨n, c, h⟩ := s.pool
  exact ⟨⟨n, c, by rw [upd_ne hqp.symm]; exact h⟩, s.cell, s.few, s.free, Same.mut s.sub hq⟩
/-- .. and known for good -/
theorem Sees.new {P : Pl} {q : Addr} {o : HO} {G H : Hp} (s : Sees P G H) (hq : H q = none) : Sees P (upd G q o) (upd H q o) := by
  obtain ⟨h1, h2⟩ := s.fresh hq
  exact (s.set h1 h2).with h1 upd_same h2
theorem Sees.drawn {P : Pl} {G H : Hp} (s : Sees P G H) (n c : Int) : Sees P G (upd H P.p (.lst [.int n, .int c, .ref P.l])) :=
  ⟨⟨n, c, upd_same⟩, s.cell, s.few, s.free, Same.mut s.sub s.free⟩
/-- what a call that leaves all as it was leaves -/
theorem Sees.same {P : Pl} {G H H' : Hp} (s : Sees P G H) (h : Same H H') : Sees P G H' := by
  obtain ⟨n, c, e⟩ := s.pool
  exact ⟨⟨n, c, h _ _ e⟩, s.cell, s.few, s.free, s.sub.trans h⟩
end RM
namespace RM
open PySem PySem.Spec PyProof.Rows L2
/-! ### own classes: the operators that the text defines -/
section
variable {X : Cx} {pins : List (Addr × Obj)} {σ : L2.St} {H : Hp} {s : Shared} {n : Nat} {A : Around} {f C : Addr} {fd : FuncData} {ps : List Str} {sp : Sp}
/-- a def run somewhere below the body -/
theorem run_at {E' : Value → Shared → Prop} (sb : Sub X n A) (F : FnOk X.prog X.w X.K X.mg X.base CX0 n f fd ps sp) (hb : Binds X.K fd ps []) (I : Inv X pins σ H s) {us : List Value} {vs : List V} {Q : VK} (r : Vals vs us) (h : sp vs H Q E0) :
    wpAny (model X.prog X.w) A (call (.ref f) us) (EP X pins σ Q) E' s := by
  have e0 : Env0 X.prog X.w X.K X.mg X.base A X.stack s H := by
    have e := I.env0
    exact ⟨by rw [sb.fr]; exact e.frames, e.mod, e.bs, e.bsz, e.funs, e.frf, e.hok, e.bare⟩
  have hl := F.len _ _ _ _ h
  have hl2 : (us ++ ([] : List Value)).length = ps.length := by rw [List.append_nil, ← r.length]; exact hl
  have bt := hb s us I.kIn hl2
  rw [List.append_nil] at bt
  refine wpAny_call (codeAny_mono (F.run A X.stack s H ⟨us, []⟩ us vs Q E0 sb.room e0 bt r h) fun r s' hq => ?_)
  cases r with
  | error e => exact False.elim hq
  | ok fl =>
    cases fl with
    | ret u => exact I.after hq
    | next => exact False.elim hq
    | brk => exact False.elim hq
    | cont => exact False.elim hq
/-- a class's method by a special name -/
structure Spc (P : Program) (w : World) (K : PySem.W.Frag) (mg : Str → Option Value) (base : Heap) (n : Nat) (C : Addr) (nm : Str) (sp : Sp) : Prop where
  ex : ∃ (f : Addr) (fd : FuncData) (ps : List Str), PySem.W.findIn K (.ref C) nm = some (some (.ref f)) ∧ PySem.W.isFn K (.ref f) = true ∧ FnOk P w K mg base CX0 n f fd ps sp ∧ Binds K fd ps []
theorem inst_of {a dx : Addr} {fs : List (Str × V)} (I : Inv X pins σ H s) (ha : H a = some (.ins C dx fs)) : ∃ od, PySem.W.InstAt s.heap a (PySem.W.instObj C dx) C (some od) := by
  obtain ⟨mA, J, _⟩ := ins_get I.hok ha
  obtain ⟨od, J, _⟩ := J.look
  exact ⟨od, J⟩
/-- len(o) -/
def rLenOwn (C : Addr) (sp : Sp) : List V → Hp → VK → Prop := fun xs H Q => ∃ a dx fs, xs = [.ref a] ∧ H a = some (.ins C dx fs) ∧ sp [.ref a] H (fun v H' => ∃ k : Int, v = .int k ∧ 0 ≤ k ∧ k < 100000 ∧ Q (.int k) H') E0
theorem call_lenOwn (S : Spc X.prog X.w X.K X.mg X.base n C "__len__" sp) (hr : Room (n + 1) X.A) : CallR X (.builtin "len") (rLenOwn C sp) := by
  obtain ⟨f, fd, ps, hs, hf, F, hb⟩ := S.ex
  intro pins s σ H xs us Q I r h
  obtain ⟨a, dx, fs, rfl, ha, h⟩ := h
  obtain ⟨u, rfl, ru⟩ := r.one
  cases ru
  obtain ⟨od, J⟩ := inst_of I ha
  obtain ⟨m, hF⟩ := I.fr
  refine PySem.W.len_K hF I.ok.mod.kin J hs hf ?_
  refine wpAny_mono (run_at (us := [.ref a]) (vs := [.ref a]) (Sub.in1 ⟨hr, rfl⟩) F hb I (.cons rfl .nil) h) (fun v s' hv => ?_) fun _ _ e => e
  obtain ⟨x, H', I', rx, k, rfl, h0, h1, q⟩ := hv
  obtain ⟨t, rfl⟩ := rx
  refine ⟨⟨h0, by omega⟩, .int k, H', I'.tok _, ⟨_, rfl⟩, q⟩
/-- x in o, x not in o -/
def rInOwn (C : Addr) (sp : Sp) (neg : Bool) : R2 := fun x y H Q => ∃ a dx fs, y = .ref a ∧ H a = some (.ins C dx fs) ∧ sp [.ref a, x] H (fun v H' => ∃ k : Bool, v = .bl k ∧ Q (.bl (if neg then !k else k)) H') E0
theorem op_inOwn (S : Spc X.prog X.w X.K X.mg X.base n C "__contains__" sp) (hr : Room n X.A) : OpR X (compareOp .In) (rInOwn C sp false) := by
  obtain ⟨f, fd, ps, hs, hf, F, hb⟩ := S.ex
  intro pins s σ H x y v u Q I rx ry h
  obtain ⟨a, dx, fs, rfl, ha, h⟩ := h
  cases ry
  obtain ⟨od, J⟩ := inst_of I ha
  obtain ⟨m, hF⟩ := I.fr
  refine PySem.W.in_K hF I.ok.mod.kin J hs hf ?_
  refine wpAny_mono (run_at (us := [.ref a, v]) (vs := [.ref a, x]) ⟨hr, rfl⟩ F hb I (.cons rfl (.cons rx .nil)) h) (fun v s' hv => ?_) fun _ _ e => e
  obtain ⟨z, H', I', rz, k, rfl, q⟩ := hv
  cases rz
  exact wpAny_truthy_bool ⟨.bl k, H', I', rfl, q⟩
theorem op_notInOwn (S : Spc X.prog X.w X.K X.mg X.base n C "__contains__" sp) (hr : Room n X.A) : OpR X (compareOp .NotIn) (rInOwn C sp true) := by
  obtain ⟨f, fd, ps, hs, hf, F, hb⟩ := S.ex
  intro pins s σ H x y v u Q I rx ry h
  obtain ⟨a, dx, fs, rfl, ha, h⟩ := h
  cases ry
  obtain ⟨od, J⟩ := inst_of I ha
  obtain ⟨m, hF⟩ := I.fr
  refine PySem.W.notIn_K hF I.ok.mod.kin J hs hf ?_
  refine wpAny_mono (run_at (us := [.ref a, v]) (vs := [.ref a, x]) ⟨hr, rfl⟩ F hb I (.cons rfl (.cons rx .nil)) h) (fun v s' hv => ?_) fun _ _ e => e
  obtain ⟨z, H', I', rz, k, rfl, q⟩ := hv
  cases rz
  exact wpAny_truthy_bool ⟨.bl (!k), H', I', rfl, q⟩
/-- o == p, two instances of one class -/
def rEqOwn (C : Addr) (sp : Sp) : R2 := fun x y H Q => ∃ a dx fs b dy gs, x = .ref a ∧ H a = some (.ins C dx fs) ∧ y = .ref b ∧ H b = some (.ins C dy gs) ∧ sp [.ref a, .ref b] H (fun v H' => ∃ k : Bool, v = .bl k ∧ Q (.bl k) H') E0
theorem op_eqOwn (S : Spc X.prog X.w X.K X.mg X.base n C "__eq__" sp) (hr : Room n X.A) : OpR X (compareOp .Eq) (rEqOwn C sp) := by
  obtain ⟨f, fd, ps, hs, hf, F, hb⟩ := S.ex
  intro pins s σ H x y v u Q I rx ry h
  obtain ⟨a, dx, fs, b, dy, gs, rfl, ha, rfl, hb', h⟩ := h
  cases rx
  cases ry
  obtain ⟨od, J⟩ := inst_of I ha
  obtain ⟨od', J'⟩ := inst_of I hb'
  obtain ⟨m, hF⟩ := I.fr
  show wpAny (model X.prog X.w) X.A (richCompare .Eq (.ref a) (.ref b)) (EP X pins σ Q) X.xe s
  refine PySem.W.cmp_K (op := .Eq) (tb := .ref C) hr.units0 hF I.ok.mod.kin J J'.type (by simp [PySem.W.notFirst]) hs hf ?_
  refine wpAny_mono (run_at (us := [.ref a, .ref b]) (vs := [.ref a, .ref b]) ⟨hr, rfl⟩ F hb I (.cons rfl (.cons rfl .nil)) h) (fun v s' hv => ?_) fun _ _ e => e
  obtain ⟨z, H', I', rz, k, rfl, q⟩ := hv
  cases rz
  exact ⟨.bl k, H', I', rfl, q⟩
end
end RM
namespace RM
open PySem PySem.Spec PyProof.Rows L2
/-! ### list(o), o of an own class whose __iter__ hands out a list's iterator and that has a __len__ -/
/-- at it an iterator over the list at l, the next place is i (its object left open) -/
def ItS (l it : Addr) (i : Nat) : HO := .ext fun h => h.IsListIter it l i
section
variable {X : Cx} {pins : List (Addr × Obj)} {σ : L2.St} {H : Hp} {s : Shared} {n : Nat} {A : Around} {f C l it q : Addr} {fd : FuncData} {ps : List Str} {sp : Sp} {i : Nat}
theorem itS_ok {P : Program} {w : World} {h : Heap} (e : h.IsListIter it l i) : ObjOk P w H h it (ItS l it i) := by
  obtain ⟨o, ho, hr⟩ := id e
  refine ⟨e, ⟨o, ho⟩, fun h1 h2 x k => ?_⟩
  obtain ⟨o1, ho1, hr1⟩ := x
  exact ⟨o1, k _ ho1, hr1⟩
theorem itS_get (I : Inv X pins σ H s) (e : H it = some (ItS l it i)) : s.heap.IsListIter it l i := (I.hok it _ e).1
theorem endit {Q : Option Value → Shared → Prop} {items : Array Value} {E : Value → Shared → Prop} {prog : Program} {w : World} (hh : A.handled = none) (hit : s.heap.IsListIter it l i) (hl : s.heap.IsList l items) (hx : items[i]? = none)
    (hQ : ∀ h', (∃ o, h'.get? it = some o) → (∀ b o, b ≠ it → s.heap.get? b = some o → h'.get? b = some o) → Q none { s with heap := h' }) : wpAny (model prog w) A (pyNext (.ref it)) Q E s := by
  obtain ⟨o, ho, hc, hd⟩ := id hit
  obtain ⟨ol, hol, _, nl, hdl⟩ := hl
  unfold pyNext
  refine wpAny_bind (wpAny_attempt (wpAny_callSpecial?_slot (name := Str.ofString "__next__") hit.typeIs slot_listiter_next
    (wpAny_call_entry slot_listiter_next hit.typeIs entry_listiter_next ?_ (args_listiter_next _))))
  show wpAny _ _ (field (.ref it) 0 >>= _) _ _ s
  refine wpAny_bind (wpAny_field ho hd (x := .ref l) rfl ?_)
  show wpAny _ _ (if (Value.ref l == Value.none) = true then _ else _) _ _ s
  rw [if_neg (show ¬ ((Value.ref l == Value.none) = true) from Bool.false_ne_true)]
  show wpAny _ _ (field (.ref it) 1 >>= _) _ _ s
  refine wpAny_bind (wpAny_field ho hd (x := .int i 0) rfl ?_)
  show wpAny _ _ (seqItems? (.ref l) >>= _) _ _ s
  refine wpAny_bind (wpAny_seqItems hol hdl ?_)
  simp only [Int.toNat_natCast, hx]
  refine wpAny_bind (wpAny_rule (wpAny_bind (wpAny_setField ho hd (by simp) ?_)))
  show wpAny _ _ (newExc (.type "StopIteration") [] >>= _) _ _ _
  refine wpAny_bind ?_
  simp only [newExc, newTuple]
  refine wpAny_bind (wpAny_newObj_type ?_ (by size_fits))
  refine wpAny_bind (m := firstArgMember _ _) (wpAny_of_eq (a := Value.none) (by first | rfl | (simp only [firstArgMember]; rfl)) ?_)
  refine wpAny_newObj_type ?_ (by size_fits)
  simp only [raiseNew]
  refine wpAny_bind (wpAny_handled ?_)
  rw [show A.in1.handled = none from hh]
  refine wpAny_bind (wpAny_pure (wpAny_throw ?_))
  refine wpAny_bind (wpAny_isInstance (T := "StopIteration") (b := true) ⟨_, Heap.get?_push_size _ rfl, rfl⟩ isSubtype_stop ?_)
  have nf : (Obj.mapFields (fun x => x.setIfInBounds 0 Value.none) o).isFreed = false := by
    obtain ⟨oc, od, dt, sl⟩ := o
    simp only at hc hd
    subst hc hd
    rfl
  refine wpAny_pure (hQ _ ⟨_, Heap.get?_push_of_some _ (Heap.get?_push_of_some _ (Heap.get?_update_self _ ho nf))⟩ fun b o hb e => Heap.get?_push_of_some _ (Heap.get?_push_of_some _ ?_))
  exact (Heap.get?_update_other _ _ (Ne.symm hb)).trans e
/-- the loop that fills the list at q from the iterator at it -/
theorem it_loop {zs : List V} {Rs : Result → Shared → Prop} (hh : A.in1.handled = none) (hz : zs.length < 100000) (hlq : l ≠ q) (hli : l ≠ it) (hiq : it ≠ q)
    (hdone : ∀ H' s', Inv X pins σ H' s' → (∀ b o, b ≠ it → b ≠ q → H b = some o → H' b = some o) → H' q = some (.lst zs) → Rs (.ok (.ret .none)) s') :
    ∀ (m i : Nat) (H' : Hp) (s : Shared), zs.length - i = m → i ≤ zs.length → Inv X pins σ H' s → (∀ b o, b ≠ it → b ≠ q → H b = some o → H' b = some o) → SqL X.K H' l zs → H' it = some (ItS l it i) → H' q = some (.lst (zs.take i)) →
      codeAny (model X.prog X.w) A (.builtin "list.extend.loop" ⟨[.ref q, .ref it, .none], []⟩) Rs s := by
  intro m
  induction m with
  | zero =>
    intro i H' s hm hi I hk hl hI hq
    have ei : i = zs.length := by omega
    refine codeAny_builtin PySem.F.entry_extend_loop ?_
    rw [Around.under_plainId PySem.F.plain_extend_loop _]
    show wpAny _ A.in1 (pyNext (.ref it) >>= _) _ _ s
    obtain ⟨its, rv, pl, _⟩ := I.list hl
    refine wpAny_bind (endit hh (itS_get I hI) pl.isList (by rw [List.getElem?_toArray]; exact List.getElem?_eq_none (by rw [← rv.length]; omega)) fun h' he hk' => ?_)
    refine wpAny_pure ?_
    obtain ⟨oe, heo⟩ := he
    have mu : Mut (H' it) := by rw [hI]; exact True.intro
    have ok2 : ObjOk X.prog X.w (upd H' it (.ext fun h => ∃ o, h.get? it = some o)) h' it (.ext fun h => ∃ o, h.get? it = some o) := ⟨⟨oe, heo⟩, ⟨oe, heo⟩, fun h1 h2 ⟨o, x⟩ k => ⟨o, k _ x⟩⟩
    have I2 := I.write (x := it) (e := it) (t' := s.toks) mu (.inl rfl) (fun b u hb e => hk' b u hb e) ⟨oe, heo⟩ ok2
    refine hdone _ _ I2 (fun b o h1 h2 e => by rw [upd_ne h1]; exact hk b o h1 h2 e) ?_
    rw [upd_ne (Ne.symm hiq), hq, ei, List.take_length]
  | succ m ih =>
    intro i H' s hm hi I hk hl hI hq
    have hlt : i < zs.length := by omega
    refine codeAny_builtin PySem.F.entry_extend_loop ?_
    rw [Around.under_plainId PySem.F.plain_extend_loop _]
    show wpAny _ A.in1 (pyNext (.ref it) >>= _) _ _ s
    obtain ⟨its, rv, pl, _⟩ := I.list hl
    obtain ⟨u, hu, ru⟩ := rv.get (List.getElem?_eq_getElem hlt)
    refine wpAny_bind (wpAny_pyNext_list_item (itS_get I hI) pl.isList (x := u) (by rw [List.getElem?_toArray]; exact hu) fun h' st sb => ?_)
    have mu : Mut (H' it) := by rw [hI]; exact True.intro
    obtain ⟨oe, heo, hoe⟩ := id st
    have I2 := I.write (x := it) (e := it) (t' := s.toks) mu (.inl rfl) (fun b o hb e => (sb.2 b hb).trans e) ⟨oe, heo⟩ (itS_ok (H := upd H' it (ItS l it (i + 1))) (P := X.prog) (w := X.w) st)
    have hq2 : upd H' it (ItS l it (i + 1)) q = some (.lst (zs.take i)) := by rw [upd_ne (Ne.symm hiq)]; exact hq
    show wpAny _ A.in1 (updateSeq q (·.push u) >>= _) _ _ _
    obtain ⟨z, its2, k2, r2, hl2, e2⟩ := I2.lstM hq2
    have hz2 : its2.length = i := by rw [← hl2, List.length_take]; omega
    refine wpAny_bind (wpAny_updateSeq e2 rfl (wpAny_pure ⟨plainId_quiet PySem.F.plain_extend_loop _, ?_⟩) (by rw [List.size_toArray, hz2]; exact Nat.le_trans (Nat.le_of_lt hlt) (szl (by omega))) (by show (its2.toArray.push u).size ≤ sizeLine + 1; rw [Array.size_push, List.size_toArray, hz2]; exact Nat.succ_le_succ (szl (by omega))))
    have I3 := I2.lset (f := (·.push u)) (its' := its2 ++ [u]) (ys := zs.take i ++ [zs[i]]) (t' := s.toks) hq2 e2 (by simp) (r2.append (.cons ru .nil)) (by rw [List.length_append, List.length_take]; exact szl (by show _ + 1 ≤ _; omega))
    refine ih (i + 1) _ _ (by omega) hlt I3 (fun b o h1 h2 e => by rw [upd_ne h2, upd_ne h1]; exact hk b o h1 h2 e) ?_ ?_ ?_
    · have e1 : upd (upd H' it (ItS l it (i + 1))) q (.lst (zs.take i ++ [zs[i]])) l = H' l := by rw [upd_ne hlq, upd_ne hli]
      unfold SqL Rd at hl ⊢
      simp only [e1]
      exact hl
    · rw [upd_ne hiq]; exact upd_same
    · rw [List.take_append_getElem]; exact upd_same
/-- list(o) -/
def rListOwn (K : PySem.W.Frag) (C : Addr) (spI spL : Sp) : List V → Hp → VK → Prop := fun xs H Q => ∃ a dx fs, xs = [.ref a] ∧ H a = some (.ins C dx fs) ∧ ∀ q, H q = none →
  spI [.ref a] (upd H q (.lst [])) (fun v H1 => ∃ it l zs, v = .ref it ∧ H1 it = some (ItO l it 0) ∧ SqL K H1 l zs ∧ zs.length < 100000 ∧ l ≠ q ∧ l ≠ it ∧ it ≠ q ∧ H1 q = some (.lst []) ∧ H1 a = some (.ins C dx fs) ∧
    spL [.ref a] H1 (fun v2 H2 => ∃ k : Int, v2 = .int k ∧ 0 ≤ k ∧ k < 100000 ∧ H2 = H1 ∧ ∀ H3, (∀ b o, b ≠ it → b ≠ q → H1 b = some o → H3 b = some o) → H3 q = some (.lst zs) → Q (.ref q) H3) E0) E0
theorem call_listIt {spI spL : Sp} (SI : Spc X.prog X.w X.K X.mg X.base n C "__iter__" spI) (SL : Spc X.prog X.w X.K X.mg X.base n C "__len__" spL) (hr : Room (n + 3) X.A) : CallR X (.type "list") (rListOwn X.K C spI spL) := by
  obtain ⟨fI, fdI, psI, hsI, hfI, FI, bI⟩ := SI.ex
  obtain ⟨fL, fdL, psL, hsL, hfL, FL, bL⟩ := SL.ex
  intro pins s σ H xs us Q I rv h
  obtain ⟨a, dx, fs, rfl, ha, h⟩ := h
  obtain ⟨u, rfl, ru⟩ := rv.one
  cases ru
  have sb : Sub X (n + 1) X.A.in1.in1 := Sub.in1 (Sub.in1 (⟨hr, rfl⟩ : Sub X (n + 3) X.A))
  refine callType_codes (Q₁ := fun obj s₁ => obj = .ref s.heap.objs.size ∧ s₁ = { s with heap := s.heap.push { cls := .type "list", data := .seq #[] } }) PySem.F.called_list (PySem.F.typeCall_list_1 _) PySem.F.entry_list_init
    (code_list_new _ ⟨rfl, rfl⟩) fun obj s₁ h₁ => ?_
  obtain ⟨rfl, rfl⟩ := h₁
  have hS : (s.heap.push { cls := .type "list", data := .seq #[] }).get? s.heap.objs.size = some { cls := .type "list", data := .seq #[] } := Heap.get?_push_size _ rfl
  refine ⟨⟨_, hS, rfl⟩, PySem.F.args_list_init_2 _ _, ?_⟩
  have fr : H s.heap.objs.size = none := I.hok.fresh (Nat.le_refl _)
  have h := h _ fr
  generalize hqe : s.heap.objs.size = q at *
  have I1 : Inv X pins σ (upd H q (.lst [])) { s with heap := s.heap.push { cls := .type "list", data := .seq #[] } } := by
    have z := I.lnew (its := []) (ys := []) (t' := s.toks) .nil (Nat.zero_le _)
    rw [hqe] at z
    exact z
  show wpAny _ _ (do let old ← Builtin.List.listItems (.ref q); Builtin.List.listUpdate (.ref q) (fun _ => #[]); letGo old.toList.reverse; Builtin.List.listExtendWith (.ref q) (.ref a) .none) _ _ _
  refine wpAny_bind ?_
  unfold Builtin.List.listItems
  refine wpAny_bind (wpAny_seqItems hS rfl (wpAny_pure ?_))
  show wpAny _ _ (updateSeq q (fun _ => #[]) >>= fun _ => letGo (#[] : Array Value).toList.reverse >>= fun _ => Builtin.List.listExtendWith (.ref q) (.ref a) .none) _ _ _
  refine wpAny_bind (wpAny_updateSeq hS rfl ?_)
  have I2 := I1.lset (f := fun _ => #[]) (its := []) (its' := []) (ys := []) (t' := s.toks) upd_same hS rfl .nil (Nat.zero_le _)
  rw [upd_upd] at I2
  refine wpAny_bind (wpAny_letGo ?_)
  have ha2 : upd H q (.lst []) a = some (.ins C dx fs) := by rw [upd_ne (ne_of_none ha fr)]; exact ha
  have hne : q ≠ a := ne_of (H := upd H q (.lst [])) upd_same ha2 (fun z => nomatch z)
  obtain ⟨od, J⟩ := inst_of I2 ha2
  obtain ⟨m0, hF⟩ := I2.fr
  show wpAny _ X.A.in1.in1 (Builtin.List.listExtendWith (.ref q) (.ref a) .none) _ _ _
  unfold Builtin.List.listExtendWith
  refine wpAny_bind (J.type.here ?_)
  have h1 : Builtin.List.listSameRef (.ref q) (.ref a) = false := by simp [Builtin.List.listSameRef, hne]
  have h2 : (Value.ref C == Value.type "list") = false := rfl
  have h3 : (Value.ref C == Value.type "tuple") = false := rfl
  simp only [h1, h2, h3, Bool.or_false, Bool.false_eq_true, if_false]
  refine wpAny_bind (PySem.W.owit_iter hF I2.ok.mod.kin J hsI hfI ?_)
  refine wpAny_mono (run_at (us := [.ref a]) (vs := [.ref a]) (sb.mono (Nat.le_succ _)) FI bI I2 (.cons rfl .nil) h) (fun u s' hu => ?_) (fun _ _ e => e)
  obtain ⟨v, H1, I3, rv3, it, l, zs, rfl, hit, hlz, hz, n1, n2, n3, hq1, ha3, hL⟩ := hu
  cases rv3
  have ito := itO_get I3 hit
  have hT : s'.TypeIs (.ref it) "list_iterator" := ⟨_, ito, rfl⟩
  unfold PySem.W.OwitIt
  show wpAny _ _ (typeOf (.ref it) >>= fun t => typeLookup t "__next__") _ _ _
  refine wpAny_bind (wpAny_typeOf hT (wpAny_of_eq slot_listiter_next.lookup ?_))
  show wpAny _ _ _ _ _ _
  obtain ⟨od', J'⟩ := inst_of I3 ha3
  obtain ⟨m1, hF'⟩ := I3.fr
  refine wpAny_bind (wpAny_holding ?_)
  unfold Builtin.List.listLengthHint
  refine wpAny_bind (wpAny_bind (J'.type.here ((PySem.W.looks_findIn I3.kIn hsL).here ?_)))
  refine PySem.W.KFB.if_not rfl ?_
  refine PySem.W.KFB.if_so rfl ?_
  refine wpAny_bind (wpAny_rule (wpAny_bind (wpAny_attempt ?_)))
  refine PySem.W.len_K hF' I3.ok.mod.kin J' hsL hfL ?_
  refine wpAny_mono (run_at (E' := fun _ _ => False) (us := [.ref a]) (vs := [.ref a]) sb.in1 FL bL I3 (.cons rfl .nil) hL) (fun u s2 hu => ?_) fun _ _ e => e.elim
  obtain ⟨v2, H2, I4, rv4, k, rfl, k0, k1, e2, hend⟩ := hu
  obtain ⟨tk, rfl⟩ := rv4
  subst e2
  refine ⟨⟨k0, by omega⟩, ?_⟩
  have I5 := I4.tok (s2.toks + 1)
  refine wpAny_bind (wpAny_of_eq (a := some k) rfl ?_)
  refine PySem.W.KFB.if_not (notLongL (szl (by omega))) ?_
  refine wpAny_pure ?_
  have st := itS_ok (H := upd H2 it (ItS l it 0)) (P := X.prog) (w := X.w) (i := 0) (⟨_, itO_get I5 hit, rfl, rfl⟩ : Heap.IsListIter _ it l 0)
  have mu : Mut (H2 it) := by rw [hit]; exact True.intro
  have I6 := I5.write (x := it) (e := it) (t' := s2.toks + 1) mu (.inl rfl) (fun _ _ _ e => e) ⟨_, itO_get I5 hit⟩ st
  have fin : ∀ (t' : Nat) (s3 : Shared), Inv X pins σ (upd H2 it (ItS l it 0)) s3 → codeAny (model X.prog X.w) X.A.in1 (.builtin "list.extend.loop" ⟨[.ref q, .ref it, .none], []⟩) (wants (fun r s₂ => r = .none ∧ EP X pins σ Q (.ref q) s₂) X.xe) s3 := fun t' s3 I7 => by
    have kk : ∀ b o, b ≠ it → b ≠ q → H2 b = some o → upd H2 it (ItS l it 0) b = some o := fun b o h1 _ e => by rw [upd_ne h1]; exact e
    refine it_loop (A := X.A.in1) (H := H2) (zs := zs) (hr.hd) hz n1 n2 n3 (fun H3 s4 I8 hk3 hq3 => ⟨rfl, .ref q, H3, I8, rfl, hend H3 hk3 hq3⟩) zs.length 0 _ s3 rfl (Nat.zero_le _) I7 kk ?_ upd_same ?_
    · have e1 : upd H2 it (ItS l it 0) l = H2 l := upd_ne n2
      unfold SqL Rd at hlz ⊢
      simp only [e1]
      exact hlz
    · rw [upd_ne (Ne.symm n3)]; exact hq1
  refine wpAny_ite_split (fun _ => ?_) (fun _ => wpAny_pure ⟨plainId_quiet PySem.F.plain_extend_loop _, fin 0 _ I6⟩)
  have hq6 : upd H2 it (ItS l it 0) q = some (.lst []) := by rw [upd_ne (Ne.symm n3)]; exact hq1
  obtain ⟨z, its, k3, r3, hl3, e3⟩ := I6.lstM hq6
  cases r3
  refine wpAny_bind (wpAny_rule ?_)
  refine wpAny_bind ?_
  show wpAny _ _ (updateSeq q (·.push .none) >>= fun _ => updateSeq q (·.pop)) _ _ _
  refine wpAny_bind (wpAny_updateSeq e3 rfl ?_)
  have I7 := I6.lset (f := (·.push Value.none)) (its' := [Value.none]) (ys := [.non]) (t' := s2.toks + 1) hq6 e3 (by simp) (.cons rfl .nil) (by rw [List.length_singleton, sizeLine_eq]; decide)
  obtain ⟨z4, its4, k4, r4, hl4, e4⟩ := I7.lstM upd_same
  obtain ⟨u4, rfl, ru4⟩ := r4.one
  refine wpAny_updateSeq e4 rfl ?_ (by show 1 ≤ sizeLine; rw [sizeLine_eq]; decide) (by show 0 ≤ sizeLine + 1; exact Nat.zero_le _)
  refine wpAny_pure ⟨plainId_quiet PySem.F.plain_extend_loop _, fin 0 _ ?_⟩
  have I8 := I7.lset (f := (·.pop)) (its := [u4]) (its' := []) (ys := []) (t' := s2.toks + 1) upd_same e4 (by rfl) .nil (Nat.zero_le _)
  rw [upd_upd] at I8
  have hH : upd (upd H2 it (ItS l it 0)) q (.lst []) = upd H2 it (ItS l it 0) := by
    funext b
    by_cases hb : b = q
    · rw [hb, upd_same, hq6]
    · rw [upd_ne hb]
  rw [hH] at I8
  exact I8
end
end RM
namespace RM
open PySem PySem.Spec PyProof.Rows L2
/-! ### attributes, properties, class values: readings that ask nothing of the written part -/
section
variable {X : Cx} {C : Addr} {o e value : Expr} {f : Str} {pos pos' : Pos} {ta tv : TE}
theorem pe_imp {t t' : TE} (h : PE X e t) (k : ∀ σ H Q, t' σ H Q → t σ H Q) : PE X e t' := ⟨fun pins s σ H Q I q => h.run pins s σ H Q I (k σ H Q q)⟩
def tFldC (C : Addr) (ta : TE) (f : Str) : TE := fun σ H Q => ta σ H fun x H1 => ∃ a dx fs v, x = .ref a ∧ H1 a = some (.ins C dx fs) ∧ fs.lookup f = some v ∧ Q v H1
def sFldC (C : Addr) (ta tv : TE) (f : Str) : TS := fun D σ H => tv σ H fun y H1 => ta σ H1 fun x H2 => ∃ a dx fs, x = .ref a ∧ H2 a = some (.ins C dx fs) ∧ fs.length < 1000 ∧ D.nx σ (upd H2 a (.ins C dx (putF f y fs)))
theorem pe_fldC (c : Cls X.K C) (n : NoAttr X.K C f) (he : PE X e ta) (hb : attributeBase e f X.env (eval e X.env) = eval e X.env := by rfl) : PE X (.Attribute e f pos) (tFldC C ta f) := by
  refine ⟨fun pins s σ H Q I h => ?_⟩
  refine attr_of hb (thn (he.run pins s σ H _ I h) fun u s1 hu => ?_)
  obtain ⟨x, H1, I1, rx, a, dx, fs, v, ex, ea, l, q⟩ := hu
  subst ex
  obtain rfl : u = Value.ref a := rx
  exact getattr_ok I1 ea c n l fun u' s2 I2 ru => ⟨v, H1, I2, ru, q⟩
theorem ps_fldC (c : Cls X.K C) (n : NoAttr X.K C f) (ha : PE X o ta) (hv : PE X value tv) (hs : swapsWith value (some (.Attribute o f pos')) pos.line X.env = pure false := by rfl) : PS X (.Assign [.Attribute o f pos'] value pos) (sFldC C ta tv f) := by
  refine ⟨fun pins s σ H D I h => ?_⟩
  refine plainObj_wpAny_Assign_Attribute (thn (hv.run pins s σ H _ I h) fun u s1 hu => ?_) hs
  obtain ⟨y, H1, I1, ry, q⟩ := hu
  refine thn (ha.run pins s1 σ H1 _ I1 q) fun ov s2 ho => ?_
  obtain ⟨x, H2, I2, rx, a, dx, fs, ex, ea, l, q2⟩ := ho
  subst ex
  obtain rfl : ov = Value.ref a := rx
  exact setattr_ok I2 ea c n l ry fun s3 I3 => ⟨σ, _, I3, q2⟩
/-- a class's name as a value; an int that stands in the class -/
theorem pe_clsv {x : Str} (hg : Gl X x) (hm : X.mg x = some (.ref C)) (hd : (x == ("__debug__" : Str)) = false := by decide) : PE X (.Name x pos) (tC (.ref C)) := pe_glob hg hm rfl hd
theorem pe_cint {x : Str} {i : Int} {p : Pos} (hg : Gl X x) (hm : X.mg x = some (.ref C)) (r : ClX.CRead X.K C (.type "type")) (k : ∃ u, ClX.CVal X.K C (.type "type") f (.int i) u) (hd : (x == ("__debug__" : Str)) = false := by decide)
    (hb : attributeBase (.Name x p) f X.env (eval (.Name x p) X.env) = eval (.Name x p) X.env := by rfl) : PE X (.Attribute (.Name x p) f pos) (tC (.int i)) :=
  pe_imp (ClX.pe_cval (pe_clsv hg hm hd) hb) fun σ H Q q => by
    obtain ⟨u, k⟩ := k
    exact ⟨C, .type "type", .int i, u, rfl, r, k, q⟩
/-- a property of the class, read -/
structure Prp (P : Program) (w : World) (K : PySem.W.Frag) (mg : Str → Option Value) (base : Heap) (k : Nat) (C : Addr) (f : Str) (sp : Sp) : Prop where
  ex : ∃ (p g : Addr) (fd : FuncData) (ps : List Str), PropOf K C f p g ∧ FnOk P w K mg base CX0 k g fd ps sp ∧ Binds K fd ps []
theorem pe_prp {k j : Nat} {sp : Sp} (c : Cls X.K C) (p : Prp X.prog X.w X.K X.mg X.base k C f sp) (hr : Room j X.A) (hk : k + 1 ≤ j) (he : PE X e ta) (hab : attributeBase e f X.env (eval e X.env) = eval e X.env := by rfl) :
    PE X (.Attribute e f pos) (tProp C sp [] E0 ta) := by
  obtain ⟨pa, g, fd, ps, hp, F, hb⟩ := p.ex
  exact pe_prop he c hp F (hr.mono hk) hb .nil (fun _ _ _ _ _ _ _ h => h.elim) hab
end
/-! ### isinstance against built-in types and one own class -/
section
variable {X : Cx} {K : PySem.W.Frag} {H : Hp} {Q : VK}
def rIsC (C : Addr) : List V → Hp → VK → Prop := fun xs H Q => ∃ a dx fs, xs = [.ref a, .ref C] ∧ H a = some (.ins C dx fs) ∧ Q (.bl true) H
theorem callIsC {C : Addr} (c : C8.InsC X.K C) : CallR X (.builtin "isinstance") (rIsC C) := C8.call_isC c
theorem isi_of {x : V} {a b : String} {r : Bool} (ty : TyOf K H x (.type a)) (h : kitB a b = some r) (q : Q (.bl r) H) : rIsi K [x, .ty b] H Q := wp_isi (.base ty) (kit_ty h) q
theorem is_non_int (q : Q (.bl false) H) : rIsi K [.non, .ty "int"] H Q := isi_of (.non) (by decide +kernel) q
theorem is_non_bool (q : Q (.bl false) H) : rIsi K [.non, .ty "bool"] H Q := isi_of (.non) (by decide +kernel) q
theorem is_non_str (q : Q (.bl false) H) : rIsi K [.non, .ty "str"] H Q := isi_of (.non) (by decide +kernel) q
theorem is_non_dict (q : Q (.bl false) H) : rIsi K [.non, .ty "dict"] H Q := isi_of (.non) (by decide +kernel) q
theorem is_non_list (q : Q (.bl false) H) : rIsi K [.non, .ty "list"] H Q := isi_of (.non) (by decide +kernel) q
theorem is_non_tuple (q : Q (.bl false) H) : rIsi K [.non, .ty "tuple"] H Q := isi_of (.non) (by decide +kernel) q
theorem is_bl_int {b : Bool} (q : Q (.bl true) H) : rIsi K [.bl b, .ty "int"] H Q := isi_of (.bl b) (by decide +kernel) q
theorem is_bl_bool {b : Bool} (q : Q (.bl true) H) : rIsi K [.bl b, .ty "bool"] H Q := isi_of (.bl b) (by decide +kernel) q
theorem is_bl_str {b : Bool} (q : Q (.bl false) H) : rIsi K [.bl b, .ty "str"] H Q := isi_of (.bl b) (by decide +kernel) q
theorem is_bl_dict {b : Bool} (q : Q (.bl false) H) : rIsi K [.bl b, .ty "dict"] H Q := isi_of (.bl b) (by decide +kernel) q
theorem is_bl_list {b : Bool} (q : Q (.bl false) H) : rIsi K [.bl b, .ty "list"] H Q := isi_of (.bl b) (by decide +kernel) q
theorem is_bl_tuple {b : Bool} (q : Q (.bl false) H) : rIsi K [.bl b, .ty "tuple"] H Q := isi_of (.bl b) (by decide +kernel) q
theorem is_int_int {i : Int} (q : Q (.bl true) H) : rIsi K [.int i, .ty "int"] H Q := isi_of (.int i) (by decide +kernel) q
theorem is_int_bool {i : Int} (q : Q (.bl false) H) : rIsi K [.int i, .ty "bool"] H Q := isi_of (.int i) (by decide +kernel) q
theorem is_int_str {i : Int} (q : Q (.bl false) H) : rIsi K [.int i, .ty "str"] H Q := isi_of (.int i) (by decide +kernel) q
theorem is_int_dict {i : Int} (q : Q (.bl false) H) : rIsi K [.int i, .ty "dict"] H Q := isi_of (.int i) (by decide +kernel) q
theorem is_int_list {i : Int} (q : Q (.bl false) H) : rIsi K [.int i, .ty "list"] H Q := isi_of (.int i) (by decide +kernel) q
theorem is_int_tuple {i : Int} (q : Q (.bl false) H) : rIsi K [.int i, .ty "tuple"] H Q := isi_of (.int i) (by decide +kernel) q
theorem is_str_int {z : Str} (q : Q (.bl false) H) : rIsi K [.str z, .ty "int"] H Q := isi_of (.str z) (by decide +kernel) q
theorem is_str_bool {z : Str} (q : Q (.bl false) H) : rIsi K [.str z, .ty "bool"] H Q := isi_of (.str z) (by decide +kernel) q
theorem is_str_str {z : Str} (q : Q (.bl true) H) : rIsi K [.str z, .ty "str"] H Q := isi_of (.str z) (by decide +kernel) q
theorem is_str_dict {z : Str} (q : Q (.bl false) H) : rIsi K [.str z, .ty "dict"] H Q := isi_of (.str z) (by decide +kernel) q
theorem is_str_list {z : Str} (q : Q (.bl false) H) : rIsi K [.str z, .ty "list"] H Q := isi_of (.str z) (by decide +kernel) q
theorem is_str_tuple {z : Str} (q : Q (.bl false) H) : rIsi K [.str z, .ty "tuple"] H Q := isi_of (.str z) (by decide +kernel) q
theorem is_lst_int {a : Addr} {xs : List V} (e : H a = some (.lst xs)) (q : Q (.bl false) H) : rIsi K [.ref a, .ty "int"] H Q := isi_of (.lst e) (by decide +kernel) q
theorem is_lst_bool {a : Addr} {xs : List V} (e : H a = some (.lst xs)) (q : Q (.bl false) H) : rIsi K [.ref a, .ty "bool"] H Q := isi_of (.lst e) (by decide +kernel) q
theorem is_lst_str {a : Addr} {xs : List V} (e : H a = some (.lst xs)) (q : Q (.bl false) H) : rIsi K [.ref a, .ty "str"] H Q := isi_of (.lst e) (by decide +kernel) q
theorem is_lst_dict {a : Addr} {xs : List V} (e : H a = some (.lst xs)) (q : Q (.bl false) H) : rIsi K [.ref a, .ty "dict"] H Q := isi_of (.lst e) (by decide +kernel) q
theorem is_lst_list {a : Addr} {xs : List V} (e : H a = some (.lst xs)) (q : Q (.bl true) H) : rIsi K [.ref a, .ty "list"] H Q := isi_of (.lst e) (by decide +kernel) q
theorem is_lst_tuple {a : Addr} {xs : List V} (e : H a = some (.lst xs)) (q : Q (.bl false) H) : rIsi K [.ref a, .ty "tuple"] H Q := isi_of (.lst e) (by decide +kernel) q
theorem is_tup_int {a : Addr} {xs : List V} (e : H a = some (.tup xs)) (q : Q (.bl false) H) : rIsi K [.ref a, .ty "int"] H Q := isi_of (.tup e) (by decide +kernel) q
theorem is_tup_bool {a : Addr} {xs : List V} (e : H a = some (.tup xs)) (q : Q (.bl false) H) : rIsi K [.ref a, .ty "bool"] H Q := isi_of (.tup e) (by decide +kernel) q
theorem is_tup_str {a : Addr} {xs : List V} (e : H a = some (.tup xs)) (q : Q (.bl false) H) : rIsi K [.ref a, .ty "str"] H Q := isi_of (.tup e) (by decide +kernel) q
theorem is_tup_dict {a : Addr} {xs : List V} (e : H a = some (.tup xs)) (q : Q (.bl false) H) : rIsi K [.ref a, .ty "dict"] H Q := isi_of (.tup e) (by decide +kernel) q
theorem is_tup_list {a : Addr} {xs : List V} (e : H a = some (.tup xs)) (q : Q (.bl false) H) : rIsi K [.ref a, .ty "list"] H Q := isi_of (.tup e) (by decide +kernel) q
theorem is_tup_tuple {a : Addr} {xs : List V} (e : H a = some (.tup xs)) (q : Q (.bl true) H) : rIsi K [.ref a, .ty "tuple"] H Q := isi_of (.tup e) (by decide +kernel) q
theorem is_dK_int {a : Addr} {kvs : List (Key × V)} (e : H a = some (.dK kvs)) (q : Q (.bl false) H) : rIsi K [.ref a, .ty "int"] H Q := isi_of (.dK e) (by decide +kernel) q
theorem is_dK_bool {a : Addr} {kvs : List (Key × V)} (e : H a = some (.dK kvs)) (q : Q (.bl false) H) : rIsi K [.ref a, .ty "bool"] H Q := isi_of (.dK e) (by decide +kernel) q
theorem is_dK_str {a : Addr} {kvs : List (Key × V)} (e : H a = some (.dK kvs)) (q : Q (.bl false) H) : rIsi K [.ref a, .ty "str"] H Q := isi_of (.dK e) (by decide +kernel) q
theorem is_dK_dict {a : Addr} {kvs : List (Key × V)} (e : H a = some (.dK kvs)) (q : Q (.bl true) H) : rIsi K [.ref a, .ty "dict"] H Q := isi_of (.dK e) (by decide +kernel) q
theorem is_dK_list {a : Addr} {kvs : List (Key × V)} (e : H a = some (.dK kvs)) (q : Q (.bl false) H) : rIsi K [.ref a, .ty "list"] H Q := isi_of (.dK e) (by decide +kernel) q
theorem is_dK_tuple {a : Addr} {kvs : List (Key × V)} (e : H a = some (.dK kvs)) (q : Q (.bl false) H) : rIsi K [.ref a, .ty "tuple"] H Q := isi_of (.dK e) (by decide +kernel) q
end
/-! ### what the head tells, by Bools -/
section
open PySem.W
def gAd (K : Frag) (C : Addr) (f : Str) : Addr := match recIn K (He.ma K C f) "property" with
  | some (.ref g :: _) => g
  | _ => 0
def bProp (x f : Str) (K : Frag) : Bool :=
  He.eqO (findIn K (.ref (He.ga K x)) f) (some (some (.ref (He.ma K (He.ga K x) f)))) && (He.eqO (specialIn K (.ref (He.ma K (He.ga K x) f)) "__get__") (some (some (.builtin "property.__get__"))) &&
    (decide (takesIn K (.ref (He.ma K (He.ga K x) f)) = some true) && (match recIn K (He.ma K (He.ga K x) f) "property" with
      | some (.ref _ :: _) => true
      | _ => false)))
theorem bProp_ok {x f : Str} {K : Frag} (h : bProp x f K = true) : PropOf K (He.ga K x) f (He.ma K (He.ga K x) f) (gAd K (He.ga K x) f) := by
  obtain ⟨h1, h⟩ := He.ba h
  obtain ⟨h2, h⟩ := He.ba h
  obtain ⟨h3, h4⟩ := He.ba h
  refine ⟨He.eqO_ok h1, He.eqO_ok h2, of_decide_eq_true h3, ?_⟩
  unfold gAd
  cases e : recIn K (He.ma K (He.ga K x) f) "property" with
  | none => rw [e] at h4; cases h4
  | some l =>
    rw [e] at h4
    cases l with
    | nil => cases h4
    | cons v r =>
      cases v with
      | ref g => exact ⟨r, rfl⟩
      | _ => cases h4
def bRead (x : Str) (K : Frag) : Bool := readsIn K (He.ga K x) (.type "type") && He.eqO (specialIn K (.ref (He.ga K x)) "__getattribute__") (some (some (.builtin "type.__getattribute__")))
theorem bRead_ok {x : Str} {K : Frag} (h : bRead x K = true) : ClX.CRead K (He.ga K x) (.type "type") := by
  obtain ⟨h1, h2⟩ := He.ba h
  exact ⟨h1, He.eqO_ok h2⟩
def bCval (x f : Str) (i : Int) (K : Frag) : Bool := match findCls K (.ref (He.ga K x)) (.type "type") f with
  | some (.val (.int j _)) => decide (j = i)
  | _ => false
theorem bCval_ok {x f : Str} {i : Int} {K : Frag} (h : bCval x f i K = true) : ∃ u, ClX.CVal K (He.ga K x) (.type "type") f (.int i) u := by
  unfold bCval at h
  cases e : findCls K (.ref (He.ga K x)) (.type "type") f with
  | none => rw [e] at h; cases h
  | some c =>
    rw [e] at h
    cases c with
    | val u =>
      cases u with
      | int j t =>
        have ej : j = i := of_decide_eq_true h
        subst ej
        exact ⟨_, e, ⟨t, rfl⟩⟩
      | _ => cases h
    | _ => cases h
def bIns (x : Str) (K : Frag) : Bool := He.eqO (findIn K (.ref (He.ga K x)) "__class__") (some (some (.builtin "object.__class__"))) && (He.eqO (specialIn K (.builtin "object.__class__") "__get__") (some (some (.builtin "getset_descriptor.__get__"))) &&
  (decide (takesIn K (.builtin "object.__class__") = some true) && decide (mroIn K (He.ga K x) (.type "object") = some true)))
theorem bIns_ok {x : Str} {K : Frag} (c : Cls K (He.ga K x)) (h : bIns x K = true) : C8.InsC K (He.ga K x) := by
  obtain ⟨h1, h⟩ := He.ba h
  obtain ⟨h2, h⟩ := He.ba h
  obtain ⟨h3, h4⟩ := He.ba h
  exact ⟨c, He.eqO_ok h1, He.eqO_ok h2, of_decide_eq_true h3, of_decide_eq_true h4, by unfold kitOne; rw [if_pos (by simp)]⟩
/-- a def of the text, by a way to its address -/
structure DX where
  at_ : Frag → Addr
  name : Str
  qual : Str
  params : Arguments
  body : List Stmt
  scope : Scope
  dfl : List He.Dv := []
  kwd : List (Str × He.Dv) := []
def fnX (K : Frag) (a : Addr) : He.FnW := match K.lookup a with
  | some ⟨_, _, .func fd, _⟩ => some (fd.name, fd.qualname, fd.params, fd.body, fd.scope, fd.globals, fd.closure, fd.builtins)
  | _ => none
def DX.val (d : DX) : He.FnW := some (d.name, d.qual, d.params, .stmts d.body, d.scope, mainGlobals, [], builtinsNs)
def DX.ok (K : Frag) (d : DX) : Bool := keepIn K (.ref (d.at_ K)) && (match K.lookup (d.at_ K) with
  | some ⟨_, _, .func fd, _⟩ => codeIn K fd.code d.qual && (He.dflB K fd.defaults (d.dfl.map (He.Dv.v K)) && He.kwdB K fd.kwdefaults (d.kwd.map fun q => (q.1, q.2.v K)))
  | _ => false)
theorem DX.funD {K : Frag} {d : DX} (e : fnX K (d.at_ K) = d.val) (c : d.ok K = true) : ∃ fd, FunD K d.name d.qual d.params d.body d.scope (d.dfl.map (He.Dv.v K)) (d.kwd.map fun q => (q.1, q.2.v K)) (d.at_ K) fd := by
  obtain ⟨kp, c2⟩ := He.ba c
  unfold fnX at e
  split at e
  · rename_i oc od fd osl q
    rw [q] at c2
    obtain ⟨k1, k2⟩ := He.ba c2
    obtain ⟨k3, k4⟩ := He.ba k2
    obtain ⟨n1, n2, n3, n4, n5, n6, n7, n8, n9, n10, n11, n12, n13, n14, n15⟩ := fd
    unfold DX.val at e
    simp only [Option.some.injEq, Prod.mk.injEq] at e
    obtain ⟨h1, h2, h3, h4, h5, h6, h7, h8⟩ := e
    subst h1 h2 h3 h4 h5 h6 h7 h8
    exact ⟨_, ⟨oc, od, n8, n9, n10, n11, n12, n13, n14, osl, rfl, q, k1, He.dflB_ok k3, He.kwdB_ok k4⟩, kp⟩
  · cases e
abbrev AlX : Type := Bool × List He.FnW
def obsX (bs : List (Frag → Bool)) (fa : List He.Fa) (fn : List DX) (K : Frag) : AlX := ((bs.all fun b => b K) && ((fa.all fun f => f.ok K) && fn.all fun d => d.ok K), fn.map fun d => fnX K (d.at_ K))
def valX (fn : List DX) : AlX := (true, fn.map DX.val)
def SaysX (bs : List (Frag → Bool)) (fa : List He.Fa) (fn : List DX) (K : Frag) : Prop := obsX bs fa fn K = valX fn
def obsXG (n : Nat) (bs : List (Frag → Bool)) (fa : List He.Fa) (fn : List DX) (g : Addr → Option Obj) : AlX := obsX bs fa fn (He.frG g (cStatics :: He.asD g n))
def hookX (n : Nat) (bs : List (Frag → Bool)) (fa : List He.Fa) (fn : List DX) : Hook where
  α := AlX
  obs := fun s => obsXG n bs fa fn s.heap.get?
  val := fun _ => valX fn
  says := fun _ h => ∃ K : Frag, K.In h ∧ SaysX bs fa fn K
  of := fun _ _ e => ⟨_, He.frG_in, e⟩
  keeps := fun _ _ _ ⟨K, hK, c⟩ k => ⟨K, Frag.In.keeps hK k, c⟩
theorem obsXG_eq {n : Nat} {bs : List (Frag → Bool)} {fa : List He.Fa} {fn : List DX} {g : Addr → Option Obj} {s : Shared} (h : ∀ a, g a = s.heap.get? a) : obsXG n bs fa fn g = (hookX n bs fa fn).obs s := by
  have e : g = s.heap.get? := funext h
  rw [e] <;> rfl
variable {bs : List (Frag → Bool)} {fa : List He.Fa} {fn : List DX} {K : Frag}
theorem SaysX.b (c : SaysX bs fa fn K) (i : Nat) {f : Frag → Bool} (h : bs[i]? = some f := by rfl) : f K = true :=
  List.all_eq_true.mp (He.ba (show ((bs.all fun b => b K) && ((fa.all fun f => f.ok K) && fn.all fun d => d.ok K)) = true from congrArg (fun z : AlX => z.1) c)).1 f (List.mem_of_getElem? h)
theorem SaysX.fact (c : SaysX bs fa fn K) (i : Nat) {f : He.Fa} (h : fa[i]? = some f := by rfl) : f.ok K = true :=
  List.all_eq_true.mp (He.ba (He.ba (show ((bs.all fun b => b K) && ((fa.all fun f => f.ok K) && fn.all fun d => d.ok K)) = true from congrArg (fun z : AlX => z.1) c)).2).1 f (List.mem_of_getElem? h)
theorem SaysX.def_ (c : SaysX bs fa fn K) (i : Nat) {d : DX} (h : fn[i]? = some d := by rfl) : ∃ fd, FunD K d.name d.qual d.params d.body d.scope (d.dfl.map (He.Dv.v K)) (d.kwd.map fun q => (q.1, q.2.v K)) (d.at_ K) fd := by
  have c2 := (He.ba (He.ba (show ((bs.all fun b => b K) && ((fa.all fun f => f.ok K) && fn.all fun d => d.ok K)) = true from congrArg (fun z : AlX => z.1) c)).2).2
  have e : fn.map (fun d => fnX K (d.at_ K)) = fn.map DX.val := congrArg (fun z : AlX => z.2) c
  have e2 : (fn.map fun d => fnX K (d.at_ K))[i]? = (fn.map DX.val)[i]? := by rw [e]
  rw [List.getElem?_map, List.getElem?_map, h] at e2
  exact DX.funD (Option.some.inj e2) (List.all_eq_true.mp c2 d (List.mem_of_getElem? h))
end
end RM
namespace RM
open PySem PySem.Spec PyProof.Rows L2
/-! ### readings of classes, tuples, lists -/
section
variable {σ : L2.St} {H : Hp} {Q : VK} {v : V} {ta tb tc : TE} {tl : TA} {t u : TT} {D : Ends} {K : PySem.W.Frag} {sp : Sp} {E : XK} {QA : List V → Hp → Prop} {C : Addr} {f m : Str}
theorem wp_fldC (h : ta σ H fun x H1 => ∃ a dx fs v, x = .ref a ∧ H1 a = some (.ins C dx fs) ∧ fs.lookup f = some v ∧ Q v H1) : tFldC C ta f σ H Q := h
theorem fld_at {a dx : Addr} {fs : List (Str × V)} {R : V → Prop} (ha : H a = some (.ins C dx fs)) (hl : fs.lookup f = some v) (q : R v) : ∃ a' dx fs v, V.ref a = .ref a' ∧ H a' = some (.ins C dx fs) ∧ fs.lookup f = some v ∧ R v := ⟨a, dx, fs, v, rfl, ha, hl, q⟩
theorem wp_sfldC {v : TE} (h : v σ H fun y H1 => ta σ H1 fun x H2 => ∃ a dx fs, x = .ref a ∧ H2 a = some (.ins C dx fs) ∧ fs.length < 1000 ∧ D.nx σ (upd H2 a (.ins C dx (putF f y fs)))) : sFldC C ta v f D σ H := h
theorem sfld_at {a dx : Addr} {fs gs : List (Str × V)} {R : Hp → Prop} (ha : H a = some (.ins C dx fs)) (hl : fs.length < 1000) (e : putF f v fs = gs) (q : R (upd H a (.ins C dx gs))) : ∃ a' dx fs, V.ref a = .ref a' ∧ H a' = some (.ins C dx fs) ∧ fs.length < 1000 ∧ R (upd H a' (.ins C dx (putF f v fs))) := ⟨a, dx, fs, rfl, ha, hl, by rw [e]; exact q⟩
theorem wp_prop (h : ta σ H fun x H1 => ∃ a dx fs, x = .ref a ∧ H1 a = some (.ins C dx fs) ∧ sp [.ref a] H1 Q E) : tProp C sp [] E ta σ H Q := h
theorem own_at {a dx : Addr} {fs : List (Str × V)} {R : Addr → Prop} (ha : H a = some (.ins C dx fs)) (q : R a) : ∃ a' dx fs, V.ref a = .ref a' ∧ H a' = some (.ins C dx fs) ∧ R a' := ⟨a, dx, fs, rfl, ha, q⟩
def MetW (C : Addr) (m : Str) (sp : Sp) (E : XK) (t : TA) (σ : L2.St) (Q : VK) (x : V) (H1 : Hp) : Prop := ∃ a dx fs, x = .ref a ∧ H1 a = some (.ins C dx fs) ∧ fs.lookup m = none ∧ t σ H1 fun vs H2 => sp (x :: (vs ++ [])) H2 Q E
theorem wp_meth (h : ta σ H fun x H1 => MetW C m sp E tl σ Q x H1) : tMeth C m sp [] E ta tl σ H Q := h
theorem met_at {a dx : Addr} {fs : List (Str × V)} (ha : H a = some (.ins C dx fs)) (hl : fs.lookup m = none) (q : tl σ H fun vs H2 => sp (.ref a :: vs) H2 Q E) : MetW C m sp E tl σ Q (.ref a) H := ⟨a, dx, fs, rfl, ha, hl, by simpa only [List.append_nil] using q⟩
def MkW (C : Addr) (sp : Sp) (E : XK) (Q : VK) (vs : List V) (H1 : Hp) : Prop := ∀ x dx, H1 x = none → H1 dx = none → dx ≠ x → sp (.ref x :: vs) (upd (upd H1 dx (.own x)) x (.ins C dx [])) (fun v H2 => v = .non ∧ Q (.ref x) H2) E
theorem wp_make (h : tl σ H fun vs H1 => MkW C sp E Q vs H1) : tMake C sp [] E tl σ H Q := by
  show tl σ H fun vs H1 => ∀ x dx, H1 x = none → H1 dx = none → dx ≠ x → sp (.ref x :: (vs ++ [])) (upd (upd H1 dx (.own x)) x (.ins C dx [])) (fun v H2 => v = .non ∧ Q (.ref x) H2) E
  simp only [List.append_nil]
  exact h
theorem wp_gtup {n : Nat} {a : Addr} {xs : List V} {gs : TGs} {QS : L2.St → Hp → Prop} (hx : SqT K H a xs) (hn : xs.length = n) (h : gs xs σ H QS) : gTup K n gs (.ref a) σ H QS := ⟨a, xs, rfl, hx, hn, h⟩
theorem wp_gcons {g : TG} {gs : TGs} {r : List V} {QS : L2.St → Hp → Prop} (h : g v σ H fun σ' H' => gs r σ' H' QS) : gCons g gs (v :: r) σ H QS := ⟨v, r, rfl, h⟩
theorem wp_gnil {QS : L2.St → Hp → Prop} (h : QS σ H) : gNil [] σ H QS := ⟨rfl, h⟩
theorem wp_enum {g : TG} {tb : TS} (h : tl σ H fun vs H1 => ∃ a xs, vs = [.ref a] ∧ SqL K H1 a xs ∧ ForW (Ite K a) g tb D σ H1) : tFor (iEnum K tl) g tb D σ H := h
theorem loopE {g : TG} {tb : TS} {a : Addr} {xs : List V} (hx : SqL K H a xs) (Pv : Nat → L2.St → Hp → Prop) (h0 : Pv 0 σ H) (hl : ∀ i σ' H', i ≤ xs.length → Pv i σ' H' → SqL K H' a xs)
    (hs : ∀ i x T σ' H', xs[i]? = some x → Pv i σ' H' → H' T = none → g (.ref T) σ' (upd H' T (.tup [.int (i : Nat), x])) fun σ2 H2 => tb { D with nx := Pv (i + 1), ct := Pv (i + 1), bk := D.nx } σ2 H2) (hd : ∀ σ' H', Pv xs.length σ' H' → D.nx σ' H') :
    ∃ b ys, [V.ref a] = [.ref b] ∧ SqL K H b ys ∧ ForW (Ite K b) g tb D σ H := by
  refine ⟨a, xs, rfl, hx, for_it walk_enum Pv h0 hl (fun i v σ' H1 H2 hi p y => ?_) hd⟩
  obtain ⟨T, x, y', h1, h2, h3, h4, h5⟩ := y
  subst h1
  cases h4
  rw [h3]
  exact hs i y' T σ' H1 h5 p h2
theorem wp_cat {l b : Addr} {xs zs : List V} (h1 : H l = some (.lst xs)) (h2 : H b = some (.lst zs)) (hl : xs.length + zs.length ≤ 100000) (k : ∀ p, H p = none → Q (.ref p) (upd H p (.lst (xs ++ zs)))) : rCat (.ref l) (.ref b) H Q := ⟨l, b, xs, zs, rfl, rfl, h1, h2, szl hl, k⟩
theorem wp_sliceL {a : Addr} {xs : List V} {lo hi : Option Int} (hx : SqL K H a xs) (k : ∀ p, H p = none → Q (.ref p) (upd H p (.lst (cutG xs lo hi)))) : rSlL K (.ref a) lo hi H Q := ⟨a, xs, rfl, hx, k⟩
theorem wp_rixL {a : Addr} {k : Int} {xs : List V} (hx : SqL K H a xs) (ha : atI xs k = some v) (h : Q v H) : rIx K (.ref a) (.int k) H Q := .inl ⟨a, xs, k, v, rfl, rfl, hx, ha, h⟩
theorem wp_rixT {a : Addr} {k : Int} {xs : List V} (hx : SqT K H a xs) (ha : atI xs k = some v) (h : Q v H) : rIx K (.ref a) (.int k) H Q := .inr (.inl ⟨a, xs, k, v, rfl, rfl, hx, ha, h⟩)
theorem wp_isN {x : V} (h : Q (.bl (decide (x = .non))) H) : rIsN x .non H Q := ⟨rfl, h⟩
theorem wp_isC {a dx : Addr} {fs : List (Str × V)} (ha : H a = some (.ins C dx fs)) (h : Q (.bl true) H) : rIsC C [.ref a, .ref C] H Q := ⟨a, dx, fs, rfl, ha, h⟩
theorem wp_iterL {l : Addr} {zs : List V} (hx : SqL K H l zs) (h : ∀ it, H it = none → Q (.ref it) (upd H it (ItO l it 0))) : rIter K [.ref l] H Q := ⟨l, zs, rfl, hx, h⟩
theorem at_nth {α : Type} {xs : List α} {i : Nat} {x : α} (h : xs[i]? = some x) : atI xs (i : Int) = some x := atI_nat h
end
/-! ### the same data, told by the law -/
def Sc (v : V) : Prop := v = .non ∨ (∃ b, v = .bl b) ∨ (∃ i, v = .int i) ∨ ∃ z, v = .str z
def Sm (H : Hp) : Nat → V → V → Prop
  | 0, _, _ => False
  | n + 1, u, v => (u = v ∧ Sc u) ∨ ∃ (a b : Addr) (xs ys : List V), u = .ref a ∧ v = .ref b ∧ ((H a = some (.lst xs) ∧ H b = some (.lst ys)) ∨ (H a = some (.tup xs) ∧ H b = some (.tup ys))) ∧
      xs.length = ys.length ∧ ys.length ≤ 1000 ∧ ∀ (i : Nat) (x y : V), xs[i]? = some x → ys[i]? = some y → Sm H n x y
theorem Sm.mono {H H' : Hp} (e : Same H H') : ∀ {n : Nat} {u v : V}, Sm H n u v → Sm H' n u v
  | 0, _, _, h => h.elim
  | n + 1, u, v, h => by
    rcases h with h | ⟨a, b, xs, ys, h1, h2, h3, h4, h5, h6⟩
    · exact .inl h
    · refine .inr ⟨a, b, xs, ys, h1, h2, ?_, h4, h5, fun i x y hx hy => Sm.mono e (h6 i x y hx hy)⟩
      rcases h3 with ⟨p, q⟩ | ⟨p, q⟩
      · exact .inl ⟨e _ _ p, e _ _ q⟩
      · exact .inr ⟨e _ _ p, e _ _ q⟩
section
variable {H : Hp} {n : Nat}
theorem sm_int {i : Int} : Sm H (n + 1) (.int i) (.int i) := .inl ⟨rfl, .inr (.inr (.inl ⟨i, rfl⟩))⟩
theorem sm_str {z : Str} : Sm H (n + 1) (.str z) (.str z) := .inl ⟨rfl, .inr (.inr (.inr ⟨z, rfl⟩))⟩
theorem sm_bl {b : Bool} : Sm H (n + 1) (.bl b) (.bl b) := .inl ⟨rfl, .inr (.inl ⟨b, rfl⟩)⟩
theorem sm_non : Sm H (n + 1) .non .non := .inl ⟨rfl, .inl rfl⟩
theorem sm_lst {a b : Addr} {xs : List V} (h1 : H a = some (.lst xs)) (h2 : H b = some (.lst xs)) (hl : xs.length ≤ 1000) (h : ∀ x ∈ xs, Sm H n x x) : Sm H (n + 1) (.ref a) (.ref b) :=
  .inr ⟨a, b, xs, xs, rfl, rfl, .inl ⟨h1, h2⟩, rfl, hl, fun i x y hx hy => by
    rw [hx] at hy
    cases hy
    exact h x (List.mem_of_getElem? hx)⟩
theorem sm_tup {a b : Addr} {xs : List V} (h1 : H a = some (.tup xs)) (h2 : H b = some (.tup xs)) (hl : xs.length ≤ 1000) (h : ∀ x ∈ xs, Sm H n x x) : Sm H (n + 1) (.ref a) (.ref b) :=
  .inr ⟨a, b, xs, xs, rfl, rfl, .inr ⟨h1, h2⟩, rfl, hl, fun i x y hx hy => by
    rw [hx] at hy
    cases hy
    exact h x (List.mem_of_getElem? hx)⟩
theorem sm_names {a b : Addr} {ns : List (List Nat)} (h1 : H a = some (.lst (ns.map sv))) (h2 : H b = some (.lst (ns.map sv))) (hl : ns.length ≤ 1000) : Sm H (n + 2) (.ref a) (.ref b) :=
  sm_lst h1 h2 (by simpa using hl) fun x hx => by
    obtain ⟨l, _, rfl⟩ := List.mem_map.mp hx
    exact sm_str
end
/-! ### rows: the spans -/
structure Row where
  u : List Nat
  v : List Nat
  lo : Int
  hi : Int
  w : Int
deriving DecidableEq
def rowV (r : Row) : List V := [sv r.u, sv r.v, .int r.lo, .int r.hi, .int r.w]
structure OkR (T : Int) (ns : List (List Nat)) (r : Row) : Prop where
  u : r.u ∈ ns
  v : r.v ∈ ns
  ne : r.u ≠ r.v
  l0 : 0 ≤ r.lo
  l1 : r.lo ≤ T - 1
  h0 : r.lo ≤ r.hi
  h1 : r.hi ≤ r.lo + T - 3
  w0 : 0 ≤ r.w
  w1 : r.w ≤ 99
def IsRow (H : Hp) (x : V) (r : Row) : Prop := ∃ p, x = .ref p ∧ H p = some (.tup (rowV r))
def IsSp (H : Hp) (T : Int) (ns : List (List Nat)) (x : V) : Prop := ∃ r, IsRow H x r ∧ OkR T ns r
theorem IsRow.mono {H H' : Hp} (e : Same H H') {x : V} {r : Row} (h : IsRow H x r) : IsRow H' x r := by
  obtain ⟨p, h1, h2⟩ := h
  exact ⟨p, h1, e _ _ h2⟩
theorem IsSp.mono {H H' : Hp} (e : Same H H') {T : Int} {ns : List (List Nat)} {x : V} (h : IsSp H T ns x) : IsSp H' T ns x := by
  obtain ⟨r, h1, h2⟩ := h
  exact ⟨r, h1.mono e, h2⟩
theorem sm_row {H : Hp} {n : Nat} {x : V} {r : Row} (h : IsRow H x r) : Sm H (n + 2) x x := by
  obtain ⟨p, rfl, h⟩ := h
  refine sm_tup h h (by simp [rowV]) fun y hy => ?_
  simp only [rowV, List.mem_cons, List.not_mem_nil, or_false] at hy
  rcases hy with rfl | rfl | rfl | rfl | rfl
  · exact sm_str
  · exact sm_str
  · exact sm_int
  · exact sm_int
  · exact sm_int
theorem sm_spans {H : Hp} {n : Nat} {a b : Addr} {T : Int} {ns : List (List Nat)} {ss : List V} (h1 : H a = some (.lst ss)) (h2 : H b = some (.lst ss)) (hl : ss.length ≤ 1000) (h : ∀ x ∈ ss, IsSp H T ns x) : Sm H (n + 3) (.ref a) (.ref b) :=
  sm_lst h1 h2 hl fun x hx => by
    obtain ⟨r, h, _⟩ := h x hx
    exact sm_row h
/-- what a net may be made of -/
structure OkNs (T : Int) (ns : List (List Nat)) : Prop where
  t0 : 3 ≤ T
  t1 : T ≤ 120
  few : ns.length ≤ 12
  nodup : ns.Nodup
  nm : ∀ l ∈ ns, Nm l
structure OkSp (H : Hp) (T : Int) (ns : List (List Nat)) (ss : List V) : Prop where
  few : ss.length ≤ 24
  sp : ∀ x ∈ ss, IsSp H T ns x
theorem OkSp.mono {H H' : Hp} (e : Same H H') {T : Int} {ns : List (List Nat)} {ss : List V} (h : OkSp H T ns ss) : OkSp H' T ns ss := ⟨h.few, fun x hx => (h.sp x hx).mono e⟩
/-! ### == of names and rows -/
def nD (ns : List (List Nat)) : List PyData := ns.map fun l => .str (S l)
def rD (r : Row) : PyData := .tuple [.str (S r.u), .str (S r.v), .int r.lo, .int r.hi, .int r.w]
theorem S_beq (a b : List Nat) : (S a == S b) = decide (a = b) := SX.S_beq_eq ..
theorem eqv_names : ∀ {a b : List (List Nat)}, PyData.eqvAll (nD a) (nD b) = decide (a = b)
  | [], [] => rfl
  | [], _ :: _ => rfl
  | _ :: _, [] => rfl
  | x :: a, y :: b => by
    show ((S x == S y) && PyData.eqvAll (nD a) (nD b)) = _
    rw [eqv_names, S_beq, ← Bool.decide_and]
    exact decide_eq_decide.mpr (by simp)
theorem eqv_row {a b : Row} : PyData.eqv (rD a) (rD b) = decide (a = b) := by
  show ((S a.u == S b.u) && ((S a.v == S b.v) && ((a.lo == b.lo) && ((a.hi == b.hi) && ((a.w == b.w) && true))))) = _
  rw [S_beq, S_beq, Bool.eq_iff_iff]
  obtain ⟨u, v, l, h, w⟩ := a
  obtain ⟨u', v', l', h', w'⟩ := b
  simp
theorem eqv_rows : ∀ {a b : List Row}, PyData.eqvAll (a.map rD) (b.map rD) = decide (a = b)
  | [], [] => rfl
  | [], _ :: _ => rfl
  | _ :: _, [] => rfl
  | x :: a, y :: b => by
    show (PyData.eqv (rD x) (rD y) && PyData.eqvAll (a.map rD) (b.map rD)) = _
    rw [eqv_rows, eqv_row, ← Bool.decide_and]
    exact decide_eq_decide.mpr (by simp)
inductive Rws (H : Hp) : List V → List Row → Prop
  | nil : Rws H [] []
  | cons {x : V} {r : Row} {xs : List V} {rs : List Row} : IsRow H x r → Rws H xs rs → Rws H (x :: xs) (r :: rs)
theorem rws_ex {H : Hp} {T : Int} {ns : List (List Nat)} : ∀ {ss : List V}, (∀ x ∈ ss, IsSp H T ns x) → ∃ rs, Rws H ss rs
  | [], _ => ⟨[], .nil⟩
  | x :: ss, h => by
    obtain ⟨rs, h2⟩ := rws_ex fun y hy => h y (List.mem_cons_of_mem _ hy)
    obtain ⟨r, h1, _⟩ := h x List.mem_cons_self
    exact ⟨r :: rs, .cons h1 h2⟩
theorem Rws.mono {H H' : Hp} (e : Same H H') : ∀ {ss : List V} {rs : List Row}, Rws H ss rs → Rws H' ss rs
  | _, _, .nil => .nil
  | _, _, .cons h t => .cons (h.mono e) (t.mono e)
theorem Rws.len {H : Hp} : ∀ {ss : List V} {rs : List Row}, Rws H ss rs → ss.length = rs.length
  | _, _, .nil => rfl
  | _, _, .cons _ t => by rw [List.length_cons, List.length_cons, t.len]
theorem Rws.at {H : Hp} : ∀ {ss : List V} {rs : List Row} {i : Nat} {x : V}, Rws H ss rs → ss[i]? = some x → ∃ r, rs[i]? = some r ∧ IsRow H x r
  | _, _, 0, x, .cons h _, e => by
    cases e
    exact ⟨_, rfl, h⟩
  | _, _, i + 1, x, .cons _ t, e => Rws.at (i := i) t e
theorem IsRow.inj {H : Hp} {x : V} {a b : Row} (h : IsRow H x a) (k : IsRow H x b) : a = b := by
  obtain ⟨p, rfl, h⟩ := h
  obtain ⟨q, e, k⟩ := k
  cases e
  rw [h] at k
  obtain ⟨u, v, l, h, w⟩ := a
  obtain ⟨u', v', l', h', w'⟩ := b
  simp only [rowV, Option.some.injEq, HO.tup.injEq, List.cons.injEq, V.str.injEq, V.int.injEq, and_true] at k
  obtain ⟨k1, k2, k3, k4, k5⟩ := k
  rw [S_inj k1, S_inj k2, k3, k4, k5]
section
variable {K : PySem.W.Frag} {H : Hp}
theorem dp_names : ∀ ns : List (List Nat), DpAll K H (ns.map sv) (nD ns)
  | [] => .nil
  | l :: ns => .cons (.str _) (dp_names ns)
theorem dp_row {x : V} {r : Row} (h : IsRow H x r) : Dp K H x (rD r) := by
  obtain ⟨p, rfl, h⟩ := h
  exact .tup (st_of h) (.cons (.str _) (.cons (.str _) (.cons (.int _) (.cons (.int _) (.cons (.int _) .nil)))))
theorem dp_rows : ∀ {ss : List V} {rs : List Row}, Rws H ss rs → DpAll K H ss (rs.map rD)
  | _, _, .nil => .nil
  | _, _, .cons h t => .cons (dp_row h) (dp_rows t)
end
def Asc (l : List Nat) : Prop := ∀ c ∈ l, c < 127
theorem nm_asc {l : List Nat} (h : Nm l) : Asc l := fun c hc => by rcases h.all c hc with h | h <;> omega
theorem asc_ok {l : List Nat} (h : Asc l) : PyData.strOk (S l) = true := by
  unfold PyData.strOk
  rw [show (S l).cps = l.toArray from rfl, List.all_toArray, List.all_eq_true]
  intro c hc
  have := h c hc
  exact decide_eq_true (by omega)
theorem lay_names : ∀ {ns : List (List Nat)}, (∀ l ∈ ns, Asc l) → PyData.canLayAll0 (nD ns) = true ∧ PyData.depthAll (nD ns) = 0
  | [], _ => ⟨rfl, rfl⟩
  | l :: ns, h => by
    obtain ⟨h1, h2⟩ := lay_names (ns := ns) fun x hx => h x (List.mem_cons_of_mem _ hx)
    refine ⟨?_, ?_⟩
    · show (PyData.strOk (S l) && PyData.canLayAll0 (nD ns)) = true
      rw [asc_ok (h l List.mem_cons_self), h1]
      rfl
    · show max 0 (PyData.depthAll (nD ns)) = 0
      rw [h2]
      rfl
theorem sh_names {ns : List (List Nat)} (h : ∀ l ∈ ns, Asc l) : SeqAt.shaped (.list (nD ns)) = true := by
  obtain ⟨h1, h2⟩ := lay_names h
  show (PyData.canLayAll0 (nD ns) && decide (PyData.depthAll (nD ns) + 1 ≤ 64)) = true
  rw [h1, h2]
  rfl
structure AscR (r : Row) : Prop where
  u : Asc r.u
  v : Asc r.v
theorem lay_row {r : Row} (h : AscR r) : PyData.canLay0 (rD r) = true ∧ PyData.depth (rD r) = 1 := by
  refine ⟨?_, rfl⟩
  show (PyData.strOk (S r.u) && (PyData.strOk (S r.v) && _)) = true
  rw [asc_ok h.u, asc_ok h.v]
  rfl
theorem sh_row {r : Row} (h : AscR r) : SeqAt.shaped (rD r) = true := by
  obtain ⟨h1, h2⟩ := lay_row h
  show (PyData.canLay0 (rD r) && decide (PyData.depth (rD r) ≤ 64)) = true
  rw [h1, h2]
  rfl
theorem lay_rows : ∀ {rs : List Row}, (∀ r ∈ rs, AscR r) → PyData.canLayAll0 (rs.map rD) = true ∧ PyData.depthAll (rs.map rD) ≤ 1
  | [], _ => ⟨rfl, Nat.zero_le _⟩
  | l :: ns, h => by
    obtain ⟨h1, h2⟩ := lay_rows (rs := ns) fun x hx => h x (List.mem_cons_of_mem _ hx)
    obtain ⟨h3, h4⟩ := lay_row (h l List.mem_cons_self)
    refine ⟨?_, ?_⟩
    · show (PyData.canLay0 (rD l) && PyData.canLayAll0 (ns.map rD)) = true
      rw [h3, h1]
      rfl
    · show max (PyData.depth (rD l)) (PyData.depthAll (ns.map rD)) ≤ 1
      omega
theorem sh_rows {rs : List Row} (h : ∀ r ∈ rs, AscR r) : SeqAt.shaped (.list (rs.map rD)) = true := by
  obtain ⟨h1, h2⟩ := lay_rows h
  show (PyData.canLayAll0 (rs.map rD) && decide (PyData.depthAll (rs.map rD) + 1 ≤ 64)) = true
  rw [h1]
  exact decide_eq_true (by omega)
theorem Rws.all {H : Hp} {T : Int} {ns : List (List Nat)} (hn : ∀ l ∈ ns, Nm l) {ss : List V} {rs : List Row} (h : ∀ x ∈ ss, IsSp H T ns x) (t : Rws H ss rs) : ∀ r ∈ rs, OkR T ns r ∧ AscR r := by
  induction t with
  | nil => simp
  | @cons x r xs rs h1 t ih =>
    intro q hq
    rcases List.mem_cons.mp hq with rfl | hq
    · obtain ⟨r', k1, k2⟩ := h x List.mem_cons_self
      have e := k1.inj h1
      subst e
      exact ⟨k2, nm_asc (hn _ k2.u), nm_asc (hn _ k2.v)⟩
    · exact ih (fun y hy => h y (List.mem_cons_of_mem _ hy)) q hq
section
variable {K : PySem.W.Frag} {H : Hp} {Q : VK} {a b : Addr}
theorem wp_eqN {ns ms : List (List Nat)} (h1 : H a = some (.lst (ns.map sv))) (h2 : H b = some (.lst (ms.map sv))) (k1 : ∀ l ∈ ns, Asc l) (k2 : ∀ l ∈ ms, Asc l) (q : Q (.bl (decide (ns = ms))) H) : rEqD K (.ref a) (.ref b) H Q := by
  refine ⟨.list (nD ns), .list (nD ms), .lst (sq_of h1) (dp_names _), .lst (sq_of h2) (dp_names _), sh_names k1, sh_names k2, ?_⟩
  show Q (.bl (PyData.eqvAll (nD ns) (nD ms))) H
  rw [eqv_names]
  exact q
theorem wp_neN {ns ms : List (List Nat)} (h1 : H a = some (.lst (ns.map sv))) (h2 : H b = some (.lst (ms.map sv))) (k1 : ∀ l ∈ ns, Asc l) (k2 : ∀ l ∈ ms, Asc l) (q : Q (.bl (!decide (ns = ms))) H) : rNeD K (.ref a) (.ref b) H Q := by
  refine ⟨.list (nD ns), .list (nD ms), .lst (sq_of h1) (dp_names _), .lst (sq_of h2) (dp_names _), sh_names k1, sh_names k2, ?_⟩
  show Q (.bl (!PyData.eqvAll (nD ns) (nD ms))) H
  rw [eqv_names]
  exact q
theorem wp_eqR {ss ts : List V} {rs qs : List Row} (h1 : H a = some (.lst ss)) (h2 : H b = some (.lst ts)) (r1 : Rws H ss rs) (r2 : Rws H ts qs) (k1 : ∀ r ∈ rs, AscR r) (k2 : ∀ r ∈ qs, AscR r) (q : Q (.bl (decide (rs = qs))) H) : rEqD K (.ref a) (.ref b) H Q := by
  refine ⟨.list (rs.map rD), .list (qs.map rD), .lst (sq_of h1) (dp_rows r1), .lst (sq_of h2) (dp_rows r2), sh_rows k1, sh_rows k2, ?_⟩
  show Q (.bl (PyData.eqvAll (rs.map rD) (qs.map rD))) H
  rw [eqv_rows]
  exact q
theorem wp_neR {ss ts : List V} {rs qs : List Row} (h1 : H a = some (.lst ss)) (h2 : H b = some (.lst ts)) (r1 : Rws H ss rs) (r2 : Rws H ts qs) (k1 : ∀ r ∈ rs, AscR r) (k2 : ∀ r ∈ qs, AscR r) (q : Q (.bl (!decide (rs = qs))) H) : rNeD K (.ref a) (.ref b) H Q := by
  refine ⟨.list (rs.map rD), .list (qs.map rD), .lst (sq_of h1) (dp_rows r1), .lst (sq_of h2) (dp_rows r2), sh_rows k1, sh_rows k2, ?_⟩
  show Q (.bl (!PyData.eqvAll (rs.map rD) (qs.map rD))) H
  rw [eqv_rows]
  exact q
theorem wp_neRow {x y : V} {r s : Row} (h1 : IsRow H x r) (h2 : IsRow H y s) (k1 : AscR r) (k2 : AscR s) (q : Q (.bl (!decide (r = s))) H) : rNeD K x y H Q := by
  refine ⟨rD r, rD s, dp_row h1, dp_row h2, sh_row k1, sh_row k2, ?_⟩
  rw [eqv_row]
  exact q
end
/-! ### nets -/
abbrev netF (T : Int) (le ls : Addr) : List (Str × V) := [("_round_length", .int T), ("_events", .ref le), ("_spans", .ref ls)]
def IsNet (C : Addr) (H : Hp) (a : Addr) (T : Int) (ns : List (List Nat)) (ss : List V) : Prop := ∃ dx le ls, H a = some (.ins C dx (netF T le ls)) ∧ H le = some (.lst (ns.map sv)) ∧ H ls = some (.lst ss)
theorem IsNet.mono {C : Addr} {H H' : Hp} (e : Same H H') {a : Addr} {T : Int} {ns : List (List Nat)} {ss : List V} (h : IsNet C H a T ns ss) : IsNet C H' a T ns ss := by
  obtain ⟨dx, le, ls, h1, h2, h3⟩ := h
  exact ⟨dx, le, ls, e _ _ h1, e _ _ h2, e _ _ h3⟩
theorem lk_T {T : Int} {le ls : Addr} : (netF T le ls).lookup ("_round_length" : Str) = some (.int T) := rfl
theorem lk_e {T : Int} {le ls : Addr} : (netF T le ls).lookup ("_events" : Str) = some (.ref le) := rfl
theorem lk_s {T : Int} {le ls : Addr} : (netF T le ls).lookup ("_spans" : Str) = some (.ref ls) := rfl
abbrev netF1 (T : Int) : List (Str × V) := [("_round_length", .int T)]
abbrev netF2 (T : Int) (le : Addr) : List (Str × V) := [("_round_length", .int T), ("_events", .ref le)]
theorem pt_1 {T : Int} : putF "_round_length" (.int T) [] = netF1 T := rfl
theorem pt_2 {T : Int} {le : Addr} : putF "_events" (.ref le) (netF1 T) = netF2 T le := by
  unfold putF
  rw [if_neg (by decide)]
  rfl
theorem pt_3 {T : Int} {le ls : Addr} : putF "_spans" (.ref ls) (netF2 T le) = netF T le ls := by
  unfold putF
  rw [if_neg (by decide)]
  unfold putF
  rw [if_neg (by decide)]
  rfl
/-- all but one thing -/
def rmv (G : Hp) (q : Addr) : Hp := fun a => if a = q then none else G a
theorem rmv_same {G : Hp} {q : Addr} : rmv G q q = none := by unfold rmv; rw [if_pos rfl]
theorem rmv_ne {G : Hp} {q a : Addr} (h : a ≠ q) : rmv G q a = G a := by unfold rmv; rw [if_neg h]
theorem rmv_sub {G : Hp} {q : Addr} : Same (rmv G q) G := fun a o h => by
  by_cases e : a = q
  · rw [e, rmv_same] at h; cases h
  · rw [rmv_ne e] at h; exact h
theorem Same.rmv {G G' : Hp} {q : Addr} (s : Same G G') (h : G q = none) : Same G (rmv G' q) := fun a o ha => by
  rw [rmv_ne (ne_of_none ha h)]
  exact s _ _ ha
theorem Sees.less {P : Pl} {G H : Hp} {q : Addr} {ys : List V} (s : Sees P G H) (hq : G q = some (.lst ys)) (hc : q ≠ P.l) : Sees P (rmv G q) H :=
  ⟨s.pool, by rw [rmv_ne hc.symm]; exact s.cell, s.few, by
    by_cases e : P.p = q
    · rw [e]; exact rmv_same
    · rw [rmv_ne e]; exact s.free, Same.trans rmv_sub s.sub⟩
theorem IsRow.rmv {G : Hp} {q : Addr} {ys : List V} {x : V} {r : Row} (hq : G q = some (.lst ys)) (h : IsRow G x r) : IsRow (rmv G q) x r := by
  obtain ⟨p, rfl, hp⟩ := h
  exact ⟨p, rfl, by rw [rmv_ne (fun e => by rw [e, hq] at hp; cases hp)]; exact hp⟩
theorem IsSp.rmv {G : Hp} {q : Addr} {ys : List V} {T : Int} {ns : List (List Nat)} {x : V} (hq : G q = some (.lst ys)) (h : IsSp G T ns x) : IsSp (rmv G q) T ns x := by
  obtain ⟨r, h1, h2⟩ := h
  exact ⟨r, h1.rmv hq, h2⟩
/-- a list of one's own that is changed: outside of G -/
structure Lcl (P : Pl) (L : Addr) (xs : List V) (G H : Hp) : Prop where
  s : Sees P G H
  h : H L = some (.lst xs)
  g : G L = none
  ne : L ≠ P.p
theorem Lcl.new {P : Pl} {L q : Addr} {xs : List V} {G H : Hp} {o : HO} (l : Lcl P L xs G H) (hq : H q = none) : Lcl P L xs (upd G q o) (upd H q o) :=
  have e : L ≠ q := ne_of_none l.h hq
  ⟨l.s.new hq, by rw [upd_ne e]; exact l.h, by rw [upd_ne e]; exact l.g, l.ne⟩
theorem Lcl.put {P : Pl} {L : Addr} {xs ys : List V} {G H : Hp} (l : Lcl P L xs G H) : Lcl P L ys G (upd H L (.lst ys)) := ⟨l.s.set l.g l.ne, upd_same, l.g, l.ne⟩
theorem Lcl.in_ {P : Pl} {L : Addr} {xs : List V} {G H : Hp} (l : Lcl P L xs G H) : Sees P (upd G L (.lst xs)) H := l.s.with l.g l.h l.ne
theorem Lcl.out {P : Pl} {L : Addr} {xs : List V} {G H H' : Hp} (l : Lcl P L xs G H) (s : Sees P (upd G L (.lst xs)) H') : Lcl P L xs G H' :=
  have z := s.back l.s l.g
  ⟨z.1, z.2, l.g, l.ne⟩
/-! ### rows in parts of lists -/
theorem Rws.app {H : Hp} : ∀ {a : List V} {ra : List Row} {b : List V} {rb : List Row}, Rws H a ra → Rws H b rb → Rws H (a ++ b) (ra ++ rb)
  | _, _, _, _, .nil, k => k
  | _, _, _, _, .cons h t, k => .cons h (t.app k)
theorem Rws.take {H : Hp} : ∀ {a : List V} {ra : List Row} (n : Nat), Rws H a ra → Rws H (a.take n) (ra.take n)
  | _, _, 0, _ => .nil
  | _, _, _ + 1, .nil => .nil
  | _, _, n + 1, .cons h t => .cons h (t.take n)
theorem Rws.drop {H : Hp} : ∀ {a : List V} {ra : List Row} (n : Nat), Rws H a ra → Rws H (a.drop n) (ra.drop n)
  | _, _, 0, h => h
  | _, _, _ + 1, .nil => .nil
  | _, _, n + 1, .cons _ t => t.drop n
theorem IsSp.up {H : Hp} {T T' : Int} {ns ns' : List (List Nat)} {x : V} (h : IsSp H T ns x) (e : T ≤ T') (m : ∀ l ∈ ns, l ∈ ns') : IsSp H T' ns' x := by
  obtain ⟨r, h1, h2⟩ := h
  exact ⟨r, h1, m _ h2.u, m _ h2.v, h2.ne, h2.l0, by have := h2.l1; omega, h2.h0, by have := h2.h1; omega, h2.w0, h2.w1⟩
theorem six_neg {n d : Nat} (h : 0 < n) : HT.sIx n d (some (-1)) = n - 1 := by
  unfold HT.sIx
  simp only []
  split <;> omega
theorem cutG_last {α : Type} {xs : List α} (h : 0 < xs.length) : cutG xs none (some (-1)) = xs.take (xs.length - 1) := by
  unfold cutG
  rw [six_neg h]
  show (xs.drop 0).take (xs.length - 1 - 0) = _
  simp
theorem cutG_to1 {α : Type} {xs : List α} {k : Int} (h0 : 0 ≤ k) (h : k ≤ xs.length) : cutG xs none (some k) = xs.take k.toNat := by
  obtain ⟨j, rfl⟩ : ∃ j : Nat, k = j := ⟨k.toNat, by omega⟩
  rw [cutG_to (by omega), Int.toNat_natCast]
theorem cutG_from1 {α : Type} {xs : List α} {k : Int} (h0 : 0 ≤ k) (h : k ≤ xs.length) : cutG xs (some k) none = xs.drop k.toNat := by
  obtain ⟨j, rfl⟩ : ∃ j : Nat, k = j := ⟨k.toNat, by omega⟩
  rw [cutG_from (by omega), Int.toNat_natCast]
theorem cut_set {α : Type} {xs : List α} {k : Nat} {y : α} (h : k < xs.length) : (xs.take k ++ [y] ++ xs.drop (k + 1))[k]? = some y := by
  have : (xs.take k).length = k := by rw [List.length_take]; omega
  rw [List.append_assoc, List.getElem?_append_right (by omega), this]
  simp
theorem at2 {α : Type} {a b c : α} {xs : List α} : atI (a :: b :: c :: xs) 2 = some c := atI_nat (j := 2) rfl
theorem at3 {α : Type} {a b c d : α} {xs : List α} : atI (a :: b :: c :: d :: xs) 3 = some d := atI_nat (j := 3) rfl
theorem at4 {α : Type} {a b c d e : α} {xs : List α} : atI (a :: b :: c :: d :: e :: xs) 4 = some e := atI_nat (j := 4) rfl
theorem mem_cut {α : Type} {xs : List α} {k m : Nat} {ys : List α} {x : α} (h : x ∈ xs.take k ++ ys ++ xs.drop m) : x ∈ xs ∨ x ∈ ys := by
  rcases List.mem_append.mp h with h | h
  · rcases List.mem_append.mp h with h | h
    · exact .inl (List.mem_of_mem_take h)
    · exact .inr h
  · exact .inl (List.mem_of_mem_drop h)
theorem cut_set2 {α : Type} {xs ys : List α} {k m : Nat} {y : α} (h : k < xs.length) : (xs.take k ++ (y :: ys) ++ xs.drop m)[k]? = some y := by
  have : (xs.take k).length = k := by rw [List.length_take]; omega
  rw [List.append_assoc, List.getElem?_append_right (by omega), this]
  simp
/-! ### comprehensions with tests and tuple targets -/
section
variable {σ : L2.St} {H : Hp} {Q : VK} {K : PySem.W.Frag} {g : TG} {tt : TT} {te : TE} {vs : List Nat}
theorem lcGen {J : It} {n : Nat} {Gd : Hp → Prop} {Y : Nat → Hp → V → Hp → Prop} (w : Walk J n Gd Y) (hn : n ≤ 100000) (hG : ∀ H', Same H H' → Gd H') (hY : ∀ i H2 x H3, Y i H2 x H3 → Same H2 H3) (accs : Nat → List V) (h0 : accs 0 = []) (hlen : ∀ i, (accs i).length ≤ i)
    (hs : ∀ i x H2 H3 (R : VK) (R0 : Hp → Prop), i < n → Same H H2 → Y i H2 x H3 → (∀ y H6, Same H3 H6 → accs (i + 1) = accs i ++ [y] → R y H6) → (∀ H5, Same H3 H5 → accs (i + 1) = accs i → R0 H5) → g x (wipe σ vs) H3 fun σ2 H4 => wipe σ2 vs = wipe σ vs ∧ tt σ2 H4 fun b H5 => if b = true then te σ2 H5 R else R0 H5)
    (hq : ∀ D H2, H D = none → Same H H2 → H2 D = some (.lst (accs n)) → Q (.ref D) H2) : LcW J g tt te vs σ H Q := by
  intro D hD
  refine lc_it w (fun i H2 => Same H H2 ∧ H2 D = some (.lst (accs i))) ⟨Same.new hD, by rw [h0]; exact upd_same⟩ (fun i H2 _ p => hG H2 p.1) (fun i x H2 H3 hi p y => ?_) (fun H2 p => hq D H2 hD p.1 p.2)
  have s3 := hY i H2 x H3 y
  exact hs i x H2 H3 (fun y H4 => ∃ acc, H4 D = some (.lst acc) ∧ acc.length < sizeLine ∧ (Same H (upd H4 D (.lst (acc ++ [y]))) ∧ upd H4 D (.lst (acc ++ [y])) D = some (.lst (accs (i + 1))))) (fun H' => Same H H' ∧ H' D = some (.lst (accs (i + 1)))) hi p.1 y
    (fun y H6 s6 e => ⟨accs i, s6 _ _ (s3 _ _ p.2), szlt (by have := hlen i; omega), Same.mut (p.1.trans (s3.trans s6)) hD, by rw [e]; exact upd_same⟩)
    (fun H5 s5 e => ⟨p.1.trans (s3.trans s5), by rw [e]; exact s5 _ _ (s3 _ _ p.2)⟩)
theorem lcGL {a : Addr} {xs : List V} (hx : SqL K H a xs) (hn : xs.length ≤ 100000) (accs : Nat → List V) (h0 : accs 0 = []) (hlen : ∀ i, (accs i).length ≤ i)
    (hs : ∀ i x H2 (R : VK) (R0 : Hp → Prop), xs[i]? = some x → Same H H2 → (∀ y H6, Same H2 H6 → accs (i + 1) = accs i ++ [y] → R y H6) → (∀ H5, Same H2 H5 → accs (i + 1) = accs i → R0 H5) → g x (wipe σ vs) H2 fun σ2 H4 => wipe σ2 vs = wipe σ vs ∧ tt σ2 H4 fun b H5 => if b = true then te σ2 H5 R else R0 H5)
    (hq : ∀ D H2, H D = none → Same H H2 → H2 D = some (.lst (accs xs.length)) → Q (.ref D) H2) : ∃ b, V.ref a = .ref b ∧ (∃ ys, SqL K H b ys) ∧ LcW (Itl K b) g tt te vs σ H Q :=
  ⟨a, rfl, ⟨xs, hx⟩, lcGen walk_list hn (fun H' s => Same.seq s hx) (fun i H2 x H3 y => by rw [y.1]; exact Same.refl _) accs h0 hlen (fun i x H2 H3 R R0 _ s2 y k1 k0 => by
    obtain ⟨e, hi⟩ := y
    subst e
    exact hs i x _ R R0 hi s2 k1 k0) hq⟩
theorem lcGE {a : Addr} {xs : List V} (hx : SqL K H a xs) (hn : xs.length ≤ 100000) (accs : Nat → List V) (h0 : accs 0 = []) (hlen : ∀ i, (accs i).length ≤ i)
    (hs : ∀ i x T H2 (R : VK) (R0 : Hp → Prop), xs[i]? = some x → Same H H2 → H2 T = some (.tup [.int (i : Nat), x]) → (∀ y H6, Same H2 H6 → accs (i + 1) = accs i ++ [y] → R y H6) → (∀ H5, Same H2 H5 → accs (i + 1) = accs i → R0 H5) → g (.ref T) (wipe σ vs) H2 fun σ2 H4 => wipe σ2 vs = wipe σ vs ∧ tt σ2 H4 fun b H5 => if b = true then te σ2 H5 R else R0 H5)
    (hq : ∀ D H2, H D = none → Same H H2 → H2 D = some (.lst (accs xs.length)) → Q (.ref D) H2) : ∃ b ys, [V.ref a] = [.ref b] ∧ SqL K H b ys ∧ LcW (Ite K b) g tt te vs σ H Q :=
  ⟨a, xs, rfl, hx, lcGen walk_enum hn (fun H' s => Same.seq s hx) (fun i H2 x H3 y => by
    obtain ⟨T, x', y', _, hT, e, _⟩ := y
    rw [e]; exact Same.new hT) accs h0 hlen (fun i x H2 H3 R R0 _ s2 y k1 k0 => by
    obtain ⟨T, x', y', rfl, hT, e, h4, h5⟩ := y
    cases h4
    subst e
    exact hs i y' T _ R R0 h5 (s2.trans (Same.new hT)) upd_same k1 k0) hq⟩
theorem lcGR {n : Nat} (hn : n ≤ 100000) (accs : Nat → List V) (h0 : accs 0 = []) (hlen : ∀ i, (accs i).length ≤ i)
    (hs : ∀ i H2 (R : VK) (R0 : Hp → Prop), i < n → Same H H2 → (∀ y H6, Same H2 H6 → accs (i + 1) = accs i ++ [y] → R y H6) → (∀ H5, Same H2 H5 → accs (i + 1) = accs i → R0 H5) → g (.int (i : Nat)) (wipe σ vs) H2 fun σ2 H4 => wipe σ2 vs = wipe σ vs ∧ tt σ2 H4 fun b H5 => if b = true then te σ2 H5 R else R0 H5)
    (hq : ∀ D H2, H D = none → Same H H2 → H2 D = some (.lst (accs n)) → Q (.ref D) H2) : ∃ j : Int, [V.int n] = [V.int j] ∧ -(2 ^ 62) ≤ j ∧ j < 2 ^ 62 ∧ LcW (Itr 0 j.toNat) g tt te vs σ H Q :=
  ⟨n, rfl, by omega, by omega, lcGen (n := ((n : Int)).toNat) walk_range (by omega) (fun _ _ => trivial) (fun i H2 x H3 y => by rw [y.1]; exact Same.refl _) accs h0 hlen (fun i x H2 H3 R R0 hi s2 y k1 k0 => by
    obtain ⟨e, e2⟩ := y
    subst e
    have e3 : x = .int (i : Nat) := by rw [e2]; exact congrArg V.int (Int.zero_add _)
    subst e3
    exact hs i _ R R0 (by omega) s2 k1 k0) (by rw [Int.toNat_natCast]; exact hq)⟩
theorem wp_lcE {tl : TA} (h : tl σ H fun us H1 => ∃ b ys, us = [.ref b] ∧ SqL K H1 b ys ∧ LcW (Ite K b) g tt te vs σ H1 Q) : tLc (iEnum K tl) g tt te vs σ H Q := h
theorem inV_int {k : Int} {is : List Int} : inV (.int k) (is.map V.int) = decide (k ∈ is) := by
  unfold inV
  rw [List.any_map, Bool.eq_iff_iff, List.any_eq_true, decide_eq_true_eq]
  constructor
  · rintro ⟨x, hx, e⟩
    have e2 : (x == k) = true := e
    rw [beq_iff_eq] at e2
    rw [← e2]; exact hx
  · intro h
    refine ⟨k, h, ?_⟩
    show (k == k) = true
    exact beq_self_eq_true _
theorem wp_notInI {p : Addr} {k : Int} {is : List Int} (hx : SqL K H p (is.map V.int) ∨ SqT K H p (is.map V.int)) (h : Q (.bl (!decide (k ∈ is))) H) : rIn K true (.int k) (.ref p) H Q := by
  refine ⟨p, is.map V.int, rfl, hx, rfl, by rw [List.all_map, List.all_eq_true]; intro x _; rfl, ?_⟩
  show Q (.bl (!inV (.int k) (is.map V.int))) H
  rw [inV_int]; exact h
end
/-- what stays of a list without these places -/
def keepG {α : Type} (is : List Int) (xs : List α) : Nat → List α
  | 0 => []
  | i + 1 => if (i : Int) ∈ is then keepG is xs i else keepG is xs i ++ (xs[i]?).toList
theorem keepG_len {α : Type} {is : List Int} {xs : List α} : ∀ i, (keepG is xs i).length ≤ i
  | 0 => Nat.le_refl _
  | i + 1 => by
    unfold keepG
    have := keepG_len (is := is) (xs := xs) i
    split
    · omega
    · rw [List.length_append]
      cases xs[i]? <;> simp <;> omega
theorem keepG_mem {α : Type} {is : List Int} {xs : List α} {y : α} : ∀ {i}, y ∈ keepG is xs i → y ∈ xs
  | 0, h => absurd h (by simp [keepG])
  | i + 1, h => by
    unfold keepG at h
    split at h
    · exact keepG_mem h
    · rcases List.mem_append.mp h with h | h
      · exact keepG_mem h
      · cases e : xs[i]? with
        | none => rw [e] at h; simp at h
        | some z =>
          rw [e] at h
          simp at h
          rw [h]
          exact List.mem_of_getElem? e
theorem Rws.keep {H : Hp} {ss : List V} {rs : List Row} (h : Rws H ss rs) (is : List Int) : ∀ n, Rws H (keepG is ss n) (keepG is rs n)
  | 0 => .nil
  | n + 1 => by
    unfold keepG
    split
    · exact h.keep is n
    · refine (h.keep is n).app ?_
      cases e : ss[n]? with
      | none =>
        have : rs[n]? = none := by
          rw [List.getElem?_eq_none_iff] at e ⊢
          rw [← h.len]; exact e
        rw [this]
        exact .nil
      | some x =>
        obtain ⟨r, e1, e2⟩ := h.at e
        rw [e1]
        exact .cons e2 .nil
def flipR (r : Row) : Row := ⟨r.v, r.u, r.lo, r.hi, r.w⟩
theorem OkR.flip {T : Int} {ns : List (List Nat)} {r : Row} (k : OkR T ns r) : OkR T ns (flipR r) := ⟨k.v, k.u, k.ne.symm, k.l0, k.l1, k.h0, k.h1, k.w0, k.w1⟩
/-- rows that are good make good spans -/
theorem Rws.sp {H : Hp} {T : Int} {ns : List (List Nat)} {ss : List V} {rs : List Row} (h : Rws H ss rs) (k : ∀ r ∈ rs, OkR T ns r) : ∀ x ∈ ss, IsSp H T ns x := by
  induction h with
  | nil => simp
  | @cons x r xs rs h1 t ih =>
    intro z hz
    rcases List.mem_cons.mp hz with rfl | hz
    · exact ⟨r, h1, k r List.mem_cons_self⟩
    · exact ih (fun y hy => k y (List.mem_cons_of_mem _ hy)) z hz
theorem Rws.okr {H : Hp} {T : Int} {ns : List (List Nat)} {ss : List V} {rs : List Row} (h : Rws H ss rs) (k : ∀ x ∈ ss, IsSp H T ns x) : ∀ r ∈ rs, OkR T ns r := by
  induction h with
  | nil => simp
  | @cons x r xs rs h1 t ih =>
    intro z hz
    rcases List.mem_cons.mp hz with rfl | hz
    · obtain ⟨r', k1, k2⟩ := k x List.mem_cons_self
      rw [h1.inj k1]
      exact k2
    · exact ih (fun y hy => k y (List.mem_cons_of_mem _ hy)) z hz
theorem sm_rows {H : Hp} {n : Nat} {x y : V} {r : Row} (h : IsRow H x r) (k : IsRow H y r) : Sm H (n + 2) x y := by
  obtain ⟨p, rfl, h⟩ := h
  obtain ⟨q, rfl, k⟩ := k
  refine sm_tup h k (by simp [rowV]) fun y hy => ?_
  simp only [rowV, List.mem_cons, List.not_mem_nil, or_false] at hy
  rcases hy with rfl | rfl | rfl | rfl | rfl
  · exact sm_str
  · exact sm_str
  · exact sm_int
  · exact sm_int
  · exact sm_int
theorem sm_rws {H : Hp} {n : Nat} {a b : Addr} {xs ys : List V} {rs : List Row} (ha : H a = some (.lst xs)) (hb : H b = some (.lst ys)) (h : Rws H xs rs) (k : Rws H ys rs) (hl : rs.length ≤ 1000) : Sm H (n + 3) (.ref a) (.ref b) :=
  .inr ⟨a, b, xs, ys, rfl, rfl, .inl ⟨ha, hb⟩, by rw [h.len, k.len], by rw [k.len]; exact hl, fun i x y hx hy => by
    obtain ⟨r, e1, e2⟩ := h.at hx
    obtain ⟨s, e3, e4⟩ := k.at hy
    rw [e1] at e3
    cases e3
    exact sm_rows e2 e4⟩
section
variable {σ : L2.St} {H : Hp} {Q : VK} {K : PySem.W.Frag} {g : TG} {te : TE} {vs : List Nat}
/-- a comprehension that makes new things: I speaks of what is known (G), the list itself aside -/
theorem lcInvL {a : Addr} {xs : List V} (hx : SqL K H a xs) (hn : xs.length ≤ 100000) (I : Nat → List V → Hp → Prop) (h0 : I 0 [] H)
    (hs : ∀ i x acc G H2 (R : VK), xs[i]? = some x → Same H G → Same G H2 → I i acc G → (∀ y G' H6, Same G G' → Same G' H6 → Same H2 H6 → (∀ q o, H2 q = some o → G q = none → G' q = none) → I (i + 1) (acc ++ [y]) G' → R y H6) → g x (wipe σ vs) H2 fun σ2 H4 => wipe σ2 vs = wipe σ vs ∧ te σ2 H4 R)
    (hq : ∀ D acc G H2, H D = none → Same H G → Same G H2 → H2 D = some (.lst acc) → acc.length ≤ xs.length → I xs.length acc G → G D = none → Q (.ref D) H2) : ∃ b, V.ref a = .ref b ∧ (∃ ys, SqL K H b ys) ∧ LcW (Itl K b) g tYes te vs σ H Q := by
  refine ⟨a, rfl, ⟨xs, hx⟩, ?_⟩
  intro D hD
  refine lc_it (walk_list (xs := xs)) (fun i H2 => ∃ acc G, Same H G ∧ Same G H2 ∧ G D = none ∧ H2 D = some (.lst acc) ∧ acc.length ≤ i ∧ I i acc G) ⟨[], H, Same.refl _, Same.new hD, hD, upd_same, Nat.le_refl _, h0⟩ (fun i H2 _ p => ?_) (fun i x H2 H3 hi p y => ?_) (fun H2 p => ?_)
  · obtain ⟨acc, G, s1, s2, _⟩ := p
    exact Same.seq (s1.trans s2) hx
  · obtain ⟨e, hi2⟩ := y
    subst e
    obtain ⟨acc, G, s1, s2, gD, hD2, hl, hI⟩ := p
    have z := hs i x acc G _ (fun y H4 => ∃ acc', H4 D = some (.lst acc') ∧ acc'.length < sizeLine ∧ ∃ acc2 G2, Same H G2 ∧ Same G2 (upd H4 D (.lst (acc' ++ [y]))) ∧ G2 D = none ∧ upd H4 D (.lst (acc' ++ [y])) D = some (.lst acc2) ∧ acc2.length ≤ i + 1 ∧ I (i + 1) acc2 G2) hi2 s1 s2 hI
      (fun y G' H6 t1 t2 t3 t4 hI2 => ⟨acc, t3 _ _ hD2, szlt (by omega), acc ++ [y], G', s1.trans t1, Same.mut t2 (t4 _ _ hD2 gD), t4 _ _ hD2 gD, upd_same, by rw [List.length_append]; simp; omega, hI2⟩)
    exact z
  · obtain ⟨acc, G, s1, s2, gD, hD2, hl, hI⟩ := p
    exact hq D acc G H2 hD s1 s2 hD2 hl hI gD
end
theorem wp_star {σ : L2.St} {H : Hp} {K : PySem.W.Frag} {tl : TA} {QA : List V → Hp → Prop} {p : Addr} {xs : List V} (hx : SqT K H p xs ∨ SqL K H p xs) (h : tl σ H fun ys H2 => QA (xs ++ ys) H2) : ∃ p' xs, V.ref p = V.ref p' ∧ (SqT K H p' xs ∨ SqL K H p' xs) ∧ tl σ H fun ys H2 => QA (xs ++ ys) H2 := ⟨p, xs, rfl, hx, h⟩
theorem wp_starT {σ : L2.St} {H : Hp} {K : PySem.W.Frag} {te : TE} {tl : TA} {QA : List V → Hp → Prop} (h : te σ H fun x H1 => ∃ p xs, x = V.ref p ∧ (SqT K H1 p xs ∨ SqL K H1 p xs) ∧ tl σ H1 fun ys H2 => QA (xs ++ ys) H2) : StX.tStar K te tl σ H QA := h
theorem Rws.set {H : Hp} {x : V} {r : Row} (hx : IsRow H x r) : ∀ {ss : List V} {rs : List Row} (i : Nat), Rws H ss rs → Rws H (ss.set i x) (rs.set i r)
  | _, _, _, .nil => .nil
  | _, _, 0, .cons _ t => .cons hx t
  | _, _, i + 1, .cons h t => .cons h (t.set hx i)
section
variable {σ : L2.St} {H : Hp} {Q : VK} {ta : TE} {tl tk : TA} {K : PySem.W.Frag} {sp : Sp} {E : XK} {C : Addr} {m : Str}
def MetWD (C : Addr) (m : Str) (sp : Sp) (dvs : List V) (E : XK) (t : TA) (σ : L2.St) (Q : VK) (x : V) (H1 : Hp) : Prop := ∃ a dx fs, x = .ref a ∧ H1 a = some (.ins C dx fs) ∧ fs.lookup m = none ∧ t σ H1 fun vs H2 => sp (x :: (vs ++ dvs)) H2 Q E
theorem wp_methD {d : V} (h : ta σ H fun x H1 => MetWD C m sp [d] E tl σ Q x H1) : tMeth C m sp [d] E ta tl σ H Q := h
theorem met_atD {a dx : Addr} {fs : List (Str × V)} {dvs : List V} (ha : H a = some (.ins C dx fs)) (hl : fs.lookup m = none) (q : tl σ H fun vs H2 => sp (.ref a :: (vs ++ dvs)) H2 Q E) : MetWD C m sp dvs E tl σ Q (.ref a) H := ⟨a, dx, fs, rfl, ha, hl, q⟩
def MetWR (C : Addr) (m : Str) (sp : Sp) (E : XK) (t : TA) (σ : L2.St) (Q : VK) (x : V) (H1 : Hp) : Prop := ∃ a dx fs, x = .ref a ∧ H1 a = some (.ins C dx fs) ∧ fs.lookup m = none ∧ t σ H1 fun vs H2 => sp (x :: vs) H2 Q E
theorem wp_methR (h : ta σ H fun x H1 => MetWR C m sp E tl σ Q x H1) : tMethR C m sp E ta tl σ H Q := h
theorem met_atR {a dx : Addr} {fs : List (Str × V)} (ha : H a = some (.ins C dx fs)) (hl : fs.lookup m = none) (q : tl σ H fun vs H2 => sp (.ref a :: vs) H2 Q E) : MetWR C m sp E tl σ Q (.ref a) H := ⟨a, dx, fs, rfl, ha, hl, q⟩
end
theorem wp_yes {σ : L2.St} {H : Hp} {QT : Bool → Hp → Prop} (h : QT true H) : tYes σ H QT := h
theorem Sees.new' {P : Pl} {q : Addr} {G H : Hp} (o : HO) (s : Sees P G H) (hq : H q = none) : ∃ G', Sees P G' (upd H q o) ∧ Same G G' ∧ G' q = some o := ⟨_, s.new hq, Same.new (s.sub.free hq), upd_same⟩
theorem net_at {C : Addr} {H : Hp} {a : Addr} {T : Int} {ns : List (List Nat)} {ss : List V} (h : IsNet C H a T ns ss) : ∃ dx le ls, H a = some (.ins C dx (netF T le ls)) := by
  obtain ⟨dx, le, ls, h, _⟩ := h
  exact ⟨dx, le, ls, h⟩
theorem keepG_nil {α : Type} {xs : List α} : ∀ n, keepG [] xs n = xs.take n
  | 0 => rfl
  | n + 1 => by
    show (if (n : Int) ∈ ([] : List Int) then _ else keepG [] xs n ++ (xs[n]?).toList) = _
    rw [if_neg (by simp), keepG_nil n, List.take_succ]
theorem keepG_none {α : Type} {xs : List α} : keepG [] xs xs.length = xs := by rw [keepG_nil, List.take_length]
theorem flip_flip (rs : List Row) : (rs.map flipR).map flipR = rs := by
  rw [List.map_map]
  exact List.map_id rs
end RM
namespace RM
open PySem PySem.Spec PyProof.Rows L2
/-! ### methods with a star parameter, with keywords -/
section
variable {X : Cx} {k j : Nat} {C : Addr} {m : Str} {sp : Sp} {apos pos : Pos} {e o : Expr} {es : List Expr} {ta : TE} {t tk : TA}
theorem cxUp0 : StX.CXUp CX0 := fun _ _ _ _ _ _ _ _ _ _ _ z => z
theorem fun_star {P : Program} {w : World} {K : PySem.W.Frag} {mg : Str → Option Value} {base : Heap} {x qual pv : Str} {params : Arguments} {body : List Stmt} {scope : Scope} {f : Addr} {fd : FuncData} {N ps : List Str}
    (F : FunD K x qual params body scope [] [] f fd) (S : FnScope N (ps ++ [pv]) scope)
    (hb : ∀ (kV doc pm : Value) (an : Option Addr) (cdv ct : Value) (us rest : List Value), us.length = ps.length → bindArgs (PySem.W.fnOf x qual params body scope .none kV doc pm an cdv ct) ⟨us ++ rest, []⟩ = (newTuple rest >>= fun t => pure (ps.zip us ++ [(pv, t)])))
    (hbody : ∀ (cdv : Value) (A : Around) (outer : List Env) (s : Shared) (H : Hp) (vs : List V) (Q : VK) (E : XK), Room k (A.deeper (envOfC qual scope s.heap.objs.size f cdv)) → sp vs H Q E →
      ∃ t, PSs (cxOf CX0 P w K mg base N qual scope f cdv A outer s H E) body t ∧ t { nx := fun _ H' => Q .non H', rt := Q } (L2.start N vs) H) :
    FnR P w K mg base CX0 (k + 1) f (fun vs H Q E => ∃ ws rest, vs = ws ++ rest ∧ ws.length = ps.length ∧ rest.length ≤ sizeLine ∧ ∀ p, H p = none → sp (ws ++ [V.ref p]) (upd H p (.tup rest)) Q E) := by
  obtain ⟨oc, od, dV, kV, doc, pm, an, cdv, ct, osl, rfl, lk, hcd, hD, _⟩ := F.ex
  rcases hD with ⟨_, rfl⟩ | ⟨e, _⟩
  · exact StX.fn_star lk hcd S cxUp0 (hb kV doc pm an cdv ct) fun A outer s H vs Q E hr h => hbody cdv A outer s H vs Q E hr h
  · exact absurd rfl e
/-- what is handed to a star parameter: a new tuple -/
def StarW (sp : Sp) : Sp := fun vs H Q E => ∃ x rest, vs = x :: rest ∧ rest.length ≤ 1000 ∧ ∀ p, H p = none → sp [x, V.ref p] (upd H p (.tup rest)) Q E
/-- a method def m(self, *v) -/
structure MetS (P : Program) (w : World) (K : PySem.W.Frag) (mg : Str → Option Value) (base : Heap) (k : Nat) (C : Addr) (m : Str) (sp : Sp) : Prop where
  ex : ∃ f : Addr, Cls K C ∧ Meth K C m f ∧ FnR P w K mg base CX0 k f (StarW sp)
theorem MetS.of {P : Program} {w : World} {K : PySem.W.Frag} {mg : Str → Option Value} {base : Heap} {f : Addr} {p0 : Str} (c : Cls K C) (hm : Meth K C m f)
    (F : FnR P w K mg base CX0 k f (fun vs H Q E => ∃ ws rest, vs = ws ++ rest ∧ ws.length = [p0].length ∧ rest.length ≤ sizeLine ∧ ∀ p, H p = none → sp (ws ++ [V.ref p]) (upd H p (.tup rest)) Q E)) : MetS P w K mg base k C m sp :=
  ⟨f, c, hm, F.imp fun vs H Q E ⟨x, rest, e, hl, q⟩ => ⟨[x], rest, e, rfl, szl (by omega), q⟩⟩
/-- o.m(es, kws) as it is run -/
def MC (X : Cx) (o : Expr) (m : Str) (apos pos : Pos) (es : List Expr) (kws : List Keyword) (pl : Sem Bool) : Prop :=
  eval (.Call (.Attribute o m apos) es kws pos) X.env = (eval o X.env >>= fun ov => standAt apos.atName >>= fun _ => holding [ov] (getMethod ov m pl) >>= fun q =>
    callWith pos q.1 q.2 (backTo pos (starEach es X.env)) (backToKw pos (keywordEach kws X.env)))
def NoStar (X : Cx) (pos : Pos) (e : Expr) (es : List Expr) : Prop := starEach (e :: es) X.env = (false, eval e X.env) :: starEach es X.env ∧ (backTo pos (starEach es X.env)).any (·.1) = false
theorem pe_mtS {pl : Sem Bool} (c : MetS X.prog X.w X.K X.mg X.base k C m sp) (hr : Room j X.A) (hk : k ≤ j) (he : PE X o ta) (ha : PA X (e :: es) t) (hst : NoStar X pos e es := by exact ⟨rfl, rfl⟩) (ht : MC X o m apos pos (e :: es) [] pl := by exact rfl) :
    PE X (.Call (.Attribute o m apos) (e :: es) [] pos) (tMethR C m (StarW sp) E0 ta t) := by
  obtain ⟨f, hc, hm, F⟩ := c.ex
  exact pe_methR (pl := pl) he hc hm F (hr.mono hk) C8.pass0 ha hst.1 hst.2 ht
theorem pe_mtS0 {pl : Sem Bool} (c : MetS X.prog X.w X.K X.mg X.base k C m sp) (hr : Room j X.A) (hk : k ≤ j) (he : PE X o ta) (ht : MC X o m apos pos [] [] pl := by exact rfl) :
    PE X (.Call (.Attribute o m apos) [] [] pos) (tMethR C m (StarW sp) E0 ta tNil) := by
  obtain ⟨f, hc, hm, F⟩ := c.ex
  refine ⟨fun pins s σ H Q I h => PySem.W.methodCall_KW (pl := pl) (thn (he.run pins s σ H _ I h) fun u s1 hu => ?_) ht⟩
  obtain ⟨x, H1, I1, rx, a, dx, fs, rfl, ea, l, q⟩ := hu
  cases rx
  refine getmeth_ok I1 ea hc hm l (PySem.W.callWith_K0 (first := [.ref a]) I1.kIn hm.kp ?_)
  exact wpAny_call (run_fnR (us := [.ref a]) (vs := [.ref a]) F (hr.mono hk) C8.pass0 I1 (.cons rfl .nil) q)
/-- a method called with keywords: n the number of positional values, self among them -/
structure MetK (P : Program) (w : World) (K : PySem.W.Frag) (mg : Str → Option Value) (base : Heap) (k : Nat) (C : Addr) (m : Str) (sp : Sp) (n : Nat) (ks : List Str) : Prop where
  ex : ∃ (f : Addr) (fd : FuncData) (ps : List Str), Cls K C ∧ Meth K C m f ∧ FnOk P w K mg base CX0 k f fd ps sp ∧ KBn K fd ps n ks (fun us ws => us ++ ws) (fun us ws => us ++ ws)
def tMethK (C : Addr) (m : Str) (n r : Nat) (sp : Sp) (ta : TE) (t tk : TA) : TE := fun σ H Q => ta σ H fun x H1 => ∃ a dx fs, x = .ref a ∧ H1 a = some (.ins C dx fs) ∧ fs.lookup m = none ∧ t σ H1 fun vs H2 => tk σ H2 fun zs H3 => (x :: vs).length = n ∧ zs.length = r ∧ sp (x :: (vs ++ zs)) H3 Q E0
def KwOk (X : Cx) (pos : Pos) (e : Expr) (es : List Expr) (kws : List Keyword) (ks : List Str) : Prop :=
  (backToKw pos (keywordEach kws X.env)).all (·.1.isSome) = true ∧ (backToKw pos (keywordEach kws X.env)).filterMap (·.1) = ks ∧ starEach (e :: es) X.env = (false, eval e X.env) :: starEach es X.env ∧
    ((backTo pos (starEach (e :: es) X.env)).any (·.1) || (backToKw pos (keywordEach kws X.env)).any (·.1.isNone)) = false
theorem pe_mtK {pl : Sem Bool} {n r : Nat} {ks : List Str} {kws : List Keyword} (c : MetK X.prog X.w X.K X.mg X.base k C m sp n ks) (hr : Room j X.A) (hk : k ≤ j) (he : PE X o ta) (ha : PA X (e :: es) t) (hkw : PK X kws tk)
    (hq : KwOk X pos e es kws ks := by exact ⟨rfl, rfl, rfl, rfl⟩) (ht : MC X o m apos pos (e :: es) kws pl := by exact rfl) (hl : ks.length = r := by rfl) : PE X (.Call (.Attribute o m apos) (e :: es) kws pos) (tMethK C m n r sp ta t tk) := by
  subst hl
  obtain ⟨f, fd, ps, hc, hm, F, hb⟩ := c.ex
  refine ⟨fun pins s σ H Q I h => PySem.W.methodCall_KW (pl := pl) (thn (he.run pins s σ H _ I h) fun u s1 hu => ?_) ht⟩
  obtain ⟨x, H1, I1, rx, a, dx, fs, rfl, ea, l, q⟩ := hu
  cases rx
  refine getmeth_ok I1 ea hc hm l (PySem.W.callWith_KW (first := [.ref a]) (h₀ := X.base) I.ok.mod.kin hm.kp hq.1 (thn (ha.run pos pins s1 σ H1 _ I1 q) fun us s2 hu => ?_) hq.2.2.2 hq.2.2.1)
  obtain ⟨vs, H2, I2, r, q2⟩ := hu
  refine thn (hkw.run pos pins s2 σ H2 _ I2 q2) fun ws s3 hw => ?_
  obtain ⟨zs, H3, I3, rz, l1, l2, q3⟩ := hw
  refine ⟨I3.kIn, ?_⟩
  rw [hq.2.1]
  exact run_fnN (us := .ref a :: us) (vs := .ref a :: vs) F (hr.mono hk) hb C8.pass0 I3 (.cons rfl r) rz l1 l2 q3
/-- keyword-only parameters, all given in their order; no positional defaults -/
theorem kbn_all {K : PySem.W.Frag} {x qual : Str} {params : Arguments} {body : List Stmt} {scope : Scope} {kws : List (Str × V)} {f : Addr} {fd : FuncData} {ps : List Str} (F : FunD K x qual params body scope [] kws f fd) (n : Nat) (ks : List Str)
    (h : ∀ (kV doc pm : Value) (an : Option Addr) (cdv ct : Value) (us ws : List Value), us.length = n → ws.length = ks.length → bindArgs (PySem.W.fnOf x qual params body scope .none kV doc pm an cdv ct) ⟨us, ks.zip ws⟩ = pure (ps.zip (us ++ ws))) : KBn K fd ps n ks (fun us ws => us ++ ws) (fun us ws => us ++ ws) := by
  obtain ⟨oc, od, dV, kV, doc, pm, an, cdv, ct, osl, rfl, lk, hcd, hD, _⟩ := F.ex
  rcases hD with ⟨_, rfl⟩ | ⟨e, _⟩
  · exact ⟨fun s us ws _ l1 l2 => .of_eq (h kV doc pm an cdv ct us ws l1 l2), fun r1 r2 => r1.append r2⟩
  · exact absurd rfl e
end
end RM
namespace RM
open PySem PySem.Spec PyProof.Rows L2
section
variable {σ : L2.St} {H : Hp} {Q : VK} {ta : TE} {tl tk : TA} {sp : Sp} {C : Addr} {m : Str}
def MetWK (C : Addr) (m : Str) (n r : Nat) (sp : Sp) (t tk : TA) (σ : L2.St) (Q : VK) (x : V) (H1 : Hp) : Prop := ∃ a dx fs, x = .ref a ∧ H1 a = some (.ins C dx fs) ∧ fs.lookup m = none ∧ t σ H1 fun vs H2 => tk σ H2 fun zs H3 => (x :: vs).length = n ∧ zs.length = r ∧ sp (x :: (vs ++ zs)) H3 Q E0
theorem wp_methK {n r : Nat} (h : ta σ H fun x H1 => MetWK C m n r sp tl tk σ Q x H1) : tMethK C m n r sp ta tl tk σ H Q := h
theorem met_atK {a dx : Addr} {fs : List (Str × V)} {n r : Nat} (ha : H a = some (.ins C dx fs)) (hl : fs.lookup m = none) (q : tl σ H fun vs H2 => tk σ H2 fun zs H3 => (V.ref a :: vs).length = n ∧ zs.length = r ∧ sp (.ref a :: (vs ++ zs)) H3 Q E0) : MetWK C m n r sp tl tk σ Q (.ref a) H := ⟨a, dx, fs, rfl, ha, hl, q⟩
end
end RM
namespace RM
open PySem PySem.Spec PyProof.Rows L2
/-! ### list(d.values()) -/
def tListVals (te : TE) : TE := fun σ H Q => te σ H fun x H1 => ∃ (d : Addr) (kvs : List (Key × V)), x = .ref d ∧ H1 d = some (.dK kvs) ∧ ∀ p, H1 p = none → Q (.ref p) (upd H1 p (.lst (kvs.map (·.2))))
theorem kv_snd : ∀ {kvs : List (Key × V)} {vs : List (Key × Value)}, KV kvs vs → Vals (kvs.map (·.2)) (vs.map (·.2))
  | _, _, .nil => .nil
  | _, _, .cons h t => .cons h.2 (kv_snd t)
section
variable {X : Cx} {e : Expr} {te : TE} {p apos cpos pos : Pos}
abbrev valsE (e : Expr) (apos cpos : Pos) : Expr := .Call (.Attribute e "values" apos) [] [] cpos
theorem pe_listVals (hc : X.calm = true) (he : PE X e te) (hg : Gl X "list") (hm : X.mg "list" = none) (hv : bootBuiltins "list" = some (.type "list")) (hb : attributeBase e "values" X.env (eval e X.env) = eval e X.env := by rfl) (hl : (apos.endLine == cpos.line) = true := by rfl)
    (hs : starEach [valsE e apos cpos] X.env = (false, eval (valsE e apos cpos) X.env) :: starEach [] X.env := by rfl) : PE X (.Call (.Name "list" p) [valsE e apos cpos] [] pos) (tListVals te) := by
  refine ⟨fun pins s σ H Q I hq => wpAny_Call_Name_kw (ld_blt I hg hm hv (PyProof.Rows.callWith_type1 ?_ hs rfl))⟩
  rw [hs]; show wpAny _ _ (spliced ((false, eval (valsE e apos cpos) X.env) :: backTo pos (starEach [] X.env))) _ _ s
  refine Calls.spliced_cons (wpAny_Call_method (T := "dict") (id := "dict.values") hb rfl hl F.plainAttrs_dict F.slot_dict_values F.type_dict_values (thn (he.run pins s σ H _ I hq) fun u s1 hu => ?_))
  obtain ⟨x, H1, I1, rx, d, kvs, rfl, hd, q⟩ := hu
  cases rx
  obtain ⟨hz, hs0, vs, kv, hdo⟩ := I1.hok d _ hd
  obtain ⟨ep, hat⟩ := hdo.dictAt
  have lk : kvs.length = vs.length := Paired.length kv
  have I2 : Inv X pins σ H1 { s1 with heap := s1.heap.push { cls := .type "dict_values", data := .fields #[.ref d] } } := I1.kept (t' := s1.toks) fun b ob w => Heap.get?_push_of_some _ w
  refine ⟨hdo.typeIs, hdo.mapOf.noDict, (?_ : wpAny _ _ (callWith cpos (.builtin "dict.values") [.ref d] [] []) _ X.xe s1)⟩
  refine method_meetsIn F.slot_dict_values F.entry_dict_values rfl (PySem.evalArgs_none ⟨rfl, hdo.typeIs, F.args_dict_values_1 _, _, meets_dict_values (mixKind X.prog X.w) d hs0, ⟨vs, hdo⟩, Calls.spliced_nil ?_⟩)
  refine PySem.W.kdl_call (PySem.W.kdl_values (knd := mixKind X.prog X.w) (kvs := vs) (ep := ep) (r := s1.heap.objs.size) (d := d)) (I1.ok.hd hc) ⟨⟨_, Heap.get?_push_size _ rfl, rfl, rfl⟩, hat.push _⟩ (by omega) fun h' tk acc c' hk hD hacc => ?_
  have ev : acc.toList = vs.map (·.2) := PySem.W.kdl_vals_eq acc.toList (by rw [Array.length_toList]; exact hacc.1) fun j v w => hacc.2 j v (by rw [← Array.getElem?_toList]; exact w)
  have hvv : Vals (kvs.map (·.2)) acc.toList := by rw [ev]; exact kv_snd kv
  exact ⟨.ref _, _, I2.laid (t' := tk) hk (Nat.le_refl _) (show ObjOk X.prog X.w _ _ _ (.lst (kvs.map (·.2))) from ⟨by rw [List.length_map]; exact hz, acc.toList, c', hvv, by rw [Array.toArray_toList]; exact hD⟩), rfl, q _ (I2.hok.fresh (Nat.le_refl _))⟩
end
end RM
namespace RM
open PySem PySem.Spec PyProof.Rows L2
/-! ### dict comprehensions -/
section
variable {σ : L2.St} {H : Hp} {Q : VK} {K : PySem.W.Frag} {g : TG} {tt : TT} {tk tv ta : TE} {vs : List Nat}
def DcW (J : It) (g : TG) (tt : TT) (tk tv : TE) (vs : List Nat) (σ : L2.St) (H1 : Hp) (Q : VK) : Prop := tDc (fun _ H R => R J H) g tt tk tv vs σ H1 Q
theorem wp_dcL (h : ta σ H fun x H1 => ∃ a, x = .ref a ∧ (∃ xs, SqL K H1 a xs) ∧ DcW (Itl K a) g tt tk tv vs σ H1 Q) : tDc (iList K ta) g tt tk tv vs σ H Q := h
theorem dcL {a : Addr} {xs : List V} (hx : SqL K H a xs) (hn : xs.length ≤ 100000) (kv : Nat → List (Key × V)) (h0 : kv 0 = []) (hlen : ∀ i, (kv i).length ≤ i)
    (hs : ∀ i x H2 (R : V → V → Hp → Prop), xs[i]? = some x → Same H H2 → (∀ k z H5, Same H2 H5 → kv (i + 1) = putK (kv i) k z → R (kV k) z H5) → g x (wipe σ vs) H2 fun σ2 H3 => wipe σ2 vs = wipe σ vs ∧ tk σ2 H3 fun y H4 => tv σ2 H4 fun z H5 => R y z H5)
    (hq : ∀ D H2, H D = none → Same H H2 → H2 D = some (.dK (kv xs.length)) → Q (.ref D) H2) : ∃ b, V.ref a = .ref b ∧ (∃ ys, SqL K H b ys) ∧ DcW (Itl K b) g tYes tk tv vs σ H Q := by
  refine ⟨a, rfl, ⟨xs, hx⟩, ?_⟩
  intro D hD
  refine ⟨fun i m H2 => m = xs.length - i ∧ i ≤ xs.length ∧ Same H H2 ∧ H2 D = some (.dK (kv i)), ⟨xs.length, by simp, Nat.zero_le _, Same.new hD, by rw [h0]; exact upd_same⟩, ?_⟩
  rintro i m H2 ⟨rfl, hi, s1, hD2⟩
  have hx2 := Same.seq s1 hx
  rcases Nat.lt_or_ge i xs.length with h | h
  · right
    refine ⟨⟨xs, xs[i], hx2, List.getElem?_eq_getElem h⟩, fun H' => Same H H' ∧ H' D = some (.dK (kv (i + 1))), fun H' hN => ⟨xs.length - (i + 1), by omega, rfl, by omega, hN⟩, fun x H' hy => ?_⟩
    obtain ⟨e, hy⟩ := hy
    subst e
    have hxi := hy xs hx2
    exact hs i x _ (fun y z H5 => ∃ kvs k, y = kV k ∧ H5 D = some (.dK kvs) ∧ kvs.length < sizeLine ∧ (Same H (upd H5 D (.dK (putK kvs k z))) ∧ upd H5 D (.dK (putK kvs k z)) D = some (.dK (kv (i + 1))))) hxi s1 fun k z H5 s5 e => ⟨kv i, k, rfl, s5 _ _ hD2, szlt (by have := hlen i; omega), Same.mut (s1.trans s5) hD, by rw [e]; exact upd_same⟩
  · left
    have e : i = xs.length := by omega
    subst e
    exact ⟨⟨xs, hx2, Nat.le_refl _⟩, hq D H2 hD s1 hD2⟩
end
end RM
namespace RM
/-! ### pieces: labels that are merged -/
section
variable {α : Type} [DecidableEq α]
def mrg (L : α → α) (e : α × α) : α → α := fun x => if L x = L e.2 then L e.1 else L x
def lead (es : List (α × α)) : α → α := es.foldl mrg id
theorem mrg_eq {L : α → α} {e : α × α} : mrg L e e.1 = mrg L e e.2 := by
  unfold mrg
  rw [if_pos rfl]
  split <;> rfl
theorem mrg_mono {L : α → α} {e : α × α} {x y : α} (h : L x = L y) : mrg L e x = mrg L e y := by
  unfold mrg
  rw [h]
theorem foldl_mono : ∀ (es : List (α × α)) {L : α → α} {x y : α}, L x = L y → es.foldl mrg L x = es.foldl mrg L y
  | [], _, _, _, h => h
  | _ :: es, _, _, _, h => foldl_mono es (mrg_mono h)
theorem foldl_edge : ∀ {es : List (α × α)} {L : α → α} {e : α × α}, e ∈ es → es.foldl mrg L e.1 = es.foldl mrg L e.2
  | d :: es, L, e, h => by
    rcases List.mem_cons.mp h with rfl | h
    · exact foldl_mono es mrg_eq
    · exact foldl_edge (es := es) (L := mrg L d) h
/-- the two ends of an edge have one label -/
theorem lead_edge {es : List (α × α)} {e : α × α} (h : e ∈ es) : lead es e.1 = lead es e.2 := foldl_edge h
theorem foldl_closed {F : α → Prop} : ∀ {es : List (α × α)} {L : α → α}, (∀ e ∈ es, F e.1 ↔ F e.2) → (∀ x y, L x = L y → (F x ↔ F y)) → ∀ x y, es.foldl mrg L x = es.foldl mrg L y → (F x ↔ F y)
  | [], _, _, h, x, y, e => h x y e
  | d :: es, L, hc, h, x, y, e => by
    refine foldl_closed (es := es) (L := mrg L d) (fun e he => hc e (List.mem_cons_of_mem _ he)) (fun a b hab => ?_) x y e
    have hd := hc d List.mem_cons_self
    unfold mrg at hab
    split at hab
    · rename_i ha
      split at hab
      · rename_i hb
        exact h a b (ha.trans hb.symm)
      · exact (h a d.2 ha).trans (hd.symm.trans (h d.1 b hab))
    · split at hab
      · rename_i hb
        exact (h a d.1 hab).trans (hd.trans (h b d.2 hb).symm)
      · exact h a b hab
/-- things of one label are together in every set that the edges don't leave -/
theorem lead_closed {F : α → Prop} {es : List (α × α)} (hc : ∀ e ∈ es, F e.1 ↔ F e.2) {x y : α} (h : lead es x = lead es y) : F x ↔ F y :=
  foldl_closed hc (fun a b e => by
    have e2 : a = b := e
    rw [e2]) x y h
/-- the labels of the first i names, each once, in the order of their first names -/
def labs (f : α → α) (ns : List α) : Nat → List α
  | 0 => []
  | i + 1 => match ns[i]? with
    | none => labs f ns i
    | some x => if f x ∈ labs f ns i then labs f ns i else labs f ns i ++ [f x]
theorem labs_mem {f : α → α} {ns : List α} {l : α} : ∀ {i : Nat}, l ∈ labs f ns i ↔ ∃ x ∈ ns.take i, f x = l
  | 0 => by simp [labs]
  | i + 1 => by
    unfold labs
    rw [List.take_succ]
    cases e : ns[i]? with
    | none => simp [labs_mem (i := i)]
    | some x =>
      simp only [Option.toList_some, List.mem_append, List.mem_singleton]
      constructor
      · intro h
        split at h
        · obtain ⟨y, hy, e⟩ := labs_mem.mp h
          exact ⟨y, .inl hy, e⟩
        · rcases List.mem_append.mp h with h | h
          · obtain ⟨y, hy, e⟩ := labs_mem.mp h
            exact ⟨y, .inl hy, e⟩
          · exact ⟨x, .inr rfl, (List.mem_singleton.mp h).symm⟩
      · rintro ⟨y, hy | rfl, h⟩
        · have := labs_mem.mpr ⟨y, hy, h⟩
          split
          · exact this
          · exact List.mem_append_left _ this
        · split
          · rename_i hh
            rw [← h]; exact hh
          · rw [← h]
            exact List.mem_append_right _ (List.mem_singleton.mpr rfl)
theorem labs_succ {f : α → α} {ns : List α} {i : Nat} {x : α} (h : ns[i]? = some x) : labs f ns (i + 1) = if f x ∈ labs f ns i then labs f ns i else labs f ns i ++ [f x] := by
  rw [labs, h]
/-- the pieces by the labels f -/
def grp (f : α → α) (ns : List α) : List (List α) := (labs f ns ns.length).map fun l => ns.filter fun x => decide (f x = l)
end
end RM
namespace RM
open PySem PySem.Spec PyProof.Rows L2
/-! ### dicts: items, walks -/
theorem u1 {n : Nat} {A : Around} (h : Room n A) : A.units + 1 < cLine := by have := h.units; omega
section
variable {σ : L2.St} {H : Hp} {Q : VK} {K : PySem.W.Frag} {g : TG} {tt : TT} {tk tv te td ty tx : TE} {vs : List Nat} {kvs : List (Key × V)} {d : Addr} {v : V}
theorem wp_dgetE (h : td σ H fun x H1 => ty σ H1 fun y H2 => ∃ a v, x = .ref a ∧ DGet H2 a y (some v) ∧ Q v H2) : tDGet td ty σ H Q := h
theorem dget_at {R : V → Prop} {k : Key} (hd : Rd H d (.dK kvs)) (hv : valV kvs k = some v) (q : R v) : ∃ a v, V.ref d = .ref a ∧ DGet H a (kV k) (some v) ∧ R v := ⟨d, v, rfl, .inl ⟨kvs, k, hd, rfl, hv.symm⟩, q⟩
theorem dget_s {R : V → Prop} {l : List Nat} (hd : Rd H d (.dK kvs)) (hv : valV kvs (.inr (S l)) = some v) (q : R v) : ∃ a v, V.ref d = .ref a ∧ DGet H a (.str (S l)) (some v) ∧ R v := ⟨d, v, rfl, .inl ⟨kvs, .inr (S l), hd, rfl, hv.symm⟩, q⟩
theorem wp_dnew (h : ∀ p, H p = none → Q (.ref p) (upd H p (.dK []))) : tDNewK σ H Q := h
theorem wp_lockE {t : TE} (hd : H d = some (.dK kvs)) (h : ∀ od, t σ (upd H d (.frz od (.dK kvs))) fun v H' => H' d = some (.frz od (.dK kvs)) ∧ Q v (upd H' d (.dK kvs))) : tLockE t σ H Q := ⟨d, _, hd, True.intro, h⟩
theorem unl {od : Obj} {H' : Hp} (hd : H d = some (.dK kvs)) (s : Same (upd H d (.frz od (.dK kvs))) H') : Same H (upd H' d (.dK kvs)) := fun a o h => by
  by_cases e : a = d
  · subst e; rw [hd] at h; cases h; exact upd_same
  · rw [upd_ne e]; exact s _ _ (by rw [upd_ne e]; exact h)
theorem frz_at {od : Obj} {H2 : Hp} (s : Same (upd H d (.frz od (.dK kvs))) H2) : H2 d = some (.frz od (.dK kvs)) := s _ _ upd_same
theorem frz_ne {od : Obj} {H2 : Hp} {a : Addr} {o : HO} (hd : H d = some (.dK kvs)) (s : Same (upd H d (.frz od (.dK kvs))) H2) (h : H a = some o) (n : ∀ kvs, o ≠ .dK kvs) : H2 a = some o := s _ _ (by
  rw [upd_ne (fun e => by rw [e, hd] at h; cases h; exact n _ rfl)]; exact h)
/-- a dict comprehension over a dict's keys -/
theorem lock_dc (hd : H d = some (.dK kvs)) (hn : kvs.length ≤ 100000) (hv : ∀ H' (R : VK), R (.ref d) H' → td σ H' R)
    (kv : Nat → List (Key × V)) (h0 : kv 0 = []) (hlen : ∀ i, (kv i).length ≤ i)
    (hs : ∀ i k x od H2 (R : V → V → Hp → Prop), kvs[i]? = some (k, x) → Same (upd H d (.frz od (.dK kvs))) H2 → (∀ k' z H5, Same H2 H5 → kv (i + 1) = putK (kv i) k' z → R (kV k') z H5) →
      g (kV k) (wipe σ vs) H2 fun σ2 H3 => wipe σ2 vs = wipe σ vs ∧ tk σ2 H3 fun y H4 => tv σ2 H4 fun z H5 => R y z H5)
    (hq : ∀ D H2, H D = none → Same H H2 → H2 D = some (.dK (kv kvs.length)) → Q (.ref D) H2) : tLockE (tDc (iKeys td) g tYes tk tv vs) σ H Q := by
  refine wp_lockE hd fun od => ?_
  refine hv _ _ ⟨d, od, rfl, .inl ⟨kvs, upd_same, ?_⟩⟩
  intro D hD
  have nDd : D ≠ d := fun e => by rw [e, upd_same] at hD; cases hD
  have hD' : H D = none := by rw [upd_ne nDd] at hD; exact hD
  refine ⟨fun i m H2 => m = kvs.length - i ∧ i ≤ kvs.length ∧ Same (upd H d (.frz od (.dK kvs))) H2 ∧ H2 D = some (.dK (kv i)), ⟨kvs.length, by simp, Nat.zero_le _, Same.new hD, by rw [h0]; exact upd_same⟩, ?_⟩
  rintro i m H2 ⟨rfl, hi, s1, hD2⟩
  have hf := frz_at s1
  rcases Nat.lt_or_ge i kvs.length with h | h
  · right
    refine ⟨⟨hf, h⟩, fun H' => Same (upd H d (.frz od (.dK kvs))) H' ∧ H' D = some (.dK (kv (i + 1))), fun H' hN => ⟨kvs.length - (i + 1), by omega, rfl, by omega, hN⟩, fun x H' hy => ?_⟩
    obtain ⟨e, k, v, hkv, rfl⟩ := hy
    subst e
    exact hs i k v od _ (fun y z H5 => ∃ kvs' k, y = kV k ∧ H5 D = some (.dK kvs') ∧ kvs'.length < sizeLine ∧ (Same (upd H d (.frz od (.dK kvs))) (upd H5 D (.dK (putK kvs' k z))) ∧ upd H5 D (.dK (putK kvs' k z)) D = some (.dK (kv (i + 1))))) hkv s1 fun k z H5 s5 e => ⟨kv i, k, rfl, s5 _ _ hD2, szlt (by have := hlen i; omega), Same.mut (s1.trans s5) hD, by rw [e]; exact upd_same⟩
  · left
    have e : i = kvs.length := by omega
    subst e
    exact ⟨⟨hf, Nat.le_refl _⟩, hf, hq D _ hD' (unl hd s1) (by rw [upd_ne nDd]; exact hD2)⟩
/-- d.setdefault(k, []).append(x) and the like -/
theorem wp_dsetd (h : td σ H fun x H1 => ∃ a, x = .ref a ∧ IsD H1 a ∧ ty σ H1 fun y H2 => tx σ H2 fun z H3 => ∃ (kvs : List (Key × V)) (k : Key), H3 a = some (.dK kvs) ∧ y = kV k ∧ kvs.length < sizeLine ∧
  (∀ v, valV kvs k = some v → Q v H3) ∧ (valV kvs k = none → Q z (upd H3 a (.dK (putK kvs k z))))) : tDSetd td ty tx σ H Q := h
theorem wp_lv (h : te σ H fun x H1 => ∃ (d : Addr) (kvs : List (Key × V)), x = .ref d ∧ H1 d = some (.dK kvs) ∧ ∀ p, H1 p = none → Q (.ref p) (upd H1 p (.lst (kvs.map (·.2))))) : tListVals te σ H Q := h
end
/-- a dict by names -/
def dN (f : List Nat → V) (ns : List (List Nat)) : List (Key × V) := ns.map fun l => (.inr (S l), f l)
theorem dN_len {f : List Nat → V} {ns : List (List Nat)} : (dN f ns).length = ns.length := List.length_map ..
theorem key_inj {a b : List Nat} (h : (Sum.inr (S a) : Key) = .inr (S b)) : a = b := by
  injection h with h
  exact S_inj h
theorem dN_val {f : List Nat → V} {l : List Nat} : ∀ {ns : List (List Nat)}, l ∈ ns → valV (dN f ns) (.inr (S l)) = some (f l)
  | m :: ns, h => by
    by_cases e : m = l
    · subst e
      exact valV_pos rfl
    · show valV ((Sum.inr (S m), f m) :: dN f ns) _ = _
      have ne : ¬ ((Sum.inr (S m), f m) : Key × V).1 = (Sum.inr (S l) : Key) := fun z => e (key_inj z)
      rw [valV_neg ne]
      exact dN_val ((List.mem_cons.mp h).resolve_left (Ne.symm e))
theorem dN_none {f : List Nat → V} {l : List Nat} : ∀ {ns : List (List Nat)}, l ∉ ns → valV (dN f ns) (.inr (S l)) = none
  | [], _ => rfl
  | m :: ns, h => by
    show valV ((Sum.inr (S m), f m) :: dN f ns) _ = _
    have ne : ¬ ((Sum.inr (S m), f m) : Key × V).1 = (Sum.inr (S l) : Key) := fun z => h (by rw [key_inj z]; exact List.mem_cons_self)
    rw [valV_neg ne]
    exact dN_none fun z => h (List.mem_cons_of_mem _ z)
theorem dN_put {f : List Nat → V} {l : List Nat} {ns : List (List Nat)} (h : l ∉ ns) : putK (dN f ns) (.inr (S l)) (f l) = dN f (ns ++ [l]) := by
  rw [putK_new _ (dN_none h)]
  unfold dN
  rw [List.map_append]
  rfl
theorem dN_at {f : List Nat → V} {ns : List (List Nat)} {i : Nat} {k : Key} {x : V} (h : (dN f ns)[i]? = some (k, x)) : ∃ l, ns[i]? = some l ∧ k = .inr (S l) ∧ x = f l := by
  unfold dN at h
  rw [List.getElem?_map] at h
  obtain ⟨l, hl, e⟩ := Option.map_eq_some_iff.mp h
  cases e
  exact ⟨l, hl, rfl, rfl⟩
theorem dN_congr {f g : List Nat → V} {ns : List (List Nat)} (h : ∀ l ∈ ns, f l = g l) : dN f ns = dN g ns := List.map_congr_left fun l hl => by rw [h l hl]
theorem take_snoc {α : Type} {ns : List α} {i : Nat} {l : α} (h : ns[i]? = some l) : ns.take (i + 1) = ns.take i ++ [l] := by
  obtain ⟨hl, e⟩ := List.getElem?_eq_some_iff.mp h
  rw [← e, List.take_append_getElem]
end RM
namespace RM
open PySem PySem.Spec PyProof.Rows L2
/-! ### y = {k: v for ..} -/
section
variable {X : Cx}
theorem swap_dc {a b : Expr} {gens : List Comprehension} {sc : Scope} {cp np : Pos} {nm : Str} {ln : Nat} {en : Env}
    (h1 : en.scope.kind = .function) (h2 : en.scope.names.lookup nm = some .local)
    (h3 : (np.line == cp.line) = true) (h4 : (sc.names.any fun (n, k) => n == nm && (k == .local || k == .cell)) = false) :
    swapsWith (.DictComp a b gens sc cp) (some (.Name nm np)) ln en = pure true := by
  have q1 : en.kindOf nm = some .local := h2
  have q2 : en.blockKind = .function := by
    unfold Env.blockKind
    rw [h1]
    rfl
  unfold swapsWith
  simp only [q2, q1, h4, Expr.pos, h3]
  rfl
theorem ps_setDc {j : Nat} {nm : Str} {np cp sp' : Pos} {a b tgt it : Expr} {cs : List Expr} {sc : Scope} {mine : List (Str × Nat)} {rd : TI} {gt : TG} {tt : TT} {tk tv : TE}
    (calm : X.calm = true) (nod : X.N.Nodup) (at_ : X.N[j]? = some nm) (loc : X.env.scope.names.lookup nm = some .local)
    (sw : swapsWith (.DictComp a b [⟨tgt, it, cs, 0⟩] sc cp) (some (.Name nm np)) sp'.line X.env = pure true)
    (hi : PI X tgt it rd) (blk : BlkOk X.N X.env.scope sc mine)
    (hg : ∀ s H C cl fp, PG (X.blk s H sc (compEnvC sc cl C X.env) fp) tgt gt) (ht : ∀ s H C cl fp, PTs (X.blk s H sc (compEnvC sc cl C X.env) fp) cs tt)
    (hk : ∀ s H C cl fp, PE (X.blk s H sc (compEnvC sc cl C X.env) fp) a tk) (hv : ∀ s H C cl fp, PE (X.blk s H sc (compEnvC sc cl C X.env) fp) b tv)
    (fo : ∀ x, foldedSetIterable it X.env x = pure x := by intro _; rfl) :
    PS X (.Assign [.Name nm np] (.DictComp a b [⟨tgt, it, cs, 0⟩] sc cp) sp') (tAsg (tDc rd gt tt tk tv (mine.map (·.2))) (gName j)) := by
  constructor
  intro pins s σ H D I h
  rw [exec_Assign_Name_used _ _ _ _ sw]
  refine wpAny_bind (wpAny_standAt (wpAny_bind ?_))
  show wpAny _ X.A (do
    let _ ← comprehension (.DictComp a b [⟨tgt, it, cs, 0⟩] sc cp) sc X.env (firstIterPos [⟨tgt, it, cs, 0⟩] cp) newDict false (eval it X.env) (some (assign (.Name nm np) X.env))) _ _ s
  have h2 : tDc rd gt tt tk tv (mine.map (·.2)) σ H (fun x H1 => gName j x σ H1 D.nx) := h
  have core := dc_core (pos := cp) (pos' := firstIterPos [⟨tgt, it, cs, 0⟩] cp) (use := some (assign (.Name nm np) X.env)) (Qf := fun _ s' => SP X pins D .next s') calm nod I hi blk hg ht hk hv fo h2 ?_
  · exact wpAny_bind (wpAny_mono core (fun _ s' z => wpAny_pure (wpAny_pure z)) fun _ _ e => e)
  intro L C s' m H' I' q young fr
  show wpAny _ _ (assign (.Name nm np) X.env (.ref L)) _ _ _
  refine wpAny_assign_Name (store_ok2 (v := V.ref L) I' nod at_ (.inl loc) rfl (fun s2 I2 z => ?_) (.inr loc))
  obtain ⟨w', sb, hw⟩ := z
  obtain ⟨r0, r1, r2, r3, r4, r5⟩ := fr
  have apart : C ≠ w' := by
    cases hw with
    | inl z => rw [z]; exact r1
    | inr z => exact fun e => r4 nm w' z e.symm
  refine ⟨m, young.sameBut sb apart, fun h3 sb3 => ⟨_, H', ?_, q⟩⟩
  exact I2.turned (t' := s2.toks) (fun c o hc e => (sb3.2 c hc).trans e) r0 r1 r3 r4 r5
end
end RM
namespace RM
open PySem PySem.Spec PyProof.Rows L2 ItX
/-! ### for x in o: o of an own class whose __iter__ hands out a young iterator -/
/-- a def that may know how large the heap was when it was called -/
structure FnN (P : Program) (w : World) (K : PySem.W.Frag) (mg : Str → Option Value) (base : Heap) (k : Nat) (f : Addr) (fd : FuncData) (ps : List Str) (sp : Nat → Sp) : Prop where
  len : ∀ n vs H Q E, sp n vs H Q E → vs.length = ps.length
  run : ∀ A outer s H (args : Args) us vs Q E, Room k A → Env0 P w K mg base A outer s H → BindsTo s fd args (ps.zip us) → Vals vs us → sp s.heap.objs.size vs H Q E →
    codeAny (model P w) A (.call (.ref f) args) (CR CX0 outer P w H s Q E) s
theorem fn_young {P : Program} {w : World} {K : PySem.W.Frag} {mg : Str → Option Value} {base : Heap} {k : Nat} {f : Addr} {x qual : Str} {params : Arguments} {body : List Stmt} {scope : Scope} {fd : FuncData} {N ps : List Str} {sp : Nat → Sp}
    (F : FunD K x qual params body scope [] [] f fd) (S : FnScope N ps scope) (len : ∀ n vs H Q E, sp n vs H Q E → vs.length = ps.length)
    (hb : ∀ cdv A outer (s : Shared) H vs Q E, Room k (A.deeper (envOfC qual scope s.heap.objs.size f cdv)) → sp s.heap.objs.size vs H Q E →
      ∃ t, PSs (cxOf CX0 P w K mg base N qual scope f cdv A outer s H E) body t ∧ t { nx := fun _ H' => Q .non H', rt := Q } (L2.start N vs) H) : FnN P w K mg base (k + 1) f fd ps sp := by
  obtain ⟨oc, od, dV, kV, doc, pm, an, cdv, ct, osl, rfl, look, cod, _⟩ := F.ex
  refine ⟨len, ?_⟩
  intro A outer s H args us vs Q E room env bnd rel prem
  have cnt := len _ _ _ _ _ prem
  have up : ∀ b o, base.get? b = some o → s.heap.get? b = some o := fun b o z => (env.bs b o z).1
  have inK : K.In s.heap := env.mod.kin.keeps up
  refine codeAny_call_function room.depth (inK _ _ look) rfl S.co S.gen rfl (PySem.W.codeRec_of inK cod) (bnd _ _ _ _ ?_)
  refine wpAny_newFunctionEnv_cells S.kind ?_ fun en he s1 z => ?_
  · rintro ⟨m, v⟩ hm
    cases S.par m (List.of_mem_zip hm).1 with
    | inl q => exact .inl q
    | inr q => exact .inr ⟨q, PySem.W.cellsFrom_some _ _ _ (.inl q)⟩
  subst he
  refine ⟨(env.mod.nolimit.keeps up).keeps z.toInCall.keep, codeAny_func ?_⟩
  obtain ⟨t, ht, hq⟩ := hb cdv A outer s H vs Q E (room.deeper _) prem
  have I0 := inv_start (CX := CX0) (E := E) S room.hd env cnt rel z
  refine wpAny_mono (ht.run [] s1 (L2.start N vs) H _ I0 hq) (fun fl s' hs => ?_) fun _ _ hs => hs
  cases fl with
  | ret u =>
    obtain ⟨v, σ', H', J, rv, q⟩ := hs
    exact ⟨v, H', J.os, J.bare, J.base, J.hok, rv, q⟩
  | next =>
    obtain ⟨σ', H', J, q⟩ := hs
    exact ⟨V.non, H', J.os, J.bare, J.base, J.hok, rfl, q⟩
  | brk => exact hs.choose_spec.choose_spec.2.elim
  | cont => exact hs.choose_spec.choose_spec.2.elim
/-- an iterator over the locked dict d -/
def KeyIt (d : Addr) (o : Obj) (n it : Addr) : HO := .ext fun h => ∃ (es : Array DictEntry) (ep : Nat), o.data = .dict es ep ∧ h.IsKeyIter it d 0 n ep
def rIterK (n : Nat) : List V → Hp → VK → Prop := fun xs H Q => ∃ (d : Addr) (o : Obj) (kvs : List (Key × V)), xs = [.ref d] ∧ H d = some (.frz o (.dK kvs)) ∧ ∀ it, H it = none → n ≤ it → Q (.ref it) (upd H it (KeyIt d o kvs.length it))
section
variable {X : Cx}
theorem call_iterK : CallR X (.builtin "iter") (rIterK X.s_0.heap.objs.size) := by
  intro pins s σ H xs us Q I r h
  obtain ⟨d, o, kvs, rfl, hd, q⟩ := h
  obtain ⟨u, rfl, ru⟩ := r.one
  cases ru
  obtain ⟨hs, hgd, hx, es, ep, vs, hdt, hsz, kv, hm⟩ := I.frzK hd
  refine Calls.call_function_entry (by decide +kernel) (by decide +kernel) PySem.W.kdk_entry_iter (PySem.W.kdk_args_iter _) ?_
  unfold Builtin.«iter»
  refine wpAny_bind (m := someArgs "iter" 1 2 _) (wpAny_of_eq (a := [Value.ref d]) (by first | rfl | kernel_rfl!) ?_)
  show wpAny _ _ (pyIter (.ref d) >>= _) _ _ _
  refine wpAny_bind (iter_keys hs hgd hx hdt ?_)
  have ki : (s.heap.push { cls := .type "dict_keyiterator", data := .fields #[.ref d, .int 0 0, .int es.size 0, .int ep 0] }).IsKeyIter s.heap.objs.size d 0 kvs.length ep := ⟨_, Heap.get?_push_size _ rfl, rfl, by rw [hsz] <;> rfl⟩
  have ko : ∀ {H2 : Hp}, ObjOk X.prog X.w H2 (s.heap.push { cls := .type "dict_keyiterator", data := .fields #[.ref d, .int 0 0, .int es.size 0, .int ep 0] }) s.heap.objs.size (KeyIt d o kvs.length s.heap.objs.size) := fun {H2} =>
    ⟨⟨es, ep, hdt, ki⟩, ⟨_, Heap.get?_push_size _ rfl⟩, fun h1 h2 z kk => by
      obtain ⟨es', ep', e1, ob, e2, e3, e4⟩ := z
      exact ⟨es', ep', e1, ob, kk _ e2, e3, e4⟩⟩
  exact wpAny_pure ⟨_, rfl, .ref s.heap.objs.size, _, I.laid (t' := s.toks) (fun b u e => Heap.get?_push_of_some _ e) (Nat.le_refl _) ko, rfl, q _ (I.hok.fresh (Nat.le_refl _)) I.sz⟩
end
/-- __iter__ of the class at C -/
structure ItrN (P : Program) (w : World) (K : PySem.W.Frag) (mg : Str → Option Value) (base : Heap) (n : Nat) (C : Addr) (sp : Nat → Sp) : Prop where
  ex : ∃ (f : Addr) (fd : FuncData) (ps : List Str), PySem.W.findIn K (.ref C) "__iter__" = some (some (.ref f)) ∧ PySem.W.isFn K (.ref f) = true ∧ FnN P w K mg base n f fd ps sp ∧ Binds K fd ps []
/-- what __iter__ promises: iter(self.F), F a list or a locked dict -/
def spYoung (K : PySem.W.Frag) (C : Addr) (F : Str) (n : Nat) : Sp := fun vs H Q _ => ∃ a dx fs l zs, vs = [.ref a] ∧ H a = some (.ins C dx fs) ∧ fs.lookup F = some (.ref l) ∧ SqL K H l zs ∧ ∀ it, H it = none → n ≤ it → Q (.ref it) (upd H it (ItO l it 0))
def spYoungK (C : Addr) (F : Str) (n : Nat) : Sp := fun vs H Q _ => ∃ a dx fs d o kvs, vs = [.ref a] ∧ H a = some (.ins C dx fs) ∧ fs.lookup F = some (.ref d) ∧ H d = some (.frz o (.dK kvs)) ∧ ∀ it, H it = none → n ≤ it → Q (.ref it) (upd H it (KeyIt d o kvs.length it))
theorem dropH_upd' {H : Hp} {a : Addr} {o : HO} (h : H a = none) : dropH (upd H a o) a = H := by
  funext b
  by_cases e : b = a
  · rw [e, dropH_same, h]
  · rw [dropH_ne e, upd_ne e]
def iOwnL (K : PySem.W.Frag) (C : Addr) (F : Str) (te : TE) : TI := fun σ H R => te σ H fun x H1 => ∃ a dx fs l zs, x = .ref a ∧ H1 a = some (.ins C dx fs) ∧ fs.lookup F = some (.ref l) ∧ SqL K H1 l zs ∧ R (Itl K l) H1
def iOwnK (C : Addr) (F : Str) (te : TE) : TI := fun σ H R => te σ H fun x H1 => ∃ a dx fs d o kvs, x = .ref a ∧ H1 a = some (.ins C dx fs) ∧ fs.lookup F = some (.ref d) ∧ H1 d = some (.frz o (.dK kvs)) ∧ R (Itk d o kvs) H1
section
variable {X : Cx} {tg e : Expr} {te : TE} {C : Addr} {F : Str} {n j : Nat} {pins : List (Addr × Obj)} {σ : L2.St} {H : Hp} {s : Shared} {A : Around} {f : Addr} {fd : FuncData} {ps : List Str} {sp : Nat → Sp}
theorem run_young {E' : Value → Shared → Prop} (sb : Sub X n A) (G : FnN X.prog X.w X.K X.mg X.base n f fd ps sp) (hb : Binds X.K fd ps []) (I : Inv X pins σ H s) {us : List Value} {vs : List V} {Q : VK} (r : Vals vs us) (h : sp s.heap.objs.size vs H Q E0) :
    wpAny (model X.prog X.w) A (call (.ref f) us) (EP X pins σ Q) E' s := by
  have e0 : Env0 X.prog X.w X.K X.mg X.base A X.stack s H := by
    have e := I.env0
    exact ⟨by rw [sb.fr]; exact e.frames, e.mod, e.bs, e.bsz, e.funs, e.frf, e.hok, e.bare⟩
  have hl := G.len _ _ _ _ _ h
  have bt := hb s us I.kIn (by rw [List.append_nil, ← r.length]; exact hl)
  rw [List.append_nil] at bt
  refine wpAny_call (codeAny_mono (G.run A X.stack s H ⟨us, []⟩ us vs Q E0 sb.room e0 bt r h) fun r s' hq => ?_)
  match r with
  | .error e => exact hq.elim
  | .ok (.ret u) => exact I.after hq
  | .ok .next => exact hq.elim
  | .ok .brk => exact hq.elim
  | .ok .cont => exact hq.elim
theorem pi_ownL (G : ItrN X.prog X.w X.K X.mg X.base n C (spYoung X.K C F)) (hr : Room j X.A) (hk : n ≤ j) (he : PE X e te) : PI X tg e (iOwnL X.K C F te) := by
  obtain ⟨f, fd, ps, hs, hf, FN, hb⟩ := G.ex
  refine ⟨fun pins s σ H R I h => ?_⟩
  refine thn (he.run pins s σ H _ I h) fun u s1 ⟨x, H1, I1, rx, a, dx, fs, l, zs, ex, ea, lk, sq, q⟩ => ?_
  subst ex
  obtain rfl : u = Value.ref a := rx
  obtain ⟨od, J⟩ := inst_of I1 ea
  obtain ⟨m, hF⟩ := I1.fr
  refine PySem.W.owit_iter hF I1.ok.mod.kin J hs hf ?_
  refine wpAny_mono (run_young (us := [.ref a]) (vs := [.ref a]) (Q := fun v H2 => ∃ it, v = .ref it ∧ H1 it = none ∧ s1.heap.objs.size ≤ it ∧ H2 = upd H1 it (ItO l it 0)) ⟨hr.mono hk, rfl⟩ FN hb I1 (.cons rfl .nil) ⟨a, dx, fs, l, zs, rfl, ea, lk, sq, fun it h1 h2 => ⟨it, rfl, h1, h2, rfl⟩⟩) (fun u s2 hu => ?_) fun _ _ e => e
  obtain ⟨v, H2, I2, rv, it, rfl, hn, hle, rfl⟩ := hu
  cases rv
  have ito := itO_get I2 upd_same
  have hT : s2.TypeIs (.ref it) "list_iterator" := ⟨_, ito, rfl⟩
  unfold PySem.W.OwitIt
  show wpAny _ _ (typeOf (.ref it) >>= fun t => typeLookup t "__next__") _ _ _
  refine wpAny_bind (wpAny_typeOf hT (wpAny_of_eq slot_listiter_next.lookup ?_))
  have hi' : upd H1 it (ItO l it 0) it = some (ItO l it 0) := upd_same
  have fp := inv_fp I2 hi' (Nat.le_trans I1.sz hle)
  unfold ItO at hi'
  have I3 := inv_drop I2 hi'
  rw [dropH_upd' hn] at I3 fp
  refine ⟨it, [it], fun i h => h.IsListIter it l i, Itl X.K l, H1, rfl, I3, turn_list l it, ⟨_, ito, rfl, rfl⟩, fun b hb => ?_, q⟩
  rw [List.mem_singleton.mp hb]
  exact fp
theorem pi_ownK (G : ItrN X.prog X.w X.K X.mg X.base n C (spYoungK C F)) (hr : Room j X.A) (hk : n ≤ j) (he : PE X e te) : PI X tg e (iOwnK C F te) := by
  obtain ⟨f, fd, ps, hs, hf, FN, hb⟩ := G.ex
  refine ⟨fun pins s σ H R I h => ?_⟩
  refine thn (he.run pins s σ H _ I h) fun u s1 ⟨x, H1, I1, rx, a, dx, fs, d, o, kvs, ex, ea, lk, fz, q⟩ => ?_
  subst ex
  obtain rfl : u = Value.ref a := rx
  obtain ⟨od, J⟩ := inst_of I1 ea
  obtain ⟨m, hF⟩ := I1.fr
  refine PySem.W.owit_iter hF I1.ok.mod.kin J hs hf ?_
  refine wpAny_mono (run_young (us := [.ref a]) (vs := [.ref a]) (Q := fun v H2 => ∃ it, v = .ref it ∧ H1 it = none ∧ s1.heap.objs.size ≤ it ∧ H2 = upd H1 it (KeyIt d o kvs.length it)) ⟨hr.mono hk, rfl⟩ FN hb I1 (.cons rfl .nil) ⟨a, dx, fs, d, o, kvs, rfl, ea, lk, fz, fun it h1 h2 => ⟨it, rfl, h1, h2, rfl⟩⟩) (fun u s2 hu => ?_) fun _ _ e => e
  obtain ⟨v, H2, I2, rv, it, rfl, hn, hle, rfl⟩ := hu
  cases rv
  have hi' : upd H1 it (KeyIt d o kvs.length it) it = some (KeyIt d o kvs.length it) := upd_same
  have hok := I2.hok it _ hi'
  obtain ⟨es, ep, hdt, ki⟩ := hok.1
  have hT : s2.TypeIs (.ref it) "dict_keyiterator" := ki.typeIs
  unfold PySem.W.OwitIt
  show wpAny _ _ (typeOf (.ref it) >>= fun t => typeLookup t "__next__") _ _ _
  refine wpAny_bind (wpAny_typeOf hT (wpAny_of_eq PySem.F.slot_dict_keyiterator_next.lookup ?_))
  have fp := inv_fp I2 hi' (Nat.le_trans I1.sz hle)
  unfold KeyIt at hi'
  have I3 := inv_drop I2 hi'
  rw [dropH_upd' hn] at I3 fp
  refine ⟨it, [it], fun i h => h.IsKeyIter it d i kvs.length ep, Itk d o kvs, H1, rfl, I3, turn_keys it hdt, ki, fun b hb => ?_, q⟩
  rw [List.mem_singleton.mp hb]
  exact fp
end
end RM
namespace RM
open PySem PySem.Spec PyProof.Rows L2
/-! ### o[k] of an own class, dict(d), x not in y, walks over locked dicts -/
/-- a class's __getitem__ -/
structure SpcG (P : Program) (w : World) (K : PySem.W.Frag) (mg : Str → Option Value) (base : Heap) (n : Nat) (C : Addr) (sp : Sp) : Prop where
  ex : ∃ (f : Addr) (fd : FuncData) (ps : List Str), PySem.W.findIn K (.ref C) "__getitem__" = some (some (.ref f)) ∧ PySem.W.isFn K (.ref f) = true ∧ PySem.W.fnIn K f = true ∧ FnOk P w K mg base CX0 n f fd ps sp ∧ Binds K fd ps []
theorem FunD.isIn {K : PySem.W.Frag} {x qual : Str} {params : Arguments} {body : List Stmt} {scope : Scope} {dvs : List V} {kws : List (Str × V)} {f : Addr} {fd : FuncData} (F : FunD K x qual params body scope dvs kws f fd) : PySem.W.fnIn K f = true := by
  obtain ⟨oc, od, dV, kV, doc, pm, an, cdv, ct, osl, rfl, look, cod, _⟩ := F.ex
  unfold PySem.W.fnIn
  rw [look]
def tSubOwn (C : Addr) (sp : Sp) (ta ti : TE) : TE := fun σ H Q => ta σ H fun x H1 => ti σ H1 fun y H2 => ∃ a dx fs, x = .ref a ∧ H2 a = some (.ins C dx fs) ∧ sp [.ref a, y] H2 Q E0
section
variable {X : Cx} {o i : Expr} {pos : Pos} {ta ti : TE} {C : Addr} {n j : Nat} {sp : Sp}
theorem pe_subOwn (S : SpcG X.prog X.w X.K X.mg X.base n C sp) (hr : Room j X.A) (hk : n + 1 ≤ j) (ho : PE X o ta) (hi : PE X i ti)
    (hsl : ∀ (a : Addr) (v : Value), subscripted i true (.ref a) v = runValue (.builtin "lifetime.subscript" ⟨[.ref a, v], []⟩)) : PE X (.Subscript o i pos) (tSubOwn C sp ta ti) := by
  obtain ⟨f, fd, ps, hs, hf, hin, F, hb⟩ := S.ex
  refine ⟨fun pins s σ H Q I h => ?_⟩
  refine Subscript_ (thn (ho.run pins s σ H _ I h) fun u s1 ⟨x, H1, I1, rx, q1⟩ => thn (hi.run pins s1 σ H1 _ I1 q1) fun iv s2 ⟨y, H2, I2, ry, a, dx, fs, ex, ea, q2⟩ => ?_)
  subst ex
  obtain rfl : u = Value.ref a := rx
  obtain ⟨od, J⟩ := inst_of I2 ea
  obtain ⟨m, hF⟩ := I2.fr
  refine PySem.W.sub_K hF I2.ok.mod.kin J hs hin hf ?_ (hsl a iv)
  exact run_at (us := [.ref a, iv]) (vs := [.ref a, y]) (Sub.in1 ⟨hr.mono hk, rfl⟩) F hb I2 (.cons rfl (.cons ry .nil)) q2
def rDictOf : List V → Hp → VK → Prop := fun xs H Q => ∃ (a : Addr) (kvs : List (Key × V)), xs = [.ref a] ∧ Rd H a (.dK kvs) ∧ ∀ p, H p = none → Q (.ref p) (upd H p (.dK kvs))
theorem callDictOf : CallR X (.type "dict") rDictOf := by
  intro pins s σ H xs us Q I r h
  obtain ⟨a, kvs, rfl, hd, q⟩ := h
  obtain ⟨u, rfl, ru⟩ := r.one
  cases ru
  exact d_copyOf I hd fun p s' hp I' => ⟨.ref p, _, I', rfl, q p hp⟩
def rNotInX (K : PySem.W.Frag) : R2 := fun x y H Q => rIn K true x y H Q ∨ ∃ a o, y = .ref a ∧ DGet H a x o ∧ Q (.bl (!o.isSome)) H
theorem op_notInX (hu : X.A.units + 1 < cLine) : OpR X (compareOp .NotIn) (rNotInX X.K) := by
  intro pins s σ H x y v u Q I rx ry h
  rcases h with h | ⟨a, o, rfl, g, q⟩
  · exact op_notIn_seq pins s σ H x y v u Q I rx ry h
  · obtain rfl : u = Value.ref a := ry
    exact d_notIn hu I g rx fun s3 I3 => ⟨.bl (!o.isSome), H, I3, rfl, q⟩
end
section
variable {σ : L2.St} {H : Hp} {Q : VK} {K : PySem.W.Frag} {g : TG} {tb : TS} {D : Ends} {te td ty ta ti : TE} {kvs : List (Key × V)} {d C : Addr} {F : Str} {v : V} {sp : Sp}
theorem wp_subOwn (h : ta σ H fun x H1 => ti σ H1 fun y H2 => ∃ a dx fs, x = .ref a ∧ H2 a = some (.ins C dx fs) ∧ sp [.ref a, y] H2 Q E0) : tSubOwn C sp ta ti σ H Q := h
theorem wp_dictOf {a : Addr} (hd : Rd H a (.dK kvs)) (h : ∀ p, H p = none → Q (.ref p) (upd H p (.dK kvs))) : rDictOf [.ref a] H Q := ⟨a, kvs, rfl, hd, h⟩
theorem wp_notInXL {x y : V} (h : rIn K true x y H Q) : rNotInX K x y H Q := .inl h
theorem wp_notInXD {a : Addr} {l : List Nat} (hd : Rd H a (.dK kvs)) (h : Q (.bl (!(valV kvs (.inr (S l))).isSome)) H) : rNotInX K (.str (S l)) (.ref a) H Q := .inr ⟨a, _, rfl, .inl ⟨kvs, .inr (S l), hd, rfl, rfl⟩, h⟩
theorem wp_din (h : ty σ H fun y H1 => td σ H1 fun x H2 => ∃ a o, x = .ref a ∧ DGet H2 a y o ∧ Q (.bl o.isSome) H2) : tDIn ty td σ H Q := h
theorem din_s {R : Option V → Prop} {l : List Nat} (hd : Rd H d (.dK kvs)) (q : R (valV kvs (.inr (S l)))) : ∃ a o, V.ref d = .ref a ∧ DGet H a (.str (S l)) o ∧ R o := ⟨d, _, rfl, .inl ⟨kvs, .inr (S l), hd, rfl, rfl⟩, q⟩
end
section
variable {σ : L2.St} {H : Hp} {K : PySem.W.Frag} {g : TG} {tb : TS} {D : Ends} {td te : TE} {kvs : List (Key × V)} {d C : Addr} {F : Str} {od : Obj}
theorem wp_lock {t : TS} (hd : H d = some (.dK kvs)) (h : ∀ od, t ⟨fun σ' H' => H' d = some (.frz od (.dK kvs)) ∧ D.nx σ' (upd H' d (.dK kvs)), fun v H' => H' d = some (.frz od (.dK kvs)) ∧ D.rt v (upd H' d (.dK kvs)), fun σ' H' => H' d = some (.frz od (.dK kvs)) ∧ D.bk σ' (upd H' d (.dK kvs)), fun σ' H' => H' d = some (.frz od (.dK kvs)) ∧ D.ct σ' (upd H' d (.dK kvs))⟩ σ (upd H d (.frz od (.dK kvs)))) : tLock t D σ H := ⟨d, _, hd, True.intro, h⟩
theorem wp_forItems (h : td σ H fun x H1 => ∃ d o kvs, x = .ref d ∧ H1 d = some (.frz o (.dK kvs)) ∧ ForW (Iti d o kvs) g tb D σ H1) : tFor (iItems td) g tb D σ H := h
theorem wp_forOwnL (h : te σ H fun x H1 => ∃ a dx fs l zs, x = .ref a ∧ H1 a = some (.ins C dx fs) ∧ fs.lookup F = some (.ref l) ∧ SqL K H1 l zs ∧ ForW (Itl K l) g tb D σ H1) : tFor (iOwnL K C F te) g tb D σ H := h
theorem wp_forOwnK (h : te σ H fun x H1 => ∃ a dx fs d o kvs, x = .ref a ∧ H1 a = some (.ins C dx fs) ∧ fs.lookup F = some (.ref d) ∧ H1 d = some (.frz o (.dK kvs)) ∧ ForW (Itk d o kvs) g tb D σ H1) : tFor (iOwnK C F te) g tb D σ H := h
theorem loopItems (hf : H d = some (.frz od (.dK kvs))) (Pv : Nat → L2.St → Hp → Prop) (h0 : Pv 0 σ H) (hG : ∀ i σ' H', i ≤ kvs.length → Pv i σ' H' → H' d = some (.frz od (.dK kvs)))
    (hs : ∀ i k x T σ' H', kvs[i]? = some (k, x) → Pv i σ' H' → H' T = none → g (.ref T) σ' (upd H' T (.tup [kV k, x])) fun σ2 H2 => tb { D with nx := Pv (i + 1), ct := Pv (i + 1), bk := D.nx } σ2 H2) (hd : ∀ σ' H', Pv kvs.length σ' H' → D.nx σ' H') :
    ∃ d' o kvs', V.ref d = .ref d' ∧ H d' = some (.frz o (.dK kvs')) ∧ ForW (Iti d' o kvs') g tb D σ H := by
  refine ⟨d, od, kvs, rfl, hf, for_it walk_items Pv h0 hG (fun i v σ' H1 H2 hi p y => ?_) hd⟩
  obtain ⟨T, x, y', h1, h2, h3, h4, h5⟩ := y
  obtain ⟨⟨k, z⟩, e1, e2⟩ := Option.map_eq_some_iff.mp h4
  obtain ⟨⟨k', z'⟩, e3, e4⟩ := Option.map_eq_some_iff.mp h5
  rw [e1] at e3
  cases e3
  cases e2
  cases e4
  subst h1
  rw [h3]
  exact hs i k z T σ' H1 e1 p h2
theorem loopOwnL {a dx l : Addr} {fs : List (Str × V)} {xs : List V} (ha : H a = some (.ins C dx fs)) (hl : fs.lookup F = some (.ref l)) (hx : SqL K H l xs) (Pv : Nat → L2.St → Hp → Prop) (h0 : Pv 0 σ H) (hG : ∀ i σ' H', i ≤ xs.length → Pv i σ' H' → SqL K H' l xs)
    (hs : ∀ i x σ' H', xs[i]? = some x → Pv i σ' H' → g x σ' H' fun σ2 H2 => tb { D with nx := Pv (i + 1), ct := Pv (i + 1), bk := D.nx } σ2 H2) (hd : ∀ σ' H', Pv xs.length σ' H' → D.nx σ' H') :
    ∃ a' dx fs l zs, V.ref a = .ref a' ∧ H a' = some (.ins C dx fs) ∧ fs.lookup F = some (.ref l) ∧ SqL K H l zs ∧ ForW (Itl K l) g tb D σ H := ⟨a, dx, fs, l, xs, rfl, ha, hl, hx, for_list Pv h0 hG hs hd⟩
theorem loopOwnK {a dx : Addr} {fs : List (Str × V)} (ha : H a = some (.ins C dx fs)) (hl : fs.lookup F = some (.ref d)) (hf : H d = some (.frz od (.dK kvs))) (Pv : Nat → L2.St → Hp → Prop) (h0 : Pv 0 σ H) (hG : ∀ i σ' H', i ≤ kvs.length → Pv i σ' H' → H' d = some (.frz od (.dK kvs)))
    (hs : ∀ i k x σ' H', kvs[i]? = some (k, x) → Pv i σ' H' → g (kV k) σ' H' fun σ2 H2 => tb { D with nx := Pv (i + 1), ct := Pv (i + 1), bk := D.nx } σ2 H2) (hd : ∀ σ' H', Pv kvs.length σ' H' → D.nx σ' H') :
    ∃ a' dx fs d o kvs, V.ref a = .ref a' ∧ H a' = some (.ins C dx fs) ∧ fs.lookup F = some (.ref d) ∧ H d = some (.frz o (.dK kvs)) ∧ ForW (Itk d o kvs) g tb D σ H := by
  refine ⟨a, dx, fs, d, od, kvs, rfl, ha, hl, hf, for_it walk_keys Pv h0 hG (fun i v σ' H1 H2 hi p y => ?_) hd⟩
  obtain ⟨e, k, z, e1, rfl⟩ := y
  rw [e]
  exact hs i k z σ' H1 e1 p
/-- {a: x, ..}: a dict written out -/
theorem wp_disp {Q : VK} {trs : List (TE × TE)} (h : ∀ p, H p = none → tPairs trs σ (upd H p (.dK [])) fun ps H2 => H2 p = some (.dK []) ∧ ∃ kvs : List (Key × V), ps = kvs.map (fun kv => (kV kv.1, kv.2)) ∧ kvs.length ≤ 15 ∧ Q (.ref p) (upd H2 p (.dK (mergeK [] kvs)))) : tDisp trs σ H Q := h
end
end RM
namespace RM
open PySem PySem.Spec PyProof.Rows L2
/-! ### timetables -/
abbrev tmF (T : Int) (d : Addr) : List (Str × V) := [("_round_length", .int T), ("_minutes", .ref d)]
theorem lk_mT {T : Int} {d : Addr} : (tmF T d).lookup ("_round_length" : Str) = some (.int T) := rfl
theorem lk_md {T : Int} {d : Addr} : (tmF T d).lookup ("_minutes" : Str) = some (.ref d) := rfl
theorem pt_m2 {T : Int} {d : Addr} : putF "_minutes" (.ref d) (netF1 T) = tmF T d := by
  unfold putF
  rw [if_neg (by decide)]
  rfl
def mD (m : List Nat → Int) (ns : List (List Nat)) : List (Key × V) := dN (fun l => .int (m l)) ns
def IsTimes (C : Addr) (H : Hp) (a : Addr) (T : Int) (ns : List (List Nat)) (m : List Nat → Int) : Prop := ∃ dx d, H a = some (.ins C dx (tmF T d)) ∧ H d = some (.dK (mD m ns))
theorem IsTimes.mono {C : Addr} {H H' : Hp} (e : Same H H') {a : Addr} {T : Int} {ns : List (List Nat)} {m : List Nat → Int} (h : IsTimes C H a T ns m) : IsTimes C H' a T ns m := by
  obtain ⟨dx, d, h1, h2⟩ := h
  exact ⟨dx, d, e _ _ h1, e _ _ h2⟩
structure OkTm (T : Int) (ns : List (List Nat)) (m : List Nat → Int) : Prop where
  t0 : 3 ≤ T
  t1 : T ≤ 120
  few : ns.length ≤ 1000
  nm : ∀ l ∈ ns, Nm l
  m0 : ∀ l ∈ ns, 0 ≤ m l
  m1 : ∀ l ∈ ns, m l ≤ T - 1
theorem isN_int {i : Int} : decide (V.int i = .non) = false := decide_eq_false (by simp)
theorem isN_non : decide (V.non = .non) = true := decide_eq_true rfl
section
variable {σ : L2.St} {H : Hp} {K : PySem.W.Frag} {g : TG} {tb : TS} {D : Ends} {d C : Addr} {F : Str} {od : Obj} {f : List Nat → V} {ns : List (List Nat)}
theorem loopItemsN (hf : H d = some (.frz od (.dK (dN f ns)))) (Pv : Nat → L2.St → Hp → Prop) (h0 : Pv 0 σ H) (hG : ∀ i σ' H', i ≤ ns.length → Pv i σ' H' → H' d = some (.frz od (.dK (dN f ns))))
    (hs : ∀ i l T σ' H', ns[i]? = some l → Pv i σ' H' → H' T = none → g (.ref T) σ' (upd H' T (.tup [.str (S l), f l])) fun σ2 H2 => tb { D with nx := Pv (i + 1), ct := Pv (i + 1), bk := D.nx } σ2 H2) (hd : ∀ σ' H', Pv ns.length σ' H' → D.nx σ' H') :
    ∃ d' o kvs', V.ref d = .ref d' ∧ H d' = some (.frz o (.dK kvs')) ∧ ForW (Iti d' o kvs') g tb D σ H :=
  loopItems hf Pv h0 (fun i σ' H' hi => hG i σ' H' (by rw [dN_len] at hi; exact hi)) (fun i k x T σ' H' hk p hT => by
    obtain ⟨l, hl, rfl, rfl⟩ := dN_at hk
    exact hs i l T σ' H' hl p hT) (by rw [dN_len]; exact hd)
theorem loopOwnKN {a dx : Addr} {fs : List (Str × V)} (ha : H a = some (.ins C dx fs)) (hl : fs.lookup F = some (.ref d)) (hf : H d = some (.frz od (.dK (dN f ns)))) (Pv : Nat → L2.St → Hp → Prop) (h0 : Pv 0 σ H) (hG : ∀ i σ' H', i ≤ ns.length → Pv i σ' H' → H' d = some (.frz od (.dK (dN f ns))))
    (hs : ∀ i l σ' H', ns[i]? = some l → Pv i σ' H' → g (.str (S l)) σ' H' fun σ2 H2 => tb { D with nx := Pv (i + 1), ct := Pv (i + 1), bk := D.nx } σ2 H2) (hd : ∀ σ' H', Pv ns.length σ' H' → D.nx σ' H') :
    ∃ a' dx fs d o kvs, V.ref a = .ref a' ∧ H a' = some (.ins C dx fs) ∧ fs.lookup F = some (.ref d) ∧ H d = some (.frz o (.dK kvs)) ∧ ForW (Itk d o kvs) g tb D σ H :=
  loopOwnK ha hl hf Pv h0 (fun i σ' H' hi => hG i σ' H' (by rw [dN_len] at hi; exact hi)) (fun i k x σ' H' hk p => by
    obtain ⟨l, hl, rfl, rfl⟩ := dN_at hk
    exact hs i l σ' H' hl p) (by rw [dN_len]; exact hd)
end
theorem dN_some {f : List Nat → V} {l : List Nat} {ns : List (List Nat)} : (valV (dN f ns) (.inr (S l))).isSome = decide (l ∈ ns) := by
  by_cases h : l ∈ ns
  · rw [dN_val h, decide_eq_true h]
    rfl
  · rw [dN_none h, decide_eq_false h]
    rfl
/-- the minutes that pass, or None -/
def pas (T : Int) (m : List Nat → Int) (r : Row) : V := if r.lo + (m r.v - m r.u - r.lo) % T ≤ r.hi then .int (r.lo + (m r.v - m r.u - r.lo) % T) else .non
theorem pas_key {T lo x y i : Int} (h0 : 0 ≤ i) (h1 : i < T) : (lo + i + x - y) % T = 0 ↔ i = (y - x - lo) % T := by
  have e : lo + i + x - y = i - (y - x - lo) := by omega
  rw [e, ← Int.emod_eq_emod_iff_emod_sub_eq_zero, Int.emod_eq_of_lt h0 h1]
end RM
namespace RM
open PySem PySem.Spec PyProof.Rows L2
/-! ### defs that raise -/
section
variable {P : Program} {w : World} {K : PySem.W.Frag} {mg : Str → Option Value} {base : Heap} {N : List Str} {qual : Str} {scope : Scope} {f : Addr} {cd : Value} {A : Around} {outer : List Env} {s : Shared} {H : Hp} {E : XK}
/-- the wish about exceptions inside a def -/
theorem tkOf : Takes (cxOf (L2.CX P w) P w K mg base N qual scope f cd A outer s H E) (fun cls d _ H => E cls d H) := takes_of rfl rfl rfl rfl
theorem pxOf : Passes (L2.CX P w) (cxOf (L2.CX P w) P w K mg base N qual scope f cd A outer s H E) E := passes_call tkOf fun _ _ _ _ h => h
theorem poOf : PassesOwn (model P w) (A.deeper (envOfC qual scope s.heap.objs.size f cd)) (envOfC qual scope s.heap.objs.size f cd) (cxOf (L2.CX P w) P w K mg base N qual scope f cd A outer s H E).xe := passes_of rfl
end
/-! ### an exception with fields -/
/-- it was raised: class C, these fields, all else as it was -/
def Rzd (C : Addr) (fs : List (Str × V)) (E : XK) (H : Hp) : Prop := ∀ (d : Addr) (H' : Hp), Same H H' → H d = none → H' d = some (.xd fs) → E (.ref C) (some d) H'
theorem Rzd.mono {C : Addr} {fs : List (Str × V)} {E : XK} {H H2 : Hp} (h : Rzd C fs E H) (s : Same H H2) : Rzd C fs E H2 := fun d H' s2 hd hx => h d H' (s.trans s2) (s.free hd) hx
/-- what an exception class must say -/
structure ExK (K : PySem.W.Frag) (C fI : Addr) : Prop where
  o : OexC K C
  i : PySem.W.findIn K (.ref C) "__init__" = some (some (.ref fI))
  t : PySem.W.typeIn K (.ref fI) = some (.type "function")
/-- an exception class that may be made: sp is its __init__ -/
structure XMk (P : Program) (w : World) (K : PySem.W.Frag) (mg : Str → Option Value) (base : Heap) (k : Nat) (x : Str) (C : Addr) (sp : Sp) : Prop where
  ex : ∃ (fI : Addr) (fd : FuncData) (ps : List Str), ExK K C fI ∧ FnOk P w K mg base CX0 k fI fd ps sp ∧ Binds K fd ps [] ∧ mg x = some (.ref C)
/-- the promise of an __init__ that stores its arguments -/
def spX (C : Addr) (fs : List Str) : Sp := fun vs H Q _ => ∃ (a : Addr) (ws : List V), vs = .ref a :: ws ∧ ws.length = fs.length ∧ H a = some (exo a C none) ∧
  ∀ (dx : Addr) (H' : Hp), H dx = none → dx ≠ a → (∀ b o, b ≠ a → b ≠ dx → H b = some o → H' b = some o) → H' a = some (exo a C (some dx)) → H' dx = some (exd dx (fs.zip ws).reverse) → Q .non H'
theorem len_spX {C : Addr} {fs : List Str} {vs : List V} {H : Hp} {Q : VK} {E : XK} (h : spX C fs vs H Q E) : vs.length = fs.length + 1 := by
  obtain ⟨a, ws, rfl, hl, _⟩ := h
  rw [List.length_cons, hl]
section
variable {K : PySem.W.Frag} {C : Addr} {f g p0 p1 p2 : Str} {vs : List V} {H : Hp} {Q : VK} {E : XK}
theorem ini1 (o : OexC K C) (n : PySem.W.findIn K (.ref C) f = some none) (h : spX C [f] vs H Q E) : tOst K f (tVar 0) (tVar 1) { nx := fun _ H' => Q .non H', rt := Q } (L2.start [p0, p1] vs) H := by
  obtain ⟨a, ws, rfl, hl, ha, k⟩ := h
  match ws, hl with
  | [v], _ =>
    refine ⟨v, rfl, .ref a, rfl, a, C, rfl, o, n, .inl ⟨ha, fun dx hdx nd => k dx _ hdx nd (fun b u h1 h2 hb => ?_) upd_same (by rw [upd_ne nd]; exact upd_same)⟩⟩
    rw [upd_ne h1, upd_ne h2]; exact hb
theorem ini2 (o : OexC K C) (n : PySem.W.findIn K (.ref C) f = some none) (n2 : PySem.W.findIn K (.ref C) g = some none) (h : spX C [f, g] vs H Q E) :
    tSeq (tOst K f (tVar 0) (tVar 1)) (tOst K g (tVar 0) (tVar 2)) { nx := fun _ H' => Q .non H', rt := Q } (L2.start [p0, p1, p2] vs) H := by
  obtain ⟨a, ws, rfl, hl, ha, k⟩ := h
  match ws, hl with
  | [v, z], _ =>
    refine ⟨v, rfl, .ref a, rfl, a, C, rfl, o, n, .inl ⟨ha, fun dx hdx nd => ?_⟩⟩
    refine ⟨z, rfl, .ref a, rfl, a, C, rfl, o, n2, .inr ⟨dx, _, upd_same, by rw [upd_ne nd]; exact upd_same, by simp, ?_⟩⟩
    refine k dx _ hdx nd (fun b u h1 h2 hb => ?_) (by rw [upd_ne nd.symm]; exact upd_same) upd_same
    rw [upd_ne h2, upd_ne h1, upd_ne h2]; exact hb
end
/-- raise C(..): the made exception flies -/
def RsW (C : Addr) (fs : List Str) (E : XK) (vs : List V) (H1 : Hp) : Prop := vs.length ≤ 1000 ∧ ∀ a, H1 a = none → spX C fs (.ref a :: (vs ++ [])) (upd H1 a (exo a C none))
  (fun v H2 => v = .non ∧ ∃ (d : Addr) (gs : List (Str × V)), H2 a = some (exo a C (some d)) ∧ H2 d = some (exd d gs) ∧ H1 d = none ∧ E (.ref C) (some d) (upd (L2.del H2 a) d (.xd gs))) (fun _ _ _ => False)
def tRs (C : Addr) (fs : List Str) (E : XK) (ta : TA) : TS := fun _ σ H => ta σ H fun vs H1 => RsW C fs E vs H1
theorem rs_of {C : Addr} {fs : List Str} {E : XK} {vs : List V} {H1 : Hp} (hl : vs.length = fs.length) (hf : fs.length ≤ 1000) (h : Rzd C (fs.zip vs).reverse E H1) : RsW C fs E vs H1 := by
  refine ⟨by omega, fun a ha => ⟨a, vs, by rw [List.append_nil], hl, upd_same, fun dx H' hdx nd hk h1 h2 => ⟨rfl, dx, _, h1, h2, ?_, ?_⟩⟩⟩
  · rw [upd_ne nd] at hdx; exact hdx
  · rw [upd_ne nd] at hdx
    refine h dx _ (fun b o hb => ?_) hdx upd_same
    have nb : b ≠ a := ne_of_none hb ha
    have nd2 : b ≠ dx := ne_of_none hb hdx
    rw [upd_ne nd2, L2.del_ne nb]
    exact hk b o nb nd2 (by rw [upd_ne nb]; exact hb)
section
variable {X : Cx} {k j : Nat} {x : Str} {C : Addr} {fs : List Str} {e : Expr} {es : List Expr} {p pos pos' : Pos} {ta : TA} {t : TA} {E : XK} {W : WX} {sp : Sp} {dvs : List V}
theorem ps_rs (c : XMk X.prog X.w X.K X.mg X.base k x C (spX C fs)) (hr : Room j X.A) (hk : k + 1 ≤ j) (calm : X.calm = true) (tk : Takes X (fun cls d _ H => E cls d H)) (hg : Gl X x) (ha : PA X (e :: es) ta)
    (hdb : (x == ("__debug__" : Str)) = false := by decide) (he : starEach (e :: es) X.env = (false, eval e X.env) :: starEach es X.env := by rfl) (hpl : (backTo pos (starEach es X.env)).any (·.1) = false := by rfl) :
    PS X (.Raise (some (.Call (.Name x p) (e :: es) [] pos)) none pos') (tRs C fs E ta) := by
  obtain ⟨fI, fd, ps, q, F, hb, hm⟩ := c.ex
  have mk := pmk_oex (p := p) (pos := pos) (dvs := []) (ds := []) q.o q.i q.t F (hr.mono hk) hb .nil C8.pass0 hg hm ha hdb he hpl
  exact ps_raise (pos := pos') calm tk mk
/-! ### calls of what may raise -/
structure CalX (P : Program) (w : World) (K : PySem.W.Frag) (mg : Str → Option Value) (base : Heap) (k : Nat) (x : Str) (sp : Sp) (dvs : List V) : Prop where
  ex : ∃ (f : Addr) (fd : FuncData) (ps : List Str) (ds : List Value), FnOk P w K mg base (L2.CX P w) k f fd ps sp ∧ mg x = some (.ref f) ∧ PySem.W.keepIn K (.ref f) = true ∧ Binds K fd ps ds ∧ Vals dvs ds
structure MakX (P : Program) (w : World) (K : PySem.W.Frag) (mg : Str → Option Value) (base : Heap) (k : Nat) (x : Str) (C : Addr) (sp : Sp) (dvs : List V) : Prop where
  ex : ∃ (f : Addr) (fd : FuncData) (ps : List Str) (ds : List Value), Mk K C f ∧ FnOk P w K mg base (L2.CX P w) k f fd ps sp ∧ mg x = some (.ref C) ∧ Binds K fd ps ds ∧ Vals dvs ds
theorem pe_cX (c : CalX X.prog X.w X.K X.mg X.base k x sp dvs) (hr : Room j X.A) (hk : k ≤ j) (hg : Gl X x) (hx : Passes (L2.CX X.prog X.w) X E) (ha : PA X (e :: es) t)
    (hdb : (x == ("__debug__" : Str)) = false := by decide) (he : starEach (e :: es) X.env = (false, eval e X.env) :: starEach es X.env := by rfl) (hpl : (backTo pos (starEach es X.env)).any (·.1) = false := by rfl) :
    PE X (.Call (.Name x p) (e :: es) [] pos) (tCall sp dvs E t) := by
  obtain ⟨f, fd, ps, ds, F, hm, kp, b, d⟩ := c.ex
  exact pe_call F (hr.mono hk) hg hm kp b d hx ha hdb he hpl
theorem pe_mkX (c : MakX X.prog X.w X.K X.mg X.base k x C sp dvs) (hr : Room j X.A) (hk : k + 1 ≤ j) (hg : Gl X x) (hx : Passes (L2.CX X.prog X.w) X E) (ha : PA X (e :: es) t)
    (hdb : (x == ("__debug__" : Str)) = false := by decide) (he : starEach (e :: es) X.env = (false, eval e X.env) :: starEach es X.env := by rfl) (hpl : (backTo pos (starEach es X.env)).any (·.1) = false := by rfl) :
    PE X (.Call (.Name x p) (e :: es) [] pos) (tMake C sp dvs E t) := by
  obtain ⟨f, fd, ps, ds, M, F, hm, b, d⟩ := c.ex
  exact pe_make M F (hr.mono hk) hg hm b d hx ha hdb he hpl
/-! ### the same inside a try: the wish may speak of the slots -/
theorem pe_cS (c : CalX X.prog X.w X.K X.mg X.base k x sp []) (hr : Room j X.A) (hk : k ≤ j) (hg : Gl X x) (tk : Takes X W) (ha : PA X (e :: es) t)
    (hdb : (x == ("__debug__" : Str)) = false := by decide) (he : starEach (e :: es) X.env = (false, eval e X.env) :: starEach es X.env := by rfl) (hpl : (backTo pos (starEach es X.env)).any (·.1) = false := by rfl) :
    PE X (.Call (.Name x p) (e :: es) [] pos) (tCallS sp (WE W) t) := by
  obtain ⟨f, fd, ps, ds, F, hm, kp, b, d⟩ := c.ex
  cases d
  exact pe_callS F (hr.mono hk) hg hm kp b (passAt tk) ha hdb he hpl
def tMakeS (C : Addr) (sp : Sp) (E : L2.St → XK) (t : TA) : TE := fun σ H Q => t σ H fun vs H1 => ∀ x dx, H1 x = none → H1 dx = none → dx ≠ x → sp (.ref x :: vs) (upd (upd H1 dx (.own x)) x (.ins C dx [])) (fun v H2 => v = .non ∧ Q (.ref x) H2) (E σ)
theorem run_mkS {pins : List (Addr × Obj)} {σ : L2.St} {H : Hp} {s : Shared} {Q : VK} {us : List Value} {vs : List V} {f : Addr} {fd : FuncData} {ps : List Str} (M : Mk X.K C f) (F : FnOk X.prog X.w X.K X.mg X.base (L2.CX X.prog X.w) k f fd ps sp) (hr : Room (k + 1) X.A) (hb : Binds X.K fd ps []) (tk : Takes X W)
    (I : Inv X pins σ H s) (r : Vals vs us) (h : ∀ x dx, H x = none → H dx = none → dx ≠ x → sp (.ref x :: vs) (upd (upd H dx (.own x)) x (.ins C dx [])) (fun v H2 => v = .non ∧ Q (.ref x) H2) (WE W σ)) :
    wpAny (model X.prog X.w) X.A (call (.ref C) us) (EP X pins σ Q) X.xe s := by
  have want := h (s.heap.objs.size + 1) s.heap.objs.size (I.hok.fresh (Nat.le_succ _)) (I.hok.fresh (Nat.le_refl _)) (Nat.ne_of_lt (Nat.lt_succ_self _))
  have J := Inv.made (C := C) I
  have rel : Vals (V.ref (s.heap.objs.size + 1) :: vs) (Value.ref (s.heap.objs.size + 1) :: us) := .cons rfl r
  have cnt : (Value.ref (s.heap.objs.size + 1) :: us ++ ([] : List Value)).length = ps.length := by
    rw [List.append_nil, ← rel.length]
    exact F.len _ _ _ _ want
  have bnd := hb _ (Value.ref (s.heap.objs.size + 1) :: us) J.kIn cnt
  rw [List.append_nil] at bnd
  refine wpAny_call (make_map (f := f) I.kIn M.makes M.init (beq_iff_eq.mp M.fn) (codeAny_mono (F.run _ X.stack _ _ ⟨_, []⟩ _ _ _ _ (hr.make C us []) (J.env0.make C us []) bnd rel want) fun r s' z => ?_))
  match r with
  | .error e => exact passAt tk σ pins _ _ e s' J z
  | .ok (.ret u) =>
    obtain ⟨v, H', I3, rv, ev, q3⟩ := J.after z
    subst ev
    exact ⟨rv, V.ref (s.heap.objs.size + 1), H', I3, rfl, q3⟩
  | .ok .next => exact z.elim
  | .ok .brk => exact z.elim
  | .ok .cont => exact z.elim
theorem pe_mkS (c : MakX X.prog X.w X.K X.mg X.base k x C sp []) (hr : Room j X.A) (hk : k + 1 ≤ j) (hg : Gl X x) (tk : Takes X W) (ha : PA X (e :: es) t)
    (hdb : (x == ("__debug__" : Str)) = false := by decide) (he : starEach (e :: es) X.env = (false, eval e X.env) :: starEach es X.env := by rfl) (hpl : (backTo pos (starEach es X.env)).any (·.1) = false := by rfl) :
    PE X (.Call (.Name x p) (e :: es) [] pos) (tMakeS C sp (WE W) t) := by
  obtain ⟨f, fd, ps, ds, M, F, hm, b, d⟩ := c.ex
  cases d
  refine ⟨fun pins s σ H Q I h => wpAny_Call_Name_kw (ld_glob I hg hm ?_ hdb)⟩
  refine PySem.W.callWith_K (h₀ := X.base) I.ok.mod.kin M.kp (thn (ha.run pos pins s σ H _ I h) fun us s1 ⟨vs, H1, I1, r, q⟩ => ⟨I1.kIn, ?_⟩) he hpl
  exact run_mkS M F (hr.mono hk) b tk I1 r q
end
/-! ### try: body, some clauses 'except x as n' with one name n -/
abbrev Sui := Addr → Value → Option Addr → TS
def wAsM (K : PySem.W.Frag) (i : Nat) (Wout : WX) (D : Ends) : List (Value × Sui) → WX
  | [] => Wout
  | (c, ts) :: r => fun cls d σ H => ∃ b, PySem.W.exmOne K cls c = some b ∧
      (b = true → ∀ a, H a = none → ts a cls d { nx := fun σ' H' => D.nx (σ'.set i none) H', rt := D.rt, bk := fun σ' H' => D.bk (σ'.set i none) H', ct := fun σ' H' => D.ct (σ'.set i none) H' } (σ.set i (some (.ref a))) H) ∧ (b = false → wAsM K i Wout D r cls d σ H)
def tTry (K : PySem.W.Frag) (i : Nat) (tb : WX → TS) (l : List (Value × Sui)) : TS := fun D σ H => tb (wAsM K i (fun _ _ _ _ => False) D l) D σ H
inductive HdA (X : Cx) (n : Str) : List ExceptHandler → List (Value × Sui) → Prop
  | nil : HdA X n [] []
  | cons {x : Str} {c : Value} {ts : Sui} {b0 : Stmt} {more : List Stmt} {np hp : Pos} {hds : List ExceptHandler} {l : List (Value × Sui)} (nm : Names X x c)
      (su : ∀ (a : Addr) (oe : Obj) (cls : Value) (d : Option Addr) (pn : List (Addr × Obj)), Zc cls d oe → (∃ vs, oe.data = .fields vs) → PSs (X.suite a ((a, oe) :: pn)) (b0 :: more) (ts a cls d)) (r : HdA X n hds l) :
      HdA X n (.ExceptHandler (some (.Name x np)) (some n) (b0 :: more) hp :: hds) ((c, ts) :: l)
section
variable {X : Cx} {body : List Stmt} {h0 : ExceptHandler} {hds : List ExceptHandler} {l : List (Value × Sui)} {pos : Pos} {tb : WX → TS} {n : Str} {i : Nat}
theorem ps_try_asm (stk : X.stack = X.env :: X.outer) (frm : X.env.frame = some X.env.locals) (nod : X.N.Nodup) (at_ : X.N[i]? = some n) (loc : X.env.kindOf n = some .local)
    (hb : ∀ (W : WX) (pn : List (Addr × Obj)) (xe : Value → Shared → Prop), Takes (X.tr pn xe) W → PassesOwn (model X.prog X.w) X.A X.env xe → PSs (X.tr pn xe) body (tb W))
    (hh : HdA X n (h0 :: hds) l) : PS X (.Try body (h0 :: hds) [] [] pos) (tTry X.K i tb l) := by
  refine ⟨fun pins s σ H D I h => ?_⟩
  have ok := I.ok
  have frs' : X.A.frames = some (X.env :: X.outer) := by rw [ok.frames, stk]
  refine wpAny_Try_except ?_
  have runs := (hb (wAsM X.K i (fun _ _ _ _ => False) D l) (X.pn ++ pins) (fun e s₁ => wpAny (model X.prog X.w) X.A (noteFrame e X.env) (fun _ s₂ => wpAny (model X.prog X.w) X.A (setFlight e none) (fun _ s₃ =>
    wpAny (model X.prog X.w) X.A (handleBy e X.env (h0 :: hds)) (SP X pins D) X.xe s₃) X.xe s₂) X.xe s₁) ?_ PassesOwn.looking).run [] s σ H D (I.toTry _) h
  · refine wpAny_mono runs (fun f s1 z => ?_) fun _ _ z => z
    match f with
    | .next => exact z.elim fun σ' z => z.elim fun H' z => wpAny_execs_nil ⟨σ', H', z.1.ofTry ok, z.2⟩
    | .brk => exact z.elim fun σ' z => z.elim fun H' z => ⟨σ', H', z.1.ofTry ok, z.2⟩
    | .cont => exact z.elim fun σ' z => z.elim fun H' z => ⟨σ', H', z.1.ofTry ok, z.2⟩
    | .ret u => exact z.elim fun v z => z.elim fun σ' z => z.elim fun H' z => ⟨v, σ', H', z.1.ofTry ok, z.2.1, z.2.2⟩
  · rintro u s' ⟨a, B, sI, pins', σ', H', cls, d, rfl, J0, nb, up, sky, na, os, ag, wish⟩
    have J : Inv X pins σ' H' sI := J0.ofTry ok
    rw [show (X.tr (X.pn ++ pins) _).stack = X.env :: X.outer from stk] at sky
    show wpAny (model X.prog X.w) X.A (noteFrame (.ref a) X.env) _ _ _
    refine Sky.land Zc.steady frs' frm sky fun h3 fl3 up3 => ?_
    have J3 : Inv X pins σ' H' { s' with heap := h3 } := J.landed nb fl3.1 (up.trans up3) os ag
    obtain ⟨oe3, vs3, he3, hz3, hd3⟩ := fl3.there
    have out : a ∉ frs (X.env :: X.outer) := fun hm => by
      obtain ⟨_, o', e', no⟩ := fl3.2.2.1.mem hm
      rw [he3] at e'
      cases e'
      exact no _ hd3
    have nL : a ≠ X.env.locals := fun z => out (List.mem_filterMap.mpr ⟨X.env, List.mem_cons_self, by rw [frm, z]⟩)
    have nF : a ∉ X.fs := fun hm => (List.mem_filterMap.mp hm).elim fun e z => out (List.mem_filterMap.mpr ⟨e, List.mem_cons_of_mem _ z.1, z.2⟩)
    have S3 := J3.suite he3 hd3 na nL nF
    have go : ∀ {hs' : List ExceptHandler} {l' : List (Value × Sui)}, HdA X n hs' l' → wAsM X.K i (fun _ _ _ _ => False) D l' cls d σ' H' →
        wpAny (model X.prog X.w) X.A (handleBy (.ref a) X.env hs') (SP X pins D) X.xe { s' with heap := h3 } := by
      intro hs' l' hk
      induction hk with
      | nil => exact fun z => z.elim
      | @cons x c ts b0 more np hp hds2 l2 nm su r ih =>
        rintro ⟨b, hb1, yes, no⟩
        refine wpAny_handleBy_cons (codeAny_handlers_test ?_) (by intro q; cases q)
        have lt : PySem.W.Looks (model X.prog X.w) h3 (typeOf (.ref a)) cls := fun A Q E s k q => wpAny_typeOf_ref (k _ _ he3) (by rw [hz3.1]; exact q)
        have lm := PySem.W.exm_one (M := model X.prog X.w) J3.kIn lt hb1
        have nam : ∀ {Q : Value → Shared → Prop} {E : Value → Shared → Prop}, Q c { s' with heap := h3 } → wpAny (model X.prog X.w) (X.A.mark (some (.ref a))) (eval (.Name x np) X.env) Q E { s' with heap := h3 } := fun {Q E} q => by
          rcases nm with ⟨n1, n2, n3 | ⟨n3, n4, n5⟩⟩
          · exact ld_glob (X := X.suite a ((a, oe3) :: (X.pn ++ pins))) S3 n1 n3 q n2
          · exact ld_blt (X := X.suite a ((a, oe3) :: (X.pn ++ pins))) S3 n1 n3 n4 q n5 n2
        refine nam (lm.here ?_)
        match b, yes, no with
        | false, _, no => exact ih (no rfl)
        | true, yes, _ =>
          refine codeAny_handlers_suite_as ?_
          refine HandSPX.lands_againZ fl3 fun h4 fl4 up4 => ?_
          have J4 : Inv X pins σ' H' { s' with heap := h4 } := J.landed nb fl4.1 ((up.trans up3).trans up4) os ag
          obtain ⟨oe4, vs4, he4, hz4, hd4⟩ := fl4.there
          refine store_ok (X := X.suite a ((a, oe4) :: (X.pn ++ pins))) (v := .ref a) (J4.suite he4 hd4 na nL nF) nod at_ (.inl loc) rfl (fun s5 S5 => ?_) (.inr loc)
          refine wpAny_mono ((su a oe4 cls d (X.pn ++ pins) hz4 ⟨_, hd4⟩).run [] s5 _ H' _ S5 (yes rfl a na)) (fun f s6 z => ?_) (fun _ _ z => z.elim)
          have over : ∀ {σ6 : L2.St} {H6 : Hp} {Q : Shared → Prop}, Inv (X.suite a ((a, oe4) :: (X.pn ++ pins))) [] σ6 H6 s6 → (∀ s7, Inv X pins (σ6.set i none) H6 s7 → Q s7) →
              wpAny (model X.prog X.w) X.A (do bindName X.env n .none; unbindBehindTheSuite X.env n hp) (fun _ s7 => Q s7) X.xe s6 := fun S6 hq => gone_ok (S6.unsuite ok) nod at_ loc hq
          match f with
          | .next => exact z.elim fun σ6 z => z.elim fun H6 z => over z.1 fun s7 J7 => ⟨_, _, J7, z.2⟩
          | .brk => exact z.elim fun σ6 z => z.elim fun H6 z => over z.1 fun s7 J7 => ⟨_, _, J7, z.2⟩
          | .cont => exact z.elim fun σ6 z => z.elim fun H6 z => over z.1 fun s7 J7 => ⟨_, _, J7, z.2⟩
          | .ret u => exact z.elim fun v z => z.elim fun σ6 z => z.elim fun H6 z => over z.1 fun s7 J7 => ⟨_, _, _, J7, z.2.1, z.2.2⟩
    exact go hh wish
end
/-! ### isinstance(e, T) in an except suite -/
structure ExI (K : PySem.W.Frag) (D : Addr) : Prop where
  cl : (PySem.W.clsIn K D).isSome = true
  hg : PySem.W.findIn K (.ref D) "__getattribute__" = some (some (.builtin "BaseException.__getattribute__"))
  hk : PySem.W.findIn K (.ref D) "__getattr__" = some none
  hs : PySem.W.subIn K (.ref D) (.type "BaseException") = some true
  ha : PySem.W.findIn K (.ref D) "__class__" = some (some (.builtin "object.__class__"))
  hn : PySem.W.specialIn K (.builtin "object.__class__") "__get__" = some (some (.builtin "getset_descriptor.__get__"))
  ht : PySem.W.takesIn K (.builtin "object.__class__") = some true
  hm : PySem.W.mroIn K D (.type "object") = some true
def rIsX (K : PySem.W.Frag) (a : Addr) (cls : Value) (d : Option Addr) : List V → Hp → VK → Prop := fun xs H Q => ∃ (D dd : Addr) (fs : List (Str × V)) (c : V) (cv : Value) (b : Bool), xs = [.ref a, c] ∧ cls = .ref D ∧ d = some dd ∧ ExI K D ∧ H dd = some (.xd fs) ∧ (∀ u, RelV c u → u = cv) ∧ PySem.W.kitOne K (.ref D) cv = some b ∧ Q (.bl b) H
theorem call_isX {X : Cx} {a : Addr} {oe : Obj} {cls : Value} {d : Option Addr} {pn : List (Addr × Obj)} (hz : Zc cls d oe) (hf : ∃ vs, oe.data = .fields vs) : CallR (X.suite a ((a, oe) :: pn)) (.builtin "isinstance") (rIsX X.K a cls d) := by
  intro pins s σ H xs us Q I r h
  obtain ⟨D, dd, fs, c, cv, b, rfl, rfl, rfl, C, hdd, hcv, e, q⟩ := h
  obtain ⟨u, z, rfl, ru, rz⟩ := vals2 r
  cases ru
  have ez := hcv _ rz
  subst ez
  obtain ⟨hget, _⟩ := I.pin (a, oe) (List.mem_append.mpr (.inl List.mem_cons_self))
  obtain ⟨vs, hv⟩ := hf
  have hx : ObjOk X.prog X.w H s.heap dd (.xd fs) := I.hok dd _ hdd
  obtain ⟨mA, hns, _⟩ := hx
  obtain ⟨od, ho, _⟩ := lookIn_ns hns
  have J : PySem.W.InstAt s.heap a oe D (some od) := ⟨hget, hz.1, by unfold PySem.W.notCls; rw [hv] <;> rfl, by rw [hz.2]; exact ho⟩
  exact PySem.W.kia_one (PySem.W.kitx_exc C.cl C.hg C.hk C.hs C.ha C.hn C.ht C.hm) I.kIn J e (fun z => nomatch z) fun tk => ⟨.bl b, H, I.kept (t' := tk) fun _ _ z => z, rfl, q⟩
/-! ### what the head tells of exception classes -/
section
open PySem.W
def mroVE (C : Addr) : List Value → Bool
  | .ref a :: bm => decide (a = C) && HandSPX.refsVE bm
  | _ => false
theorem mroVE_ok {C : Addr} {l : List Value} (h : mroVE C l = true) : ∃ bm, l = .ref C :: bm ∧ HandSPX.refsVE bm = true := by
  cases l with
  | nil => exact absurd h Bool.false_ne_true
  | cons v bm =>
    cases v with
    | ref a =>
      obtain ⟨z1, z2⟩ := He.ba h
      exact ⟨bm, by rw [of_decide_eq_true z1], z2⟩
    | _ => exact absurd h Bool.false_ne_true
def sixVE : List (Option Value) → Bool
  | [_, _, _, _, k4, _] => decide (k4 = some (.builtin "ValueError.__new__"))
  | _ => false
theorem sixVE_ok : ∀ {l : List (Option Value)}, sixVE l = true → ∃ k0 k1 k2 k3 k5, l = [k0, k1, k2, k3, some (.builtin "ValueError.__new__"), k5]
  | [k0, k1, k2, k3, k4, k5], h => ⟨k0, k1, k2, k3, k5, by rw [show k4 = some (.builtin "ValueError.__new__") from of_decide_eq_true h]⟩
def clsVE (C : Addr) : Option Obj → Bool
  | some ⟨c, _, .cls cd, sl⟩ => decide (c = .type "type") && (cd.hasDict && (!cd.hasDel && (mroVE C cd.mro && sixVE sl.toList)))
  | _ => false
theorem clsVE_ok {C : Addr} {o : Option Obj} (h : clsVE C o = true) : ∃ nm q N bs bm sn sub ab col dd k0 k1 k2 k3 k5, o = some (excClassObj nm q C N bs bm true sn sub ab col dd k0 k1 k2 k3 k5 "ValueError.__new__") ∧ HandSPX.refsVE bm = true := by
  cases o with
  | none => exact absurd h Bool.false_ne_true
  | some ob =>
    obtain ⟨c, dd, da, sl⟩ := ob
    cases da with
    | cls cd =>
      obtain ⟨nm, bs, mro, N, qn, hd, sn, sb, ab, co, del⟩ := cd
      obtain ⟨q1, h⟩ := He.ba h
      obtain ⟨q2, h⟩ := He.ba h
      obtain ⟨q3, h⟩ := He.ba h
      obtain ⟨q4, q5⟩ := He.ba h
      have q2 : hd = true := q2
      have q3 : (!del) = true := q3
      have q4 : mroVE C mro = true := q4
      obtain ⟨bm, e4, r4⟩ := mroVE_ok q4
      obtain ⟨k0, k1, k2, k3, k5, e5⟩ := sixVE_ok q5
      have e1 : c = .type "type" := of_decide_eq_true q1
      have e3 : del = false := by
        cases del
        · rfl
        · cases q3
      have esl : sl = #[k0, k1, k2, k3, some (.builtin "ValueError.__new__"), k5] := by
        rw [← Array.toArray_toList (xs := sl), e5]
      rw [e1, q2, e3, e4, esl]
      exact ⟨nm, qn, N, bs, bm, sn, sb, ab, co, dd, k0, k1, k2, k3, k5, rfl, r4⟩
    | _ => exact absurd h Bool.false_ne_true
def bOex (x : Str) (K : Frag) : Bool := clsVE (He.ga K x) (K.lookup (He.ga K x)) && (He.eqO (findIn K (.ref (He.ga K x)) "__setattr__") (some (some (.builtin "object.__setattr__"))) && (decide (subIn K (.ref (He.ga K x)) (.type "BaseException") = some true) && (decide (typeIn K (.ref (He.ga K x)) = some (.type "type")) && keepIn K (.ref (He.ga K x)))))
theorem bOex_ok {x : Str} {K : Frag} (h : bOex x K = true) : OexC K (He.ga K x) := by
  obtain ⟨h1, h⟩ := He.ba h
  obtain ⟨h2, h⟩ := He.ba h
  obtain ⟨h3, h⟩ := He.ba h
  obtain ⟨h4, h5⟩ := He.ba h
  exact ⟨clsVE_ok h1, He.eqO_ok h2, of_decide_eq_true h3, of_decide_eq_true h4, h5⟩
def bExi (x : Str) (K : Frag) : Bool := (clsIn K (He.ga K x)).isSome && (He.eqO (findIn K (.ref (He.ga K x)) "__getattribute__") (some (some (.builtin "BaseException.__getattribute__"))) && (He.eqO (findIn K (.ref (He.ga K x)) "__getattr__") (some none) &&
  (decide (subIn K (.ref (He.ga K x)) (.type "BaseException") = some true) && (He.eqO (findIn K (.ref (He.ga K x)) "__class__") (some (some (.builtin "object.__class__"))) && (He.eqO (specialIn K (.builtin "object.__class__") "__get__") (some (some (.builtin "getset_descriptor.__get__"))) &&
  (decide (takesIn K (.builtin "object.__class__") = some true) && decide (mroIn K (He.ga K x) (.type "object") = some true)))))))
theorem bExi_ok {x : Str} {K : Frag} (h : bExi x K = true) : ExI K (He.ga K x) := by
  obtain ⟨h1, h⟩ := He.ba h
  obtain ⟨h2, h⟩ := He.ba h
  obtain ⟨h3, h⟩ := He.ba h
  obtain ⟨h4, h⟩ := He.ba h
  obtain ⟨h5, h⟩ := He.ba h
  obtain ⟨h6, h⟩ := He.ba h
  obtain ⟨h7, h8⟩ := He.ba h
  exact ⟨h1, He.eqO_ok h2, He.eqO_ok h3, of_decide_eq_true h4, He.eqO_ok h5, He.eqO_ok h6, of_decide_eq_true h7, of_decide_eq_true h8⟩
/-- what is asked of the exception classes ns -/
structure XFacts (K : Frag) (ns : List Str) : Prop where
  i : ∀ x ∈ ns, ExI K (He.ga K x)
  v : ∀ x ∈ ns, kitOne K (.ref (He.ga K x)) (.type "ValueError") = some true
  b : ∀ x ∈ ns, exmOne K (.ref (He.ga K x)) (.ref (He.ga K "MinuteError")) = some true
  m : ∀ x ∈ ns, ∀ y ∈ ns, exmOne K (.ref (He.ga K x)) (.ref (He.ga K y)) = some (decide (x = y))
  k : ∀ x ∈ ns, ∀ y ∈ ns, kitOne K (.ref (He.ga K x)) (.ref (He.ga K y)) = some (decide (x = y))
def bXall (ns : List Str) (K : Frag) : Bool := ns.all fun x => bExi x K && (decide (kitOne K (.ref (He.ga K x)) (.type "ValueError") = some true) && (decide (exmOne K (.ref (He.ga K x)) (.ref (He.ga K "MinuteError")) = some true) &&
  ns.all fun y => decide (exmOne K (.ref (He.ga K x)) (.ref (He.ga K y)) = some (decide (x = y))) && decide (kitOne K (.ref (He.ga K x)) (.ref (He.ga K y)) = some (decide (x = y)))))
theorem bXall_ok {ns : List Str} {K : Frag} (h : bXall ns K = true) : XFacts K ns := by
  have h2 := List.all_eq_true.mp h
  have p : ∀ x ∈ ns, bExi x K = true ∧ kitOne K (.ref (He.ga K x)) (.type "ValueError") = some true ∧ exmOne K (.ref (He.ga K x)) (.ref (He.ga K "MinuteError")) = some true ∧
      ∀ y ∈ ns, exmOne K (.ref (He.ga K x)) (.ref (He.ga K y)) = some (decide (x = y)) ∧ kitOne K (.ref (He.ga K x)) (.ref (He.ga K y)) = some (decide (x = y)) := fun x hx => by
    obtain ⟨a1, a⟩ := He.ba (h2 x hx)
    obtain ⟨a2, a⟩ := He.ba a
    obtain ⟨a3, a4⟩ := He.ba a
    refine ⟨a1, of_decide_eq_true a2, of_decide_eq_true a3, fun y hy => ?_⟩
    obtain ⟨b1, b2⟩ := He.ba (List.all_eq_true.mp a4 y hy)
    exact ⟨of_decide_eq_true b1, of_decide_eq_true b2⟩
  exact ⟨fun x hx => bExi_ok (p x hx).1, fun x hx => (p x hx).2.1, fun x hx => (p x hx).2.2.1, fun x hx y hy => ((p x hx).2.2.2 y hy).1, fun x hx y hy => ((p x hx).2.2.2 y hy).2⟩
def bXf (x : Str) (K : Frag) : Bool := xfB K (He.ga K x)
theorem bXf_ok {x : Str} {K : Frag} (h : bXf x K = true) : XfC K (He.ga K x) := xfB_ok h
end
end RM
namespace RM
open PySem PySem.Spec PyProof.Rows L2
/-! ### comprehensions that draw from the pool -/
section
variable {K : PySem.W.Frag} {σ : L2.St} {H : Hp} {g : TG} {te : TE} {vs : List Nat} {Q : VK}
theorem lcP {J : It} {n : Nat} {Gd : Hp → Prop} {Y : Nat → Hp → V → Hp → Prop} (w : Walk J n Gd Y) (hn : n ≤ 100000) {P : Pl} {G : Hp} (hs : Sees P G H) (hG : ∀ H', Sees P G H' → Gd H') (hY : ∀ i H2 x H3, Y i H2 x H3 → H3 = H2) (I : Nat → List V → Prop) (h0 : I 0 [])
    (st : ∀ i x acc G2 H2 (R : VK), i < n → Y i H2 x H2 → Same G G2 → Sees P G2 H2 → acc.length ≤ i → I i acc → (∀ y H3, Sees P G2 H3 → I (i + 1) (acc ++ [y]) → R y H3) → g x (wipe σ vs) H2 fun σ2 H4 => wipe σ2 vs = wipe σ vs ∧ te σ2 H4 R)
    (hq : ∀ D acc H2, H D = none → Sees P G H2 → H2 D = some (.lst acc) → acc.length ≤ n → I n acc → Q (.ref D) H2) : LcW J g tYes te vs σ H Q := by
  intro D hD
  obtain ⟨gD, nD⟩ := hs.fresh hD
  refine lc_it w (fun i H2 => ∃ acc, Sees P G H2 ∧ H2 D = some (.lst acc) ∧ acc.length ≤ i ∧ I i acc) ⟨[], hs.set gD nD, upd_same, Nat.le_refl _, h0⟩ (fun i H2 _ p => ?_) (fun i x H2 H3 hi p y => ?_) (fun H2 p => ?_)
  · obtain ⟨acc, s, _⟩ := p
    exact hG _ s
  · obtain ⟨acc, s, d, l, hI⟩ := p
    have e := hY _ _ _ _ y
    rw [e] at y ⊢
    have z := st i x acc (upd G D (.lst acc)) H2 (fun y H4 => ∃ acc', H4 D = some (.lst acc') ∧ acc'.length < sizeLine ∧ ∃ acc2, Sees P G (upd H4 D (.lst (acc' ++ [y]))) ∧ upd H4 D (.lst (acc' ++ [y])) D = some (.lst acc2) ∧ acc2.length ≤ i + 1 ∧ I (i + 1) acc2) hi y (Same.new gD) (s.with gD d nD) l hI
      (fun y H3 s3 hI2 => ⟨acc, s3.sub _ _ upd_same, szlt (by omega), acc ++ [y], (s3.back s gD).1.set gD nD, upd_same, by simp; omega, hI2⟩)
    exact z
  · obtain ⟨acc, s, d, l, hI⟩ := p
    exact hq D acc H2 hD s d l hI
theorem lcPR {n : Int} (n0 : 0 ≤ n) (hn : n ≤ 100000) {P : Pl} {G : Hp} (hs : Sees P G H) (I : Nat → List V → Prop) (h0 : I 0 [])
    (st : ∀ (i : Nat) acc G2 H2 (R : VK), (i : Int) < n → Same G G2 → Sees P G2 H2 → acc.length ≤ i → I i acc → (∀ y H3, Sees P G2 H3 → I (i + 1) (acc ++ [y]) → R y H3) → g (.int (i : Nat)) (wipe σ vs) H2 fun σ2 H4 => wipe σ2 vs = wipe σ vs ∧ te σ2 H4 R)
    (hq : ∀ D acc H2, H D = none → Sees P G H2 → H2 D = some (.lst acc) → (acc.length : Int) ≤ n → I n.toNat acc → Q (.ref D) H2) : ∃ j : Int, [V.int n] = [V.int j] ∧ -(2 ^ 62) ≤ j ∧ j < 2 ^ 62 ∧ LcW (Itr 0 j.toNat) g tYes te vs σ H Q :=
  ⟨n, rfl, by omega, by omega, lcP walk_range (by omega) hs (fun _ _ => trivial) (fun i H2 x H3 y => y.1) I h0 (fun i x acc G2 H2 R hi y s1 s2 l hI k => by
    have e3 : x = .int (i : Nat) := by rw [y.2]; exact congrArg V.int (Int.zero_add _)
    subst e3
    exact st i acc G2 H2 R (by omega) s1 s2 l hI k) (fun D acc H2 hD s d l hI => hq D acc H2 hD s d (by omega) hI)⟩
theorem lcPL {a : Addr} {xs : List V} (hn : xs.length ≤ 100000) {P : Pl} {G : Hp} (hs : Sees P G H) (hx : SqL K H a xs) (hx2 : ∀ H', Sees P G H' → SqL K H' a xs) (I : Nat → List V → Prop) (h0 : I 0 [])
    (st : ∀ (i : Nat) x acc G2 H2 (R : VK), xs[i]? = some x → Same G G2 → Sees P G2 H2 → acc.length ≤ i → I i acc → (∀ y H3, Sees P G2 H3 → I (i + 1) (acc ++ [y]) → R y H3) → g x (wipe σ vs) H2 fun σ2 H4 => wipe σ2 vs = wipe σ vs ∧ te σ2 H4 R)
    (hq : ∀ D acc H2, H D = none → Sees P G H2 → H2 D = some (.lst acc) → acc.length ≤ xs.length → I xs.length acc → Q (.ref D) H2) : ∃ b, V.ref a = .ref b ∧ (∃ ys, SqL K H b ys) ∧ LcW (Itl K b) g tYes te vs σ H Q :=
  ⟨a, rfl, ⟨xs, hx⟩, lcP walk_list hn hs hx2 (fun i H2 x H3 y => y.1) I h0 (fun i x acc G2 H2 R hi y s1 s2 l hI k => st i x acc G2 H2 R y.2 s1 s2 l hI k) hq⟩
end
/-! ### ''.join(list) -/
def rJoin (K : PySem.W.Frag) : V → List V → Hp → VK → Prop := fun x xs H Q => ∃ a p, ∃ ys : List Str, x = .str a ∧ xs = [.ref p] ∧ (SqL K H p (ys.map V.str) ∨ SqT K H p (ys.map V.str)) ∧
  (ys.map (·.length)).sum + ys.length * a.length ≤ 16777216 ∧ Q (.str (Txt.join a ys)) H
theorem joinL_nil : ∀ cs : List Nat, TL.joinL [] (cs.map fun c => [c]) = cs
  | [] => rfl
  | [_] => rfl
  | a :: b :: r => by
    show [a] ++ ([] ++ TL.joinL [] ((b :: r).map fun c => [c])) = a :: b :: r
    rw [joinL_nil (b :: r)]
    rfl
theorem join_S (cs : List Nat) : Txt.join (S []) (cs.map fun c => S [c]) = S cs := by
  have h : TL.tl (Txt.join (S []) (cs.map fun c => S [c])) = cs := by
    rw [TL.join_eq, TL.tl_join, List.map_map]
    exact joinL_nil cs
  generalize Txt.join (S []) (cs.map fun c => S [c]) = z at h
  obtain ⟨⟨l⟩⟩ := z
  have h2 : l = cs := h
  rw [h2]
theorem wp_join1 {K : PySem.W.Frag} {H : Hp} {Q : VK} {p : Addr} {cs : List Nat} (hp : H p = some (.lst (cs.map fun c => V.str (S [c])))) (hn : cs.length ≤ 1000) (h : Q (.str (S cs)) H) : rJoin K (.str (S [])) [.ref p] H Q := by
  refine ⟨S [], p, cs.map fun c => S [c], rfl, rfl, .inl (sq_of (by rw [List.map_map]; exact hp)), ?_, by rw [join_S]; exact h⟩
  have e : ((cs.map fun c => S [c]).map (·.length)).sum = cs.length := by
    clear hp hn h
    induction cs with
    | nil => rfl
    | cons c r ih =>
      rw [List.map_cons, List.map_cons, List.sum_cons, ih, List.length_cons]
      show 1 + r.length = _
      omega
  have e2 : (S []).length = 0 := rfl
  rw [e, e2, Nat.mul_zero]
  omega
/-! ### defs with try -/
theorem wp_m1 {r : V → List V → Hp → VK → Prop} {to te : TE} {σ : L2.St} {H : Hp} {Q : VK} (h : to σ H fun x H1 => (∃ a, x = .str a) ∧ te σ H1 fun y H2 => r x [y] H2 Q) : tM1 r to te σ H Q := h
end RM
namespace RM
open PySem PySem.Spec PyProof.Rows L2
local macro_rules | `(tactic| walk_at "vn") => `(tactic| (first
  | with_reducible refine wp_v0 ?_
  | with_reducible refine wp_v1 ?_
  | with_reducible refine wp_v2 ?_
  | with_reducible refine wp_v3 ?_
  | with_reducible refine wp_v4 ?_
  | with_reducible refine wp_v5 ?_
  | with_reducible refine wp_v6 ?_
  | with_reducible refine wp_v7 ?_
  | with_reducible refine wp_v8 ?_
  | with_reducible refine wp_v9 ?_
  | with_reducible refine wp_v10 ?_
  | with_reducible refine wp_v11 ?_
  | with_reducible refine wp_v12 ?_
  | with_reducible refine wp_v13 ?_
  | with_reducible refine wp_v14 ?_
  | with_reducible refine wp_v15 ?_
  | with_reducible refine wp_v16 ?_
  | with_reducible refine wp_v17 ?_
  | with_reducible refine wp_v18 ?_
  | with_reducible refine wp_v19 ?_
  | with_reducible refine wp_v20 ?_
  | with_reducible refine wp_v21 ?_
  | with_reducible refine wp_v22 ?_
  | with_reducible refine wp_v23 ?_
  | with_reducible refine wp_v24 ?_
  | with_reducible refine wp_v25 ?_))
local macro_rules | `(tactic| walk_at "gn") => `(tactic| (first
  | with_reducible refine wp_g0 ?_
  | with_reducible refine wp_g1 ?_
  | with_reducible refine wp_g2 ?_
  | with_reducible refine wp_g3 ?_
  | with_reducible refine wp_g4 ?_
  | with_reducible refine wp_g5 ?_
  | with_reducible refine wp_g6 ?_
  | with_reducible refine wp_g7 ?_
  | with_reducible refine wp_g8 ?_
  | with_reducible refine wp_g9 ?_
  | with_reducible refine wp_g10 ?_
  | with_reducible refine wp_g11 ?_
  | with_reducible refine wp_g12 ?_
  | with_reducible refine wp_g13 ?_
  | with_reducible refine wp_g14 ?_
  | with_reducible refine wp_g15 ?_
  | with_reducible refine wp_g16 ?_
  | with_reducible refine wp_g17 ?_
  | with_reducible refine wp_g18 ?_
  | with_reducible refine wp_g19 ?_
  | with_reducible refine wp_g20 ?_
  | with_reducible refine wp_g21 ?_
  | with_reducible refine wp_g22 ?_
  | with_reducible refine wp_g23 ?_
  | with_reducible refine wp_g24 ?_
  | with_reducible refine wp_g25 ?_))
local macro_rules | `(tactic| walk_at "h") => `(tactic| (first
  | assumption
  | exact upd_same
  | exact (Sees.sub (by assumption) _ _ (by assumption))
  | exact (Sees.sub (by assumption) _ _ upd_same)
  | exact (Sees.sub (by assumption) _ _ (Eq.trans (upd_ne (by first | assumption | exact Ne.symm (by assumption))) (by assumption)))
  | exact (Sees.cell (by assumption))
  | exact (Sees.sub (by assumption) _ _ (Sees.cell (by assumption))) | fail "h"))
local macro_rules | `(tactic| walk_at "sq") => `(tactic| (first | assumption | exact sq_of (by walk_at "h") | fail "sq"))
local macro_rules | `(tactic| walk_at "tq") => `(tactic| (first | assumption | exact st_of (by walk_at "h") | fail "tq"))
local macro_rules | `(tactic| walk_at "isi") => `(tactic| (first
  | with_reducible refine is_non_int ?_
  | with_reducible refine is_non_bool ?_
  | with_reducible refine is_non_str ?_
  | with_reducible refine is_non_dict ?_
  | with_reducible refine is_non_list ?_
  | with_reducible refine is_non_tuple ?_
  | with_reducible refine is_bl_int ?_
  | with_reducible refine is_bl_bool ?_
  | with_reducible refine is_bl_str ?_
  | with_reducible refine is_bl_dict ?_
  | with_reducible refine is_bl_list ?_
  | with_reducible refine is_bl_tuple ?_
  | with_reducible refine is_int_int ?_
  | with_reducible refine is_int_bool ?_
  | with_reducible refine is_int_str ?_
  | with_reducible refine is_int_dict ?_
  | with_reducible refine is_int_list ?_
  | with_reducible refine is_int_tuple ?_
  | with_reducible refine is_str_int ?_
  | with_reducible refine is_str_bool ?_
  | with_reducible refine is_str_str ?_
  | with_reducible refine is_str_dict ?_
  | with_reducible refine is_str_list ?_
  | with_reducible refine is_str_tuple ?_
  | ((with_reducible refine' is_lst_int ?k1 ?_); (case k1 => walk_at "h"))
  | ((with_reducible refine' is_lst_bool ?k1 ?_); (case k1 => walk_at "h"))
  | ((with_reducible refine' is_lst_str ?k1 ?_); (case k1 => walk_at "h"))
  | ((with_reducible refine' is_lst_dict ?k1 ?_); (case k1 => walk_at "h"))
  | ((with_reducible refine' is_lst_list ?k1 ?_); (case k1 => walk_at "h"))
  | ((with_reducible refine' is_lst_tuple ?k1 ?_); (case k1 => walk_at "h"))
  | ((with_reducible refine' is_tup_int ?k1 ?_); (case k1 => walk_at "h"))
  | ((with_reducible refine' is_tup_bool ?k1 ?_); (case k1 => walk_at "h"))
  | ((with_reducible refine' is_tup_str ?k1 ?_); (case k1 => walk_at "h"))
  | ((with_reducible refine' is_tup_dict ?k1 ?_); (case k1 => walk_at "h"))
  | ((with_reducible refine' is_tup_list ?k1 ?_); (case k1 => walk_at "h"))
  | ((with_reducible refine' is_tup_tuple ?k1 ?_); (case k1 => walk_at "h"))
  | ((with_reducible refine' is_dK_int ?k1 ?_); (case k1 => walk_at "h"))
  | ((with_reducible refine' is_dK_bool ?k1 ?_); (case k1 => walk_at "h"))
  | ((with_reducible refine' is_dK_str ?k1 ?_); (case k1 => walk_at "h"))
  | ((with_reducible refine' is_dK_dict ?k1 ?_); (case k1 => walk_at "h"))
  | ((with_reducible refine' is_dK_list ?k1 ?_); (case k1 => walk_at "h"))
  | ((with_reducible refine' is_dK_tuple ?k1 ?_); (case k1 => walk_at "h"))
  | fail "isi"))
local macro_rules | `(tactic| walk_at "len") => `(tactic| (first | assumption | omega | (simp only [List.length_map, List.length_append, List.length_cons, List.length_nil] <;> omega) | decide | fail "len"))
local macro_rules | `(tactic| walk_at "at") => `(tactic| (first | exact at0 | exact at1 | exact at2 | exact at3 | exact at4 | rfl | assumption | fail "at"))
local macro_rules | `(tactic| walk_at "one") => `(tactic| (first
  | with_reducible refine wp_seq ?_
  | with_reducible refine wp_asg ?_
  | ((with_reducible refine is_var ?_); walk_at "vn")
  | ((with_reducible refine is_gname ?_); walk_at "gn")
  | with_reducible refine wp_c ?_
  | with_reducible refine wp_op ?_
  | with_reducible refine wp_cb ?_
  | with_reducible refine wp_cons ?_
  | with_reducible refine wp_nil ?_
  | with_reducible refine wp_call ?_
  | with_reducible refine wp_ret ?_
  | with_reducible refine wp_dgetE ?_
  | with_reducible refine wp_forItems ?_
  | with_reducible refine wp_forOwnL ?_
  | with_reducible refine wp_forOwnK ?_
  | with_reducible refine wp_subOwn ?_
  | with_reducible refine wp_din ?_
  | with_reducible refine wp_next ?_
  | with_reducible refine wp_rI0 ?_
  | with_reducible refine wp_int1 ?_
  | with_reducible refine wp_test ?_
  | with_reducible refine wp_bl ?_
  | with_reducible refine wp_ifS ?_
  | with_reducible refine wp_drop ?_
  | with_reducible refine wp_eqI ?_
  | with_reducible refine wp_eqS ?_
  | with_reducible refine wp_eqB ?_
  | with_reducible refine wp_neI ?_
  | with_reducible refine wp_neS ?_
  | with_reducible refine wp_min2 ?_
  | with_reducible refine wp_max2 ?_
  | with_reducible refine wp_find ?_
  | with_reducible refine wp_B ?_
  | with_reducible refine wp_not ?_
  | with_reducible refine wp_and ?_
  | with_reducible refine wp_or ?_
  | with_reducible refine wp_notV ?_
  | with_reducible refine wp_andV ?_
  | with_reducible refine wp_orV ?_
  | with_reducible refine wp_ifE ?_
  | with_reducible refine wp_chain ?_
  | with_reducible refine wp_slice ?_
  | with_reducible refine wp_noPart ?_
  | with_reducible refine wp_part ?_
  | with_reducible refine wp_partI ?_
  | with_reducible refine wp_for1 ?_
  | with_reducible refine wp_for2 ?_
  | with_reducible refine wp_forL ?_
  | with_reducible refine wp_forT ?_
  | with_reducible refine wp_forS ?_
  | with_reducible refine wp_lcL ?_
  | with_reducible refine wp_lcT ?_
  | with_reducible refine wp_lcS ?_
  | with_reducible refine wp_lc1 ?_
  | with_reducible refine wp_lcE ?_
  | with_reducible refine wp_starT ?_
  | with_reducible refine wp_brk ?_
  | with_reducible refine wp_cont ?_
  | with_reducible refine wp_bm ?_
  | with_reducible refine wp_bm0 ?_
  | with_reducible refine wp_gsub ?_
  | with_reducible refine wp_inS ?_
  | with_reducible refine wp_notInS ?_
  | with_reducible refine wp_un ?_
  | with_reducible refine wp_rU ?_
  | with_reducible refine wp_tup ?_
  | with_reducible refine wp_lst ?_
  | with_reducible refine ty_str ?_
  | with_reducible refine ite_t ?_
  | with_reducible refine ite_f ?_
  | with_reducible refine ite_nt ?_
  | with_reducible refine ite_nff ?_
  | ((with_reducible refine' ite_T ?k1 ?_); (case k1 => omega))
  | ((with_reducible refine' ite_F ?k1 ?_); (case k1 => omega))
  | ((with_reducible refine' ite_nT ?k1 ?_); (case k1 => omega))
  | ((with_reducible refine' ite_nF ?k1 ?_); (case k1 => omega))
  | ((with_reducible refine' wp_rI ?k1 ?_); (case k1 => (first | omega | exact ⟨by omega, by omega⟩ | exact .inr ⟨by decide, by decide⟩ | exact .inl ⟨by omega, by omega⟩ | exact .inl ⟨by decide, by decide⟩ | exact ⟨by decide, by decide, by decide⟩)))
  | ((with_reducible refine' wp_ixL ?k1 ?k2 ?_); (case k1 => walk_at "sq"); (case k2 => walk_at "at"))
  | ((with_reducible refine' wp_setL0 ?k1 ?_); (case k1 => walk_at "h"))
  | ((with_reducible refine' wp_setL1 ?k1 ?_); (case k1 => walk_at "h"))
  | ((with_reducible refine' wp_setL ?k1 ?k2 ?_); (case k1 => walk_at "h"); (case k2 => walk_at "at"))
  | ((with_reducible refine' wp_ixT ?k1 ?k2 ?_); (case k1 => walk_at "tq"); (case k2 => walk_at "at"))
  | ((with_reducible refine' wp_lenL ?k1 ?_); (case k1 => walk_at "sq"))
  | ((with_reducible refine' wp_lenT ?k1 ?_); (case k1 => walk_at "tq"))
  | ((with_reducible refine' wp_sliceS ?k1 ?_); (case k1 => walk_at "len"))
  | ((with_reducible refine is_isi ?_); walk_at "isi")
  | ((with_reducible refine' wp_lenS ?k1 ?_); (case k1 => walk_at "len"))
  | ((with_reducible refine' wp_addS ?k1 ?_); (case k1 => walk_at "len"))
  | ((with_reducible refine' wp_lenStr ?k1 ?_); (case k1 => walk_at "len"))
  | ((with_reducible refine' ty_list ?k1 ?_); (case k1 => walk_at "sq"))
  | ((with_reducible refine' wp_addStr ?k1 ?_); (case k1 => walk_at "len"))
  | with_reducible refine wp_fldC ?_
  | with_reducible refine wp_sfldC ?_
  | with_reducible refine wp_prop ?_
  | with_reducible refine wp_meth ?_
  | with_reducible refine wp_methD ?_
  | with_reducible refine wp_methK ?_
  | with_reducible refine wp_yes ?_
  | with_reducible refine wp_methR ?_
  | with_reducible refine wp_make ?_
  | with_reducible refine wp_isN ?_
  | with_reducible refine wp_enum ?_
  | with_reducible refine wp_gcons ?_
  | with_reducible refine wp_gnil ?_
  | ((with_reducible refine' wp_gtup ?k1 ?k2 ?_); (case k1 => walk_at "tq"); (case k2 => first | rfl | fail "gtup"))
  | ((with_reducible refine' fld_at ?k1 lk_T ?_); (case k1 => walk_at "h"))
  | ((with_reducible refine' fld_at ?k1 lk_e ?_); (case k1 => walk_at "h"))
  | ((with_reducible refine' fld_at ?k1 lk_mT ?_); (case k1 => walk_at "h"))
  | ((with_reducible refine' fld_at ?k1 lk_md ?_); (case k1 => walk_at "h"))
  | ((with_reducible refine' fld_at ?k1 lk_s ?_); (case k1 => walk_at "h"))
  | ((with_reducible refine' wp_isC ?k1 ?_); (case k1 => walk_at "h"))
  | fail "no step"))
local macro_rules | `(tactic| walk_at "st") => `(tactic| (repeat' walk_at "one"))
def Y_WrongNames : List Nat := [87, 114, 111, 110, 103, 78, 97, 109, 101, 115]
def Y_UnknownSpan : List Nat := [85, 110, 107, 110, 111, 119, 110, 83, 112, 97, 110]
def Y_UnknownEvent : List Nat := [85, 110, 107, 110, 111, 119, 110, 69, 118, 101, 110, 116]
def Y_TooMany : List Nat := [84, 111, 111, 77, 97, 110, 121]
def Y_SameEvent : List Nat := [83, 97, 109, 101, 69, 118, 101, 110, 116]
def Y_DoubleEvent : List Nat := [68, 111, 117, 98, 108, 101, 69, 118, 101, 110, 116]
def Y_BadNumber : List Nat := [66, 97, 100, 78, 117, 109, 98, 101, 114]
def Y_BadName : List Nat := [66, 97, 100, 78, 97, 109, 101]
def Y_aaaaaaaa : List Nat := [97, 97, 97, 97, 97, 97, 97, 97]
def Z64 : List Nat := [32, 33, 34, 35, 36, 38, 39, 40, 41, 42, 43, 44, 45, 46, 47, 48, 49, 50, 51, 52, 53, 54, 55, 56, 57, 58, 59, 60, 61, 62, 63, 64, 65, 66, 67, 68, 69, 70, 71, 72, 73, 74, 75, 76, 77, 78, 79, 80, 81, 82, 83, 84, 85, 86, 87, 88, 89, 90, 91, 92, 93, 94, 95, 96]
def Z30 : List Nat := [97, 98, 99, 100, 101, 102, 103, 104, 105, 106, 107, 108, 109, 110, 111, 112, 113, 114, 115, 116, 117, 118, 119, 120, 121, 122, 123, 124, 125, 126]
abbrev C_MinuteError (K : PySem.W.Frag) : Addr := He.ga K "MinuteError"
abbrev C_BadName (K : PySem.W.Frag) : Addr := He.ga K "BadName"
abbrev C_BadNumber (K : PySem.W.Frag) : Addr := He.ga K "BadNumber"
abbrev C_UnknownEvent (K : PySem.W.Frag) : Addr := He.ga K "UnknownEvent"
abbrev C_DoubleEvent (K : PySem.W.Frag) : Addr := He.ga K "DoubleEvent"
abbrev C_SameEvent (K : PySem.W.Frag) : Addr := He.ga K "SameEvent"
abbrev C_WrongNames (K : PySem.W.Frag) : Addr := He.ga K "WrongNames"
abbrev C_UnknownSpan (K : PySem.W.Frag) : Addr := He.ga K "UnknownSpan"
abbrev C_TooMany (K : PySem.W.Frag) : Addr := He.ga K "TooMany"
abbrev C_Net (K : PySem.W.Frag) : Addr := He.ga K "Net"
def exs : List Str := ["BadName", "BadNumber", "UnknownEvent", "DoubleEvent", "SameEvent", "WrongNames", "UnknownSpan", "TooMany"]
def top (i : Nat) : Stmt := PySem.Challenge.pw_roundminutes_k04_net_refuses.main.body.getD i (.Pass ⟨0, 0, 0, 0⟩)
def inClass (st : Stmt) (j : Nat) : Stmt := (C8.clsBody st).getD j (.Pass ⟨0, 0, 0, 0⟩)
abbrev s_check_range : Stmt := top 18
abbrev s_check_round_length : Stmt := top 19
abbrev s_check_count : Stmt := top 20
abbrev s_is_name : Stmt := top 15
abbrev s_check_name : Stmt := top 16
abbrev s_check_event : Stmt := top 21
abbrev s_check_known : Stmt := top 22
abbrev s_check_span : Stmt := top 23
abbrev s_check_net : Stmt := top 24
abbrev s_Net_init : Stmt := inClass (top 25) 5
abbrev s_Net_round_length : Stmt := inClass (top 25) 7
abbrev s_Net_events : Stmt := inClass (top 25) 8
abbrev s_Net_spans : Stmt := inClass (top 25) 9
abbrev s_l_pool : Stmt := top 27
abbrev s_l_draw : Stmt := top 28
abbrev s_l_word : Stmt := top 30
abbrev s_l_names : Stmt := top 31
abbrev s_l_length : Stmt := top 34
abbrev s_l_size : Stmt := top 36
abbrev s_l_some : Stmt := top 29
abbrev s_l_weight : Stmt := top 35
abbrev s_l_span : Stmt := top 37
abbrev s_l_spans : Stmt := top 38
abbrev s_l_is_int : Stmt := top 39
abbrev s_l_same : Stmt := top 40
abbrev s_l_sign : Stmt := top 33
abbrev s_l_odd : Stmt := top 42
abbrev s_l_wide : Stmt := top 43
abbrev s_l_pick : Stmt := top 44
abbrev s_l_filled : Stmt := top 45
abbrev s_l_stranger : Stmt := top 32
abbrev s_l_bad_span : Stmt := top 46
abbrev s_l_spoilt : Stmt := top 47
abbrev s_l_valid : Stmt := top 41
abbrev s_l_tests : Stmt := top 48
abbrev s_l_due : Stmt := top 49
abbrev s_l_flags : Stmt := top 50
abbrev s_l_told : Stmt := top 51
abbrev s_law : Stmt := top 52
abbrev s_BadName_init : Stmt := inClass (top 3) 0
abbrev s_BadNumber_init : Stmt := inClass (top 4) 0
abbrev s_DoubleEvent_init : Stmt := inClass (top 6) 0
abbrev s_SameEvent_init : Stmt := inClass (top 7) 0
abbrev s_TooMany_init : Stmt := inClass (top 10) 0
abbrev s_UnknownEvent_init : Stmt := inClass (top 5) 0
def d_check_range : DX := ⟨fun K => He.ga K "check_range", "check_range", "check_range", defArgs s_check_range, defBody s_check_range, defScope s_check_range, [], []⟩
def d_check_round_length : DX := ⟨fun K => He.ga K "check_round_length", "check_round_length", "check_round_length", defArgs s_check_round_length, defBody s_check_round_length, defScope s_check_round_length, [], []⟩
def d_check_count : DX := ⟨fun K => He.ga K "check_count", "check_count", "check_count", defArgs s_check_count, defBody s_check_count, defScope s_check_count, [], []⟩
def d_is_name : DX := ⟨fun K => He.ga K "is_name", "is_name", "is_name", defArgs s_is_name, defBody s_is_name, defScope s_is_name, [], []⟩
def d_check_name : DX := ⟨fun K => He.ga K "check_name", "check_name", "check_name", defArgs s_check_name, defBody s_check_name, defScope s_check_name, [], []⟩
def d_check_event : DX := ⟨fun K => He.ga K "check_event", "check_event", "check_event", defArgs s_check_event, defBody s_check_event, defScope s_check_event, [], []⟩
def d_check_known : DX := ⟨fun K => He.ga K "check_known", "check_known", "check_known", defArgs s_check_known, defBody s_check_known, defScope s_check_known, [], []⟩
def d_check_span : DX := ⟨fun K => He.ga K "check_span", "check_span", "check_span", defArgs s_check_span, defBody s_check_span, defScope s_check_span, [], []⟩
def d_check_net : DX := ⟨fun K => He.ga K "check_net", "check_net", "check_net", defArgs s_check_net, defBody s_check_net, defScope s_check_net, [], []⟩
def d_Net_init : DX := ⟨fun K => He.ma K (He.ga K "Net") "__init__", "__init__", "Net.__init__", defArgs s_Net_init, defBody s_Net_init, defScope s_Net_init, [], []⟩
def d_Net_round_length : DX := ⟨fun K => gAd K (He.ga K "Net") "round_length", "round_length", "Net.round_length", defArgs s_Net_round_length, defBody s_Net_round_length, defScope s_Net_round_length, [], []⟩
def d_Net_events : DX := ⟨fun K => gAd K (He.ga K "Net") "events", "events", "Net.events", defArgs s_Net_events, defBody s_Net_events, defScope s_Net_events, [], []⟩
def d_Net_spans : DX := ⟨fun K => gAd K (He.ga K "Net") "spans", "spans", "Net.spans", defArgs s_Net_spans, defBody s_Net_spans, defScope s_Net_spans, [], []⟩
def d_l_pool : DX := ⟨fun K => He.ga K "_law_pool", "_law_pool", "_law_pool", defArgs s_l_pool, defBody s_l_pool, defScope s_l_pool, [], []⟩
def d_l_draw : DX := ⟨fun K => He.ga K "_law_draw", "_law_draw", "_law_draw", defArgs s_l_draw, defBody s_l_draw, defScope s_l_draw, [], []⟩
def d_l_word : DX := ⟨fun K => He.ga K "_law_word", "_law_word", "_law_word", defArgs s_l_word, defBody s_l_word, defScope s_l_word, [], []⟩
def d_l_names : DX := ⟨fun K => He.ga K "_law_names", "_law_names", "_law_names", defArgs s_l_names, defBody s_l_names, defScope s_l_names, [], []⟩
def d_l_length : DX := ⟨fun K => He.ga K "_law_length", "_law_length", "_law_length", defArgs s_l_length, defBody s_l_length, defScope s_l_length, [], []⟩
def d_l_size : DX := ⟨fun K => He.ga K "_law_size", "_law_size", "_law_size", defArgs s_l_size, defBody s_l_size, defScope s_l_size, [], []⟩
def d_l_some : DX := ⟨fun K => He.ga K "_law_some", "_law_some", "_law_some", defArgs s_l_some, defBody s_l_some, defScope s_l_some, [], []⟩
def d_l_weight : DX := ⟨fun K => He.ga K "_law_weight", "_law_weight", "_law_weight", defArgs s_l_weight, defBody s_l_weight, defScope s_l_weight, [], []⟩
def d_l_span : DX := ⟨fun K => He.ga K "_law_span", "_law_span", "_law_span", defArgs s_l_span, defBody s_l_span, defScope s_l_span, [], []⟩
def d_l_spans : DX := ⟨fun K => He.ga K "_law_spans", "_law_spans", "_law_spans", defArgs s_l_spans, defBody s_l_spans, defScope s_l_spans, [], []⟩
def d_l_is_int : DX := ⟨fun K => He.ga K "_law_is_int", "_law_is_int", "_law_is_int", defArgs s_l_is_int, defBody s_l_is_int, defScope s_l_is_int, [], []⟩
def d_l_same : DX := ⟨fun K => He.ga K "_law_same", "_law_same", "_law_same", defArgs s_l_same, defBody s_l_same, defScope s_l_same, [], []⟩
def d_l_sign : DX := ⟨fun K => He.ga K "_law_sign", "_law_sign", "_law_sign", defArgs s_l_sign, defBody s_l_sign, defScope s_l_sign, [], []⟩
def d_l_odd : DX := ⟨fun K => He.ga K "_law_odd", "_law_odd", "_law_odd", defArgs s_l_odd, defBody s_l_odd, defScope s_l_odd, [], []⟩
def d_l_wide : DX := ⟨fun K => He.ga K "_law_wide", "_law_wide", "_law_wide", defArgs s_l_wide, defBody s_l_wide, defScope s_l_wide, [], []⟩
def d_l_pick : DX := ⟨fun K => He.ga K "_law_pick", "_law_pick", "_law_pick", defArgs s_l_pick, defBody s_l_pick, defScope s_l_pick, [], []⟩
def d_l_filled : DX := ⟨fun K => He.ga K "_law_filled", "_law_filled", "_law_filled", defArgs s_l_filled, defBody s_l_filled, defScope s_l_filled, [], []⟩
def d_l_stranger : DX := ⟨fun K => He.ga K "_law_stranger", "_law_stranger", "_law_stranger", defArgs s_l_stranger, defBody s_l_stranger, defScope s_l_stranger, [], []⟩
def d_l_bad_span : DX := ⟨fun K => He.ga K "_law_bad_span", "_law_bad_span", "_law_bad_span", defArgs s_l_bad_span, defBody s_l_bad_span, defScope s_l_bad_span, [], []⟩
def d_l_spoilt : DX := ⟨fun K => He.ga K "_law_spoilt", "_law_spoilt", "_law_spoilt", defArgs s_l_spoilt, defBody s_l_spoilt, defScope s_l_spoilt, [], []⟩
def d_l_valid : DX := ⟨fun K => He.ga K "_law_valid", "_law_valid", "_law_valid", defArgs s_l_valid, defBody s_l_valid, defScope s_l_valid, [], []⟩
def d_l_tests : DX := ⟨fun K => He.ga K "_law_tests", "_law_tests", "_law_tests", defArgs s_l_tests, defBody s_l_tests, defScope s_l_tests, [], []⟩
def d_l_due : DX := ⟨fun K => He.ga K "_law_due", "_law_due", "_law_due", defArgs s_l_due, defBody s_l_due, defScope s_l_due, [], []⟩
def d_l_flags : DX := ⟨fun K => He.ga K "_law_flags", "_law_flags", "_law_flags", defArgs s_l_flags, defBody s_l_flags, defScope s_l_flags, [], []⟩
def d_l_told : DX := ⟨fun K => He.ga K "_law_told", "_law_told", "_law_told", defArgs s_l_told, defBody s_l_told, defScope s_l_told, [], []⟩
def d_law : DX := ⟨fun K => He.ga K "law", "law", "law", defArgs s_law, defBody s_law, defScope s_law, [], []⟩
def d_BadName_init : DX := ⟨fun K => He.ma K (He.ga K "BadName") "__init__", "__init__", "BadName.__init__", defArgs s_BadName_init, defBody s_BadName_init, defScope s_BadName_init, [], []⟩
def d_BadNumber_init : DX := ⟨fun K => He.ma K (He.ga K "BadNumber") "__init__", "__init__", "BadNumber.__init__", defArgs s_BadNumber_init, defBody s_BadNumber_init, defScope s_BadNumber_init, [], []⟩
def d_DoubleEvent_init : DX := ⟨fun K => He.ma K (He.ga K "DoubleEvent") "__init__", "__init__", "DoubleEvent.__init__", defArgs s_DoubleEvent_init, defBody s_DoubleEvent_init, defScope s_DoubleEvent_init, [], []⟩
def d_SameEvent_init : DX := ⟨fun K => He.ma K (He.ga K "SameEvent") "__init__", "__init__", "SameEvent.__init__", defArgs s_SameEvent_init, defBody s_SameEvent_init, defScope s_SameEvent_init, [], []⟩
def d_TooMany_init : DX := ⟨fun K => He.ma K (He.ga K "TooMany") "__init__", "__init__", "TooMany.__init__", defArgs s_TooMany_init, defBody s_TooMany_init, defScope s_TooMany_init, [], []⟩
def d_UnknownEvent_init : DX := ⟨fun K => He.ma K (He.ga K "UnknownEvent") "__init__", "__init__", "UnknownEvent.__init__", defArgs s_UnknownEvent_init, defBody s_UnknownEvent_init, defScope s_UnknownEvent_init, [], []⟩
def fns : List DX := [d_check_range, d_check_round_length, d_check_count, d_is_name, d_check_name, d_check_event, d_check_known, d_check_span, d_check_net, d_Net_init, d_Net_round_length, d_Net_events, d_Net_spans, d_l_pool, d_l_draw, d_l_word, d_l_names, d_l_length, d_l_size, d_l_some, d_l_weight, d_l_span, d_l_spans, d_l_is_int, d_l_same, d_l_sign, d_l_odd, d_l_wide, d_l_pick, d_l_filled, d_l_stranger, d_l_bad_span, d_l_spoilt, d_l_valid, d_l_tests, d_l_due, d_l_flags, d_l_told, d_law, d_BadName_init, d_BadNumber_init, d_DoubleEvent_init, d_SameEvent_init, d_TooMany_init, d_UnknownEvent_init]
def bs : List (PySem.W.Frag → Bool) := [bRead "Net", bCval "Net" "EVENTS" 12, bCval "Net" "SPANS" 24, bCval "Net" "LONGEST" 120, bCval "Net" "SHORTEST" 3, bOex "BadNumber", bOex "TooMany", bOex "DoubleEvent", bOex "BadName", bOex "SameEvent", bCval "Net" "HEAVIEST" 99, bOex "UnknownEvent", bXf "BadName", bXf "BadNumber", bXf "DoubleEvent", bXf "SameEvent", bXf "UnknownEvent", bXf "TooMany", bXall exs, bProp "Net" "round_length", bProp "Net" "events", bProp "Net" "spans"]
def fas : List He.Fa := [.glo "check_range", .glo "check_round_length", .glo "check_count", .glo "is_name", .glo "check_name", .glo "check_event", .glo "check_known", .glo "check_span", .glo "check_net", .mkr "Net", .glo "_law_pool", .glo "_law_draw", .glo "_law_word", .glo "_law_names", .glo "_law_length", .glo "_law_size", .glo "_law_some", .glo "_law_weight", .glo "_law_span", .glo "_law_spans", .glo "_law_is_int", .glo "_law_same", .glo "_law_sign", .glo "_law_odd", .glo "_law_wide", .glo "_law_pick", .glo "_law_filled", .glo "_law_stranger", .glo "_law_bad_span", .glo "_law_spoilt", .glo "_law_valid", .glo "_law_tests", .glo "_law_due", .glo "_law_flags", .glo "_law_told", .glo "law", .meth "BadName" "__init__", .meth "BadNumber" "__init__", .meth "DoubleEvent" "__init__", .meth "SameEvent" "__init__", .meth "TooMany" "__init__", .meth "UnknownEvent" "__init__", .free "range", .free "list", .cls "Net", .noat "Net" "_round_length", .noat "Net" "_events", .noat "Net" "_spans", .glo "Net", .free "len", .free "enumerate", .glo "BadNumber", .noat "BadNumber" "number", .glo "TooMany", .noat "TooMany" "count", .noat "TooMany" "limit", .glo "DoubleEvent", .noat "DoubleEvent" "name", .glo "BadName", .noat "BadName" "name", .int "LONGEST_NAME" (8), .str "LETTERS" "abcdefghijklmnopqrstuvwxyz", .str "DIGITS" "0123456789", .free "all", .glo "SameEvent", .noat "SameEvent" "name", .glo "UnknownEvent", .noat "UnknownEvent" "name", .free "int", .free "str", .free "min", .free "max", .free "bool", .free "isinstance", .free "dict", .free "tuple", .glo "MinuteError", .glo "WrongNames", .glo "UnknownSpan", .free "ValueError"]
abbrev Rw : PySem.W.OpenRow := PySem.W.OpenLaw.row PySem.Challenge.rw_roundminutes_k04_net_refuses
abbrev hk : PySem.W.Hook := hookX 5 bs fas fns
def ob (s : PySem.W.SharedT) : AlX := obsXG 5 bs fas fns (HandSHeadRun.getT s)
theorem ob_ok (s : PySem.W.SharedT) : ob s = hk.obs s.abs := obsXG_eq (HandSHeadRun.getT_eq s)
def loose : List Str := [("_wall" : Str), ("MinuteError" : Str), ("BadName" : Str), ("BadNumber" : Str), ("UnknownEvent" : Str), ("DoubleEvent" : Str), ("SameEvent" : Str), ("WrongNames" : Str), ("UnknownSpan" : Str), ("TooMany" : Str), ("LETTERS" : Str), ("DIGITS" : Str), ("LONGEST_NAME" : Str), ("is_name" : Str), ("check_name" : Str), ("check_range" : Str), ("check_round_length" : Str), ("check_count" : Str), ("check_event" : Str), ("check_known" : Str), ("check_span" : Str), ("check_net" : Str), ("Net" : Str), ("_law_pool" : Str), ("_law_draw" : Str), ("_law_some" : Str), ("_law_word" : Str), ("_law_names" : Str), ("_law_stranger" : Str), ("_law_sign" : Str), ("_law_length" : Str), ("_law_weight" : Str), ("_law_size" : Str), ("_law_span" : Str), ("_law_spans" : Str), ("_law_is_int" : Str), ("_law_same" : Str), ("_law_valid" : Str), ("_law_odd" : Str), ("_law_wide" : Str), ("_law_pick" : Str), ("_law_filled" : Str), ("_law_bad_span" : Str), ("_law_spoilt" : Str), ("_law_tests" : Str), ("_law_due" : Str), ("_law_flags" : Str), ("_law_told" : Str)]
theorem run (w : World) : HandSHeadRun.RunEq Rw (PySem.W.view Rw.prog [52]) hk ob 8000 loose w := by
  intro os
  kernel_rfl
/-- an error that is due: its class and its fields -/
structure Er where
  c : Str
  fs : List (Str × V)
def eN (n : Int) : Er := ⟨"BadNumber", [("number", .int n)]⟩
def eS (c : Str) (l : List Nat) : Er := ⟨c, [("name", sv l)]⟩
def eT (a b : Int) : Er := ⟨"TooMany", [("limit", .int b), ("count", .int a)]⟩
/-- what a check says: nothing, or that error -/
def Ck (K : PySem.W.Frag) (r : Option Er) (E : XK) (H : Hp) (Q : VK) : Prop := ∀ H', Same H H' → (r = none → Q .non H') ∧ ∀ e, r = some e → Rzd (He.ga K e.c) e.fs E H'
theorem Ck.non {K : PySem.W.Frag} {r : Option Er} {E : XK} {H : Hp} {Q : VK} (h : Ck K r E H Q) (e : r = none) : Q .non H := (h H (Same.refl _)).1 e
theorem Ck.rz {K : PySem.W.Frag} {r : Option Er} {e : Er} {E : XK} {H : Hp} {Q : VK} (h : Ck K r E H Q) (q : r = some e) : Rzd (He.ga K e.c) e.fs E H := (h H (Same.refl _)).2 e q
theorem Ck.mono {K : PySem.W.Frag} {r : Option Er} {E : XK} {H H2 : Hp} {Q : VK} (h : Ck K r E H Q) (s : Same H H2) : Ck K r E H2 Q := fun H' s2 => h H' (s.trans s2)
theorem Ck.seq {K : PySem.W.Frag} {a b : Option Er} {E : XK} {H : Hp} {Q Q' : VK} (h : Ck K (a.or b) E H Q) (k : ∀ H', Same H H' → a = none → Ck K b E H' Q → Q' .non H') : Ck K a E H Q' := by
  intro H' s
  cases a with
  | none =>
      refine ⟨fun _ => k H' s rfl fun H2 s2 => ?_, fun e q => nomatch q⟩
      have z := h H2 (s.trans s2)
      rw [Option.none_or] at z
      exact z
  | some e =>
      exact ⟨(fun q => nomatch q), fun e' q => (h H' s).2 e' (by rw [← q]; rfl)⟩
theorem Ck.fst {K : PySem.W.Frag} {a b : Option Er} {E : XK} {H : Hp} {Q : VK} (h : Ck K (a.or b) E H Q) (e : a = none) : Ck K b E H Q := by rw [e, Option.none_or] at h; exact h
theorem wp_rs {C : Addr} {fs : List Str} {E : XK} {ta : TA} {D : Ends} {σ : L2.St} {H : Hp} (h : ta σ H fun vs H1 => RsW C fs E vs H1) : tRs C fs E ta D σ H := h
def cRng (n lo hi : Int) : Option Er := if lo ≤ n ∧ n ≤ hi then none else some (eN n)
def sp_check_range (K : PySem.W.Frag) : Sp := fun vs H Q E => ∃ (n lo hi : Int), vs = [.int n, .int lo, .int hi] ∧ Ck K (cRng n lo hi) E H Q
abbrev N_check_range : List Str := ["number", "low", "high"]
theorem st_check_range {a0 a1 a2 : V} : L2.start N_check_range [a0, a1, a2] = [some a0, some a1, some a2] := rfl
def t_check_range (K : PySem.W.Frag) (E : XK) : TS :=
  (tIfS ((tNot ((tTest (tChain (rI0 fun i j => .bl (decide (i ≤ j))) (rI0 fun i j => .bl (decide (i ≤ j))) (tVar 1) (tVar 0) (tVar 2)))))) ((tRs (C_BadNumber K) ["number"] E ((tCons (tVar 0) (tNil))))) (tNext))

theorem pure_check_range (K : PySem.W.Frag) (vs : List V) (H : Hp) (Q : VK) (E : XK) (h : sp_check_range K vs H Q E) : t_check_range K E { nx := fun _ H' => Q .non H', rt := Q } (L2.start N_check_range vs) H := by
  obtain ⟨n, lo, hi, rfl, k⟩ := h
  rw [st_check_range]
  unfold t_check_range
  by_cases c : lo ≤ n ∧ n ≤ hi
  · obtain ⟨h1, h2⟩ := c
    walk_at "st"
    exact k.non (if_pos ⟨h1, h2⟩)
  · have z := k.rz (e := eN n) (if_neg c)
    walk_at "st"
    refine ite_dec (fun h1 => ?_) (fun h1 => ?_)
    · walk_at "st"
      refine wp_rs ?_
      walk_at "st"
      exact rs_of rfl (by decide) z
    · walk_at "st"
      refine wp_rs ?_
      walk_at "st"
      exact rs_of rfl (by decide) z
theorem len_check_range (K : PySem.W.Frag) (vs : List V) (H : Hp) (Q : VK) (E : XK) (h : sp_check_range K vs H Q E) : vs.length = 3 := by
  obtain ⟨n, lo, hi, rfl, _⟩ := h
  rfl
theorem c_check_range {K : PySem.W.Frag} {n lo hi : Int} {H : Hp} {Q : VK} {E : XK} (k : Ck K (cRng n lo hi) E H Q) : sp_check_range K [.int n, .int lo, .int hi] H Q E := ⟨n, lo, hi, rfl, k⟩
def sp_check_round_length (K : PySem.W.Frag) : Sp := fun vs H Q E => ∃ (n : Int), vs = [.int n] ∧ Ck K (cRng n 3 120) E H Q
abbrev N_check_round_length : List Str := ["round_length"]
theorem st_check_round_length {a0 : V} : L2.start N_check_round_length [a0] = [some a0] := rfl
def t_check_round_length (K : PySem.W.Frag) (E : XK) : TS :=
  (tDrop ((tCall (sp_check_range K) [] E ((tCons (tVar 0) ((tCons (tC (.int 3)) ((tCons (tC (.int 120)) (tNil))))))))))

theorem pure_check_round_length (K : PySem.W.Frag) (vs : List V) (H : Hp) (Q : VK) (E : XK) (h : sp_check_round_length K vs H Q E) : t_check_round_length K E { nx := fun _ H' => Q .non H', rt := Q } (L2.start N_check_round_length vs) H := by
  obtain ⟨n, rfl, k⟩ := h
  rw [st_check_round_length]
  unfold t_check_round_length
  walk_at "st"
  exact c_check_range k
theorem len_check_round_length (K : PySem.W.Frag) (vs : List V) (H : Hp) (Q : VK) (E : XK) (h : sp_check_round_length K vs H Q E) : vs.length = 1 := by
  obtain ⟨n, rfl, _⟩ := h
  rfl
theorem c_check_round_length {K : PySem.W.Frag} {n : Int} {H : Hp} {Q : VK} {E : XK} (k : Ck K (cRng n 3 120) E H Q) : sp_check_round_length K [.int n] H Q E := ⟨n, rfl, k⟩
def cCnt (n m : Int) : Option Er := if n ≤ m then none else some (eT n m)
def sp_check_count (K : PySem.W.Frag) : Sp := fun vs H Q E => ∃ (n m : Int), vs = [.int n, .int m] ∧ Ck K (cCnt n m) E H Q
abbrev N_check_count : List Str := ["count", "limit"]
theorem st_check_count {a0 a1 : V} : L2.start N_check_count [a0, a1] = [some a0, some a1] := rfl
def t_check_count (K : PySem.W.Frag) (E : XK) : TS :=
  (tIfS ((tTest (tOp (rI0 fun i j => .bl (decide (j < i))) (tVar 0) (tVar 1)))) ((tRs (C_TooMany K) ["count", "limit"] E ((tCons (tVar 0) ((tCons (tVar 1) (tNil))))))) (tNext))

theorem pure_check_count (K : PySem.W.Frag) (vs : List V) (H : Hp) (Q : VK) (E : XK) (h : sp_check_count K vs H Q E) : t_check_count K E { nx := fun _ H' => Q .non H', rt := Q } (L2.start N_check_count vs) H := by
  obtain ⟨n, m, rfl, k⟩ := h
  rw [st_check_count]
  unfold t_check_count
  walk_at "st"
  refine ite_dec (fun h1 => ?_) (fun h1 => ?_)
  · refine wp_rs ?_
    walk_at "st"
    exact rs_of rfl (by decide) (k.rz (e := eT n m) (if_neg (by omega)))
  · exact k.non (if_pos (by omega))
theorem len_check_count (K : PySem.W.Frag) (vs : List V) (H : Hp) (Q : VK) (E : XK) (h : sp_check_count K vs H Q E) : vs.length = 2 := by
  obtain ⟨n, m, rfl, _⟩ := h
  rfl
theorem c_check_count {K : PySem.W.Frag} {n m : Int} {H : Hp} {Q : VK} {E : XK} (k : Ck K (cCnt n m) E H Q) : sp_check_count K [.int n, .int m] H Q E := ⟨n, m, rfl, k⟩
def sp_is_name (K : PySem.W.Frag) : Sp := fun vs H Q _ => ∃ (l : List Nat), vs = [.str (S l)] ∧ l.length ≤ 1000 ∧ ∀ H', Same H H' → Q (.bl (isNm l)) H'
abbrev N_is_name : List Str := ["text", "sign"]
theorem st_is_name {a0 : V} : L2.start N_is_name [a0] = [some a0, none] := rfl
def t_is_name (K : PySem.W.Frag) : TS :=
  (tSeq ((tIfS ((tNot ((tTest (tChain (rI0 fun i j => .bl (decide (i ≤ j))) (rI0 fun i j => .bl (decide (i ≤ j))) (tC (.int 1)) ((tCB rLenStr ((tCons (tVar 0) (tNil))))) (tC (.int 8))))))) ((tRet (tC (.bl false)))) (tNext)))
    ((tRet ((tAndV ((tOp rInS ((tOp rIxS (tVar 0) (tC (.int 0)))) (tC (.str (S Z26))))) ((tCB (rAll K) ((tCons ((tLc ((iStr (tVar 0))) ((gName 1)) (tYes) ((tOrV ((tOp rInS (tVar 1) (tC (.str (S Z26))))) ((tOp rInS (tVar 1) (tC (.str (S Z10))))))) [1])) (tNil))))))))))

theorem pure_is_name (K : PySem.W.Frag) (vs : List V) (H : Hp) (Q : VK) (E : XK) (h : sp_is_name K vs H Q E) : t_is_name K { nx := fun _ H' => Q .non H', rt := Q } (L2.start N_is_name vs) H := by
  obtain ⟨l, rfl, hl, k⟩ := h
  rw [st_is_name]
  unfold t_is_name
  walk_at "st"
  have no : isNm l = false → Q (.bl false) H := fun e => by
    have z := k H (Same.refl H)
    rw [e] at z
    exact z
  refine ite_dec (fun h => ?_) (fun h => ?_)
  · walk_at "st"
    refine ite_ndec (fun h2 => ?_) (fun h2 => ?_)
    · walk_at "st"
      refine no ?_
      unfold isNm
      rw [decide_eq_false (by omega : ¬ l.length ≤ 8), Bool.false_and, Bool.and_false]
    · walk_at "st"
      cases l with
      | nil => exact absurd h (by simp)
      | cons c r =>
        refine wp_ixS (by rw [S_len]; omega) (c := c) at0 ?_
        walk_at "st"
        have hlen : decide (1 ≤ (c :: r).length) = true := by simp
        have hlen2 : decide ((c :: r).length ≤ 8) = true := by rw [decide_eq_true_eq]; omega
        refine ite_dec (fun h3 => ?_) (fun h3 => ?_)
        · walk_at "st"
          refine lcMapS (by omega) (fun x => [some (.str (S (c :: r))), some x]) (fun x => ⟨rfl, rfl⟩) (fun c => .bl (decide (LD c))) (fun c H2 hxm _ R hR => ?_) (fun D H2 hD s2 hD2 => ?_)
          · walk_at "st"
            have e : decide (LD c) = (decide (c ∈ Z26) || decide (c ∈ Z10)) := by
              rw [← Bool.decide_or, decide_eq_decide, z26, z10]
              rfl
            have z := hR H2 (Same.refl _)
            rw [e] at z
            refine ite_b (fun q => ?_) (fun q => ?_)
            · have q2 : decide (c ∈ Z26) = true := q
              rw [q2] at z
              exact z
            · have q2 : decide (c ∈ Z26) = false := q
              rw [q2] at z
              walk_at "st"
              exact z
          walk_at "st"
          refine wp_allL (bs := (c :: r).map fun c => decide (LD c)) (sq_of (by rw [List.map_map]; exact hD2)) ?_
          have e : ((c :: r).map fun c => decide (LD c)).all id = isNm (c :: r) := by
            unfold isNm
            have hc : decide (LT c) = true := decide_eq_true (z26.mp h3)
            rw [hlen, hlen2]
            show _ = (true && (true && (decide (LT c) && _)))
            rw [hc, List.all_map]
            rfl
          rw [e]
          exact k H2 s2
        · walk_at "st"
          refine no ?_
          rw [Bool.eq_false_iff]
          intro q
          obtain ⟨x, y, e, hx⟩ := (nm_iff.mp q).first
          cases e
          exact h3 (z26.mpr hx)
  · walk_at "st"
    refine no ?_
    unfold isNm
    rw [decide_eq_false (by omega : ¬ 1 ≤ l.length)]
    rfl
theorem len_is_name (K : PySem.W.Frag) (vs : List V) (H : Hp) (Q : VK) (E : XK) (h : sp_is_name K vs H Q E) : vs.length = 1 := by
  obtain ⟨l, rfl, _⟩ := h
  rfl
theorem c_is_name {K : PySem.W.Frag} {l : List Nat} {H : Hp} {Q : VK} {E : XK} (hl : l.length ≤ 1000) (k : ∀ H', Same H H' → Q (.bl (isNm l)) H') : sp_is_name K [.str (S l)] H Q E := ⟨l, rfl, hl, k⟩

def cName (l : List Nat) : Option Er := if isNm l = true then none else some (eS "BadName" l)
def sp_check_name (K : PySem.W.Frag) : Sp := fun vs H Q E => ∃ (l : List Nat), vs = [.str (S l)] ∧ l.length ≤ 1000 ∧ Ck K (cName l) E H Q
abbrev N_check_name : List Str := ["text"]
theorem st_check_name {a0 : V} : L2.start N_check_name [a0] = [some a0] := rfl
def t_check_name (K : PySem.W.Frag) (E : XK) : TS :=
  (tIfS ((tNot ((tB ((tCall (sp_is_name K) [] E0 ((tCons (tVar 0) (tNil))))))))) ((tRs (C_BadName K) ["name"] E ((tCons (tVar 0) (tNil))))) (tNext))

theorem pure_check_name (K : PySem.W.Frag) (vs : List V) (H : Hp) (Q : VK) (E : XK) (h : sp_check_name K vs H Q E) : t_check_name K E { nx := fun _ H' => Q .non H', rt := Q } (L2.start N_check_name vs) H := by
  obtain ⟨l, rfl, hn, k⟩ := h
  rw [st_check_name]
  unfold t_check_name
  walk_at "st"
  refine c_is_name (by omega) fun H2 s2 => ?_
  walk_at "st"
  have k2 := k.mono s2
  by_cases c : isNm l = true
  · rw [c]
    walk_at "st"
    exact k2.non (if_pos c)
  · rw [Bool.not_eq_true] at c
    rw [c]
    walk_at "st"
    refine wp_rs ?_
    walk_at "st"
    exact rs_of rfl (by decide) (k2.rz (e := eS "BadName" l) (if_neg (by rw [c]; decide)))
theorem len_check_name (K : PySem.W.Frag) (vs : List V) (H : Hp) (Q : VK) (E : XK) (h : sp_check_name K vs H Q E) : vs.length = 1 := by
  obtain ⟨n, rfl, _⟩ := h
  rfl
theorem c_check_name {K : PySem.W.Frag} {l : List Nat} {H : Hp} {Q : VK} {E : XK} (hn : l.length ≤ 1000) (k : Ck K (cName l) E H Q) : sp_check_name K [.str (S l)] H Q E := ⟨l, rfl, hn, k⟩
def cEv (l : List Nat) (ms : List (List Nat)) : Option Er := (cName l).or (if l ∈ ms then some (eS "DoubleEvent" l) else none)
def sp_check_event (K : PySem.W.Frag) : Sp := fun vs H Q E => ∃ (l : List Nat) (b : Addr) (ms : List (List Nat)), vs = [.str (S l), .ref b] ∧ H b = some (.lst (ms.map sv)) ∧ l.length ≤ 1000 ∧ Ck K (cEv l ms) E H Q
abbrev N_check_event : List Str := ["name", "before"]
theorem st_check_event {a0 a1 : V} : L2.start N_check_event [a0, a1] = [some a0, some a1] := rfl
def t_check_event (K : PySem.W.Frag) (E : XK) : TS :=
  (tSeq ((tDrop ((tCall (sp_check_name K) [] E ((tCons (tVar 0) (tNil)))))))
    ((tIfS ((tTest (tOp (rIn K false) (tVar 0) (tVar 1)))) ((tRs (C_DoubleEvent K) ["name"] E ((tCons (tVar 0) (tNil))))) (tNext))))

theorem pure_check_event (K : PySem.W.Frag) (vs : List V) (H : Hp) (Q : VK) (E : XK) (h : sp_check_event K vs H Q E) : t_check_event K E { nx := fun _ H' => Q .non H', rt := Q } (L2.start N_check_event vs) H := by
  obtain ⟨l, b, ms, rfl, hb, hn, k⟩ := h
  rw [st_check_event]
  unfold t_check_event
  walk_at "st"
  refine c_check_name hn (Ck.seq k fun H2 s2 _ k2 => ?_)
  walk_at "st"
  refine wp_inSv (sq_of (s2 _ _ hb)) ?_
  by_cases c : l ∈ ms
  · rw [decide_eq_true c]
    walk_at "st"
    refine wp_rs ?_
    walk_at "st"
    exact rs_of rfl (by decide) (k2.rz (e := eS "DoubleEvent" l) (if_pos c))
  · rw [decide_eq_false c]
    walk_at "st"
    exact k2.non (if_neg c)
theorem len_check_event (K : PySem.W.Frag) (vs : List V) (H : Hp) (Q : VK) (E : XK) (h : sp_check_event K vs H Q E) : vs.length = 2 := by
  obtain ⟨n, m, ms, rfl, _⟩ := h
  rfl
theorem c_check_event {K : PySem.W.Frag} {l : List Nat} {b : Addr} {ms : List (List Nat)} {H : Hp} {Q : VK} {E : XK} (hb : H b = some (.lst (ms.map sv))) (hn : l.length ≤ 1000) (k : Ck K (cEv l ms) E H Q) : sp_check_event K [.str (S l), .ref b] H Q E := ⟨l, b, ms, rfl, hb, hn, k⟩
def cK1 (ms : List (List Nat)) (l : List Nat) : Option Er := if l ∈ ms then none else some (eS "UnknownEvent" l)
def cFold {α : Type} (f : α → Option Er) : List α → Option Er
  | [] => none
  | x :: r => (f x).or (cFold f r)
theorem cFold_drop {α : Type} {f : α → Option Er} {xs : List α} {i : Nat} {x : α} (h : xs[i]? = some x) : cFold f (xs.drop i) = (f x).or (cFold f (xs.drop (i + 1))) := by
  obtain ⟨hl, e⟩ := List.getElem?_eq_some_iff.mp h
  rw [List.drop_eq_getElem_cons hl, e]
  rfl
def sp_check_known (K : PySem.W.Frag) : Sp := fun vs H Q E => ∃ (a b : Addr) (ls ms : List (List Nat)), vs = [.ref a, .ref b] ∧ H a = some (.lst (ls.map sv)) ∧ H b = some (.lst (ms.map sv)) ∧ Ck K (cFold (cK1 ms) ls) E H Q
abbrev N_check_known : List Str := ["names", "known", "name"]
theorem st_check_known {a0 a1 : V} : L2.start N_check_known [a0, a1] = [some a0, some a1, none] := rfl
def t_check_known (K : PySem.W.Frag) (E : XK) : TS :=
  (tFor ((iList K (tVar 0))) (gName 2) ((tIfS ((tTest (tOp (rIn K true) (tVar 2) (tVar 1)))) ((tRs (C_UnknownEvent K) ["name"] E ((tCons (tVar 2) (tNil))))) (tNext))))

theorem pure_check_known (K : PySem.W.Frag) (vs : List V) (H : Hp) (Q : VK) (E : XK) (h : sp_check_known K vs H Q E) : t_check_known K E { nx := fun _ H' => Q .non H', rt := Q } (L2.start N_check_known vs) H := by
  obtain ⟨a, b, ls, ms, rfl, ha, hb, k⟩ := h
  rw [st_check_known]
  unfold t_check_known
  walk_at "st"
  refine loopL (sq_of ha) (fun i σ' H' => ∃ x, σ' = [some (.ref a), some (.ref b), x] ∧ H' = H ∧ Ck K (cFold (cK1 ms) (ls.drop i)) E H Q) ⟨_, rfl, rfl, k⟩ ?_ ?_ ?_
  · rintro i σ' H' _ ⟨x, rfl, rfl, _⟩
    exact sq_of ha
  · rintro i x σ' H' hx ⟨y, rfl, rfl, k2⟩
    rw [List.getElem?_map] at hx
    obtain ⟨l, hl, rfl⟩ := Option.map_eq_some_iff.mp hx
    rw [cFold_drop hl] at k2
    walk_at "st"
    refine wp_notInSv (sq_of hb) ?_
    by_cases c : l ∈ ms
    · rw [decide_eq_true c]
      walk_at "st"
      exact ⟨_, rfl, rfl, k2.fst (if_pos c)⟩
    · rw [decide_eq_false c]
      walk_at "st"
      refine wp_rs ?_
      walk_at "st"
      exact rs_of rfl (by decide) (k2.rz (e := eS "UnknownEvent" l) (by unfold cK1; rw [if_neg c]; rfl))
  · rintro σ' H' ⟨x, rfl, rfl, k2⟩
    refine k2.non ?_
    rw [List.length_map, List.drop_length]
    rfl
theorem len_check_known (K : PySem.W.Frag) (vs : List V) (H : Hp) (Q : VK) (E : XK) (h : sp_check_known K vs H Q E) : vs.length = 2 := by
  obtain ⟨n, m, ls, ms, rfl, _⟩ := h
  rfl
theorem c_check_known {K : PySem.W.Frag} {a b : Addr} {ls ms : List (List Nat)} {H : Hp} {Q : VK} {E : XK} (ha : H a = some (.lst (ls.map sv))) (hb : H b = some (.lst (ms.map sv))) (k : Ck K (cFold (cK1 ms) ls) E H Q) : sp_check_known K [.ref a, .ref b] H Q E := ⟨a, b, ls, ms, rfl, ha, hb, k⟩
def cSp (T : Int) (ns : List (List Nat)) (r : Row) : Option Er :=
  (cFold (cK1 ns) [r.u, r.v]).or ((if r.u = r.v then some (eS "SameEvent" r.u) else none).or ((cRng r.lo 0 (T - 1)).or ((cRng r.hi r.lo (r.lo + T - 3)).or (cRng r.w 0 99))))
def sp_check_span (K : PySem.W.Frag) : Sp := fun vs H Q E => ∃ (T : Int) (e p : Addr) (ns : List (List Nat)) (r : Row), vs = [.int T, .ref e, .ref p] ∧ H e = some (.lst (ns.map sv)) ∧ H p = some (.tup (rowV r)) ∧ Ck K (cSp T ns r) E H Q
abbrev N_check_span : List Str := ["round_length", "events", "span", "start", "end", "least", "most", "weight"]
theorem st_check_span {a0 a1 a2 : V} : L2.start N_check_span [a0, a1, a2] = [some a0, some a1, some a2, none, none, none, none, none] := rfl
def t_check_span (K : PySem.W.Frag) (E : XK) : TS :=
  (tSeq ((tAsg (tVar 2) (gTup K 5 (gCons (gName 3) (gCons (gName 4) (gCons (gName 5) (gCons (gName 6) (gCons (gName 7) gNil))))))))
    ((tSeq ((tDrop ((tCall (sp_check_known K) [] E ((tCons ((tLst ((tCons (tVar 3) ((tCons (tVar 4) (tNil))))))) ((tCons (tVar 1) (tNil)))))))))
    ((tSeq ((tIfS ((tTest (tOp rEq (tVar 3) (tVar 4)))) ((tRs (C_SameEvent K) ["name"] E ((tCons (tVar 3) (tNil))))) (tNext)))
    ((tSeq ((tDrop ((tCall (sp_check_range K) [] E ((tCons (tVar 5) ((tCons (tC (.int 0)) ((tCons ((tOp (rI0 fun i j => .int (i - j)) (tVar 0) (tC (.int 1)))) (tNil)))))))))))
    ((tSeq ((tDrop ((tCall (sp_check_range K) [] E ((tCons (tVar 6) ((tCons (tVar 5) ((tCons ((tOp (rI0 fun i j => .int (i - j)) ((tOp (rI0 fun i j => .int (i + j)) (tVar 5) (tVar 0))) (tC (.int 3)))) (tNil)))))))))))
    ((tDrop ((tCall (sp_check_range K) [] E ((tCons (tVar 7) ((tCons (tC (.int 0)) ((tCons (tC (.int 99)) (tNil))))))))))))))))))))

theorem pure_check_span (K : PySem.W.Frag) (vs : List V) (H : Hp) (Q : VK) (E : XK) (h : sp_check_span K vs H Q E) : t_check_span K E { nx := fun _ H' => Q .non H', rt := Q } (L2.start N_check_span vs) H := by
  obtain ⟨T, e, p, ns, r, rfl, he, hp, k⟩ := h
  rw [st_check_span]
  unfold t_check_span
  unfold rowV at hp
  walk_at "st"
  refine ⟨by simp [sizeLine_eq], fun q hq => ?_⟩
  have s2 := Same.new (o := .lst ([r.u, r.v].map sv)) hq
  walk_at "st"
  refine c_check_known (ls := [r.u, r.v]) upd_same (s2 _ _ he) (Ck.seq (k.mono s2) fun H3 s3 _ k3 => ?_)
  walk_at "st"
  by_cases c : r.u = r.v
  · rw [decide_eq_true (congrArg S c)]
    walk_at "st"
    refine wp_rs ?_
    walk_at "st"
    exact rs_of rfl (by decide) (k3.rz (e := eS "SameEvent" r.u) (by rw [if_pos c]; rfl))
  · rw [decide_eq_false (fun h => c (S_inj h))]
    rw [if_neg c, Option.none_or] at k3
    walk_at "st"
    refine c_check_range (Ck.seq k3 fun H4 s4 _ k4 => ?_)
    walk_at "st"
    refine c_check_range (Ck.seq k4 fun H5 s5 _ k5 => ?_)
    walk_at "st"
    exact c_check_range k5
theorem len_check_span (K : PySem.W.Frag) (vs : List V) (H : Hp) (Q : VK) (E : XK) (h : sp_check_span K vs H Q E) : vs.length = 3 := by
  obtain ⟨n, m, ms, a, b, rfl, _⟩ := h
  rfl
theorem c_check_span {K : PySem.W.Frag} {T : Int} {e : Addr} {x : V} {r : Row} {ns : List (List Nat)} {H : Hp} {Q : VK} {E : XK} (he : H e = some (.lst (ns.map sv))) (hx : IsRow H x r) (k : Ck K (cSp T ns r) E H Q) : sp_check_span K [.int T, .ref e, x] H Q E := by
  obtain ⟨p, rfl, hp⟩ := hx
  exact ⟨T, e, p, ns, r, rfl, he, hp, k⟩
def cEvs : List (List Nat) → List (List Nat) → Option Er
  | _, [] => none
  | bef, l :: r => (cEv l bef).or (cEvs (bef ++ [l]) r)
theorem cEvs_drop {ns : List (List Nat)} {i : Nat} {l : List Nat} (h : ns[i]? = some l) : cEvs (ns.take i) (ns.drop i) = (cEv l (ns.take i)).or (cEvs (ns.take (i + 1)) (ns.drop (i + 1))) := by
  obtain ⟨hl, e⟩ := List.getElem?_eq_some_iff.mp h
  rw [List.drop_eq_getElem_cons hl, e, List.take_add_one, h]
  rfl
def cNet (T : Int) (ns : List (List Nat)) (rs : List Row) : Option Er := (cRng T 3 120).or ((cCnt ns.length 12).or ((cEvs [] ns).or ((cCnt rs.length 24).or (cFold (cSp T ns) rs))))
/-- the parts of a net, good or not, at e and s -/
structure Prt (H : Hp) (e s : Addr) (ns : List (List Nat)) (ss : List V) (rs : List Row) : Prop where
  e : H e = some (.lst (ns.map sv))
  s : H s = some (.lst ss)
  r : Rws H ss rs
  n : ∀ l ∈ ns, l.length ≤ 1000
  fn : ns.length ≤ 1000
  fs : rs.length ≤ 1000
  an : ∀ l ∈ ns, Asc l
  ar : ∀ r ∈ rs, AscR r
theorem Prt.mono {H H' : Hp} {e s : Addr} {ns : List (List Nat)} {ss : List V} {rs : List Row} (sm : Same H H') (p : Prt H e s ns ss rs) : Prt H' e s ns ss rs := ⟨sm _ _ p.e, sm _ _ p.s, p.r.mono sm, p.n, p.fn, p.fs, p.an, p.ar⟩
def sp_check_net (K : PySem.W.Frag) : Sp := fun vs H Q E => ∃ (T : Int) (e s : Addr) (ns : List (List Nat)) (ss : List V) (rs : List Row), vs = [.int T, .ref e, .ref s] ∧ Prt H e s ns ss rs ∧ Ck K (cNet T ns rs) E H Q
abbrev N_check_net : List Str := ["round_length", "events", "spans", "at", "name", "span"]
theorem st_check_net {a0 a1 a2 : V} : L2.start N_check_net [a0, a1, a2] = [some a0, some a1, some a2, none, none, none] := rfl
def t_check_net (K : PySem.W.Frag) (E : XK) : TS :=
  (tSeq ((tDrop ((tCall (sp_check_round_length K) [] E ((tCons (tVar 0) (tNil)))))))
    ((tSeq ((tDrop ((tCall (sp_check_count K) [] E ((tCons ((tCB (rLenS K) ((tCons (tVar 1) (tNil))))) ((tCons (tC (.int 12)) (tNil)))))))))
    ((tSeq ((tFor ((iEnum K ((tCons (tVar 1) (tNil))))) (gTup K 2 (gCons (gName 3) (gCons (gName 4) gNil))) ((tDrop ((tCall (sp_check_event K) [] E ((tCons (tVar 4) ((tCons ((tSl (rSlL K) (tVar 1) tNoPart (tPart (tVar 3)))) (tNil)))))))))))
    ((tSeq ((tDrop ((tCall (sp_check_count K) [] E ((tCons ((tCB (rLenS K) ((tCons (tVar 2) (tNil))))) ((tCons (tC (.int 24)) (tNil)))))))))
    ((tFor ((iList K (tVar 2))) (gName 5) ((tDrop ((tCall (sp_check_span K) [] E ((tCons (tVar 0) ((tCons (tVar 1) ((tCons (tVar 5) (tNil))))))))))))))))))))

theorem pure_check_net (K : PySem.W.Frag) (vs : List V) (H : Hp) (Q : VK) (E : XK) (h : sp_check_net K vs H Q E) : t_check_net K E { nx := fun _ H' => Q .non H', rt := Q } (L2.start N_check_net vs) H := by
  obtain ⟨T, e, s, ns, ss, rs, rfl, p, k⟩ := h
  rw [st_check_net]
  unfold t_check_net
  have f1 := p.fn
  have f2 := p.fs
  have f3 := p.r.len
  have he := p.e
  walk_at "st"
  refine c_check_round_length (Ck.seq k fun H1 s1 _ k1 => ?_)
  have he1 := s1 _ _ he
  walk_at "st"
  rw [List.length_map]
  refine c_check_count (Ck.seq k1 fun H2 s2 _ k2 => ?_)
  have s12 := s1.trans s2
  have he2 := s12 _ _ he
  walk_at "st"
  refine loopE (sq_of he2) (fun i σ' H' => ∃ x y z, σ' = [some (.int T), some (.ref e), some (.ref s), x, y, z] ∧ Same H H' ∧ Ck K ((cEvs (ns.take i) (ns.drop i)).or ((cCnt rs.length 24).or (cFold (cSp T ns) rs))) E H' Q) ⟨_, _, _, rfl, s12, k2⟩ ?_ ?_ ?_
  · rintro i σ' H' _ ⟨x, y, z, rfl, s2, _⟩
    exact sq_of (s2 _ _ he)
  · rintro i x q σ' H' hx ⟨y, z, w, rfl, s2, k3⟩ hq
    rw [List.getElem?_map] at hx
    obtain ⟨l, hl, rfl⟩ := Option.map_eq_some_iff.mp hx
    have s3 := s2.trans (Same.new (o := .tup [.int (i : Nat), sv l]) hq)
    have hil : i < ns.length := (List.getElem?_eq_some_iff.mp hl).1
    rw [cEvs_drop hl, Option.or_assoc] at k3
    walk_at "st"
    refine wp_sliceL (sq_of (s3 _ _ he)) fun b hb => ?_
    rw [cutG_to (by rw [List.length_map]; omega), ← List.map_take]
    have s4 := (Same.new (o := .tup [.int (i : Nat), sv l]) hq).trans (Same.new (o := .lst ((ns.take i).map sv)) hb)
    walk_at "st"
    refine c_check_event upd_same (p.n _ (List.mem_of_getElem? hl)) (Ck.seq (k3.mono s4) fun H4 s5 _ k4 => ?_)
    walk_at "st"
    exact ⟨_, _, _, rfl, (s2.trans s4).trans s5, k4⟩
  · rintro σ' H' ⟨x, y, z, rfl, s2, k3⟩
    have hs2 := s2 _ _ p.s
    rw [List.length_map, List.drop_length] at k3
    walk_at "st"
    rw [f3]
    refine c_check_count (Ck.seq k3 fun H3 s3 _ k4 => ?_)
    have s23 := s2.trans s3
    have hs3 := s23 _ _ p.s
    walk_at "st"
    refine loopL (sq_of hs3) (fun i σ' H' => ∃ x y z, σ' = [some (.int T), some (.ref e), some (.ref s), x, y, z] ∧ Same H H' ∧ Ck K (cFold (cSp T ns) (rs.drop i)) E H' Q) ⟨_, _, _, rfl, s23, k4⟩ ?_ ?_ ?_
    · rintro i σ' H' _ ⟨x, y, z, rfl, s2, _⟩
      exact sq_of (s2 _ _ p.s)
    · rintro i x σ' H' hx ⟨y, z, w, rfl, s4, k5⟩
      obtain ⟨r, hr, hxr⟩ := p.r.at hx
      rw [cFold_drop hr] at k5
      walk_at "st"
      refine c_check_span (s4 _ _ he) (hxr.mono s4) (Ck.seq k5 fun H4 s5 _ k6 => ?_)
      walk_at "st"
      exact ⟨_, _, _, rfl, s4.trans s5, k6⟩
    · rintro σ' H' ⟨x, y, z, rfl, s4, k5⟩
      refine k5.non ?_
      rw [f3, List.drop_length]
      rfl
theorem len_check_net (K : PySem.W.Frag) (vs : List V) (H : Hp) (Q : VK) (E : XK) (h : sp_check_net K vs H Q E) : vs.length = 3 := by
  obtain ⟨n, m, ms, a, b, c, rfl, _⟩ := h
  rfl
theorem c_check_net {K : PySem.W.Frag} {T : Int} {e s : Addr} {ns : List (List Nat)} {ss : List V} {rs : List Row} {H : Hp} {Q : VK} {E : XK} (p : Prt H e s ns ss rs) (k : Ck K (cNet T ns rs) E H Q) : sp_check_net K [.int T, .ref e, .ref s] H Q E := ⟨T, e, s, ns, ss, rs, rfl, p, k⟩
def sp_Net_init (K : PySem.W.Frag) : Sp := fun vs H Q E => ∃ (x dx : Addr) (T : Int) (e s : Addr) (ns : List (List Nat)) (ss : List V) (rs : List Row), vs = [.ref x, .int T, .ref e, .ref s] ∧ H x = some (.ins (C_Net K) dx []) ∧ Prt H e s ns ss rs ∧
  (∀ er, cNet T ns rs = some er → ∀ H', Same H H' → Rzd (He.ga K er.c) er.fs E H') ∧
  (cNet T ns rs = none → ∀ (le ls : Addr) H', H' x = some (.ins (C_Net K) dx (netF T le ls)) → H' le = some (.lst (ns.map sv)) → H' ls = some (.lst ss) → H le = none → H ls = none → le ≠ ls → (∀ a o, a ≠ x → H a = some o → H' a = some o) → Q .non H')
abbrev N_Net_init : List Str := ["self", "round_length", "events", "spans"]
theorem st_Net_init {a0 a1 a2 a3 : V} : L2.start N_Net_init [a0, a1, a2, a3] = [some a0, some a1, some a2, some a3] := rfl
def t_Net_init (K : PySem.W.Frag) (E : XK) : TS :=
  (tSeq ((tDrop ((tCall (sp_check_net K) [] E ((tCons (tVar 1) ((tCons (tVar 2) ((tCons (tVar 3) (tNil)))))))))))
    ((tSeq ((sFldC (C_Net K) (tVar 0) (tVar 1) "_round_length"))
    ((tSeq ((sFldC (C_Net K) (tVar 0) ((tCB (rListS K) ((tCons (tVar 2) (tNil))))) "_events"))
    ((sFldC (C_Net K) (tVar 0) ((tCB (rListS K) ((tCons (tVar 3) (tNil))))) "_spans")))))))

theorem pure_Net_init (K : PySem.W.Frag) (vs : List V) (H : Hp) (Q : VK) (E : XK) (h : sp_Net_init K vs H Q E) : t_Net_init K E { nx := fun _ H' => Q .non H', rt := Q } (L2.start N_Net_init vs) H := by
  obtain ⟨x, dx, T, e, s, ns, ss, rs, rfl, hx, p, kx, k⟩ := h
  have he := p.e
  have hs := p.s
  rw [st_Net_init]
  unfold t_Net_init
  have nex : e ≠ x := fun h => by rw [h, hx] at he; cases he
  have nsx : s ≠ x := fun h => by rw [h, hx] at hs; cases hs
  walk_at "st"
  refine c_check_net p (fun H2 s2 => ⟨fun e0 => ?_, fun er e1 => kx er e1 H2 s2⟩)
  have k := k e0
  walk_at "st"
  refine sfld_at (s2 _ _ hx) (by decide) pt_1 ?_
  walk_at "st"
  refine wp_listL (sq_of (by rw [upd_ne nex]; exact s2 _ _ he)) fun le hle => ?_
  have nlx : le ≠ x := fun h => by rw [h, upd_same] at hle; cases hle
  rw [upd_ne nlx] at hle
  walk_at "st"
  refine sfld_at (by rw [upd_ne nlx.symm]; exact upd_same) (by simp) pt_2 ?_
  walk_at "st"
  have nls : s ≠ le := ne_of_none (s2 _ _ hs) hle
  refine wp_listL (sq_of (by rw [upd_ne nsx, upd_ne nls, upd_ne nsx]; exact s2 _ _ hs)) fun ls hls => ?_
  have nsx2 : ls ≠ x := fun h => by rw [h, upd_same] at hls; cases hls
  rw [upd_ne nsx2] at hls
  have nsl : ls ≠ le := fun h => by rw [h, upd_same] at hls; cases hls
  rw [upd_ne nsl, upd_ne nsx2] at hls
  walk_at "st"
  refine sfld_at (by rw [upd_ne nsx2.symm]; exact upd_same) (by simp) pt_3 ?_
  refine k le ls _ upd_same ?_ ?_ (s2.free hle) (s2.free hls) nsl.symm ?_
  · rw [upd_ne nlx, upd_ne nsl.symm, upd_ne nlx]; exact upd_same
  · rw [upd_ne nsx2]; exact upd_same
  · intro a o ha h
    have h2 := s2 _ _ h
    rw [upd_ne ha, upd_ne (ne_of_none h2 hls), upd_ne ha, upd_ne (ne_of_none h2 hle), upd_ne ha]
    exact h2
theorem len_Net_init (K : PySem.W.Frag) (vs : List V) (H : Hp) (Q : VK) (E : XK) (h : sp_Net_init K vs H Q E) : vs.length = 4 := by
  obtain ⟨n, m, ms, a, b, c, d, f, rfl, _⟩ := h
  rfl
theorem c_NetX {K : PySem.W.Frag} {H : Hp} {T : Int} {e s : Addr} {ns : List (List Nat)} {ss : List V} {rs : List Row} {Q : VK} {E : XK} (p : Prt H e s ns ss rs)
    (hE : ∀ er, cNet T ns rs = some er → ∀ H', Same H H' → Rzd (He.ga K er.c) er.fs E H') (hQ : cNet T ns rs = none → ∀ a H', Same H H' → IsNet (C_Net K) H' a T ns ss → Q (.ref a) H') : MkW (C_Net K) (sp_Net_init K) E Q [.int T, .ref e, .ref s] H := by
  intro x dx hx hdx nd
  have s1 : Same H (upd (upd H dx (.own x)) x (.ins (C_Net K) dx [])) := (Same.new hdx).trans (Same.new (by rw [upd_ne nd.symm]; exact hx))
  exact ⟨x, dx, T, e, s, ns, ss, rs, rfl, upd_same, p.mono s1, fun er e1 H' s2 => hE er e1 H' (s1.trans s2), fun e0 le ls H' h1 h2 h3 h4 h5 h6 h7 => ⟨rfl, hQ e0 x H' (fun a o h => h7 a o (ne_of_none h hx) (s1 _ _ h)) ⟨dx, le, ls, h1, h2, h3⟩⟩⟩
/-- the errors that a net may raise -/
def Shp (er : Er) : Prop := (∃ n, er = eN n) ∨ (∃ l, Asc l ∧ er = eS "BadName" l) ∨ (∃ l, Asc l ∧ er = eS "DoubleEvent" l) ∨ (∃ l, Asc l ∧ er = eS "SameEvent" l) ∨ (∃ l, Asc l ∧ er = eS "UnknownEvent" l) ∨ ∃ a b, er = eT a b
def AllS (o : Option Er) : Prop := ∀ er, o = some er → Shp er
theorem AllS.or {a b : Option Er} (h : AllS a) (k : AllS b) : AllS (a.or b) := fun er e => by
  cases a with
  | none => exact k er e
  | some x => exact h er e
theorem alls_none : AllS none := fun _ e => nomatch e
theorem alls_rng {n lo hi : Int} : AllS (cRng n lo hi) := fun er e => by
  unfold cRng at e
  split at e
  · cases e
  · exact .inl ⟨n, (Option.some.inj e).symm⟩
theorem alls_cnt {n m : Int} : AllS (cCnt n m) := fun er e => by
  unfold cCnt at e
  split at e
  · cases e
  · exact .inr (.inr (.inr (.inr (.inr ⟨n, m, (Option.some.inj e).symm⟩))))
theorem alls_ev {l : List Nat} {ms : List (List Nat)} (hl : Asc l) : AllS (cEv l ms) := by
  refine AllS.or (fun er e => ?_) (fun er e => ?_)
  · unfold cName at e
    split at e
    · cases e
    · exact .inr (.inl ⟨l, hl, (Option.some.inj e).symm⟩)
  · split at e
    · exact .inr (.inr (.inl ⟨l, hl, (Option.some.inj e).symm⟩))
    · cases e
theorem alls_fold {α : Type} {f : α → Option Er} : ∀ {xs : List α}, (∀ x ∈ xs, AllS (f x)) → AllS (cFold f xs)
  | [], _ => alls_none
  | x :: r, h => (h x List.mem_cons_self).or (alls_fold fun y hy => h y (List.mem_cons_of_mem _ hy))
theorem alls_k1 {ms : List (List Nat)} {l : List Nat} (hl : Asc l) : AllS (cK1 ms l) := fun er e => by
  unfold cK1 at e
  split at e
  · cases e
  · exact .inr (.inr (.inr (.inr (.inl ⟨l, hl, (Option.some.inj e).symm⟩))))
theorem alls_sp {T : Int} {ns : List (List Nat)} {r : Row} (ar : AscR r) : AllS (cSp T ns r) := by
  refine (alls_fold fun x hx => ?_).or (AllS.or (fun er e => ?_) (alls_rng.or (alls_rng.or alls_rng)))
  · simp only [List.mem_cons, List.not_mem_nil, or_false] at hx
    rcases hx with rfl | rfl
    · exact alls_k1 ar.u
    · exact alls_k1 ar.v
  · split at e
    · exact .inr (.inr (.inr (.inl ⟨r.u, ar.u, (Option.some.inj e).symm⟩)))
    · cases e
theorem alls_evs : ∀ {ns bef : List (List Nat)}, (∀ l ∈ ns, Asc l) → AllS (cEvs bef ns)
  | [], _, _ => alls_none
  | l :: _, _, h => (alls_ev (h l List.mem_cons_self)).or (alls_evs fun y hy => h y (List.mem_cons_of_mem _ hy))
theorem alls_net {T : Int} {ns : List (List Nat)} {rs : List Row} (an : ∀ l ∈ ns, Asc l) (ar : ∀ r ∈ rs, AscR r) : AllS (cNet T ns rs) := alls_rng.or (alls_cnt.or ((alls_evs an).or (alls_cnt.or (alls_fold fun r hr => alls_sp (ar r hr)))))
/-! ### try: Net(..) -/
theorem wp_tryMk {K : PySem.W.Frag} {i : Nat} {C : Addr} {sp : Sp} {ta : TA} {l : List (Value × Sui)} {D : Ends} {σ : L2.St} {H : Hp} (h : ta σ H fun vs H1 => MkW C sp (WE (wAsM K i (fun _ _ _ _ => False) D l) σ) (fun _ H2 => D.nx σ H2) vs H1) :
    tTry K i (fun W => tDrop (tMakeS C sp (WE W) ta)) l D σ H := h
theorem wAs_no {K : PySem.W.Frag} {i : Nat} {Wo : WX} {D : Ends} {c : Value} {ts : Sui} {r : List (Value × Sui)} {cls : Value} {d : Option Addr} {σ : L2.St} {H : Hp} (h : PySem.W.exmOne K cls c = some false) (k : wAsM K i Wo D r cls d σ H) : wAsM K i Wo D ((c, ts) :: r) cls d σ H := ⟨false, h, (fun q => nomatch q), fun _ => k⟩
theorem wAs_yes {K : PySem.W.Frag} {i : Nat} {Wo : WX} {D : Ends} {c : Value} {ts : Sui} {r : List (Value × Sui)} {cls : Value} {d : Option Addr} {σ : L2.St} {H : Hp} (h : PySem.W.exmOne K cls c = some true)
    (k : ∀ a, H a = none → ts a cls d { nx := fun σ' H' => D.nx (σ'.set i none) H', rt := D.rt, bk := fun σ' H' => D.bk (σ'.set i none) H', ct := fun σ' H' => D.ct (σ'.set i none) H' } (σ.set i (some (.ref a))) H) : wAsM K i Wo D ((c, ts) :: r) cls d σ H := ⟨true, h, fun _ => k, (fun q => nomatch q)⟩
theorem wp_isX {K : PySem.W.Frag} {a D dd : Addr} {fs : List (Str × V)} {c : V} {cv : Value} {b : Bool} {H : Hp} {Q : VK} (h : H dd = some (.xd fs)) (i : ExI K D) (hcv : ∀ u, RelV c u → u = cv) (e : PySem.W.kitOne K (.ref D) cv = some b) (q : Q (.bl b) H) : rIsX K a (.ref D) (some dd) [.ref a, c] H Q :=
  ⟨D, dd, fs, c, cv, b, rfl, rfl, rfl, i, h, hcv, e, q⟩
theorem wp_xfV {i : Nat} {a C dd : Addr} {f : Str} {σ : L2.St} {H : Hp} {Q : VK} {fs : List (Str × V)} {v : V} (hv : σ[i]? = some (some (.ref a))) (h : H dd = some (.xd fs)) (hl : fs.lookup f = some v) (q : Q v H) : tXf a (.ref C) (some dd) C f (tVar i) σ H Q :=
  ⟨.ref a, hv, rfl, rfl, dd, fs, v, rfl, h, hl, q⟩
theorem Shp.mem {er : Er} (h : Shp er) : er.c ∈ exs := by
  rcases h with ⟨n, rfl⟩ | ⟨l, _, rfl⟩ | ⟨l, _, rfl⟩ | ⟨l, _, rfl⟩ | ⟨l, _, rfl⟩ | ⟨a, b, rfl⟩
  · exact (by decide +kernel : ("BadNumber" : Str) ∈ exs)
  · exact (by decide +kernel : ("BadName" : Str) ∈ exs)
  · exact (by decide +kernel : ("DoubleEvent" : Str) ∈ exs)
  · exact (by decide +kernel : ("SameEvent" : Str) ∈ exs)
  · exact (by decide +kernel : ("UnknownEvent" : Str) ∈ exs)
  · exact (by decide +kernel : ("TooMany" : Str) ∈ exs)
def sp_Net_round_length (K : PySem.W.Frag) : Sp := fun vs H Q _ => ∃ (a : Addr) (T : Int) (ns : List (List Nat)) (ss : List V), vs = [.ref a] ∧ IsNet (C_Net K) H a T ns ss ∧ Q (.int T) H
abbrev N_Net_round_length : List Str := ["self"]
theorem st_Net_round_length {a0 : V} : L2.start N_Net_round_length [a0] = [some a0] := rfl
def t_Net_round_length (K : PySem.W.Frag) : TS :=
  (tRet ((tFldC (C_Net K) (tVar 0) "_round_length")))

theorem pure_Net_round_length (K : PySem.W.Frag) (vs : List V) (H : Hp) (Q : VK) (E : XK) (h : sp_Net_round_length K vs H Q E) : t_Net_round_length K { nx := fun _ H' => Q .non H', rt := Q } (L2.start N_Net_round_length vs) H := by
  obtain ⟨a, T, ns, ss, rfl, ⟨dx, le, ls, h1, h2, h3⟩, k⟩ := h
  rw [st_Net_round_length]
  unfold t_Net_round_length
  walk_at "st"
  exact k
theorem len_Net_round_length (K : PySem.W.Frag) (vs : List V) (H : Hp) (Q : VK) (E : XK) (h : sp_Net_round_length K vs H Q E) : vs.length = 1 := by
  obtain ⟨n, m, ms, a, rfl, _⟩ := h
  rfl
theorem c_Net_round_length {K : PySem.W.Frag} {a : Addr} {T : Int} {ns : List (List Nat)} {ss : List V} {H : Hp} {Q : VK} {E : XK} (h : IsNet (C_Net K) H a T ns ss) (k : Q (.int T) H) : ∃ a' dx fs, V.ref a = .ref a' ∧ H a' = some (.ins (C_Net K) dx fs) ∧ sp_Net_round_length K [.ref a'] H Q E := by
  obtain ⟨dx, le, ls, h1, h2, h3⟩ := h
  exact ⟨a, dx, _, rfl, h1, a, T, ns, ss, rfl, ⟨dx, le, ls, h1, h2, h3⟩, k⟩
def sp_Net_events (K : PySem.W.Frag) : Sp := fun vs H Q _ => ∃ (a : Addr) (T : Int) (ns : List (List Nat)) (ss : List V), vs = [.ref a] ∧ IsNet (C_Net K) H a T ns ss ∧ ∀ q, H q = none → Q (.ref q) (upd H q (.lst (ns.map sv)))
abbrev N_Net_events : List Str := ["self"]
theorem st_Net_events {a0 : V} : L2.start N_Net_events [a0] = [some a0] := rfl
def t_Net_events (K : PySem.W.Frag) : TS :=
  (tRet ((tCB (rListS K) ((tCons ((tFldC (C_Net K) (tVar 0) "_events")) (tNil))))))

theorem pure_Net_events (K : PySem.W.Frag) (vs : List V) (H : Hp) (Q : VK) (E : XK) (h : sp_Net_events K vs H Q E) : t_Net_events K { nx := fun _ H' => Q .non H', rt := Q } (L2.start N_Net_events vs) H := by
  obtain ⟨a, T, ns, ss, rfl, ⟨dx, le, ls, h1, h2, h3⟩, k⟩ := h
  rw [st_Net_events]
  unfold t_Net_events
  walk_at "st"
  exact wp_listL (sq_of (by assumption)) k
theorem len_Net_events (K : PySem.W.Frag) (vs : List V) (H : Hp) (Q : VK) (E : XK) (h : sp_Net_events K vs H Q E) : vs.length = 1 := by
  obtain ⟨n, m, ms, a, rfl, _⟩ := h
  rfl
theorem c_Net_events {K : PySem.W.Frag} {a : Addr} {T : Int} {ns : List (List Nat)} {ss : List V} {H : Hp} {Q : VK} {E : XK} (h : IsNet (C_Net K) H a T ns ss) (k : ∀ q, H q = none → Q (.ref q) (upd H q (.lst (ns.map sv)))) : ∃ a' dx fs, V.ref a = .ref a' ∧ H a' = some (.ins (C_Net K) dx fs) ∧ sp_Net_events K [.ref a'] H Q E := by
  obtain ⟨dx, le, ls, h1, h2, h3⟩ := h
  exact ⟨a, dx, _, rfl, h1, a, T, ns, ss, rfl, ⟨dx, le, ls, h1, h2, h3⟩, k⟩
def sp_Net_spans (K : PySem.W.Frag) : Sp := fun vs H Q _ => ∃ (a : Addr) (T : Int) (ns : List (List Nat)) (ss : List V), vs = [.ref a] ∧ IsNet (C_Net K) H a T ns ss ∧ ∀ q, H q = none → Q (.ref q) (upd H q (.lst ss))
abbrev N_Net_spans : List Str := ["self"]
theorem st_Net_spans {a0 : V} : L2.start N_Net_spans [a0] = [some a0] := rfl
def t_Net_spans (K : PySem.W.Frag) : TS :=
  (tRet ((tCB (rListS K) ((tCons ((tFldC (C_Net K) (tVar 0) "_spans")) (tNil))))))

theorem pure_Net_spans (K : PySem.W.Frag) (vs : List V) (H : Hp) (Q : VK) (E : XK) (h : sp_Net_spans K vs H Q E) : t_Net_spans K { nx := fun _ H' => Q .non H', rt := Q } (L2.start N_Net_spans vs) H := by
  obtain ⟨a, T, ns, ss, rfl, ⟨dx, le, ls, h1, h2, h3⟩, k⟩ := h
  rw [st_Net_spans]
  unfold t_Net_spans
  walk_at "st"
  exact wp_listL (sq_of (by assumption)) k
theorem len_Net_spans (K : PySem.W.Frag) (vs : List V) (H : Hp) (Q : VK) (E : XK) (h : sp_Net_spans K vs H Q E) : vs.length = 1 := by
  obtain ⟨n, m, ms, a, rfl, _⟩ := h
  rfl
theorem c_Net_spans {K : PySem.W.Frag} {a : Addr} {T : Int} {ns : List (List Nat)} {ss : List V} {H : Hp} {Q : VK} {E : XK} (h : IsNet (C_Net K) H a T ns ss) (k : ∀ q, H q = none → Q (.ref q) (upd H q (.lst ss))) : ∃ a' dx fs, V.ref a = .ref a' ∧ H a' = some (.ins (C_Net K) dx fs) ∧ sp_Net_spans K [.ref a'] H Q E := by
  obtain ⟨dx, le, ls, h1, h2, h3⟩ := h
  exact ⟨a, dx, _, rfl, h1, a, T, ns, ss, rfl, ⟨dx, le, ls, h1, h2, h3⟩, k⟩
def sp_l_pool (K : PySem.W.Frag) : Sp := fun vs H Q _ => ∃ (a : Addr) (ns : List Int), vs = [.ref a] ∧ SqL K H a (ns.map V.int) ∧ ns.length ≤ 63 ∧ ∀ (P : Pl) (G H' : Hp), Same H G → Sees P G H' → Q (.ref P.p) H'
abbrev N_l_pool : List Str := ["_law_script", "_law_cells", "_law_number", "_law_cell"]
theorem st_l_pool {a0 : V} : L2.start N_l_pool [a0] = [some a0, none, none, none] := rfl
def t_l_pool (K : PySem.W.Frag) : TS :=
  (tSeq ((tAsg (tLc ((iList K (tVar 0))) ((gName 3)) (tYes) ((tCB rInt1 ((tCons (tVar 3) (tNil))))) [3]) (gName 1)))
    ((tSeq ((tAsg (tC (.int 0)) (gName 2)))
    ((tSeq ((tIfS ((tAnd ((tTest (tOp (rI0 fun i j => .bl (decide (j < i))) ((tCB (rLenS K) ((tCons (tVar 1) (tNil))))) (tC (.int 0))))) ((tTest (tOp (rI0 fun i j => .bl (decide (j ≤ i))) ((tOp (rIxL K) (tVar 1) (tC (.int 0)))) ((tOp (rI CPow fun i j => .int (i ^ j.toNat)) (tC (.int 10)) (tC (.int 18))))))))) ((tAsg ((tOp (rIxL K) (tVar 1) (tC (.int 0)))) (gName 2))) (tNext)))
    ((tRet ((tLst ((tCons (tVar 2) ((tCons (tC (.int 0)) ((tCons (tVar 1) (tNil))))))))))))))))

theorem pure_l_pool (K : PySem.W.Frag) (vs : List V) (H : Hp) (Q : VK) (E : XK) (h : sp_l_pool K vs H Q E) : t_l_pool K { nx := fun _ H' => Q .non H', rt := Q } (L2.start N_l_pool vs) H := by
  obtain ⟨a, ns, rfl, hx, hn, k⟩ := h
  rw [st_l_pool]
  unfold t_l_pool
  walk_at "st"
  refine lcMapL hx (by rw [List.length_map]; omega) (fun x => [some (.ref a), none, none, some x]) (fun x => ⟨rfl, rfl⟩) id (fun x H2 hxm _ R hR => ?_) (fun D H2 hD s2 hl => ?_)
  · obtain ⟨n, _, rfl⟩ := List.mem_map.mp hxm
    walk_at "st"
    exact hR _ (Same.refl _)
  rw [List.map_id] at hl
  have fin : ∀ n : Int, [V.int n, V.int 0, V.ref D].length ≤ sizeLine ∧ ∀ p, H2 p = none → Q (.ref p) (upd H2 p (.lst [V.int n, V.int 0, V.ref D])) := fun n => ⟨szl (by simp), fun p hp => by
    have e : D ≠ p := ne_of_none hl hp
    exact k ⟨p, D, ns⟩ H2 _ s2 ⟨⟨n, 0, upd_same⟩, hl, hn, hp, Same.new hp⟩⟩
  walk_at "st"
  refine ite_dec (fun h1 => ?_) (fun h1 => ?_)
  · walk_at "st"
    refine wp_ixLI (by walk_at "sq") (by omega) h1 fun x _ => ?_
    walk_at "st"
    refine ite_dec (fun h2 => ?_) (fun h2 => ?_)
    · walk_at "st"
      refine wp_ixLI (by walk_at "sq") (by omega) h1 fun y _ => ?_
      walk_at "st"
      exact fin _
    · walk_at "st"
      exact fin _
  · walk_at "st"
    exact fin _
theorem len_l_pool (K : PySem.W.Frag) (vs : List V) (H : Hp) (Q : VK) (E : XK) (h : sp_l_pool K vs H Q E) : vs.length = 1 := by
  obtain ⟨a, ns, rfl, _⟩ := h
  rfl
theorem c_l_pool {K : PySem.W.Frag} {a : Addr} {ns : List Int} {H : Hp} {Q : VK} {E : XK} (hx : SqL K H a (ns.map V.int)) (hn : ns.length ≤ 63) (k : ∀ (P : Pl) (G H' : Hp), Same H G → Sees P G H' → Q (.ref P.p) H') : sp_l_pool K [.ref a] H Q E :=
  ⟨a, ns, rfl, hx, hn, k⟩

def sp_l_draw (K : PySem.W.Frag) : Sp := fun vs H Q _ => ∃ (P : Pl) (m : Int) (G : Hp), vs = [.ref P.p, .int m] ∧ 0 < m ∧ m < 1073741824 ∧ Sees P G H ∧ ∀ d H', 0 ≤ d → d < m → Sees P G H' → Q (.int d) H'
abbrev N_l_draw : List Str := ["_law_pool_here", "_law_many", "_law_found", "_law_cells", "_law_near", "_law_head", "_law_mixed"]
theorem st_l_draw {a0 a1 : V} : L2.start N_l_draw [a0, a1] = [some a0, some a1, none, none, none, none, none] := rfl
def t_l_draw (K : PySem.W.Frag) : TS :=
  (tSeq ((tIfS ((tTest (tOp (rI0 fun i j => .bl (decide (j < i))) ((tOp (rIxL K) (tVar 0) (tC (.int 0)))) (tC (.int 1))))) ((tSeq ((tAsg ((tOp (rI (fun _ j => 0 < j) fun i j => .int (i % j)) ((tCB rInt1 ((tCons ((tOp (rIxL K) (tVar 0) (tC (.int 0)))) (tNil))))) (tVar 1))) (gName 2)))
    ((tSeq ((tAsg ((tOp (rI CDiv fun i j => .int (i / j)) ((tOp (rIxL K) (tVar 0) (tC (.int 0)))) (tVar 1))) (gSub (tVar 0) (tC (.int 0)) rSetL)))
    ((tRet (tVar 2))))))) (tNext)))
    ((tSeq ((tAsg ((tOp (rI0 fun i j => .int (i + j)) ((tOp (rIxL K) (tVar 0) (tC (.int 1)))) (tC (.int 1)))) (gSub (tVar 0) (tC (.int 1)) rSetL)))
    ((tSeq ((tAsg ((tOp (rIxL K) (tVar 0) (tC (.int 2)))) (gName 3)))
    ((tSeq ((tAsg (tC (.int 0)) (gName 4)))
    ((tSeq ((tAsg (tC (.int 0)) (gName 5)))
    ((tSeq ((tIfS ((tTest (tOp (rI0 fun i j => .bl (decide (j < i))) ((tCB (rLenS K) ((tCons (tVar 3) (tNil))))) (tC (.int 0))))) ((tSeq ((tAsg ((tOp (rIxL K) (tVar 3) ((tOp (rI (fun _ j => 0 < j) fun i j => .int (i % j)) ((tCB rInt1 ((tCons ((tOp (rIxL K) (tVar 0) (tC (.int 1)))) (tNil))))) ((tCB (rLenS K) ((tCons (tVar 3) (tNil))))))))) (gName 4)))
    ((tAsg ((tOp (rIxL K) (tVar 3) (tC (.int 0)))) (gName 5))))) (tNext)))
    ((tSeq ((tAsg ((tOp (rI (fun _ j => 0 < j) fun i j => .int (i % j)) ((tCB rInt1 ((tCons ((tOp (rI0 fun i j => .int (i + j)) ((tOp (rI0 fun i j => .int (i + j)) ((tOp (rI0 fun i j => .int (i + j)) ((tOp (rI CMul fun i j => .int (i * j)) (tVar 4) (tC (.int 48271)))) ((tOp (rI CMul fun i j => .int (i * j)) (tVar 5) (tC (.int 16807)))))) ((tOp (rI CMul fun i j => .int (i * j)) ((tOp (rIxL K) (tVar 0) (tC (.int 1)))) (tC (.int 69621)))))) (tC (.int 7)))) (tNil))))) (tC (.int 2147483647)))) (gName 6)))
    ((tSeq ((tAsg ((tOp (rI (fun _ j => 0 < j) fun i j => .int (i % j)) ((tCB rInt1 ((tCons ((tOp (rI0 fun i j => .int (i + j)) ((tOp (rI0 fun i j => .int (i + j)) ((tOp (rI CMul fun i j => .int (i * j)) (tVar 6) (tVar 6))) ((tOp (rI CMul fun i j => .int (i * j)) (tVar 6) (tC (.int 40692)))))) ((tOp (rI CMul fun i j => .int (i * j)) ((tOp (rIxL K) (tVar 0) (tC (.int 1)))) (tC (.int 7919)))))) (tNil))))) (tC (.int 1000000007)))) (gName 6)))
    ((tRet ((tOp (rI (fun _ j => 0 < j) fun i j => .int (i % j)) ((tCB rInt1 ((tCons ((tOp (rI CDiv fun i j => .int (i / j)) (tVar 6) (tC (.int 11)))) (tNil))))) (tVar 1))))))))))))))))))))

theorem pure_l_draw (K : PySem.W.Frag) (vs : List V) (H : Hp) (Q : VK) (E : XK) (h : sp_l_draw K vs H Q E) : t_l_draw K { nx := fun _ H' => Q .non H', rt := Q } (L2.start N_l_draw vs) H := by
  obtain ⟨P, m, G, rfl, hm, hm2, hs, k⟩ := h
  obtain ⟨n, c, hp⟩ := hs.pool
  rw [st_l_draw]
  unfold t_l_draw
  walk_at "st"
  refine ite_dec (fun h1 => ?_) (fun h1 => ?_)
  · walk_at "st"
    exact k _ _ (Int.emod_nonneg _ (by omega)) (Int.emod_lt_of_pos _ hm) (hs.drawn _ _)
  · walk_at "st"
    have hs2 := hs.drawn n (c + 1)
    have hp2 : upd H P.p (.lst [.int n, .int (c + 1), .ref P.l]) P.p = some (.lst [.int n, .int (c + 1), .ref P.l]) := upd_same
    revert hs2 hp2
    generalize upd H P.p (.lst [.int n, .int (c + 1), .ref P.l]) = H2
    intro hs2 hp2
    walk_at "st"
    refine ite_dec (fun h2 => ?_) (fun h2 => ?_)
    · walk_at "st"
      refine wp_ixLI (by walk_at "sq") (Int.emod_nonneg _ (by omega)) (Int.emod_lt_of_pos _ h2) fun x _ => ?_
      walk_at "st"
      refine wp_ixLI (by walk_at "sq") (by omega) h2 fun y _ => ?_
      walk_at "st"
      exact k _ _ (Int.emod_nonneg _ (by omega)) (Int.emod_lt_of_pos _ hm) hs2
    · walk_at "st"
      exact k _ _ (Int.emod_nonneg _ (by omega)) (Int.emod_lt_of_pos _ hm) hs2
theorem len_l_draw (K : PySem.W.Frag) (vs : List V) (H : Hp) (Q : VK) (E : XK) (h : sp_l_draw K vs H Q E) : vs.length = 2 := by
  obtain ⟨P, m, G, rfl, _⟩ := h
  rfl
theorem c_l_draw {K : PySem.W.Frag} {P : Pl} {G H : Hp} {m : Int} {Q : VK} {E : XK} (hs : Sees P G H) (h0 : 0 < m ∧ m < 1073741824) (k : ∀ d H', 0 ≤ d → d < m → Sees P G H' → Q (.int d) H') : sp_l_draw K [.ref P.p, .int m] H Q E :=
  ⟨P, m, G, rfl, h0.1, h0.2, hs, k⟩

def sp_l_word (K : PySem.W.Frag) : Sp := fun vs H Q _ => ∃ (P : Pl) (n : Int) (G : Hp), vs = [.ref P.p, .int n] ∧ 0 ≤ n ∧ n ≤ 100 ∧ Sees P G H ∧ ∀ (l : List Nat) H', (l.length : Int) = n → (∀ c ∈ l, LD c) → Sees P G H' → Q (.str (S l)) H'
abbrev N_l_word : List Str := ["_law_pool_here", "_law_size_here", "_law_signs", "_law_word_here", "_law_k"]
theorem st_l_word {a0 a1 : V} : L2.start N_l_word [a0, a1] = [some a0, some a1, none, none, none] := rfl
def t_l_word (K : PySem.W.Frag) : TS :=
  (tSeq ((tAsg (tC (.str (S Z36))) (gName 2)))
    ((tSeq ((tAsg (tC (.str (S []))) (gName 3)))
    ((tSeq ((tFor ((iRng1 ((tCons (tVar 1) (tNil))))) (gName 4) ((tAsg ((tOp rAddStr (tVar 3) ((tOp rIxS (tVar 2) ((tCall (sp_l_draw K) [] E0 ((tCons (tVar 0) ((tCons (tC (.int 36)) (tNil))))))))))) (gName 3)))))
    ((tRet (tVar 3))))))))

theorem pure_l_word (K : PySem.W.Frag) (vs : List V) (H : Hp) (Q : VK) (E : XK) (h : sp_l_word K vs H Q E) : t_l_word K { nx := fun _ H' => Q .non H', rt := Q } (L2.start N_l_word vs) H := by
  obtain ⟨P, n, G, rfl, hn, hn2, hs, k⟩ := h
  rw [st_l_word]
  unfold t_l_word
  walk_at "st"
  refine loop1 (by omega) (fun i σ' H' => ∃ (x : Option V) (l : List Nat), σ' = [some (.ref P.p), some (.int n), some (.str (S Z36)), some (.str (S l)), x] ∧ l.length = i ∧ (∀ c ∈ l, LD c) ∧ Sees P G H') ⟨none, [], rfl, rfl, by simp, hs⟩ ?_ ?_
  · rintro i σ' H' hi ⟨x, l, rfl, hl, hc, hs⟩
    walk_at "st"
    refine c_l_draw hs (by omega) fun d H2 h0 h1 hs2 => ?_
    walk_at "st"
    refine wp_ixSM (by decide) h0 h1 fun c hc2 _ => ?_
    refine wp_addS (by simp; omega) ?_
    walk_at "st"
    refine ⟨_, _, rfl, by simp; omega, fun c' h => ?_, hs2⟩
    rcases List.mem_append.mp h with h | h
    · exact hc _ h
    · rw [List.mem_singleton.mp h]
      exact z36.mp hc2
  · rintro σ' H' ⟨x, l, rfl, hl, hc, hs⟩
    walk_at "st"
    exact k l _ (by omega) hc hs
theorem len_l_word (K : PySem.W.Frag) (vs : List V) (H : Hp) (Q : VK) (E : XK) (h : sp_l_word K vs H Q E) : vs.length = 2 := by
  obtain ⟨P, m, G, rfl, _⟩ := h
  rfl
theorem c_l_word {K : PySem.W.Frag} {P : Pl} {G H : Hp} {n : Int} {Q : VK} {E : XK} (hs : Sees P G H) (h0 : 0 ≤ n ∧ n ≤ 100) (k : ∀ (l : List Nat) H', (l.length : Int) = n → (∀ c ∈ l, LD c) → Sees P G H' → Q (.str (S l)) H') : sp_l_word K [.ref P.p, .int n] H Q E :=
  ⟨P, n, G, rfl, h0.1, h0.2, hs, k⟩

def sp_l_names (K : PySem.W.Frag) : Sp := fun vs H Q _ => ∃ (P : Pl) (n : Int) (G : Hp), vs = [.ref P.p, .int n] ∧ 0 ≤ n ∧ n ≤ 12 ∧ Sees P G H ∧
  ∀ (ns : List (List Nat)) (q : Addr) (G' H' : Hp), (ns.length : Int) = n → (∀ l ∈ ns, Nm l) → ns.Nodup → Same G G' → G' q = some (.lst (ns.map sv)) → Sees P G' H' → Q (.ref q) H'
abbrev N_l_names : List Str := ["_law_pool_here", "_law_many", "_law_letters", "_law_signs", "_law_way", "_law_front", "_law_back", "_law_first", "_law_names_here", "_law_k", "_law_name", "_law_j"]
theorem st_l_names {a0 a1 : V} : L2.start N_l_names [a0, a1] = [some a0, some a1, none, none, none, none, none, none, none, none, none, none] := rfl
def t_l_names (K : PySem.W.Frag) : TS :=
  (tSeq ((tAsg (tC (.str (S Z26))) (gName 2)))
    ((tSeq ((tAsg (tC (.str (S Z36))) (gName 3)))
    ((tSeq ((tAsg ((tCall (sp_l_draw K) [] E0 ((tCons (tVar 0) ((tCons (tC (.int 3)) (tNil))))))) (gName 4)))
    ((tSeq ((tAsg ((tOp rAddStr ((tOp rIxS (tVar 2) ((tCall (sp_l_draw K) [] E0 ((tCons (tVar 0) ((tCons (tC (.int 26)) (tNil))))))))) ((tCall (sp_l_word K) [] E0 ((tCons (tVar 0) ((tCons ((tCall (sp_l_draw K) [] E0 ((tCons (tVar 0) ((tCons (tC (.int 4)) (tNil))))))) (tNil))))))))) (gName 5)))
    ((tSeq ((tAsg ((tCall (sp_l_word K) [] E0 ((tCons (tVar 0) ((tCons ((tCall (sp_l_draw K) [] E0 ((tCons (tVar 0) ((tCons (tC (.int 4)) (tNil))))))) (tNil))))))) (gName 6)))
    ((tSeq ((tAsg ((tCall (sp_l_draw K) [] E0 ((tCons (tVar 0) ((tCons (tC (.int 36)) (tNil))))))) (gName 7)))
    ((tSeq ((tAsg ((tLst (tNil))) (gName 8)))
    ((tSeq ((tFor ((iRng1 ((tCons (tVar 1) (tNil))))) (gName 9) ((tSeq ((tAsg ((tOp rAddStr ((tOp rAddStr (tVar 5) ((tOp rIxS (tVar 3) ((tOp (rI (fun _ j => 0 < j) fun i j => .int (i % j)) ((tCB rInt1 ((tCons ((tOp (rI0 fun i j => .int (i + j)) (tVar 7) ((tOp (rI CMul fun i j => .int (i * j)) (tC (.int 5)) (tVar 9))))) (tNil))))) (tC (.int 36)))))))) (tVar 6))) (gName 10)))
    ((C8.tCut ((tIfS ((tTest (tOp rEq (tVar 4) (tC (.int 1))))) ((tAsg ((tOp rAddStr ((tOp rIxS (tVar 2) ((tOp (rI (fun _ j => 0 < j) fun i j => .int (i % j)) ((tCB rInt1 ((tCons ((tOp (rI0 fun i j => .int (i + j)) (tVar 7) ((tOp (rI CMul fun i j => .int (i * j)) (tC (.int 5)) (tVar 9))))) (tNil))))) (tC (.int 26)))))) ((tCall (sp_l_word K) [] E0 ((tCons (tVar 0) ((tCons ((tCall (sp_l_draw K) [] E0 ((tCons (tVar 0) ((tCons (tC (.int 8)) (tNil))))))) (tNil))))))))) (gName 10))) (tNext)))
    ((C8.tCut ((tIfS ((tTest (tOp rEq (tVar 4) (tC (.int 2))))) ((tAsg ((tOp rAddStr ((tOp rIxS (tVar 2) ((tCall (sp_l_draw K) [] E0 ((tCons (tVar 0) ((tCons (tC (.int 26)) (tNil))))))))) ((tCall (sp_l_word K) [] E0 ((tCons (tVar 0) ((tCons ((tCall (sp_l_draw K) [] E0 ((tCons (tVar 0) ((tCons (tC (.int 8)) (tNil))))))) (tNil))))))))) (gName 10))) (tNext)))
    ((tSeq ((tFor ((iRng1 ((tCons (tC (.int 13)) (tNil))))) (gName 11) ((tIfS ((tAnd ((tTest (tOp (rIn K false) (tVar 10) (tVar 8)))) ((tTest (tOp (rIn K true) ((tOp rAddStr (tC (.str (S [122]))) ((tCB rStrInt ((tCons (tVar 11) (tNil))))))) (tVar 8)))))) ((tAsg ((tOp rAddStr (tC (.str (S [122]))) ((tCB rStrInt ((tCons (tVar 11) (tNil))))))) (gName 10))) (tNext)))))
    ((tDrop ((tBM K "list" rAppend (tVar 8) ((tCons (tVar 10) (tNil)))))))))))))))))
    ((tRet (tVar 8))))))))))))))))))

theorem pure_l_names (K : PySem.W.Frag) (vs : List V) (H : Hp) (Q : VK) (E : XK) (h : sp_l_names K vs H Q E) : t_l_names K { nx := fun _ H' => Q .non H', rt := Q } (L2.start N_l_names vs) H := by
  obtain ⟨P, n, G, rfl, hn, hn2, hs, k⟩ := h
  rw [st_l_names]
  unfold t_l_names
  walk_at "st"
  refine c_l_draw hs (by omega) fun way H1 w0 w1 hs1 => ?_
  walk_at "st"
  refine c_l_draw hs1 (by omega) fun d1 H2 a0 a1 hs2 => ?_
  walk_at "st"
  refine wp_ixSM (by decide) a0 a1 fun c1 hc1 _ => ?_
  walk_at "st"
  refine c_l_draw hs2 (by omega) fun d2 H3 b0 b1 hs3 => ?_
  walk_at "st"
  refine c_l_word hs3 (by omega) fun fr H4 f0 f1 hs4 => ?_
  refine wp_addS (by simp; omega) ?_
  walk_at "st"
  refine c_l_draw hs4 (by omega) fun d3 H5 e0 e1 hs5 => ?_
  walk_at "st"
  refine c_l_word hs5 (by omega) fun bk H6 g0 g1 hs6 => ?_
  walk_at "st"
  refine c_l_draw hs6 (by omega) fun fi H7 i0 i1 hs7 => ?_
  walk_at "st"
  refine ⟨Nat.zero_le _, fun q hq => ?_⟩
  obtain ⟨hG, hqp⟩ := hs7.fresh hq
  walk_at "st"
  refine loop1 (by omega) (fun i σ' H' => ∃ (x9 x10 x11 : Option V) (ns : List (List Nat)), σ' = [some (.ref P.p), some (.int n), some (.str (S Z26)), some (.str (S Z36)), some (.int way), some (.str (S ([c1] ++ fr))), some (.str (S bk)), some (.int fi), some (.ref q), x9, x10, x11] ∧
    ns.length = i ∧ (∀ l ∈ ns, Nm l) ∧ ns.Nodup ∧ H' q = some (.lst (ns.map sv)) ∧ Sees P G H') ⟨none, none, none, [], rfl, rfl, by simp, List.nodup_nil, upd_same, hs7.set hG hqp⟩ ?_ ?_
  · rintro i σ' H' hi ⟨x9, x10, x11, ns, rfl, hl, hnm, hnd, hqq, hs⟩
    walk_at "st"
    refine wp_ixSM (by decide) (Int.emod_nonneg _ (by omega)) (show _ < 36 from Int.emod_lt_of_pos _ (by omega)) fun c2 hc2 _ => ?_
    walk_at "st"
    have hc1' : LT c1 := z26.mp hc1
    have hc2' : LD c2 := z36.mp hc2
    have lt_ld : ∀ {c}, LT c → LD c := fun h => .inl h
    have mk1 : ∀ {a : Nat} {l : List Nat}, LT a → (∀ c ∈ l, LD c) → l.length ≤ 7 → Nm ([a] ++ l) := fun {a l} h1 h2 h3 => ⟨by simp; omega, ⟨a, l, rfl, h1⟩, fun c hc => by
      rcases List.mem_append.mp hc with h | h
      · rw [List.mem_singleton.mp h]; exact .inl h1
      · exact h2 c h⟩
    refine wp_cut (fun σ' H' => ∃ (nm : List Nat), σ' = [some (.ref P.p), some (.int n), some (.str (S Z26)), some (.str (S Z36)), some (.int way), some (.str (S ([c1] ++ fr))), some (.str (S bk)), some (.int fi), some (.ref q), some (.int i), some (.str (S nm)), x11] ∧ Nm nm ∧ H' q = some (.lst (ns.map sv)) ∧ Sees P G H') ?_ ?_
    · walk_at "st"
      refine ite_dec (fun h => ?_) (fun h => ?_)
      · walk_at "st"
        refine wp_ixSM (by decide) (Int.emod_nonneg _ (by omega)) (show _ < 26 from Int.emod_lt_of_pos _ (by omega)) fun c3 hc3 _ => ?_
        walk_at "st"
        refine c_l_draw (hs.with hG hqq hqp) (by omega) fun d4 H8 j0 j1 hs8 => ?_
        walk_at "st"
        refine c_l_word hs8 (by omega) fun w4 H9 k0 k1 hs9 => ?_
        walk_at "st"
        obtain ⟨hs10, hq10⟩ := hs9.back hs hG
        exact ⟨_, rfl, mk1 (z26.mp hc3) k1 (by omega), hq10, hs10⟩
      · walk_at "st"
        refine ⟨_, rfl, ?_, hqq, hs⟩
        have e : [c1] ++ fr ++ [c2] ++ bk = [c1] ++ (fr ++ [c2] ++ bk) := by simp
        rw [e]
        refine mk1 hc1' (fun c hc => ?_) (by simp; omega)
        rcases List.mem_append.mp hc with h | h
        · rcases List.mem_append.mp h with h | h
          · exact f1 c h
          · rw [List.mem_singleton.mp h]; exact hc2'
        · exact g1 c h
    · rintro σ' H8 ⟨nm, rfl, hnm1, hq8, hs8⟩
      refine wp_cut (fun σ' H' => ∃ (nm : List Nat), σ' = [some (.ref P.p), some (.int n), some (.str (S Z26)), some (.str (S Z36)), some (.int way), some (.str (S ([c1] ++ fr))), some (.str (S bk)), some (.int fi), some (.ref q), some (.int i), some (.str (S nm)), x11] ∧ Nm nm ∧ H' q = some (.lst (ns.map sv)) ∧ Sees P G H') ?_ ?_
      · walk_at "st"
        refine ite_dec (fun h => ?_) (fun h => ?_)
        · walk_at "st"
          refine c_l_draw (hs8.with hG hq8 hqp) (by omega) fun d4 H9 j0 j1 hs9 => ?_
          walk_at "st"
          refine wp_ixSM (by decide) j0 j1 fun c3 hc3 _ => ?_
          walk_at "st"
          refine c_l_draw hs9 (by omega) fun d5 H10 k0 k1 hs10 => ?_
          walk_at "st"
          refine c_l_word hs10 (by omega) fun w4 H11 l0 l1 hs11 => ?_
          walk_at "st"
          obtain ⟨hs12, hq12⟩ := hs11.back hs8 hG
          exact ⟨_, rfl, mk1 (z26.mp hc3) l1 (by omega), hq12, hs12⟩
        · walk_at "st"
          exact ⟨_, rfl, hnm1, hq8, hs8⟩
      · rintro σ' H9 ⟨nm, rfl, hnm1, hq9, hs9⟩
        walk_at "st"
        refine loop1 (by omega) (fun j σ' H' => ∃ (x11 : Option V) (nm : List Nat), σ' = [some (.ref P.p), some (.int n), some (.str (S Z26)), some (.str (S Z36)), some (.int way), some (.str (S ([c1] ++ fr))), some (.str (S bk)), some (.int fi), some (.ref q), some (.int i), some (.str (S nm)), x11] ∧
          Nm nm ∧ (nm ∉ ns ∨ ∀ a, a < j → zn a ∈ ns) ∧ H' = H9) ⟨x11, nm, rfl, hnm1, .inr (fun a h => absurd h (by omega)), rfl⟩ ?_ ?_
        · rintro j σ' H10 hj ⟨x, nm, rfl, hnm2, hout, rfl⟩
          walk_at "st"
          refine wp_inSv (sq_of hq9) ?_
          walk_at "st"
          refine ite_dec (fun h1 => ?_) (fun h1 => ?_)
          · walk_at "st"
            refine wp_strIntS (by omega) ?_
            refine wp_addS (by have := (zn_nm (j := j) (by omega)).len; unfold zn at this; simp at this ⊢; omega) ?_
            walk_at "st"
            refine wp_notInSv (sq_of hq9) ?_
            walk_at "st"
            refine ite_ndec (fun h2 => ?_) (fun h2 => ?_)
            · walk_at "st"
              refine wp_strIntS (by omega) ?_
              refine wp_addS (by have := (zn_nm (j := j) (by omega)).len; unfold zn at this; simp at this ⊢; omega) ?_
              walk_at "st"
              exact ⟨_, zn j, rfl, zn_nm (by omega), .inl h2, rfl⟩
            · walk_at "st"
              refine ⟨_, nm, rfl, hnm2, .inr fun a ha => ?_, rfl⟩
              rcases hout with h | h
              · exact absurd h1 h
              · by_cases e : a = j
                · rw [e]; exact h2
                · exact h a (by omega)
          · walk_at "st"
            exact ⟨_, nm, rfl, hnm2, .inl h1, rfl⟩
        · rintro σ' H10 ⟨x, nm, rfl, hnm2, hout, rfl⟩
          have hnot : nm ∉ ns := by
            rcases hout with h | h
            · exact h
            · exact absurd (zn_out (ns := ns) fun a ha => h a ha) (by omega)
          walk_at "st"
          refine wp_append hq9 (by rw [List.length_map]; omega) ?_
          walk_at "st"
          refine ⟨_, _, _, ns ++ [nm], rfl, by simp; omega, fun l h => ?_, ?_, ?_, hs9.set hG hqp⟩
          · rcases List.mem_append.mp h with h | h
            · exact hnm l h
            · rw [List.mem_singleton.mp h]; exact hnm2
          · refine List.nodup_append.mpr ⟨hnd, by simp, fun a ha b hb e => ?_⟩
            rw [List.mem_singleton] at hb
            rw [hb] at e
            exact hnot (e ▸ ha)
          · rw [List.map_append]; exact upd_same
  · rintro σ' H' ⟨x9, x10, x11, ns, rfl, hl, hnm, hnd, hqq, hs⟩
    walk_at "st"
    exact k ns q (upd G q (.lst (ns.map sv))) H' (by omega) hnm hnd (Same.new hG) upd_same (hs.with hG hqq hqp)
theorem len_l_names (K : PySem.W.Frag) (vs : List V) (H : Hp) (Q : VK) (E : XK) (h : sp_l_names K vs H Q E) : vs.length = 2 := by
  obtain ⟨P, m, G, rfl, _⟩ := h
  rfl
theorem c_l_names {K : PySem.W.Frag} {P : Pl} {G H : Hp} {n : Int} {Q : VK} {E : XK} (hs : Sees P G H) (h0 : 0 ≤ n ∧ n ≤ 12)
    (k : ∀ (ns : List (List Nat)) (q : Addr) (G' H' : Hp), (ns.length : Int) = n → (∀ l ∈ ns, Nm l) → ns.Nodup → Same G G' → G' q = some (.lst (ns.map sv)) → Sees P G' H' → Q (.ref q) H') : sp_l_names K [.ref P.p, .int n] H Q E :=
  ⟨P, n, G, rfl, h0.1, h0.2, hs, k⟩

def sp_l_length (K : PySem.W.Frag) : Sp := fun vs H Q _ => ∃ (P : Pl) (m : Int) (G : Hp), vs = [.ref P.p, .int m] ∧ 3 ≤ m ∧ m ≤ 120 ∧ Sees P G H ∧ ∀ T H', 3 ≤ T → T ≤ m ∨ T ≤ 8 → Sees P G H' → Q (.int T) H'
abbrev N_l_length : List Str := ["_law_pool_here", "_law_limit", "_law_way"]
theorem st_l_length {a0 a1 : V} : L2.start N_l_length [a0, a1] = [some a0, some a1, none] := rfl
def t_l_length (K : PySem.W.Frag) : TS :=
  (tSeq ((tAsg ((tCall (sp_l_draw K) [] E0 ((tCons (tVar 0) ((tCons (tC (.int 8)) (tNil))))))) (gName 2)))
    ((tSeq ((tIfS ((tTest (tOp (rI0 fun i j => .bl (decide (i < j))) (tVar 2) (tC (.int 4))))) ((tRet ((tOp (rI0 fun i j => .int (i + j)) (tC (.int 3)) ((tCall (sp_l_draw K) [] E0 ((tCons (tVar 0) ((tCons (tC (.int 6)) (tNil))))))))))) (tNext)))
    ((tSeq ((tIfS ((tTest (tOp (rI0 fun i j => .bl (decide (i < j))) (tVar 2) (tC (.int 7))))) ((tRet ((tCB rMin2 ((tCons (tVar 1) ((tCons ((tOp (rI0 fun i j => .int (i + j)) (tC (.int 9)) ((tCall (sp_l_draw K) [] E0 ((tCons (tVar 0) ((tCons (tC (.int 22)) (tNil))))))))) (tNil))))))))) (tNext)))
    ((tRet ((tCB rMax2 ((tCons (tC (.int 3)) ((tCons ((tOp (rI0 fun i j => .int (i - j)) (tVar 1) ((tCall (sp_l_draw K) [] E0 ((tCons (tVar 0) ((tCons (tVar 1) (tNil))))))))) (tNil))))))))))))))

theorem pure_l_length (K : PySem.W.Frag) (vs : List V) (H : Hp) (Q : VK) (E : XK) (h : sp_l_length K vs H Q E) : t_l_length K { nx := fun _ H' => Q .non H', rt := Q } (L2.start N_l_length vs) H := by
  obtain ⟨P, m, G, rfl, hm, hm2, hs, k⟩ := h
  rw [st_l_length]
  unfold t_l_length
  walk_at "st"
  refine c_l_draw hs (by omega) fun way H1 w0 w1 hs1 => ?_
  walk_at "st"
  refine ite_dec (fun h1 => ?_) (fun h1 => ?_)
  · walk_at "st"
    refine c_l_draw hs1 (by omega) fun d H2 d0 d1 hs2 => ?_
    walk_at "st"
    exact k _ _ (by omega) (.inr (by omega)) hs2
  · walk_at "st"
    refine ite_dec (fun h2 => ?_) (fun h2 => ?_)
    · walk_at "st"
      refine c_l_draw hs1 (by omega) fun d H2 d0 d1 hs2 => ?_
      walk_at "st"
      exact k _ _ (by split <;> omega) (.inl (by split <;> omega)) hs2
    · walk_at "st"
      refine c_l_draw hs1 (by omega) fun d H2 d0 d1 hs2 => ?_
      walk_at "st"
      exact k _ _ (by split <;> omega) (.inl (by split <;> omega)) hs2
theorem len_l_length (K : PySem.W.Frag) (vs : List V) (H : Hp) (Q : VK) (E : XK) (h : sp_l_length K vs H Q E) : vs.length = 2 := by
  obtain ⟨P, m, G, rfl, _⟩ := h
  rfl
theorem c_l_length {K : PySem.W.Frag} {P : Pl} {G H : Hp} {m : Int} {Q : VK} {E : XK} (hs : Sees P G H) (h0 : 3 ≤ m ∧ m ≤ 120) (k : ∀ T H', 3 ≤ T → T ≤ m ∨ T ≤ 8 → Sees P G H' → Q (.int T) H') : sp_l_length K [.ref P.p, .int m] H Q E :=
  ⟨P, m, G, rfl, h0.1, h0.2, hs, k⟩
def sp_l_size (K : PySem.W.Frag) : Sp := fun vs H Q _ => ∃ (P : Pl) (m : Int) (G : Hp), vs = [.ref P.p, .int m] ∧ 0 ≤ m ∧ m ≤ 1000 ∧ Sees P G H ∧ ∀ n H', 0 ≤ n → n ≤ m → Sees P G H' → Q (.int n) H'
abbrev N_l_size : List Str := ["_law_pool_here", "_law_limit", "_law_way"]
theorem st_l_size {a0 a1 : V} : L2.start N_l_size [a0, a1] = [some a0, some a1, none] := rfl
def t_l_size (K : PySem.W.Frag) : TS :=
  (tSeq ((tAsg ((tCall (sp_l_draw K) [] E0 ((tCons (tVar 0) ((tCons (tC (.int 8)) (tNil))))))) (gName 2)))
    ((tSeq ((tIfS ((tTest (tOp rEq (tVar 2) (tC (.int 0))))) ((tRet (tVar 1))) (tNext)))
    ((tSeq ((tIfS ((tTest (tOp rEq (tVar 2) (tC (.int 1))))) ((tRet ((tCB rMin2 ((tCons (tVar 1) ((tCons ((tCall (sp_l_draw K) [] E0 ((tCons (tVar 0) ((tCons (tC (.int 4)) (tNil))))))) (tNil))))))))) (tNext)))
    ((tRet ((tCall (sp_l_draw K) [] E0 ((tCons (tVar 0) ((tCons ((tOp (rI0 fun i j => .int (i + j)) (tVar 1) (tC (.int 1)))) (tNil))))))))))))))

theorem pure_l_size (K : PySem.W.Frag) (vs : List V) (H : Hp) (Q : VK) (E : XK) (h : sp_l_size K vs H Q E) : t_l_size K { nx := fun _ H' => Q .non H', rt := Q } (L2.start N_l_size vs) H := by
  obtain ⟨P, m, G, rfl, hm, hm2, hs, k⟩ := h
  rw [st_l_size]
  unfold t_l_size
  walk_at "st"
  refine c_l_draw hs (by omega) fun way H1 w0 w1 hs1 => ?_
  walk_at "st"
  refine ite_dec (fun h1 => ?_) (fun h1 => ?_)
  · walk_at "st"
    exact k _ _ hm (by omega) hs1
  · walk_at "st"
    refine ite_dec (fun h2 => ?_) (fun h2 => ?_)
    · walk_at "st"
      refine c_l_draw hs1 (by omega) fun d H2 d0 d1 hs2 => ?_
      walk_at "st"
      exact k _ _ (by split <;> omega) (by split <;> omega) hs2
    · walk_at "st"
      refine c_l_draw hs1 (by omega) fun d H2 d0 d1 hs2 => ?_
      walk_at "st"
      exact k _ _ (by omega) (by omega) hs2
theorem len_l_size (K : PySem.W.Frag) (vs : List V) (H : Hp) (Q : VK) (E : XK) (h : sp_l_size K vs H Q E) : vs.length = 2 := by
  obtain ⟨P, m, G, rfl, _⟩ := h
  rfl
theorem c_l_size {K : PySem.W.Frag} {P : Pl} {G H : Hp} {m : Int} {Q : VK} {E : XK} (hs : Sees P G H) (h0 : 0 ≤ m ∧ m ≤ 1000) (k : ∀ n H', 0 ≤ n → n ≤ m → Sees P G H' → Q (.int n) H') : sp_l_size K [.ref P.p, .int m] H Q E :=
  ⟨P, m, G, rfl, h0.1, h0.2, hs, k⟩
def sp_l_some (K : PySem.W.Frag) : Sp := fun vs H Q _ => ∃ (P : Pl) (m : Int) (G : Hp), vs = [.ref P.p, .int m] ∧ 0 ≤ m ∧ m ≤ 1000 ∧ Sees P G H ∧ ∀ n H', 0 ≤ n → n ≤ m → Sees P G H' → Q (.int n) H'
abbrev N_l_some : List Str := ["_law_pool_here", "_law_limit", "_law_way"]
theorem st_l_some {a0 a1 : V} : L2.start N_l_some [a0, a1] = [some a0, some a1, none] := rfl
def t_l_some (K : PySem.W.Frag) : TS :=
  (tSeq ((tAsg ((tCall (sp_l_draw K) [] E0 ((tCons (tVar 0) ((tCons (tC (.int 4)) (tNil))))))) (gName 2)))
    ((tSeq ((tIfS ((tTest (tOp rEq (tVar 2) (tC (.int 0))))) ((tRet (tVar 1))) (tNext)))
    ((tSeq ((tIfS ((tTest (tOp rEq (tVar 2) (tC (.int 1))))) ((tRet ((tCall (sp_l_draw K) [] E0 ((tCons (tVar 0) ((tCons ((tOp (rI0 fun i j => .int (i + j)) (tVar 1) (tC (.int 1)))) (tNil))))))))) (tNext)))
    ((tRet ((tCall (sp_l_draw K) [] E0 ((tCons (tVar 0) ((tCons ((tOp (rI0 fun i j => .int (i + j)) ((tCB rMin2 ((tCons (tVar 1) ((tCons (tC (.int 2)) (tNil))))))) (tC (.int 1)))) (tNil))))))))))))))

theorem pure_l_some (K : PySem.W.Frag) (vs : List V) (H : Hp) (Q : VK) (E : XK) (h : sp_l_some K vs H Q E) : t_l_some K { nx := fun _ H' => Q .non H', rt := Q } (L2.start N_l_some vs) H := by
  obtain ⟨P, m, G, rfl, hm, hm2, hs, k⟩ := h
  rw [st_l_some]
  unfold t_l_some
  walk_at "st"
  refine c_l_draw hs (by omega) fun way H1 w0 w1 hs1 => ?_
  walk_at "st"
  refine ite_dec (fun h1 => ?_) (fun h1 => ?_)
  · walk_at "st"
    exact k _ _ hm (by omega) hs1
  · walk_at "st"
    refine ite_dec (fun h2 => ?_) (fun h2 => ?_)
    · walk_at "st"
      refine c_l_draw hs1 (by omega) fun d H2 d0 d1 hs2 => ?_
      exact k _ _ (by omega) (by omega) hs2
    · walk_at "st"
      have e : (0 : Int) < (if (2 : Int) < m then 2 else m) + 1 ∧ (if (2 : Int) < m then 2 else m) + 1 < 1073741824 ∧ (if (2 : Int) < m then 2 else m) ≤ m := by split <;> omega
      refine c_l_draw hs1 ⟨e.1, e.2.1⟩ fun d H2 d0 d1 hs2 => ?_
      exact k _ _ (by omega) (by have := e.2.2; omega) hs2
theorem len_l_some (K : PySem.W.Frag) (vs : List V) (H : Hp) (Q : VK) (E : XK) (h : sp_l_some K vs H Q E) : vs.length = 2 := by
  obtain ⟨P, m, G, rfl, _⟩ := h
  rfl
theorem c_l_some {K : PySem.W.Frag} {P : Pl} {G H : Hp} {m : Int} {Q : VK} {E : XK} (hs : Sees P G H) (h0 : 0 ≤ m ∧ m ≤ 1000) (k : ∀ n H', 0 ≤ n → n ≤ m → Sees P G H' → Q (.int n) H') : sp_l_some K [.ref P.p, .int m] H Q E :=
  ⟨P, m, G, rfl, h0.1, h0.2, hs, k⟩
def sp_l_weight (K : PySem.W.Frag) : Sp := fun vs H Q _ => ∃ (P : Pl) (G : Hp), vs = [.ref P.p] ∧ Sees P G H ∧ ∀ n H', 0 ≤ n → n ≤ 99 → Sees P G H' → Q (.int n) H'
abbrev N_l_weight : List Str := ["_law_pool_here", "_law_way"]
theorem st_l_weight {a0 : V} : L2.start N_l_weight [a0] = [some a0, none] := rfl
def t_l_weight (K : PySem.W.Frag) : TS :=
  (tSeq ((tAsg ((tCall (sp_l_draw K) [] E0 ((tCons (tVar 0) ((tCons (tC (.int 4)) (tNil))))))) (gName 1)))
    ((tSeq ((tIfS ((tTest (tOp rEq (tVar 1) (tC (.int 0))))) ((tRet ((tCall (sp_l_draw K) [] E0 ((tCons (tVar 0) ((tCons (tC (.int 100)) (tNil))))))))) (tNext)))
    ((tSeq ((tIfS ((tTest (tOp rEq (tVar 1) (tC (.int 1))))) ((tRet (tC (.int 99)))) (tNext)))
    ((tRet ((tCall (sp_l_draw K) [] E0 ((tCons (tVar 0) ((tCons (tC (.int 4)) (tNil))))))))))))))

theorem pure_l_weight (K : PySem.W.Frag) (vs : List V) (H : Hp) (Q : VK) (E : XK) (h : sp_l_weight K vs H Q E) : t_l_weight K { nx := fun _ H' => Q .non H', rt := Q } (L2.start N_l_weight vs) H := by
  obtain ⟨P, G, rfl, hs, k⟩ := h
  rw [st_l_weight]
  unfold t_l_weight
  walk_at "st"
  refine c_l_draw hs (by omega) fun way H1 w0 w1 hs1 => ?_
  walk_at "st"
  refine ite_dec (fun h1 => ?_) (fun h1 => ?_)
  · walk_at "st"
    refine c_l_draw hs1 (by omega) fun d H2 d0 d1 hs2 => ?_
    exact k _ _ (by omega) (by omega) hs2
  · walk_at "st"
    refine ite_dec (fun h2 => ?_) (fun h2 => ?_)
    · walk_at "st"
      exact k _ _ (by omega) (by omega) hs1
    · walk_at "st"
      refine c_l_draw hs1 (by omega) fun d H2 d0 d1 hs2 => ?_
      exact k _ _ (by omega) (by omega) hs2
theorem len_l_weight (K : PySem.W.Frag) (vs : List V) (H : Hp) (Q : VK) (E : XK) (h : sp_l_weight K vs H Q E) : vs.length = 1 := by
  obtain ⟨P, G, rfl, _⟩ := h
  rfl
theorem c_l_weight {K : PySem.W.Frag} {P : Pl} {G H : Hp} {Q : VK} {E : XK} (hs : Sees P G H) (k : ∀ n H', 0 ≤ n → n ≤ 99 → Sees P G H' → Q (.int n) H') : sp_l_weight K [.ref P.p] H Q E := ⟨P, G, rfl, hs, k⟩
def sp_l_span (K : PySem.W.Frag) : Sp := fun vs H Q _ => ∃ (P : Pl) (T : Int) (q : Addr) (ns : List (List Nat)) (G : Hp), vs = [.ref P.p, .int T, .ref q] ∧ OkNs T ns ∧ 2 ≤ ns.length ∧ G q = some (.lst (ns.map sv)) ∧ Sees P G H ∧
  ∀ x G' H', IsSp G' T ns x → Same G G' → Sees P G' H' → Q x H'
abbrev N_l_span : List Str := ["_law_pool_here", "_law_length_here", "_law_names_here", "_law_u", "_law_v", "_law_low", "_law_high"]
theorem st_l_span {a0 a1 a2 : V} : L2.start N_l_span [a0, a1, a2] = [some a0, some a1, some a2, none, none, none, none] := rfl
def t_l_span (K : PySem.W.Frag) : TS :=
  (tSeq ((tAsg ((tCall (sp_l_draw K) [] E0 ((tCons (tVar 0) ((tCons ((tCB (rLenS K) ((tCons (tVar 2) (tNil))))) (tNil))))))) (gName 3)))
    ((tSeq ((tAsg ((tOp (rI (fun _ j => 0 < j) fun i j => .int (i % j)) ((tCB rInt1 ((tCons ((tOp (rI0 fun i j => .int (i + j)) ((tOp (rI0 fun i j => .int (i + j)) (tVar 3) (tC (.int 1)))) ((tCall (sp_l_draw K) [] E0 ((tCons (tVar 0) ((tCons ((tOp (rI0 fun i j => .int (i - j)) ((tCB (rLenS K) ((tCons (tVar 2) (tNil))))) (tC (.int 1)))) (tNil))))))))) (tNil))))) ((tCB (rLenS K) ((tCons (tVar 2) (tNil))))))) (gName 4)))
    ((tSeq ((tAsg ((tCall (sp_l_some K) [] E0 ((tCons (tVar 0) ((tCons ((tOp (rI0 fun i j => .int (i - j)) (tVar 1) (tC (.int 1)))) (tNil))))))) (gName 5)))
    ((tSeq ((tAsg ((tOp (rI0 fun i j => .int (i + j)) (tVar 5) ((tCall (sp_l_some K) [] E0 ((tCons (tVar 0) ((tCons ((tOp (rI0 fun i j => .int (i - j)) (tVar 1) (tC (.int 3)))) (tNil))))))))) (gName 6)))
    ((tRet ((tTup ((tCons ((tOp (rIxL K) (tVar 2) (tVar 3))) ((tCons ((tOp (rIxL K) (tVar 2) (tVar 4))) ((tCons (tVar 5) ((tCons (tVar 6) ((tCons ((tCall (sp_l_weight K) [] E0 ((tCons (tVar 0) (tNil))))) (tNil))))))))))))))))))))))

theorem pure_l_span (K : PySem.W.Frag) (vs : List V) (H : Hp) (Q : VK) (E : XK) (h : sp_l_span K vs H Q E) : t_l_span K { nx := fun _ H' => Q .non H', rt := Q } (L2.start N_l_span vs) H := by
  obtain ⟨P, T, q, ns, G, rfl, ok, hl, hq, hs, k⟩ := h
  have t0 := ok.t0
  have t1 := ok.t1
  have f := ok.few
  have el : (ns.map sv).length = ns.length := List.length_map ..
  rw [st_l_span]
  unfold t_l_span
  walk_at "st"
  refine c_l_draw hs (by omega) fun u H1 u0 u1 hs1 => ?_
  walk_at "st"
  refine c_l_draw hs1 (by omega) fun d H2 d0 d1 hs2 => ?_
  walk_at "st"
  rw [el] at u1 d1 ⊢
  have v0 : 0 ≤ (u + 1 + d) % (ns.length : Int) := Int.emod_nonneg _ (by omega)
  have v1 : (u + 1 + d) % (ns.length : Int) < ns.length := Int.emod_lt_of_pos _ (by omega)
  have vne : (u + 1 + d) % (ns.length : Int) ≠ u := fun e => by
    by_cases hh : u + 1 + d < ns.length
    · rw [Int.emod_eq_of_lt (by omega) hh] at e; omega
    · have e2 : u + 1 + d = (u + 1 + d - ns.length) + ns.length := by omega
      rw [e2, Int.add_emod_right, Int.emod_eq_of_lt (by omega) (by omega)] at e
      omega
  revert v0 v1 vne
  generalize (u + 1 + d) % (ns.length : Int) = v
  intro v0 v1 vne
  refine c_l_some hs2 (by omega) fun lo H3 l0 l1 hs3 => ?_
  walk_at "st"
  refine c_l_some hs3 (by omega) fun hi H4 h0 h1 hs4 => ?_
  walk_at "st"
  refine wp_ixLM (sq_of (hs4.sub _ _ hq)) u0 (by omega) fun x hx hx2 => ?_
  walk_at "st"
  refine wp_ixLM (sq_of (hs4.sub _ _ hq)) v0 (by omega) fun y hy hy2 => ?_
  walk_at "st"
  refine c_l_weight hs4 fun w H5 w0 w1 hs5 => ?_
  walk_at "st"
  obtain ⟨a, ha, rfl⟩ := List.mem_map.mp hx
  obtain ⟨b, hb, rfl⟩ := List.mem_map.mp hy
  refine ⟨by simp [sizeLine_eq], fun p hp => ?_⟩
  have hne : a ≠ b := fun e => by
    subst e
    rw [List.getElem?_map] at hx2 hy2
    obtain ⟨a1, e1, e2⟩ := Option.map_eq_some_iff.mp hx2
    obtain ⟨a2, e3, e4⟩ := Option.map_eq_some_iff.mp hy2
    have z1 : a1 = a := S_inj (V.str.inj e2)
    have z2 : a2 = a := S_inj (V.str.inj e4)
    subst z1 z2
    have hu : u.toNat < ns.length := by omega
    have hv : v.toNat < ns.length := by omega
    have nd := List.pairwise_iff_getElem.mp ok.nodup
    have q1 := (List.getElem?_eq_some_iff.mp e1).2
    have q2 := (List.getElem?_eq_some_iff.mp e3).2
    rcases Nat.lt_trichotomy u.toNat v.toNat with h | h | h
    · exact nd _ _ hu hv h (q1.trans q2.symm)
    · omega
    · exact nd _ _ hv hu h (q2.trans q1.symm)
  exact k _ _ _ ⟨⟨a, b, lo, lo + hi, w⟩, ⟨p, rfl, upd_same⟩, ⟨ha, hb, hne, l0, l1, by show lo ≤ lo + hi; omega, by show lo + hi ≤ lo + T - 3; omega, w0, w1⟩⟩ (Same.new (hs5.fresh hp).1) (hs5.new hp)
theorem len_l_span (K : PySem.W.Frag) (vs : List V) (H : Hp) (Q : VK) (E : XK) (h : sp_l_span K vs H Q E) : vs.length = 3 := by
  obtain ⟨P, G, _, _, _, rfl, _⟩ := h
  rfl
theorem c_l_span {K : PySem.W.Frag} {P : Pl} {T : Int} {q : Addr} {ns : List (List Nat)} {G H : Hp} {Q : VK} {E : XK} (hs : Sees P G H) (ok : OkNs T ns) (hl : 2 ≤ ns.length) (hq : G q = some (.lst (ns.map sv))) (k : ∀ x G' H', IsSp G' T ns x → Same G G' → Sees P G' H' → Q x H') : sp_l_span K [.ref P.p, .int T, .ref q] H Q E := ⟨P, T, q, ns, G, rfl, ok, hl, hq, hs, k⟩
def sp_l_spans (K : PySem.W.Frag) : Sp := fun vs H Q _ => ∃ (P : Pl) (T : Int) (q : Addr) (m : Int) (ns : List (List Nat)) (G : Hp), vs = [.ref P.p, .int T, .ref q, .int m] ∧ OkNs T ns ∧ 0 ≤ m ∧ m ≤ 24 ∧ G q = some (.lst (ns.map sv)) ∧ Sees P G H ∧
  ∀ p ss G' H', OkSp G' T ns ss → (ss.length : Int) ≤ m → (2 ≤ ns.length ∨ ss = []) → G' p = some (.lst ss) → Same G G' → Sees P G' H' → Q (.ref p) H'
abbrev N_l_spans : List Str := ["_law_pool_here", "_law_length_here", "_law_names_here", "_law_limit", "_law_spans_here", "_law_k", "_law_span_here"]
theorem st_l_spans {a0 a1 a2 a3 : V} : L2.start N_l_spans [a0, a1, a2, a3] = [some a0, some a1, some a2, some a3, none, none, none] := rfl
def t_l_spans (K : PySem.W.Frag) : TS :=
  (tSeq ((tAsg ((tLst (tNil))) (gName 4)))
    ((tSeq ((tIfS ((tTest (tOp (rI0 fun i j => .bl (decide (i < j))) ((tCB (rLenS K) ((tCons (tVar 2) (tNil))))) (tC (.int 2))))) ((tRet (tVar 4))) (tNext)))
    ((tSeq ((tFor ((iRng1 ((tCons ((tCall (sp_l_size K) [] E0 ((tCons (tVar 0) ((tCons (tVar 3) (tNil))))))) (tNil))))) (gName 5) ((tSeq ((tAsg ((tCall (sp_l_span K) [] E0 ((tCons (tVar 0) ((tCons (tVar 1) ((tCons (tVar 2) (tNil))))))))) (gName 6)))
    ((C8.tCut ((tIfS ((tAnd ((tTest (tOp (rI0 fun i j => .bl (decide (j < i))) ((tCB (rLenS K) ((tCons (tVar 4) (tNil))))) (tC (.int 0))))) ((tTest (tOp rEq ((tCall (sp_l_draw K) [] E0 ((tCons (tVar 0) ((tCons (tC (.int 6)) (tNil))))))) (tC (.int 1))))))) ((tAsg ((tOp (rIxL K) (tVar 4) ((tCall (sp_l_draw K) [] E0 ((tCons (tVar 0) ((tCons ((tCB (rLenS K) ((tCons (tVar 4) (tNil))))) (tNil))))))))) (gName 6))) (tNext)))
    ((tDrop ((tBM K "list" rAppend (tVar 4) ((tCons (tVar 6) (tNil)))))))))))))
    ((tRet (tVar 4))))))))

theorem pure_l_spans (K : PySem.W.Frag) (vs : List V) (H : Hp) (Q : VK) (E : XK) (h : sp_l_spans K vs H Q E) : t_l_spans K { nx := fun _ H' => Q .non H', rt := Q } (L2.start N_l_spans vs) H := by
  obtain ⟨P, T, q, m, ns, G, rfl, ok, hm, hm2, hq, hs, k⟩ := h
  have el : (ns.map sv).length = ns.length := List.length_map ..
  rw [st_l_spans]
  unfold t_l_spans
  walk_at "st"
  refine ⟨Nat.zero_le _, fun L hL => ?_⟩
  obtain ⟨hG, hLp⟩ := hs.fresh hL
  have hs0 := hs.set (o := .lst []) hG hLp
  have hLc : L ≠ P.l := (ne_of_none hs.cell hG).symm
  walk_at "st"
  refine ite_dec (fun h1 => ?_) (fun h1 => ?_)
  · walk_at "st"
    exact k L [] _ _ ⟨by simp, by simp⟩ (by simpa using hm) (.inr rfl) upd_same (Same.new hG) (hs0.with hG upd_same hLp)
  · walk_at "st"
    rw [el] at h1
    refine c_l_size (hs0.with hG upd_same hLp) (by omega) fun n H1 n0 n1 hs1 => ?_
    walk_at "st"
    obtain ⟨hs2, hL2⟩ := hs1.back hs0 hG
    refine loop1 (by omega) (fun i σ' H' => ∃ (x y : Option V) (ss : List V) (G' : Hp), σ' = [some (.ref P.p), some (.int T), some (.ref q), some (.int m), some (.ref L), x, y] ∧ ss.length = i ∧ (∀ z ∈ ss, IsSp G' T ns z) ∧ H' L = some (.lst ss) ∧ G' L = none ∧ Same G G' ∧ Sees P G' H') ⟨none, none, [], G, rfl, rfl, by simp, hL2, hG, Same.refl _, hs2⟩ ?_ ?_
    · rintro i σ' H' hi ⟨x, y, ss, G', rfl, hl, hsp, hLL, hGL, sG, hs3⟩
      walk_at "st"
      refine c_l_span (hs3.with hGL hLL hLp) ok (by omega) ((Same.new hGL) _ _ (sG _ _ hq)) fun z G2 H2 hz sG2 hs4 => ?_
      walk_at "st"
      have hL4 := sG2 L _ upd_same
      refine wp_cut (fun σ' H' => ∃ (z : V), σ' = [some (.ref P.p), some (.int T), some (.ref q), some (.int m), some (.ref L), some (.int i), some z] ∧ IsSp G2 T ns z ∧ Sees P G2 H') ?_ ?_
      · walk_at "st"
        refine ite_dec (fun h2 => ?_) (fun h2 => ?_)
        · walk_at "st"
          refine c_l_draw hs4 (by omega) fun d H3 d0 d1 hs5 => ?_
          walk_at "st"
          refine ite_dec (fun h3 => ?_) (fun h3 => ?_)
          · walk_at "st"
            refine c_l_draw hs5 (by omega) fun d H3 d0 d1 hs6 => ?_
            walk_at "st"
            refine wp_ixLM (sq_of (hs6.sub _ _ hL4)) d0 d1 fun z2 hz2 _ => ?_
            walk_at "st"
            exact ⟨_, rfl, (hsp _ hz2).mono ((Same.new hGL).trans sG2), hs6⟩
          · walk_at "st"
            exact ⟨_, rfl, hz, hs5⟩
        · walk_at "st"
          exact ⟨_, rfl, hz, hs4⟩
      · rintro σ' H3 ⟨z, rfl, hz2, hs5⟩
        walk_at "st"
        refine wp_append (hs5.sub _ _ hL4) (by omega) ?_
        walk_at "st"
        refine ⟨_, _, ss ++ [z], rmv G2 L, rfl, by simp; omega, fun y hy => ?_, upd_same, rmv_same, sG.trans (Same.rmv ((Same.new hGL).trans sG2) hGL), (hs5.less hL4 hLc).set rmv_same hLp⟩
        rcases List.mem_append.mp hy with h | h
        · exact ((hsp y h).mono ((Same.new hGL).trans sG2)).rmv hL4
        · rw [List.mem_singleton.mp h]
          exact hz2.rmv hL4
    · rintro σ' H' ⟨x, y, ss, G', rfl, hl, hsp, hLL, hGL, sG, hs3⟩
      walk_at "st"
      exact k L ss (upd G' L (.lst ss)) H' ⟨by omega, fun z hz => (hsp z hz).mono (Same.new hGL)⟩ (by omega) (.inl (by omega)) upd_same (sG.trans (Same.new hGL)) (hs3.with hGL hLL hLp)
theorem len_l_spans (K : PySem.W.Frag) (vs : List V) (H : Hp) (Q : VK) (E : XK) (h : sp_l_spans K vs H Q E) : vs.length = 4 := by
  obtain ⟨P, G, _, _, _, _, rfl, _⟩ := h
  rfl
theorem c_l_spans {K : PySem.W.Frag} {P : Pl} {T : Int} {q : Addr} {m : Int} {ns : List (List Nat)} {G H : Hp} {Q : VK} {E : XK} (hs : Sees P G H) (ok : OkNs T ns) (hm : 0 ≤ m ∧ m ≤ 24) (hq : G q = some (.lst (ns.map sv)))
    (k : ∀ p ss G' H', OkSp G' T ns ss → (ss.length : Int) ≤ m → (2 ≤ ns.length ∨ ss = []) → G' p = some (.lst ss) → Same G G' → Sees P G' H' → Q (.ref p) H') : sp_l_spans K [.ref P.p, .int T, .ref q, .int m] H Q E := ⟨P, T, q, m, ns, G, rfl, ok, hm.1, hm.2, hq, hs, k⟩
def sp_l_is_int (K : PySem.W.Frag) : Sp := fun vs H Q _ => ∃ (i : Int), vs = [.int i] ∧ Q (.bl true) H
abbrev N_l_is_int : List Str := ["_law_thing"]
theorem st_l_is_int {a0 : V} : L2.start N_l_is_int [a0] = [some a0] := rfl
def t_l_is_int (K : PySem.W.Frag) : TS :=
  (tRet ((tAndV ((tCB (rIsi K) ((tCons (tVar 0) ((tCons (tC (.ty "int")) (tNil))))))) ((tNotV ((tCB (rIsi K) ((tCons (tVar 0) ((tCons (tC (.ty "bool")) (tNil))))))))))))

theorem pure_l_is_int (K : PySem.W.Frag) (vs : List V) (H : Hp) (Q : VK) (E : XK) (h : sp_l_is_int K vs H Q E) : t_l_is_int K { nx := fun _ H' => Q .non H', rt := Q } (L2.start N_l_is_int vs) H := by
  obtain ⟨i, rfl, k⟩ := h
  rw [st_l_is_int]
  unfold t_l_is_int
  walk_at "st"
  exact k
theorem len_l_is_int (K : PySem.W.Frag) (vs : List V) (H : Hp) (Q : VK) (E : XK) (h : sp_l_is_int K vs H Q E) : vs.length = 1 := by
  obtain ⟨P, rfl, _⟩ := h
  rfl
theorem c_l_is_int {K : PySem.W.Frag} {i : Int} {H : Hp} {Q : VK} {E : XK} (k : Q (.bl true) H) : sp_l_is_int K [.int i] H Q E := ⟨i, rfl, k⟩
def sp_l_same (K : PySem.W.Frag) (n : Nat) : Sp := fun vs H Q _ => ∃ (u v : V), vs = [u, v] ∧ Sm H n u v ∧ ∀ H', Same H H' → Q (.bl true) H'
theorem sp0_l_same (K : PySem.W.Frag) {vs : List V} {H : Hp} {Q : VK} {E : XK} (h : sp_l_same K 0 vs H Q E) : False := by
  obtain ⟨u, v, _, h, _⟩ := h
  exact h
theorem c_l_same {K : PySem.W.Frag} {n : Nat} {u v : V} {H : Hp} {Q : VK} {E : XK} (h : Sm H n u v) (k : ∀ H', Same H H' → Q (.bl true) H') : sp_l_same K n [u, v] H Q E := ⟨u, v, rfl, h, k⟩
abbrev N_l_same : List Str := ["_law_actual", "_law_due_here", "_law_key", "_law_k"]
theorem st_l_same {a0 a1 : V} : L2.start N_l_same [a0, a1] = [some a0, some a1, none, none] := rfl
def t_l_same (K : PySem.W.Frag) (n : Nat) : TS :=
  (tSeq ((tIfS ((tTest (tOp rIsN (tVar 1) (tC .non)))) ((tRet ((tOp rIsN (tVar 0) (tC .non))))) (tNext)))
    ((tSeq ((tIfS ((tB ((tCB (rIsi K) ((tCons (tVar 1) ((tCons (tC (.ty "bool")) (tNil))))))))) ((tRet ((tAndV ((tCB (rIsi K) ((tCons (tVar 0) ((tCons (tC (.ty "bool")) (tNil))))))) ((tOp rEq (tVar 0) (tVar 1))))))) (tNext)))
    ((tSeq ((tIfS ((tB ((tCB (rIsi K) ((tCons (tVar 1) ((tCons (tC (.ty "int")) (tNil))))))))) ((tRet ((tAndV ((tCall (sp_l_is_int K) [] E0 ((tCons (tVar 0) (tNil))))) ((tOp rEq (tVar 0) (tVar 1))))))) (tNext)))
    ((tSeq ((tIfS ((tB ((tCB (rIsi K) ((tCons (tVar 1) ((tCons (tC (.ty "str")) (tNil))))))))) ((tRet ((tAndV ((tCB (rIsi K) ((tCons (tVar 0) ((tCons (tC (.ty "str")) (tNil))))))) ((tOp rEq (tVar 0) (tVar 1))))))) (tNext)))
    ((tSeq ((tIfS ((tB ((tCB (rIsi K) ((tCons (tVar 1) ((tCons (tC (.ty "dict")) (tNil))))))))) ((tSeq (tNever)
    ((tSeq (tNever)
    ((tRet (tC (.bl true)))))))) (tNext)))
    ((tSeq ((tIfS ((tAnd ((tB ((tCB (rIsi K) ((tCons (tVar 1) ((tCons (tC (.ty "list")) (tNil))))))))) ((tNot ((tB ((tCB (rIsi K) ((tCons (tVar 0) ((tCons (tC (.ty "list")) (tNil))))))))))))) ((tRet (tC (.bl false)))) (tNext)))
    ((tSeq ((tIfS ((tAnd ((tB ((tCB (rIsi K) ((tCons (tVar 1) ((tCons (tC (.ty "tuple")) (tNil))))))))) ((tNot ((tB ((tCB (rIsi K) ((tCons (tVar 0) ((tCons (tC (.ty "tuple")) (tNil))))))))))))) ((tRet (tC (.bl false)))) (tNext)))
    ((tSeq ((tIfS ((tTest (tOp rNe ((tCB (rLenS K) ((tCons (tVar 0) (tNil))))) ((tCB (rLenS K) ((tCons (tVar 1) (tNil)))))))) ((tRet (tC (.bl false)))) (tNext)))
    ((tSeq ((tFor ((iRng1 ((tCons ((tCB (rLenS K) ((tCons (tVar 1) (tNil))))) (tNil))))) (gName 3) ((tIfS ((tNot ((tB ((tCall (sp_l_same K n) [] E0 ((tCons ((tOp (rIx K) (tVar 0) (tVar 3))) ((tCons ((tOp (rIx K) (tVar 1) (tVar 3))) (tNil))))))))))) ((tRet (tC (.bl false)))) (tNext)))))
    ((tRet (tC (.bl true)))))))))))))))))))))

theorem pure_l_same (K : PySem.W.Frag) (n : Nat) (vs : List V) (H : Hp) (Q : VK) (E : XK) (h : sp_l_same K (n + 1) vs H Q E) : t_l_same K n { nx := fun _ H' => Q .non H', rt := Q } (L2.start N_l_same vs) H := by
  obtain ⟨u, v, rfl, h, k⟩ := h
  rw [st_l_same]
  unfold t_l_same
  rcases h with ⟨rfl, h⟩ | ⟨a, b, xs, ys, rfl, rfl, h, hl, hk, hr⟩
  · rcases h with rfl | ⟨c, rfl⟩ | ⟨i, rfl⟩ | ⟨z, rfl⟩
    · walk_at "st"
      rw [decide_eq_true rfl]
      walk_at "st"
      exact k _ (Same.refl _)
    · walk_at "st"
      rw [decide_eq_false (by simp)]
      walk_at "st"
      rw [decide_eq_true rfl]
      exact k _ (Same.refl _)
    · walk_at "st"
      rw [decide_eq_false (by simp)]
      walk_at "st"
      refine c_l_is_int ?_
      walk_at "st"
      rw [decide_eq_true rfl]
      exact k _ (Same.refl _)
    · walk_at "st"
      rw [decide_eq_false (by simp)]
      walk_at "st"
      rw [decide_eq_true rfl]
      exact k _ (Same.refl _)
  · rcases h with ⟨ha, hb⟩ | ⟨ha, hb⟩
    · walk_at "st"
      rw [decide_eq_false (by simp)]
      walk_at "st"
      refine loop1 (by omega) (fun i σ' H' => ∃ x y, σ' = [some (.ref a), some (.ref b), x, y] ∧ Same H H') ⟨_, _, rfl, Same.refl _⟩ ?_ ?_
      · rintro i σ' H' hi ⟨x, y, rfl, s2⟩
        have hyi : i < ys.length := by omega
        have hxi : i < xs.length := by omega
        walk_at "st"
        refine wp_rixL (sq_of (s2 _ _ ha)) (at_nth (List.getElem?_eq_getElem hxi)) ?_
        walk_at "st"
        refine wp_rixL (sq_of (s2 _ _ hb)) (at_nth (List.getElem?_eq_getElem hyi)) ?_
        walk_at "st"
        refine c_l_same ((hr i _ _ (List.getElem?_eq_getElem hxi) (List.getElem?_eq_getElem hyi)).mono s2) fun H3 s3 => ?_
        walk_at "st"
        exact ⟨_, _, rfl, s2.trans s3⟩
      · rintro σ' H' ⟨x, y, rfl, s2⟩
        walk_at "st"
        exact k _ s2
    · walk_at "st"
      rw [decide_eq_false (by simp)]
      walk_at "st"
      refine loop1 (by omega) (fun i σ' H' => ∃ x y, σ' = [some (.ref a), some (.ref b), x, y] ∧ Same H H') ⟨_, _, rfl, Same.refl _⟩ ?_ ?_
      · rintro i σ' H' hi ⟨x, y, rfl, s2⟩
        have hyi : i < ys.length := by omega
        have hxi : i < xs.length := by omega
        walk_at "st"
        refine wp_rixT (st_of (s2 _ _ ha)) (at_nth (List.getElem?_eq_getElem hxi)) ?_
        walk_at "st"
        refine wp_rixT (st_of (s2 _ _ hb)) (at_nth (List.getElem?_eq_getElem hyi)) ?_
        walk_at "st"
        refine c_l_same ((hr i _ _ (List.getElem?_eq_getElem hxi) (List.getElem?_eq_getElem hyi)).mono s2) fun H3 s3 => ?_
        walk_at "st"
        exact ⟨_, _, rfl, s2.trans s3⟩
      · rintro σ' H' ⟨x, y, rfl, s2⟩
        walk_at "st"
        exact k _ s2
theorem len_l_same (K : PySem.W.Frag) (n : Nat) (vs : List V) (H : Hp) (Q : VK) (E : XK) (h : sp_l_same K n vs H Q E) : vs.length = 2 := by
  obtain ⟨u, v, rfl, _⟩ := h
  rfl
def sp_l_sign (K : PySem.W.Frag) : Sp := fun vs H Q _ => ∃ (P : Pl) (G : Hp), vs = [.ref P.p] ∧ Sees P G H ∧ ∀ (c : Nat) H', 32 ≤ c → c < 127 → c ≠ 37 → Sees P G H' → Q (.str (S [c])) H'
abbrev N_l_sign : List Str := ["_law_pool_here", "_law_signs"]
theorem st_l_sign {a0 : V} : L2.start N_l_sign [a0] = [some a0, none] := rfl
def t_l_sign (K : PySem.W.Frag) : TS :=
  (tSeq ((tAsg (tC (.str (S Z64))) (gName 1)))
    ((tSeq ((tAsg ((tOp rAddStr (tVar 1) (tC (.str (S Z30))))) (gName 1)))
    ((tRet ((tOp rIxS (tVar 1) ((tCall (sp_l_draw K) [] E0 ((tCons (tVar 0) ((tCons (tC (.int 94)) (tNil))))))))))))))

theorem pure_l_sign (K : PySem.W.Frag) (vs : List V) (H : Hp) (Q : VK) (E : XK) (h : sp_l_sign K vs H Q E) : t_l_sign K { nx := fun _ H' => Q .non H', rt := Q } (L2.start N_l_sign vs) H := by
  obtain ⟨P, G, rfl, hs, k⟩ := h
  rw [st_l_sign]
  unfold t_l_sign
  walk_at "st"
  refine c_l_draw hs (by omega) fun d H2 h0 h1 hs2 => ?_
  walk_at "st"
  refine wp_ixSM (by decide) h0 h1 fun c hc _ => ?_
  have z := (by decide : ∀ c ∈ Z64 ++ Z30, 32 ≤ c ∧ c < 127 ∧ c ≠ 37) c hc
  exact k c H2 z.1 z.2.1 z.2.2 hs2
theorem len_l_sign (K : PySem.W.Frag) (vs : List V) (H : Hp) (Q : VK) (E : XK) (h : sp_l_sign K vs H Q E) : vs.length = 1 := by
  obtain ⟨P, G, rfl, _⟩ := h
  rfl
theorem c_l_sign {K : PySem.W.Frag} {P : Pl} {G H : Hp} {Q : VK} {E : XK} (hs : Sees P G H) (k : ∀ (c : Nat) H', 32 ≤ c → c < 127 → c ≠ 37 → Sees P G H' → Q (.str (S [c])) H') : sp_l_sign K [.ref P.p] H Q E := ⟨P, G, rfl, hs, k⟩

def sp_l_odd (K : PySem.W.Frag) : Sp := fun vs H Q _ => ∃ (P : Pl) (G : Hp), vs = [.ref P.p] ∧ Sees P G H ∧ ∀ l H', Asc l → l.length ≤ 20 → Sees P G H' → Q (.str (S l)) H'
abbrev N_l_odd : List Str := ["_law_pool_here", "_law_name", "_law_way", "_law_at", "_law_k"]
theorem st_l_odd {a0 : V} : L2.start N_l_odd [a0] = [some a0, none, none, none, none] := rfl
def t_l_odd (K : PySem.W.Frag) : TS :=
  (tSeq ((tAsg ((tOp (rIxL K) ((tCall (sp_l_names K) [] E0 ((tCons (tVar 0) ((tCons (tC (.int 1)) (tNil))))))) (tC (.int 0)))) (gName 1)))
    ((tSeq ((tAsg ((tCall (sp_l_draw K) [] E0 ((tCons (tVar 0) ((tCons (tC (.int 5)) (tNil))))))) (gName 2)))
    ((tSeq ((tIfS ((tTest (tOp rEq (tVar 2) (tC (.int 0))))) ((tRet (tC (.str (S []))))) (tNext)))
    ((tSeq ((tIfS ((tTest (tOp rEq (tVar 2) (tC (.int 1))))) ((tRet ((tSl rSlS ((tOp rAddStr (tVar 1) (tC (.str (S Y_aaaaaaaa))))) tNoPart (tPart (tC (.int 9))))))) (tNext)))
    ((tSeq ((tIfS ((tTest (tOp rEq (tVar 2) (tC (.int 4))))) ((tRet ((tM1 (rJoin K) (tC (.str (S []))) ((tLc ((iRng1 ((tCons ((tCall (sp_l_draw K) [] E0 ((tCons (tVar 0) ((tCons (tC (.int 11)) (tNil))))))) (tNil))))) ((gName 4)) (tYes) ((tCall (sp_l_sign K) [] E0 ((tCons (tVar 0) (tNil))))) [4])))))) (tNext)))
    ((tSeq ((tAsg ((tCall (sp_l_draw K) [] E0 ((tCons (tVar 0) ((tCons ((tCB rLenStr ((tCons (tVar 1) (tNil))))) (tNil))))))) (gName 3)))
    ((tRet ((tOp rAddStr ((tOp rAddStr ((tSl rSlS (tVar 1) tNoPart (tPart (tVar 3)))) ((tCall (sp_l_sign K) [] E0 ((tCons (tVar 0) (tNil))))))) ((tSl rSlS (tVar 1) (tPart ((tOp (rI0 fun i j => .int (i + j)) (tVar 3) (tC (.int 1))))) tNoPart)))))))))))))))))

theorem pure_l_odd (K : PySem.W.Frag) (vs : List V) (H : Hp) (Q : VK) (E : XK) (h : sp_l_odd K vs H Q E) : t_l_odd K { nx := fun _ H' => Q .non H', rt := Q } (L2.start N_l_odd vs) H := by
  obtain ⟨P, G, rfl, hs, k⟩ := h
  rw [st_l_odd]
  unfold t_l_odd
  walk_at "st"
  refine c_l_names hs (by omega) fun ns q G1 H1 l1 nm nd s1 hq hs1 => ?_
  have el : (ns.map sv).length = ns.length := List.length_map ..
  walk_at "st"
  refine wp_ixLM (sq_of (hs1.sub _ _ hq)) (by omega) (by omega) fun x hx _ => ?_
  obtain ⟨l, hl, rfl⟩ := List.mem_map.mp hx
  have hn := nm l hl
  have hlen := hn.len
  have asc := nm_asc hn
  have back : ∀ H', Sees P G1 H' → Sees P G H' := fun H' z => ⟨z.pool, hs.cell, hs.few, hs.free, s1.trans z.sub⟩
  walk_at "st"
  refine c_l_draw hs1 (by omega) fun way H2 w0 w1 hs2 => ?_
  walk_at "st"
  refine ite_dec (fun h1 => ?_) (fun h1 => ?_)
  · walk_at "st"
    exact k [] _ (fun c hc => by cases hc) (by simp) (back _ hs2)
  walk_at "st"
  refine ite_dec (fun h2 => ?_) (fun h2 => ?_)
  · walk_at "st"
    refine wp_addS (by show l.length + 8 ≤ _; omega) ?_
    walk_at "st"
    refine wp_sliceS (by rw [List.length_append]; show l.length + 8 ≤ _; omega) ?_
    refine k _ _ (fun c hc => ?_) ?_ (back _ hs2)
    · unfold cutG at hc
      rcases List.mem_append.mp (List.mem_of_mem_drop (List.mem_of_mem_take hc)) with h | h
      · exact asc c h
      · exact (by decide : ∀ c ∈ Y_aaaaaaaa, c < 127) c h
    · unfold cutG
      rw [List.length_take, List.length_drop, List.length_append]
      show min _ (l.length + 8 - _) ≤ 20
      omega
  walk_at "st"
  refine ite_dec (fun h3 => ?_) (fun h3 => ?_)
  · walk_at "st"
    refine wp_m1 ?_
    walk_at "st"
    refine ⟨⟨_, rfl⟩, ?_⟩
    walk_at "st"
    refine c_l_draw hs2 (by omega) fun m H3 m0 m1 hs3 => ?_
    walk_at "st"
    refine lcPR m0 (by omega) hs3 (fun i acc => ∃ cs : List Nat, acc = cs.map (fun c => V.str (S [c])) ∧ cs.length = i ∧ Asc cs) ⟨[], rfl, rfl, fun c hc => by cases hc⟩ (fun i acc G2 H4 R hi s4 hs4 _ hI kk => ?_) (fun D acc H4 hD hs4 hD4 hl4 hI => ?_)
    · obtain ⟨cs, rfl, e1, hc⟩ := hI
      rw [show wipe [some (V.ref P.p), some (sv l), some (.int way), none, none] [4] = [some (V.ref P.p), some (sv l), some (.int way), none, none] from rfl]
      walk_at "st"
      refine ⟨rfl, ?_⟩
      walk_at "st"
      refine c_l_sign hs4 fun c H5 c0 c1 _ hs5 => ?_
      refine kk _ _ hs5 ⟨cs ++ [c], by rw [List.map_append]; rfl, by simp; omega, fun d hd => ?_⟩
      rcases List.mem_append.mp hd with h | h
      · exact hc d h
      · rw [List.mem_singleton.mp h]; exact c1
    · obtain ⟨cs, rfl, e1, hc⟩ := hI
      refine wp_join1 hD4 (by omega) ?_
      exact k cs _ hc (by omega) (back _ hs4)
  walk_at "st"
  have hl1 : 1 ≤ l.length := by
    obtain ⟨c, r, e, _⟩ := hn.first
    rw [e]; simp
  refine c_l_draw hs2 (by omega) fun d H3 d0 d1 hs3 => ?_
  walk_at "st"
  refine c_l_sign hs3 fun c H4 c0 c1 _ hs4 => ?_
  walk_at "st"
  rw [cutG_to1 d0 (by omega)]
  refine wp_addS (by rw [List.length_take]; simp; omega) ?_
  walk_at "st"
  rw [cutG_from1 (by omega) (by omega)]
  refine wp_addS (by simp only [List.length_append, List.length_take, List.length_drop, List.length_cons, List.length_nil]; omega) ?_
  refine k _ _ (fun x hx => ?_) (by simp only [List.length_append, List.length_take, List.length_drop, List.length_cons, List.length_nil]; omega) (back _ hs4)
  rcases List.mem_append.mp hx with h | h
  · rcases List.mem_append.mp h with h | h
    · exact asc x (List.mem_of_mem_take h)
    · rw [List.mem_singleton.mp h]; exact c1
  · exact asc x (List.mem_of_mem_drop h)
theorem len_l_odd (K : PySem.W.Frag) (vs : List V) (H : Hp) (Q : VK) (E : XK) (h : sp_l_odd K vs H Q E) : vs.length = 1 := by
  obtain ⟨P, G, rfl, _⟩ := h
  rfl
theorem c_l_odd {K : PySem.W.Frag} {P : Pl} {G H : Hp} {Q : VK} {E : XK} (hs : Sees P G H) (k : ∀ l H', Asc l → l.length ≤ 20 → Sees P G H' → Q (.str (S l)) H') : sp_l_odd K [.ref P.p] H Q E := ⟨P, G, rfl, hs, k⟩
def sp_l_wide (K : PySem.W.Frag) : Sp := fun vs H Q _ => ∃ (P : Pl) (G : Hp), vs = [.ref P.p] ∧ Sees P G H ∧ ∀ n H', Sees P G H' → Q (.int n) H'
abbrev N_l_wide : List Str := ["_law_pool_here", "_law_number"]
theorem st_l_wide {a0 : V} : L2.start N_l_wide [a0] = [some a0, none] := rfl
def t_l_wide (K : PySem.W.Frag) : TS :=
  (tSeq ((tAsg ((tOp (rI0 fun i j => .int (i + j)) ((tOp (rI CMul fun i j => .int (i * j)) ((tCall (sp_l_draw K) [] E0 ((tCons (tVar 0) ((tCons ((tOp (rI CPow fun i j => .int (i ^ j.toNat)) (tC (.int 10)) (tC (.int 4)))) (tNil))))))) ((tOp (rI CPow fun i j => .int (i ^ j.toNat)) (tC (.int 10)) (tC (.int 4)))))) ((tCall (sp_l_draw K) [] E0 ((tCons (tVar 0) ((tCons ((tOp (rI0 fun i j => .int (i + j)) ((tOp (rI CPow fun i j => .int (i ^ j.toNat)) (tC (.int 10)) (tC (.int 4)))) (tC (.int 1)))) (tNil))))))))) (gName 1)))
    ((tSeq ((tIfS ((tTest (tOp rEq ((tCall (sp_l_draw K) [] E0 ((tCons (tVar 0) ((tCons (tC (.int 2)) (tNil))))))) (tC (.int 1))))) ((tRet ((tUn (rU fun i => .int (-i)) (tVar 1))))) (tNext)))
    ((tRet (tVar 1))))))

theorem pure_l_wide (K : PySem.W.Frag) (vs : List V) (H : Hp) (Q : VK) (E : XK) (h : sp_l_wide K vs H Q E) : t_l_wide K { nx := fun _ H' => Q .non H', rt := Q } (L2.start N_l_wide vs) H := by
  obtain ⟨P, G, rfl, hs, k⟩ := h
  rw [st_l_wide]
  unfold t_l_wide
  walk_at "st"
  refine c_l_draw hs (by decide) fun d1 H1 a0 a1 hs1 => ?_
  walk_at "st"
  refine c_l_draw hs1 (by decide) fun d2 H2 b0 b1 hs2 => ?_
  walk_at "st"
  refine c_l_draw hs2 (by decide) fun d3 H3 c0 c1 hs3 => ?_
  walk_at "st"
  refine ite_dec (fun h1 => ?_) (fun h1 => ?_)
  · walk_at "st"
    exact k _ _ hs3
  · walk_at "st"
    exact k _ _ hs3
theorem len_l_wide (K : PySem.W.Frag) (vs : List V) (H : Hp) (Q : VK) (E : XK) (h : sp_l_wide K vs H Q E) : vs.length = 1 := by
  obtain ⟨P, G, rfl, _⟩ := h
  rfl
theorem c_l_wide {K : PySem.W.Frag} {P : Pl} {G H : Hp} {Q : VK} {E : XK} (hs : Sees P G H) (k : ∀ n H', Sees P G H' → Q (.int n) H') : sp_l_wide K [.ref P.p] H Q E := ⟨P, G, rfl, hs, k⟩
def sp_l_pick (K : PySem.W.Frag) : Sp := fun vs H Q _ => ∃ (P : Pl) (G : Hp) (q : Addr) (is : List Int), vs = [.ref P.p, .ref q] ∧ Sees P G H ∧ H q = some (.lst (is.map V.int)) ∧ q ≠ P.p ∧ is.length ≤ 1000 ∧ ∀ n H', Sees P G H' → Q (.int n) H'
abbrev N_l_pick : List Str := ["_law_pool_here", "_law_values", "_law_way"]
theorem st_l_pick {a0 a1 : V} : L2.start N_l_pick [a0, a1] = [some a0, some a1, none] := rfl
def t_l_pick (K : PySem.W.Frag) : TS :=
  (tSeq ((tAsg ((tCall (sp_l_draw K) [] E0 ((tCons (tVar 0) ((tCons ((tOp (rI0 fun i j => .int (i + j)) ((tCB (rLenS K) ((tCons (tVar 1) (tNil))))) (tC (.int 1)))) (tNil))))))) (gName 2)))
    ((tSeq ((tIfS ((tTest (tOp rEq (tVar 2) ((tCB (rLenS K) ((tCons (tVar 1) (tNil)))))))) ((tRet ((tCall (sp_l_wide K) [] E0 ((tCons (tVar 0) (tNil))))))) (tNext)))
    ((tRet ((tOp (rIxL K) (tVar 1) (tVar 2))))))))

theorem pure_l_pick (K : PySem.W.Frag) (vs : List V) (H : Hp) (Q : VK) (E : XK) (h : sp_l_pick K vs H Q E) : t_l_pick K { nx := fun _ H' => Q .non H', rt := Q } (L2.start N_l_pick vs) H := by
  obtain ⟨P, G, q, is, rfl, hs, hq, nq, hl, k⟩ := h
  rw [st_l_pick]
  unfold t_l_pick
  have el : (is.map V.int).length = is.length := List.length_map ..
  by_cases gq : G q = none
  · have hs0 := hs.with gq hq nq
    walk_at "st"
    refine c_l_draw hs0 (by omega) fun d1 H1 a0 a1 hs1 => ?_
    have hq1 := hs1.sub _ _ upd_same
    walk_at "st"
    refine ite_dec (fun h1 => ?_) (fun h1 => ?_)
    · walk_at "st"
      exact c_l_wide (hs1.back hs gq).1 k
    · walk_at "st"
      refine wp_ixLI (sq_of hq1) a0 (by omega) fun x _ => ?_
      exact k _ _ (hs1.back hs gq).1
  · obtain ⟨o, ho⟩ := Option.ne_none_iff_exists'.mp gq
    have e : o = .lst (is.map V.int) := by have z := hs.sub _ _ ho; rw [hq] at z; exact (Option.some.inj z).symm
    subst e
    walk_at "st"
    refine c_l_draw hs (by omega) fun d1 H1 a0 a1 hs1 => ?_
    have hq1 := hs1.sub _ _ ho
    walk_at "st"
    refine ite_dec (fun h1 => ?_) (fun h1 => ?_)
    · walk_at "st"
      exact c_l_wide hs1 k
    · walk_at "st"
      refine wp_ixLI (sq_of hq1) a0 (by omega) fun x _ => ?_
      exact k _ _ hs1
theorem len_l_pick (K : PySem.W.Frag) (vs : List V) (H : Hp) (Q : VK) (E : XK) (h : sp_l_pick K vs H Q E) : vs.length = 2 := by
  obtain ⟨P, G, q, is, rfl, _⟩ := h
  rfl
theorem c_l_pick {K : PySem.W.Frag} {P : Pl} {G H : Hp} {q : Addr} (is : List Int) {Q : VK} {E : XK} (hs : Sees P G H) (hq : H q = none) (hl : is.length ≤ 1000) (k : ∀ n H', Sees P G H' → Q (.int n) H') : sp_l_pick K [.ref P.p, .ref q] (upd H q (.lst (is.map V.int))) Q E :=
  ⟨P, G, q, is, rfl, hs.set (hs.fresh hq).1 (hs.fresh hq).2, upd_same, (hs.fresh hq).2, hl, k⟩
def sp_l_filled (K : PySem.W.Frag) : Sp := fun vs H Q _ => ∃ (P : Pl) (G : Hp) (q : Addr) (ns : List (List Nat)), vs = [.ref q] ∧ Sees P G H ∧ G q = some (.lst (ns.map sv)) ∧ ns.length ≤ 1000 ∧ (∀ l ∈ ns, Asc l ∧ l.length ≤ 20) ∧
  ∀ (p : Addr) (ms : List (List Nat)) (G' H' : Hp), Same G G' → Sees P G' H' → G' p = some (.lst (ms.map sv)) → ms.length ≤ ns.length + 13 → (∀ l ∈ ms, Asc l ∧ l.length ≤ 20) → Q (.ref p) H'
abbrev N_l_filled : List Str := ["_law_names_here", "_law_more", "_law_k"]
theorem st_l_filled {a0 : V} : L2.start N_l_filled [a0] = [some a0, none, none] := rfl
def t_l_filled (K : PySem.W.Frag) : TS :=
  (tSeq ((tAsg ((tCB (rListS K) ((tCons (tVar 0) (tNil))))) (gName 1)))
    ((tSeq ((tFor ((iRng1 ((tCons (tC (.int 26)) (tNil))))) (gName 2) ((tIfS ((tAnd ((tTest (tOp (rI0 fun i j => .bl (decide (i < j))) ((tCB (rLenS K) ((tCons (tVar 1) (tNil))))) (tC (.int 13))))) ((tTest (tOp (rIn K true) ((tOp rAddStr (tC (.str (S [121]))) ((tCB rStrInt ((tCons (tVar 2) (tNil))))))) (tVar 1)))))) ((tDrop ((tBM K "list" rAppend (tVar 1) ((tCons ((tOp rAddStr (tC (.str (S [121]))) ((tCB rStrInt ((tCons (tVar 2) (tNil))))))) (tNil))))))) (tNext)))))
    ((tRet (tVar 1))))))

theorem yn26 : ∀ j, j < 26 → ([121] ++ dg j).length ≤ 3 ∧ ([121] ++ dg j).all (fun c => decide (c < 127)) = true := by decide +kernel
theorem yn26a {j : Nat} (h : j < 26) : Asc ([121] ++ dg j) := fun c hc => of_decide_eq_true (List.all_eq_true.mp (yn26 j h).2 c hc)
theorem pure_l_filled (K : PySem.W.Frag) (vs : List V) (H : Hp) (Q : VK) (E : XK) (h : sp_l_filled K vs H Q E) : t_l_filled K { nx := fun _ H' => Q .non H', rt := Q } (L2.start N_l_filled vs) H := by
  obtain ⟨P, G, q, ns, rfl, hs, hq, hl, ha, k⟩ := h
  rw [st_l_filled]
  unfold t_l_filled
  walk_at "st"
  refine wp_listL (sq_of (hs.sub _ _ hq)) fun L hL => ?_
  obtain ⟨gL, nL⟩ := hs.fresh hL
  walk_at "st"
  refine loop1 (by decide) (fun i σ' H' => ∃ x, ∃ ms : List (List Nat), σ' = [some (.ref q), some (.ref L), x] ∧ Lcl P L (ms.map sv) G H' ∧ ms.length ≤ ns.length + 13 ∧ (∀ l ∈ ms, Asc l ∧ l.length ≤ 20)) ⟨_, ns, rfl, ⟨hs.set gL nL, upd_same, gL, nL⟩, by omega, ha⟩ ?_ ?_
  · rintro i σ' H' hi ⟨x, ms, rfl, lc, hm, hb⟩
    have em : (ms.map sv).length = ms.length := List.length_map ..
    have hLL := lc.h
    have hi2 : i < 26 := by omega
    walk_at "st"
    refine ite_dec (fun h1 => ?_) (fun h1 => ?_)
    · walk_at "st"
      refine wp_strIntS (by omega) ?_
      refine wp_addS (by have := (yn26 i hi2).1; simp at this ⊢; omega) ?_
      walk_at "st"
      refine wp_notInSv (sq_of lc.h) ?_
      walk_at "st"
      refine ite_ndec (fun h2 => ?_) (fun h2 => ?_)
      · walk_at "st"
        refine wp_strIntS (by omega) ?_
        refine wp_addS (by have := (yn26 i hi2).1; simp at this ⊢; omega) ?_
        walk_at "st"
        refine wp_append lc.h (by omega) ?_
        walk_at "st"
        rw [em] at h1
        refine ⟨_, ms ++ [[121] ++ dg i], rfl, ?_, by simp; omega, fun l hl2 => ?_⟩
        · rw [List.map_append]
          exact lc.put
        · rcases List.mem_append.mp hl2 with h | h
          · exact hb l h
          · rw [List.mem_singleton.mp h]
            exact ⟨yn26a hi2, by have := (yn26 i hi2).1; omega⟩
      · walk_at "st"
        exact ⟨_, ms, rfl, lc, hm, hb⟩
    · walk_at "st"
      exact ⟨_, ms, rfl, lc, hm, hb⟩
  · rintro σ' H' ⟨x, ms, rfl, lc, hm, hb⟩
    walk_at "st"
    exact k L ms _ _ (Same.new gL) lc.in_ upd_same hm hb
theorem len_l_filled (K : PySem.W.Frag) (vs : List V) (H : Hp) (Q : VK) (E : XK) (h : sp_l_filled K vs H Q E) : vs.length = 1 := by
  obtain ⟨P, G, q, ns, rfl, _⟩ := h
  rfl
theorem c_l_filled {K : PySem.W.Frag} {P : Pl} {G H : Hp} {q : Addr} {ns : List (List Nat)} {Q : VK} {E : XK} (hs : Sees P G H) (hq : G q = some (.lst (ns.map sv))) (hl : ns.length ≤ 1000) (ha : ∀ l ∈ ns, Asc l ∧ l.length ≤ 20)
    (k : ∀ (p : Addr) (ms : List (List Nat)) (G' H' : Hp), Same G G' → Sees P G' H' → G' p = some (.lst (ms.map sv)) → ms.length ≤ ns.length + 13 → (∀ l ∈ ms, Asc l ∧ l.length ≤ 20) → Q (.ref p) H') : sp_l_filled K [.ref q] H Q E := ⟨P, G, q, ns, rfl, hs, hq, hl, ha, k⟩
theorem yn13 : ∀ j, j < 13 → ([121] ++ dg j).length ≤ 3 ∧ ([121] ++ dg j).all (fun c => decide (c < 127)) = true := by decide +kernel
theorem yn13a {j : Nat} (h : j < 13) : Asc ([121] ++ dg j) := fun c hc => of_decide_eq_true (List.all_eq_true.mp (yn13 j h).2 c hc)
def sp_l_stranger (K : PySem.W.Frag) : Sp := fun vs H Q _ => ∃ (P : Pl) (q : Addr) (ns : List (List Nat)) (G : Hp), vs = [.ref P.p, .ref q] ∧ ns.length ≤ 1000 ∧ (∀ l ∈ ns, Asc l ∧ l.length ≤ 20) ∧ G q = some (.lst (ns.map sv)) ∧ Sees P G H ∧
  ∀ l H', Asc l → l.length ≤ 20 → Sees P G H' → Q (.str (S l)) H'
abbrev N_l_stranger : List Str := ["_law_pool_here", "_law_names_here", "_law_found", "_law_j"]
theorem st_l_stranger {a0 a1 : V} : L2.start N_l_stranger [a0, a1] = [some a0, some a1, none, none] := rfl
def t_l_stranger (K : PySem.W.Frag) : TS :=
  (tSeq ((tAsg ((tOp rAddStr (tC (.str (S [121]))) ((tCall (sp_l_word K) [] E0 ((tCons (tVar 0) ((tCons ((tCall (sp_l_draw K) [] E0 ((tCons (tVar 0) ((tCons (tC (.int 8)) (tNil))))))) (tNil))))))))) (gName 2)))
    ((C8.tCut ((tIfS ((tAnd ((tTest (tOp (rI0 fun i j => .bl (decide (j < i))) ((tCB (rLenS K) ((tCons (tVar 1) (tNil))))) (tC (.int 0))))) ((tTest (tOp rEq ((tCall (sp_l_draw K) [] E0 ((tCons (tVar 0) ((tCons (tC (.int 2)) (tNil))))))) (tC (.int 1))))))) ((tAsg ((tOp rAddStr ((tSl rSlS ((tOp (rIxL K) (tVar 1) ((tCall (sp_l_draw K) [] E0 ((tCons (tVar 0) ((tCons ((tCB (rLenS K) ((tCons (tVar 1) (tNil))))) (tNil))))))))) tNoPart (tPart (tC (.int 7))))) (tC (.str (S [120]))))) (gName 2))) (tNext)))
    ((tSeq ((tFor ((iRng1 ((tCons (tC (.int 13)) (tNil))))) (gName 3) ((tIfS ((tAnd ((tTest (tOp (rIn K false) (tVar 2) (tVar 1)))) ((tTest (tOp (rIn K true) ((tOp rAddStr (tC (.str (S [121]))) ((tCB rStrInt ((tCons (tVar 3) (tNil))))))) (tVar 1)))))) ((tAsg ((tOp rAddStr (tC (.str (S [121]))) ((tCB rStrInt ((tCons (tVar 3) (tNil))))))) (gName 2))) (tNext)))))
    ((tRet (tVar 2))))))))

theorem pure_l_stranger (K : PySem.W.Frag) (vs : List V) (H : Hp) (Q : VK) (E : XK) (h : sp_l_stranger K vs H Q E) : t_l_stranger K { nx := fun _ H' => Q .non H', rt := Q } (L2.start N_l_stranger vs) H := by
  obtain ⟨P, q, ns, G, rfl, hl, hn, hq, hs, k⟩ := h
  have el : (ns.map sv).length = ns.length := List.length_map ..
  rw [st_l_stranger]
  unfold t_l_stranger
  walk_at "st"
  refine c_l_draw hs (by omega) fun d1 H1 a0 a1 hs1 => ?_
  walk_at "st"
  refine c_l_word hs1 (by omega) fun w H2 w0 w1 hs2 => ?_
  walk_at "st"
  have nm1 : Asc ([121] ++ w) ∧ ([121] ++ w).length ≤ 20 := ⟨fun c hc => by
    rcases List.mem_append.mp hc with h | h
    · rw [List.mem_singleton.mp h]; decide
    · rcases w1 c h with h | h <;> omega, by simp; omega⟩
  refine wp_cut (fun σ' H' => ∃ (l : List Nat), σ' = [some (.ref P.p), some (.ref q), some (.str (S l)), none] ∧ (Asc l ∧ l.length ≤ 20) ∧ Sees P G H') ?_ ?_
  · walk_at "st"
    refine ite_dec (fun h1 => ?_) (fun h1 => ?_)
    · walk_at "st"
      refine c_l_draw hs2 (by omega) fun d2 H3 b0 b1 hs3 => ?_
      walk_at "st"
      refine ite_dec (fun h2 => ?_) (fun h2 => ?_)
      · walk_at "st"
        refine c_l_draw hs3 (by omega) fun d3 H4 c0 c1 hs4 => ?_
        walk_at "st"
        refine wp_ixLM (sq_of (hs4.sub _ _ hq)) c0 c1 fun x hx _ => ?_
        obtain ⟨l, hl2, rfl⟩ := List.mem_map.mp hx
        have hnl := hn l hl2
        have hnl2 := hnl.2
        walk_at "st"
        refine wp_addS (a := cutG l none (some 7)) (b := [120]) (by unfold cutG; rw [List.length_take, List.length_drop]; have := hnl.2; simp only [List.length_cons, List.length_nil]; omega) ?_
        walk_at "st"
        refine ⟨_, rfl, ⟨fun y hy => ?_, ?_⟩, hs4⟩
        · unfold cutG at hy
          rcases List.mem_append.mp hy with h | h
          · exact hnl.1 y (List.mem_of_mem_drop (List.mem_of_mem_take h))
          · rw [List.mem_singleton.mp h]; decide
        · have e1 : HT.sIx l.length l.length (some 7) ≤ 7 := by
            unfold HT.sIx
            simp only []
            split <;> omega
          unfold cutG
          rw [List.length_append, List.length_take, List.length_drop]
          simp only [List.length_cons, List.length_nil]
          omega
      · walk_at "st"
        exact ⟨_, rfl, nm1, hs3⟩
    · walk_at "st"
      exact ⟨_, rfl, nm1, hs2⟩
  · rintro σ' H3 ⟨l, rfl, nl, hs3⟩
    walk_at "st"
    refine loop1 (by decide) (fun i σ' H' => ∃ x l, σ' = [some (.ref P.p), some (.ref q), some (.str (S l)), x] ∧ (Asc l ∧ l.length ≤ 20) ∧ H' = H3) ⟨_, l, rfl, nl, rfl⟩ ?_ ?_
    · rintro j σ' H4 hj ⟨x, l, rfl, nl, rfl⟩
      have hj2 : j < 13 := by omega
      walk_at "st"
      refine wp_inSv (sq_of (hs3.sub _ _ hq)) ?_
      walk_at "st"
      refine ite_dec (fun h1 => ?_) (fun h1 => ?_)
      · walk_at "st"
        refine wp_strIntS (by omega) ?_
        refine wp_addS (by have := (yn13 j hj2).1; simp at this ⊢; omega) ?_
        walk_at "st"
        refine wp_notInSv (sq_of (hs3.sub _ _ hq)) ?_
        walk_at "st"
        refine ite_ndec (fun h2 => ?_) (fun h2 => ?_)
        · walk_at "st"
          refine wp_strIntS (by omega) ?_
          refine wp_addS (by have := (yn13 j hj2).1; simp at this ⊢; omega) ?_
          walk_at "st"
          exact ⟨_, [121] ++ dg j, rfl, ⟨yn13a hj2, by have := (yn13 j hj2).1; omega⟩, rfl⟩
        · walk_at "st"
          exact ⟨_, l, rfl, nl, rfl⟩
      · walk_at "st"
        exact ⟨_, l, rfl, nl, rfl⟩
    · rintro σ' H4 ⟨x, l, rfl, nl, rfl⟩
      walk_at "st"
      exact k l _ nl.1 nl.2 hs3
theorem len_l_stranger (K : PySem.W.Frag) (vs : List V) (H : Hp) (Q : VK) (E : XK) (h : sp_l_stranger K vs H Q E) : vs.length = 2 := by
  obtain ⟨P, m, _, G, rfl, _⟩ := h
  rfl
theorem c_l_stranger {K : PySem.W.Frag} {P : Pl} {q : Addr} {ns : List (List Nat)} {G H : Hp} {Q : VK} {E : XK} (hs : Sees P G H) (hl : ns.length ≤ 1000) (hn : ∀ l ∈ ns, Asc l ∧ l.length ≤ 20) (hq : G q = some (.lst (ns.map sv))) (k : ∀ l H', Asc l → l.length ≤ 20 → Sees P G H' → Q (.str (S l)) H') : sp_l_stranger K [.ref P.p, .ref q] H Q E :=
  ⟨P, q, ns, G, rfl, hl, hn, hq, hs, k⟩
def sp_l_bad_span (K : PySem.W.Frag) : Sp := fun vs H Q _ => ∃ (P : Pl) (G : Hp) (T : Int) (q p : Addr) (ns : List (List Nat)) (r : Row) (kd : Int), vs = [.ref P.p, .int T, .ref q, .ref p, .int kd] ∧ Sees P G H ∧ G q = some (.lst (ns.map sv)) ∧ ns.length ≤ 1000 ∧ (∀ l ∈ ns, Asc l ∧ l.length ≤ 20) ∧
  G p = some (.tup (rowV r)) ∧ AscR r ∧ ∀ (b : Addr) (r' : Row) (G' H' : Hp), Same G G' → Sees P G' H' → G' b = some (.tup (rowV r')) → AscR r' → Q (.ref b) H'
abbrev N_l_bad_span : List Str := ["_law_pool_here", "_law_length_here", "_law_names_here", "_law_span_here", "_law_kind", "_law_start", "_law_end", "_law_low", "_law_high", "_law_weight_here"]
theorem st_l_bad_span {a0 a1 a2 a3 a4 : V} : L2.start N_l_bad_span [a0, a1, a2, a3, a4] = [some a0, some a1, some a2, some a3, some a4, none, none, none, none, none] := rfl
def t_l_bad_span (K : PySem.W.Frag) : TS :=
  (tSeq ((tAsg ((tOp (rIxT K) (tVar 3) (tC (.int 0)))) (gName 5)))
    ((tSeq ((tAsg ((tOp (rIxT K) (tVar 3) (tC (.int 1)))) (gName 6)))
    ((tSeq ((tAsg ((tOp (rIxT K) (tVar 3) (tC (.int 2)))) (gName 7)))
    ((tSeq ((tAsg ((tOp (rIxT K) (tVar 3) (tC (.int 3)))) (gName 8)))
    ((tSeq ((tAsg ((tOp (rIxT K) (tVar 3) (tC (.int 4)))) (gName 9)))
    ((C8.tCut ((tIfS ((tTest (tOp rEq (tVar 4) (tC (.int 5))))) ((tAsg ((tCall (sp_l_stranger K) [] E0 ((tCons (tVar 0) ((tCons (tVar 2) (tNil))))))) (gName 5))) (tNext)))
    ((C8.tCut ((tIfS ((tTest (tOp rEq (tVar 4) (tC (.int 6))))) ((tAsg ((tCall (sp_l_stranger K) [] E0 ((tCons (tVar 0) ((tCons (tVar 2) (tNil))))))) (gName 6))) (tNext)))
    ((C8.tCut ((tIfS ((tTest (tOp rEq (tVar 4) (tC (.int 7))))) ((tAsg (tVar 5) (gName 6))) (tNext)))
    ((C8.tCut ((tIfS ((tTest (tOp rEq (tVar 4) (tC (.int 8))))) ((tAsg ((tCall (sp_l_pick K) [] E0 ((tCons (tVar 0) ((tCons ((tLst ((tCons ((tUn (rU fun i => .int (-i)) (tC (.int 1)))) ((tCons (tVar 1) (tNil))))))) (tNil))))))) (gName 7))) (tNext)))
    ((C8.tCut ((tIfS ((tTest (tOp rEq (tVar 4) (tC (.int 9))))) ((tAsg ((tCall (sp_l_pick K) [] E0 ((tCons (tVar 0) ((tCons ((tLst ((tCons ((tOp (rI0 fun i j => .int (i - j)) (tVar 7) (tC (.int 1)))) ((tCons ((tOp (rI0 fun i j => .int (i - j)) ((tOp (rI0 fun i j => .int (i + j)) (tVar 7) (tVar 1))) (tC (.int 2)))) (tNil))))))) (tNil))))))) (gName 8))) (tNext)))
    ((C8.tCut ((tIfS ((tTest (tOp rEq (tVar 4) (tC (.int 10))))) ((tAsg ((tCall (sp_l_pick K) [] E0 ((tCons (tVar 0) ((tCons ((tLst ((tCons ((tUn (rU fun i => .int (-i)) (tC (.int 1)))) ((tCons (tC (.int 100)) (tNil))))))) (tNil))))))) (gName 9))) (tNext)))
    ((tRet ((tTup ((tCons (tVar 5) ((tCons (tVar 6) ((tCons (tVar 7) ((tCons (tVar 8) ((tCons (tVar 9) (tNil))))))))))))))))))))))))))))))))))))

theorem pure_l_bad_span (K : PySem.W.Frag) (vs : List V) (H : Hp) (Q : VK) (E : XK) (h : sp_l_bad_span K vs H Q E) : t_l_bad_span K { nx := fun _ H' => Q .non H', rt := Q } (L2.start N_l_bad_span vs) H := by
  obtain ⟨P, G, T, q, p, ns, r, kd, rfl, hs, hq, hl, ha, hp, ar, k⟩ := h
  rw [st_l_bad_span]
  unfold t_l_bad_span
  have hp1 : H p = some (.tup [sv r.u, sv r.v, .int r.lo, .int r.hi, .int r.w]) := hs.sub _ _ hp
  walk_at "st"
  refine wp_cut (fun σ' H' => ∃ u : List Nat, σ' = [some (.ref P.p), some (.int T), some (.ref q), some (.ref p), some (.int kd), some (sv u), some (sv r.v), some (.int r.lo), some (.int r.hi), some (.int r.w)] ∧ Asc u ∧ Sees P G H') ?_ ?_
  · walk_at "st"
    refine ite_dec (fun h1 => ?_) (fun h1 => ?_)
    · walk_at "st"
      refine c_l_stranger hs hl ha hq fun l H1 la _ hs1 => ?_
      walk_at "st"
      exact ⟨l, rfl, la, hs1⟩
    · walk_at "st"
      exact ⟨r.u, rfl, ar.u, hs⟩
  clear hs hp1
  rintro σ' H1 ⟨u, rfl, au, hs⟩
  refine wp_cut (fun σ' H' => ∃ v : List Nat, σ' = [some (.ref P.p), some (.int T), some (.ref q), some (.ref p), some (.int kd), some (sv u), some (sv v), some (.int r.lo), some (.int r.hi), some (.int r.w)] ∧ Asc v ∧ Sees P G H') ?_ ?_
  · walk_at "st"
    refine ite_dec (fun h1 => ?_) (fun h1 => ?_)
    · walk_at "st"
      refine c_l_stranger hs hl ha hq fun l H1 la _ hs1 => ?_
      walk_at "st"
      exact ⟨l, rfl, la, hs1⟩
    · walk_at "st"
      exact ⟨r.v, rfl, ar.v, hs⟩
  clear hs
  rintro σ' H1 ⟨v0, rfl, av0, hs⟩
  refine wp_cut (fun σ' H' => ∃ v : List Nat, σ' = [some (.ref P.p), some (.int T), some (.ref q), some (.ref p), some (.int kd), some (sv u), some (sv v), some (.int r.lo), some (.int r.hi), some (.int r.w)] ∧ Asc v ∧ Sees P G H') ?_ ?_
  · walk_at "st"
    refine ite_dec (fun h1 => ?_) (fun h1 => ?_)
    · walk_at "st"
      exact ⟨u, rfl, au, hs⟩
    · walk_at "st"
      exact ⟨v0, rfl, av0, hs⟩
  clear hs
  rintro σ' H1 ⟨v, rfl, av, hs⟩
  refine wp_cut (fun σ' H' => ∃ lo : Int, σ' = [some (.ref P.p), some (.int T), some (.ref q), some (.ref p), some (.int kd), some (sv u), some (sv v), some (.int lo), some (.int r.hi), some (.int r.w)] ∧ Sees P G H') ?_ ?_
  · walk_at "st"
    refine ite_dec (fun h1 => ?_) (fun h1 => ?_)
    · walk_at "st"
      refine ⟨by simp [sizeLine_eq], fun b hb => ?_⟩
      walk_at "st"
      refine c_l_pick [-1, T] hs hb (by simp) fun n H2 hs2 => ?_
      walk_at "st"
      exact ⟨n, rfl, hs2⟩
    · walk_at "st"
      exact ⟨_, rfl, hs⟩
  clear hs
  rintro σ' H1 ⟨lo, rfl, hs⟩
  refine wp_cut (fun σ' H' => ∃ hi : Int, σ' = [some (.ref P.p), some (.int T), some (.ref q), some (.ref p), some (.int kd), some (sv u), some (sv v), some (.int lo), some (.int hi), some (.int r.w)] ∧ Sees P G H') ?_ ?_
  · walk_at "st"
    refine ite_dec (fun h1 => ?_) (fun h1 => ?_)
    · walk_at "st"
      refine ⟨by simp [sizeLine_eq], fun b hb => ?_⟩
      walk_at "st"
      refine c_l_pick [lo - 1, lo + T - 2] hs hb (by simp) fun n H2 hs2 => ?_
      walk_at "st"
      exact ⟨n, rfl, hs2⟩
    · walk_at "st"
      exact ⟨_, rfl, hs⟩
  clear hs
  rintro σ' H1 ⟨hi, rfl, hs⟩
  refine wp_cut (fun σ' H' => ∃ w : Int, σ' = [some (.ref P.p), some (.int T), some (.ref q), some (.ref p), some (.int kd), some (sv u), some (sv v), some (.int lo), some (.int hi), some (.int w)] ∧ Sees P G H') ?_ ?_
  · walk_at "st"
    refine ite_dec (fun h1 => ?_) (fun h1 => ?_)
    · walk_at "st"
      refine ⟨by simp [sizeLine_eq], fun b hb => ?_⟩
      walk_at "st"
      refine c_l_pick [-1, 100] hs hb (by decide) fun n H2 hs2 => ?_
      walk_at "st"
      exact ⟨n, rfl, hs2⟩
    · walk_at "st"
      exact ⟨_, rfl, hs⟩
  clear hs
  rintro σ' H1 ⟨w, rfl, hs⟩
  walk_at "st"
  refine ⟨by simp [sizeLine_eq], fun b hb => ?_⟩
  have e : HO.tup [sv u, sv v, .int lo, .int hi, .int w] = .tup (rowV ⟨u, v, lo, hi, w⟩) := rfl
  rw [e]
  exact k b ⟨u, v, lo, hi, w⟩ _ _ (Same.new (hs.fresh hb).1) (hs.new hb) upd_same ⟨au, av⟩
theorem len_l_bad_span (K : PySem.W.Frag) (vs : List V) (H : Hp) (Q : VK) (E : XK) (h : sp_l_bad_span K vs H Q E) : vs.length = 5 := by
  obtain ⟨_, _, _, _, _, _, _, _, rfl, _⟩ := h
  rfl
theorem c_l_bad_span {K : PySem.W.Frag} {P : Pl} {G H : Hp} {T : Int} {q : Addr} {x : V} {ns : List (List Nat)} {r : Row} {kd : Int} {Q : VK} {E : XK} (hs : Sees P G H) (hq : G q = some (.lst (ns.map sv))) (hl : ns.length ≤ 1000) (ha : ∀ l ∈ ns, Asc l ∧ l.length ≤ 20) (hx : IsRow G x r) (ar : AscR r)
    (k : ∀ (b : Addr) (r' : Row) (G' H' : Hp), Same G G' → Sees P G' H' → G' b = some (.tup (rowV r')) → AscR r' → Q (.ref b) H') : sp_l_bad_span K [.ref P.p, .int T, .ref q, x, .int kd] H Q E := by
  obtain ⟨p, rfl, hp⟩ := hx
  exact ⟨P, G, T, q, p, ns, r, kd, rfl, hs, hq, hl, ha, hp, ar, k⟩
/-- a net of the law: [T, names, spans], at most m of each -/
def Gd (G : Hp) (x : V) (m : Nat) (T : Int) (ns : List (List Nat)) (rs : List Row) : Prop := ∃ (p a b : Addr) (ss : List V), x = .ref p ∧ G p = some (.lst [.int T, .ref a, .ref b]) ∧ G a = some (.lst (ns.map sv)) ∧ G b = some (.lst ss) ∧ Rws G ss rs ∧
  (∀ l ∈ ns, Asc l ∧ l.length ≤ 20) ∧ (∀ r ∈ rs, AscR r) ∧ ns.length ≤ m ∧ rs.length ≤ m
theorem Gd.mono {G G' : Hp} {x : V} {m m' : Nat} {T : Int} {ns : List (List Nat)} {rs : List Row} (s : Same G G') (e : m ≤ m') (h : Gd G x m T ns rs) : Gd G' x m' T ns rs := by
  obtain ⟨p, a, b, ss, h1, h2, h3, h4, h5, h6, h7, h8, h9⟩ := h
  exact ⟨p, a, b, ss, h1, s _ _ h2, s _ _ h3, s _ _ h4, h5.mono s, h6, h7, by omega, by omega⟩
theorem Gd.mk' {P : Pl} {G H : Hp} {p a b : Addr} {m : Nat} {T : Int} {ns : List (List Nat)} {ss : List V} {rs : List Row} (hs : Sees P G H) (hp : H p = none) (ha : G a = some (.lst (ns.map sv))) (hb : G b = some (.lst ss)) (hr : Rws G ss rs) (h1 : ∀ l ∈ ns, Asc l ∧ l.length ≤ 20) (h2 : ∀ r ∈ rs, AscR r) (h3 : ns.length ≤ m) (h4 : rs.length ≤ m) :
    ∃ G', Same G G' ∧ Sees P G' (upd H p (.lst [.int T, .ref a, .ref b])) ∧ Gd G' (.ref p) m T ns rs := by
  obtain ⟨G', s, e, g⟩ := hs.new' (.lst [.int T, .ref a, .ref b]) hp
  exact ⟨G', e, s, p, a, b, ss, rfl, g, e _ _ ha, e _ _ hb, hr.mono e, h1, h2, h3, h4⟩
def sp_l_spoilt (K : PySem.W.Frag) : Sp := fun vs H Q _ => ∃ (P : Pl) (G : Hp) (T0 T : Int) (x : V) (m : Nat) (ns : List (List Nat)) (rs : List Row), vs = [.ref P.p, .int T0, x] ∧ Sees P G H ∧ Gd G x m T ns rs ∧ m ≤ 500 ∧
  ∀ (y : V) (T' : Int) (ns' : List (List Nat)) (rs' : List Row) (G' H' : Hp), Same G G' → Sees P G' H' → Gd G' y (m + 40) T' ns' rs' → Q y H'
abbrev N_l_spoilt : List Str := ["_law_pool_here", "_law_length_here", "_law_net", "_law_kind", "_law_names_here", "_law_spans_here", "_law_at", "_law_more", "_law_k"]
theorem st_l_spoilt {a0 a1 a2 : V} : L2.start N_l_spoilt [a0, a1, a2] = [some a0, some a1, some a2, none, none, none, none, none, none] := rfl
def t_l_spoilt (K : PySem.W.Frag) : TS :=
  (tSeq ((tAsg ((tCall (sp_l_draw K) [] E0 ((tCons (tVar 0) ((tCons (tC (.int 11)) (tNil))))))) (gName 3)))
    ((tSeq ((tAsg ((tOp (rIxL K) (tVar 2) (tC (.int 1)))) (gName 4)))
    ((tSeq ((tAsg ((tOp (rIxL K) (tVar 2) (tC (.int 2)))) (gName 5)))
    ((tSeq ((tIfS ((tTest (tOp rEq (tVar 3) (tC (.int 0))))) ((tRet ((tLst ((tCons ((tCall (sp_l_pick K) [] E0 ((tCons (tVar 0) ((tCons ((tLst ((tCons (tC (.int 2)) ((tCons (tC (.int 121)) ((tCons (tC (.int 0)) ((tCons ((tUn (rU fun i => .int (-i)) (tC (.int 1)))) (tNil))))))))))) (tNil))))))) ((tCons (tVar 4) ((tCons (tVar 5) (tNil))))))))))) (tNext)))
    ((tSeq ((tIfS ((tTest (tOp rEq (tVar 3) (tC (.int 1))))) ((tRet ((tLst ((tCons ((tOp (rIxL K) (tVar 2) (tC (.int 0)))) ((tCons ((tCall (sp_l_filled K) [] E0 ((tCons (tVar 4) (tNil))))) ((tCons (tVar 5) (tNil))))))))))) (tNext)))
    ((tSeq ((tIfS ((tOr ((tTest (tOp rEq (tVar 3) (tC (.int 2))))) ((tTest (tOp rEq (tVar 3) (tC (.int 3))))))) ((tSeq ((tAsg ((tCall (sp_l_draw K) [] E0 ((tCons (tVar 0) ((tCons ((tOp (rI0 fun i j => .int (i + j)) ((tCB (rLenS K) ((tCons (tVar 4) (tNil))))) (tC (.int 1)))) (tNil))))))) (gName 6)))
    ((tSeq ((tIfS ((tAnd ((tTest (tOp rEq (tVar 3) (tC (.int 3))))) ((tTest (tOp (rI0 fun i j => .bl (decide (j < i))) ((tCB (rLenS K) ((tCons (tVar 4) (tNil))))) (tC (.int 0))))))) ((tRet ((tLst ((tCons ((tOp (rIxL K) (tVar 2) (tC (.int 0)))) ((tCons ((tOp rCat ((tOp rCat ((tSl (rSlL K) (tVar 4) tNoPart (tPart (tVar 6)))) ((tLst ((tCons ((tOp (rIxL K) (tVar 4) ((tCall (sp_l_draw K) [] E0 ((tCons (tVar 0) ((tCons ((tCB (rLenS K) ((tCons (tVar 4) (tNil))))) (tNil))))))))) (tNil))))))) ((tSl (rSlL K) (tVar 4) (tPart (tVar 6)) tNoPart)))) ((tCons (tVar 5) (tNil))))))))))) (tNext)))
    ((tRet ((tLst ((tCons ((tOp (rIxL K) (tVar 2) (tC (.int 0)))) ((tCons ((tOp rCat ((tOp rCat ((tSl (rSlL K) (tVar 4) tNoPart (tPart (tVar 6)))) ((tLst ((tCons ((tCall (sp_l_odd K) [] E0 ((tCons (tVar 0) (tNil))))) (tNil))))))) ((tSl (rSlL K) (tVar 4) (tPart (tVar 6)) tNoPart)))) ((tCons (tVar 5) (tNil))))))))))))))) (tNext)))
    ((tSeq ((tIfS ((tTest (tOp rEq ((tCB (rLenS K) ((tCons (tVar 5) (tNil))))) (tC (.int 0))))) ((tRet (tVar 2))) (tNext)))
    ((tSeq ((tIfS ((tTest (tOp rEq (tVar 3) (tC (.int 4))))) ((tSeq ((tAsg ((tCB (rListS K) ((tCons (tVar 5) (tNil))))) (gName 7)))
    ((tSeq ((tFor ((iRng1 ((tCons (tC (.int 24)) (tNil))))) (gName 8) ((tIfS ((tTest (tOp (rI0 fun i j => .bl (decide (i < j))) ((tCB (rLenS K) ((tCons (tVar 7) (tNil))))) (tC (.int 25))))) ((tDrop ((tBM K "list" rAppend (tVar 7) ((tCons ((tOp (rIxL K) (tVar 5) ((tOp (rI (fun _ j => 0 < j) fun i j => .int (i % j)) ((tCB rInt1 ((tCons (tVar 8) (tNil))))) ((tCB (rLenS K) ((tCons (tVar 5) (tNil))))))))) (tNil))))))) (tNext)))))
    ((tRet ((tLst ((tCons ((tOp (rIxL K) (tVar 2) (tC (.int 0)))) ((tCons (tVar 4) ((tCons (tVar 7) (tNil))))))))))))))) (tNext)))
    ((tSeq ((tAsg ((tCall (sp_l_draw K) [] E0 ((tCons (tVar 0) ((tCons ((tCB (rLenS K) ((tCons (tVar 5) (tNil))))) (tNil))))))) (gName 6)))
    ((tRet ((tLst ((tCons ((tOp (rIxL K) (tVar 2) (tC (.int 0)))) ((tCons (tVar 4) ((tCons ((tOp rCat ((tOp rCat ((tSl (rSlL K) (tVar 5) tNoPart (tPart (tVar 6)))) ((tLst ((tCons ((tCall (sp_l_bad_span K) [] E0 ((tCons (tVar 0) ((tCons (tVar 1) ((tCons (tVar 4) ((tCons ((tOp (rIxL K) (tVar 5) (tVar 6))) ((tCons (tVar 3) (tNil))))))))))))) (tNil))))))) ((tSl (rSlL K) (tVar 5) (tPart ((tOp (rI0 fun i j => .int (i + j)) (tVar 6) (tC (.int 1))))) tNoPart)))) (tNil))))))))))))))))))))))))))))

theorem pure_l_spoilt (K : PySem.W.Frag) (vs : List V) (H : Hp) (Q : VK) (E : XK) (h : sp_l_spoilt K vs H Q E) : t_l_spoilt K { nx := fun _ H' => Q .non H', rt := Q } (L2.start N_l_spoilt vs) H := by
  obtain ⟨P, G, T0, T, x, m, ns, rs, rfl, hs, gd, hm, k⟩ := h
  have gd0 := gd
  obtain ⟨p, a, b, ss, rfl, hp, ha, hb, hr, hn, har, f1, f2⟩ := gd
  have el : (ns.map sv).length = ns.length := List.length_map ..
  have er := hr.len
  rw [st_l_spoilt]
  unfold t_l_spoilt
  walk_at "st"
  refine c_l_draw hs (by decide) fun kd H1 k0 k1 hs1 => ?_
  have hp1 := hs1.sub _ _ hp
  have ha1 := hs1.sub _ _ ha
  have hb1 := hs1.sub _ _ hb
  walk_at "st"
  refine ite_dec (fun h1 => ?_) (fun h1 => ?_)
  · walk_at "st"
    refine ⟨by simp [sizeLine_eq], fun v hv => ?_⟩
    walk_at "st"
    refine c_l_pick [2, 121, 0, -1] hs1 hv (by decide) fun n H2 hs2 => ?_
    walk_at "st"
    refine ⟨by simp [sizeLine_eq], fun z hz => ?_⟩
    obtain ⟨G', s, e, g⟩ := Gd.mk' (T := n) (m := m + 40) hs2 hz ha hb hr hn har (by omega) (by omega)
    exact k _ _ _ _ _ _ s e g
  walk_at "st"
  refine ite_dec (fun h2 => ?_) (fun h2 => ?_)
  · walk_at "st"
    refine c_l_filled hs1 ha (by omega) hn fun q ms G2 H2 s2 hs2 hq hl hb2 => ?_
    walk_at "st"
    refine ⟨by simp [sizeLine_eq], fun z hz => ?_⟩
    obtain ⟨G', s, e, g⟩ := Gd.mk' (T := T) (m := m + 40) hs2 hz hq (s2 _ _ hb) (hr.mono s2) hb2 har (by omega) (by omega)
    exact k _ _ _ _ _ _ (s2.trans s) e g
  walk_at "st"
  refine ite_dec (fun h3 => ?_) (fun h3 => ?_)
  · walk_at "st"
    refine c_l_draw hs1 (by omega) fun at_ H2 a0 a1 hs2 => ?_
    have hp2 := hs2.sub _ _ hp
    walk_at "st"
    refine wp_sliceL (sq_of (hs2.sub _ _ ha)) fun q1 w1 => ?_
    obtain ⟨A1, t1, e1, g1⟩ := hs2.new' (.lst (cutG (ns.map sv) none (some at_))) w1
    walk_at "st"
    refine c_l_odd t1 fun l H3 la ll hs3 => ?_
    walk_at "st"
    refine ⟨by simp [sizeLine_eq], fun q2 w2 => ?_⟩
    obtain ⟨A2, t2, e2, g2⟩ := hs3.new' (.lst [.str (S l)]) w2
    walk_at "st"
    refine wp_cat (t2.sub _ _ (e2 _ _ g1)) upd_same (by rw [cutG_to1 a0 (by omega)]; simp; omega) fun q3 w3 => ?_
    obtain ⟨A3, t3, e3, g3⟩ := t2.new' (.lst (cutG (ns.map sv) none (some at_) ++ [.str (S l)])) w3
    have e13 := (e1.trans e2).trans e3
    walk_at "st"
    refine wp_sliceL (sq_of (t3.sub _ _ (e13 _ _ ha))) fun q4 w4 => ?_
    obtain ⟨A4, t4, e4, g4⟩ := t3.new' (.lst (cutG (ns.map sv) (some at_) none)) w4
    walk_at "st"
    refine wp_cat (t4.sub _ _ (e4 _ _ g3)) upd_same (by rw [cutG_to1 a0 (by omega), cutG_from1 a0 (by omega)]; simp; omega) fun q5 w5 => ?_
    have el5 : cutG (ns.map sv) none (some at_) ++ [V.str (S l)] ++ cutG (ns.map sv) (some at_) none = (ns.take at_.toNat ++ [l] ++ ns.drop at_.toNat).map sv := by
      rw [cutG_to1 a0 (by omega), cutG_from1 a0 (by omega), List.map_append, List.map_append, List.map_take, List.map_drop]
      rfl
    rw [el5]
    obtain ⟨A5, t5, e5, g5⟩ := t4.new' (.lst ((ns.take at_.toNat ++ [l] ++ ns.drop at_.toNat).map sv)) w5
    have e15 := (e13.trans e4).trans e5
    walk_at "st"
    refine ⟨by simp [sizeLine_eq], fun z hz => ?_⟩
    obtain ⟨G', s, e, g⟩ := Gd.mk' (T := T) (m := m + 40) t5 hz g5 (e15 _ _ hb) (hr.mono e15) (fun l' hl' => by
      rcases mem_cut hl' with h | h
      · exact hn l' h
      · rw [List.mem_singleton.mp h]; exact ⟨la, ll⟩) har (by simp only [List.length_append, List.length_take, List.length_drop, List.length_cons, List.length_nil]; omega) (by omega)
    exact k _ _ _ _ _ _ (e15.trans s) e g
  walk_at "st"
  refine ite_dec (fun h4 => ?_) (fun h4 => ?_)
  · walk_at "st"
    refine c_l_draw hs1 (by omega) fun at_ H2 a0 a1 hs2 => ?_
    have hp2 := hs2.sub _ _ hp
    have ha2 := hs2.sub _ _ ha
    walk_at "st"
    refine ite_dec (fun h5 => ?_) (fun h5 => ?_)
    · walk_at "st"
      refine wp_sliceL (sq_of (hs2.sub _ _ ha)) fun q1 w1 => ?_
      obtain ⟨A1, t1, e1, g1⟩ := hs2.new' (.lst (cutG (ns.map sv) none (some at_))) w1
      walk_at "st"
      refine wp_lenL (sq_of (t1.sub _ _ (e1 _ _ ha))) ?_
      walk_at "st"
      refine c_l_draw t1 (by omega) fun d2 H3 d0 d1 hs3 => ?_
      walk_at "st"
      refine wp_ixLM (sq_of (hs3.sub _ _ (e1 _ _ ha))) d0 (by omega) fun x hx _ => ?_
      obtain ⟨l, hl, rfl⟩ := List.mem_map.mp hx
      obtain ⟨la, ll⟩ := hn l hl
      walk_at "st"
      refine ⟨by simp [sizeLine_eq], fun q2 w2 => ?_⟩
      obtain ⟨A2, t2, e2, g2⟩ := hs3.new' (.lst [.str (S l)]) w2
      walk_at "st"
      refine wp_cat (t2.sub _ _ (e2 _ _ g1)) upd_same (by rw [cutG_to1 a0 (by omega)]; simp; omega) fun q3 w3 => ?_
      obtain ⟨A3, t3, e3, g3⟩ := t2.new' (.lst (cutG (ns.map sv) none (some at_) ++ [.str (S l)])) w3
      have e13 := (e1.trans e2).trans e3
      walk_at "st"
      refine wp_sliceL (sq_of (t3.sub _ _ (e13 _ _ ha))) fun q4 w4 => ?_
      obtain ⟨A4, t4, e4, g4⟩ := t3.new' (.lst (cutG (ns.map sv) (some at_) none)) w4
      walk_at "st"
      refine wp_cat (t4.sub _ _ (e4 _ _ g3)) upd_same (by rw [cutG_to1 a0 (by omega), cutG_from1 a0 (by omega)]; simp; omega) fun q5 w5 => ?_
      have el5 : cutG (ns.map sv) none (some at_) ++ [V.str (S l)] ++ cutG (ns.map sv) (some at_) none = (ns.take at_.toNat ++ [l] ++ ns.drop at_.toNat).map sv := by
        rw [cutG_to1 a0 (by omega), cutG_from1 a0 (by omega), List.map_append, List.map_append, List.map_take, List.map_drop]
        rfl
      rw [el5]
      obtain ⟨A5, t5, e5, g5⟩ := t4.new' (.lst ((ns.take at_.toNat ++ [l] ++ ns.drop at_.toNat).map sv)) w5
      have e15 := (e13.trans e4).trans e5
      walk_at "st"
      refine ⟨by simp [sizeLine_eq], fun z hz => ?_⟩
      obtain ⟨G', s, e, g⟩ := Gd.mk' (T := T) (m := m + 40) t5 hz g5 (e15 _ _ hb) (hr.mono e15) (fun l' hl' => by
        rcases mem_cut hl' with h | h
        · exact hn l' h
        · rw [List.mem_singleton.mp h]; exact ⟨la, ll⟩) har (by simp only [List.length_append, List.length_take, List.length_drop, List.length_cons, List.length_nil]; omega) (by omega)
      exact k _ _ _ _ _ _ (e15.trans s) e g
    · walk_at "st"
      refine wp_sliceL (sq_of (hs2.sub _ _ ha)) fun q1 w1 => ?_
      obtain ⟨A1, t1, e1, g1⟩ := hs2.new' (.lst (cutG (ns.map sv) none (some at_))) w1
      walk_at "st"
      refine c_l_odd t1 fun l H3 la ll hs3 => ?_
      walk_at "st"
      refine ⟨by simp [sizeLine_eq], fun q2 w2 => ?_⟩
      obtain ⟨A2, t2, e2, g2⟩ := hs3.new' (.lst [.str (S l)]) w2
      walk_at "st"
      refine wp_cat (t2.sub _ _ (e2 _ _ g1)) upd_same (by rw [cutG_to1 a0 (by omega)]; simp; omega) fun q3 w3 => ?_
      obtain ⟨A3, t3, e3, g3⟩ := t2.new' (.lst (cutG (ns.map sv) none (some at_) ++ [.str (S l)])) w3
      have e13 := (e1.trans e2).trans e3
      walk_at "st"
      refine wp_sliceL (sq_of (t3.sub _ _ (e13 _ _ ha))) fun q4 w4 => ?_
      obtain ⟨A4, t4, e4, g4⟩ := t3.new' (.lst (cutG (ns.map sv) (some at_) none)) w4
      walk_at "st"
      refine wp_cat (t4.sub _ _ (e4 _ _ g3)) upd_same (by rw [cutG_to1 a0 (by omega), cutG_from1 a0 (by omega)]; simp; omega) fun q5 w5 => ?_
      have el5 : cutG (ns.map sv) none (some at_) ++ [V.str (S l)] ++ cutG (ns.map sv) (some at_) none = (ns.take at_.toNat ++ [l] ++ ns.drop at_.toNat).map sv := by
        rw [cutG_to1 a0 (by omega), cutG_from1 a0 (by omega), List.map_append, List.map_append, List.map_take, List.map_drop]
        rfl
      rw [el5]
      obtain ⟨A5, t5, e5, g5⟩ := t4.new' (.lst ((ns.take at_.toNat ++ [l] ++ ns.drop at_.toNat).map sv)) w5
      have e15 := (e13.trans e4).trans e5
      walk_at "st"
      refine ⟨by simp [sizeLine_eq], fun z hz => ?_⟩
      obtain ⟨G', s, e, g⟩ := Gd.mk' (T := T) (m := m + 40) t5 hz g5 (e15 _ _ hb) (hr.mono e15) (fun l' hl' => by
        rcases mem_cut hl' with h | h
        · exact hn l' h
        · rw [List.mem_singleton.mp h]; exact ⟨la, ll⟩) har (by simp only [List.length_append, List.length_take, List.length_drop, List.length_cons, List.length_nil]; omega) (by omega)
      exact k _ _ _ _ _ _ (e15.trans s) e g
  walk_at "st"
  refine ite_dec (fun h5 => ?_) (fun h5 => ?_)
  · walk_at "st"
    exact k _ _ _ _ _ _ (Same.refl _) hs1 (gd0.mono (Same.refl _) (by omega))
  walk_at "st"
  refine ite_dec (fun h6 => ?_) (fun h6 => ?_)
  · walk_at "st"
    refine wp_listL (sq_of (hs1.sub _ _ hb)) fun L hL => ?_
    obtain ⟨gL, nL⟩ := hs1.fresh hL
    walk_at "st"
    refine loop1 (by decide) (fun i σ' H' => ∃ x, ∃ (zs : List V) (qs : List Row), σ' = [some (.ref P.p), some (.int T0), some (.ref p), some (.int kd), some (.ref a), some (.ref b), none, some (.ref L), x] ∧ Lcl P L zs G H' ∧ Rws G zs qs ∧ qs.length ≤ m + 25 ∧ (∀ r ∈ qs, AscR r)) ⟨_, ss, rs, rfl, ⟨hs1.set gL nL, upd_same, gL, nL⟩, hr, by omega, har⟩ ?_ ?_
    · rintro i σ' H' hi ⟨x, zs, qs, rfl, lc, hz, hm2, hb2⟩
      have ez := hz.len
      have hLL := lc.h
      have hb3 := lc.s.sub _ _ hb
      walk_at "st"
      refine ite_dec (fun h7 => ?_) (fun h7 => ?_)
      · walk_at "st"
        refine wp_ixLM (sq_of hb3) (Int.emod_nonneg _ (by omega)) (Int.emod_lt_of_pos _ (by omega)) fun y hy hy2 => ?_
        walk_at "st"
        refine wp_append lc.h (by omega) ?_
        walk_at "st"
        obtain ⟨r, hr1, hr2⟩ := hr.at hy2
        refine ⟨_, zs ++ [y], qs ++ [r], rfl, lc.put, hz.app (.cons hr2 .nil), by simp; omega, fun r' hr' => ?_⟩
        rcases List.mem_append.mp hr' with h | h
        · exact hb2 r' h
        · rw [List.mem_singleton.mp h]
          exact har r (List.mem_of_getElem? hr1)
      · walk_at "st"
        exact ⟨_, zs, qs, rfl, lc, hz, hm2, hb2⟩
    · rintro σ' H' ⟨x, zs, qs, rfl, lc, hz, hm2, hb2⟩
      have hp3 := lc.s.sub _ _ hp
      walk_at "st"
      refine ⟨by simp [sizeLine_eq], fun z hz3 => ?_⟩
      have s0 := Same.new (o := .lst zs) lc.g
      obtain ⟨G', s, e, g⟩ := Gd.mk' (T := T) (m := m + 40) lc.in_ hz3 (s0 _ _ ha) upd_same (hz.mono s0) hn hb2 (by omega) (by omega)
      exact k _ _ _ _ _ _ (s0.trans s) e g
  walk_at "st"
  refine c_l_draw hs1 (by omega) fun at_ H2 a0 a1 hs2 => ?_
  have hp2 := hs2.sub _ _ hp
  walk_at "st"
  refine wp_sliceL (sq_of (hs2.sub _ _ hb)) fun q1 w1 => ?_
  rw [cutG_to1 a0 (by omega)]
  obtain ⟨A1, t1, e1, g1⟩ := hs2.new' (.lst (ss.take at_.toNat)) w1
  walk_at "st"
  refine wp_ixLM (sq_of (t1.sub _ _ (e1 _ _ hb))) a0 (by omega) fun y hy hy2 => ?_
  obtain ⟨r, hr1, hr2⟩ := hr.at hy2
  walk_at "st"
  refine c_l_bad_span t1 (e1 _ _ ha) (by omega) hn (hr2.mono e1) (har r (List.mem_of_getElem? hr1)) fun c r' A2 H3 e2 t2 gc ar' => ?_
  walk_at "st"
  refine ⟨by simp [sizeLine_eq], fun q3 w3 => ?_⟩
  obtain ⟨A3, t3, e3, g3⟩ := t2.new' (.lst [.ref c]) w3
  walk_at "st"
  refine wp_cat (t3.sub _ _ (e3 _ _ (e2 _ _ g1))) upd_same (by rw [List.length_take]; simp; omega) fun q4 w4 => ?_
  obtain ⟨A4, t4, e4, g4⟩ := t3.new' (.lst (ss.take at_.toNat ++ [.ref c])) w4
  have e14 := ((e1.trans e2).trans e3).trans e4
  walk_at "st"
  refine wp_sliceL (sq_of (t4.sub _ _ (e14 _ _ hb))) fun q5 w5 => ?_
  rw [cutG_from1 (by omega) (by omega)]
  obtain ⟨A5, t5, e5, g5⟩ := t4.new' (.lst (ss.drop (at_ + 1).toNat)) w5
  walk_at "st"
  refine wp_cat (t5.sub _ _ (e5 _ _ g4)) upd_same (by rw [List.length_append, List.length_take, List.length_drop]; simp; omega) fun q6 w6 => ?_
  obtain ⟨A6, t6, e6, g6⟩ := t5.new' (.lst (ss.take at_.toNat ++ [.ref c] ++ ss.drop (at_ + 1).toNat)) w6
  have e16 := (e14.trans e5).trans e6
  walk_at "st"
  refine ⟨by simp [sizeLine_eq], fun z hz => ?_⟩
  have rr : Rws A6 (ss.take at_.toNat ++ [.ref c] ++ ss.drop (at_ + 1).toNat) (rs.take at_.toNat ++ [r'] ++ rs.drop (at_ + 1).toNat) :=
    (((hr.mono e16).take _).app (.cons ⟨c, rfl, ((e3.trans e4).trans (e5.trans e6)) _ _ gc⟩ .nil)).app ((hr.mono e16).drop _)
  obtain ⟨G', s, e, g⟩ := Gd.mk' (T := T) (m := m + 40) t6 hz (e16 _ _ ha) g6 rr hn (fun r2 hr' => by
    rcases mem_cut hr' with h | h
    · exact har r2 h
    · rw [List.mem_singleton.mp h]; exact ar') (by omega) (by simp only [List.length_append, List.length_take, List.length_drop, List.length_cons, List.length_nil]; omega)
  exact k _ _ _ _ _ _ (e16.trans s) e g
theorem len_l_spoilt (K : PySem.W.Frag) (vs : List V) (H : Hp) (Q : VK) (E : XK) (h : sp_l_spoilt K vs H Q E) : vs.length = 3 := by
  obtain ⟨_, _, _, _, _, _, _, _, rfl, _⟩ := h
  rfl
theorem c_l_spoilt {K : PySem.W.Frag} {P : Pl} {G H : Hp} {T0 T : Int} {x : V} {m : Nat} {ns : List (List Nat)} {rs : List Row} {Q : VK} {E : XK} (hs : Sees P G H) (gd : Gd G x m T ns rs) (hm : m ≤ 500)
    (k : ∀ (y : V) (T' : Int) (ns' : List (List Nat)) (rs' : List Row) (G' H' : Hp), Same G G' → Sees P G' H' → Gd G' y (m + 40) T' ns' rs' → Q y H') : sp_l_spoilt K [.ref P.p, .int T0, x] H Q E := ⟨P, G, T0, T, x, m, ns, rs, rfl, hs, gd, hm, k⟩
def fnd (c : Nat) : Int := Txt.find (S Z36) (S [c])
theorem fnd_ld {c : Nat} (h : c < 127) : 0 ≤ fnd c ↔ LD c := (by decide +kernel : ∀ c, c < 127 → (0 ≤ fnd c ↔ LD c)) c h
theorem fnd_lt {c : Nat} (h : c < 127) : (0 ≤ fnd c ∧ fnd c < 26) ↔ LT c := (by decide +kernel : ∀ c, c < 127 → ((0 ≤ fnd c ∧ fnd c < 26) ↔ LT c)) c h
def sp_l_valid (K : PySem.W.Frag) : Sp := fun vs H Q _ => ∃ (l : List Nat), vs = [.str (S l)] ∧ l.length ≤ 100 ∧ (∀ c ∈ l, c < 127) ∧ ∀ H', Same H H' → Q (.bl (isNm l)) H'
abbrev N_l_valid : List Str := ["_law_text", "_law_order", "_law_places", "_law_sign_here"]
theorem st_l_valid {a0 : V} : L2.start N_l_valid [a0] = [some a0, none, none, none] := rfl
def t_l_valid (K : PySem.W.Frag) : TS :=
  (tSeq ((tAsg (tC (.str (S Z36))) (gName 1)))
    ((tSeq ((tAsg (tLc ((iStr (tVar 0))) ((gName 3)) (tYes) ((tBM K "str" rFind (tVar 1) ((tCons (tVar 3) (tNil))))) [3]) (gName 2)))
    ((tSeq ((tIfS ((tOr ((tTest (tOp (rI0 fun i j => .bl (decide (i < j))) ((tCB (rLenS K) ((tCons (tVar 2) (tNil))))) (tC (.int 1))))) ((tTest (tOp (rI0 fun i j => .bl (decide (j < i))) ((tCB (rLenS K) ((tCons (tVar 2) (tNil))))) (tC (.int 8))))))) ((tRet (tC (.bl false)))) (tNext)))
    ((tRet ((tAndV ((tOp (rI0 fun i j => .bl (decide (j ≤ i))) ((tCB (rMin K) ((tCons (tVar 2) (tNil))))) (tC (.int 0)))) ((tOp (rI0 fun i j => .bl (decide (i < j))) ((tOp (rIxL K) (tVar 2) (tC (.int 0)))) (tC (.int 26)))))))))))))

theorem pure_l_valid (K : PySem.W.Frag) (vs : List V) (H : Hp) (Q : VK) (E : XK) (h : sp_l_valid K vs H Q E) : t_l_valid K { nx := fun _ H' => Q .non H', rt := Q } (L2.start N_l_valid vs) H := by
  obtain ⟨l, rfl, hl, hc, k⟩ := h
  rw [st_l_valid]
  unfold t_l_valid
  walk_at "st"
  refine lcMapS (by omega) (fun x => [some (.str (S l)), some (.str (S Z36)), none, some x]) (fun x => ⟨rfl, rfl⟩) (fun c => .int (fnd c)) (fun c H2 hxm _ R hR => ?_) (fun D H2 hD s2 hD2 => ?_)
  · walk_at "st"
    exact hR _ (Same.refl _)
  have hD3 : H2 D = some (.lst ((l.map fnd).map V.int)) := by rw [List.map_map]; exact hD2
  have e1 : ((l.map fun c => V.int (fnd c)).length : Int) = l.length := by rw [List.length_map]
  have e2 : (((l.map fnd).map V.int).length : Int) = l.length := by rw [List.length_map, List.length_map]
  walk_at "st"
  refine ite_dec (fun h => ?_) (fun h => ?_)
  · walk_at "st"
    have e : isNm l = false := by
      unfold isNm
      rw [decide_eq_false (by omega : ¬ 1 ≤ l.length)]
      rfl
    have z := k H2 s2
    rw [e] at z
    exact z
  · walk_at "st"
    refine ite_dec (fun h2 => ?_) (fun h2 => ?_)
    · walk_at "st"
      have e : isNm l = false := by
        unfold isNm
        rw [decide_eq_false (by omega : ¬ l.length ≤ 8), Bool.false_and, Bool.and_false]
      have z := k H2 s2
      rw [e] at z
      exact z
    · walk_at "st"
      refine wp_minL (sq_of hD3) (by rw [List.length_map]; omega) fun m hm hmin => ?_
      walk_at "st"
      cases l with
      | nil => exact absurd h (by simp)
      | cons c r =>
        have hlen : decide (1 ≤ (c :: r).length) = true := by simp
        have hlen2 : decide ((c :: r).length ≤ 8) = true := by rw [decide_eq_true_eq]; omega
        refine ite_dec (fun h3 => ?_) (fun h3 => ?_)
        · walk_at "st"
          have e : decide (fnd c < 26) = isNm (c :: r) := by
            have ha : ((c :: r).all fun c => decide (LD c)) = true := List.all_eq_true.mpr fun x hx => decide_eq_true ((fnd_ld (hc x hx)).mp (Int.le_trans h3 (hmin _ (List.mem_map.mpr ⟨x, hx, rfl⟩))))
            unfold isNm
            rw [hlen, hlen2, ha, Bool.true_and, Bool.true_and, Bool.and_true]
            have hz : 0 ≤ fnd c := Int.le_trans h3 (hmin _ (by simp))
            rw [decide_eq_decide, ← fnd_lt (hc c (by simp))]
            exact ⟨fun q => ⟨hz, q⟩, fun q => q.2⟩
          rw [e]
          exact k H2 s2
        · walk_at "st"
          have e : isNm (c :: r) = false := by
            rw [Bool.eq_false_iff]
            intro q
            have w := nm_iff.mp q
            obtain ⟨x, hx, rfl⟩ := List.mem_map.mp hm
            exact h3 ((fnd_ld (hc x hx)).mpr (w.all x hx))
          have z := k H2 s2
          rw [e] at z
          exact z
theorem len_l_valid (K : PySem.W.Frag) (vs : List V) (H : Hp) (Q : VK) (E : XK) (h : sp_l_valid K vs H Q E) : vs.length = 1 := by
  obtain ⟨l, rfl, _⟩ := h
  rfl
theorem c_l_valid {K : PySem.W.Frag} {l : List Nat} {H : Hp} {Q : VK} {E : XK} (hl : l.length ≤ 100) (hc : ∀ c ∈ l, c < 127) (k : ∀ H', Same H H' → Q (.bl (isNm l)) H') : sp_l_valid K [.str (S l)] H Q E := ⟨l, rfl, hl, hc, k⟩
/-- a row of the list of tests: its truth, the error that is due -/
def te (b : Bool) (e : Er) : List V := .bl b :: .str e.c :: (e.fs.map (·.2)).reverse
inductive TRs (H : Hp) : List V → List (Bool × Er) → Prop
  | nil : TRs H [] []
  | cons {q : Addr} {b : Bool} {e : Er} {xs : List V} {ts : List (Bool × Er)} (h : H q = some (.lst (te b e))) (r : TRs H xs ts) : TRs H (.ref q :: xs) ((b, e) :: ts)
theorem TRs.mono {H H' : Hp} (s : Same H H') : ∀ {xs : List V} {ts : List (Bool × Er)}, TRs H xs ts → TRs H' xs ts
  | _, _, .nil => .nil
  | _, _, .cons h r => .cons (s _ _ h) (r.mono s)
theorem TRs.app {H : Hp} : ∀ {xs ys : List V} {ts us : List (Bool × Er)}, TRs H xs ts → TRs H ys us → TRs H (xs ++ ys) (ts ++ us)
  | _, _, _, _, .nil, r => r
  | _, _, _, _, .cons h r, r2 => .cons h (r.app r2)
theorem TRs.len {H : Hp} : ∀ {xs : List V} {ts : List (Bool × Er)}, TRs H xs ts → xs.length = ts.length
  | _, _, .nil => rfl
  | _, _, .cons _ r => by rw [List.length_cons, List.length_cons, r.len]
def evT : List (List Nat) → List (List Nat) → List (Bool × Er)
  | _, [] => []
  | bef, l :: r => (!isNm l, eS "BadName" l) :: (decide (l ∈ bef), eS "DoubleEvent" l) :: evT (bef ++ [l]) r
def spT (T : Int) (ns : List (List Nat)) (r : Row) : List (Bool × Er) :=
  [(!decide (r.u ∈ ns), eS "UnknownEvent" r.u), (!decide (r.v ∈ ns), eS "UnknownEvent" r.v), (decide (r.u = r.v), eS "SameEvent" r.u), (decide (r.lo < 0) || decide (T - 1 < r.lo), eN r.lo), (decide (r.hi < r.lo) || decide (r.lo + T - 3 < r.hi), eN r.hi), (decide (r.w < 0) || decide (99 < r.w), eN r.w)]
def spTs (T : Int) (ns : List (List Nat)) : List Row → List (Bool × Er)
  | [] => []
  | r :: t => spT T ns r ++ spTs T ns t
def tsts (T : Int) (ns : List (List Nat)) (rs : List Row) : List (Bool × Er) :=
  [(decide (T < 3) || decide (120 < T), eN T), (decide (12 < (ns.length : Int)), eT ns.length 12)] ++ evT [] ns ++ [(decide (24 < (rs.length : Int)), eT rs.length 24)] ++ spTs T ns rs
def fstE : List (Bool × Er) → Option Er
  | [] => none
  | (b, e) :: r => (if b = true then some e else none).or (fstE r)
theorem fstE_app : ∀ {a b : List (Bool × Er)}, fstE (a ++ b) = (fstE a).or (fstE b)
  | [], b => by show fstE b = _; rw [fstE, Option.none_or]
  | (c, e) :: r, b => by
    show (if c = true then some e else none).or (fstE (r ++ b)) = _
    rw [fstE_app, fstE, Option.or_assoc]
theorem bk_rng {n lo hi : Int} : (if (decide (n < lo) || decide (hi < n)) = true then some (eN n) else none) = cRng n lo hi := by
  unfold cRng
  by_cases h : lo ≤ n ∧ n ≤ hi
  · rw [if_pos h, decide_eq_false (by omega), decide_eq_false (by omega)]
    rfl
  · rw [if_neg h, if_pos (by rw [Bool.or_eq_true, decide_eq_true_eq, decide_eq_true_eq]; omega)]
theorem bk_cnt {n m : Int} : (if decide (m < n) = true then some (eT n m) else none) = cCnt n m := by
  unfold cCnt
  by_cases h : n ≤ m
  · rw [if_pos h, decide_eq_false (by omega)]
    rfl
  · rw [if_neg h, decide_eq_true (by omega)]
    rfl
theorem fst_ev : ∀ {ns bef : List (List Nat)}, fstE (evT bef ns) = cEvs bef ns
  | [], _ => rfl
  | l :: r, bef => by
    show Option.or (if (!isNm l) = true then some (eS "BadName" l) else none) (Option.or (if decide (l ∈ bef) = true then some (eS "DoubleEvent" l) else none) (fstE (evT (bef ++ [l]) r))) = Option.or (Option.or (cName l) (if l ∈ bef then some (eS "DoubleEvent" l) else none)) (cEvs (bef ++ [l]) r)
    rw [fst_ev, ← Option.or_assoc]
    congr 1
    congr 1
    · unfold cName
      cases isNm l <;> rfl
    · by_cases h : l ∈ bef
      · rw [decide_eq_true h, if_pos h, if_pos rfl]
      · rw [decide_eq_false h, if_neg h]; rfl
theorem bk_known {ms : List (List Nat)} {l : List Nat} : (if (!decide (l ∈ ms)) = true then some (eS "UnknownEvent" l) else none) = cK1 ms l := by
  unfold cK1
  by_cases h : l ∈ ms
  · rw [decide_eq_true h, if_pos h]; rfl
  · rw [decide_eq_false h, if_neg h]; rfl
theorem fst_sp {T : Int} {ns : List (List Nat)} {r : Row} : fstE (spT T ns r) = cSp T ns r := by
  unfold spT cSp
  simp only [fstE, bk_rng, bk_known, cFold, Option.or_none, Option.or_assoc, decide_eq_true_eq]
theorem fst_sps {T : Int} {ns : List (List Nat)} : ∀ {rs : List Row}, fstE (spTs T ns rs) = cFold (cSp T ns) rs
  | [] => rfl
  | r :: t => by
    show fstE (spT T ns r ++ spTs T ns t) = (cSp T ns r).or _
    rw [fstE_app, fst_sp, fst_sps]
theorem fst_tsts {T : Int} {ns : List (List Nat)} {rs : List Row} : fstE (tsts T ns rs) = cNet T ns rs := by
  unfold tsts cNet
  rw [fstE_app, fstE_app, fstE_app, fst_ev, fst_sps]
  simp only [fstE, bk_rng, bk_cnt, Option.or_none, Option.or_assoc]
theorem evT_len : ∀ {ns bef : List (List Nat)}, (evT bef ns).length = 2 * ns.length
  | [], _ => rfl
  | l :: r, bef => by
    show (evT (bef ++ [l]) r).length + 1 + 1 = _
    rw [evT_len, List.length_cons]
    omega
theorem evT_drop {ns : List (List Nat)} {i : Nat} {l : List Nat} (h : ns[i]? = some l) : evT (ns.take i) (ns.drop i) = (!isNm l, eS "BadName" l) :: (decide (l ∈ ns.take i), eS "DoubleEvent" l) :: evT (ns.take (i + 1)) (ns.drop (i + 1)) := by
  obtain ⟨hl, e⟩ := List.getElem?_eq_some_iff.mp h
  rw [List.drop_eq_getElem_cons hl, e, List.take_add_one, h]
  rfl
theorem spTs_drop {T : Int} {ns : List (List Nat)} {rs : List Row} {i : Nat} {r : Row} (h : rs[i]? = some r) : spTs T ns (rs.drop i) = spT T ns r ++ spTs T ns (rs.drop (i + 1)) := by
  obtain ⟨hl, e⟩ := List.getElem?_eq_some_iff.mp h
  rw [List.drop_eq_getElem_cons hl, e]
  rfl
theorem spTs_len {T : Int} {ns : List (List Nat)} : ∀ {rs : List Row}, (spTs T ns rs).length = 6 * rs.length
  | [] => rfl
  | r :: t => by
    show (spT T ns r ++ spTs T ns t).length = _
    rw [List.length_append, spTs_len, List.length_cons]
    show 6 + _ = _
    omega
/-- the list of tests so far -/
structure Tst (P : Pl) (L : Addr) (G0 G H : Hp) (ts : List (Bool × Er)) : Prop where
  ex : ∃ xs, Lcl P L xs G H ∧ TRs G xs ts ∧ Same G0 G
theorem Tst.same {P : Pl} {L : Addr} {G0 G H H' : Hp} {ts : List (Bool × Er)} (t : Tst P L G0 G H ts) (s : Same H H') : Tst P L G0 G H' ts := by
  obtain ⟨xs, lc, r, s0⟩ := t.ex
  exact ⟨xs, ⟨lc.s.same s, s _ _ lc.h, lc.g, lc.ne⟩, r, s0⟩
theorem Tst.put {P : Pl} {L q : Addr} {G0 G H : Hp} {ts : List (Bool × Er)} {b : Bool} {e : Er} {R : VK} (t : Tst P L G0 G H ts) (hq : H q = none) (hl : ts.length < 90000) (k : ∀ G' H', Same G G' → Tst P L G0 G' H' (ts ++ [(b, e)]) → R .non H') : rAppend (.ref L) [.ref q] (upd H q (.lst (te b e))) R := by
  obtain ⟨xs, lc, r, s0⟩ := t.ex
  have l2 := lc.new (o := .lst (te b e)) hq
  have sg := Same.new (o := .lst (te b e)) (lc.s.sub.free hq)
  refine wp_append l2.h (by rw [r.len]; omega) (k _ _ sg ⟨_, l2.put, (r.mono sg).app (.cons upd_same .nil), s0.trans sg⟩)
theorem Tst.new {P : Pl} {L q : Addr} {G0 G H : Hp} {ts : List (Bool × Er)} {o : HO} (t : Tst P L G0 G H ts) (hq : H q = none) : Tst P L G0 (upd G q o) (upd H q o) ts := by
  obtain ⟨xs, lc, r, s0⟩ := t.ex
  have sg := Same.new (o := o) (lc.s.sub.free hq)
  exact ⟨xs, lc.new hq, r.mono sg, s0.trans sg⟩
theorem Tst.at {P : Pl} {L a : Addr} {G0 G H : Hp} {ts : List (Bool × Er)} {o : HO} (t : Tst P L G0 G H ts) (h : G0 a = some o) : H a = some o := by
  obtain ⟨xs, lc, r, s0⟩ := t.ex
  exact lc.s.sub _ _ (s0 _ _ h)
theorem te_N {b : Bool} {n : Int} : HO.lst [.bl b, .str (S Y_BadNumber), .int n] = .lst (te b (eN n)) := by
  have z : S Y_BadNumber = ("BadNumber" : Str) := by decide +kernel
  rw [z]; rfl
theorem te_T {b : Bool} {n m : Int} : HO.lst [.bl b, .str (S Y_TooMany), .int n, .int m] = .lst (te b (eT n m)) := by
  have z : S Y_TooMany = ("TooMany" : Str) := by decide +kernel
  rw [z]; rfl
theorem te_B {b : Bool} {l : List Nat} : HO.lst [.bl b, .str (S Y_BadName), .str (S l)] = .lst (te b (eS "BadName" l)) := by
  have z : S Y_BadName = ("BadName" : Str) := by decide +kernel
  rw [z]; rfl
theorem te_D {b : Bool} {l : List Nat} : HO.lst [.bl b, .str (S Y_DoubleEvent), .str (S l)] = .lst (te b (eS "DoubleEvent" l)) := by
  have z : S Y_DoubleEvent = ("DoubleEvent" : Str) := by decide +kernel
  rw [z]; rfl
theorem te_U {b : Bool} {l : List Nat} : HO.lst [.bl b, .str (S Y_UnknownEvent), .str (S l)] = .lst (te b (eS "UnknownEvent" l)) := by
  have z : S Y_UnknownEvent = ("UnknownEvent" : Str) := by decide +kernel
  rw [z]; rfl
theorem te_S {b : Bool} {l : List Nat} : HO.lst [.bl b, .str (S Y_SameEvent), .str (S l)] = .lst (te b (eS "SameEvent" l)) := by
  have z : S Y_SameEvent = ("SameEvent" : Str) := by decide +kernel
  rw [z]; rfl
def sp_l_tests (K : PySem.W.Frag) : Sp := fun vs H Q _ => ∃ (P : Pl) (G : Hp) (T : Int) (a b : Addr) (ns : List (List Nat)) (ss : List V) (rs : List Row), vs = [.int T, .ref a, .ref b] ∧ Sees P G H ∧ G a = some (.lst (ns.map sv)) ∧ G b = some (.lst ss) ∧ Rws G ss rs ∧
  (∀ l ∈ ns, Asc l ∧ l.length ≤ 20) ∧ ns.length ≤ 1000 ∧ rs.length ≤ 1000 ∧ ∀ (p : Addr) (xs : List V) (G' H' : Hp), Same G G' → Sees P G' H' → G' p = some (.lst xs) → TRs G' xs (tsts T ns rs) → Q (.ref p) H'
abbrev N_l_tests : List Str := ["_law_length_here", "_law_names_here", "_law_spans_here", "_law_tests_here", "_law_k", "_law_span_here"]
theorem st_l_tests {a0 a1 a2 : V} : L2.start N_l_tests [a0, a1, a2] = [some a0, some a1, some a2, none, none, none] := rfl
def t_l_tests (K : PySem.W.Frag) : TS :=
  (C8.tCut ((tAsg ((tLst ((tCons ((tLst ((tCons ((tOrV ((tOp (rI0 fun i j => .bl (decide (i < j))) (tVar 0) (tC (.int 3)))) ((tOp (rI0 fun i j => .bl (decide (j < i))) (tVar 0) (tC (.int 120)))))) ((tCons (tC (.str (S Y_BadNumber))) ((tCons (tVar 0) (tNil))))))))) ((tCons ((tLst ((tCons ((tOp (rI0 fun i j => .bl (decide (j < i))) ((tCB (rLenS K) ((tCons (tVar 1) (tNil))))) (tC (.int 12)))) ((tCons (tC (.str (S Y_TooMany))) ((tCons ((tCB (rLenS K) ((tCons (tVar 1) (tNil))))) ((tCons (tC (.int 12)) (tNil))))))))))) (tNil))))))) (gName 3)))
    ((tSeq ((tFor ((iRng1 ((tCons ((tCB (rLenS K) ((tCons (tVar 1) (tNil))))) (tNil))))) (gName 4) ((C8.tCut ((tDrop ((tBM K "list" rAppend (tVar 3) ((tCons ((tLst ((tCons ((tNotV ((tCall (sp_l_valid K) [] E0 ((tCons ((tOp (rIxL K) (tVar 1) (tVar 4))) (tNil))))))) ((tCons (tC (.str (S Y_BadName))) ((tCons ((tOp (rIxL K) (tVar 1) (tVar 4))) (tNil))))))))) (tNil)))))))
    ((tDrop ((tBM K "list" rAppend (tVar 3) ((tCons ((tLst ((tCons ((tOp (rIn K false) ((tOp (rIxL K) (tVar 1) (tVar 4))) ((tSl (rSlL K) (tVar 1) tNoPart (tPart (tVar 4)))))) ((tCons (tC (.str (S Y_DoubleEvent))) ((tCons ((tOp (rIxL K) (tVar 1) (tVar 4))) (tNil))))))))) (tNil)))))))))))
    ((C8.tCut ((tDrop ((tBM K "list" rAppend (tVar 3) ((tCons ((tLst ((tCons ((tOp (rI0 fun i j => .bl (decide (j < i))) ((tCB (rLenS K) ((tCons (tVar 2) (tNil))))) (tC (.int 24)))) ((tCons (tC (.str (S Y_TooMany))) ((tCons ((tCB (rLenS K) ((tCons (tVar 2) (tNil))))) ((tCons (tC (.int 24)) (tNil))))))))))) (tNil)))))))
    ((tSeq ((tFor ((iList K (tVar 2))) (gName 5) ((C8.tCut ((tDrop ((tBM K "list" rAppend (tVar 3) ((tCons ((tLst ((tCons ((tOp (rIn K true) ((tOp (rIxT K) (tVar 5) (tC (.int 0)))) (tVar 1))) ((tCons (tC (.str (S Y_UnknownEvent))) ((tCons ((tOp (rIxT K) (tVar 5) (tC (.int 0)))) (tNil))))))))) (tNil)))))))
    ((C8.tCut ((tDrop ((tBM K "list" rAppend (tVar 3) ((tCons ((tLst ((tCons ((tOp (rIn K true) ((tOp (rIxT K) (tVar 5) (tC (.int 1)))) (tVar 1))) ((tCons (tC (.str (S Y_UnknownEvent))) ((tCons ((tOp (rIxT K) (tVar 5) (tC (.int 1)))) (tNil))))))))) (tNil)))))))
    ((C8.tCut ((tDrop ((tBM K "list" rAppend (tVar 3) ((tCons ((tLst ((tCons ((tOp rEq ((tOp (rIxT K) (tVar 5) (tC (.int 0)))) ((tOp (rIxT K) (tVar 5) (tC (.int 1)))))) ((tCons (tC (.str (S Y_SameEvent))) ((tCons ((tOp (rIxT K) (tVar 5) (tC (.int 0)))) (tNil))))))))) (tNil)))))))
    ((C8.tCut ((tDrop ((tBM K "list" rAppend (tVar 3) ((tCons ((tLst ((tCons ((tOrV ((tOp (rI0 fun i j => .bl (decide (i < j))) ((tOp (rIxT K) (tVar 5) (tC (.int 2)))) (tC (.int 0)))) ((tOp (rI0 fun i j => .bl (decide (j < i))) ((tOp (rIxT K) (tVar 5) (tC (.int 2)))) ((tOp (rI0 fun i j => .int (i - j)) (tVar 0) (tC (.int 1)))))))) ((tCons (tC (.str (S Y_BadNumber))) ((tCons ((tOp (rIxT K) (tVar 5) (tC (.int 2)))) (tNil))))))))) (tNil)))))))
    ((C8.tCut ((tDrop ((tBM K "list" rAppend (tVar 3) ((tCons ((tLst ((tCons ((tOrV ((tOp (rI0 fun i j => .bl (decide (i < j))) ((tOp (rIxT K) (tVar 5) (tC (.int 3)))) ((tOp (rIxT K) (tVar 5) (tC (.int 2)))))) ((tOp (rI0 fun i j => .bl (decide (j < i))) ((tOp (rIxT K) (tVar 5) (tC (.int 3)))) ((tOp (rI0 fun i j => .int (i - j)) ((tOp (rI0 fun i j => .int (i + j)) ((tOp (rIxT K) (tVar 5) (tC (.int 2)))) (tVar 0))) (tC (.int 3)))))))) ((tCons (tC (.str (S Y_BadNumber))) ((tCons ((tOp (rIxT K) (tVar 5) (tC (.int 3)))) (tNil))))))))) (tNil)))))))
    ((tDrop ((tBM K "list" rAppend (tVar 3) ((tCons ((tLst ((tCons ((tOrV ((tOp (rI0 fun i j => .bl (decide (i < j))) ((tOp (rIxT K) (tVar 5) (tC (.int 4)))) (tC (.int 0)))) ((tOp (rI0 fun i j => .bl (decide (j < i))) ((tOp (rIxT K) (tVar 5) (tC (.int 4)))) (tC (.int 99)))))) ((tCons (tC (.str (S Y_BadNumber))) ((tCons ((tOp (rIxT K) (tVar 5) (tC (.int 4)))) (tNil))))))))) (tNil)))))))))))))))))))
    ((tRet (tVar 3))))))))))

theorem pure_l_tests (K : PySem.W.Frag) (vs : List V) (H : Hp) (Q : VK) (E : XK) (h : sp_l_tests K vs H Q E) : t_l_tests K { nx := fun _ H' => Q .non H', rt := Q } (L2.start N_l_tests vs) H := by
  obtain ⟨P, G, T, a, b, ns, ss, rs, rfl, hs, ha, hb, hr, hn, f1, f2, k⟩ := h
  have el : (ns.map sv).length = ns.length := List.length_map ..
  have er := hr.len
  rw [st_l_tests]
  unfold t_l_tests
  have T1l : [(decide (T < 3) || decide (120 < T), eN T), (decide (12 < (ns.length : Int)), eT ns.length 12)].length = 2 := rfl
  refine wp_cut (fun σ' H' => ∃ L G', σ' = [some (.int T), some (.ref a), some (.ref b), some (.ref L), none, none] ∧ Tst P L G G' H' [(decide (T < 3) || decide (120 < T), eN T), (decide (12 < (ns.length : Int)), eT ns.length 12)]) ?_ ?_
  · have ha0 := hs.sub _ _ ha
    walk_at "st"
    refine ite_dec (fun h => ?_) (fun h => ?_)
    · rw [decide_eq_true h, Bool.true_or]
      walk_at "st"
      refine ⟨by simp [sizeLine_eq], fun q1 w1 => ?_⟩
      rw [te_N]
      obtain ⟨A1, t1, e1, g1⟩ := hs.new' (.lst (te _ (eN T))) w1
      walk_at "st"
      refine wp_lenL (sq_of (t1.sub _ _ (e1 _ _ ha))) ?_
      walk_at "st"
      refine wp_lenL (sq_of (t1.sub _ _ (e1 _ _ ha))) ?_
      walk_at "st"
      refine ⟨by simp [sizeLine_eq], fun q2 w2 => ?_⟩
      rw [el, te_T]
      obtain ⟨A2, t2, e2, g2⟩ := t1.new' (.lst (te (decide (12 < (ns.length : Int))) (eT ns.length 12))) w2
      walk_at "st"
      refine ⟨by simp [sizeLine_eq], fun L hL => ?_⟩
      walk_at "st"
      obtain ⟨gL, nL⟩ := t2.fresh hL
      exact ⟨L, A2, rfl, [.ref q1, .ref q2], ⟨t2.set gL nL, upd_same, gL, nL⟩, .cons (e2 _ _ g1) (.cons g2 .nil), e1.trans e2⟩
    · rw [decide_eq_false h, Bool.false_or]
      walk_at "st"
      refine ⟨by simp [sizeLine_eq], fun q1 w1 => ?_⟩
      rw [te_N]
      obtain ⟨A1, t1, e1, g1⟩ := hs.new' (.lst (te _ (eN T))) w1
      walk_at "st"
      refine wp_lenL (sq_of (t1.sub _ _ (e1 _ _ ha))) ?_
      walk_at "st"
      refine wp_lenL (sq_of (t1.sub _ _ (e1 _ _ ha))) ?_
      walk_at "st"
      refine ⟨by simp [sizeLine_eq], fun q2 w2 => ?_⟩
      rw [el, te_T]
      obtain ⟨A2, t2, e2, g2⟩ := t1.new' (.lst (te (decide (12 < (ns.length : Int))) (eT ns.length 12))) w2
      walk_at "st"
      refine ⟨by simp [sizeLine_eq], fun L hL => ?_⟩
      walk_at "st"
      obtain ⟨gL, nL⟩ := t2.fresh hL
      exact ⟨L, A2, rfl, [.ref q1, .ref q2], ⟨t2.set gL nL, upd_same, gL, nL⟩, .cons (e2 _ _ g1) (.cons g2 .nil), e1.trans e2⟩
  rintro σ' H1 ⟨L, G1, rfl, t1⟩
  have ha1 := t1.at ha
  walk_at "st"
  rw [el]
  refine loop1 (by omega) (fun i σ' H' => ∃ x G' ts, σ' = [some (.int T), some (.ref a), some (.ref b), some (.ref L), x, none] ∧ Tst P L G G' H' ts ∧ ts.length = 2 + 2 * i ∧ ts ++ evT (ns.take i) (ns.drop i) = [(decide (T < 3) || decide (120 < T), eN T), (decide (12 < (ns.length : Int)), eT ns.length 12)] ++ evT [] ns) ⟨_, _, _, rfl, t1, rfl, rfl⟩ ?_ ?_
  · rintro i σ' H' hi ⟨x, G', ts, rfl, t, hl, he⟩
    have hi2 : i < ns.length := by omega
    obtain ⟨l, hl2⟩ : ∃ l, ns[i]? = some l := ⟨_, List.getElem?_eq_getElem hi2⟩
    have hv : (ns.map sv)[i]? = some (sv l) := by rw [List.getElem?_map, hl2]; rfl
    rw [evT_drop hl2] at he
    obtain ⟨la, ll⟩ := hn l (List.mem_of_getElem? hl2)
    have ha2 := t.at ha
    walk_at "st"
    refine wp_cut (fun σ' H' => ∃ G', σ' = [some (.int T), some (.ref a), some (.ref b), some (.ref L), some (.int i), none] ∧ Tst P L G G' H' (ts ++ [(!isNm l, eS "BadName" l)])) ?_ ?_
    · obtain ⟨xs0, lc0, _, _⟩ := id t.ex
      have hLL := lc0.h
      walk_at "st"
      refine wp_ixL (sq_of ha2) (at_nth hv) ?_
      walk_at "st"
      refine c_l_valid (by omega) la fun H3 s3 => ?_
      have t3 := t.same s3
      walk_at "st"
      refine wp_ixL (sq_of (t3.at ha)) (at_nth hv) ?_
      walk_at "st"
      refine ⟨by simp [sizeLine_eq], fun q hq => ?_⟩
      rw [te_B]
      walk_at "st"
      refine t3.put hq (by omega) fun G4 H4 s4 t4 => ?_
      walk_at "st"
      exact ⟨_, rfl, t4⟩
    clear t ha2
    rintro σ' H2 ⟨G2, rfl, t⟩
    have ha2 := t.at ha
    obtain ⟨xs0, lc0, _, _⟩ := id t.ex
    have hLL := lc0.h
    walk_at "st"
    refine wp_ixL (sq_of ha2) (at_nth hv) ?_
    walk_at "st"
    refine wp_sliceL (sq_of ha2) fun b1 hb1 => ?_
    rw [cutG_to (by rw [el]; omega), ← List.map_take]
    have t5 := t.new (o := .lst ((ns.take i).map sv)) hb1
    walk_at "st"
    refine wp_inSv (sq_of upd_same) ?_
    walk_at "st"
    refine wp_ixL (sq_of (t5.at ha)) (at_nth hv) ?_
    walk_at "st"
    refine ⟨by simp [sizeLine_eq], fun q hq => ?_⟩
    rw [te_D]
    walk_at "st"
    refine t5.put hq (by simp; omega) fun G4 H4 s4 t4 => ?_
    walk_at "st"
    refine ⟨_, _, _, rfl, t4, by simp; omega, ?_⟩
    rw [← he, List.append_assoc, List.append_assoc]
    rfl
  clear t1 ha1
  rintro σ' H2 ⟨x, G2, ts, rfl, t1, hl, he⟩
  have hb1 := t1.at hb
  rw [Int.toNat_natCast, List.drop_length] at he
  have he : ts = [(decide (T < 3) || decide (120 < T), eN T), (decide (12 < (ns.length : Int)), eT ns.length 12)] ++ evT [] ns := by rw [← he]; exact (List.append_nil ts).symm
  rw [Int.toNat_natCast] at hl
  refine wp_cut (fun σ' H' => ∃ x G', σ' = [some (.int T), some (.ref a), some (.ref b), some (.ref L), x, none] ∧ Tst P L G G' H' (ts ++ [(decide (24 < (rs.length : Int)), eT rs.length 24)])) ?_ ?_
  · obtain ⟨xs0, lc0, _, _⟩ := id t1.ex
    have hLL := lc0.h
    walk_at "st"
    refine ⟨by simp [sizeLine_eq], fun q hq => ?_⟩
    rw [er, te_T]
    walk_at "st"
    refine t1.put hq (by omega) fun G4 H4 s4 t4 => ?_
    walk_at "st"
    exact ⟨_, _, rfl, t4⟩
  clear t1 hb1
  rintro σ' H3 ⟨x, G3, rfl, t1⟩
  have hb1 := t1.at hb
  walk_at "st"
  refine loopL (sq_of hb1) (fun i σ' H' => ∃ y G' us, σ' = [some (.int T), some (.ref a), some (.ref b), some (.ref L), x, y] ∧ Tst P L G G' H' us ∧ us.length = 3 + 2 * ns.length + 6 * i ∧ us ++ spTs T ns (rs.drop i) = (ts ++ [(decide (24 < (rs.length : Int)), eT rs.length 24)]) ++ spTs T ns rs) ⟨_, _, _, rfl, t1, by simp; omega, rfl⟩ ?_ ?_ ?_
  · rintro i σ' H' _ ⟨y, G', us, rfl, t, _⟩
    exact sq_of (t.at hb)
  · rintro i z σ' H' hx ⟨y, G', us, rfl, t, hul, hue⟩
    obtain ⟨r, hr1, hr2⟩ := hr.at hx
    obtain ⟨p, rfl, hp⟩ := hr2
    have hp : G p = some (.tup [sv r.u, sv r.v, .int r.lo, .int r.hi, .int r.w]) := hp
    rw [spTs_drop hr1] at hue
    have hil : i < rs.length := (List.getElem?_eq_some_iff.mp hr1).1
    walk_at "st"
    refine wp_cut (fun σ' H' => ∃ G', σ' = [some (.int T), some (.ref a), some (.ref b), some (.ref L), x, some (.ref p)] ∧ Tst P L G G' H' (us ++ [(!decide (r.u ∈ ns), eS "UnknownEvent" r.u)])) ?_ ?_
    · have hp2 := t.at hp
      have ha2 := t.at ha
      obtain ⟨xs0, lc0, _, _⟩ := id t.ex
      have hLL := lc0.h
      walk_at "st"
      refine wp_notInSv (sq_of ha2) ?_
      walk_at "st"
      refine ⟨by simp [sizeLine_eq], fun q hq => ?_⟩
      rw [te_U]
      walk_at "st"
      refine t.put hq (by first | omega | (simp; omega)) fun G4 H4 s4 t4 => ?_
      walk_at "st"
      exact ⟨_, rfl, t4⟩
    clear t
    rintro σ' H5 ⟨G5, rfl, t⟩
    refine wp_cut (fun σ' H' => ∃ G', σ' = [some (.int T), some (.ref a), some (.ref b), some (.ref L), x, some (.ref p)] ∧ Tst P L G G' H' ((us ++ [(!decide (r.u ∈ ns), eS "UnknownEvent" r.u)]) ++ [(!decide (r.v ∈ ns), eS "UnknownEvent" r.v)])) ?_ ?_
    · have hp2 := t.at hp
      have ha2 := t.at ha
      obtain ⟨xs0, lc0, _, _⟩ := id t.ex
      have hLL := lc0.h
      walk_at "st"
      refine wp_notInSv (sq_of ha2) ?_
      walk_at "st"
      refine ⟨by simp [sizeLine_eq], fun q hq => ?_⟩
      rw [te_U]
      walk_at "st"
      refine t.put hq (by first | omega | (simp; omega)) fun G4 H4 s4 t4 => ?_
      walk_at "st"
      exact ⟨_, rfl, t4⟩
    clear t
    rintro σ' H5 ⟨G5, rfl, t⟩
    refine wp_cut (fun σ' H' => ∃ G', σ' = [some (.int T), some (.ref a), some (.ref b), some (.ref L), x, some (.ref p)] ∧ Tst P L G G' H' (((us ++ [(!decide (r.u ∈ ns), eS "UnknownEvent" r.u)]) ++ [(!decide (r.v ∈ ns), eS "UnknownEvent" r.v)]) ++ [(decide (r.u = r.v), eS "SameEvent" r.u)])) ?_ ?_
    · have hp2 := t.at hp
      have ha2 := t.at ha
      obtain ⟨xs0, lc0, _, _⟩ := id t.ex
      have hLL := lc0.h
      walk_at "st"

      rw [show decide (S r.u = S r.v) = decide (r.u = r.v) from decide_eq_decide.mpr ⟨fun h => S_inj h, fun h => congrArg S h⟩]
      walk_at "st"
      refine ⟨by simp [sizeLine_eq], fun q hq => ?_⟩
      rw [te_S]
      walk_at "st"
      refine t.put hq (by first | omega | (simp; omega)) fun G4 H4 s4 t4 => ?_
      walk_at "st"
      exact ⟨_, rfl, t4⟩
    clear t
    rintro σ' H5 ⟨G5, rfl, t⟩
    refine wp_cut (fun σ' H' => ∃ G', σ' = [some (.int T), some (.ref a), some (.ref b), some (.ref L), x, some (.ref p)] ∧ Tst P L G G' H' ((((us ++ [(!decide (r.u ∈ ns), eS "UnknownEvent" r.u)]) ++ [(!decide (r.v ∈ ns), eS "UnknownEvent" r.v)]) ++ [(decide (r.u = r.v), eS "SameEvent" r.u)]) ++ [(decide (r.lo < 0) || decide (T - 1 < r.lo), eN r.lo)])) ?_ ?_
    · have hp2 := t.at hp
      have ha2 := t.at ha
      obtain ⟨xs0, lc0, _, _⟩ := id t.ex
      have hLL := lc0.h
      walk_at "st"
      refine ite_dec (fun h => ?_) (fun h => ?_)
      · rw [decide_eq_true h, Bool.true_or]
        walk_at "st"
        refine ⟨by simp [sizeLine_eq], fun q hq => ?_⟩
        rw [te_N]
        walk_at "st"
        refine t.put hq (by first | omega | (simp; omega)) fun G4 H4 s4 t4 => ?_
        walk_at "st"
        exact ⟨_, rfl, t4⟩
      · rw [decide_eq_false h, Bool.false_or]
        walk_at "st"
        refine ⟨by simp [sizeLine_eq], fun q hq => ?_⟩
        rw [te_N]
        walk_at "st"
        refine t.put hq (by first | omega | (simp; omega)) fun G4 H4 s4 t4 => ?_
        walk_at "st"
        exact ⟨_, rfl, t4⟩
    clear t
    rintro σ' H5 ⟨G5, rfl, t⟩
    refine wp_cut (fun σ' H' => ∃ G', σ' = [some (.int T), some (.ref a), some (.ref b), some (.ref L), x, some (.ref p)] ∧ Tst P L G G' H' (((((us ++ [(!decide (r.u ∈ ns), eS "UnknownEvent" r.u)]) ++ [(!decide (r.v ∈ ns), eS "UnknownEvent" r.v)]) ++ [(decide (r.u = r.v), eS "SameEvent" r.u)]) ++ [(decide (r.lo < 0) || decide (T - 1 < r.lo), eN r.lo)]) ++ [(decide (r.hi < r.lo) || decide (r.lo + T - 3 < r.hi), eN r.hi)])) ?_ ?_
    · have hp2 := t.at hp
      have ha2 := t.at ha
      obtain ⟨xs0, lc0, _, _⟩ := id t.ex
      have hLL := lc0.h
      walk_at "st"
      refine ite_dec (fun h => ?_) (fun h => ?_)
      · rw [decide_eq_true h, Bool.true_or]
        walk_at "st"
        refine ⟨by simp [sizeLine_eq], fun q hq => ?_⟩
        rw [te_N]
        walk_at "st"
        refine t.put hq (by first | omega | (simp; omega)) fun G4 H4 s4 t4 => ?_
        walk_at "st"
        exact ⟨_, rfl, t4⟩
      · rw [decide_eq_false h, Bool.false_or]
        walk_at "st"
        refine ⟨by simp [sizeLine_eq], fun q hq => ?_⟩
        rw [te_N]
        walk_at "st"
        refine t.put hq (by first | omega | (simp; omega)) fun G4 H4 s4 t4 => ?_
        walk_at "st"
        exact ⟨_, rfl, t4⟩
    clear t
    rintro σ' H5 ⟨G5, rfl, t⟩
    have hp2 := t.at hp
    have ha2 := t.at ha
    obtain ⟨xs0, lc0, _, _⟩ := id t.ex
    have hLL := lc0.h
    walk_at "st"
    refine ite_dec (fun h => ?_) (fun h => ?_)
    · have eb : (decide (r.w < 0) || decide (99 < r.w)) = true := by rw [decide_eq_true h]; rfl
      walk_at "st"
      refine ⟨by simp [sizeLine_eq], fun q hq => ?_⟩
      rw [te_N]
      walk_at "st"
      refine t.put hq (by first | omega | (simp; omega)) fun G4 H4 s4 t4 => ?_
      walk_at "st"
      refine ⟨_, _, _, rfl, t4, by simp; omega, ?_⟩
      rw [← hue]
      unfold spT
      rw [eb]
      simp only [List.append_assoc]
      rfl
    · have eb : (decide (r.w < 0) || decide (99 < r.w)) = decide (99 < r.w) := by rw [decide_eq_false h]; rfl
      walk_at "st"
      refine ⟨by simp [sizeLine_eq], fun q hq => ?_⟩
      rw [te_N]
      walk_at "st"
      refine t.put hq (by first | omega | (simp; omega)) fun G4 H4 s4 t4 => ?_
      walk_at "st"
      refine ⟨_, _, _, rfl, t4, by simp; omega, ?_⟩
      rw [← hue]
      unfold spT
      rw [eb]
      simp only [List.append_assoc]
      rfl
  · rintro σ' H' ⟨y, G', us, rfl, t, hul, hue⟩
    obtain ⟨xs, lc, rr, s0⟩ := t.ex
    have sg := Same.new (o := .lst xs) lc.g
    walk_at "st"
    refine k L xs _ _ (s0.trans sg) lc.in_ upd_same ?_
    have z : us = tsts T ns rs := by
      unfold tsts
      rw [er, List.drop_length] at hue
      rw [← he, ← hue]
      exact (List.append_nil us).symm
    rw [← z]
    exact rr.mono sg
theorem len_l_tests (K : PySem.W.Frag) (vs : List V) (H : Hp) (Q : VK) (E : XK) (h : sp_l_tests K vs H Q E) : vs.length = 3 := by
  obtain ⟨_, _, _, _, _, _, _, _, rfl, _⟩ := h
  rfl
theorem c_l_tests {K : PySem.W.Frag} {P : Pl} {G H : Hp} {T : Int} {a b : Addr} {ns : List (List Nat)} {ss : List V} {rs : List Row} {Q : VK} {E : XK} (hs : Sees P G H) (ha : G a = some (.lst (ns.map sv))) (hb : G b = some (.lst ss)) (hr : Rws G ss rs) (hn : ∀ l ∈ ns, Asc l ∧ l.length ≤ 20) (f1 : ns.length ≤ 1000) (f2 : rs.length ≤ 1000)
    (k : ∀ (p : Addr) (xs : List V) (G' H' : Hp), Same G G' → Sees P G' H' → G' p = some (.lst xs) → TRs G' xs (tsts T ns rs) → Q (.ref p) H') : sp_l_tests K [.int T, .ref a, .ref b] H Q E := ⟨P, G, T, a, b, ns, ss, rs, rfl, hs, ha, hb, hr, hn, f1, f2, k⟩
def duL : Option Er → List V
  | none => []
  | some e => .str e.c :: (e.fs.map (·.2)).reverse
theorem TRs.at {H : Hp} : ∀ {xs : List V} {ts : List (Bool × Er)} {i : Nat} {x : V}, TRs H xs ts → xs[i]? = some x → ∃ b e q, x = .ref q ∧ ts[i]? = some (b, e) ∧ H q = some (.lst (te b e))
  | _, _, 0, _, .cons (q := q) (b := b) (e := e) h r, hx => by
    cases hx
    exact ⟨b, e, q, rfl, rfl, h⟩
  | _, _, i + 1, _, .cons h r, hx => by
    obtain ⟨b, e, q, h1, h2, h3⟩ := r.at (i := i) hx
    exact ⟨b, e, q, h1, h2, h3⟩
theorem fstE_drop {ts : List (Bool × Er)} {i : Nat} {b : Bool} {e : Er} (h : ts[i]? = some (b, e)) : fstE (ts.drop i) = (if b = true then some e else none).or (fstE (ts.drop (i + 1))) := by
  obtain ⟨hl, e⟩ := List.getElem?_eq_some_iff.mp h
  rw [List.drop_eq_getElem_cons hl, e]
  rfl
def sp_l_due (K : PySem.W.Frag) : Sp := fun vs H Q _ => ∃ (p : Addr) (xs : List V) (ts : List (Bool × Er)), vs = [.ref p] ∧ H p = some (.lst xs) ∧ TRs H xs ts ∧
  ∀ (q : Addr), H q = none → Q (.ref q) (upd H q (.lst (duL (fstE ts))))
abbrev N_l_due : List Str := ["_law_tests_here", "_law_test"]
theorem st_l_due {a0 : V} : L2.start N_l_due [a0] = [some a0, none] := rfl
def t_l_due (K : PySem.W.Frag) : TS :=
  (tSeq ((tFor ((iList K (tVar 0))) (gName 1) ((tIfS ((tB ((tOp (rIxL K) (tVar 1) (tC (.int 0)))))) ((tRet ((tSl (rSlL K) (tVar 1) (tPart (tC (.int 1))) tNoPart)))) (tNext)))))
    ((tRet ((tLst (tNil))))))

theorem pure_l_due (K : PySem.W.Frag) (vs : List V) (H : Hp) (Q : VK) (E : XK) (h : sp_l_due K vs H Q E) : t_l_due K { nx := fun _ H' => Q .non H', rt := Q } (L2.start N_l_due vs) H := by
  obtain ⟨p, xs, ts, rfl, hp, hr, k⟩ := h
  rw [st_l_due]
  unfold t_l_due
  walk_at "st"
  refine loopL (sq_of hp) (fun i σ' H' => ∃ y, σ' = [some (.ref p), y] ∧ H' = H ∧ fstE (ts.drop i) = fstE ts) ⟨_, rfl, rfl, rfl⟩ ?_ ?_ ?_
  · rintro i σ' H' _ ⟨y, rfl, rfl, _⟩
    exact sq_of hp
  · rintro i x σ' H' hx ⟨y, rfl, rfl, he⟩
    obtain ⟨b, e, q, rfl, ht, hq⟩ := hr.at hx
    rw [fstE_drop ht] at he
    unfold te at hq
    walk_at "st"
    cases b with
    | true =>
      walk_at "st"
      refine wp_sliceL (sq_of hq) fun z hz => ?_
      walk_at "st"
      rw [cutG_from1 (by omega) (by simp; omega)]
      have e2 : duL (fstE ts) = (V.bl true :: .str e.c :: (e.fs.map (·.2)).reverse).drop (1 : Int).toNat := by rw [← he]; rfl
      rw [← e2]
      exact k z hz
    | false =>
      walk_at "st"
      exact ⟨_, rfl, rfl, he⟩
  · rintro σ' H' ⟨y, rfl, rfl, he⟩
    have e : fstE ts = none := by
      rw [← he, ← hr.len.symm, List.drop_length]
      rfl
    walk_at "st"
    refine ⟨by simp [sizeLine_eq], fun q hq => ?_⟩
    have z := k q hq
    rw [e] at z
    exact z
theorem len_l_due (K : PySem.W.Frag) (vs : List V) (H : Hp) (Q : VK) (E : XK) (h : sp_l_due K vs H Q E) : vs.length = 1 := by
  obtain ⟨_, _, _, rfl, _⟩ := h
  rfl
theorem c_l_due {K : PySem.W.Frag} {p : Addr} {xs : List V} {ts : List (Bool × Er)} {H : Hp} {Q : VK} {E : XK} (hp : H p = some (.lst xs)) (hr : TRs H xs ts) (k : ∀ (q : Addr), H q = none → Q (.ref q) (upd H q (.lst (duL (fstE ts))))) : sp_l_due K [.ref p] H Q E := ⟨p, xs, ts, rfl, hp, hr, k⟩
def flK : List Str := ["BadName", "BadNumber", "DoubleEvent", "SameEvent", "TooMany", "UnknownEvent", "UnknownSpan", "WrongNames"]
def flL : Option Er → List V
  | none => []
  | some er => .bl true :: flK.map fun k => .bl (decide (er.c = k))
def sp_l_flags (K : PySem.W.Frag) : Sp := fun vs H Q _ => ∃ (T : Int) (e s : Addr) (ns : List (List Nat)) (ss : List V) (rs : List Row), vs = [.int T, .ref e, .ref s] ∧ Prt H e s ns ss rs ∧
  ∀ (p : Addr) H', Same H H' → H p = none → H' p = some (.lst (flL (cNet T ns rs))) → Q (.ref p) H'
abbrev N_l_flags : List Str := ["_law_length_here", "_law_events", "_law_rows", "_law_flags_here", "e"]
theorem st_l_flags {a0 a1 a2 : V} : L2.start N_l_flags [a0, a1, a2] = [some a0, some a1, some a2, none, none] := rfl
def t_l_flags (K : PySem.W.Frag) : TS :=
  (tSeq ((tAsg ((tLst (tNil))) (gName 3)))
    ((tSeq ((tTry K 4 (fun W => ((tDrop ((tMakeS (C_Net K) (sp_Net_init K) (WE W) ((tCons (tVar 0) ((tCons (tVar 1) ((tCons (tVar 2) (tNil)))))))))))) [(.ref (C_MinuteError K), fun a cls d => ((tAsg ((tLst ((tCons ((tCB (rIsX K a cls d) ((tCons (tVar 4) ((tCons (tC (.ty "ValueError")) (tNil))))))) ((tCons ((tCB (rIsX K a cls d) ((tCons (tVar 4) ((tCons (tC (.ref (C_BadName K))) (tNil))))))) ((tCons ((tCB (rIsX K a cls d) ((tCons (tVar 4) ((tCons (tC (.ref (C_BadNumber K))) (tNil))))))) ((tCons ((tCB (rIsX K a cls d) ((tCons (tVar 4) ((tCons (tC (.ref (C_DoubleEvent K))) (tNil))))))) ((tCons ((tCB (rIsX K a cls d) ((tCons (tVar 4) ((tCons (tC (.ref (C_SameEvent K))) (tNil))))))) ((tCons ((tCB (rIsX K a cls d) ((tCons (tVar 4) ((tCons (tC (.ref (C_TooMany K))) (tNil))))))) ((tCons ((tCB (rIsX K a cls d) ((tCons (tVar 4) ((tCons (tC (.ref (C_UnknownEvent K))) (tNil))))))) ((tCons ((tCB (rIsX K a cls d) ((tCons (tVar 4) ((tCons (tC (.ref (C_UnknownSpan K))) (tNil))))))) ((tCons ((tCB (rIsX K a cls d) ((tCons (tVar 4) ((tCons (tC (.ref (C_WrongNames K))) (tNil))))))) (tNil))))))))))))))))))))) (gName 3))))]))
    ((tRet (tVar 3))))))

theorem pure_l_flags (K : PySem.W.Frag) (XF : XFacts K exs) (vs : List V) (H : Hp) (Q : VK) (E : XK) (h : sp_l_flags K vs H Q E) : t_l_flags K { nx := fun _ H' => Q .non H', rt := Q } (L2.start N_l_flags vs) H := by
  obtain ⟨T, e, s, ns, ss, rs, rfl, p, k⟩ := h
  rw [st_l_flags]
  unfold t_l_flags
  walk_at "st"
  refine ⟨Nat.zero_le _, fun L hL => ?_⟩
  have s0 := Same.new (o := .lst []) hL
  walk_at "st"
  refine wp_tryMk ?_
  walk_at "st"
  refine c_NetX (p.mono s0) (fun er e1 H2 s2 => ?_) (fun e0 a H2 s2 _ => ?_)
  · intro d H3 s3 hd hx
    have s03 := (s0.trans s2).trans s3
    have sh := alls_net p.an p.ar er e1
    have i0 := XF.i er.c sh.mem
    refine wAs_yes (XF.b er.c sh.mem) fun a ha => ?_
    rw [show ([some (V.int T), some (.ref e), some (.ref s), some (.ref L), none] : L2.St).set 4 (some (.ref a)) = [some (V.int T), some (.ref e), some (.ref s), some (.ref L), some (.ref a)] from rfl]
    walk_at "st"
    refine wp_isX hx i0 (fun u hu => hu) (XF.v er.c sh.mem) ?_
    walk_at "st"
    refine wp_isX hx i0 (fun u hu => hu) (XF.k er.c sh.mem "BadName" (by decide +kernel)) ?_
    walk_at "st"
    refine wp_isX hx i0 (fun u hu => hu) (XF.k er.c sh.mem "BadNumber" (by decide +kernel)) ?_
    walk_at "st"
    refine wp_isX hx i0 (fun u hu => hu) (XF.k er.c sh.mem "DoubleEvent" (by decide +kernel)) ?_
    walk_at "st"
    refine wp_isX hx i0 (fun u hu => hu) (XF.k er.c sh.mem "SameEvent" (by decide +kernel)) ?_
    walk_at "st"
    refine wp_isX hx i0 (fun u hu => hu) (XF.k er.c sh.mem "TooMany" (by decide +kernel)) ?_
    walk_at "st"
    refine wp_isX hx i0 (fun u hu => hu) (XF.k er.c sh.mem "UnknownEvent" (by decide +kernel)) ?_
    walk_at "st"
    refine wp_isX hx i0 (fun u hu => hu) (XF.k er.c sh.mem "UnknownSpan" (by decide +kernel)) ?_
    walk_at "st"
    refine wp_isX hx i0 (fun u hu => hu) (XF.k er.c sh.mem "WrongNames" (by decide +kernel)) ?_
    walk_at "st"
    refine ⟨by simp [sizeLine_eq], fun q hq => ?_⟩
    walk_at "st"
    show tRet (tVar 3) { nx := fun _ H' => Q .non H', rt := Q } [some (.int T), some (.ref e), some (.ref s), some (.ref q), none] _
    walk_at "st"
    have z := k q (upd H3 q (.lst (flL (some er)))) (s03.trans (Same.new hq)) (s03.free hq) (by rw [e1]; exact upd_same)
    exact z
  · walk_at "st"
    refine k L H2 (s0.trans s2) hL ?_
    rw [e0]
    exact s2 _ _ upd_same
theorem len_l_flags (K : PySem.W.Frag) (vs : List V) (H : Hp) (Q : VK) (E : XK) (h : sp_l_flags K vs H Q E) : vs.length = 3 := by
  obtain ⟨_, _, _, _, _, _, rfl, _⟩ := h
  rfl
theorem c_l_flags {K : PySem.W.Frag} {T : Int} {e s : Addr} {ns : List (List Nat)} {ss : List V} {rs : List Row} {H : Hp} {Q : VK} {E : XK} (p : Prt H e s ns ss rs) (k : ∀ (p : Addr) H', Same H H' → H p = none → H' p = some (.lst (flL (cNet T ns rs))) → Q (.ref p) H') : sp_l_flags K [.int T, .ref e, .ref s] H Q E := ⟨T, e, s, ns, ss, rs, rfl, p, k⟩
def toL : Option Er → List V
  | none => []
  | some er => (er.fs.map (·.2)).reverse
def sp_l_told (K : PySem.W.Frag) : Sp := fun vs H Q _ => ∃ (T : Int) (e s : Addr) (ns : List (List Nat)) (ss : List V) (rs : List Row), vs = [.int T, .ref e, .ref s] ∧ Prt H e s ns ss rs ∧
  ∀ (p : Addr) H', Same H H' → H p = none → H' p = some (.lst (toL (cNet T ns rs))) → Q (.ref p) H'
abbrev N_l_told : List Str := ["_law_length_here", "_law_events", "_law_rows", "_law_told_here", "e"]
theorem st_l_told {a0 a1 a2 : V} : L2.start N_l_told [a0, a1, a2] = [some a0, some a1, some a2, none, none] := rfl
def t_l_told (K : PySem.W.Frag) : TS :=
  (tSeq ((tAsg ((tLst (tNil))) (gName 3)))
    ((tSeq ((tTry K 4 (fun W => ((tDrop ((tMakeS (C_Net K) (sp_Net_init K) (WE W) ((tCons (tVar 0) ((tCons (tVar 1) ((tCons (tVar 2) (tNil)))))))))))) [(.ref (C_BadName K), fun a cls d => ((tAsg ((tLst ((tCons ((tXf a cls d (C_BadName K) "name" (tVar 4))) (tNil))))) (gName 3)))), (.ref (C_BadNumber K), fun a cls d => ((tAsg ((tLst ((tCons ((tXf a cls d (C_BadNumber K) "number" (tVar 4))) (tNil))))) (gName 3)))), (.ref (C_DoubleEvent K), fun a cls d => ((tAsg ((tLst ((tCons ((tXf a cls d (C_DoubleEvent K) "name" (tVar 4))) (tNil))))) (gName 3)))), (.ref (C_SameEvent K), fun a cls d => ((tAsg ((tLst ((tCons ((tXf a cls d (C_SameEvent K) "name" (tVar 4))) (tNil))))) (gName 3)))), (.ref (C_UnknownEvent K), fun a cls d => ((tAsg ((tLst ((tCons ((tXf a cls d (C_UnknownEvent K) "name" (tVar 4))) (tNil))))) (gName 3)))), (.ref (C_TooMany K), fun a cls d => ((tAsg ((tLst ((tCons ((tXf a cls d (C_TooMany K) "count" (tVar 4))) ((tCons ((tXf a cls d (C_TooMany K) "limit" (tVar 4))) (tNil))))))) (gName 3))))]))
    ((tRet (tVar 3))))))

theorem pure_l_told (K : PySem.W.Frag) (XF : XFacts K exs) (vs : List V) (H : Hp) (Q : VK) (E : XK) (h : sp_l_told K vs H Q E) : t_l_told K { nx := fun _ H' => Q .non H', rt := Q } (L2.start N_l_told vs) H := by
  obtain ⟨T, e, s, ns, ss, rs, rfl, p, k⟩ := h
  rw [st_l_told]
  unfold t_l_told
  walk_at "st"
  refine ⟨Nat.zero_le _, fun L hL => ?_⟩
  have s0 := Same.new (o := .lst []) hL
  walk_at "st"
  refine wp_tryMk ?_
  walk_at "st"
  refine c_NetX (p.mono s0) (fun er e1 H2 s2 => ?_) (fun e0 a H2 s2 _ => ?_)
  · intro d H3 s3 hd hx
    have s03 := (s0.trans s2).trans s3
    have sh := alls_net p.an p.ar er e1
    have fin : ∀ q, H3 q = none → Q (.ref q) (upd H3 q (.lst (toL (some er)))) := fun q hq => k q _ (s03.trans (Same.new hq)) (s03.free hq) (by rw [e1]; exact upd_same)
    rcases sh with ⟨n, rfl⟩ | ⟨l, _, rfl⟩ | ⟨l, _, rfl⟩ | ⟨l, _, rfl⟩ | ⟨l, _, rfl⟩ | ⟨n, m, rfl⟩
    · refine wAs_no ((XF.m "BadNumber" (by decide +kernel) "BadName" (by decide +kernel)).trans (congrArg some (by decide +kernel))) ?_
      refine wAs_yes ((XF.m "BadNumber" (by decide +kernel) "BadNumber" (by decide +kernel)).trans (congrArg some (by decide +kernel))) fun a ha => ?_
      rw [show ([some (V.int T), some (.ref e), some (.ref s), some (.ref L), none] : L2.St).set 4 (some (.ref a)) = [some (V.int T), some (.ref e), some (.ref s), some (.ref L), some (.ref a)] from rfl]
      walk_at "st"
      refine wp_xfV rfl hx (by rfl) ?_
      walk_at "st"
      refine ⟨by simp [sizeLine_eq], fun q hq => ?_⟩
      walk_at "st"
      show tRet (tVar 3) { nx := fun _ H' => Q .non H', rt := Q } [some (.int T), some (.ref e), some (.ref s), some (.ref q), none] _
      walk_at "st"
      exact fin q hq
    · refine wAs_yes ((XF.m "BadName" (by decide +kernel) "BadName" (by decide +kernel)).trans (congrArg some (by decide +kernel))) fun a ha => ?_
      rw [show ([some (V.int T), some (.ref e), some (.ref s), some (.ref L), none] : L2.St).set 4 (some (.ref a)) = [some (V.int T), some (.ref e), some (.ref s), some (.ref L), some (.ref a)] from rfl]
      walk_at "st"
      refine wp_xfV rfl hx (by rfl) ?_
      walk_at "st"
      refine ⟨by simp [sizeLine_eq], fun q hq => ?_⟩
      walk_at "st"
      show tRet (tVar 3) { nx := fun _ H' => Q .non H', rt := Q } [some (.int T), some (.ref e), some (.ref s), some (.ref q), none] _
      walk_at "st"
      exact fin q hq
    · refine wAs_no ((XF.m "DoubleEvent" (by decide +kernel) "BadName" (by decide +kernel)).trans (congrArg some (by decide +kernel))) ?_
      refine wAs_no ((XF.m "DoubleEvent" (by decide +kernel) "BadNumber" (by decide +kernel)).trans (congrArg some (by decide +kernel))) ?_
      refine wAs_yes ((XF.m "DoubleEvent" (by decide +kernel) "DoubleEvent" (by decide +kernel)).trans (congrArg some (by decide +kernel))) fun a ha => ?_
      rw [show ([some (V.int T), some (.ref e), some (.ref s), some (.ref L), none] : L2.St).set 4 (some (.ref a)) = [some (V.int T), some (.ref e), some (.ref s), some (.ref L), some (.ref a)] from rfl]
      walk_at "st"
      refine wp_xfV rfl hx (by rfl) ?_
      walk_at "st"
      refine ⟨by simp [sizeLine_eq], fun q hq => ?_⟩
      walk_at "st"
      show tRet (tVar 3) { nx := fun _ H' => Q .non H', rt := Q } [some (.int T), some (.ref e), some (.ref s), some (.ref q), none] _
      walk_at "st"
      exact fin q hq
    · refine wAs_no ((XF.m "SameEvent" (by decide +kernel) "BadName" (by decide +kernel)).trans (congrArg some (by decide +kernel))) ?_
      refine wAs_no ((XF.m "SameEvent" (by decide +kernel) "BadNumber" (by decide +kernel)).trans (congrArg some (by decide +kernel))) ?_
      refine wAs_no ((XF.m "SameEvent" (by decide +kernel) "DoubleEvent" (by decide +kernel)).trans (congrArg some (by decide +kernel))) ?_
      refine wAs_yes ((XF.m "SameEvent" (by decide +kernel) "SameEvent" (by decide +kernel)).trans (congrArg some (by decide +kernel))) fun a ha => ?_
      rw [show ([some (V.int T), some (.ref e), some (.ref s), some (.ref L), none] : L2.St).set 4 (some (.ref a)) = [some (V.int T), some (.ref e), some (.ref s), some (.ref L), some (.ref a)] from rfl]
      walk_at "st"
      refine wp_xfV rfl hx (by rfl) ?_
      walk_at "st"
      refine ⟨by simp [sizeLine_eq], fun q hq => ?_⟩
      walk_at "st"
      show tRet (tVar 3) { nx := fun _ H' => Q .non H', rt := Q } [some (.int T), some (.ref e), some (.ref s), some (.ref q), none] _
      walk_at "st"
      exact fin q hq
    · refine wAs_no ((XF.m "UnknownEvent" (by decide +kernel) "BadName" (by decide +kernel)).trans (congrArg some (by decide +kernel))) ?_
      refine wAs_no ((XF.m "UnknownEvent" (by decide +kernel) "BadNumber" (by decide +kernel)).trans (congrArg some (by decide +kernel))) ?_
      refine wAs_no ((XF.m "UnknownEvent" (by decide +kernel) "DoubleEvent" (by decide +kernel)).trans (congrArg some (by decide +kernel))) ?_
      refine wAs_no ((XF.m "UnknownEvent" (by decide +kernel) "SameEvent" (by decide +kernel)).trans (congrArg some (by decide +kernel))) ?_
      refine wAs_yes ((XF.m "UnknownEvent" (by decide +kernel) "UnknownEvent" (by decide +kernel)).trans (congrArg some (by decide +kernel))) fun a ha => ?_
      rw [show ([some (V.int T), some (.ref e), some (.ref s), some (.ref L), none] : L2.St).set 4 (some (.ref a)) = [some (V.int T), some (.ref e), some (.ref s), some (.ref L), some (.ref a)] from rfl]
      walk_at "st"
      refine wp_xfV rfl hx (by rfl) ?_
      walk_at "st"
      refine ⟨by simp [sizeLine_eq], fun q hq => ?_⟩
      walk_at "st"
      show tRet (tVar 3) { nx := fun _ H' => Q .non H', rt := Q } [some (.int T), some (.ref e), some (.ref s), some (.ref q), none] _
      walk_at "st"
      exact fin q hq
    · refine wAs_no ((XF.m "TooMany" (by decide +kernel) "BadName" (by decide +kernel)).trans (congrArg some (by decide +kernel))) ?_
      refine wAs_no ((XF.m "TooMany" (by decide +kernel) "BadNumber" (by decide +kernel)).trans (congrArg some (by decide +kernel))) ?_
      refine wAs_no ((XF.m "TooMany" (by decide +kernel) "DoubleEvent" (by decide +kernel)).trans (congrArg some (by decide +kernel))) ?_
      refine wAs_no ((XF.m "TooMany" (by decide +kernel) "SameEvent" (by decide +kernel)).trans (congrArg some (by decide +kernel))) ?_
      refine wAs_no ((XF.m "TooMany" (by decide +kernel) "UnknownEvent" (by decide +kernel)).trans (congrArg some (by decide +kernel))) ?_
      refine wAs_yes ((XF.m "TooMany" (by decide +kernel) "TooMany" (by decide +kernel)).trans (congrArg some (by decide +kernel))) fun a ha => ?_
      rw [show ([some (V.int T), some (.ref e), some (.ref s), some (.ref L), none] : L2.St).set 4 (some (.ref a)) = [some (V.int T), some (.ref e), some (.ref s), some (.ref L), some (.ref a)] from rfl]
      walk_at "st"
      refine wp_xfV rfl hx (by rfl) ?_
      walk_at "st"
      refine wp_xfV rfl hx (by rfl) ?_
      walk_at "st"
      refine ⟨by simp [sizeLine_eq], fun q hq => ?_⟩
      walk_at "st"
      show tRet (tVar 3) { nx := fun _ H' => Q .non H', rt := Q } [some (.int T), some (.ref e), some (.ref s), some (.ref q), none] _
      walk_at "st"
      exact fin q hq
  · walk_at "st"
    refine k L H2 (s0.trans s2) hL ?_
    rw [e0]
    exact s2 _ _ upd_same
theorem len_l_told (K : PySem.W.Frag) (vs : List V) (H : Hp) (Q : VK) (E : XK) (h : sp_l_told K vs H Q E) : vs.length = 3 := by
  obtain ⟨_, _, _, _, _, _, rfl, _⟩ := h
  rfl
theorem c_l_told {K : PySem.W.Frag} {T : Int} {e s : Addr} {ns : List (List Nat)} {ss : List V} {rs : List Row} {H : Hp} {Q : VK} {E : XK} (p : Prt H e s ns ss rs) (k : ∀ (p : Addr) H', Same H H' → H p = none → H' p = some (.lst (toL (cNet T ns rs))) → Q (.ref p) H') : sp_l_told K [.int T, .ref e, .ref s] H Q E := ⟨T, e, s, ns, ss, rs, rfl, p, k⟩
theorem cEvs_ok : ∀ {ns bef : List (List Nat)}, (∀ l ∈ ns, Nm l) → (bef ++ ns).Nodup → cEvs bef ns = none
  | [], _, _, _ => rfl
  | l :: r, bef, h, nd => by
    have h1 : cEv l bef = none := by
      unfold cEv cName
      rw [if_pos (nm_iff.mpr (h l List.mem_cons_self)), if_neg]
      · rfl
      · intro hm
        have := (List.nodup_append.mp nd).2.2 l hm l List.mem_cons_self
        exact this rfl
    show (cEv l bef).or (cEvs (bef ++ [l]) r) = none
    rw [h1, Option.none_or]
    exact cEvs_ok (fun y hy => h y (List.mem_cons_of_mem _ hy)) (by rw [List.append_assoc]; exact nd)
theorem cFold_ok {α : Type} {f : α → Option Er} : ∀ {xs : List α}, (∀ x ∈ xs, f x = none) → cFold f xs = none
  | [], _ => rfl
  | x :: r, h => by
    show (f x).or (cFold f r) = none
    rw [h x List.mem_cons_self, Option.none_or]
    exact cFold_ok fun y hy => h y (List.mem_cons_of_mem _ hy)
theorem cNet_ok {T : Int} {ns : List (List Nat)} {rs : List Row} (ok : OkNs T ns) (h : ∀ r ∈ rs, OkR T ns r) (hl : rs.length ≤ 24) : cNet T ns rs = none := by
  have t0 := ok.t0
  have t1 := ok.t1
  have f := ok.few
  have e1 : cRng T 3 120 = none := if_pos ⟨t0, t1⟩
  have e2 : cCnt ns.length 12 = none := if_pos (by omega)
  have e3 : cEvs [] ns = none := cEvs_ok ok.nm ok.nodup
  have e4 : cCnt rs.length 24 = none := if_pos (by omega)
  have e5 : cFold (cSp T ns) rs = none := cFold_ok fun r hr => by
    have o := h r hr
    have k1 : cFold (cK1 ns) [r.u, r.v] = none := cFold_ok fun x hx => by
      simp only [List.mem_cons, List.not_mem_nil, or_false] at hx
      rcases hx with rfl | rfl
      · exact if_pos o.u
      · exact if_pos o.v
    have k2 : cRng r.lo 0 (T - 1) = none := if_pos ⟨o.l0, o.l1⟩
    have k3 : cRng r.hi r.lo (r.lo + T - 3) = none := if_pos ⟨o.h0, o.h1⟩
    have k4 : cRng r.w 0 99 = none := if_pos ⟨o.w0, o.w1⟩
    unfold cSp
    rw [k1, k2, k3, k4, if_neg o.ne]
    rfl
  unfold cNet
  rw [e1, e2, e3, e4, e5]
  rfl
def bD (bs : List Bool) : List PyData := bs.map .bool
section
variable {K : PySem.W.Frag} {H : Hp} {Q : VK} {a b : Addr}
theorem dp_bools : ∀ bs : List Bool, DpAll K H (bs.map V.bl) (bD bs)
  | [] => .nil
  | b :: bs => .cons (.bl b) (dp_bools bs)
theorem sh_bools : ∀ bs : List Bool, PyData.canLayAll0 (bD bs) = true ∧ PyData.depthAll (bD bs) = 0
  | [] => ⟨rfl, rfl⟩
  | b :: bs => by
    obtain ⟨h1, h2⟩ := sh_bools bs
    refine ⟨?_, ?_⟩
    · show (true && PyData.canLayAll0 (bD bs)) = true
      rw [h1]; rfl
    · show max 0 (PyData.depthAll (bD bs)) = 0
      rw [h2]; rfl
theorem eqv_bools : ∀ bs : List Bool, PyData.eqvAll (bD bs) (bD bs) = true
  | [] => rfl
  | b :: bs => by
    show (PyData.eqv (.bool b) (.bool b) && PyData.eqvAll (bD bs) (bD bs)) = true
    rw [eqv_bools bs]
    cases b <;> rfl
theorem wp_neBs {bs : List Bool} (h1 : H a = some (.lst (bs.map V.bl))) (h2 : H b = some (.lst (bs.map V.bl))) (q : Q (.bl false) H) : rNeD K (.ref a) (.ref b) H Q := by
  have sh : SeqAt.shaped (.list (bD bs)) = true := by
    obtain ⟨z1, z2⟩ := sh_bools bs
    show (PyData.canLayAll0 (bD bs) && decide (PyData.depthAll (bD bs) + 1 ≤ 64)) = true
    rw [z1, z2]; rfl
  refine ⟨.list (bD bs), .list (bD bs), .lst (sq_of h1) (dp_bools _), .lst (sq_of h2) (dp_bools _), sh, sh, ?_⟩
  show Q (.bl (!PyData.eqvAll (bD bs) (bD bs))) H
  rw [eqv_bools]
  exact q
theorem wp_eqNil {xs : List V} {ds : List PyData} (h1 : H a = some (.lst xs)) (h2 : H b = some (.lst [])) (hd : DpAll K H xs ds) (sh : SeqAt.shaped (.list ds) = true) (q : Q (.bl (decide (ds = []))) H) : rEqD K (.ref a) (.ref b) H Q := by
  refine ⟨.list ds, .list [], .lst (sq_of h1) hd, .lst (sq_of h2) .nil, sh, rfl, ?_⟩
  show Q (.bl (PyData.eqvAll ds [])) H
  cases ds with
  | nil => exact q
  | cons d r => exact q
theorem Shp.dp {er : Er} (h : Shp er) : ∃ d ds, DpAll K H (duL (some er)) (d :: ds) ∧ SeqAt.shaped (.list (d :: ds)) = true := by
  rcases h with ⟨n, rfl⟩ | ⟨l, al, rfl⟩ | ⟨l, al, rfl⟩ | ⟨l, al, rfl⟩ | ⟨l, al, rfl⟩ | ⟨n, m, rfl⟩
  · have z : PyData.strOk ("BadNumber" : Str) = true := by decide +kernel
    refine ⟨_, _, .cons (.str _) (.cons (.int _) .nil), ?_⟩
    show ((PyData.strOk ("BadNumber" : Str) && (true && true)) && decide (max 0 (max 0 0) + 1 ≤ 64)) = true
    rw [z]; rfl
  · have z : PyData.strOk ("BadName" : Str) = true := by decide +kernel
    refine ⟨_, _, .cons (.str _) (.cons (.str _) .nil), ?_⟩
    show ((PyData.strOk ("BadName" : Str) && (PyData.strOk (S l) && true)) && decide (max 0 (max 0 0) + 1 ≤ 64)) = true
    rw [z, asc_ok al]; rfl
  · have z : PyData.strOk ("DoubleEvent" : Str) = true := by decide +kernel
    refine ⟨_, _, .cons (.str _) (.cons (.str _) .nil), ?_⟩
    show ((PyData.strOk ("DoubleEvent" : Str) && (PyData.strOk (S l) && true)) && decide (max 0 (max 0 0) + 1 ≤ 64)) = true
    rw [z, asc_ok al]; rfl
  · have z : PyData.strOk ("SameEvent" : Str) = true := by decide +kernel
    refine ⟨_, _, .cons (.str _) (.cons (.str _) .nil), ?_⟩
    show ((PyData.strOk ("SameEvent" : Str) && (PyData.strOk (S l) && true)) && decide (max 0 (max 0 0) + 1 ≤ 64)) = true
    rw [z, asc_ok al]; rfl
  · have z : PyData.strOk ("UnknownEvent" : Str) = true := by decide +kernel
    refine ⟨_, _, .cons (.str _) (.cons (.str _) .nil), ?_⟩
    show ((PyData.strOk ("UnknownEvent" : Str) && (PyData.strOk (S l) && true)) && decide (max 0 (max 0 0) + 1 ≤ 64)) = true
    rw [z, asc_ok al]; rfl
  · have z : PyData.strOk ("TooMany" : Str) = true := by decide +kernel
    refine ⟨_, _, .cons (.str _) (.cons (.int _) (.cons (.int _) .nil)), ?_⟩
    show ((PyData.strOk ("TooMany" : Str) && (true && (true && true))) && decide (max 0 (max 0 (max 0 0)) + 1 ≤ 64)) = true
    rw [z]; rfl
theorem Shp.sm {er : Er} (h : Shp er) {n : Nat} : ∀ x ∈ toL (some er), Sm H (n + 1) x x := by
  rcases h with ⟨n, rfl⟩ | ⟨l, al, rfl⟩ | ⟨l, al, rfl⟩ | ⟨l, al, rfl⟩ | ⟨l, al, rfl⟩ | ⟨n, m, rfl⟩ <;> intro x hx
  · rw [List.mem_singleton.mp hx]; exact sm_int
  · rw [List.mem_singleton.mp hx]; exact sm_str
  · rw [List.mem_singleton.mp hx]; exact sm_str
  · rw [List.mem_singleton.mp hx]; exact sm_str
  · rw [List.mem_singleton.mp hx]; exact sm_str
  · have hx2 : x ∈ [V.int n, V.int m] := hx
    simp only [List.mem_cons, List.not_mem_nil, or_false] at hx2
    rcases hx2 with rfl | rfl
    · exact sm_int
    · exact sm_int
theorem toL_len {er : Er} (h : Shp er) : (toL (some er)).length ≤ 2 := by
  rcases h with ⟨n, rfl⟩ | ⟨l, al, rfl⟩ | ⟨l, al, rfl⟩ | ⟨l, al, rfl⟩ | ⟨l, al, rfl⟩ | ⟨n, m, rfl⟩ <;> simp [toL, eN, eS, eT]
end
theorem kinds_eq : ([.str (S Y_BadName), .str (S Y_BadNumber), .str (S Y_DoubleEvent), .str (S Y_SameEvent), .str (S Y_TooMany), .str (S Y_UnknownEvent), .str (S Y_UnknownSpan), .str (S Y_WrongNames)] : List V) = flK.map V.str := by
  have e0 : S Y_BadName = ("BadName" : Str) := by decide +kernel
  have e1 : S Y_BadNumber = ("BadNumber" : Str) := by decide +kernel
  have e2 : S Y_DoubleEvent = ("DoubleEvent" : Str) := by decide +kernel
  have e3 : S Y_SameEvent = ("SameEvent" : Str) := by decide +kernel
  have e4 : S Y_TooMany = ("TooMany" : Str) := by decide +kernel
  have e5 : S Y_UnknownEvent = ("UnknownEvent" : Str) := by decide +kernel
  have e6 : S Y_UnknownSpan = ("UnknownSpan" : Str) := by decide +kernel
  have e7 : S Y_WrongNames = ("WrongNames" : Str) := by decide +kernel
  rw [e0, e1, e2, e3, e4, e5, e6, e7]
  rfl
def eqf (c : Str) : V → V
  | .str z => .bl (decide (z = c))
  | _ => .non
theorem eqf_map {c : Str} {ks : List Str} : (ks.map V.str).map (eqf c) = (ks.map fun k => decide (c = k)).map V.bl := by
  rw [List.map_map, List.map_map]
  refine List.map_congr_left fun k _ => ?_
  show V.bl (decide (k = c)) = V.bl (decide (c = k))
  rw [decide_eq_decide.mpr (eq_comm (a := k) (b := c))]
theorem flL_map {er : Er} : flL (some er) = (true :: flK.map fun k => decide (er.c = k)).map V.bl := by
  show V.bl true :: _ = V.bl true :: List.map V.bl _
  rw [List.map_map]
  rfl
def sp_law (K : PySem.W.Frag) : Sp := fun vs H Q _ => ∃ (a : Addr) (ns : List Int), vs = [.ref a] ∧ SqL K H a (ns.map V.int) ∧ ns.length ≤ 63 ∧ ∀ H', Q (.bl true) H'
abbrev N_law : List Str := ["_law_script", "_law_pool_here", "_law_length_here", "_law_names_here", "_law_spans_here", "_law_net", "_law_k", "_law_due_here", "_law_events", "_law_rows", "_law_flags_here", "_law_good", "_law_kinds", "_law_kind"]
theorem st_law {a0 : V} : L2.start N_law [a0] = [some a0, none, none, none, none, none, none, none, none, none, none, none, none, none] := rfl
def t_law (K : PySem.W.Frag) : TS :=
  (tSeq ((tAsg ((tCall (sp_l_pool K) [] E0 ((tCons (tVar 0) (tNil))))) (gName 1)))
    ((tSeq ((tAsg ((tCall (sp_l_length K) [] E0 ((tCons (tVar 1) ((tCons (tC (.int 120)) (tNil))))))) (gName 2)))
    ((tSeq ((tAsg ((tCall (sp_l_names K) [] E0 ((tCons (tVar 1) ((tCons ((tCall (sp_l_size K) [] E0 ((tCons (tVar 1) ((tCons (tC (.int 12)) (tNil))))))) (tNil))))))) (gName 3)))
    ((tSeq ((tAsg ((tCall (sp_l_spans K) [] E0 ((tCons (tVar 1) ((tCons (tVar 2) ((tCons (tVar 3) ((tCons (tC (.int 24)) (tNil))))))))))) (gName 4)))
    ((tSeq ((tAsg ((tLst ((tCons (tVar 2) ((tCons (tVar 3) ((tCons (tVar 4) (tNil))))))))) (gName 5)))
    ((tSeq ((tFor ((iRng1 ((tCons ((tCall (sp_l_draw K) [] E0 ((tCons (tVar 1) ((tCons (tC (.int 3)) (tNil))))))) (tNil))))) (gName 6) ((tAsg ((tCall (sp_l_spoilt K) [] E0 ((tCons (tVar 1) ((tCons (tVar 2) ((tCons (tVar 5) (tNil))))))))) (gName 5)))))
    ((tSeq ((tAsg ((tCall (sp_l_due K) [] E0 ((tCons ((tCall (sp_l_tests K) [] E0 ((tCons ((tOp (rIxL K) (tVar 5) (tC (.int 0)))) ((tCons ((tOp (rIxL K) (tVar 5) (tC (.int 1)))) ((tCons ((tOp (rIxL K) (tVar 5) (tC (.int 2)))) (tNil))))))))) (tNil))))) (gName 7)))
    ((tSeq ((tIfS ((tTest (tOp (rNeD K) ((tCall (sp_l_flags K) [] E0 ((tCons (tVar 2) ((tCons ((tCB (rListS K) ((tCons (tVar 3) (tNil))))) ((tCons ((tCB (rListS K) ((tCons (tVar 4) (tNil))))) (tNil))))))))) ((tLst (tNil)))))) ((tRet (tC (.bl false)))) (tNext)))
    ((tSeq ((tAsg ((tCB (rListS K) ((tCons ((tOp (rIxL K) (tVar 5) (tC (.int 1)))) (tNil))))) (gName 8)))
    ((tSeq ((tAsg ((tCB (rListS K) ((tCons ((tOp (rIxL K) (tVar 5) (tC (.int 2)))) (tNil))))) (gName 9)))
    ((tSeq ((tAsg ((tCall (sp_l_flags K) [] E0 ((tCons ((tOp (rIxL K) (tVar 5) (tC (.int 0)))) ((tCons (tVar 8) ((tCons (tVar 9) (tNil))))))))) (gName 10)))
    ((tSeq ((tIfS ((tOr ((tTest (tOp (rNeD K) (tVar 8) ((tOp (rIxL K) (tVar 5) (tC (.int 1))))))) ((tTest (tOp (rNeD K) (tVar 9) ((tOp (rIxL K) (tVar 5) (tC (.int 2))))))))) ((tRet (tC (.bl false)))) (tNext)))
    ((tSeq ((tIfS ((tTest (tOp (rEqD K) (tVar 7) ((tLst (tNil)))))) ((tSeq ((tIfS ((tTest (tOp (rNeD K) (tVar 10) ((tLst (tNil)))))) ((tRet (tC (.bl false)))) (tNext)))
    ((tSeq ((tAsg ((tMake (C_Net K) (sp_Net_init K) [] E0 ((tCons ((tOp (rIxL K) (tVar 5) (tC (.int 0)))) ((tCons (tVar 8) ((tCons (tVar 9) (tNil))))))))) (gName 11)))
    ((tSeq ((tIfS ((tOr ((tNot ((tB ((tCall (sp_l_same K 3) [] E0 ((tCons ((tProp (C_Net K) (sp_Net_round_length K) [] E0 (tVar 11))) ((tCons ((tOp (rIxL K) (tVar 5) (tC (.int 0)))) (tNil))))))))))) ((tNot ((tB ((tCall (sp_l_same K 3) [] E0 ((tCons ((tProp (C_Net K) (sp_Net_events K) [] E0 (tVar 11))) ((tCons ((tOp (rIxL K) (tVar 5) (tC (.int 1)))) (tNil))))))))))))) ((tRet (tC (.bl false)))) (tNext)))
    ((tRet ((tCall (sp_l_same K 3) [] E0 ((tCons ((tProp (C_Net K) (sp_Net_spans K) [] E0 (tVar 11))) ((tCons ((tOp (rIxL K) (tVar 5) (tC (.int 2)))) (tNil))))))))))))))) (tNext)))
    ((tSeq ((tAsg ((tLst ((tCons (tC (.str (S Y_BadName))) ((tCons (tC (.str (S Y_BadNumber))) ((tCons (tC (.str (S Y_DoubleEvent))) ((tCons (tC (.str (S Y_SameEvent))) ((tCons (tC (.str (S Y_TooMany))) ((tCons (tC (.str (S Y_UnknownEvent))) ((tCons (tC (.str (S Y_UnknownSpan))) ((tCons (tC (.str (S Y_WrongNames))) (tNil))))))))))))))))))) (gName 12)))
    ((tSeq ((tIfS ((tTest (tOp (rNeD K) (tVar 10) ((tOp rCat ((tLst ((tCons (tC (.bl true)) (tNil))))) ((tLc ((iList K (tVar 12))) ((gName 13)) (tYes) ((tOp rEq (tVar 13) ((tOp (rIxL K) (tVar 7) (tC (.int 0)))))) [13]))))))) ((tRet (tC (.bl false)))) (tNext)))
    ((tRet ((tCall (sp_l_same K 3) [] E0 ((tCons ((tCall (sp_l_told K) [] E0 ((tCons ((tOp (rIxL K) (tVar 5) (tC (.int 0)))) ((tCons (tVar 8) ((tCons (tVar 9) (tNil))))))))) ((tCons ((tSl (rSlL K) (tVar 7) (tPart (tC (.int 1))) tNoPart)) (tNil))))))))))))))))))))))))))))))))))))))

theorem pure_law (K : PySem.W.Frag) (vs : List V) (H : Hp) (Q : VK) (E : XK) (h : sp_law K vs H Q E) : t_law K { nx := fun _ H' => Q .non H', rt := Q } (L2.start N_law vs) H := by
  obtain ⟨a, cs, rfl, hx, hn, k⟩ := h
  rw [st_law]
  unfold t_law
  walk_at "st"
  refine c_l_pool hx hn fun P G0 H0 _ hs0 => ?_
  walk_at "st"
  refine c_l_length hs0 (by omega) fun T H1 t0 t1 hs1 => ?_
  walk_at "st"
  refine c_l_size hs1 (by omega) fun nn H2 n0 n1 hs2 => ?_
  walk_at "st"
  refine c_l_names hs2 (by omega) fun ns q G3 H3 el nnm nnd sG3 hq hs3 => ?_
  have ok : OkNs T ns := ⟨t0, by omega, by omega, nnd, nnm⟩
  walk_at "st"
  refine c_l_spans hs3 ok (by omega) hq fun s ss G4 H4 os _ _ hs' sG4 hs4 => ?_
  have hq4 := sG4 _ _ hq
  clear hs0 hs1 hs2 hs3
  obtain ⟨rs, rw'⟩ := rws_ex os.sp
  have er := rw'.len
  have fN := ok.few
  have fS := os.few
  have ascr : ∀ r ∈ rs, AscR r := fun r hr => (rw'.all ok.nm os.sp r hr).2
  have okr : ∀ r ∈ rs, OkR T ns r := fun r hr => (rw'.all ok.nm os.sp r hr).1
  have nmb : ∀ l ∈ ns, Asc l ∧ l.length ≤ 20 := fun l hl => ⟨nm_asc (ok.nm l hl), by have := (ok.nm l hl).len; omega⟩
  walk_at "st"
  refine ⟨by simp [sizeLine_eq], fun z0 hz0 => ?_⟩
  obtain ⟨G5, s5, hs5, gd5⟩ := Gd.mk' (T := T) (m := 24) hs4 hz0 hq4 hs' rw' nmb ascr (by omega) (by omega)
  revert hs5
  generalize upd H4 z0 (.lst [.int T, .ref q, .ref s]) = H5
  intro hs5
  walk_at "st"
  refine c_l_draw hs5 (by decide) fun d H6 d0 d1 hs6 => ?_
  walk_at "st"
  refine loop1 (by omega) (fun i σ' H' => ∃ y x T' ns' rs' G', σ' = [some (.ref a), some (.ref P.p), some (.int T), some (.ref q), some (.ref s), some y, x, none, none, none, none, none, none, none] ∧ Same G5 G' ∧ Sees P G' H' ∧ Gd G' y (24 + 40 * i) T' ns' rs') ⟨_, _, _, _, _, _, rfl, Same.refl _, hs6, gd5⟩ ?_ ?_
  · rintro i σ' H' hi ⟨y, x, T', ns', rs', G', rfl, sG, hs, gd⟩
    walk_at "st"
    refine c_l_spoilt hs gd (by omega) fun y2 T2 ns2 rs2 G2 H2 s2 hs2 gd2 => ?_
    walk_at "st"
    exact ⟨_, _, _, _, _, _, rfl, sG.trans s2, hs2, gd2⟩
  clear hs5 hs6 hs4
  rintro σ' H7 ⟨y, x, T', ns', rs', G7, rfl, sG, hs7, gd⟩
  have gdm : Gd G7 y 1000 T' ns' rs' := gd.mono (Same.refl _) (by omega)
  clear gd
  obtain ⟨p, pa, pb, ss', rfl, hp, hpa, hpb, hr', hn', har', f1, f2⟩ := gdm
  have hp7 := hs7.sub _ _ hp
  walk_at "st"
  refine c_l_tests hs7 hpa hpb hr' hn' f1 f2 fun tp txs G8 H8 s8 hs8 htp htr => ?_
  walk_at "st"
  refine c_l_due (hs8.sub _ _ htp) (htr.mono hs8.sub) fun du hdu => ?_
  rw [fst_tsts]
  obtain ⟨G9, hs9, s9, hdu9⟩ := hs8.new' (.lst (duL (cNet T' ns' rs'))) hdu
  have s79 := s8.trans s9
  revert hs9
  generalize upd H8 du (.lst (duL (cNet T' ns' rs'))) = H9
  intro hs9
  have hp9 := hs9.sub _ _ (s79 _ _ hp)
  have s59 := sG.trans s79
  have s49 := s5.trans s59
  walk_at "st"
  refine wp_listL (sq_of (hs9.sub _ _ (s49 _ _ hq4))) fun c1 w1 => ?_
  obtain ⟨G10, hs10, s10, i10⟩ := hs9.new' (.lst (ns.map sv)) w1
  walk_at "st"
  refine wp_listL (sq_of (hs10.sub _ _ (s10 _ _ (s49 _ _ hs')))) fun c2 w2 => ?_
  obtain ⟨G11, hs11, s11, i11⟩ := hs10.new' (.lst ss) w2
  revert hs11
  generalize upd (upd H9 c1 (.lst (ns.map sv))) c2 (.lst ss) = H11
  intro hs11
  have s411 := s49.trans (s10.trans s11)
  have prt0 : Prt H11 c1 c2 ns ss rs := ⟨hs11.sub _ _ (s11 _ _ i10), hs11.sub _ _ i11, (rw'.mono s411).mono hs11.sub, fun l hl => by have := (nmb l hl).2; omega, by omega, by omega, fun l hl => (nmb l hl).1, ascr⟩
  walk_at "st"
  refine c_l_flags prt0 fun fa H12 s12 _ hfa => ?_
  rw [cNet_ok ok okr (by omega)] at hfa
  have hs12 := hs11.same s12
  walk_at "st"
  refine ⟨Nat.zero_le _, fun e1 he1 => ?_⟩
  walk_at "st"
  refine wp_neBs (bs := []) (by rw [upd_ne (ne_of_none hfa he1)]; exact hfa) upd_same ?_
  obtain ⟨G13, hs13, s13, _⟩ := hs12.new' (.lst []) he1
  revert hs13
  generalize upd H12 e1 (.lst []) = H13
  intro hs13
  have s913 := (s10.trans s11).trans s13
  have s713 := s79.trans s913
  have hp13 := hs13.sub _ _ (s713 _ _ hp)
  clear prt0 hs9 hs10 hs11 hs12 hfa
  walk_at "st"
  refine wp_listL (sq_of (hs13.sub _ _ (s713 _ _ hpa))) fun ev hev => ?_
  obtain ⟨G14, hs14, s14, iev⟩ := hs13.new' (.lst (ns'.map sv)) hev
  have hp14 := hs14.sub _ _ (s14 _ _ (s713 _ _ hp))
  walk_at "st"
  refine wp_listL (sq_of (hs14.sub _ _ (s14 _ _ (s713 _ _ hpb)))) fun rw hrw => ?_
  obtain ⟨G15, hs15, s15, irw⟩ := hs14.new' (.lst ss') hrw
  have s715 := s713.trans (s14.trans s15)
  revert hs15
  generalize upd (upd H13 ev (.lst (ns'.map sv))) rw (.lst ss') = H15
  intro hs15
  have hp15 := hs15.sub _ _ (s715 _ _ hp)
  have prt : Prt H15 ev rw ns' ss' rs' := ⟨hs15.sub _ _ (s15 _ _ iev), hs15.sub _ _ irw, (hr'.mono s715).mono hs15.sub, fun l hl => by have := (hn' l hl).2; omega, f1, f2, fun l hl => (hn' l hl).1, har'⟩
  walk_at "st"
  refine c_l_flags prt fun fa H16 s16 _ hfa => ?_
  have hs16 := hs15.same s16
  have hp16 := s16 _ _ hp15
  have prt16 := prt.mono s16
  walk_at "st"
  refine wp_neN prt16.e (hs16.sub _ _ (s715 _ _ hpa)) prt16.an prt16.an ?_
  rw [decide_eq_true rfl]
  walk_at "st"
  refine wp_neR prt16.s (hs16.sub _ _ (s715 _ _ hpb)) prt16.r ((hr'.mono s715).mono hs16.sub) har' har' ?_
  rw [decide_eq_true rfl]
  walk_at "st"
  refine ⟨Nat.zero_le _, fun e2 he2 => ?_⟩
  obtain ⟨G17, hs17, s17, ie2⟩ := hs16.new' (.lst []) he2
  have s1617 := Same.new (o := .lst []) he2
  have prt17 := prt16.mono s1617
  have hfa17 := s1617 _ _ hfa
  revert hs17 prt17 hfa17
  have s717 := s715.trans s17
  have hdu17 : G17 du = some (.lst (duL (cNet T' ns' rs'))) := (s913.trans ((s14.trans s15).trans s17)) _ _ hdu9
  clear s1617
  generalize upd H16 e2 (.lst []) = H17
  intro hs17 prt17 hfa17
  have hp17 := hs17.sub _ _ (s717 _ _ hp)
  have hde := hs17.sub _ _ hdu17
  walk_at "st"
  cases hc : cNet T' ns' rs' with
  | none =>
    rw [hc] at hde hfa17
    refine wp_eqNil hde (hs17.sub _ _ ie2) .nil rfl ?_
    rw [decide_eq_true rfl]
    walk_at "st"
    refine ⟨Nat.zero_le _, fun e3 he3 => ?_⟩
    have s3 := Same.new (o := .lst []) he3
    walk_at "st"
    refine wp_neBs (bs := []) (s3 _ _ hfa17) upd_same ?_
    have prt18 := prt17.mono s3
    have hs18 := hs17.same s3
    revert prt18 hs18
    generalize upd H17 e3 (.lst []) = H18
    intro prt18 hs18
    have hp18 := hs18.sub _ _ (s717 _ _ hp)
    walk_at "st"
    refine c_NetX prt18 (fun er e1 => by rw [hc] at e1; cases e1) (fun _ n H19 s19 net => ?_)
    have hp19 := s19 _ _ hp18
    have hs19 := hs18.same s19
    walk_at "st"
    refine c_Net_round_length net ?_
    walk_at "st"
    refine c_l_same sm_int fun H20 s20 => ?_
    have net20 := net.mono s20
    have hs20 := hs19.same s20
    have hp20 := s20 _ _ hp19
    walk_at "st"
    refine c_Net_events net20 fun q1 hq1 => ?_
    have s21 := Same.new (o := .lst (ns'.map sv)) hq1
    have hp21 := s21 _ _ hp20
    walk_at "st"
    refine c_l_same (sm_names upd_same (s21 _ _ (hs20.sub _ _ (s717 _ _ hpa))) f1) fun H22 s22 => ?_
    have net22 := net20.mono (s21.trans s22)
    have hs22 := hs20.same (s21.trans s22)
    have hp22 := s22 _ _ hp21
    walk_at "st"
    refine c_Net_spans net22 fun q2 hq2 => ?_
    have s23 := Same.new (o := .lst ss') hq2
    have hp23 := s23 _ _ hp22
    walk_at "st"
    have rr := (((hr'.mono s717).mono hs22.sub).mono s23)
    refine c_l_same (sm_rws upd_same (s23 _ _ (hs22.sub _ _ (s717 _ _ hpb))) rr rr f2) fun H24 s24 => ?_
    exact k _
  | some er =>
    rw [hc] at hde hfa17
    have sh := alls_net prt17.an prt17.ar er hc
    obtain ⟨dd, ds, dp, shp⟩ := sh.dp (K := K) (H := H17)
    refine wp_eqNil hde (hs17.sub _ _ ie2) dp shp ?_
    rw [decide_eq_false (by simp)]
    walk_at "st"
    refine ⟨by simp [sizeLine_eq], fun kd hkd => ?_⟩
    have s3 := Same.new (o := .lst [.str (S Y_BadName), .str (S Y_BadNumber), .str (S Y_DoubleEvent), .str (S Y_SameEvent), .str (S Y_TooMany), .str (S Y_UnknownEvent), .str (S Y_UnknownSpan), .str (S Y_WrongNames)]) hkd
    have ikd : upd H17 kd (.lst [.str (S Y_BadName), .str (S Y_BadNumber), .str (S Y_DoubleEvent), .str (S Y_SameEvent), .str (S Y_TooMany), .str (S Y_UnknownEvent), .str (S Y_UnknownSpan), .str (S Y_WrongNames)]) kd = _ := upd_same
    have prt18 := prt17.mono s3
    have hs18 := hs17.same s3
    have hfa18 := s3 _ _ hfa17
    have hde18 := s3 _ _ hde
    revert prt18 hs18 hfa18 hde18 ikd
    generalize upd H17 kd _ = H18
    intro ikd prt18 hs18 hfa18 hde18
    walk_at "st"
    refine ⟨by simp [sizeLine_eq], fun t1 ht1 => ?_⟩
    have s4 := Same.new (o := .lst [.bl true]) ht1
    have it1 : upd H18 t1 (.lst [.bl true]) t1 = _ := upd_same
    have prt19 := prt18.mono s4
    have hs19 := hs18.same s4
    have hfa19 := s4 _ _ hfa18
    have hde19 := s4 _ _ hde18
    have ikd19 := s4 _ _ ikd
    revert prt19 hs19 hfa19 hde19 ikd19 it1
    generalize upd H18 t1 _ = H19
    intro it1 prt19 hs19 hfa19 hde19 ikd19
    walk_at "st"
    have hd1 : H19 du = some (.lst (.str er.c :: toL (some er))) := hde19
    refine lcMapL (sq_of ikd19) (by simp) (fun z => [some (.ref a), some (.ref P.p), some (.int T), some (.ref q), some (.ref s), some (.ref p), x, some (.ref du), some (.ref ev), some (.ref rw), some (.ref fa), none, some (.ref kd), some z]) (fun z => ⟨rfl, rfl⟩) (eqf er.c) (fun z H20 hz s20 R hR => ?_) (fun D H20 hD s20 hD20 => ?_)
    · have hd20 := s20 _ _ hd1
      obtain ⟨y, rfl⟩ : ∃ y, z = .str y := by
        rw [kinds_eq] at hz
        obtain ⟨y, _, rfl⟩ := List.mem_map.mp hz
        exact ⟨y, rfl⟩
      walk_at "st"
      exact hR _ (Same.refl _)
    rw [kinds_eq, eqf_map] at hD20
    refine wp_cat (s20 _ _ it1) hD20 (by rw [List.length_map, List.length_map]; decide) fun c3 hc3 => ?_
    have s34 := s20.trans (Same.new (o := .lst ([.bl true] ++ (flK.map fun k => decide (er.c = k)).map V.bl)) hc3)
    rw [flL_map] at hfa19
    walk_at "st"
    refine wp_neBs (s34 _ _ hfa19) upd_same ?_
    have prt21 := prt19.mono s34
    have hs21 := hs19.same s34
    have hd21 := s34 _ _ hd1
    revert prt21 hs21 hd21
    generalize upd H20 c3 _ = H21
    intro prt21 hs21 hd21
    have hp21 := hs21.sub _ _ (s717 _ _ hp)
    walk_at "st"
    refine c_l_told prt21 fun to H22 s22 _ hto => ?_
    rw [hc] at hto
    have hd22 := s22 _ _ hd21
    walk_at "st"
    refine wp_sliceL (sq_of hd22) fun c4 hc4 => ?_
    rw [cutG_from1 (by omega) (by rw [List.length_cons]; omega)]
    have e4 : (V.str er.c :: toL (some er)).drop (1 : Int).toNat = toL (some er) := rfl
    rw [e4]
    walk_at "st"
    refine c_l_same (sm_lst (by rw [upd_ne (ne_of_none hto hc4)]; exact hto) upd_same (by have := toL_len sh; omega) sh.sm) fun H23 _ => ?_
    exact k _
theorem len_law (K : PySem.W.Frag) (vs : List V) (H : Hp) (Q : VK) (E : XK) (h : sp_law K vs H Q E) : vs.length = 1 := by
  obtain ⟨a, ns, rfl, _⟩ := h
  rfl
structure Txt (K : PySem.W.Frag) (mg : Str → Option Value) : Prop where
  f_range : mg "range" = none
  f_list : mg "list" = none
  cls_Net : Cls K (C_Net K)
  na_Net__round_length : NoAttr K (C_Net K) "_round_length"
  na_Net__events : NoAttr K (C_Net K) "_events"
  na_Net__spans : NoAttr K (C_Net K) "_spans"
  g_Net : mg "Net" = some (.ref (C_Net K))
  rd_Net : ClX.CRead K (C_Net K) (.type "type")
  cv_Net_EVENTS : ∃ u, ClX.CVal K (C_Net K) (.type "type") "EVENTS" (.int 12) u
  f_len : mg "len" = none
  f_enumerate : mg "enumerate" = none
  cv_Net_SPANS : ∃ u, ClX.CVal K (C_Net K) (.type "type") "SPANS" (.int 24) u
  cv_Net_LONGEST : ∃ u, ClX.CVal K (C_Net K) (.type "type") "LONGEST" (.int 120) u
  cv_Net_SHORTEST : ∃ u, ClX.CVal K (C_Net K) (.type "type") "SHORTEST" (.int 3) u
  g_BadNumber : mg "BadNumber" = some (.ref (C_BadNumber K))
  ox_BadNumber : OexC K (C_BadNumber K)
  na_BadNumber_number : NoAttr K (C_BadNumber K) "number"
  g_TooMany : mg "TooMany" = some (.ref (C_TooMany K))
  ox_TooMany : OexC K (C_TooMany K)
  na_TooMany_count : NoAttr K (C_TooMany K) "count"
  na_TooMany_limit : NoAttr K (C_TooMany K) "limit"
  g_DoubleEvent : mg "DoubleEvent" = some (.ref (C_DoubleEvent K))
  ox_DoubleEvent : OexC K (C_DoubleEvent K)
  na_DoubleEvent_name : NoAttr K (C_DoubleEvent K) "name"
  g_BadName : mg "BadName" = some (.ref (C_BadName K))
  ox_BadName : OexC K (C_BadName K)
  na_BadName_name : NoAttr K (C_BadName K) "name"
  c_LONGEST_NAME : ∃ u, mg "LONGEST_NAME" = some u ∧ RelV (.int 8) u
  c_LETTERS : ∃ u, mg "LETTERS" = some u ∧ RelV (.str (S Z26)) u
  c_DIGITS : ∃ u, mg "DIGITS" = some u ∧ RelV (.str (S Z10)) u
  f_all : mg "all" = none
  g_SameEvent : mg "SameEvent" = some (.ref (C_SameEvent K))
  ox_SameEvent : OexC K (C_SameEvent K)
  na_SameEvent_name : NoAttr K (C_SameEvent K) "name"
  cv_Net_HEAVIEST : ∃ u, ClX.CVal K (C_Net K) (.type "type") "HEAVIEST" (.int 99) u
  g_UnknownEvent : mg "UnknownEvent" = some (.ref (C_UnknownEvent K))
  ox_UnknownEvent : OexC K (C_UnknownEvent K)
  na_UnknownEvent_name : NoAttr K (C_UnknownEvent K) "name"
  f_int : mg "int" = none
  f_str : mg "str" = none
  f_min : mg "min" = none
  f_max : mg "max" = none
  f_bool : mg "bool" = none
  f_isinstance : mg "isinstance" = none
  f_dict : mg "dict" = none
  f_tuple : mg "tuple" = none
  g_MinuteError : mg "MinuteError" = some (.ref (C_MinuteError K))
  g_WrongNames : mg "WrongNames" = some (.ref (C_WrongNames K))
  g_UnknownSpan : mg "UnknownSpan" = some (.ref (C_UnknownSpan K))
  f_ValueError : mg "ValueError" = none
  xf_BadName : XfC K (C_BadName K)
  xf_BadNumber : XfC K (C_BadNumber K)
  xf_DoubleEvent : XfC K (C_DoubleEvent K)
  xf_SameEvent : XfC K (C_SameEvent K)
  xf_UnknownEvent : XfC K (C_UnknownEvent K)
  xf_TooMany : XfC K (C_TooMany K)
  xf : XFacts K exs
section
variable {P : Program} {w : World} {K : PySem.W.Frag} {mg : Str → Option Value} {base : Heap}
theorem sc_check_range : FnScope N_check_range ["number", "low", "high"] (defScope s_check_range) := ⟨rfl, rfl, rfl, by decide +kernel, rfl, by decide +kernel, by decide +kernel⟩
theorem ok_check_range {f : Addr} {fd : FuncData} (F : FunD K "check_range" "check_range" (defArgs s_check_range) (defBody s_check_range) (defScope s_check_range) [] [] f fd) (T : Txt K mg) (GX_BadNumber : XMk P w K mg base 1 "BadNumber" (C_BadNumber K) (spX (C_BadNumber K) ["number"])) : FnOk P w K mg base (L2.CX P w) 3 f fd ["number", "low", "high"] (sp_check_range K) := by
  refine F.ok sc_check_range (len_check_range K) (fun cdv A outer s H vs Q E hr h => ⟨t_check_range K E, ?_, pure_check_range K vs H Q E h⟩)
  exact (pss_one (ps_if (pt_not (pt_chain op_le op_le (pv 1) (pv 0) (pv 2))) (pss_one (ps_rs GX_BadNumber hr (by omega) rfl tkOf (by rfl) (pa_cons (pv 0) pa_nil))) pss_nil))
theorem sc_check_round_length : FnScope N_check_round_length ["round_length"] (defScope s_check_round_length) := ⟨rfl, rfl, rfl, by decide +kernel, rfl, by decide +kernel, by decide +kernel⟩
theorem ok_check_round_length {f : Addr} {fd : FuncData} (F : FunD K "check_round_length" "check_round_length" (defArgs s_check_round_length) (defBody s_check_round_length) (defScope s_check_round_length) [] [] f fd) (T : Txt K mg) (G_check_range : CalX P w K mg base (3) "check_range" (sp_check_range K) []) : FnOk P w K mg base (L2.CX P w) 4 f fd ["round_length"] (sp_check_round_length K) := by
  refine F.ok sc_check_round_length (len_check_round_length K) (fun cdv A outer s H vs Q E hr h => ⟨t_check_round_length K E, ?_, pure_check_round_length K vs H Q E h⟩)
  exact (pss_one (ps_expr (pe_cX G_check_range hr (by omega) (by rfl) pxOf (pa_cons (pv 0) (pa_cons (pe_cint (by rfl) T.g_Net T.rd_Net T.cv_Net_SHORTEST) (pa_cons (pe_cint (by rfl) T.g_Net T.rd_Net T.cv_Net_LONGEST) pa_nil))))))
theorem sc_check_count : FnScope N_check_count ["count", "limit"] (defScope s_check_count) := ⟨rfl, rfl, rfl, by decide +kernel, rfl, by decide +kernel, by decide +kernel⟩
theorem ok_check_count {f : Addr} {fd : FuncData} (F : FunD K "check_count" "check_count" (defArgs s_check_count) (defBody s_check_count) (defScope s_check_count) [] [] f fd) (T : Txt K mg) (GX_TooMany : XMk P w K mg base 1 "TooMany" (C_TooMany K) (spX (C_TooMany K) ["count", "limit"])) : FnOk P w K mg base (L2.CX P w) 3 f fd ["count", "limit"] (sp_check_count K) := by
  refine F.ok sc_check_count (len_check_count K) (fun cdv A outer s H vs Q E hr h => ⟨t_check_count K E, ?_, pure_check_count K vs H Q E h⟩)
  exact (pss_one (ps_if (pt_cmpR op_gt (pv 0) (pv 1) (nomark _)) (pss_one (ps_rs GX_TooMany hr (by omega) rfl tkOf (by rfl) (pa_cons (pv 0) (pa_cons (pv 1) pa_nil)))) pss_nil))
theorem sc_is_name : FnScope N_is_name ["text"] (defScope s_is_name) := ⟨rfl, rfl, rfl, by decide +kernel, rfl, by decide +kernel, by decide +kernel⟩
theorem ok_is_name {f : Addr} {fd : FuncData} (F : FunD K "is_name" "is_name" (defArgs s_is_name) (defBody s_is_name) (defScope s_is_name) [] [] f fd) (T : Txt K mg) : FnOk P w K mg base CX0 1 f fd ["text"] (sp_is_name K) := by
  refine F.ok sc_is_name (len_is_name K) (fun cdv A outer s H vs Q E hr h => ⟨t_is_name K, PSs.nox ?_, pure_is_name K vs H Q E h⟩)
  exact (pss_cons (ps_if (pt_not (pt_chain op_le op_le pe_int (pe_callB callLenStr (by rfl) T.f_len (by decide +kernel) (pa_cons (pv 0) pa_nil)) (C8.pe_gc (by rfl) T.c_LONGEST_NAME))) (pss_one (ps_ret pe_bl)) pss_nil)
    (pss_one (ps_ret (pe_and (pe_cmpR op_inS (pe_ix ix_str (pv 0) pe_int (fun _ _ => rfl)) (C8.pe_gc (by rfl) T.c_LETTERS) (by rfl)) (pe_one (pe_callB (cr_all rfl) (by rfl) T.f_all (by decide +kernel) (pa_cons (pe_lc (own := [("sign", 1)]) rfl sc_is_name.nd (pi_str (pv 0)) (blkOk_by (N := N_is_name) (sc := defScope s_is_name) (by decide +kernel)) (fun _ _ _ _ _ => (pg_name (i := 1) sc_is_name.nd rfl (Or.inl rfl))) (fun _ _ _ _ _ => pts_nil) (fun _ _ _ _ _ => (pe_or (pe_cmpR op_inS (pv 1) (C8.pe_gc (by rfl) T.c_LETTERS) (by rfl)) (pe_one (pe_cmpR op_inS (pv 1) (C8.pe_gc (by rfl) T.c_DIGITS) (by rfl)))))) pa_nil)))))))
theorem sc_check_name : FnScope N_check_name ["text"] (defScope s_check_name) := ⟨rfl, rfl, rfl, by decide +kernel, rfl, by decide +kernel, by decide +kernel⟩
theorem ok_check_name {f : Addr} {fd : FuncData} (F : FunD K "check_name" "check_name" (defArgs s_check_name) (defBody s_check_name) (defScope s_check_name) [] [] f fd) (T : Txt K mg) (GX_BadName : XMk P w K mg base 1 "BadName" (C_BadName K) (spX (C_BadName K) ["name"])) (G_is_name : C8.Cal P w K mg base (1) "is_name" (sp_is_name K) []) : FnOk P w K mg base (L2.CX P w) 3 f fd ["text"] (sp_check_name K) := by
  refine F.ok sc_check_name (len_check_name K) (fun cdv A outer s H vs Q E hr h => ⟨t_check_name K E, ?_, pure_check_name K vs H Q E h⟩)
  exact (pss_one (ps_if (pt_not (pt_val (C8.pe_c G_is_name hr (by omega) (by rfl) (pa_cons (pv 0) pa_nil)))) (pss_one (ps_rs GX_BadName hr (by omega) rfl tkOf (by rfl) (pa_cons (pv 0) pa_nil))) pss_nil))
theorem sc_check_event : FnScope N_check_event ["name", "before"] (defScope s_check_event) := ⟨rfl, rfl, rfl, by decide +kernel, rfl, by decide +kernel, by decide +kernel⟩
theorem ok_check_event {f : Addr} {fd : FuncData} (F : FunD K "check_event" "check_event" (defArgs s_check_event) (defBody s_check_event) (defScope s_check_event) [] [] f fd) (T : Txt K mg) (GX_DoubleEvent : XMk P w K mg base 1 "DoubleEvent" (C_DoubleEvent K) (spX (C_DoubleEvent K) ["name"])) (G_check_name : CalX P w K mg base (3) "check_name" (sp_check_name K) []) : FnOk P w K mg base (L2.CX P w) 4 f fd ["name", "before"] (sp_check_event K) := by
  refine F.ok sc_check_event (len_check_event K) (fun cdv A outer s H vs Q E hr h => ⟨t_check_event K E, ?_, pure_check_event K vs H Q E h⟩)
  exact (pss_cons (ps_expr (pe_cX G_check_name hr (by omega) (by rfl) pxOf (pa_cons (pv 0) pa_nil)))
    (pss_one (ps_if (pt_cmpR op_in_seq (pv 0) (pv 1) (by rfl)) (pss_one (ps_rs GX_DoubleEvent hr (by omega) rfl tkOf (by rfl) (pa_cons (pv 0) pa_nil))) pss_nil)))
theorem sc_check_known : FnScope N_check_known ["names", "known"] (defScope s_check_known) := ⟨rfl, rfl, rfl, by decide +kernel, rfl, by decide +kernel, by decide +kernel⟩
theorem ok_check_known {f : Addr} {fd : FuncData} (F : FunD K "check_known" "check_known" (defArgs s_check_known) (defBody s_check_known) (defScope s_check_known) [] [] f fd) (T : Txt K mg) (GX_UnknownEvent : XMk P w K mg base 1 "UnknownEvent" (C_UnknownEvent K) (spX (C_UnknownEvent K) ["name"])) : FnOk P w K mg base (L2.CX P w) 3 f fd ["names", "known"] (sp_check_known K) := by
  refine F.ok sc_check_known (len_check_known K) (fun cdv A outer s H vs Q E hr h => ⟨t_check_known K E, ?_, pure_check_known K vs H Q E h⟩)
  exact (pss_one (ps_for poOf rfl (pi_list (pv 0)) (pg_name (i := 2) sc_check_known.nd rfl (Or.inl rfl)) (pss_one (ps_if (pt_cmpR op_notIn_seq (pv 2) (pv 1) (by rfl)) (pss_one (ps_rs GX_UnknownEvent hr (by omega) rfl tkOf (by rfl) (pa_cons (pv 2) pa_nil))) pss_nil))))
theorem sc_check_span : FnScope N_check_span ["round_length", "events", "span"] (defScope s_check_span) := ⟨rfl, rfl, rfl, by decide +kernel, rfl, by decide +kernel, by decide +kernel⟩
theorem ok_check_span {f : Addr} {fd : FuncData} (F : FunD K "check_span" "check_span" (defArgs s_check_span) (defBody s_check_span) (defScope s_check_span) [] [] f fd) (T : Txt K mg) (GX_SameEvent : XMk P w K mg base 1 "SameEvent" (C_SameEvent K) (spX (C_SameEvent K) ["name"])) (G_check_range : CalX P w K mg base (3) "check_range" (sp_check_range K) []) (G_check_known : CalX P w K mg base (3) "check_known" (sp_check_known K) []) : FnOk P w K mg base (L2.CX P w) 4 f fd ["round_length", "events", "span"] (sp_check_span K) := by
  refine F.ok sc_check_span (len_check_span K) (fun cdv A outer s H vs Q E hr h => ⟨t_check_span K E, ?_, pure_check_span K vs H Q E h⟩)
  exact (pss_cons (ps_asg (pv 2) (pg_tup rfl (pgs_cons (pg_name (i := 3) sc_check_span.nd rfl (Or.inl rfl)) (pgs_cons (pg_name (i := 4) sc_check_span.nd rfl (Or.inl rfl)) (pgs_cons (pg_name (i := 5) sc_check_span.nd rfl (Or.inl rfl)) (pgs_cons (pg_name (i := 6) sc_check_span.nd rfl (Or.inl rfl)) (pgs_cons (pg_name (i := 7) sc_check_span.nd rfl (Or.inl rfl)) pgs_nil)))))))
    (pss_cons (ps_expr (pe_cX G_check_known hr (by omega) (by rfl) pxOf (pa_cons (pe_lst (pa_cons (pv 3) (pa_cons (pv 4) pa_nil))) (pa_cons (pv 1) pa_nil))))
    (pss_cons (ps_if (pt_cmpR op_eq (pv 3) (pv 4) (nomark _)) (pss_one (ps_rs GX_SameEvent hr (by omega) rfl tkOf (by rfl) (pa_cons (pv 3) pa_nil))) pss_nil)
    (pss_cons (ps_expr (pe_cX G_check_range hr (by omega) (by rfl) pxOf (pa_cons (pv 5) (pa_cons pe_int (pa_cons (pe_op op_sub (pv 0) pe_int) pa_nil)))))
    (pss_cons (ps_expr (pe_cX G_check_range hr (by omega) (by rfl) pxOf (pa_cons (pv 6) (pa_cons (pv 5) (pa_cons (pe_op op_sub (pe_op op_add (pv 5) (pv 0)) pe_int) pa_nil)))))
    (pss_one (ps_expr (pe_cX G_check_range hr (by omega) (by rfl) pxOf (pa_cons (pv 7) (pa_cons pe_int (pa_cons (pe_cint (by rfl) T.g_Net T.rd_Net T.cv_Net_HEAVIEST) pa_nil)))))))))))
theorem sc_check_net : FnScope N_check_net ["round_length", "events", "spans"] (defScope s_check_net) := ⟨rfl, rfl, rfl, by decide +kernel, rfl, by decide +kernel, by decide +kernel⟩
theorem ok_check_net {f : Addr} {fd : FuncData} (F : FunD K "check_net" "check_net" (defArgs s_check_net) (defBody s_check_net) (defScope s_check_net) [] [] f fd) (T : Txt K mg) (G_check_round_length : CalX P w K mg base (4) "check_round_length" (sp_check_round_length K) []) (G_check_count : CalX P w K mg base (3) "check_count" (sp_check_count K) []) (G_check_event : CalX P w K mg base (4) "check_event" (sp_check_event K) []) (G_check_span : CalX P w K mg base (4) "check_span" (sp_check_span K) []) : FnOk P w K mg base (L2.CX P w) 5 f fd ["round_length", "events", "spans"] (sp_check_net K) := by
  refine F.ok sc_check_net (len_check_net K) (fun cdv A outer s H vs Q E hr h => ⟨t_check_net K E, ?_, pure_check_net K vs H Q E h⟩)
  exact (pss_cons (ps_expr (pe_cX G_check_round_length hr (by omega) (by rfl) pxOf (pa_cons (pv 0) pa_nil)))
    (pss_cons (ps_expr (pe_cX G_check_count hr (by omega) (by rfl) pxOf (pa_cons (pe_callB callLenSeq (by rfl) T.f_len (by decide +kernel) (pa_cons (pv 1) pa_nil)) (pa_cons (pe_cint (by rfl) T.g_Net T.rd_Net T.cv_Net_EVENTS) pa_nil))))
    (pss_cons (ps_for poOf rfl (pi_enum rfl T.f_enumerate (pa_cons (pv 1) pa_nil)) (pg_tup rfl (pgs_cons (pg_name (i := 3) sc_check_net.nd rfl (Or.inl rfl)) (pgs_cons (pg_name (i := 4) sc_check_net.nd rfl (Or.inl rfl)) pgs_nil))) (pss_one (ps_expr (pe_cX G_check_event hr (by omega) (by rfl) pxOf (pa_cons (pv 4) (pa_cons (pe_slice sl_list (pv 1) po_none (po_some (pv 3))) pa_nil))))))
    (pss_cons (ps_expr (pe_cX G_check_count hr (by omega) (by rfl) pxOf (pa_cons (pe_callB callLenSeq (by rfl) T.f_len (by decide +kernel) (pa_cons (pv 2) pa_nil)) (pa_cons (pe_cint (by rfl) T.g_Net T.rd_Net T.cv_Net_SPANS) pa_nil))))
    (pss_one (ps_for poOf rfl (pi_list (pv 2)) (pg_name (i := 5) sc_check_net.nd rfl (Or.inl rfl)) (pss_one (ps_expr (pe_cX G_check_span hr (by omega) (by rfl) pxOf (pa_cons (pv 0) (pa_cons (pv 1) (pa_cons (pv 5) pa_nil))))))))))))
theorem sc_Net_init : FnScope N_Net_init ["self", "round_length", "events", "spans"] (defScope s_Net_init) := ⟨rfl, rfl, rfl, by decide +kernel, rfl, by decide +kernel, by decide +kernel⟩
theorem ok_Net_init {f : Addr} {fd : FuncData} (F : FunD K "__init__" "Net.__init__" (defArgs s_Net_init) (defBody s_Net_init) (defScope s_Net_init) [] [] f fd) (T : Txt K mg) (G_check_net : CalX P w K mg base (5) "check_net" (sp_check_net K) []) : FnOk P w K mg base (L2.CX P w) 6 f fd ["self", "round_length", "events", "spans"] (sp_Net_init K) := by
  refine F.ok sc_Net_init (len_Net_init K) (fun cdv A outer s H vs Q E hr h => ⟨t_Net_init K E, ?_, pure_Net_init K vs H Q E h⟩)
  exact (pss_cons (ps_expr (pe_cX G_check_net hr (by omega) (by rfl) pxOf (pa_cons (pv 1) (pa_cons (pv 2) (pa_cons (pv 3) pa_nil)))))
    (pss_cons (ps_fldC T.cls_Net T.na_Net__round_length (pv 0) (pv 1))
    (pss_cons (ps_fldC T.cls_Net T.na_Net__events (pv 0) (pe_callTy callListOf (by rfl) T.f_list (by decide +kernel) (pa_cons (pv 2) pa_nil)))
    (pss_one (ps_fldC T.cls_Net T.na_Net__spans (pv 0) (pe_callTy callListOf (by rfl) T.f_list (by decide +kernel) (pa_cons (pv 3) pa_nil)))))))
theorem sc_Net_round_length : FnScope N_Net_round_length ["self"] (defScope s_Net_round_length) := ⟨rfl, rfl, rfl, by decide +kernel, rfl, by decide +kernel, by decide +kernel⟩
theorem ok_Net_round_length {f : Addr} {fd : FuncData} (F : FunD K "round_length" "Net.round_length" (defArgs s_Net_round_length) (defBody s_Net_round_length) (defScope s_Net_round_length) [] [] f fd) (T : Txt K mg) : FnOk P w K mg base CX0 1 f fd ["self"] (sp_Net_round_length K) := by
  refine F.ok sc_Net_round_length (len_Net_round_length K) (fun cdv A outer s H vs Q E hr h => ⟨t_Net_round_length K, PSs.nox ?_, pure_Net_round_length K vs H Q E h⟩)
  exact (pss_one (ps_ret (pe_fldC T.cls_Net T.na_Net__round_length (pv 0))))
theorem sc_Net_events : FnScope N_Net_events ["self"] (defScope s_Net_events) := ⟨rfl, rfl, rfl, by decide +kernel, rfl, by decide +kernel, by decide +kernel⟩
theorem ok_Net_events {f : Addr} {fd : FuncData} (F : FunD K "events" "Net.events" (defArgs s_Net_events) (defBody s_Net_events) (defScope s_Net_events) [] [] f fd) (T : Txt K mg) : FnOk P w K mg base CX0 1 f fd ["self"] (sp_Net_events K) := by
  refine F.ok sc_Net_events (len_Net_events K) (fun cdv A outer s H vs Q E hr h => ⟨t_Net_events K, PSs.nox ?_, pure_Net_events K vs H Q E h⟩)
  exact (pss_one (ps_ret (pe_callTy callListOf (by rfl) T.f_list (by decide +kernel) (pa_cons (pe_fldC T.cls_Net T.na_Net__events (pv 0)) pa_nil))))
theorem sc_Net_spans : FnScope N_Net_spans ["self"] (defScope s_Net_spans) := ⟨rfl, rfl, rfl, by decide +kernel, rfl, by decide +kernel, by decide +kernel⟩
theorem ok_Net_spans {f : Addr} {fd : FuncData} (F : FunD K "spans" "Net.spans" (defArgs s_Net_spans) (defBody s_Net_spans) (defScope s_Net_spans) [] [] f fd) (T : Txt K mg) : FnOk P w K mg base CX0 1 f fd ["self"] (sp_Net_spans K) := by
  refine F.ok sc_Net_spans (len_Net_spans K) (fun cdv A outer s H vs Q E hr h => ⟨t_Net_spans K, PSs.nox ?_, pure_Net_spans K vs H Q E h⟩)
  exact (pss_one (ps_ret (pe_callTy callListOf (by rfl) T.f_list (by decide +kernel) (pa_cons (pe_fldC T.cls_Net T.na_Net__spans (pv 0)) pa_nil))))
theorem sc_l_pool : FnScope N_l_pool ["_law_script"] (defScope s_l_pool) := ⟨rfl, rfl, rfl, by decide +kernel, rfl, by decide +kernel, by decide +kernel⟩
theorem ok_l_pool {f : Addr} {fd : FuncData} (F : FunD K "_law_pool" "_law_pool" (defArgs s_l_pool) (defBody s_l_pool) (defScope s_l_pool) [] [] f fd) (T : Txt K mg) : FnOk P w K mg base CX0 1 f fd ["_law_script"] (sp_l_pool K) := by
  refine F.ok sc_l_pool (len_l_pool K) (fun cdv A outer s H vs Q E hr h => ⟨t_l_pool K, PSs.nox ?_, pure_l_pool K vs H Q E h⟩)
  exact (pss_cons (ps_setLc (i := 1) (own := [("_law_cell", 3)]) rfl sc_l_pool.nd rfl rfl (sw_true rfl rfl rfl (by decide +kernel)) (pi_list (pv 0)) (blkOk_by (N := N_l_pool) (sc := defScope s_l_pool) (by decide +kernel)) (fun _ _ _ _ _ => (pg_name (i := 3) sc_l_pool.nd rfl (Or.inl rfl))) (fun _ _ _ _ _ => pts_nil) (fun _ _ _ _ _ => (pe_callTy callInt1 (by rfl) T.f_int (by decide +kernel) (pa_cons (pv 3) pa_nil))))
    (pss_cons (ps_set (i := 2) sc_l_pool.nd rfl (Or.inl rfl) pe_int)
    (pss_cons (ps_if (PW.pt (pw_and (pt_cmpR op_gt (pe_callB callLenSeq (by rfl) T.f_len (by decide +kernel) (pa_cons (pv 1) pa_nil)) pe_int (nomark _)) (pw_and1 (pt_cmpR op_ge (pe_ix ix_list (pv 1) pe_int (fun _ _ => rfl)) (pe_op op_pow pe_int pe_int) (nomark _))))) (pss_one (ps_set (i := 2) sc_l_pool.nd rfl (Or.inl rfl) (pe_ix ix_list (pv 1) pe_int (fun _ _ => rfl)))) pss_nil)
    (pss_one (ps_ret (pe_lst (pa_cons (pv 2) (pa_cons pe_int (pa_cons (pv 1) pa_nil)))))))))
theorem sc_l_draw : FnScope N_l_draw ["_law_pool_here", "_law_many"] (defScope s_l_draw) := ⟨rfl, rfl, rfl, by decide +kernel, rfl, by decide +kernel, by decide +kernel⟩
theorem ok_l_draw {f : Addr} {fd : FuncData} (F : FunD K "_law_draw" "_law_draw" (defArgs s_l_draw) (defBody s_l_draw) (defScope s_l_draw) [] [] f fd) (T : Txt K mg) : FnOk P w K mg base CX0 1 f fd ["_law_pool_here", "_law_many"] (sp_l_draw K) := by
  refine F.ok sc_l_draw (len_l_draw K) (fun cdv A outer s H vs Q E hr h => ⟨t_l_draw K, PSs.nox ?_, pure_l_draw K vs H Q E h⟩)
  exact (pss_cons (ps_if (pt_cmpR op_gt (pe_ix ix_list (pv 0) pe_int (fun _ _ => rfl)) pe_int (nomark _)) (pss_cons (ps_set (i := 2) sc_l_draw.nd rfl (Or.inl rfl) (pe_op op_mod (pe_callTy callInt1 (by rfl) T.f_int (by decide +kernel) (pa_cons (pe_ix ix_list (pv 0) pe_int (fun _ _ => rfl)) pa_nil)) (pv 1)))
    (pss_cons (ps_asg (pe_op op_fdiv (pe_ix ix_list (pv 0) pe_int (fun _ _ => rfl)) (pv 1)) (pg_sub (pv 0) pe_int set_list))
    (pss_one (ps_ret (pv 2))))) pss_nil)
    (pss_cons (ps_asg (pe_op op_add (pe_ix ix_list (pv 0) pe_int (fun _ _ => rfl)) pe_int) (pg_sub (pv 0) pe_int set_list))
    (pss_cons (ps_set (i := 3) sc_l_draw.nd rfl (Or.inl rfl) (pe_ix ix_list (pv 0) pe_int (fun _ _ => rfl)))
    (pss_cons (ps_set (i := 4) sc_l_draw.nd rfl (Or.inl rfl) pe_int)
    (pss_cons (ps_set (i := 5) sc_l_draw.nd rfl (Or.inl rfl) pe_int)
    (pss_cons (ps_if (pt_cmpR op_gt (pe_callB callLenSeq (by rfl) T.f_len (by decide +kernel) (pa_cons (pv 3) pa_nil)) pe_int (nomark _)) (pss_cons (ps_set (i := 4) sc_l_draw.nd rfl (Or.inl rfl) (pe_ix ix_list (pv 3) (pe_op op_mod (pe_callTy callInt1 (by rfl) T.f_int (by decide +kernel) (pa_cons (pe_ix ix_list (pv 0) pe_int (fun _ _ => rfl)) pa_nil)) (pe_callB callLenSeq (by rfl) T.f_len (by decide +kernel) (pa_cons (pv 3) pa_nil))) (fun _ _ => rfl)))
    (pss_one (ps_set (i := 5) sc_l_draw.nd rfl (Or.inl rfl) (pe_ix ix_list (pv 3) pe_int (fun _ _ => rfl))))) pss_nil)
    (pss_cons (ps_set (i := 6) sc_l_draw.nd rfl (Or.inl rfl) (pe_op op_mod (pe_callTy callInt1 (by rfl) T.f_int (by decide +kernel) (pa_cons (pe_op op_add (pe_op op_add (pe_op op_add (pe_op op_mul (pv 4) pe_int) (pe_op op_mul (pv 5) pe_int)) (pe_op op_mul (pe_ix ix_list (pv 0) pe_int (fun _ _ => rfl)) pe_int)) pe_int) pa_nil)) pe_int))
    (pss_cons (ps_set (i := 6) sc_l_draw.nd rfl (Or.inl rfl) (pe_op op_mod (pe_callTy callInt1 (by rfl) T.f_int (by decide +kernel) (pa_cons (pe_op op_add (pe_op op_add (pe_op op_mul (pv 6) (pv 6)) (pe_op op_mul (pv 6) pe_int)) (pe_op op_mul (pe_ix ix_list (pv 0) pe_int (fun _ _ => rfl)) pe_int)) pa_nil)) pe_int))
    (pss_one (ps_ret (pe_op op_mod (pe_callTy callInt1 (by rfl) T.f_int (by decide +kernel) (pa_cons (pe_op op_fdiv (pv 6) pe_int) pa_nil)) (pv 1))))))))))))
theorem sc_l_word : FnScope N_l_word ["_law_pool_here", "_law_size_here"] (defScope s_l_word) := ⟨rfl, rfl, rfl, by decide +kernel, rfl, by decide +kernel, by decide +kernel⟩
theorem ok_l_word {f : Addr} {fd : FuncData} (F : FunD K "_law_word" "_law_word" (defArgs s_l_word) (defBody s_l_word) (defScope s_l_word) [] [] f fd) (T : Txt K mg) (G_l_draw : C8.Cal P w K mg base (1) "_law_draw" (sp_l_draw K) []) : FnOk P w K mg base CX0 2 f fd ["_law_pool_here", "_law_size_here"] (sp_l_word K) := by
  refine F.ok sc_l_word (len_l_word K) (fun cdv A outer s H vs Q E hr h => ⟨t_l_word K, PSs.nox ?_, pure_l_word K vs H Q E h⟩)
  exact (pss_cons (ps_set (i := 2) sc_l_word.nd rfl (Or.inl rfl) (pe_strS (by decide +kernel)))
    (pss_cons (ps_set (i := 3) sc_l_word.nd rfl (Or.inl rfl) (pe_strS (by decide +kernel)))
    (pss_cons (ps_for PassesOwn.never rfl (pi_range1 rfl T.f_range (pa_cons (pv 1) pa_nil)) (pg_name (i := 4) sc_l_word.nd rfl (Or.inl rfl)) (pss_one (ps_set (i := 3) sc_l_word.nd rfl (Or.inl rfl) (pe_op opAddStr (pv 3) (pe_ix ix_str (pv 2) (C8.pe_c G_l_draw hr (by omega) (by rfl) (pa_cons (pv 0) (pa_cons pe_int pa_nil))) (fun _ _ => rfl))))))
    (pss_one (ps_ret (pv 3))))))
theorem sc_l_names : FnScope N_l_names ["_law_pool_here", "_law_many"] (defScope s_l_names) := ⟨rfl, rfl, rfl, by decide +kernel, rfl, by decide +kernel, by decide +kernel⟩
theorem ok_l_names {f : Addr} {fd : FuncData} (F : FunD K "_law_names" "_law_names" (defArgs s_l_names) (defBody s_l_names) (defScope s_l_names) [] [] f fd) (T : Txt K mg) (G_l_draw : C8.Cal P w K mg base (1) "_law_draw" (sp_l_draw K) []) (G_l_word : C8.Cal P w K mg base (2) "_law_word" (sp_l_word K) []) : FnOk P w K mg base CX0 3 f fd ["_law_pool_here", "_law_many"] (sp_l_names K) := by
  refine F.ok sc_l_names (len_l_names K) (fun cdv A outer s H vs Q E hr h => ⟨t_l_names K, PSs.nox ?_, pure_l_names K vs H Q E h⟩)
  exact (pss_cons (ps_set (i := 2) sc_l_names.nd rfl (Or.inl rfl) (pe_strS (by decide +kernel)))
    (pss_cons (ps_set (i := 3) sc_l_names.nd rfl (Or.inl rfl) (pe_strS (by decide +kernel)))
    (pss_cons (ps_set (i := 4) sc_l_names.nd rfl (Or.inl rfl) (C8.pe_c G_l_draw hr (by omega) (by rfl) (pa_cons (pv 0) (pa_cons pe_int pa_nil))))
    (pss_cons (ps_set (i := 5) sc_l_names.nd rfl (Or.inl rfl) (pe_op opAddStr (pe_ix ix_str (pv 2) (C8.pe_c G_l_draw hr (by omega) (by rfl) (pa_cons (pv 0) (pa_cons pe_int pa_nil))) (fun _ _ => rfl)) (C8.pe_c G_l_word hr (by omega) (by rfl) (pa_cons (pv 0) (pa_cons (C8.pe_c G_l_draw hr (by omega) (by rfl) (pa_cons (pv 0) (pa_cons pe_int pa_nil))) pa_nil)))))
    (pss_cons (ps_set (i := 6) sc_l_names.nd rfl (Or.inl rfl) (C8.pe_c G_l_word hr (by omega) (by rfl) (pa_cons (pv 0) (pa_cons (C8.pe_c G_l_draw hr (by omega) (by rfl) (pa_cons (pv 0) (pa_cons pe_int pa_nil))) pa_nil))))
    (pss_cons (ps_set (i := 7) sc_l_names.nd rfl (Or.inl rfl) (C8.pe_c G_l_draw hr (by omega) (by rfl) (pa_cons (pv 0) (pa_cons pe_int pa_nil))))
    (pss_cons (ps_set (i := 8) sc_l_names.nd rfl (Or.inl rfl) (pe_lst pa_nil))
    (pss_cons (ps_for PassesOwn.never rfl (pi_range1 rfl T.f_range (pa_cons (pv 1) pa_nil)) (pg_name (i := 9) sc_l_names.nd rfl (Or.inl rfl)) (pss_cons (ps_set (i := 10) sc_l_names.nd rfl (Or.inl rfl) (pe_op opAddStr (pe_op opAddStr (pv 5) (pe_ix ix_str (pv 3) (pe_op op_mod (pe_callTy callInt1 (by rfl) T.f_int (by decide +kernel) (pa_cons (pe_op op_add (pv 7) (pe_op op_mul pe_int (pv 9))) pa_nil)) pe_int) (fun _ _ => rfl))) (pv 6)))
    (C8.pss_cut (ps_if (pt_cmpR op_eq (pv 4) pe_int (nomark _)) (pss_one (ps_set (i := 10) sc_l_names.nd rfl (Or.inl rfl) (pe_op opAddStr (pe_ix ix_str (pv 2) (pe_op op_mod (pe_callTy callInt1 (by rfl) T.f_int (by decide +kernel) (pa_cons (pe_op op_add (pv 7) (pe_op op_mul pe_int (pv 9))) pa_nil)) pe_int) (fun _ _ => rfl)) (C8.pe_c G_l_word hr (by omega) (by rfl) (pa_cons (pv 0) (pa_cons (C8.pe_c G_l_draw hr (by omega) (by rfl) (pa_cons (pv 0) (pa_cons pe_int pa_nil))) pa_nil)))))) pss_nil)
    (C8.pss_cut (ps_if (pt_cmpR op_eq (pv 4) pe_int (nomark _)) (pss_one (ps_set (i := 10) sc_l_names.nd rfl (Or.inl rfl) (pe_op opAddStr (pe_ix ix_str (pv 2) (C8.pe_c G_l_draw hr (by omega) (by rfl) (pa_cons (pv 0) (pa_cons pe_int pa_nil))) (fun _ _ => rfl)) (C8.pe_c G_l_word hr (by omega) (by rfl) (pa_cons (pv 0) (pa_cons (C8.pe_c G_l_draw hr (by omega) (by rfl) (pa_cons (pv 0) (pa_cons pe_int pa_nil))) pa_nil)))))) pss_nil)
    (pss_cons (ps_for PassesOwn.never rfl (pi_range1 rfl T.f_range (pa_cons pe_int pa_nil)) (pg_name (i := 11) sc_l_names.nd rfl (Or.inl rfl)) (pss_one (ps_if (PW.pt (pw_and (pt_cmpR op_in_seq (pv 10) (pv 8) (by rfl)) (pw_and1 (pt_cmpR op_notIn_seq (pe_op opAddStr (pe_strS (by decide +kernel)) (pe_callTy callStrInt (by rfl) T.f_str (by decide +kernel) (pa_cons (pv 11) pa_nil))) (pv 8) (by rfl))))) (pss_one (ps_set (i := 10) sc_l_names.nd rfl (Or.inl rfl) (pe_op opAddStr (pe_strS (by decide +kernel)) (pe_callTy callStrInt (by rfl) T.f_str (by decide +kernel) (pa_cons (pv 11) pa_nil))))) pss_nil)))
    (pss_one (ps_expr (pe_bm PySem.F.plainAttrs_list PySem.F.slot_list_append PySem.F.type_list_append mt_append (pv 8) (pa_cons (pv 10) pa_nil)))))))))
    (pss_one (ps_ret (pv 8)))))))))))
theorem sc_l_length : FnScope N_l_length ["_law_pool_here", "_law_limit"] (defScope s_l_length) := ⟨rfl, rfl, rfl, by decide +kernel, rfl, by decide +kernel, by decide +kernel⟩
theorem ok_l_length {f : Addr} {fd : FuncData} (F : FunD K "_law_length" "_law_length" (defArgs s_l_length) (defBody s_l_length) (defScope s_l_length) [] [] f fd) (T : Txt K mg) (G_l_draw : C8.Cal P w K mg base (1) "_law_draw" (sp_l_draw K) []) : FnOk P w K mg base CX0 2 f fd ["_law_pool_here", "_law_limit"] (sp_l_length K) := by
  refine F.ok sc_l_length (len_l_length K) (fun cdv A outer s H vs Q E hr h => ⟨t_l_length K, PSs.nox ?_, pure_l_length K vs H Q E h⟩)
  exact (pss_cons (ps_set (i := 2) sc_l_length.nd rfl (Or.inl rfl) (C8.pe_c G_l_draw hr (by omega) (by rfl) (pa_cons (pv 0) (pa_cons pe_int pa_nil))))
    (pss_cons (ps_if (pt_cmpR op_lt (pv 2) pe_int (nomark _)) (pss_one (ps_ret (pe_op op_add pe_int (C8.pe_c G_l_draw hr (by omega) (by rfl) (pa_cons (pv 0) (pa_cons pe_int pa_nil)))))) pss_nil)
    (pss_cons (ps_if (pt_cmpR op_lt (pv 2) pe_int (nomark _)) (pss_one (ps_ret (pe_callB (callMin2 rfl) (by rfl) T.f_min (by decide +kernel) (pa_cons (pv 1) (pa_cons (pe_op op_add pe_int (C8.pe_c G_l_draw hr (by omega) (by rfl) (pa_cons (pv 0) (pa_cons pe_int pa_nil)))) pa_nil))))) pss_nil)
    (pss_one (ps_ret (pe_callB (callMax2 rfl) (by rfl) T.f_max (by decide +kernel) (pa_cons pe_int (pa_cons (pe_op op_sub (pv 1) (C8.pe_c G_l_draw hr (by omega) (by rfl) (pa_cons (pv 0) (pa_cons (pv 1) pa_nil)))) pa_nil))))))))
theorem sc_l_size : FnScope N_l_size ["_law_pool_here", "_law_limit"] (defScope s_l_size) := ⟨rfl, rfl, rfl, by decide +kernel, rfl, by decide +kernel, by decide +kernel⟩
theorem ok_l_size {f : Addr} {fd : FuncData} (F : FunD K "_law_size" "_law_size" (defArgs s_l_size) (defBody s_l_size) (defScope s_l_size) [] [] f fd) (T : Txt K mg) (G_l_draw : C8.Cal P w K mg base (1) "_law_draw" (sp_l_draw K) []) : FnOk P w K mg base CX0 2 f fd ["_law_pool_here", "_law_limit"] (sp_l_size K) := by
  refine F.ok sc_l_size (len_l_size K) (fun cdv A outer s H vs Q E hr h => ⟨t_l_size K, PSs.nox ?_, pure_l_size K vs H Q E h⟩)
  exact (pss_cons (ps_set (i := 2) sc_l_size.nd rfl (Or.inl rfl) (C8.pe_c G_l_draw hr (by omega) (by rfl) (pa_cons (pv 0) (pa_cons pe_int pa_nil))))
    (pss_cons (ps_if (pt_cmpR op_eq (pv 2) pe_int (nomark _)) (pss_one (ps_ret (pv 1))) pss_nil)
    (pss_cons (ps_if (pt_cmpR op_eq (pv 2) pe_int (nomark _)) (pss_one (ps_ret (pe_callB (callMin2 rfl) (by rfl) T.f_min (by decide +kernel) (pa_cons (pv 1) (pa_cons (C8.pe_c G_l_draw hr (by omega) (by rfl) (pa_cons (pv 0) (pa_cons pe_int pa_nil))) pa_nil))))) pss_nil)
    (pss_one (ps_ret (C8.pe_c G_l_draw hr (by omega) (by rfl) (pa_cons (pv 0) (pa_cons (pe_op op_add (pv 1) pe_int) pa_nil))))))))
theorem sc_l_some : FnScope N_l_some ["_law_pool_here", "_law_limit"] (defScope s_l_some) := ⟨rfl, rfl, rfl, by decide +kernel, rfl, by decide +kernel, by decide +kernel⟩
theorem ok_l_some {f : Addr} {fd : FuncData} (F : FunD K "_law_some" "_law_some" (defArgs s_l_some) (defBody s_l_some) (defScope s_l_some) [] [] f fd) (T : Txt K mg) (G_l_draw : C8.Cal P w K mg base (1) "_law_draw" (sp_l_draw K) []) : FnOk P w K mg base CX0 2 f fd ["_law_pool_here", "_law_limit"] (sp_l_some K) := by
  refine F.ok sc_l_some (len_l_some K) (fun cdv A outer s H vs Q E hr h => ⟨t_l_some K, PSs.nox ?_, pure_l_some K vs H Q E h⟩)
  exact (pss_cons (ps_set (i := 2) sc_l_some.nd rfl (Or.inl rfl) (C8.pe_c G_l_draw hr (by omega) (by rfl) (pa_cons (pv 0) (pa_cons pe_int pa_nil))))
    (pss_cons (ps_if (pt_cmpR op_eq (pv 2) pe_int (nomark _)) (pss_one (ps_ret (pv 1))) pss_nil)
    (pss_cons (ps_if (pt_cmpR op_eq (pv 2) pe_int (nomark _)) (pss_one (ps_ret (C8.pe_c G_l_draw hr (by omega) (by rfl) (pa_cons (pv 0) (pa_cons (pe_op op_add (pv 1) pe_int) pa_nil))))) pss_nil)
    (pss_one (ps_ret (C8.pe_c G_l_draw hr (by omega) (by rfl) (pa_cons (pv 0) (pa_cons (pe_op op_add (pe_callB (callMin2 rfl) (by rfl) T.f_min (by decide +kernel) (pa_cons (pv 1) (pa_cons pe_int pa_nil))) pe_int) pa_nil))))))))
theorem sc_l_weight : FnScope N_l_weight ["_law_pool_here"] (defScope s_l_weight) := ⟨rfl, rfl, rfl, by decide +kernel, rfl, by decide +kernel, by decide +kernel⟩
theorem ok_l_weight {f : Addr} {fd : FuncData} (F : FunD K "_law_weight" "_law_weight" (defArgs s_l_weight) (defBody s_l_weight) (defScope s_l_weight) [] [] f fd) (T : Txt K mg) (G_l_draw : C8.Cal P w K mg base (1) "_law_draw" (sp_l_draw K) []) : FnOk P w K mg base CX0 2 f fd ["_law_pool_here"] (sp_l_weight K) := by
  refine F.ok sc_l_weight (len_l_weight K) (fun cdv A outer s H vs Q E hr h => ⟨t_l_weight K, PSs.nox ?_, pure_l_weight K vs H Q E h⟩)
  exact (pss_cons (ps_set (i := 1) sc_l_weight.nd rfl (Or.inl rfl) (C8.pe_c G_l_draw hr (by omega) (by rfl) (pa_cons (pv 0) (pa_cons pe_int pa_nil))))
    (pss_cons (ps_if (pt_cmpR op_eq (pv 1) pe_int (nomark _)) (pss_one (ps_ret (C8.pe_c G_l_draw hr (by omega) (by rfl) (pa_cons (pv 0) (pa_cons pe_int pa_nil))))) pss_nil)
    (pss_cons (ps_if (pt_cmpR op_eq (pv 1) pe_int (nomark _)) (pss_one (ps_ret pe_int)) pss_nil)
    (pss_one (ps_ret (C8.pe_c G_l_draw hr (by omega) (by rfl) (pa_cons (pv 0) (pa_cons pe_int pa_nil))))))))
theorem sc_l_span : FnScope N_l_span ["_law_pool_here", "_law_length_here", "_law_names_here"] (defScope s_l_span) := ⟨rfl, rfl, rfl, by decide +kernel, rfl, by decide +kernel, by decide +kernel⟩
theorem ok_l_span {f : Addr} {fd : FuncData} (F : FunD K "_law_span" "_law_span" (defArgs s_l_span) (defBody s_l_span) (defScope s_l_span) [] [] f fd) (T : Txt K mg) (G_l_draw : C8.Cal P w K mg base (1) "_law_draw" (sp_l_draw K) []) (G_l_some : C8.Cal P w K mg base (2) "_law_some" (sp_l_some K) []) (G_l_weight : C8.Cal P w K mg base (2) "_law_weight" (sp_l_weight K) []) : FnOk P w K mg base CX0 3 f fd ["_law_pool_here", "_law_length_here", "_law_names_here"] (sp_l_span K) := by
  refine F.ok sc_l_span (len_l_span K) (fun cdv A outer s H vs Q E hr h => ⟨t_l_span K, PSs.nox ?_, pure_l_span K vs H Q E h⟩)
  exact (pss_cons (ps_set (i := 3) sc_l_span.nd rfl (Or.inl rfl) (C8.pe_c G_l_draw hr (by omega) (by rfl) (pa_cons (pv 0) (pa_cons (pe_callB callLenSeq (by rfl) T.f_len (by decide +kernel) (pa_cons (pv 2) pa_nil)) pa_nil))))
    (pss_cons (ps_set (i := 4) sc_l_span.nd rfl (Or.inl rfl) (pe_op op_mod (pe_callTy callInt1 (by rfl) T.f_int (by decide +kernel) (pa_cons (pe_op op_add (pe_op op_add (pv 3) pe_int) (C8.pe_c G_l_draw hr (by omega) (by rfl) (pa_cons (pv 0) (pa_cons (pe_op op_sub (pe_callB callLenSeq (by rfl) T.f_len (by decide +kernel) (pa_cons (pv 2) pa_nil)) pe_int) pa_nil)))) pa_nil)) (pe_callB callLenSeq (by rfl) T.f_len (by decide +kernel) (pa_cons (pv 2) pa_nil))))
    (pss_cons (ps_set (i := 5) sc_l_span.nd rfl (Or.inl rfl) (C8.pe_c G_l_some hr (by omega) (by rfl) (pa_cons (pv 0) (pa_cons (pe_op op_sub (pv 1) pe_int) pa_nil))))
    (pss_cons (ps_set (i := 6) sc_l_span.nd rfl (Or.inl rfl) (pe_op op_add (pv 5) (C8.pe_c G_l_some hr (by omega) (by rfl) (pa_cons (pv 0) (pa_cons (pe_op op_sub (pv 1) pe_int) pa_nil)))))
    (pss_one (ps_ret (pe_tup (pa_cons (pe_ix ix_list (pv 2) (pv 3) (fun _ _ => rfl)) (pa_cons (pe_ix ix_list (pv 2) (pv 4) (fun _ _ => rfl)) (pa_cons (pv 5) (pa_cons (pv 6) (pa_cons (C8.pe_c G_l_weight hr (by omega) (by rfl) (pa_cons (pv 0) pa_nil)) pa_nil))))))))))))
theorem sc_l_spans : FnScope N_l_spans ["_law_pool_here", "_law_length_here", "_law_names_here", "_law_limit"] (defScope s_l_spans) := ⟨rfl, rfl, rfl, by decide +kernel, rfl, by decide +kernel, by decide +kernel⟩
theorem ok_l_spans {f : Addr} {fd : FuncData} (F : FunD K "_law_spans" "_law_spans" (defArgs s_l_spans) (defBody s_l_spans) (defScope s_l_spans) [] [] f fd) (T : Txt K mg) (G_l_draw : C8.Cal P w K mg base (1) "_law_draw" (sp_l_draw K) []) (G_l_size : C8.Cal P w K mg base (2) "_law_size" (sp_l_size K) []) (G_l_span : C8.Cal P w K mg base (3) "_law_span" (sp_l_span K) []) : FnOk P w K mg base CX0 4 f fd ["_law_pool_here", "_law_length_here", "_law_names_here", "_law_limit"] (sp_l_spans K) := by
  refine F.ok sc_l_spans (len_l_spans K) (fun cdv A outer s H vs Q E hr h => ⟨t_l_spans K, PSs.nox ?_, pure_l_spans K vs H Q E h⟩)
  exact (pss_cons (ps_set (i := 4) sc_l_spans.nd rfl (Or.inl rfl) (pe_lst pa_nil))
    (pss_cons (ps_if (pt_cmpR op_lt (pe_callB callLenSeq (by rfl) T.f_len (by decide +kernel) (pa_cons (pv 2) pa_nil)) pe_int (nomark _)) (pss_one (ps_ret (pv 4))) pss_nil)
    (pss_cons (ps_for PassesOwn.never rfl (pi_range1 rfl T.f_range (pa_cons (C8.pe_c G_l_size hr (by omega) (by rfl) (pa_cons (pv 0) (pa_cons (pv 3) pa_nil))) pa_nil)) (pg_name (i := 5) sc_l_spans.nd rfl (Or.inl rfl)) (pss_cons (ps_set (i := 6) sc_l_spans.nd rfl (Or.inl rfl) (C8.pe_c G_l_span hr (by omega) (by rfl) (pa_cons (pv 0) (pa_cons (pv 1) (pa_cons (pv 2) pa_nil)))))
    (C8.pss_cut (ps_if (PW.pt (pw_and (pt_cmpR op_gt (pe_callB callLenSeq (by rfl) T.f_len (by decide +kernel) (pa_cons (pv 4) pa_nil)) pe_int (nomark _)) (pw_and1 (pt_cmpR op_eq (C8.pe_c G_l_draw hr (by omega) (by rfl) (pa_cons (pv 0) (pa_cons pe_int pa_nil))) pe_int (nomark _))))) (pss_one (ps_set (i := 6) sc_l_spans.nd rfl (Or.inl rfl) (pe_ix ix_list (pv 4) (C8.pe_c G_l_draw hr (by omega) (by rfl) (pa_cons (pv 0) (pa_cons (pe_callB callLenSeq (by rfl) T.f_len (by decide +kernel) (pa_cons (pv 4) pa_nil)) pa_nil))) (fun _ _ => rfl)))) pss_nil)
    (pss_one (ps_expr (pe_bm PySem.F.plainAttrs_list PySem.F.slot_list_append PySem.F.type_list_append mt_append (pv 4) (pa_cons (pv 6) pa_nil)))))))
    (pss_one (ps_ret (pv 4))))))
theorem sc_l_is_int : FnScope N_l_is_int ["_law_thing"] (defScope s_l_is_int) := ⟨rfl, rfl, rfl, by decide +kernel, rfl, by decide +kernel, by decide +kernel⟩
theorem ok_l_is_int {f : Addr} {fd : FuncData} (F : FunD K "_law_is_int" "_law_is_int" (defArgs s_l_is_int) (defBody s_l_is_int) (defScope s_l_is_int) [] [] f fd) (T : Txt K mg) : FnOk P w K mg base CX0 1 f fd ["_law_thing"] (sp_l_is_int K) := by
  refine F.ok sc_l_is_int (len_l_is_int K) (fun cdv A outer s H vs Q E hr h => ⟨t_l_is_int K, PSs.nox ?_, pure_l_is_int K vs H Q E h⟩)
  exact (pss_one (ps_ret (pe_and (pe_callB call_isi (by rfl) T.f_isinstance (by decide +kernel) (pa_cons (pv 0) (pa_cons (pe_bltn (v := .ty "int") (by rfl) T.f_int (by decide +kernel) rfl) pa_nil))) (pe_one (pe_not (pe_callB call_isi (by rfl) T.f_isinstance (by decide +kernel) (pa_cons (pv 0) (pa_cons (pe_bltn (v := .ty "bool") (by rfl) T.f_bool (by decide +kernel) rfl) pa_nil))))))))
theorem sc_l_same : FnScope N_l_same ["_law_actual", "_law_due_here"] (defScope s_l_same) := ⟨rfl, rfl, rfl, by decide +kernel, rfl, by decide +kernel, by decide +kernel⟩
theorem ok0_l_same {f : Addr} {fd : FuncData} (F : FunD K "_law_same" "_law_same" (defArgs s_l_same) (defBody s_l_same) (defScope s_l_same) [] [] f fd) : FnOk P w K mg base CX0 (2 + 0) f fd ["_law_actual", "_law_due_here"] (sp_l_same K 0) := F.ok sc_l_same (fun _ _ _ _ h => (sp0_l_same K h).elim) (fun _ _ _ _ _ _ _ _ _ h => (sp0_l_same K h).elim)
theorem ok_l_same {f : Addr} {fd : FuncData} (F : FunD K "_law_same" "_law_same" (defArgs s_l_same) (defBody s_l_same) (defScope s_l_same) [] [] f fd) (T : Txt K mg) (G_l_is_int : C8.Cal P w K mg base (1) "_law_is_int" (sp_l_is_int K) []) (n : Nat) (G_l_same : C8.Cal P w K mg base (2 + n) "_law_same" (sp_l_same K n) []) : FnOk P w K mg base CX0 ((2 + n) + 1) f fd ["_law_actual", "_law_due_here"] (sp_l_same K (n + 1)) := by
  refine F.ok sc_l_same (len_l_same K (n + 1)) (fun cdv A outer s H vs Q E hr h => ⟨t_l_same K n, PSs.nox ?_, pure_l_same K n vs H Q E h⟩)
  exact (pss_cons (ps_if (pt_cmpR op_isN1 (pv 1) pe_non (nomark _)) (pss_one (ps_ret (pe_cmpR op_isN1 (pv 0) pe_non (nomark _)))) pss_nil)
    (pss_cons (ps_if (pt_val (pe_callB call_isi (by rfl) T.f_isinstance (by decide +kernel) (pa_cons (pv 1) (pa_cons (pe_bltn (v := .ty "bool") (by rfl) T.f_bool (by decide +kernel) rfl) pa_nil)))) (pss_one (ps_ret (pe_and (pe_callB call_isi (by rfl) T.f_isinstance (by decide +kernel) (pa_cons (pv 0) (pa_cons (pe_bltn (v := .ty "bool") (by rfl) T.f_bool (by decide +kernel) rfl) pa_nil))) (pe_one (pe_cmpR op_eq (pv 0) (pv 1) (nomark _)))))) pss_nil)
    (pss_cons (ps_if (pt_val (pe_callB call_isi (by rfl) T.f_isinstance (by decide +kernel) (pa_cons (pv 1) (pa_cons (pe_bltn (v := .ty "int") (by rfl) T.f_int (by decide +kernel) rfl) pa_nil)))) (pss_one (ps_ret (pe_and (C8.pe_c G_l_is_int hr (by omega) (by rfl) (pa_cons (pv 0) pa_nil)) (pe_one (pe_cmpR op_eq (pv 0) (pv 1) (nomark _)))))) pss_nil)
    (pss_cons (ps_if (pt_val (pe_callB call_isi (by rfl) T.f_isinstance (by decide +kernel) (pa_cons (pv 1) (pa_cons (pe_bltn (v := .ty "str") (by rfl) T.f_str (by decide +kernel) rfl) pa_nil)))) (pss_one (ps_ret (pe_and (pe_callB call_isi (by rfl) T.f_isinstance (by decide +kernel) (pa_cons (pv 0) (pa_cons (pe_bltn (v := .ty "str") (by rfl) T.f_str (by decide +kernel) rfl) pa_nil))) (pe_one (pe_cmpR op_eq (pv 0) (pv 1) (nomark _)))))) pss_nil)
    (pss_cons (ps_if (pt_val (pe_callB call_isi (by rfl) T.f_isinstance (by decide +kernel) (pa_cons (pv 1) (pa_cons (pe_bltn (v := .ty "dict") (by rfl) T.f_dict (by decide +kernel) rfl) pa_nil)))) (pss_cons ps_never
    (pss_cons ps_never
    (pss_one (ps_ret pe_bl)))) pss_nil)
    (pss_cons (ps_if (PW.pt (pw_and (pt_val (pe_callB call_isi (by rfl) T.f_isinstance (by decide +kernel) (pa_cons (pv 1) (pa_cons (pe_bltn (v := .ty "list") (by rfl) T.f_list (by decide +kernel) rfl) pa_nil)))) (pw_and1 (pt_not (pt_val (pe_callB call_isi (by rfl) T.f_isinstance (by decide +kernel) (pa_cons (pv 0) (pa_cons (pe_bltn (v := .ty "list") (by rfl) T.f_list (by decide +kernel) rfl) pa_nil)))))))) (pss_one (ps_ret pe_bl)) pss_nil)
    (pss_cons (ps_if (PW.pt (pw_and (pt_val (pe_callB call_isi (by rfl) T.f_isinstance (by decide +kernel) (pa_cons (pv 1) (pa_cons (pe_bltn (v := .ty "tuple") (by rfl) T.f_tuple (by decide +kernel) rfl) pa_nil)))) (pw_and1 (pt_not (pt_val (pe_callB call_isi (by rfl) T.f_isinstance (by decide +kernel) (pa_cons (pv 0) (pa_cons (pe_bltn (v := .ty "tuple") (by rfl) T.f_tuple (by decide +kernel) rfl) pa_nil)))))))) (pss_one (ps_ret pe_bl)) pss_nil)
    (pss_cons (ps_if (pt_cmpR op_ne (pe_callB callLenSeq (by rfl) T.f_len (by decide +kernel) (pa_cons (pv 0) pa_nil)) (pe_callB callLenSeq (by rfl) T.f_len (by decide +kernel) (pa_cons (pv 1) pa_nil)) (nomark _)) (pss_one (ps_ret pe_bl)) pss_nil)
    (pss_cons (ps_for PassesOwn.never rfl (pi_range1 rfl T.f_range (pa_cons (pe_callB callLenSeq (by rfl) T.f_len (by decide +kernel) (pa_cons (pv 1) pa_nil)) pa_nil)) (pg_name (i := 3) sc_l_same.nd rfl (Or.inl rfl)) (pss_one (ps_if (pt_not (pt_val (C8.pe_c G_l_same hr (by omega) (by rfl) (pa_cons (pe_ix ix_seq (pv 0) (pv 3) (fun _ _ => rfl)) (pa_cons (pe_ix ix_seq (pv 1) (pv 3) (fun _ _ => rfl)) pa_nil))))) (pss_one (ps_ret pe_bl)) pss_nil)))
    (pss_one (ps_ret pe_bl)))))))))))
theorem sc_l_sign : FnScope N_l_sign ["_law_pool_here"] (defScope s_l_sign) := ⟨rfl, rfl, rfl, by decide +kernel, rfl, by decide +kernel, by decide +kernel⟩
theorem ok_l_sign {f : Addr} {fd : FuncData} (F : FunD K "_law_sign" "_law_sign" (defArgs s_l_sign) (defBody s_l_sign) (defScope s_l_sign) [] [] f fd) (T : Txt K mg) (G_l_draw : C8.Cal P w K mg base (1) "_law_draw" (sp_l_draw K) []) : FnOk P w K mg base CX0 2 f fd ["_law_pool_here"] (sp_l_sign K) := by
  refine F.ok sc_l_sign (len_l_sign K) (fun cdv A outer s H vs Q E hr h => ⟨t_l_sign K, PSs.nox ?_, pure_l_sign K vs H Q E h⟩)
  exact (pss_cons (ps_set (i := 1) sc_l_sign.nd rfl (Or.inl rfl) (pe_strS (by decide +kernel)))
    (pss_cons (ps_set (i := 1) sc_l_sign.nd rfl (Or.inl rfl) (pe_op opAddStr (pv 1) (pe_strS (by decide +kernel))))
    (pss_one (ps_ret (pe_ix ix_str (pv 1) (C8.pe_c G_l_draw hr (by omega) (by rfl) (pa_cons (pv 0) (pa_cons pe_int pa_nil))) (fun _ _ => rfl))))))
theorem sc_l_odd : FnScope N_l_odd ["_law_pool_here"] (defScope s_l_odd) := ⟨rfl, rfl, rfl, by decide +kernel, rfl, by decide +kernel, by decide +kernel⟩
theorem ok_l_odd {f : Addr} {fd : FuncData} (F : FunD K "_law_odd" "_law_odd" (defArgs s_l_odd) (defBody s_l_odd) (defScope s_l_odd) [] [] f fd) (T : Txt K mg) (G_l_draw : C8.Cal P w K mg base (1) "_law_draw" (sp_l_draw K) []) (G_l_names : C8.Cal P w K mg base (3) "_law_names" (sp_l_names K) []) (G_l_sign : C8.Cal P w K mg base (2) "_law_sign" (sp_l_sign K) []) : FnOk P w K mg base CX0 4 f fd ["_law_pool_here"] (sp_l_odd K) := by
  refine F.ok sc_l_odd (len_l_odd K) (fun cdv A outer s H vs Q E hr h => ⟨t_l_odd K, PSs.nox ?_, pure_l_odd K vs H Q E h⟩)
  exact (pss_cons (ps_set (i := 1) sc_l_odd.nd rfl (Or.inl rfl) (pe_ix ix_list (C8.pe_c G_l_names hr (by omega) (by rfl) (pa_cons (pv 0) (pa_cons pe_int pa_nil))) pe_int (fun _ _ => rfl)))
    (pss_cons (ps_set (i := 2) sc_l_odd.nd rfl (Or.inl rfl) (C8.pe_c G_l_draw hr (by omega) (by rfl) (pa_cons (pv 0) (pa_cons pe_int pa_nil))))
    (pss_cons (ps_if (pt_cmpR op_eq (pv 2) pe_int (nomark _)) (pss_one (ps_ret (pe_strS (by decide +kernel)))) pss_nil)
    (pss_cons (ps_if (pt_cmpR op_eq (pv 2) pe_int (nomark _)) (pss_one (ps_ret (pe_slice sl_str (pe_op opAddStr (pv 1) (pe_strS (by decide +kernel))) po_none (po_some pe_int)))) pss_nil)
    (pss_cons (ps_if (pt_cmpR op_eq (pv 2) pe_int (nomark _)) (pss_one (ps_ret (pe_join (pe_strS (by decide +kernel)) (pe_lc (own := [("_law_k", 4)]) rfl sc_l_odd.nd (pi_range1 rfl T.f_range (pa_cons (C8.pe_c G_l_draw hr (by omega) (by rfl) (pa_cons (pv 0) (pa_cons pe_int pa_nil))) pa_nil)) (blkOk_by (N := N_l_odd) (sc := defScope s_l_odd) (by decide +kernel)) (fun _ _ _ _ _ => (pg_name (i := 4) sc_l_odd.nd rfl (Or.inl rfl))) (fun _ _ _ _ _ => pts_nil) (fun _ _ _ _ _ => (C8.pe_c G_l_sign hr (by omega) (by rfl) (pa_cons (pv 0) pa_nil))))))) pss_nil)
    (pss_cons (ps_set (i := 3) sc_l_odd.nd rfl (Or.inl rfl) (C8.pe_c G_l_draw hr (by omega) (by rfl) (pa_cons (pv 0) (pa_cons (pe_callB callLenStr (by rfl) T.f_len (by decide +kernel) (pa_cons (pv 1) pa_nil)) pa_nil))))
    (pss_one (ps_ret (pe_op opAddStr (pe_op opAddStr (pe_slice sl_str (pv 1) po_none (po_some (pv 3))) (C8.pe_c G_l_sign hr (by omega) (by rfl) (pa_cons (pv 0) pa_nil))) (pe_slice sl_str (pv 1) (po_some (pe_op op_add (pv 3) pe_int)) po_none))))))))))
theorem sc_l_wide : FnScope N_l_wide ["_law_pool_here"] (defScope s_l_wide) := ⟨rfl, rfl, rfl, by decide +kernel, rfl, by decide +kernel, by decide +kernel⟩
theorem ok_l_wide {f : Addr} {fd : FuncData} (F : FunD K "_law_wide" "_law_wide" (defArgs s_l_wide) (defBody s_l_wide) (defScope s_l_wide) [] [] f fd) (T : Txt K mg) (G_l_draw : C8.Cal P w K mg base (1) "_law_draw" (sp_l_draw K) []) : FnOk P w K mg base CX0 2 f fd ["_law_pool_here"] (sp_l_wide K) := by
  refine F.ok sc_l_wide (len_l_wide K) (fun cdv A outer s H vs Q E hr h => ⟨t_l_wide K, PSs.nox ?_, pure_l_wide K vs H Q E h⟩)
  exact (pss_cons (ps_set (i := 1) sc_l_wide.nd rfl (Or.inl rfl) (pe_op op_add (pe_op op_mul (C8.pe_c G_l_draw hr (by omega) (by rfl) (pa_cons (pv 0) (pa_cons (pe_op op_pow pe_int pe_int) pa_nil))) (pe_op op_pow pe_int pe_int)) (C8.pe_c G_l_draw hr (by omega) (by rfl) (pa_cons (pv 0) (pa_cons (pe_op op_add (pe_op op_pow pe_int pe_int) pe_int) pa_nil)))))
    (pss_cons (ps_if (pt_cmpR op_eq (C8.pe_c G_l_draw hr (by omega) (by rfl) (pa_cons (pv 0) (pa_cons pe_int pa_nil))) pe_int (nomark _)) (pss_one (ps_ret (pe_un un_neg (pv 1)))) pss_nil)
    (pss_one (ps_ret (pv 1)))))
theorem sc_l_pick : FnScope N_l_pick ["_law_pool_here", "_law_values"] (defScope s_l_pick) := ⟨rfl, rfl, rfl, by decide +kernel, rfl, by decide +kernel, by decide +kernel⟩
theorem ok_l_pick {f : Addr} {fd : FuncData} (F : FunD K "_law_pick" "_law_pick" (defArgs s_l_pick) (defBody s_l_pick) (defScope s_l_pick) [] [] f fd) (T : Txt K mg) (G_l_draw : C8.Cal P w K mg base (1) "_law_draw" (sp_l_draw K) []) (G_l_wide : C8.Cal P w K mg base (2) "_law_wide" (sp_l_wide K) []) : FnOk P w K mg base CX0 3 f fd ["_law_pool_here", "_law_values"] (sp_l_pick K) := by
  refine F.ok sc_l_pick (len_l_pick K) (fun cdv A outer s H vs Q E hr h => ⟨t_l_pick K, PSs.nox ?_, pure_l_pick K vs H Q E h⟩)
  exact (pss_cons (ps_set (i := 2) sc_l_pick.nd rfl (Or.inl rfl) (C8.pe_c G_l_draw hr (by omega) (by rfl) (pa_cons (pv 0) (pa_cons (pe_op op_add (pe_callB callLenSeq (by rfl) T.f_len (by decide +kernel) (pa_cons (pv 1) pa_nil)) pe_int) pa_nil))))
    (pss_cons (ps_if (pt_cmpR op_eq (pv 2) (pe_callB callLenSeq (by rfl) T.f_len (by decide +kernel) (pa_cons (pv 1) pa_nil)) (nomark _)) (pss_one (ps_ret (C8.pe_c G_l_wide hr (by omega) (by rfl) (pa_cons (pv 0) pa_nil)))) pss_nil)
    (pss_one (ps_ret (pe_ix ix_list (pv 1) (pv 2) (fun _ _ => rfl))))))
theorem sc_l_filled : FnScope N_l_filled ["_law_names_here"] (defScope s_l_filled) := ⟨rfl, rfl, rfl, by decide +kernel, rfl, by decide +kernel, by decide +kernel⟩
theorem ok_l_filled {f : Addr} {fd : FuncData} (F : FunD K "_law_filled" "_law_filled" (defArgs s_l_filled) (defBody s_l_filled) (defScope s_l_filled) [] [] f fd) (T : Txt K mg) : FnOk P w K mg base CX0 1 f fd ["_law_names_here"] (sp_l_filled K) := by
  refine F.ok sc_l_filled (len_l_filled K) (fun cdv A outer s H vs Q E hr h => ⟨t_l_filled K, PSs.nox ?_, pure_l_filled K vs H Q E h⟩)
  exact (pss_cons (ps_set (i := 1) sc_l_filled.nd rfl (Or.inl rfl) (pe_callTy callListOf (by rfl) T.f_list (by decide +kernel) (pa_cons (pv 0) pa_nil)))
    (pss_cons (ps_for PassesOwn.never rfl (pi_range1 rfl T.f_range (pa_cons pe_int pa_nil)) (pg_name (i := 2) sc_l_filled.nd rfl (Or.inl rfl)) (pss_one (ps_if (PW.pt (pw_and (pt_cmpR op_lt (pe_callB callLenSeq (by rfl) T.f_len (by decide +kernel) (pa_cons (pv 1) pa_nil)) pe_int (nomark _)) (pw_and1 (pt_cmpR op_notIn_seq (pe_op opAddStr (pe_strS (by decide +kernel)) (pe_callTy callStrInt (by rfl) T.f_str (by decide +kernel) (pa_cons (pv 2) pa_nil))) (pv 1) (by rfl))))) (pss_one (ps_expr (pe_bm PySem.F.plainAttrs_list PySem.F.slot_list_append PySem.F.type_list_append mt_append (pv 1) (pa_cons (pe_op opAddStr (pe_strS (by decide +kernel)) (pe_callTy callStrInt (by rfl) T.f_str (by decide +kernel) (pa_cons (pv 2) pa_nil))) pa_nil)))) pss_nil)))
    (pss_one (ps_ret (pv 1)))))
theorem sc_l_stranger : FnScope N_l_stranger ["_law_pool_here", "_law_names_here"] (defScope s_l_stranger) := ⟨rfl, rfl, rfl, by decide +kernel, rfl, by decide +kernel, by decide +kernel⟩
theorem ok_l_stranger {f : Addr} {fd : FuncData} (F : FunD K "_law_stranger" "_law_stranger" (defArgs s_l_stranger) (defBody s_l_stranger) (defScope s_l_stranger) [] [] f fd) (T : Txt K mg) (G_l_draw : C8.Cal P w K mg base (1) "_law_draw" (sp_l_draw K) []) (G_l_word : C8.Cal P w K mg base (2) "_law_word" (sp_l_word K) []) : FnOk P w K mg base CX0 3 f fd ["_law_pool_here", "_law_names_here"] (sp_l_stranger K) := by
  refine F.ok sc_l_stranger (len_l_stranger K) (fun cdv A outer s H vs Q E hr h => ⟨t_l_stranger K, PSs.nox ?_, pure_l_stranger K vs H Q E h⟩)
  exact (pss_cons (ps_set (i := 2) sc_l_stranger.nd rfl (Or.inl rfl) (pe_op opAddStr (pe_strS (by decide +kernel)) (C8.pe_c G_l_word hr (by omega) (by rfl) (pa_cons (pv 0) (pa_cons (C8.pe_c G_l_draw hr (by omega) (by rfl) (pa_cons (pv 0) (pa_cons pe_int pa_nil))) pa_nil)))))
    (C8.pss_cut (ps_if (PW.pt (pw_and (pt_cmpR op_gt (pe_callB callLenSeq (by rfl) T.f_len (by decide +kernel) (pa_cons (pv 1) pa_nil)) pe_int (nomark _)) (pw_and1 (pt_cmpR op_eq (C8.pe_c G_l_draw hr (by omega) (by rfl) (pa_cons (pv 0) (pa_cons pe_int pa_nil))) pe_int (nomark _))))) (pss_one (ps_set (i := 2) sc_l_stranger.nd rfl (Or.inl rfl) (pe_op opAddStr (pe_slice sl_str (pe_ix ix_list (pv 1) (C8.pe_c G_l_draw hr (by omega) (by rfl) (pa_cons (pv 0) (pa_cons (pe_callB callLenSeq (by rfl) T.f_len (by decide +kernel) (pa_cons (pv 1) pa_nil)) pa_nil))) (fun _ _ => rfl)) po_none (po_some pe_int)) (pe_strS (by decide +kernel))))) pss_nil)
    (pss_cons (ps_for PassesOwn.never rfl (pi_range1 rfl T.f_range (pa_cons pe_int pa_nil)) (pg_name (i := 3) sc_l_stranger.nd rfl (Or.inl rfl)) (pss_one (ps_if (PW.pt (pw_and (pt_cmpR op_in_seq (pv 2) (pv 1) (by rfl)) (pw_and1 (pt_cmpR op_notIn_seq (pe_op opAddStr (pe_strS (by decide +kernel)) (pe_callTy callStrInt (by rfl) T.f_str (by decide +kernel) (pa_cons (pv 3) pa_nil))) (pv 1) (by rfl))))) (pss_one (ps_set (i := 2) sc_l_stranger.nd rfl (Or.inl rfl) (pe_op opAddStr (pe_strS (by decide +kernel)) (pe_callTy callStrInt (by rfl) T.f_str (by decide +kernel) (pa_cons (pv 3) pa_nil))))) pss_nil)))
    (pss_one (ps_ret (pv 2))))))
theorem sc_l_bad_span : FnScope N_l_bad_span ["_law_pool_here", "_law_length_here", "_law_names_here", "_law_span_here", "_law_kind"] (defScope s_l_bad_span) := ⟨rfl, rfl, rfl, by decide +kernel, rfl, by decide +kernel, by decide +kernel⟩
theorem ok_l_bad_span {f : Addr} {fd : FuncData} (F : FunD K "_law_bad_span" "_law_bad_span" (defArgs s_l_bad_span) (defBody s_l_bad_span) (defScope s_l_bad_span) [] [] f fd) (T : Txt K mg) (G_l_stranger : C8.Cal P w K mg base (3) "_law_stranger" (sp_l_stranger K) []) (G_l_pick : C8.Cal P w K mg base (3) "_law_pick" (sp_l_pick K) []) : FnOk P w K mg base CX0 4 f fd ["_law_pool_here", "_law_length_here", "_law_names_here", "_law_span_here", "_law_kind"] (sp_l_bad_span K) := by
  refine F.ok sc_l_bad_span (len_l_bad_span K) (fun cdv A outer s H vs Q E hr h => ⟨t_l_bad_span K, PSs.nox ?_, pure_l_bad_span K vs H Q E h⟩)
  exact (pss_cons (ps_set (i := 5) sc_l_bad_span.nd rfl (Or.inl rfl) (pe_ix ix_tup (pv 3) pe_int (fun _ _ => rfl)))
    (pss_cons (ps_set (i := 6) sc_l_bad_span.nd rfl (Or.inl rfl) (pe_ix ix_tup (pv 3) pe_int (fun _ _ => rfl)))
    (pss_cons (ps_set (i := 7) sc_l_bad_span.nd rfl (Or.inl rfl) (pe_ix ix_tup (pv 3) pe_int (fun _ _ => rfl)))
    (pss_cons (ps_set (i := 8) sc_l_bad_span.nd rfl (Or.inl rfl) (pe_ix ix_tup (pv 3) pe_int (fun _ _ => rfl)))
    (pss_cons (ps_set (i := 9) sc_l_bad_span.nd rfl (Or.inl rfl) (pe_ix ix_tup (pv 3) pe_int (fun _ _ => rfl)))
    (C8.pss_cut (ps_if (pt_cmpR op_eq (pv 4) pe_int (nomark _)) (pss_one (ps_set (i := 5) sc_l_bad_span.nd rfl (Or.inl rfl) (C8.pe_c G_l_stranger hr (by omega) (by rfl) (pa_cons (pv 0) (pa_cons (pv 2) pa_nil))))) pss_nil)
    (C8.pss_cut (ps_if (pt_cmpR op_eq (pv 4) pe_int (nomark _)) (pss_one (ps_set (i := 6) sc_l_bad_span.nd rfl (Or.inl rfl) (C8.pe_c G_l_stranger hr (by omega) (by rfl) (pa_cons (pv 0) (pa_cons (pv 2) pa_nil))))) pss_nil)
    (C8.pss_cut (ps_if (pt_cmpR op_eq (pv 4) pe_int (nomark _)) (pss_one (ps_set (i := 6) sc_l_bad_span.nd rfl (Or.inl rfl) (pv 5))) pss_nil)
    (C8.pss_cut (ps_if (pt_cmpR op_eq (pv 4) pe_int (nomark _)) (pss_one (ps_set (i := 7) sc_l_bad_span.nd rfl (Or.inl rfl) (C8.pe_c G_l_pick hr (by omega) (by rfl) (pa_cons (pv 0) (pa_cons (pe_lst (pa_cons (pe_un un_neg pe_int) (pa_cons (pv 1) pa_nil))) pa_nil))))) pss_nil)
    (C8.pss_cut (ps_if (pt_cmpR op_eq (pv 4) pe_int (nomark _)) (pss_one (ps_set (i := 8) sc_l_bad_span.nd rfl (Or.inl rfl) (C8.pe_c G_l_pick hr (by omega) (by rfl) (pa_cons (pv 0) (pa_cons (pe_lst (pa_cons (pe_op op_sub (pv 7) pe_int) (pa_cons (pe_op op_sub (pe_op op_add (pv 7) (pv 1)) pe_int) pa_nil))) pa_nil))))) pss_nil)
    (C8.pss_cut (ps_if (pt_cmpR op_eq (pv 4) pe_int (nomark _)) (pss_one (ps_set (i := 9) sc_l_bad_span.nd rfl (Or.inl rfl) (C8.pe_c G_l_pick hr (by omega) (by rfl) (pa_cons (pv 0) (pa_cons (pe_lst (pa_cons (pe_un un_neg pe_int) (pa_cons pe_int pa_nil))) pa_nil))))) pss_nil)
    (pss_one (ps_ret (pe_tup (pa_cons (pv 5) (pa_cons (pv 6) (pa_cons (pv 7) (pa_cons (pv 8) (pa_cons (pv 9) pa_nil)))))))))))))))))))
theorem sc_l_spoilt : FnScope N_l_spoilt ["_law_pool_here", "_law_length_here", "_law_net"] (defScope s_l_spoilt) := ⟨rfl, rfl, rfl, by decide +kernel, rfl, by decide +kernel, by decide +kernel⟩
theorem ok_l_spoilt {f : Addr} {fd : FuncData} (F : FunD K "_law_spoilt" "_law_spoilt" (defArgs s_l_spoilt) (defBody s_l_spoilt) (defScope s_l_spoilt) [] [] f fd) (T : Txt K mg) (G_l_draw : C8.Cal P w K mg base (1) "_law_draw" (sp_l_draw K) []) (G_l_odd : C8.Cal P w K mg base (4) "_law_odd" (sp_l_odd K) []) (G_l_pick : C8.Cal P w K mg base (3) "_law_pick" (sp_l_pick K) []) (G_l_filled : C8.Cal P w K mg base (1) "_law_filled" (sp_l_filled K) []) (G_l_bad_span : C8.Cal P w K mg base (4) "_law_bad_span" (sp_l_bad_span K) []) : FnOk P w K mg base CX0 5 f fd ["_law_pool_here", "_law_length_here", "_law_net"] (sp_l_spoilt K) := by
  refine F.ok sc_l_spoilt (len_l_spoilt K) (fun cdv A outer s H vs Q E hr h => ⟨t_l_spoilt K, PSs.nox ?_, pure_l_spoilt K vs H Q E h⟩)
  exact (pss_cons (ps_set (i := 3) sc_l_spoilt.nd rfl (Or.inl rfl) (C8.pe_c G_l_draw hr (by omega) (by rfl) (pa_cons (pv 0) (pa_cons pe_int pa_nil))))
    (pss_cons (ps_set (i := 4) sc_l_spoilt.nd rfl (Or.inl rfl) (pe_ix ix_list (pv 2) pe_int (fun _ _ => rfl)))
    (pss_cons (ps_set (i := 5) sc_l_spoilt.nd rfl (Or.inl rfl) (pe_ix ix_list (pv 2) pe_int (fun _ _ => rfl)))
    (pss_cons (ps_if (pt_cmpR op_eq (pv 3) pe_int (nomark _)) (pss_one (ps_ret (pe_lst (pa_cons (C8.pe_c G_l_pick hr (by omega) (by rfl) (pa_cons (pv 0) (pa_cons (pe_lst (pa_cons pe_int (pa_cons pe_int (pa_cons pe_int (pa_cons (pe_un un_neg pe_int) pa_nil))))) pa_nil))) (pa_cons (pv 4) (pa_cons (pv 5) pa_nil)))))) pss_nil)
    (pss_cons (ps_if (pt_cmpR op_eq (pv 3) pe_int (nomark _)) (pss_one (ps_ret (pe_lst (pa_cons (pe_ix ix_list (pv 2) pe_int (fun _ _ => rfl)) (pa_cons (C8.pe_c G_l_filled hr (by omega) (by rfl) (pa_cons (pv 4) pa_nil)) (pa_cons (pv 5) pa_nil)))))) pss_nil)
    (pss_cons (ps_if (PW.pt (pw_or (pt_cmpR op_eq (pv 3) pe_int (nomark _)) (pw_or1 (pt_cmpR op_eq (pv 3) pe_int (nomark _))))) (pss_cons (ps_set (i := 6) sc_l_spoilt.nd rfl (Or.inl rfl) (C8.pe_c G_l_draw hr (by omega) (by rfl) (pa_cons (pv 0) (pa_cons (pe_op op_add (pe_callB callLenSeq (by rfl) T.f_len (by decide +kernel) (pa_cons (pv 4) pa_nil)) pe_int) pa_nil))))
    (pss_cons (ps_if (PW.pt (pw_and (pt_cmpR op_eq (pv 3) pe_int (nomark _)) (pw_and1 (pt_cmpR op_gt (pe_callB callLenSeq (by rfl) T.f_len (by decide +kernel) (pa_cons (pv 4) pa_nil)) pe_int (nomark _))))) (pss_one (ps_ret (pe_lst (pa_cons (pe_ix ix_list (pv 2) pe_int (fun _ _ => rfl)) (pa_cons (pe_op op_cat (pe_op op_cat (pe_slice sl_list (pv 4) po_none (po_some (pv 6))) (pe_lst (pa_cons (pe_ix ix_list (pv 4) (C8.pe_c G_l_draw hr (by omega) (by rfl) (pa_cons (pv 0) (pa_cons (pe_callB callLenSeq (by rfl) T.f_len (by decide +kernel) (pa_cons (pv 4) pa_nil)) pa_nil))) (fun _ _ => rfl)) pa_nil))) (pe_slice sl_list (pv 4) (po_some (pv 6)) po_none)) (pa_cons (pv 5) pa_nil)))))) pss_nil)
    (pss_one (ps_ret (pe_lst (pa_cons (pe_ix ix_list (pv 2) pe_int (fun _ _ => rfl)) (pa_cons (pe_op op_cat (pe_op op_cat (pe_slice sl_list (pv 4) po_none (po_some (pv 6))) (pe_lst (pa_cons (C8.pe_c G_l_odd hr (by omega) (by rfl) (pa_cons (pv 0) pa_nil)) pa_nil))) (pe_slice sl_list (pv 4) (po_some (pv 6)) po_none)) (pa_cons (pv 5) pa_nil)))))))) pss_nil)
    (pss_cons (ps_if (pt_cmpR op_eq (pe_callB callLenSeq (by rfl) T.f_len (by decide +kernel) (pa_cons (pv 5) pa_nil)) pe_int (nomark _)) (pss_one (ps_ret (pv 2))) pss_nil)
    (pss_cons (ps_if (pt_cmpR op_eq (pv 3) pe_int (nomark _)) (pss_cons (ps_set (i := 7) sc_l_spoilt.nd rfl (Or.inl rfl) (pe_callTy callListOf (by rfl) T.f_list (by decide +kernel) (pa_cons (pv 5) pa_nil)))
    (pss_cons (ps_for PassesOwn.never rfl (pi_range1 rfl T.f_range (pa_cons pe_int pa_nil)) (pg_name (i := 8) sc_l_spoilt.nd rfl (Or.inl rfl)) (pss_one (ps_if (pt_cmpR op_lt (pe_callB callLenSeq (by rfl) T.f_len (by decide +kernel) (pa_cons (pv 7) pa_nil)) pe_int (nomark _)) (pss_one (ps_expr (pe_bm PySem.F.plainAttrs_list PySem.F.slot_list_append PySem.F.type_list_append mt_append (pv 7) (pa_cons (pe_ix ix_list (pv 5) (pe_op op_mod (pe_callTy callInt1 (by rfl) T.f_int (by decide +kernel) (pa_cons (pv 8) pa_nil)) (pe_callB callLenSeq (by rfl) T.f_len (by decide +kernel) (pa_cons (pv 5) pa_nil))) (fun _ _ => rfl)) pa_nil)))) pss_nil)))
    (pss_one (ps_ret (pe_lst (pa_cons (pe_ix ix_list (pv 2) pe_int (fun _ _ => rfl)) (pa_cons (pv 4) (pa_cons (pv 7) pa_nil)))))))) pss_nil)
    (pss_cons (ps_set (i := 6) sc_l_spoilt.nd rfl (Or.inl rfl) (C8.pe_c G_l_draw hr (by omega) (by rfl) (pa_cons (pv 0) (pa_cons (pe_callB callLenSeq (by rfl) T.f_len (by decide +kernel) (pa_cons (pv 5) pa_nil)) pa_nil))))
    (pss_one (ps_ret (pe_lst (pa_cons (pe_ix ix_list (pv 2) pe_int (fun _ _ => rfl)) (pa_cons (pv 4) (pa_cons (pe_op op_cat (pe_op op_cat (pe_slice sl_list (pv 5) po_none (po_some (pv 6))) (pe_lst (pa_cons (C8.pe_c G_l_bad_span hr (by omega) (by rfl) (pa_cons (pv 0) (pa_cons (pv 1) (pa_cons (pv 4) (pa_cons (pe_ix ix_list (pv 5) (pv 6) (fun _ _ => rfl)) (pa_cons (pv 3) pa_nil)))))) pa_nil))) (pe_slice sl_list (pv 5) (po_some (pe_op op_add (pv 6) pe_int)) po_none)) pa_nil)))))))))))))))
theorem sc_l_valid : FnScope N_l_valid ["_law_text"] (defScope s_l_valid) := ⟨rfl, rfl, rfl, by decide +kernel, rfl, by decide +kernel, by decide +kernel⟩
theorem ok_l_valid {f : Addr} {fd : FuncData} (F : FunD K "_law_valid" "_law_valid" (defArgs s_l_valid) (defBody s_l_valid) (defScope s_l_valid) [] [] f fd) (T : Txt K mg) : FnOk P w K mg base CX0 1 f fd ["_law_text"] (sp_l_valid K) := by
  refine F.ok sc_l_valid (len_l_valid K) (fun cdv A outer s H vs Q E hr h => ⟨t_l_valid K, PSs.nox ?_, pure_l_valid K vs H Q E h⟩)
  exact (pss_cons (ps_set (i := 1) sc_l_valid.nd rfl (Or.inr rfl) (pe_strS (by decide +kernel)))
    (pss_cons (ps_setLc (i := 2) (own := [("_law_sign_here", 3)]) rfl sc_l_valid.nd rfl rfl (sw_true rfl rfl rfl (by decide +kernel)) (pi_str (pv 0)) (blkOk_by (N := N_l_valid) (sc := defScope s_l_valid) (by decide +kernel)) (fun _ _ _ _ _ => (pg_name (i := 3) sc_l_valid.nd rfl (Or.inl rfl))) (fun _ _ _ _ _ => pts_nil) (fun _ _ _ _ _ => (pe_bm PySem.F.plainAttrs_str PySem.F.slot_str_find PySem.F.type_str_find mtFind (pv 1) (pa_cons (pv 3) pa_nil))))
    (pss_cons (ps_if (PW.pt (pw_or (pt_cmpR op_lt (pe_callB callLenSeq (by rfl) T.f_len (by decide +kernel) (pa_cons (pv 2) pa_nil)) pe_int (nomark _)) (pw_or1 (pt_cmpR op_gt (pe_callB callLenSeq (by rfl) T.f_len (by decide +kernel) (pa_cons (pv 2) pa_nil)) pe_int (nomark _))))) (pss_one (ps_ret pe_bl)) pss_nil)
    (pss_one (ps_ret (pe_and (pe_cmpR op_ge (pe_callB (cr_min rfl) (by rfl) T.f_min (by decide +kernel) (pa_cons (pv 2) pa_nil)) pe_int (nomark _)) (pe_one (pe_cmpR op_lt (pe_ix ix_list (pv 2) pe_int (fun _ _ => rfl)) pe_int (nomark _)))))))))
theorem sc_l_tests : FnScope N_l_tests ["_law_length_here", "_law_names_here", "_law_spans_here"] (defScope s_l_tests) := ⟨rfl, rfl, rfl, by decide +kernel, rfl, by decide +kernel, by decide +kernel⟩
theorem ok_l_tests {f : Addr} {fd : FuncData} (F : FunD K "_law_tests" "_law_tests" (defArgs s_l_tests) (defBody s_l_tests) (defScope s_l_tests) [] [] f fd) (T : Txt K mg) (G_l_valid : C8.Cal P w K mg base (1) "_law_valid" (sp_l_valid K) []) : FnOk P w K mg base CX0 2 f fd ["_law_length_here", "_law_names_here", "_law_spans_here"] (sp_l_tests K) := by
  refine F.ok sc_l_tests (len_l_tests K) (fun cdv A outer s H vs Q E hr h => ⟨t_l_tests K, PSs.nox ?_, pure_l_tests K vs H Q E h⟩)
  exact (C8.pss_cut (ps_set (i := 3) sc_l_tests.nd rfl (Or.inl rfl) (pe_lst (pa_cons (pe_lst (pa_cons (pe_or (pe_cmpR op_lt (pv 0) pe_int (nomark _)) (pe_one (pe_cmpR op_gt (pv 0) pe_int (nomark _)))) (pa_cons (pe_strS (by decide +kernel)) (pa_cons (pv 0) pa_nil)))) (pa_cons (pe_lst (pa_cons (pe_cmpR op_gt (pe_callB callLenSeq (by rfl) T.f_len (by decide +kernel) (pa_cons (pv 1) pa_nil)) pe_int (nomark _)) (pa_cons (pe_strS (by decide +kernel)) (pa_cons (pe_callB callLenSeq (by rfl) T.f_len (by decide +kernel) (pa_cons (pv 1) pa_nil)) (pa_cons pe_int pa_nil))))) pa_nil))))
    (pss_cons (ps_for PassesOwn.never rfl (pi_range1 rfl T.f_range (pa_cons (pe_callB callLenSeq (by rfl) T.f_len (by decide +kernel) (pa_cons (pv 1) pa_nil)) pa_nil)) (pg_name (i := 4) sc_l_tests.nd rfl (Or.inl rfl)) (C8.pss_cut (ps_expr (pe_bm PySem.F.plainAttrs_list PySem.F.slot_list_append PySem.F.type_list_append mt_append (pv 3) (pa_cons (pe_lst (pa_cons (pe_not (C8.pe_c G_l_valid hr (by omega) (by rfl) (pa_cons (pe_ix ix_list (pv 1) (pv 4) (fun _ _ => rfl)) pa_nil))) (pa_cons (pe_strS (by decide +kernel)) (pa_cons (pe_ix ix_list (pv 1) (pv 4) (fun _ _ => rfl)) pa_nil)))) pa_nil)))
    (pss_one (ps_expr (pe_bm PySem.F.plainAttrs_list PySem.F.slot_list_append PySem.F.type_list_append mt_append (pv 3) (pa_cons (pe_lst (pa_cons (pe_cmpR op_in_seq (pe_ix ix_list (pv 1) (pv 4) (fun _ _ => rfl)) (pe_slice sl_list (pv 1) po_none (po_some (pv 4))) (by rfl)) (pa_cons (pe_strS (by decide +kernel)) (pa_cons (pe_ix ix_list (pv 1) (pv 4) (fun _ _ => rfl)) pa_nil)))) pa_nil))))))
    (C8.pss_cut (ps_expr (pe_bm PySem.F.plainAttrs_list PySem.F.slot_list_append PySem.F.type_list_append mt_append (pv 3) (pa_cons (pe_lst (pa_cons (pe_cmpR op_gt (pe_callB callLenSeq (by rfl) T.f_len (by decide +kernel) (pa_cons (pv 2) pa_nil)) pe_int (nomark _)) (pa_cons (pe_strS (by decide +kernel)) (pa_cons (pe_callB callLenSeq (by rfl) T.f_len (by decide +kernel) (pa_cons (pv 2) pa_nil)) (pa_cons pe_int pa_nil))))) pa_nil)))
    (pss_cons (ps_for PassesOwn.never rfl (pi_list (pv 2)) (pg_name (i := 5) sc_l_tests.nd rfl (Or.inl rfl)) (C8.pss_cut (ps_expr (pe_bm PySem.F.plainAttrs_list PySem.F.slot_list_append PySem.F.type_list_append mt_append (pv 3) (pa_cons (pe_lst (pa_cons (pe_cmpR op_notIn_seq (pe_ix ix_tup (pv 5) pe_int (fun _ _ => rfl)) (pv 1) (by rfl)) (pa_cons (pe_strS (by decide +kernel)) (pa_cons (pe_ix ix_tup (pv 5) pe_int (fun _ _ => rfl)) pa_nil)))) pa_nil)))
    (C8.pss_cut (ps_expr (pe_bm PySem.F.plainAttrs_list PySem.F.slot_list_append PySem.F.type_list_append mt_append (pv 3) (pa_cons (pe_lst (pa_cons (pe_cmpR op_notIn_seq (pe_ix ix_tup (pv 5) pe_int (fun _ _ => rfl)) (pv 1) (by rfl)) (pa_cons (pe_strS (by decide +kernel)) (pa_cons (pe_ix ix_tup (pv 5) pe_int (fun _ _ => rfl)) pa_nil)))) pa_nil)))
    (C8.pss_cut (ps_expr (pe_bm PySem.F.plainAttrs_list PySem.F.slot_list_append PySem.F.type_list_append mt_append (pv 3) (pa_cons (pe_lst (pa_cons (pe_cmpR op_eq (pe_ix ix_tup (pv 5) pe_int (fun _ _ => rfl)) (pe_ix ix_tup (pv 5) pe_int (fun _ _ => rfl)) (nomark _)) (pa_cons (pe_strS (by decide +kernel)) (pa_cons (pe_ix ix_tup (pv 5) pe_int (fun _ _ => rfl)) pa_nil)))) pa_nil)))
    (C8.pss_cut (ps_expr (pe_bm PySem.F.plainAttrs_list PySem.F.slot_list_append PySem.F.type_list_append mt_append (pv 3) (pa_cons (pe_lst (pa_cons (pe_or (pe_cmpR op_lt (pe_ix ix_tup (pv 5) pe_int (fun _ _ => rfl)) pe_int (nomark _)) (pe_one (pe_cmpR op_gt (pe_ix ix_tup (pv 5) pe_int (fun _ _ => rfl)) (pe_op op_sub (pv 0) pe_int) (nomark _)))) (pa_cons (pe_strS (by decide +kernel)) (pa_cons (pe_ix ix_tup (pv 5) pe_int (fun _ _ => rfl)) pa_nil)))) pa_nil)))
    (C8.pss_cut (ps_expr (pe_bm PySem.F.plainAttrs_list PySem.F.slot_list_append PySem.F.type_list_append mt_append (pv 3) (pa_cons (pe_lst (pa_cons (pe_or (pe_cmpR op_lt (pe_ix ix_tup (pv 5) pe_int (fun _ _ => rfl)) (pe_ix ix_tup (pv 5) pe_int (fun _ _ => rfl)) (nomark _)) (pe_one (pe_cmpR op_gt (pe_ix ix_tup (pv 5) pe_int (fun _ _ => rfl)) (pe_op op_sub (pe_op op_add (pe_ix ix_tup (pv 5) pe_int (fun _ _ => rfl)) (pv 0)) pe_int) (nomark _)))) (pa_cons (pe_strS (by decide +kernel)) (pa_cons (pe_ix ix_tup (pv 5) pe_int (fun _ _ => rfl)) pa_nil)))) pa_nil)))
    (pss_one (ps_expr (pe_bm PySem.F.plainAttrs_list PySem.F.slot_list_append PySem.F.type_list_append mt_append (pv 3) (pa_cons (pe_lst (pa_cons (pe_or (pe_cmpR op_lt (pe_ix ix_tup (pv 5) pe_int (fun _ _ => rfl)) pe_int (nomark _)) (pe_one (pe_cmpR op_gt (pe_ix ix_tup (pv 5) pe_int (fun _ _ => rfl)) pe_int (nomark _)))) (pa_cons (pe_strS (by decide +kernel)) (pa_cons (pe_ix ix_tup (pv 5) pe_int (fun _ _ => rfl)) pa_nil)))) pa_nil))))))))))
    (pss_one (ps_ret (pv 3)))))))
theorem sc_l_due : FnScope N_l_due ["_law_tests_here"] (defScope s_l_due) := ⟨rfl, rfl, rfl, by decide +kernel, rfl, by decide +kernel, by decide +kernel⟩
theorem ok_l_due {f : Addr} {fd : FuncData} (F : FunD K "_law_due" "_law_due" (defArgs s_l_due) (defBody s_l_due) (defScope s_l_due) [] [] f fd) (T : Txt K mg) : FnOk P w K mg base CX0 1 f fd ["_law_tests_here"] (sp_l_due K) := by
  refine F.ok sc_l_due (len_l_due K) (fun cdv A outer s H vs Q E hr h => ⟨t_l_due K, PSs.nox ?_, pure_l_due K vs H Q E h⟩)
  exact (pss_cons (ps_for PassesOwn.never rfl (pi_list (pv 0)) (pg_name (i := 1) sc_l_due.nd rfl (Or.inl rfl)) (pss_one (ps_if (pt_val (pe_ix ix_list (pv 1) pe_int (fun _ _ => rfl))) (pss_one (ps_ret (pe_slice sl_list (pv 1) (po_some pe_int) po_none))) pss_nil)))
    (pss_one (ps_ret (pe_lst pa_nil))))
theorem sc_l_flags : FnScope N_l_flags ["_law_length_here", "_law_events", "_law_rows"] (defScope s_l_flags) := ⟨rfl, rfl, rfl, by decide +kernel, rfl, by decide +kernel, by decide +kernel⟩
theorem ok_l_flags {f : Addr} {fd : FuncData} (F : FunD K "_law_flags" "_law_flags" (defArgs s_l_flags) (defBody s_l_flags) (defScope s_l_flags) [] [] f fd) (T : Txt K mg) (G_Net_init : MakX P w K mg base 6 "Net" (C_Net K) (sp_Net_init K) []) : FnOk P w K mg base CX0 8 f fd ["_law_length_here", "_law_events", "_law_rows"] (sp_l_flags K) := by
  refine F.ok sc_l_flags (len_l_flags K) (fun cdv A outer s H vs Q E hr h => ⟨t_l_flags K, PSs.nox ?_, pure_l_flags K T.xf vs H Q E h⟩)
  exact (pss_cons (ps_set (i := 3) sc_l_flags.nd rfl (Or.inl rfl) (pe_lst pa_nil))
    (pss_cons (ps_try_asm rfl rfl sc_l_flags.nd (i := 4) rfl rfl (fun W pn xe tk po => (pss_one (ps_expr (pe_mkS G_Net_init hr (by omega) (by rfl) tk (pa_cons (pv 0) (pa_cons (pv 1) (pa_cons (pv 2) pa_nil))))))) (HdA.cons ⟨by rfl, by decide, .inl T.g_MinuteError⟩ (fun a oe cls d pn hz hf => (pss_one (ps_set (i := 3) sc_l_flags.nd rfl (Or.inl rfl) (pe_lst (pa_cons (pe_callB (call_isX hz hf) (by rfl) T.f_isinstance (by decide +kernel) (pa_cons (pv 4) (pa_cons (pe_bltn (v := .ty "ValueError") (by rfl) T.f_ValueError (by decide +kernel) rfl) pa_nil))) (pa_cons (pe_callB (call_isX hz hf) (by rfl) T.f_isinstance (by decide +kernel) (pa_cons (pv 4) (pa_cons (pe_clsv (by rfl) T.g_BadName) pa_nil))) (pa_cons (pe_callB (call_isX hz hf) (by rfl) T.f_isinstance (by decide +kernel) (pa_cons (pv 4) (pa_cons (pe_clsv (by rfl) T.g_BadNumber) pa_nil))) (pa_cons (pe_callB (call_isX hz hf) (by rfl) T.f_isinstance (by decide +kernel) (pa_cons (pv 4) (pa_cons (pe_clsv (by rfl) T.g_DoubleEvent) pa_nil))) (pa_cons (pe_callB (call_isX hz hf) (by rfl) T.f_isinstance (by decide +kernel) (pa_cons (pv 4) (pa_cons (pe_clsv (by rfl) T.g_SameEvent) pa_nil))) (pa_cons (pe_callB (call_isX hz hf) (by rfl) T.f_isinstance (by decide +kernel) (pa_cons (pv 4) (pa_cons (pe_clsv (by rfl) T.g_TooMany) pa_nil))) (pa_cons (pe_callB (call_isX hz hf) (by rfl) T.f_isinstance (by decide +kernel) (pa_cons (pv 4) (pa_cons (pe_clsv (by rfl) T.g_UnknownEvent) pa_nil))) (pa_cons (pe_callB (call_isX hz hf) (by rfl) T.f_isinstance (by decide +kernel) (pa_cons (pv 4) (pa_cons (pe_clsv (by rfl) T.g_UnknownSpan) pa_nil))) (pa_cons (pe_callB (call_isX hz hf) (by rfl) T.f_isinstance (by decide +kernel) (pa_cons (pv 4) (pa_cons (pe_clsv (by rfl) T.g_WrongNames) pa_nil))) pa_nil))))))))))))) HdA.nil))
    (pss_one (ps_ret (pv 3)))))
theorem sc_l_told : FnScope N_l_told ["_law_length_here", "_law_events", "_law_rows"] (defScope s_l_told) := ⟨rfl, rfl, rfl, by decide +kernel, rfl, by decide +kernel, by decide +kernel⟩
theorem ok_l_told {f : Addr} {fd : FuncData} (F : FunD K "_law_told" "_law_told" (defArgs s_l_told) (defBody s_l_told) (defScope s_l_told) [] [] f fd) (T : Txt K mg) (G_Net_init : MakX P w K mg base 6 "Net" (C_Net K) (sp_Net_init K) []) : FnOk P w K mg base CX0 8 f fd ["_law_length_here", "_law_events", "_law_rows"] (sp_l_told K) := by
  refine F.ok sc_l_told (len_l_told K) (fun cdv A outer s H vs Q E hr h => ⟨t_l_told K, PSs.nox ?_, pure_l_told K T.xf vs H Q E h⟩)
  exact (pss_cons (ps_set (i := 3) sc_l_told.nd rfl (Or.inl rfl) (pe_lst pa_nil))
    (pss_cons (ps_try_asm rfl rfl sc_l_told.nd (i := 4) rfl rfl (fun W pn xe tk po => (pss_one (ps_expr (pe_mkS G_Net_init hr (by omega) (by rfl) tk (pa_cons (pv 0) (pa_cons (pv 1) (pa_cons (pv 2) pa_nil))))))) (HdA.cons ⟨by rfl, by decide, .inl T.g_BadName⟩ (fun a oe cls d pn hz hf => (pss_one (ps_set (i := 3) sc_l_told.nd rfl (Or.inl rfl) (pe_lst (pa_cons (pe_xf T.xf_BadName T.na_BadName_name hz hf (pv 4)) pa_nil))))) (HdA.cons ⟨by rfl, by decide, .inl T.g_BadNumber⟩ (fun a oe cls d pn hz hf => (pss_one (ps_set (i := 3) sc_l_told.nd rfl (Or.inl rfl) (pe_lst (pa_cons (pe_xf T.xf_BadNumber T.na_BadNumber_number hz hf (pv 4)) pa_nil))))) (HdA.cons ⟨by rfl, by decide, .inl T.g_DoubleEvent⟩ (fun a oe cls d pn hz hf => (pss_one (ps_set (i := 3) sc_l_told.nd rfl (Or.inl rfl) (pe_lst (pa_cons (pe_xf T.xf_DoubleEvent T.na_DoubleEvent_name hz hf (pv 4)) pa_nil))))) (HdA.cons ⟨by rfl, by decide, .inl T.g_SameEvent⟩ (fun a oe cls d pn hz hf => (pss_one (ps_set (i := 3) sc_l_told.nd rfl (Or.inl rfl) (pe_lst (pa_cons (pe_xf T.xf_SameEvent T.na_SameEvent_name hz hf (pv 4)) pa_nil))))) (HdA.cons ⟨by rfl, by decide, .inl T.g_UnknownEvent⟩ (fun a oe cls d pn hz hf => (pss_one (ps_set (i := 3) sc_l_told.nd rfl (Or.inl rfl) (pe_lst (pa_cons (pe_xf T.xf_UnknownEvent T.na_UnknownEvent_name hz hf (pv 4)) pa_nil))))) (HdA.cons ⟨by rfl, by decide, .inl T.g_TooMany⟩ (fun a oe cls d pn hz hf => (pss_one (ps_set (i := 3) sc_l_told.nd rfl (Or.inl rfl) (pe_lst (pa_cons (pe_xf T.xf_TooMany T.na_TooMany_count hz hf (pv 4)) (pa_cons (pe_xf T.xf_TooMany T.na_TooMany_limit hz hf (pv 4)) pa_nil)))))) HdA.nil)))))))
    (pss_one (ps_ret (pv 3)))))
theorem sc_law : FnScope N_law ["_law_script"] (defScope s_law) := ⟨rfl, rfl, rfl, by decide +kernel, rfl, by decide +kernel, by decide +kernel⟩
theorem ok_law {f : Addr} {fd : FuncData} (F : FunD K "law" "law" (defArgs s_law) (defBody s_law) (defScope s_law) [] [] f fd) (T : Txt K mg) (G_Net_init : MakX P w K mg base 6 "Net" (C_Net K) (sp_Net_init K) []) (G_Net_round_length : Prp P w K mg base 1 (C_Net K) "round_length" (sp_Net_round_length K)) (G_Net_events : Prp P w K mg base 1 (C_Net K) "events" (sp_Net_events K)) (G_Net_spans : Prp P w K mg base 1 (C_Net K) "spans" (sp_Net_spans K)) (G_l_pool : C8.Cal P w K mg base (1) "_law_pool" (sp_l_pool K) []) (G_l_draw : C8.Cal P w K mg base (1) "_law_draw" (sp_l_draw K) []) (G_l_names : C8.Cal P w K mg base (3) "_law_names" (sp_l_names K) []) (G_l_length : C8.Cal P w K mg base (2) "_law_length" (sp_l_length K) []) (G_l_size : C8.Cal P w K mg base (2) "_law_size" (sp_l_size K) []) (G_l_spans : C8.Cal P w K mg base (4) "_law_spans" (sp_l_spans K) []) (G_l_same : C8.Cal P w K mg base (5) "_law_same" (sp_l_same K 3) []) (G_l_spoilt : C8.Cal P w K mg base (5) "_law_spoilt" (sp_l_spoilt K) []) (G_l_tests : C8.Cal P w K mg base (2) "_law_tests" (sp_l_tests K) []) (G_l_due : C8.Cal P w K mg base (1) "_law_due" (sp_l_due K) []) (G_l_flags : C8.Cal P w K mg base (8) "_law_flags" (sp_l_flags K) []) (G_l_told : C8.Cal P w K mg base (8) "_law_told" (sp_l_told K) []) : FnOk P w K mg base CX0 9 f fd ["_law_script"] (sp_law K) := by
  refine F.ok sc_law (len_law K) (fun cdv A outer s H vs Q E hr h => ⟨t_law K, PSs.nox ?_, pure_law K vs H Q E h⟩)
  exact (pss_cons (ps_set (i := 1) sc_law.nd rfl (Or.inl rfl) (C8.pe_c G_l_pool hr (by omega) (by rfl) (pa_cons (pv 0) pa_nil)))
    (pss_cons (ps_set (i := 2) sc_law.nd rfl (Or.inl rfl) (C8.pe_c G_l_length hr (by omega) (by rfl) (pa_cons (pv 1) (pa_cons pe_int pa_nil))))
    (pss_cons (ps_set (i := 3) sc_law.nd rfl (Or.inl rfl) (C8.pe_c G_l_names hr (by omega) (by rfl) (pa_cons (pv 1) (pa_cons (C8.pe_c G_l_size hr (by omega) (by rfl) (pa_cons (pv 1) (pa_cons pe_int pa_nil))) pa_nil))))
    (pss_cons (ps_set (i := 4) sc_law.nd rfl (Or.inl rfl) (C8.pe_c G_l_spans hr (by omega) (by rfl) (pa_cons (pv 1) (pa_cons (pv 2) (pa_cons (pv 3) (pa_cons pe_int pa_nil))))))
    (pss_cons (ps_set (i := 5) sc_law.nd rfl (Or.inl rfl) (pe_lst (pa_cons (pv 2) (pa_cons (pv 3) (pa_cons (pv 4) pa_nil)))))
    (pss_cons (ps_for PassesOwn.never rfl (pi_range1 rfl T.f_range (pa_cons (C8.pe_c G_l_draw hr (by omega) (by rfl) (pa_cons (pv 1) (pa_cons pe_int pa_nil))) pa_nil)) (pg_name (i := 6) sc_law.nd rfl (Or.inl rfl)) (pss_one (ps_set (i := 5) sc_law.nd rfl (Or.inl rfl) (C8.pe_c G_l_spoilt hr (by omega) (by rfl) (pa_cons (pv 1) (pa_cons (pv 2) (pa_cons (pv 5) pa_nil)))))))
    (pss_cons (ps_set (i := 7) sc_law.nd rfl (Or.inr rfl) (C8.pe_c G_l_due hr (by omega) (by rfl) (pa_cons (C8.pe_c G_l_tests hr (by omega) (by rfl) (pa_cons (pe_ix ix_list (pv 5) pe_int (fun _ _ => rfl)) (pa_cons (pe_ix ix_list (pv 5) pe_int (fun _ _ => rfl)) (pa_cons (pe_ix ix_list (pv 5) pe_int (fun _ _ => rfl)) pa_nil)))) pa_nil)))
    (pss_cons (ps_if (pt_cmpR (op_neD hr.units) (C8.pe_c G_l_flags hr (by omega) (by rfl) (pa_cons (pv 2) (pa_cons (pe_callTy callListOf (by rfl) T.f_list (by decide +kernel) (pa_cons (pv 3) pa_nil)) (pa_cons (pe_callTy callListOf (by rfl) T.f_list (by decide +kernel) (pa_cons (pv 4) pa_nil)) pa_nil)))) (pe_lst pa_nil) (nomark _)) (pss_one (ps_ret pe_bl)) pss_nil)
    (pss_cons (ps_set (i := 8) sc_law.nd rfl (Or.inl rfl) (pe_callTy callListOf (by rfl) T.f_list (by decide +kernel) (pa_cons (pe_ix ix_list (pv 5) pe_int (fun _ _ => rfl)) pa_nil)))
    (pss_cons (ps_set (i := 9) sc_law.nd rfl (Or.inl rfl) (pe_callTy callListOf (by rfl) T.f_list (by decide +kernel) (pa_cons (pe_ix ix_list (pv 5) pe_int (fun _ _ => rfl)) pa_nil)))
    (pss_cons (ps_set (i := 10) sc_law.nd rfl (Or.inl rfl) (C8.pe_c G_l_flags hr (by omega) (by rfl) (pa_cons (pe_ix ix_list (pv 5) pe_int (fun _ _ => rfl)) (pa_cons (pv 8) (pa_cons (pv 9) pa_nil)))))
    (pss_cons (ps_if (PW.pt (pw_or (pt_cmpR (op_neD hr.units) (pv 8) (pe_ix ix_list (pv 5) pe_int (fun _ _ => rfl)) (nomark _)) (pw_or1 (pt_cmpR (op_neD hr.units) (pv 9) (pe_ix ix_list (pv 5) pe_int (fun _ _ => rfl)) (nomark _))))) (pss_one (ps_ret pe_bl)) pss_nil)
    (pss_cons (ps_if (pt_cmpR (op_eqD hr.units) (pv 7) (pe_lst pa_nil) (nomark _)) (pss_cons (ps_if (pt_cmpR (op_neD hr.units) (pv 10) (pe_lst pa_nil) (nomark _)) (pss_one (ps_ret pe_bl)) pss_nil)
    (pss_cons (ps_set (i := 11) sc_law.nd rfl (Or.inl rfl) (pe_mkX G_Net_init hr (by omega) (by rfl) passL (pa_cons (pe_ix ix_list (pv 5) pe_int (fun _ _ => rfl)) (pa_cons (pv 8) (pa_cons (pv 9) pa_nil)))))
    (pss_cons (ps_if (PW.pt (pw_or (pt_not (pt_val (C8.pe_c G_l_same hr (by omega) (by rfl) (pa_cons (pe_prp T.cls_Net G_Net_round_length hr (by omega) (pv 11)) (pa_cons (pe_ix ix_list (pv 5) pe_int (fun _ _ => rfl)) pa_nil))))) (pw_or1 (pt_not (pt_val (C8.pe_c G_l_same hr (by omega) (by rfl) (pa_cons (pe_prp T.cls_Net G_Net_events hr (by omega) (pv 11)) (pa_cons (pe_ix ix_list (pv 5) pe_int (fun _ _ => rfl)) pa_nil)))))))) (pss_one (ps_ret pe_bl)) pss_nil)
    (pss_one (ps_ret (C8.pe_c G_l_same hr (by omega) (by rfl) (pa_cons (pe_prp T.cls_Net G_Net_spans hr (by omega) (pv 11)) (pa_cons (pe_ix ix_list (pv 5) pe_int (fun _ _ => rfl)) pa_nil)))))))) pss_nil)
    (pss_cons (ps_set (i := 12) sc_law.nd rfl (Or.inl rfl) (pe_lst (pa_cons (pe_strS (by decide +kernel)) (pa_cons (pe_strS (by decide +kernel)) (pa_cons (pe_strS (by decide +kernel)) (pa_cons (pe_strS (by decide +kernel)) (pa_cons (pe_strS (by decide +kernel)) (pa_cons (pe_strS (by decide +kernel)) (pa_cons (pe_strS (by decide +kernel)) (pa_cons (pe_strS (by decide +kernel)) pa_nil))))))))))
    (pss_cons (ps_if (pt_cmpR (op_neD hr.units) (pv 10) (pe_op op_cat (pe_lst (pa_cons pe_bl pa_nil)) (pe_lc (own := [("_law_kind", 13)]) rfl sc_law.nd (pi_list (pv 12)) (blkOk_by (N := N_law) (sc := defScope s_law) (by decide +kernel)) (fun _ _ _ _ _ => (pg_name (i := 13) sc_law.nd rfl (Or.inl rfl))) (fun _ _ _ _ _ => pts_nil) (fun _ _ _ _ _ => (pe_cmpR op_eq (pv 13) (pe_ix ix_list (pv 7) pe_int (fun _ _ => rfl)) (nomark _))))) (nomark _)) (pss_one (ps_ret pe_bl)) pss_nil)
    (pss_one (ps_ret (C8.pe_c G_l_same hr (by omega) (by rfl) (pa_cons (C8.pe_c G_l_told hr (by omega) (by rfl) (pa_cons (pe_ix ix_list (pv 5) pe_int (fun _ _ => rfl)) (pa_cons (pv 8) (pa_cons (pv 9) pa_nil)))) (pa_cons (pe_slice sl_list (pv 7) (po_some pe_int) po_none) pa_nil))))))))))))))))))))
abbrev N_BadName_init : List Str := ["self", "name"]
theorem sc_BadName_init : FnScope N_BadName_init ["self", "name"] (defScope s_BadName_init) := ⟨rfl, rfl, rfl, by decide +kernel, rfl, by decide +kernel, by decide +kernel⟩
theorem ok_BadName_init {f : Addr} {fd : FuncData} (F : FunD K "__init__" "BadName.__init__" (defArgs s_BadName_init) (defBody s_BadName_init) (defScope s_BadName_init) [] [] f fd) (T : Txt K mg) : FnOk P w K mg base CX0 1 f fd ["self", "name"] (spX (C_BadName K) ["name"]) := by
  refine F.ok sc_BadName_init (fun vs H Q E h => len_spX h) (fun cdv A outer s H vs Q E hr h => ⟨_, PSs.nox ?_, ini1 T.ox_BadName T.na_BadName_name h⟩)
  exact (pss_one (ps_ost (pv 0) (pv 1)))
abbrev N_BadNumber_init : List Str := ["self", "number"]
theorem sc_BadNumber_init : FnScope N_BadNumber_init ["self", "number"] (defScope s_BadNumber_init) := ⟨rfl, rfl, rfl, by decide +kernel, rfl, by decide +kernel, by decide +kernel⟩
theorem ok_BadNumber_init {f : Addr} {fd : FuncData} (F : FunD K "__init__" "BadNumber.__init__" (defArgs s_BadNumber_init) (defBody s_BadNumber_init) (defScope s_BadNumber_init) [] [] f fd) (T : Txt K mg) : FnOk P w K mg base CX0 1 f fd ["self", "number"] (spX (C_BadNumber K) ["number"]) := by
  refine F.ok sc_BadNumber_init (fun vs H Q E h => len_spX h) (fun cdv A outer s H vs Q E hr h => ⟨_, PSs.nox ?_, ini1 T.ox_BadNumber T.na_BadNumber_number h⟩)
  exact (pss_one (ps_ost (pv 0) (pv 1)))
abbrev N_DoubleEvent_init : List Str := ["self", "name"]
theorem sc_DoubleEvent_init : FnScope N_DoubleEvent_init ["self", "name"] (defScope s_DoubleEvent_init) := ⟨rfl, rfl, rfl, by decide +kernel, rfl, by decide +kernel, by decide +kernel⟩
theorem ok_DoubleEvent_init {f : Addr} {fd : FuncData} (F : FunD K "__init__" "DoubleEvent.__init__" (defArgs s_DoubleEvent_init) (defBody s_DoubleEvent_init) (defScope s_DoubleEvent_init) [] [] f fd) (T : Txt K mg) : FnOk P w K mg base CX0 1 f fd ["self", "name"] (spX (C_DoubleEvent K) ["name"]) := by
  refine F.ok sc_DoubleEvent_init (fun vs H Q E h => len_spX h) (fun cdv A outer s H vs Q E hr h => ⟨_, PSs.nox ?_, ini1 T.ox_DoubleEvent T.na_DoubleEvent_name h⟩)
  exact (pss_one (ps_ost (pv 0) (pv 1)))
abbrev N_SameEvent_init : List Str := ["self", "name"]
theorem sc_SameEvent_init : FnScope N_SameEvent_init ["self", "name"] (defScope s_SameEvent_init) := ⟨rfl, rfl, rfl, by decide +kernel, rfl, by decide +kernel, by decide +kernel⟩
theorem ok_SameEvent_init {f : Addr} {fd : FuncData} (F : FunD K "__init__" "SameEvent.__init__" (defArgs s_SameEvent_init) (defBody s_SameEvent_init) (defScope s_SameEvent_init) [] [] f fd) (T : Txt K mg) : FnOk P w K mg base CX0 1 f fd ["self", "name"] (spX (C_SameEvent K) ["name"]) := by
  refine F.ok sc_SameEvent_init (fun vs H Q E h => len_spX h) (fun cdv A outer s H vs Q E hr h => ⟨_, PSs.nox ?_, ini1 T.ox_SameEvent T.na_SameEvent_name h⟩)
  exact (pss_one (ps_ost (pv 0) (pv 1)))
abbrev N_TooMany_init : List Str := ["self", "count", "limit"]
theorem sc_TooMany_init : FnScope N_TooMany_init ["self", "count", "limit"] (defScope s_TooMany_init) := ⟨rfl, rfl, rfl, by decide +kernel, rfl, by decide +kernel, by decide +kernel⟩
theorem ok_TooMany_init {f : Addr} {fd : FuncData} (F : FunD K "__init__" "TooMany.__init__" (defArgs s_TooMany_init) (defBody s_TooMany_init) (defScope s_TooMany_init) [] [] f fd) (T : Txt K mg) : FnOk P w K mg base CX0 1 f fd ["self", "count", "limit"] (spX (C_TooMany K) ["count", "limit"]) := by
  refine F.ok sc_TooMany_init (fun vs H Q E h => len_spX h) (fun cdv A outer s H vs Q E hr h => ⟨_, PSs.nox ?_, ini2 T.ox_TooMany T.na_TooMany_count T.na_TooMany_limit h⟩)
  exact (pss_cons (ps_ost (pv 0) (pv 1)) (pss_one (ps_ost (pv 0) (pv 2))))
abbrev N_UnknownEvent_init : List Str := ["self", "name"]
theorem sc_UnknownEvent_init : FnScope N_UnknownEvent_init ["self", "name"] (defScope s_UnknownEvent_init) := ⟨rfl, rfl, rfl, by decide +kernel, rfl, by decide +kernel, by decide +kernel⟩
theorem ok_UnknownEvent_init {f : Addr} {fd : FuncData} (F : FunD K "__init__" "UnknownEvent.__init__" (defArgs s_UnknownEvent_init) (defBody s_UnknownEvent_init) (defScope s_UnknownEvent_init) [] [] f fd) (T : Txt K mg) : FnOk P w K mg base CX0 1 f fd ["self", "name"] (spX (C_UnknownEvent K) ["name"]) := by
  refine F.ok sc_UnknownEvent_init (fun vs H Q E h => len_spX h) (fun cdv A outer s H vs Q E hr h => ⟨_, PSs.nox ?_, ini1 T.ox_UnknownEvent T.na_UnknownEvent_name h⟩)
  exact (pss_one (ps_ost (pv 0) (pv 1)))
end
theorem facts {P : Program} {w : World} {K : PySem.W.Frag} {h : Heap} {mg : Str → Option Value} {f : Addr} (X : K.In h) (G : h.Ns mainGlobals mg) (hfa : mg ("law" : Str) = some (.ref f)) (c : SaysX bs fas fns K) :
    ∃ fd : FuncData, (∀ (s : Shared) (v : Value), BindsTo s fd ⟨[v], []⟩ [("_law_script", v)]) ∧ ∀ base : Heap, K.In base → base.Ns mainGlobals mg → FnOk P w K mg base CX0 9 f fd ["_law_script"] (sp_law K) := by
  obtain ⟨fd_check_range, F_check_range⟩ := c.def_ 0 (d := d_check_range) rfl
  have g_check_range := He.glo_ok X G (c.fact 0 (f := .glo "check_range") rfl)
  obtain ⟨fd_check_round_length, F_check_round_length⟩ := c.def_ 1 (d := d_check_round_length) rfl
  have g_check_round_length := He.glo_ok X G (c.fact 1 (f := .glo "check_round_length") rfl)
  obtain ⟨fd_check_count, F_check_count⟩ := c.def_ 2 (d := d_check_count) rfl
  have g_check_count := He.glo_ok X G (c.fact 2 (f := .glo "check_count") rfl)
  obtain ⟨fd_is_name, F_is_name⟩ := c.def_ 3 (d := d_is_name) rfl
  have g_is_name := He.glo_ok X G (c.fact 3 (f := .glo "is_name") rfl)
  obtain ⟨fd_check_name, F_check_name⟩ := c.def_ 4 (d := d_check_name) rfl
  have g_check_name := He.glo_ok X G (c.fact 4 (f := .glo "check_name") rfl)
  obtain ⟨fd_check_event, F_check_event⟩ := c.def_ 5 (d := d_check_event) rfl
  have g_check_event := He.glo_ok X G (c.fact 5 (f := .glo "check_event") rfl)
  obtain ⟨fd_check_known, F_check_known⟩ := c.def_ 6 (d := d_check_known) rfl
  have g_check_known := He.glo_ok X G (c.fact 6 (f := .glo "check_known") rfl)
  obtain ⟨fd_check_span, F_check_span⟩ := c.def_ 7 (d := d_check_span) rfl
  have g_check_span := He.glo_ok X G (c.fact 7 (f := .glo "check_span") rfl)
  obtain ⟨fd_check_net, F_check_net⟩ := c.def_ 8 (d := d_check_net) rfl
  have g_check_net := He.glo_ok X G (c.fact 8 (f := .glo "check_net") rfl)
  obtain ⟨fd_Net_init, F_Net_init⟩ := c.def_ 9 (d := d_Net_init) rfl
  have m_Net_init := He.mkr_ok (c.fact 9 (f := .mkr "Net") rfl)
  obtain ⟨fd_Net_round_length, F_Net_round_length⟩ := c.def_ 10 (d := d_Net_round_length) rfl
  have m_Net_round_length := bProp_ok (c.b 19 (f := bProp "Net" "round_length") rfl)
  obtain ⟨fd_Net_events, F_Net_events⟩ := c.def_ 11 (d := d_Net_events) rfl
  have m_Net_events := bProp_ok (c.b 20 (f := bProp "Net" "events") rfl)
  obtain ⟨fd_Net_spans, F_Net_spans⟩ := c.def_ 12 (d := d_Net_spans) rfl
  have m_Net_spans := bProp_ok (c.b 21 (f := bProp "Net" "spans") rfl)
  obtain ⟨fd_l_pool, F_l_pool⟩ := c.def_ 13 (d := d_l_pool) rfl
  have g_l_pool := He.glo_ok X G (c.fact 10 (f := .glo "_law_pool") rfl)
  obtain ⟨fd_l_draw, F_l_draw⟩ := c.def_ 14 (d := d_l_draw) rfl
  have g_l_draw := He.glo_ok X G (c.fact 11 (f := .glo "_law_draw") rfl)
  obtain ⟨fd_l_word, F_l_word⟩ := c.def_ 15 (d := d_l_word) rfl
  have g_l_word := He.glo_ok X G (c.fact 12 (f := .glo "_law_word") rfl)
  obtain ⟨fd_l_names, F_l_names⟩ := c.def_ 16 (d := d_l_names) rfl
  have g_l_names := He.glo_ok X G (c.fact 13 (f := .glo "_law_names") rfl)
  obtain ⟨fd_l_length, F_l_length⟩ := c.def_ 17 (d := d_l_length) rfl
  have g_l_length := He.glo_ok X G (c.fact 14 (f := .glo "_law_length") rfl)
  obtain ⟨fd_l_size, F_l_size⟩ := c.def_ 18 (d := d_l_size) rfl
  have g_l_size := He.glo_ok X G (c.fact 15 (f := .glo "_law_size") rfl)
  obtain ⟨fd_l_some, F_l_some⟩ := c.def_ 19 (d := d_l_some) rfl
  have g_l_some := He.glo_ok X G (c.fact 16 (f := .glo "_law_some") rfl)
  obtain ⟨fd_l_weight, F_l_weight⟩ := c.def_ 20 (d := d_l_weight) rfl
  have g_l_weight := He.glo_ok X G (c.fact 17 (f := .glo "_law_weight") rfl)
  obtain ⟨fd_l_span, F_l_span⟩ := c.def_ 21 (d := d_l_span) rfl
  have g_l_span := He.glo_ok X G (c.fact 18 (f := .glo "_law_span") rfl)
  obtain ⟨fd_l_spans, F_l_spans⟩ := c.def_ 22 (d := d_l_spans) rfl
  have g_l_spans := He.glo_ok X G (c.fact 19 (f := .glo "_law_spans") rfl)
  obtain ⟨fd_l_is_int, F_l_is_int⟩ := c.def_ 23 (d := d_l_is_int) rfl
  have g_l_is_int := He.glo_ok X G (c.fact 20 (f := .glo "_law_is_int") rfl)
  obtain ⟨fd_l_same, F_l_same⟩ := c.def_ 24 (d := d_l_same) rfl
  have g_l_same := He.glo_ok X G (c.fact 21 (f := .glo "_law_same") rfl)
  obtain ⟨fd_l_sign, F_l_sign⟩ := c.def_ 25 (d := d_l_sign) rfl
  have g_l_sign := He.glo_ok X G (c.fact 22 (f := .glo "_law_sign") rfl)
  obtain ⟨fd_l_odd, F_l_odd⟩ := c.def_ 26 (d := d_l_odd) rfl
  have g_l_odd := He.glo_ok X G (c.fact 23 (f := .glo "_law_odd") rfl)
  obtain ⟨fd_l_wide, F_l_wide⟩ := c.def_ 27 (d := d_l_wide) rfl
  have g_l_wide := He.glo_ok X G (c.fact 24 (f := .glo "_law_wide") rfl)
  obtain ⟨fd_l_pick, F_l_pick⟩ := c.def_ 28 (d := d_l_pick) rfl
  have g_l_pick := He.glo_ok X G (c.fact 25 (f := .glo "_law_pick") rfl)
  obtain ⟨fd_l_filled, F_l_filled⟩ := c.def_ 29 (d := d_l_filled) rfl
  have g_l_filled := He.glo_ok X G (c.fact 26 (f := .glo "_law_filled") rfl)
  obtain ⟨fd_l_stranger, F_l_stranger⟩ := c.def_ 30 (d := d_l_stranger) rfl
  have g_l_stranger := He.glo_ok X G (c.fact 27 (f := .glo "_law_stranger") rfl)
  obtain ⟨fd_l_bad_span, F_l_bad_span⟩ := c.def_ 31 (d := d_l_bad_span) rfl
  have g_l_bad_span := He.glo_ok X G (c.fact 28 (f := .glo "_law_bad_span") rfl)
  obtain ⟨fd_l_spoilt, F_l_spoilt⟩ := c.def_ 32 (d := d_l_spoilt) rfl
  have g_l_spoilt := He.glo_ok X G (c.fact 29 (f := .glo "_law_spoilt") rfl)
  obtain ⟨fd_l_valid, F_l_valid⟩ := c.def_ 33 (d := d_l_valid) rfl
  have g_l_valid := He.glo_ok X G (c.fact 30 (f := .glo "_law_valid") rfl)
  obtain ⟨fd_l_tests, F_l_tests⟩ := c.def_ 34 (d := d_l_tests) rfl
  have g_l_tests := He.glo_ok X G (c.fact 31 (f := .glo "_law_tests") rfl)
  obtain ⟨fd_l_due, F_l_due⟩ := c.def_ 35 (d := d_l_due) rfl
  have g_l_due := He.glo_ok X G (c.fact 32 (f := .glo "_law_due") rfl)
  obtain ⟨fd_l_flags, F_l_flags⟩ := c.def_ 36 (d := d_l_flags) rfl
  have g_l_flags := He.glo_ok X G (c.fact 33 (f := .glo "_law_flags") rfl)
  obtain ⟨fd_l_told, F_l_told⟩ := c.def_ 37 (d := d_l_told) rfl
  have g_l_told := He.glo_ok X G (c.fact 34 (f := .glo "_law_told") rfl)
  obtain ⟨fd_law, F_law⟩ := c.def_ 38 (d := d_law) rfl
  have g_law := He.glo_ok X G (c.fact 35 (f := .glo "law") rfl)
  obtain ⟨fd_BadName_init, F_BadName_init⟩ := c.def_ 39 (d := d_BadName_init) rfl
  have m_BadName_init := He.meth_ok (c.fact 36 (f := .meth "BadName" "__init__") rfl)
  obtain ⟨fd_BadNumber_init, F_BadNumber_init⟩ := c.def_ 40 (d := d_BadNumber_init) rfl
  have m_BadNumber_init := He.meth_ok (c.fact 37 (f := .meth "BadNumber" "__init__") rfl)
  obtain ⟨fd_DoubleEvent_init, F_DoubleEvent_init⟩ := c.def_ 41 (d := d_DoubleEvent_init) rfl
  have m_DoubleEvent_init := He.meth_ok (c.fact 38 (f := .meth "DoubleEvent" "__init__") rfl)
  obtain ⟨fd_SameEvent_init, F_SameEvent_init⟩ := c.def_ 42 (d := d_SameEvent_init) rfl
  have m_SameEvent_init := He.meth_ok (c.fact 39 (f := .meth "SameEvent" "__init__") rfl)
  obtain ⟨fd_TooMany_init, F_TooMany_init⟩ := c.def_ 43 (d := d_TooMany_init) rfl
  have m_TooMany_init := He.meth_ok (c.fact 40 (f := .meth "TooMany" "__init__") rfl)
  obtain ⟨fd_UnknownEvent_init, F_UnknownEvent_init⟩ := c.def_ 44 (d := d_UnknownEvent_init) rfl
  have m_UnknownEvent_init := He.meth_ok (c.fact 41 (f := .meth "UnknownEvent" "__init__") rfl)
  have t_f_range := He.free_ok X G (c.fact 42 (f := .free "range") rfl)
  have t_f_list := He.free_ok X G (c.fact 43 (f := .free "list") rfl)
  have t_cls_Net := He.cls_ok (c.fact 44 (f := .cls "Net") rfl)
  have t_na_Net__round_length := He.noat_ok (c.fact 45 (f := .noat "Net" "_round_length") rfl)
  have t_na_Net__events := He.noat_ok (c.fact 46 (f := .noat "Net" "_events") rfl)
  have t_na_Net__spans := He.noat_ok (c.fact 47 (f := .noat "Net" "_spans") rfl)
  have t_g_Net := He.glo_ok X G (c.fact 48 (f := .glo "Net") rfl)
  have t_rd_Net := bRead_ok (c.b 0 (f := bRead "Net") rfl)
  have t_cv_Net_EVENTS := bCval_ok (c.b 1 (f := bCval "Net" "EVENTS" 12) rfl)
  have t_f_len := He.free_ok X G (c.fact 49 (f := .free "len") rfl)
  have t_f_enumerate := He.free_ok X G (c.fact 50 (f := .free "enumerate") rfl)
  have t_cv_Net_SPANS := bCval_ok (c.b 2 (f := bCval "Net" "SPANS" 24) rfl)
  have t_cv_Net_LONGEST := bCval_ok (c.b 3 (f := bCval "Net" "LONGEST" 120) rfl)
  have t_cv_Net_SHORTEST := bCval_ok (c.b 4 (f := bCval "Net" "SHORTEST" 3) rfl)
  have t_g_BadNumber := He.glo_ok X G (c.fact 51 (f := .glo "BadNumber") rfl)
  have t_ox_BadNumber := bOex_ok (c.b 5 (f := bOex "BadNumber") rfl)
  have t_na_BadNumber_number := He.noat_ok (c.fact 52 (f := .noat "BadNumber" "number") rfl)
  have t_g_TooMany := He.glo_ok X G (c.fact 53 (f := .glo "TooMany") rfl)
  have t_ox_TooMany := bOex_ok (c.b 6 (f := bOex "TooMany") rfl)
  have t_na_TooMany_count := He.noat_ok (c.fact 54 (f := .noat "TooMany" "count") rfl)
  have t_na_TooMany_limit := He.noat_ok (c.fact 55 (f := .noat "TooMany" "limit") rfl)
  have t_g_DoubleEvent := He.glo_ok X G (c.fact 56 (f := .glo "DoubleEvent") rfl)
  have t_ox_DoubleEvent := bOex_ok (c.b 7 (f := bOex "DoubleEvent") rfl)
  have t_na_DoubleEvent_name := He.noat_ok (c.fact 57 (f := .noat "DoubleEvent" "name") rfl)
  have t_g_BadName := He.glo_ok X G (c.fact 58 (f := .glo "BadName") rfl)
  have t_ox_BadName := bOex_ok (c.b 8 (f := bOex "BadName") rfl)
  have t_na_BadName_name := He.noat_ok (c.fact 59 (f := .noat "BadName" "name") rfl)
  have t_c_LONGEST_NAME : ∃ u, mg "LONGEST_NAME" = some u ∧ RelV (.int 8) u := (He.int_ok X G (c.fact 60 (f := .int "LONGEST_NAME" (8)) rfl)).elim fun t e => ⟨_, e, ⟨t, rfl⟩⟩
  have z_c_LETTERS : ("abcdefghijklmnopqrstuvwxyz" : Str) = S Z26 := by decide +kernel
  have t_c_LETTERS : ∃ u, mg "LETTERS" = some u ∧ RelV (.str (S Z26)) u := (He.str_ok X G (c.fact 61 (f := .str "LETTERS" "abcdefghijklmnopqrstuvwxyz") rfl)).elim fun t e => ⟨_, e, ⟨t, by rw [z_c_LETTERS]⟩⟩
  have z_c_DIGITS : ("0123456789" : Str) = S Z10 := by decide +kernel
  have t_c_DIGITS : ∃ u, mg "DIGITS" = some u ∧ RelV (.str (S Z10)) u := (He.str_ok X G (c.fact 62 (f := .str "DIGITS" "0123456789") rfl)).elim fun t e => ⟨_, e, ⟨t, by rw [z_c_DIGITS]⟩⟩
  have t_f_all := He.free_ok X G (c.fact 63 (f := .free "all") rfl)
  have t_g_SameEvent := He.glo_ok X G (c.fact 64 (f := .glo "SameEvent") rfl)
  have t_ox_SameEvent := bOex_ok (c.b 9 (f := bOex "SameEvent") rfl)
  have t_na_SameEvent_name := He.noat_ok (c.fact 65 (f := .noat "SameEvent" "name") rfl)
  have t_cv_Net_HEAVIEST := bCval_ok (c.b 10 (f := bCval "Net" "HEAVIEST" 99) rfl)
  have t_g_UnknownEvent := He.glo_ok X G (c.fact 66 (f := .glo "UnknownEvent") rfl)
  have t_ox_UnknownEvent := bOex_ok (c.b 11 (f := bOex "UnknownEvent") rfl)
  have t_na_UnknownEvent_name := He.noat_ok (c.fact 67 (f := .noat "UnknownEvent" "name") rfl)
  have t_f_int := He.free_ok X G (c.fact 68 (f := .free "int") rfl)
  have t_f_str := He.free_ok X G (c.fact 69 (f := .free "str") rfl)
  have t_f_min := He.free_ok X G (c.fact 70 (f := .free "min") rfl)
  have t_f_max := He.free_ok X G (c.fact 71 (f := .free "max") rfl)
  have t_f_bool := He.free_ok X G (c.fact 72 (f := .free "bool") rfl)
  have t_f_isinstance := He.free_ok X G (c.fact 73 (f := .free "isinstance") rfl)
  have t_f_dict := He.free_ok X G (c.fact 74 (f := .free "dict") rfl)
  have t_f_tuple := He.free_ok X G (c.fact 75 (f := .free "tuple") rfl)
  have t_g_MinuteError := He.glo_ok X G (c.fact 76 (f := .glo "MinuteError") rfl)
  have t_g_WrongNames := He.glo_ok X G (c.fact 77 (f := .glo "WrongNames") rfl)
  have t_g_UnknownSpan := He.glo_ok X G (c.fact 78 (f := .glo "UnknownSpan") rfl)
  have t_f_ValueError := He.free_ok X G (c.fact 79 (f := .free "ValueError") rfl)
  have t_xf_BadName := bXf_ok (c.b 12 (f := bXf "BadName") rfl)
  have t_xf_BadNumber := bXf_ok (c.b 13 (f := bXf "BadNumber") rfl)
  have t_xf_DoubleEvent := bXf_ok (c.b 14 (f := bXf "DoubleEvent") rfl)
  have t_xf_SameEvent := bXf_ok (c.b 15 (f := bXf "SameEvent") rfl)
  have t_xf_UnknownEvent := bXf_ok (c.b 16 (f := bXf "UnknownEvent") rfl)
  have t_xf_TooMany := bXf_ok (c.b 17 (f := bXf "TooMany") rfl)
  have t_xf := bXall_ok (c.b 18 (f := bXall exs) rfl)
  have T : Txt K mg := ⟨t_f_range, t_f_list, t_cls_Net, t_na_Net__round_length, t_na_Net__events, t_na_Net__spans, t_g_Net, t_rd_Net, t_cv_Net_EVENTS, t_f_len, t_f_enumerate, t_cv_Net_SPANS, t_cv_Net_LONGEST, t_cv_Net_SHORTEST, t_g_BadNumber, t_ox_BadNumber, t_na_BadNumber_number, t_g_TooMany, t_ox_TooMany, t_na_TooMany_count, t_na_TooMany_limit, t_g_DoubleEvent, t_ox_DoubleEvent, t_na_DoubleEvent_name, t_g_BadName, t_ox_BadName, t_na_BadName_name, t_c_LONGEST_NAME, t_c_LETTERS, t_c_DIGITS, t_f_all, t_g_SameEvent, t_ox_SameEvent, t_na_SameEvent_name, t_cv_Net_HEAVIEST, t_g_UnknownEvent, t_ox_UnknownEvent, t_na_UnknownEvent_name, t_f_int, t_f_str, t_f_min, t_f_max, t_f_bool, t_f_isinstance, t_f_dict, t_f_tuple, t_g_MinuteError, t_g_WrongNames, t_g_UnknownSpan, t_f_ValueError, t_xf_BadName, t_xf_BadNumber, t_xf_DoubleEvent, t_xf_SameEvent, t_xf_UnknownEvent, t_xf_TooMany, t_xf⟩
  have e := hfa.symm.trans g_law
  cases e
  have b := FunD.bindsA (ps := ["_law_script"]) F_law fun _ _ _ _ _ _ us hl => match us, hl with | [_], _ => rfl
  refine ⟨fd_law, fun s v => b s [v] rfl, fun base _ _ => ?_⟩
  have GX_BadName : XMk P w K mg base 1 "BadName" (C_BadName K) (spX (C_BadName K) ["name"]) := ⟨_, fd_BadName_init, _, ⟨t_ox_BadName, m_BadName_init.at_, beq_iff_eq.mp m_BadName_init.fn⟩, ok_BadName_init F_BadName_init T, F_BadName_init.bindsN (ps := ["self", "name"]) (fun _ _ _ _ _ _ us hl => match us, hl with | [_, _], _ => rfl), t_g_BadName⟩
  have GX_BadNumber : XMk P w K mg base 1 "BadNumber" (C_BadNumber K) (spX (C_BadNumber K) ["number"]) := ⟨_, fd_BadNumber_init, _, ⟨t_ox_BadNumber, m_BadNumber_init.at_, beq_iff_eq.mp m_BadNumber_init.fn⟩, ok_BadNumber_init F_BadNumber_init T, F_BadNumber_init.bindsN (ps := ["self", "number"]) (fun _ _ _ _ _ _ us hl => match us, hl with | [_, _], _ => rfl), t_g_BadNumber⟩
  have GX_DoubleEvent : XMk P w K mg base 1 "DoubleEvent" (C_DoubleEvent K) (spX (C_DoubleEvent K) ["name"]) := ⟨_, fd_DoubleEvent_init, _, ⟨t_ox_DoubleEvent, m_DoubleEvent_init.at_, beq_iff_eq.mp m_DoubleEvent_init.fn⟩, ok_DoubleEvent_init F_DoubleEvent_init T, F_DoubleEvent_init.bindsN (ps := ["self", "name"]) (fun _ _ _ _ _ _ us hl => match us, hl with | [_, _], _ => rfl), t_g_DoubleEvent⟩
  have GX_SameEvent : XMk P w K mg base 1 "SameEvent" (C_SameEvent K) (spX (C_SameEvent K) ["name"]) := ⟨_, fd_SameEvent_init, _, ⟨t_ox_SameEvent, m_SameEvent_init.at_, beq_iff_eq.mp m_SameEvent_init.fn⟩, ok_SameEvent_init F_SameEvent_init T, F_SameEvent_init.bindsN (ps := ["self", "name"]) (fun _ _ _ _ _ _ us hl => match us, hl with | [_, _], _ => rfl), t_g_SameEvent⟩
  have GX_TooMany : XMk P w K mg base 1 "TooMany" (C_TooMany K) (spX (C_TooMany K) ["count", "limit"]) := ⟨_, fd_TooMany_init, _, ⟨t_ox_TooMany, m_TooMany_init.at_, beq_iff_eq.mp m_TooMany_init.fn⟩, ok_TooMany_init F_TooMany_init T, F_TooMany_init.bindsN (ps := ["self", "count", "limit"]) (fun _ _ _ _ _ _ us hl => match us, hl with | [_, _, _], _ => rfl), t_g_TooMany⟩
  have GX_UnknownEvent : XMk P w K mg base 1 "UnknownEvent" (C_UnknownEvent K) (spX (C_UnknownEvent K) ["name"]) := ⟨_, fd_UnknownEvent_init, _, ⟨t_ox_UnknownEvent, m_UnknownEvent_init.at_, beq_iff_eq.mp m_UnknownEvent_init.fn⟩, ok_UnknownEvent_init F_UnknownEvent_init T, F_UnknownEvent_init.bindsN (ps := ["self", "name"]) (fun _ _ _ _ _ _ us hl => match us, hl with | [_, _], _ => rfl), t_g_UnknownEvent⟩
  have G_check_range : CalX P w K mg base (3) "check_range" (sp_check_range K) [] := ⟨_, fd_check_range, _, [], ok_check_range F_check_range T GX_BadNumber, g_check_range, F_check_range.kp, F_check_range.bindsN (ps := ["number", "low", "high"]) (fun _ _ _ _ _ _ us hl => match us, hl with | [_, _, _], _ => rfl), .nil⟩
  have G_check_round_length : CalX P w K mg base (4) "check_round_length" (sp_check_round_length K) [] := ⟨_, fd_check_round_length, _, [], ok_check_round_length F_check_round_length T G_check_range, g_check_round_length, F_check_round_length.kp, F_check_round_length.bindsN (ps := ["round_length"]) (fun _ _ _ _ _ _ us hl => match us, hl with | [_], _ => rfl), .nil⟩
  have G_check_count : CalX P w K mg base (3) "check_count" (sp_check_count K) [] := ⟨_, fd_check_count, _, [], ok_check_count F_check_count T GX_TooMany, g_check_count, F_check_count.kp, F_check_count.bindsN (ps := ["count", "limit"]) (fun _ _ _ _ _ _ us hl => match us, hl with | [_, _], _ => rfl), .nil⟩
  have G_is_name : C8.Cal P w K mg base (1) "is_name" (sp_is_name K) [] := ⟨_, fd_is_name, _, [], ok_is_name F_is_name T , g_is_name, F_is_name.kp, F_is_name.bindsN (ps := ["text"]) (fun _ _ _ _ _ _ us hl => match us, hl with | [_], _ => rfl), .nil⟩
  have G_check_name : CalX P w K mg base (3) "check_name" (sp_check_name K) [] := ⟨_, fd_check_name, _, [], ok_check_name F_check_name T GX_BadName G_is_name, g_check_name, F_check_name.kp, F_check_name.bindsN (ps := ["text"]) (fun _ _ _ _ _ _ us hl => match us, hl with | [_], _ => rfl), .nil⟩
  have G_check_event : CalX P w K mg base (4) "check_event" (sp_check_event K) [] := ⟨_, fd_check_event, _, [], ok_check_event F_check_event T GX_DoubleEvent G_check_name, g_check_event, F_check_event.kp, F_check_event.bindsN (ps := ["name", "before"]) (fun _ _ _ _ _ _ us hl => match us, hl with | [_, _], _ => rfl), .nil⟩
  have G_check_known : CalX P w K mg base (3) "check_known" (sp_check_known K) [] := ⟨_, fd_check_known, _, [], ok_check_known F_check_known T GX_UnknownEvent, g_check_known, F_check_known.kp, F_check_known.bindsN (ps := ["names", "known"]) (fun _ _ _ _ _ _ us hl => match us, hl with | [_, _], _ => rfl), .nil⟩
  have G_check_span : CalX P w K mg base (4) "check_span" (sp_check_span K) [] := ⟨_, fd_check_span, _, [], ok_check_span F_check_span T GX_SameEvent G_check_range G_check_known, g_check_span, F_check_span.kp, F_check_span.bindsN (ps := ["round_length", "events", "span"]) (fun _ _ _ _ _ _ us hl => match us, hl with | [_, _, _], _ => rfl), .nil⟩
  have G_check_net : CalX P w K mg base (5) "check_net" (sp_check_net K) [] := ⟨_, fd_check_net, _, [], ok_check_net F_check_net T G_check_round_length G_check_count G_check_event G_check_span, g_check_net, F_check_net.kp, F_check_net.bindsN (ps := ["round_length", "events", "spans"]) (fun _ _ _ _ _ _ us hl => match us, hl with | [_, _, _], _ => rfl), .nil⟩
  have G_Net_init : MakX P w K mg base 6 "Net" (C_Net K) (sp_Net_init K) [] := ⟨_, fd_Net_init, _, [], m_Net_init, ok_Net_init F_Net_init T G_check_net, t_g_Net, F_Net_init.bindsN (ps := ["self", "round_length", "events", "spans"]) (fun _ _ _ _ _ _ us hl => match us, hl with | [_, _, _, _], _ => rfl), .nil⟩
  have G_Net_round_length : Prp P w K mg base 1 (C_Net K) "round_length" (sp_Net_round_length K) := ⟨_, _, fd_Net_round_length, _, m_Net_round_length, ok_Net_round_length F_Net_round_length T , F_Net_round_length.bindsN (ps := ["self"]) (fun _ _ _ _ _ _ us hl => match us, hl with | [_], _ => rfl)⟩
  have G_Net_events : Prp P w K mg base 1 (C_Net K) "events" (sp_Net_events K) := ⟨_, _, fd_Net_events, _, m_Net_events, ok_Net_events F_Net_events T , F_Net_events.bindsN (ps := ["self"]) (fun _ _ _ _ _ _ us hl => match us, hl with | [_], _ => rfl)⟩
  have G_Net_spans : Prp P w K mg base 1 (C_Net K) "spans" (sp_Net_spans K) := ⟨_, _, fd_Net_spans, _, m_Net_spans, ok_Net_spans F_Net_spans T , F_Net_spans.bindsN (ps := ["self"]) (fun _ _ _ _ _ _ us hl => match us, hl with | [_], _ => rfl)⟩
  have G_l_pool : C8.Cal P w K mg base (1) "_law_pool" (sp_l_pool K) [] := ⟨_, fd_l_pool, _, [], ok_l_pool F_l_pool T , g_l_pool, F_l_pool.kp, F_l_pool.bindsN (ps := ["_law_script"]) (fun _ _ _ _ _ _ us hl => match us, hl with | [_], _ => rfl), .nil⟩
  have G_l_draw : C8.Cal P w K mg base (1) "_law_draw" (sp_l_draw K) [] := ⟨_, fd_l_draw, _, [], ok_l_draw F_l_draw T , g_l_draw, F_l_draw.kp, F_l_draw.bindsN (ps := ["_law_pool_here", "_law_many"]) (fun _ _ _ _ _ _ us hl => match us, hl with | [_, _], _ => rfl), .nil⟩
  have G_l_word : C8.Cal P w K mg base (2) "_law_word" (sp_l_word K) [] := ⟨_, fd_l_word, _, [], ok_l_word F_l_word T G_l_draw, g_l_word, F_l_word.kp, F_l_word.bindsN (ps := ["_law_pool_here", "_law_size_here"]) (fun _ _ _ _ _ _ us hl => match us, hl with | [_, _], _ => rfl), .nil⟩
  have G_l_names : C8.Cal P w K mg base (3) "_law_names" (sp_l_names K) [] := ⟨_, fd_l_names, _, [], ok_l_names F_l_names T G_l_draw G_l_word, g_l_names, F_l_names.kp, F_l_names.bindsN (ps := ["_law_pool_here", "_law_many"]) (fun _ _ _ _ _ _ us hl => match us, hl with | [_, _], _ => rfl), .nil⟩
  have G_l_length : C8.Cal P w K mg base (2) "_law_length" (sp_l_length K) [] := ⟨_, fd_l_length, _, [], ok_l_length F_l_length T G_l_draw, g_l_length, F_l_length.kp, F_l_length.bindsN (ps := ["_law_pool_here", "_law_limit"]) (fun _ _ _ _ _ _ us hl => match us, hl with | [_, _], _ => rfl), .nil⟩
  have G_l_size : C8.Cal P w K mg base (2) "_law_size" (sp_l_size K) [] := ⟨_, fd_l_size, _, [], ok_l_size F_l_size T G_l_draw, g_l_size, F_l_size.kp, F_l_size.bindsN (ps := ["_law_pool_here", "_law_limit"]) (fun _ _ _ _ _ _ us hl => match us, hl with | [_, _], _ => rfl), .nil⟩
  have G_l_some : C8.Cal P w K mg base (2) "_law_some" (sp_l_some K) [] := ⟨_, fd_l_some, _, [], ok_l_some F_l_some T G_l_draw, g_l_some, F_l_some.kp, F_l_some.bindsN (ps := ["_law_pool_here", "_law_limit"]) (fun _ _ _ _ _ _ us hl => match us, hl with | [_, _], _ => rfl), .nil⟩
  have G_l_weight : C8.Cal P w K mg base (2) "_law_weight" (sp_l_weight K) [] := ⟨_, fd_l_weight, _, [], ok_l_weight F_l_weight T G_l_draw, g_l_weight, F_l_weight.kp, F_l_weight.bindsN (ps := ["_law_pool_here"]) (fun _ _ _ _ _ _ us hl => match us, hl with | [_], _ => rfl), .nil⟩
  have G_l_span : C8.Cal P w K mg base (3) "_law_span" (sp_l_span K) [] := ⟨_, fd_l_span, _, [], ok_l_span F_l_span T G_l_draw G_l_some G_l_weight, g_l_span, F_l_span.kp, F_l_span.bindsN (ps := ["_law_pool_here", "_law_length_here", "_law_names_here"]) (fun _ _ _ _ _ _ us hl => match us, hl with | [_, _, _], _ => rfl), .nil⟩
  have G_l_spans : C8.Cal P w K mg base (4) "_law_spans" (sp_l_spans K) [] := ⟨_, fd_l_spans, _, [], ok_l_spans F_l_spans T G_l_draw G_l_size G_l_span, g_l_spans, F_l_spans.kp, F_l_spans.bindsN (ps := ["_law_pool_here", "_law_length_here", "_law_names_here", "_law_limit"]) (fun _ _ _ _ _ _ us hl => match us, hl with | [_, _, _, _], _ => rfl), .nil⟩
  have G_l_is_int : C8.Cal P w K mg base (1) "_law_is_int" (sp_l_is_int K) [] := ⟨_, fd_l_is_int, _, [], ok_l_is_int F_l_is_int T , g_l_is_int, F_l_is_int.kp, F_l_is_int.bindsN (ps := ["_law_thing"]) (fun _ _ _ _ _ _ us hl => match us, hl with | [_], _ => rfl), .nil⟩
  have B_l_same := F_l_same.bindsN (ps := ["_law_actual", "_law_due_here"]) (fun _ _ _ _ _ _ us hl => match us, hl with | [_, _], _ => rfl)
  have R_l_same : ∀ n : Nat, C8.Cal P w K mg base (2 + n) "_law_same" (sp_l_same K n) [] := fun n => by
    induction n with
    | zero => exact ⟨_, fd_l_same, _, [], ok0_l_same F_l_same, g_l_same, F_l_same.kp, B_l_same, .nil⟩
    | succ n ih => exact ⟨_, fd_l_same, _, [], ok_l_same F_l_same T G_l_is_int n ih, g_l_same, F_l_same.kp, B_l_same, .nil⟩
  have G_l_same : C8.Cal P w K mg base (5) "_law_same" (sp_l_same K 3) [] := R_l_same 3
  have G_l_sign : C8.Cal P w K mg base (2) "_law_sign" (sp_l_sign K) [] := ⟨_, fd_l_sign, _, [], ok_l_sign F_l_sign T G_l_draw, g_l_sign, F_l_sign.kp, F_l_sign.bindsN (ps := ["_law_pool_here"]) (fun _ _ _ _ _ _ us hl => match us, hl with | [_], _ => rfl), .nil⟩
  have G_l_odd : C8.Cal P w K mg base (4) "_law_odd" (sp_l_odd K) [] := ⟨_, fd_l_odd, _, [], ok_l_odd F_l_odd T G_l_draw G_l_names G_l_sign, g_l_odd, F_l_odd.kp, F_l_odd.bindsN (ps := ["_law_pool_here"]) (fun _ _ _ _ _ _ us hl => match us, hl with | [_], _ => rfl), .nil⟩
  have G_l_wide : C8.Cal P w K mg base (2) "_law_wide" (sp_l_wide K) [] := ⟨_, fd_l_wide, _, [], ok_l_wide F_l_wide T G_l_draw, g_l_wide, F_l_wide.kp, F_l_wide.bindsN (ps := ["_law_pool_here"]) (fun _ _ _ _ _ _ us hl => match us, hl with | [_], _ => rfl), .nil⟩
  have G_l_pick : C8.Cal P w K mg base (3) "_law_pick" (sp_l_pick K) [] := ⟨_, fd_l_pick, _, [], ok_l_pick F_l_pick T G_l_draw G_l_wide, g_l_pick, F_l_pick.kp, F_l_pick.bindsN (ps := ["_law_pool_here", "_law_values"]) (fun _ _ _ _ _ _ us hl => match us, hl with | [_, _], _ => rfl), .nil⟩
  have G_l_filled : C8.Cal P w K mg base (1) "_law_filled" (sp_l_filled K) [] := ⟨_, fd_l_filled, _, [], ok_l_filled F_l_filled T , g_l_filled, F_l_filled.kp, F_l_filled.bindsN (ps := ["_law_names_here"]) (fun _ _ _ _ _ _ us hl => match us, hl with | [_], _ => rfl), .nil⟩
  have G_l_stranger : C8.Cal P w K mg base (3) "_law_stranger" (sp_l_stranger K) [] := ⟨_, fd_l_stranger, _, [], ok_l_stranger F_l_stranger T G_l_draw G_l_word, g_l_stranger, F_l_stranger.kp, F_l_stranger.bindsN (ps := ["_law_pool_here", "_law_names_here"]) (fun _ _ _ _ _ _ us hl => match us, hl with | [_, _], _ => rfl), .nil⟩
  have G_l_bad_span : C8.Cal P w K mg base (4) "_law_bad_span" (sp_l_bad_span K) [] := ⟨_, fd_l_bad_span, _, [], ok_l_bad_span F_l_bad_span T G_l_stranger G_l_pick, g_l_bad_span, F_l_bad_span.kp, F_l_bad_span.bindsN (ps := ["_law_pool_here", "_law_length_here", "_law_names_here", "_law_span_here", "_law_kind"]) (fun _ _ _ _ _ _ us hl => match us, hl with | [_, _, _, _, _], _ => rfl), .nil⟩
  have G_l_spoilt : C8.Cal P w K mg base (5) "_law_spoilt" (sp_l_spoilt K) [] := ⟨_, fd_l_spoilt, _, [], ok_l_spoilt F_l_spoilt T G_l_draw G_l_odd G_l_pick G_l_filled G_l_bad_span, g_l_spoilt, F_l_spoilt.kp, F_l_spoilt.bindsN (ps := ["_law_pool_here", "_law_length_here", "_law_net"]) (fun _ _ _ _ _ _ us hl => match us, hl with | [_, _, _], _ => rfl), .nil⟩
  have G_l_valid : C8.Cal P w K mg base (1) "_law_valid" (sp_l_valid K) [] := ⟨_, fd_l_valid, _, [], ok_l_valid F_l_valid T , g_l_valid, F_l_valid.kp, F_l_valid.bindsN (ps := ["_law_text"]) (fun _ _ _ _ _ _ us hl => match us, hl with | [_], _ => rfl), .nil⟩
  have G_l_tests : C8.Cal P w K mg base (2) "_law_tests" (sp_l_tests K) [] := ⟨_, fd_l_tests, _, [], ok_l_tests F_l_tests T G_l_valid, g_l_tests, F_l_tests.kp, F_l_tests.bindsN (ps := ["_law_length_here", "_law_names_here", "_law_spans_here"]) (fun _ _ _ _ _ _ us hl => match us, hl with | [_, _, _], _ => rfl), .nil⟩
  have G_l_due : C8.Cal P w K mg base (1) "_law_due" (sp_l_due K) [] := ⟨_, fd_l_due, _, [], ok_l_due F_l_due T , g_l_due, F_l_due.kp, F_l_due.bindsN (ps := ["_law_tests_here"]) (fun _ _ _ _ _ _ us hl => match us, hl with | [_], _ => rfl), .nil⟩
  have G_l_flags : C8.Cal P w K mg base (8) "_law_flags" (sp_l_flags K) [] := ⟨_, fd_l_flags, _, [], ok_l_flags F_l_flags T G_Net_init, g_l_flags, F_l_flags.kp, F_l_flags.bindsN (ps := ["_law_length_here", "_law_events", "_law_rows"]) (fun _ _ _ _ _ _ us hl => match us, hl with | [_, _, _], _ => rfl), .nil⟩
  have G_l_told : C8.Cal P w K mg base (8) "_law_told" (sp_l_told K) [] := ⟨_, fd_l_told, _, [], ok_l_told F_l_told T G_Net_init, g_l_told, F_l_told.kp, F_l_told.bindsN (ps := ["_law_length_here", "_law_events", "_law_rows"]) (fun _ _ _ _ _ _ us hl => match us, hl with | [_, _, _], _ => rfl), .nil⟩
  exact ok_law F_law T G_Net_init G_Net_round_length G_Net_events G_Net_spans G_l_pool G_l_draw G_l_names G_l_length G_l_size G_l_spans G_l_same G_l_spoilt G_l_tests G_l_due G_l_flags G_l_told
end RM
open PySem PySem.W PySem.Calls PyProof.Rows
set_option maxRecDepth 100000 in
set_option maxHeartbeats 0 in
theorem PySem.Challenge.cw_roundminutes_k04_net_refuses_holds : PySem.Challenge.rw_roundminutes_k04_net_refuses.Holds := by
  w_on; o_law
  refine HandSHeadRun.head_any (r := OpenLaw.row PySem.Challenge.rw_roundminutes_k04_net_refuses) (q := view RM.Rw.prog [52]) (H := RM.hk) (ob := RM.ob) (M := 8000) (loose := RM.loose)
    (d := HandSHeadRun.topDef RM.Rw.prog 52) (kwd := []) RM.ob_ok
    (by kernel_rfl) (fun s => by kernel_rfl) RM.run (by kernel_rfl) (by kernel_rfl) (by kernel_rfl) (by rfl) (by first | assumption | decide +kernel) (by decide +kernel) ⟨rfl, rfl, rfl, rfl, rfl, by decide +kernel⟩ ?hw ?hc
  case hw => w_witness2
  case hc =>
    refine L2.walk_ofE (l := PySem.Challenge.rw_roundminutes_k04_net_refuses) (n := 63) (k := 9) (x := "_law_script") (CX := L2.CX0) rfl (by decide) (by kernel_rfl) ⟨rfl, by decide, by decide⟩ ?F (fun _ _ _ _ z => z)
    intro w mg fa h Y G hmg0
    obtain ⟨K, KX, c⟩ := Y
    have hmg : mg ("law" : PySem.Str) = some (.ref fa) := by
      have e : (HandSHeadRun.topDef RM.Rw.prog 52).name = ("law" : PySem.Str) := by kernel_rfl
      rw [← e]
      exact hmg0
    obtain ⟨fd, hb, hF⟩ := RM.facts (P := PySem.Challenge.rw_roundminutes_k04_net_refuses.prog) (w := w) KX G hmg c
    exact ⟨K, fd, RM.sp_law K, KX, hb, fun H a ns hl _ hS => ⟨a, ns, rfl, hS, hl, fun _ => rfl⟩, hF⟩
