import PyProof.Rows.All
import Wide.All
import OpenK.AllK
import Wide.FinOn
import HandS.Base
import HandS.Call
import HandS.List
import HandS.Comp
import HandS.Ends
import HandS.Words
import HandS.IsInst
import HandS.Wide
import HandS.Style
import HandS.Exc
import HandS.TryOnly
import HandS.ExcOwn
import HandS.ExcInit
import HandS.ExcField
import HandS.ExcIs
import HandS.WordsList
import HandS.WordsExc
import HandS.SetFor
import HandS.Dict
import HandS.Iter
import HandS.Zip
import HandS.DictSub
import HandS.OwnEq
import HandS.Property
import HandS.ClsMeth
import PySem.Challenge.RW_galleywork_k19_glue_sums

set_option Elab.async false
set_option linter.all false
set_option maxRecDepth 100000
/-! Wp: readings as weakest preconditions, turned into plain formulas by simp. -/
namespace Wp
open PySem L2
section
variable {σ : L2.St} {H : Hp} {Q : VK} {D : Ends}
theorem seq {t u : TS} : tSeq t u D σ H = t { D with nx := u D } σ H := rfl
theorem next : tNext D σ H = D.nx σ H := rfl
theorem asg {te : TE} {g : TG} : tAsg te g D σ H = te σ H fun x H1 => g x σ H1 D.nx := rfl
theorem gn {i : Nat} {v : V} {R : L2.St → Hp → Prop} : gName i v σ H R = R (σ.set i (some v)) H := rfl
theorem gsub {to ti : TE} {t : TSet} {v : V} {R : L2.St → Hp → Prop} : gSub to ti t v σ H R = to σ H fun o H1 => ti σ H1 fun i H2 => t o i v H2 fun H3 => R σ H3 := rfl
theorem ret {te : TE} : tRet te D σ H = te σ H D.rt := rfl
theorem drop {te : TE} : tDrop te D σ H = te σ H fun _ H1 => D.nx σ H1 := rfl
theorem ifs {c : TT} {t u : TS} : tIfS c t u D σ H = c σ H fun b H1 => if b = true then t D σ H1 else u D σ H1 := rfl
theorem brk : tBreak D σ H = D.bk σ H := rfl
theorem cont : tCont D σ H = D.ct σ H := rfl
theorem op {r : R2} {ta tb : TE} : tOp r ta tb σ H Q = ta σ H fun x H1 => tb σ H1 fun y H2 => r x y H2 Q := rfl
theorem un {r : V → Hp → VK → Prop} {ta : TE} : tUn r ta σ H Q = ta σ H fun x H1 => r x H1 Q := rfl
theorem cb {r : List V → Hp → VK → Prop} {t : TA} : tCB r t σ H Q = t σ H fun vs H1 => r vs H1 Q := rfl
theorem call {sp : Sp} {dvs : List V} {E : XK} {t : TA} : tCall sp dvs E t σ H Q = t σ H fun vs H1 => sp (vs ++ dvs) H1 Q E := rfl
theorem nil {R : List V → Hp → Prop} : tNil σ H R = R [] H := rfl
theorem cons {ta : TE} {tr : TA} {R : List V → Hp → Prop} : tCons ta tr σ H R = ta σ H fun x H1 => tr σ H1 fun xs H2 => R (x :: xs) H2 := rfl
theorem c {v : V} : tC v σ H Q = Q v H := rfl
theorem ifx {t : TT} {ta tb : TE} : tIf t ta tb σ H Q = t σ H fun b H1 => if b = true then ta σ H1 Q else tb σ H1 Q := rfl
theorem lst {t : TA} : tLst t σ H Q = t σ H fun xs H1 => xs.length ≤ sizeLine ∧ ∀ p, H1 p = none → Q (.ref p) (upd H1 p (.lst xs)) := rfl
theorem tup {t : TA} : tTup t σ H Q = t σ H fun xs H1 => xs.length ≤ sizeLine ∧ ∀ p, H1 p = none → Q (.ref p) (upd H1 p (.tup xs)) := rfl
theorem test {t : TE} {R : Bool → Hp → Prop} : tTest t σ H R = t σ H fun x H' => ∃ k, x = .bl k ∧ R k H' := rfl
theorem tb {t : TE} {R : Bool → Hp → Prop} : tB t σ H R = t σ H fun x H' => ∃ k, x = .bl k ∧ R k H' := rfl
theorem tnot {t : TT} {R : Bool → Hp → Prop} : tNot t σ H R = t σ H fun b H1 => R (!b) H1 := rfl
theorem tand {t u : TT} {R : Bool → Hp → Prop} : tAnd t u σ H R = t σ H fun b H1 => if b = true then u σ H1 R else R false H1 := rfl
theorem tor {t u : TT} {R : Bool → Hp → Prop} : tOr t u σ H R = t σ H fun b H1 => if b = true then R true H1 else u σ H1 R := rfl
theorem tandv {ta tb : TE} : tAndV ta tb σ H Q = ta σ H fun x H1 => ∃ b, x = .bl b ∧ if b = true then tb σ H1 Q else Q (.bl false) H1 := rfl
theorem torv {ta tb : TE} : tOrV ta tb σ H Q = ta σ H fun x H1 => ∃ b, x = .bl b ∧ if b = true then Q (.bl true) H1 else tb σ H1 Q := rfl
theorem tnotv {ta : TE} : tNotV ta σ H Q = ta σ H fun x H1 => ∃ b, x = .bl b ∧ Q (.bl (!b)) H1 := rfl
theorem chain {r r' : R2} {ta tb tc : TE} : tChain r r' ta tb tc σ H Q = ta σ H fun x H1 => tb σ H1 fun y H2 => r x y H2 fun z H3 => ∃ k, z = .bl k ∧ (if k = true then tc σ H3 fun w' H4 => r' y w' H4 Q else Q (.bl false) H3) := rfl
theorem bx {b : Bool} {R : Bool → Prop} : (∃ k, V.bl b = V.bl k ∧ R k) = R b := propext ⟨fun ⟨k, h, q⟩ => by cases h; exact q, fun q => ⟨b, rfl, q⟩⟩
theorem i0 {g : Int → Int → V} {i j : Int} : rI0 g (.int i) (.int j) H Q = Q (g i j) H := propext ⟨fun ⟨_, _, h1, h2, q⟩ => by cases h1; cases h2; exact q, fun q => ⟨i, j, rfl, rfl, q⟩⟩
theorem i1 {C : Int → Int → Prop} {g : Int → Int → V} {i j : Int} : rI C g (.int i) (.int j) H Q = (C i j ∧ Q (g i j) H) := propext ⟨fun ⟨_, _, h1, h2, c, q⟩ => by cases h1; cases h2; exact ⟨c, q⟩, fun ⟨c, q⟩ => ⟨i, j, rfl, rfl, c, q⟩⟩
theorem u1 {g : Int → V} {i : Int} : rU g (.int i) H Q = Q (g i) H := propext ⟨fun ⟨_, h1, q⟩ => by cases h1; exact q, fun q => ⟨i, rfl, q⟩⟩
theorem di {i j : Int} : decide (V.int i = V.int j) = decide (i = j) := by
  by_cases h : i = j
  · subst h; simp
  · rw [decide_eq_false h, decide_eq_false]; intro q; cases q; exact h rfl
theorem eqi {i j : Int} : rEq (.int i) (.int j) H Q = Q (.bl (decide (i = j))) H := by
  unfold rEq; rw [di]; exact propext ⟨fun q => q.2, fun q => ⟨rfl, q⟩⟩
theorem nei {i j : Int} : rNe (.int i) (.int j) H Q = Q (.bl (!decide (i = j))) H := by
  unfold rNe; rw [di]; exact propext ⟨fun q => q.2, fun q => ⟨rfl, q⟩⟩
/-! calls of built-ins -/
theorem dummy_ : True := trivial
end
/-- isinstance of a scalar and a built-in type -/
def isiF : V → String → Option Bool
  | .int _, T => kitB "int" T
  | .bl _, T => kitB "bool" T
  | .str _, T => kitB "str" T
  | .non, T => kitB "NoneType" T
  | _, _ => none
def rIsiV : List V → Hp → VK → Prop := fun xs H Q => ∃ x T b, xs = [x, .ty T] ∧ isiF x T = some b ∧ Q (.bl b) H
theorem isv {x : V} {T : String} {b : Bool} {H : Hp} {Q : VK} (h : isiF x T = some b) : rIsiV [x, .ty T] H Q = Q (.bl b) H := propext ⟨fun ⟨_, _, _, e, f, q⟩ => by
  cases e
  rw [h] at f
  cases f
  exact q, fun q => ⟨x, T, b, rfl, h, q⟩⟩
theorem isv_ii {i : Int} {H : Hp} {Q : VK} : rIsiV [.int i, .ty "int"] H Q = Q (.bl true) H := isv (by show kitB "int" "int" = some true; decide +kernel)
theorem isv_ib {i : Int} {H : Hp} {Q : VK} : rIsiV [.int i, .ty "bool"] H Q = Q (.bl false) H := isv (by show kitB "int" "bool" = some false; decide +kernel)
section
variable {X : Cx}
theorem call_isiV : CallR X (.builtin "isinstance") rIsiV := by
  intro pins s σ H xs us Q I r h
  obtain ⟨x, T, b, rfl, e, q⟩ := h
  refine call_isi pins s σ H _ us Q I r ?_
  cases x with
  | int i => exact ⟨_, _, .type "int", .type T, b, rfl, .ty T, .base (.int i), kit_ty e, q⟩
  | bl i => exact ⟨_, _, .type "bool", .type T, b, rfl, .ty T, .base (.bl i), kit_ty e, q⟩
  | str i => exact ⟨_, _, .type "str", .type T, b, rfl, .ty T, .base (.str i), kit_ty e, q⟩
  | non => exact ⟨_, _, .type "NoneType", .type T, b, rfl, .ty T, .base .non, kit_ty e, q⟩
  | ref a => cases e
  | ty a => cases e
  | flt a => cases e
  | byt a => cases e
theorem pe_gint {x : Str} {i : Int} {pos : Pos} (h : ∃ t, X.mg x = some (.int i t)) (hg : Gl X x) (hd : (x == ("__debug__" : Str)) = false := by decide) : PE X (.Name x pos) (tC (.int i)) := by
  obtain ⟨t, h⟩ := h
  exact pe_glob hg h ⟨_, rfl⟩ hd
end
/-! calls of built-ins by name -/
def rAbs : List V → Hp → VK → Prop := fun xs H Q => ∃ i, xs = [.int i] ∧ Q (.int (if i < 0 then -i else i)) H
def rMax2 : List V → Hp → VK → Prop := fun xs H Q => ∃ i j, xs = [.int i, .int j] ∧ Q (.int (if j > i then j else i)) H
def rMin2 : List V → Hp → VK → Prop := fun xs H Q => ∃ i j, xs = [.int i, .int j] ∧ Q (.int (if j < i then j else i)) H
def rInt : List V → Hp → VK → Prop := fun xs H Q => (∃ i, xs = [.int i] ∧ Q (.int i) H) ∨ ∃ k, xs = [.bl k] ∧ Q (.int (if k then 1 else 0)) H
def rLen (K : PySem.W.Frag) : List V → Hp → VK → Prop := fun xs H Q => ∃ p ys, xs = [.ref p] ∧ (SqL K H p ys ∨ SqT K H p ys) ∧ Q (.int ys.length) H
def rList (K : PySem.W.Frag) : List V → Hp → VK → Prop := fun xs H Q => ∃ p ys, xs = [.ref p] ∧ (SqL K H p ys ∨ SqT K H p ys) ∧ ∀ l, H l = none → Q (.ref l) (upd H l (.lst ys))
section
variable {X : Cx} {H : Hp} {Q : VK}
theorem c_abs : CallR X (.builtin "abs") rAbs := call_abs
theorem c_max2 (hc : X.calm = true) : CallR X (.builtin "max") rMax2 := call_max2 hc
theorem c_min2 (hc : X.calm = true) : CallR X (.builtin "min") rMin2 := call_min2 hc
theorem c_int : CallR X (.type "int") rInt := call_int1
theorem c_len : CallR X (.builtin "len") (rLen X.K) := call_len_seq
theorem c_list : CallR X (.type "list") (rList X.K) := call_list_of
theorem cabs {i : Int} : rAbs [.int i] H Q = Q (.int (if i < 0 then -i else i)) H := propext ⟨fun ⟨_, h, q⟩ => by cases h; exact q, fun q => ⟨i, rfl, q⟩⟩
theorem cmax {i j : Int} : rMax2 [.int i, .int j] H Q = Q (.int (if j > i then j else i)) H := propext ⟨fun ⟨_, _, h, q⟩ => by cases h; exact q, fun q => ⟨i, j, rfl, q⟩⟩
theorem cmin {i j : Int} : rMin2 [.int i, .int j] H Q = Q (.int (if j < i then j else i)) H := propext ⟨fun ⟨_, _, h, q⟩ => by cases h; exact q, fun q => ⟨i, j, rfl, q⟩⟩
theorem cinti {i : Int} : rInt [.int i] H Q = Q (.int i) H := by
  apply propext
  constructor
  · intro q
    rcases q with ⟨k, h, q⟩ | ⟨k, h, q⟩
    · cases h; exact q
    · cases h
  · intro q
    exact Or.inl ⟨i, rfl, q⟩
theorem cintb {b : Bool} : rInt [.bl b] H Q = Q (.int (if b then 1 else 0)) H := by
  apply propext
  constructor
  · intro q
    rcases q with ⟨k, h, q⟩ | ⟨k, h, q⟩
    · cases h
    · cases h; exact q
  · intro q
    exact Or.inr ⟨b, rfl, q⟩
end
/-- a def of the module with its promise, as others call it -/
structure Def (P : Program) (w : World) (K : PySem.W.Frag) (mg : Str → Option Value) (base : Heap) (k : Nat) (x : Str) (ps : List Str) (sp : Sp) : Prop where
  ex : ∃ f fd, FnOk P w K mg base CX0 k f fd ps sp ∧ mg x = some (.ref f) ∧ PySem.W.keepIn K (.ref f) = true ∧ Binds K fd ps []
theorem Def.call {X : Cx} {k : Nat} {x : Str} {ps : List Str} {sp : Sp} {e : Expr} {es : List Expr} {t : TA} {p pos : Pos} (G : Def X.prog X.w X.K X.mg X.base k x ps sp) (hr : Room k X.A) (hg : Gl X x)
    (ha : PA X (e :: es) t) (hdb : (x == ("__debug__" : Str)) = false := by decide) (he : starEach (e :: es) X.env = (false, eval e X.env) :: starEach es X.env := by rfl) (hpl : (backTo pos (starEach es X.env)).any (·.1) = false := by rfl) :
    PE X (.Call (.Name x p) (e :: es) [] pos) (tCall sp [] (fun _ _ _ => False) t) := by
  refine ⟨fun pins s σ H Q I h => ?_⟩
  obtain ⟨f, fd, F, hm, hk, hb⟩ := G.ex
  exact (pe_call F hr hg hm hk hb .nil (fun _ _ _ _ _ _ _ h => h.elim) ha hdb he hpl).run pins s σ H Q I h
/-! ### the laws' pool -/
def PoolC (H : Hp) (p l : Addr) (ns : List Int) (i x c e : Int) : Prop := H p = some (.lst [.ref l, .int i, .int x, .int c, .int e]) ∧ H l = some (.lst (ns.map V.int)) ∧ 0 ≤ i
def PoolAt (H : Hp) (p : Addr) : Prop := ∃ l ns i x c e, PoolC H p l ns i x c e
theorem PoolC.ne {H : Hp} {p l : Addr} {ns : List Int} {i x c e : Int} (h : PoolC H p l ns i x c e) : l ≠ p := fun z => by
  obtain ⟨h1, h2, _⟩ := h
  subst z
  rw [h1] at h2
  have h3 := HO.lst.inj (Option.some.inj h2)
  cases ns with
  | nil => cases h3
  | cons n ns => rw [List.map_cons] at h3; cases h3
/-- all but p stands as it stood -/
def But (p : Addr) (H H' : Hp) : Prop := ∀ b, b ≠ p → H' b = H b
/-- what H told, and not at p, stands -/
def Ext (p : Addr) (H H' : Hp) : Prop := ∀ b o, b ≠ p → H b = some o → H' b = some o
def spPool (K : PySem.W.Frag) : Sp := fun vs H Q _ => ∃ (a : Addr) (ns : List Int), vs = [.ref a] ∧ SqL K H a (ns.map V.int) ∧ ∀ p H', H p = none → (∀ b o, H b = some o → H' b = some o) → PoolAt H' p → Q (.ref p) H'
def spDraw : Sp := fun vs H Q _ => ∃ (p : Addr) (m : Int), vs = [.ref p, .int m] ∧ PoolAt H p ∧ 0 < m ∧ m.natAbs < 2 ^ 200 ∧ ∀ r H', 0 ≤ r → r < m → PoolAt H' p → But p H H' → Q (.int r) H'
end Wp

namespace Wp
open PySem L2
section
variable {H : Hp} {Q : VK} {l : L2.St} {v : V} {a0 : Option V} {a1 : Option V} {a2 : Option V} {a3 : Option V} {a4 : Option V} {a5 : Option V} {a6 : Option V} {a7 : Option V} {a8 : Option V} {a9 : Option V} {a10 : Option V} {a11 : Option V} {a12 : Option V} {a13 : Option V} {a14 : Option V} {a15 : Option V} {a16 : Option V} {a17 : Option V} {a18 : Option V} {a19 : Option V} {a20 : Option V} {a21 : Option V} {a22 : Option V} {a23 : Option V}
theorem v0 : tVar 0 (some v :: l) H Q = Q v H := propext ⟨fun ⟨_, h, q⟩ => by cases h; exact q, fun q => ⟨v, rfl, q⟩⟩
theorem v1 : tVar 1 (a0 :: some v :: l) H Q = Q v H := propext ⟨fun ⟨_, h, q⟩ => by cases h; exact q, fun q => ⟨v, rfl, q⟩⟩
theorem v2 : tVar 2 (a0 :: a1 :: some v :: l) H Q = Q v H := propext ⟨fun ⟨_, h, q⟩ => by cases h; exact q, fun q => ⟨v, rfl, q⟩⟩
theorem v3 : tVar 3 (a0 :: a1 :: a2 :: some v :: l) H Q = Q v H := propext ⟨fun ⟨_, h, q⟩ => by cases h; exact q, fun q => ⟨v, rfl, q⟩⟩
theorem v4 : tVar 4 (a0 :: a1 :: a2 :: a3 :: some v :: l) H Q = Q v H := propext ⟨fun ⟨_, h, q⟩ => by cases h; exact q, fun q => ⟨v, rfl, q⟩⟩
theorem v5 : tVar 5 (a0 :: a1 :: a2 :: a3 :: a4 :: some v :: l) H Q = Q v H := propext ⟨fun ⟨_, h, q⟩ => by cases h; exact q, fun q => ⟨v, rfl, q⟩⟩
theorem v6 : tVar 6 (a0 :: a1 :: a2 :: a3 :: a4 :: a5 :: some v :: l) H Q = Q v H := propext ⟨fun ⟨_, h, q⟩ => by cases h; exact q, fun q => ⟨v, rfl, q⟩⟩
theorem v7 : tVar 7 (a0 :: a1 :: a2 :: a3 :: a4 :: a5 :: a6 :: some v :: l) H Q = Q v H := propext ⟨fun ⟨_, h, q⟩ => by cases h; exact q, fun q => ⟨v, rfl, q⟩⟩
theorem v8 : tVar 8 (a0 :: a1 :: a2 :: a3 :: a4 :: a5 :: a6 :: a7 :: some v :: l) H Q = Q v H := propext ⟨fun ⟨_, h, q⟩ => by cases h; exact q, fun q => ⟨v, rfl, q⟩⟩
theorem v9 : tVar 9 (a0 :: a1 :: a2 :: a3 :: a4 :: a5 :: a6 :: a7 :: a8 :: some v :: l) H Q = Q v H := propext ⟨fun ⟨_, h, q⟩ => by cases h; exact q, fun q => ⟨v, rfl, q⟩⟩
theorem v10 : tVar 10 (a0 :: a1 :: a2 :: a3 :: a4 :: a5 :: a6 :: a7 :: a8 :: a9 :: some v :: l) H Q = Q v H := propext ⟨fun ⟨_, h, q⟩ => by cases h; exact q, fun q => ⟨v, rfl, q⟩⟩
theorem v11 : tVar 11 (a0 :: a1 :: a2 :: a3 :: a4 :: a5 :: a6 :: a7 :: a8 :: a9 :: a10 :: some v :: l) H Q = Q v H := propext ⟨fun ⟨_, h, q⟩ => by cases h; exact q, fun q => ⟨v, rfl, q⟩⟩
theorem v12 : tVar 12 (a0 :: a1 :: a2 :: a3 :: a4 :: a5 :: a6 :: a7 :: a8 :: a9 :: a10 :: a11 :: some v :: l) H Q = Q v H := propext ⟨fun ⟨_, h, q⟩ => by cases h; exact q, fun q => ⟨v, rfl, q⟩⟩
theorem v13 : tVar 13 (a0 :: a1 :: a2 :: a3 :: a4 :: a5 :: a6 :: a7 :: a8 :: a9 :: a10 :: a11 :: a12 :: some v :: l) H Q = Q v H := propext ⟨fun ⟨_, h, q⟩ => by cases h; exact q, fun q => ⟨v, rfl, q⟩⟩
theorem v14 : tVar 14 (a0 :: a1 :: a2 :: a3 :: a4 :: a5 :: a6 :: a7 :: a8 :: a9 :: a10 :: a11 :: a12 :: a13 :: some v :: l) H Q = Q v H := propext ⟨fun ⟨_, h, q⟩ => by cases h; exact q, fun q => ⟨v, rfl, q⟩⟩
theorem v15 : tVar 15 (a0 :: a1 :: a2 :: a3 :: a4 :: a5 :: a6 :: a7 :: a8 :: a9 :: a10 :: a11 :: a12 :: a13 :: a14 :: some v :: l) H Q = Q v H := propext ⟨fun ⟨_, h, q⟩ => by cases h; exact q, fun q => ⟨v, rfl, q⟩⟩
theorem v16 : tVar 16 (a0 :: a1 :: a2 :: a3 :: a4 :: a5 :: a6 :: a7 :: a8 :: a9 :: a10 :: a11 :: a12 :: a13 :: a14 :: a15 :: some v :: l) H Q = Q v H := propext ⟨fun ⟨_, h, q⟩ => by cases h; exact q, fun q => ⟨v, rfl, q⟩⟩
theorem v17 : tVar 17 (a0 :: a1 :: a2 :: a3 :: a4 :: a5 :: a6 :: a7 :: a8 :: a9 :: a10 :: a11 :: a12 :: a13 :: a14 :: a15 :: a16 :: some v :: l) H Q = Q v H := propext ⟨fun ⟨_, h, q⟩ => by cases h; exact q, fun q => ⟨v, rfl, q⟩⟩
theorem v18 : tVar 18 (a0 :: a1 :: a2 :: a3 :: a4 :: a5 :: a6 :: a7 :: a8 :: a9 :: a10 :: a11 :: a12 :: a13 :: a14 :: a15 :: a16 :: a17 :: some v :: l) H Q = Q v H := propext ⟨fun ⟨_, h, q⟩ => by cases h; exact q, fun q => ⟨v, rfl, q⟩⟩
theorem v19 : tVar 19 (a0 :: a1 :: a2 :: a3 :: a4 :: a5 :: a6 :: a7 :: a8 :: a9 :: a10 :: a11 :: a12 :: a13 :: a14 :: a15 :: a16 :: a17 :: a18 :: some v :: l) H Q = Q v H := propext ⟨fun ⟨_, h, q⟩ => by cases h; exact q, fun q => ⟨v, rfl, q⟩⟩
theorem v20 : tVar 20 (a0 :: a1 :: a2 :: a3 :: a4 :: a5 :: a6 :: a7 :: a8 :: a9 :: a10 :: a11 :: a12 :: a13 :: a14 :: a15 :: a16 :: a17 :: a18 :: a19 :: some v :: l) H Q = Q v H := propext ⟨fun ⟨_, h, q⟩ => by cases h; exact q, fun q => ⟨v, rfl, q⟩⟩
theorem v21 : tVar 21 (a0 :: a1 :: a2 :: a3 :: a4 :: a5 :: a6 :: a7 :: a8 :: a9 :: a10 :: a11 :: a12 :: a13 :: a14 :: a15 :: a16 :: a17 :: a18 :: a19 :: a20 :: some v :: l) H Q = Q v H := propext ⟨fun ⟨_, h, q⟩ => by cases h; exact q, fun q => ⟨v, rfl, q⟩⟩
theorem v22 : tVar 22 (a0 :: a1 :: a2 :: a3 :: a4 :: a5 :: a6 :: a7 :: a8 :: a9 :: a10 :: a11 :: a12 :: a13 :: a14 :: a15 :: a16 :: a17 :: a18 :: a19 :: a20 :: a21 :: some v :: l) H Q = Q v H := propext ⟨fun ⟨_, h, q⟩ => by cases h; exact q, fun q => ⟨v, rfl, q⟩⟩
theorem v23 : tVar 23 (a0 :: a1 :: a2 :: a3 :: a4 :: a5 :: a6 :: a7 :: a8 :: a9 :: a10 :: a11 :: a12 :: a13 :: a14 :: a15 :: a16 :: a17 :: a18 :: a19 :: a20 :: a21 :: a22 :: some v :: l) H Q = Q v H := propext ⟨fun ⟨_, h, q⟩ => by cases h; exact q, fun q => ⟨v, rfl, q⟩⟩
theorem s0 {α : Type} {b : α} {l : List α} {a0 : α} : List.set (a0 :: l) 0 b = b :: l := rfl
theorem s1 {α : Type} {b : α} {l : List α} {a0 : α} {a1 : α} : List.set (a0 :: a1 :: l) 1 b = a0 :: b :: l := rfl
theorem s2 {α : Type} {b : α} {l : List α} {a0 : α} {a1 : α} {a2 : α} : List.set (a0 :: a1 :: a2 :: l) 2 b = a0 :: a1 :: b :: l := rfl
theorem s3 {α : Type} {b : α} {l : List α} {a0 : α} {a1 : α} {a2 : α} {a3 : α} : List.set (a0 :: a1 :: a2 :: a3 :: l) 3 b = a0 :: a1 :: a2 :: b :: l := rfl
theorem s4 {α : Type} {b : α} {l : List α} {a0 : α} {a1 : α} {a2 : α} {a3 : α} {a4 : α} : List.set (a0 :: a1 :: a2 :: a3 :: a4 :: l) 4 b = a0 :: a1 :: a2 :: a3 :: b :: l := rfl
theorem s5 {α : Type} {b : α} {l : List α} {a0 : α} {a1 : α} {a2 : α} {a3 : α} {a4 : α} {a5 : α} : List.set (a0 :: a1 :: a2 :: a3 :: a4 :: a5 :: l) 5 b = a0 :: a1 :: a2 :: a3 :: a4 :: b :: l := rfl
theorem s6 {α : Type} {b : α} {l : List α} {a0 : α} {a1 : α} {a2 : α} {a3 : α} {a4 : α} {a5 : α} {a6 : α} : List.set (a0 :: a1 :: a2 :: a3 :: a4 :: a5 :: a6 :: l) 6 b = a0 :: a1 :: a2 :: a3 :: a4 :: a5 :: b :: l := rfl
theorem s7 {α : Type} {b : α} {l : List α} {a0 : α} {a1 : α} {a2 : α} {a3 : α} {a4 : α} {a5 : α} {a6 : α} {a7 : α} : List.set (a0 :: a1 :: a2 :: a3 :: a4 :: a5 :: a6 :: a7 :: l) 7 b = a0 :: a1 :: a2 :: a3 :: a4 :: a5 :: a6 :: b :: l := rfl
theorem s8 {α : Type} {b : α} {l : List α} {a0 : α} {a1 : α} {a2 : α} {a3 : α} {a4 : α} {a5 : α} {a6 : α} {a7 : α} {a8 : α} : List.set (a0 :: a1 :: a2 :: a3 :: a4 :: a5 :: a6 :: a7 :: a8 :: l) 8 b = a0 :: a1 :: a2 :: a3 :: a4 :: a5 :: a6 :: a7 :: b :: l := rfl
theorem s9 {α : Type} {b : α} {l : List α} {a0 : α} {a1 : α} {a2 : α} {a3 : α} {a4 : α} {a5 : α} {a6 : α} {a7 : α} {a8 : α} {a9 : α} : List.set (a0 :: a1 :: a2 :: a3 :: a4 :: a5 :: a6 :: a7 :: a8 :: a9 :: l) 9 b = a0 :: a1 :: a2 :: a3 :: a4 :: a5 :: a6 :: a7 :: a8 :: b :: l := rfl
theorem s10 {α : Type} {b : α} {l : List α} {a0 : α} {a1 : α} {a2 : α} {a3 : α} {a4 : α} {a5 : α} {a6 : α} {a7 : α} {a8 : α} {a9 : α} {a10 : α} : List.set (a0 :: a1 :: a2 :: a3 :: a4 :: a5 :: a6 :: a7 :: a8 :: a9 :: a10 :: l) 10 b = a0 :: a1 :: a2 :: a3 :: a4 :: a5 :: a6 :: a7 :: a8 :: a9 :: b :: l := rfl
theorem s11 {α : Type} {b : α} {l : List α} {a0 : α} {a1 : α} {a2 : α} {a3 : α} {a4 : α} {a5 : α} {a6 : α} {a7 : α} {a8 : α} {a9 : α} {a10 : α} {a11 : α} : List.set (a0 :: a1 :: a2 :: a3 :: a4 :: a5 :: a6 :: a7 :: a8 :: a9 :: a10 :: a11 :: l) 11 b = a0 :: a1 :: a2 :: a3 :: a4 :: a5 :: a6 :: a7 :: a8 :: a9 :: a10 :: b :: l := rfl
theorem s12 {α : Type} {b : α} {l : List α} {a0 : α} {a1 : α} {a2 : α} {a3 : α} {a4 : α} {a5 : α} {a6 : α} {a7 : α} {a8 : α} {a9 : α} {a10 : α} {a11 : α} {a12 : α} : List.set (a0 :: a1 :: a2 :: a3 :: a4 :: a5 :: a6 :: a7 :: a8 :: a9 :: a10 :: a11 :: a12 :: l) 12 b = a0 :: a1 :: a2 :: a3 :: a4 :: a5 :: a6 :: a7 :: a8 :: a9 :: a10 :: a11 :: b :: l := rfl
theorem s13 {α : Type} {b : α} {l : List α} {a0 : α} {a1 : α} {a2 : α} {a3 : α} {a4 : α} {a5 : α} {a6 : α} {a7 : α} {a8 : α} {a9 : α} {a10 : α} {a11 : α} {a12 : α} {a13 : α} : List.set (a0 :: a1 :: a2 :: a3 :: a4 :: a5 :: a6 :: a7 :: a8 :: a9 :: a10 :: a11 :: a12 :: a13 :: l) 13 b = a0 :: a1 :: a2 :: a3 :: a4 :: a5 :: a6 :: a7 :: a8 :: a9 :: a10 :: a11 :: a12 :: b :: l := rfl
theorem s14 {α : Type} {b : α} {l : List α} {a0 : α} {a1 : α} {a2 : α} {a3 : α} {a4 : α} {a5 : α} {a6 : α} {a7 : α} {a8 : α} {a9 : α} {a10 : α} {a11 : α} {a12 : α} {a13 : α} {a14 : α} : List.set (a0 :: a1 :: a2 :: a3 :: a4 :: a5 :: a6 :: a7 :: a8 :: a9 :: a10 :: a11 :: a12 :: a13 :: a14 :: l) 14 b = a0 :: a1 :: a2 :: a3 :: a4 :: a5 :: a6 :: a7 :: a8 :: a9 :: a10 :: a11 :: a12 :: a13 :: b :: l := rfl
theorem s15 {α : Type} {b : α} {l : List α} {a0 : α} {a1 : α} {a2 : α} {a3 : α} {a4 : α} {a5 : α} {a6 : α} {a7 : α} {a8 : α} {a9 : α} {a10 : α} {a11 : α} {a12 : α} {a13 : α} {a14 : α} {a15 : α} : List.set (a0 :: a1 :: a2 :: a3 :: a4 :: a5 :: a6 :: a7 :: a8 :: a9 :: a10 :: a11 :: a12 :: a13 :: a14 :: a15 :: l) 15 b = a0 :: a1 :: a2 :: a3 :: a4 :: a5 :: a6 :: a7 :: a8 :: a9 :: a10 :: a11 :: a12 :: a13 :: a14 :: b :: l := rfl
theorem s16 {α : Type} {b : α} {l : List α} {a0 : α} {a1 : α} {a2 : α} {a3 : α} {a4 : α} {a5 : α} {a6 : α} {a7 : α} {a8 : α} {a9 : α} {a10 : α} {a11 : α} {a12 : α} {a13 : α} {a14 : α} {a15 : α} {a16 : α} : List.set (a0 :: a1 :: a2 :: a3 :: a4 :: a5 :: a6 :: a7 :: a8 :: a9 :: a10 :: a11 :: a12 :: a13 :: a14 :: a15 :: a16 :: l) 16 b = a0 :: a1 :: a2 :: a3 :: a4 :: a5 :: a6 :: a7 :: a8 :: a9 :: a10 :: a11 :: a12 :: a13 :: a14 :: a15 :: b :: l := rfl
theorem s17 {α : Type} {b : α} {l : List α} {a0 : α} {a1 : α} {a2 : α} {a3 : α} {a4 : α} {a5 : α} {a6 : α} {a7 : α} {a8 : α} {a9 : α} {a10 : α} {a11 : α} {a12 : α} {a13 : α} {a14 : α} {a15 : α} {a16 : α} {a17 : α} : List.set (a0 :: a1 :: a2 :: a3 :: a4 :: a5 :: a6 :: a7 :: a8 :: a9 :: a10 :: a11 :: a12 :: a13 :: a14 :: a15 :: a16 :: a17 :: l) 17 b = a0 :: a1 :: a2 :: a3 :: a4 :: a5 :: a6 :: a7 :: a8 :: a9 :: a10 :: a11 :: a12 :: a13 :: a14 :: a15 :: a16 :: b :: l := rfl
theorem s18 {α : Type} {b : α} {l : List α} {a0 : α} {a1 : α} {a2 : α} {a3 : α} {a4 : α} {a5 : α} {a6 : α} {a7 : α} {a8 : α} {a9 : α} {a10 : α} {a11 : α} {a12 : α} {a13 : α} {a14 : α} {a15 : α} {a16 : α} {a17 : α} {a18 : α} : List.set (a0 :: a1 :: a2 :: a3 :: a4 :: a5 :: a6 :: a7 :: a8 :: a9 :: a10 :: a11 :: a12 :: a13 :: a14 :: a15 :: a16 :: a17 :: a18 :: l) 18 b = a0 :: a1 :: a2 :: a3 :: a4 :: a5 :: a6 :: a7 :: a8 :: a9 :: a10 :: a11 :: a12 :: a13 :: a14 :: a15 :: a16 :: a17 :: b :: l := rfl
theorem s19 {α : Type} {b : α} {l : List α} {a0 : α} {a1 : α} {a2 : α} {a3 : α} {a4 : α} {a5 : α} {a6 : α} {a7 : α} {a8 : α} {a9 : α} {a10 : α} {a11 : α} {a12 : α} {a13 : α} {a14 : α} {a15 : α} {a16 : α} {a17 : α} {a18 : α} {a19 : α} : List.set (a0 :: a1 :: a2 :: a3 :: a4 :: a5 :: a6 :: a7 :: a8 :: a9 :: a10 :: a11 :: a12 :: a13 :: a14 :: a15 :: a16 :: a17 :: a18 :: a19 :: l) 19 b = a0 :: a1 :: a2 :: a3 :: a4 :: a5 :: a6 :: a7 :: a8 :: a9 :: a10 :: a11 :: a12 :: a13 :: a14 :: a15 :: a16 :: a17 :: a18 :: b :: l := rfl
theorem s20 {α : Type} {b : α} {l : List α} {a0 : α} {a1 : α} {a2 : α} {a3 : α} {a4 : α} {a5 : α} {a6 : α} {a7 : α} {a8 : α} {a9 : α} {a10 : α} {a11 : α} {a12 : α} {a13 : α} {a14 : α} {a15 : α} {a16 : α} {a17 : α} {a18 : α} {a19 : α} {a20 : α} : List.set (a0 :: a1 :: a2 :: a3 :: a4 :: a5 :: a6 :: a7 :: a8 :: a9 :: a10 :: a11 :: a12 :: a13 :: a14 :: a15 :: a16 :: a17 :: a18 :: a19 :: a20 :: l) 20 b = a0 :: a1 :: a2 :: a3 :: a4 :: a5 :: a6 :: a7 :: a8 :: a9 :: a10 :: a11 :: a12 :: a13 :: a14 :: a15 :: a16 :: a17 :: a18 :: a19 :: b :: l := rfl
theorem s21 {α : Type} {b : α} {l : List α} {a0 : α} {a1 : α} {a2 : α} {a3 : α} {a4 : α} {a5 : α} {a6 : α} {a7 : α} {a8 : α} {a9 : α} {a10 : α} {a11 : α} {a12 : α} {a13 : α} {a14 : α} {a15 : α} {a16 : α} {a17 : α} {a18 : α} {a19 : α} {a20 : α} {a21 : α} : List.set (a0 :: a1 :: a2 :: a3 :: a4 :: a5 :: a6 :: a7 :: a8 :: a9 :: a10 :: a11 :: a12 :: a13 :: a14 :: a15 :: a16 :: a17 :: a18 :: a19 :: a20 :: a21 :: l) 21 b = a0 :: a1 :: a2 :: a3 :: a4 :: a5 :: a6 :: a7 :: a8 :: a9 :: a10 :: a11 :: a12 :: a13 :: a14 :: a15 :: a16 :: a17 :: a18 :: a19 :: a20 :: b :: l := rfl
theorem s22 {α : Type} {b : α} {l : List α} {a0 : α} {a1 : α} {a2 : α} {a3 : α} {a4 : α} {a5 : α} {a6 : α} {a7 : α} {a8 : α} {a9 : α} {a10 : α} {a11 : α} {a12 : α} {a13 : α} {a14 : α} {a15 : α} {a16 : α} {a17 : α} {a18 : α} {a19 : α} {a20 : α} {a21 : α} {a22 : α} : List.set (a0 :: a1 :: a2 :: a3 :: a4 :: a5 :: a6 :: a7 :: a8 :: a9 :: a10 :: a11 :: a12 :: a13 :: a14 :: a15 :: a16 :: a17 :: a18 :: a19 :: a20 :: a21 :: a22 :: l) 22 b = a0 :: a1 :: a2 :: a3 :: a4 :: a5 :: a6 :: a7 :: a8 :: a9 :: a10 :: a11 :: a12 :: a13 :: a14 :: a15 :: a16 :: a17 :: a18 :: a19 :: a20 :: a21 :: b :: l := rfl
theorem s23 {α : Type} {b : α} {l : List α} {a0 : α} {a1 : α} {a2 : α} {a3 : α} {a4 : α} {a5 : α} {a6 : α} {a7 : α} {a8 : α} {a9 : α} {a10 : α} {a11 : α} {a12 : α} {a13 : α} {a14 : α} {a15 : α} {a16 : α} {a17 : α} {a18 : α} {a19 : α} {a20 : α} {a21 : α} {a22 : α} {a23 : α} : List.set (a0 :: a1 :: a2 :: a3 :: a4 :: a5 :: a6 :: a7 :: a8 :: a9 :: a10 :: a11 :: a12 :: a13 :: a14 :: a15 :: a16 :: a17 :: a18 :: a19 :: a20 :: a21 :: a22 :: a23 :: l) 23 b = a0 :: a1 :: a2 :: a3 :: a4 :: a5 :: a6 :: a7 :: a8 :: a9 :: a10 :: a11 :: a12 :: a13 :: a14 :: a15 :: a16 :: a17 :: a18 :: a19 :: a20 :: a21 :: a22 :: b :: l := rfl
end
end Wp

namespace Wp
open PySem L2
section
variable {K : PySem.W.Frag} {H : Hp} {Q : VK} {p : Addr} {xs : List V} {i : Int} {j : Nat} {v : V}
theorem ixl (h : H p = some (.lst xs)) (hi : atI xs i = some v) (q : Q v H) : rIxL K (.ref p) (.int i) H Q := ⟨p, xs, i, v, rfl, rfl, SqL.of h, hi, q⟩
theorem ixq (h : SqL K H p xs) (hi : atI xs i = some v) (q : Q v H) : rIxL K (.ref p) (.int i) H Q := ⟨p, xs, i, v, rfl, rfl, h, hi, q⟩
theorem setl {R : Hp → Prop} (h : H p = some (.lst xs)) (hj : ixN xs.length i = some j) (q : R (upd H p (.lst (xs.set j v)))) : rSetL (.ref p) (.int i) v H R := ⟨p, xs, i, j, rfl, rfl, h, hj, q⟩
theorem lenl (h : H p = some (.lst xs)) (q : Q (.int (xs.length : Int)) H) : rLen K [V.ref p] H Q := ⟨p, xs, rfl, .inl (SqL.of h), q⟩
theorem lent (h : H p = some (.tup xs)) (q : Q (.int (xs.length : Int)) H) : rLen K [V.ref p] H Q := ⟨p, xs, rfl, .inr (SqT.of h), q⟩
theorem lens (h : SqL K H p xs) (q : Q (.int (xs.length : Int)) H) : rLen K [V.ref p] H Q := ⟨p, xs, rfl, .inl h, q⟩
theorem lists (h : SqL K H p xs) (q : ∀ l, H l = none → Q (.ref l) (upd H l (.lst xs))) : rList K [V.ref p] H Q := ⟨p, xs, rfl, .inl h, q⟩
theorem listt (h : SqT K H p xs) (q : ∀ l, H l = none → Q (.ref l) (upd H l (.lst xs))) : rList K [V.ref p] H Q := ⟨p, xs, rfl, .inr h, q⟩
theorem u_ne {a : Addr} {o u : HO} (n : p ≠ a) (h : H p = some u) : upd H a o p = some u := (upd_ne n).trans h
theorem fresh_ne {a : Addr} {u : HO} (h : H p = some u) (n : H a = none) : p ≠ a := ne_of_none h n
theorem But.refl : But p H H := fun _ _ => rfl
theorem But.upd {H' : Hp} {o : HO} (b : But p H H') : But p H (upd H' p o) := fun c n => (upd_ne n).trans (b c n)
theorem atI_map {ns : List Int} {k : Int} (h0 : 0 ≤ k) (h : k < (ns.map V.int).length) : ∃ n, atI (ns.map V.int) k = some (.int n) := by
  obtain ⟨m, rfl⟩ : ∃ m : Nat, k = (m : Int) := ⟨k.toNat, by omega⟩
  have hm : m < (ns.map V.int).length := by omega
  have hm2 : m < ns.length := by rw [List.length_map] at hm; exact hm
  refine ⟨ns[m], atI_nat ?_⟩
  rw [List.getElem?_map, List.getElem?_eq_getElem hm2]
  rfl
end
end Wp

namespace Wp
open PySem L2
def NB (i : Int) (a : Nat) : Prop := i.natAbs < 2 ^ a
theorem NB.mul {i j : Int} {a b : Nat} (h : NB i a) (h' : NB j b) : NB (i * j) (a + b) := wide_lt h h'
theorem NB.of {i : Int} {a : Nat} (h0 : 0 ≤ i) (h : i < 2 ^ a) : NB i a := by
  unfold NB
  have h2 : ((2 ^ a : Nat) : Int) = (2 : Int) ^ a := by simp
  rw [← h2] at h
  omega
theorem NB.cm {i j : Int} {a b : Nat} (h : NB i a) (h' : NB j b) (h0 : 0 < a ∧ 0 < b ∧ a + b ≤ 1000000) : CMulW i j := wide_mul h h' h0.1 h0.2.1 h0.2.2
theorem NB.mod {a m : Int} (h0 : 0 < m) (h : m < 2 ^ 64) : NB (a % m) 64 := NB.of (Int.emod_nonneg _ (by omega)) (Int.lt_trans (Int.emod_lt_of_pos _ h0) h)
theorem cmm {a b m n : Int} (h0 : 0 < m) (h : m < 2 ^ 64) (h1 : 0 < n) (h2 : n < 2 ^ 64) : CMulW (a % m) (b % n) := (NB.mod h0 h).cm (NB.mod h1 h2) (by decide)
theorem dvs {a m : Int} (h0 : 0 < m) (h : m < 2 ^ 64) : CDivW a m := wide_div h0 (NB.of (Int.le_of_lt h0) h) (by decide) (by decide)
end Wp

namespace Wp
open PySem L2
section
variable {H H' H1 : Hp} {p l : Addr} {o : HO}
theorem PoolAt.new (h : PoolAt H p) (n : H l = none) : PoolAt (upd H l o) p := by
  obtain ⟨k, ns, i, x, c, e, h1, h2, h3⟩ := h
  exact ⟨k, ns, i, x, c, e, u_ne (ne_of_none h1 n) h1, u_ne (ne_of_none h2 n) h2, h3⟩
theorem PoolAt.has (h : PoolAt H p) : ∃ o, H p = some o := by
  obtain ⟨k, ns, i, x, c, e, h1, h2, h3⟩ := h
  exact ⟨_, h1⟩
theorem PoolAt.nefresh (h : PoolAt H p) (n : H l = none) : p ≠ l := by
  obtain ⟨o, h⟩ := h.has
  exact ne_of_none h n
theorem Ext.refl : Ext p H H := fun _ _ _ h => h
theorem Ext.trans (a : Ext p H H') (b : Ext p H' H1) : Ext p H H1 := fun c o n h => b c o n (a c o n h)
theorem But.ext (a : But p H H') : Ext p H H' := fun c o n h => (a c n).trans h
theorem Ext.new (n : H l = none) : Ext p H (upd H l o) := fun c u _ h => u_ne (ne_of_none h n) h
end
end Wp

namespace Wp
open PySem L2
/-! loops -/
def LOOP (J : It) (g : TG) (b : TS) (D : Ends) (st : L2.St) (h : Hp) : Prop := ∃ W : Nat → Nat → L2.St → Hp → Prop, (∃ m, W 0 m st h) ∧ ∀ i m st h, W i m st h → (J.stop i h ∧ D.nx st h) ∨ (J.go i h ∧ ∃ N : L2.St → Hp → Prop, (∀ st' h', N st' h' → ∃ m', m' < m ∧ W (i + 1) m' st' h') ∧ ∀ x h', J.yld i h x h' → g x st h' fun st2 h2 => b { D with nx := N, ct := N, bk := D.nx } st2 h2)
def LC (J : It) (g : TG) (tt : TT) (te : TE) (vs : List Nat) (st : L2.St) (h1 : Hp) (D : Addr) (Q : VK) : Prop := ∃ W : Nat → Nat → Hp → Prop, (∃ m, W 0 m (upd h1 D (.lst []))) ∧ ∀ i m h, W i m h → (J.stop i h ∧ Q (.ref D) h) ∨ (J.go i h ∧ ∃ N : Hp → Prop, (∀ h', N h' → ∃ m', m' < m ∧ W (i + 1) m' h') ∧ ∀ x h', J.yld i h x h' → g x (wipe st vs) h' fun st2 h2 => wipe st2 vs = wipe st vs ∧ tt st2 h2 fun b h3 => if b = true then te st2 h3 fun y h4 => ∃ acc, h4 D = some (.lst acc) ∧ acc.length < sizeLine ∧ N (upd h4 D (.lst (acc ++ [y]))) else N h3)
def rR1 (vs : List V) (H : Hp) (R : It → Hp → Prop) : Prop := ∃ j : Int, vs = [.int j] ∧ -(2 ^ 62) ≤ j ∧ j < 2 ^ 62 ∧ R (Itr 0 j.toNat) H
def rR2 (vs : List V) (H : Hp) (R : It → Hp → Prop) : Prop := ∃ i j : Int, vs = [.int i, .int j] ∧ (-(2 ^ 62) ≤ i ∧ i < 2 ^ 62 ∧ -(2 ^ 62) ≤ j ∧ j < 2 ^ 62) ∧ R (Itr i (j - i).toNat) H
def rIL (K : PySem.W.Frag) (x : V) (H : Hp) (R : It → Hp → Prop) : Prop := ∃ a, x = .ref a ∧ (∃ xs, SqL K H a xs) ∧ R (Itl K a) H
def rIT (K : PySem.W.Frag) (x : V) (H : Hp) (R : It → Hp → Prop) : Prop := ∃ a, x = .ref a ∧ (∃ xs, SqT K H a xs) ∧ R (Itt K a) H
section
variable {σ : L2.St} {H : Hp} {Q : VK} {D : Ends} {K : PySem.W.Frag} {R : It → Hp → Prop} {g : TG} {tb : TS}
theorem for_ {wi : TI} : tFor wi g tb D σ H = wi σ H fun J H1 => LOOP J g tb D σ H1 := rfl
theorem lc_ {wi : TI} {tt : TT} {te : TE} {vs : List Nat} : tLc wi g tt te vs σ H Q = wi σ H fun J H1 => ∀ D, H1 D = none → LC J g tt te vs σ H1 D Q := rfl
theorem ilist {tl : TE} : iList K tl σ H R = tl σ H fun x H1 => rIL K x H1 R := rfl
theorem itup {tl : TE} : iTup K tl σ H R = tl σ H fun x H1 => rIT K x H1 R := rfl
theorem irng1 {ta : TA} : iRng1 ta σ H R = ta σ H fun vs H1 => rR1 vs H1 R := rfl
theorem irng2 {ta : TA} : iRng2 ta σ H R = ta σ H fun vs H1 => rR2 vs H1 R := rfl
theorem rr1 {n : Int} : rR1 [.int n] H R = ((-(2 ^ 62) ≤ n ∧ n < 2 ^ 62) ∧ R (Itr 0 n.toNat) H) := propext ⟨fun ⟨_, e, a, b, c⟩ => by cases e; exact ⟨⟨a, b⟩, c⟩, fun ⟨⟨a, b⟩, c⟩ => ⟨n, rfl, a, b, c⟩⟩
theorem rr2 {i n : Int} : rR2 [.int i, .int n] H R = ((-(2 ^ 62) ≤ i ∧ i < 2 ^ 62 ∧ -(2 ^ 62) ≤ n ∧ n < 2 ^ 62) ∧ R (Itr i (n - i).toNat) H) := propext ⟨fun ⟨_, _, e, a, c⟩ => by cases e; exact ⟨a, c⟩, fun ⟨a, c⟩ => ⟨i, n, rfl, a, c⟩⟩
theorem ril {a : Addr} {xs : List V} (h : H a = some (.lst xs)) (q : R (Itl K a) H) : rIL K (.ref a) H R := ⟨a, rfl, ⟨xs, SqL.of h⟩, q⟩
theorem rilq {a : Addr} {xs : List V} (h : SqL K H a xs) (q : R (Itl K a) H) : rIL K (.ref a) H R := ⟨a, rfl, ⟨xs, h⟩, q⟩
theorem rit {a : Addr} {xs : List V} (h : H a = some (.tup xs)) (q : R (Itt K a) H) : rIT K (.ref a) H R := ⟨a, rfl, ⟨xs, SqT.of h⟩, q⟩
theorem loopR {lo : Int} {n : Nat} (Pv : Nat → L2.St → Hp → Prop) (h0 : Pv 0 σ H)
    (hs : ∀ (i : Nat) σ H, i < n → Pv i σ H → g (.int (lo + i)) σ H fun σ2 H2 => tb { D with nx := Pv (i + 1), ct := Pv (i + 1), bk := D.nx } σ2 H2) (hd : ∀ σ H, Pv n σ H → D.nx σ H) : LOOP (Itr lo n) g tb D σ H := for_range Pv h0 hs hd
theorem loopL {a : Addr} (xs : List V) (Pv : Nat → L2.St → Hp → Prop) (h0 : Pv 0 σ H) (hl : ∀ i σ H, i ≤ xs.length → Pv i σ H → SqL K H a xs)
    (hs : ∀ i x σ H, xs[i]? = some x → Pv i σ H → g x σ H fun σ2 H2 => tb { D with nx := Pv (i + 1), ct := Pv (i + 1), bk := D.nx } σ2 H2) (hd : ∀ σ H, Pv xs.length σ H → D.nx σ H) : LOOP (Itl K a) g tb D σ H := for_list Pv h0 hl hs hd
theorem loopT {a : Addr} (xs : List V) (Pv : Nat → L2.St → Hp → Prop) (h0 : Pv 0 σ H) (hl : ∀ i σ H, i ≤ xs.length → Pv i σ H → SqT K H a xs)
    (hs : ∀ i x σ H, xs[i]? = some x → Pv i σ H → g x σ H fun σ2 H2 => tb { D with nx := Pv (i + 1), ct := Pv (i + 1), bk := D.nx } σ2 H2) (hd : ∀ σ H, Pv xs.length σ H → D.nx σ H) : LOOP (Itt K a) g tb D σ H := for_tup Pv h0 hl hs hd
/-- a loop over a list, turn by turn -/
def RunL (K : PySem.W.Frag) (a : Addr) (full : List V) (g : TG) (tb : TS) (D : Ends) : List V → L2.St → Hp → Prop
  | [], σ, H => SqL K H a full ∧ D.nx σ H
  | x :: r, σ, H => SqL K H a full ∧ g x σ H fun σ2 H2 => tb { D with nx := RunL K a full g tb D r, ct := RunL K a full g tb D r, bk := D.nx } σ2 H2
theorem runL {a : Addr} {xs : List V} (h : H a = some (.lst xs)) (q : RunL K a xs g tb D xs σ H) : LOOP (Itl K a) g tb D σ H := by
  refine loopL xs (fun i σ H => RunL K a xs g tb D (xs.drop i) σ H) q (fun i σ H hi p => ?_) (fun i x σ H hx p => ?_) (fun σ H p => ?_)
  · cases e : xs.drop i with
    | nil => rw [e] at p; exact p.1
    | cons y r => rw [e] at p; exact p.1
  · have hi : i < xs.length := (List.getElem?_eq_some_iff.mp hx).1
    have e : xs.drop i = x :: xs.drop (i + 1) := by
      rw [List.drop_eq_getElem_cons hi]
      rw [List.getElem?_eq_getElem hi] at hx
      rw [Option.some.inj hx]
    rw [e] at p
    exact p.2
  · rw [List.drop_length] at p
    exact p.2
def RunC (K : PySem.W.Frag) (a : Addr) (full : List V) (g : TG) (tt : TT) (te : TE) (vs : List Nat) (σ : L2.St) (D : Addr) (Q : VK) : List V → Hp → Prop
  | [], H => SqL K H a full ∧ Q (.ref D) H
  | x :: r, H => SqL K H a full ∧ g x (wipe σ vs) H fun σ2 H2 => wipe σ2 vs = wipe σ vs ∧ tt σ2 H2 fun b H3 =>
      if b = true then te σ2 H3 fun y H4 => ∃ acc, H4 D = some (.lst acc) ∧ acc.length < sizeLine ∧ RunC K a full g tt te vs σ D Q r (upd H4 D (.lst (acc ++ [y]))) else RunC K a full g tt te vs σ D Q r H3
theorem runC {a D : Addr} {xs : List V} {tt : TT} {te : TE} {vs : List Nat} (q : RunC K a xs g tt te vs σ D Q xs (upd H D (.lst []))) : LC (Itl K a) g tt te vs σ H D Q := by
  refine lc_list (xs := xs) (fun i H => RunC K a xs g tt te vs σ D Q (xs.drop i) H) q (fun i H hi p => ?_) (fun i x H hx p => ?_) (fun H p => ?_)
  · cases e : xs.drop i with
    | nil => rw [e] at p; exact p.1
    | cons y r => rw [e] at p; exact p.1
  · have hi : i < xs.length := (List.getElem?_eq_some_iff.mp hx).1
    have e : xs.drop i = x :: xs.drop (i + 1) := by
      rw [List.drop_eq_getElem_cons hi]
      rw [List.getElem?_eq_getElem hi] at hx
      rw [Option.some.inj hx]
    rw [e] at p
    exact p.2
  · rw [List.drop_length] at p
    exact p.2
theorem tyes {R : Bool → Hp → Prop} : tYes σ H R = R true H := rfl
end
section
variable {X : Cx}
theorem ixL {K : PySem.W.Frag} (h : X.K = K) : IxR X (rIxL K) := h ▸ ix_list
theorem ixT {K : PySem.W.Frag} (h : X.K = K) : IxR X (rIxT K) := h ▸ ix_tup
theorem c_lenK {K : PySem.W.Frag} (h : X.K = K) : CallR X (.builtin "len") (rLen K) := h ▸ c_len
theorem c_listK {K : PySem.W.Frag} (h : X.K = K) : CallR X (.type "list") (rList K) := h ▸ c_list
theorem pi_listK {K : PySem.W.Frag} {tg l : Expr} {tl : TE} (h : X.K = K) (hl : PE X l tl) : PI X tg l (iList K tl) := h ▸ pi_list hl
theorem pi_tupK {K : PySem.W.Frag} {tg l : Expr} {tl : TE} (h : X.K = K) (hl : PE X l tl) : PI X tg l (iTup K tl) := h ▸ pi_tup hl
end
end Wp

namespace Wp
theorem ite_t {c A B : Prop} [Decidable c] (h : c) (q : A) : if c then A else B := by rw [if_pos h]; exact q
theorem ite_f {c A B : Prop} [Decidable c] (h : ¬ c) (q : B) : if c then A else B := by rw [if_neg h]; exact q
end Wp
set_option maxHeartbeats 2000000
/-! Wp1: lists, texts, truth, is True, isinstance of objects, while, slices, methods, one comprehension of pure parts. -/
namespace Wp
open PySem L2 PyProof.Rows
theorem kb_int_int : kitB "int" "int" = some true := by decide +kernel
theorem kb_int_str : kitB "int" "str" = some false := by decide +kernel
theorem kb_int_bool : kitB "int" "bool" = some false := by decide +kernel
theorem kb_int_list : kitB "int" "list" = some false := by decide +kernel
theorem kb_int_tuple : kitB "int" "tuple" = some false := by decide +kernel
theorem kb_str_int : kitB "str" "int" = some false := by decide +kernel
theorem kb_str_str : kitB "str" "str" = some true := by decide +kernel
theorem kb_str_bool : kitB "str" "bool" = some false := by decide +kernel
theorem kb_str_list : kitB "str" "list" = some false := by decide +kernel
theorem kb_str_tuple : kitB "str" "tuple" = some false := by decide +kernel
theorem kb_bool_int : kitB "bool" "int" = some true := by decide +kernel
theorem kb_bool_str : kitB "bool" "str" = some false := by decide +kernel
theorem kb_bool_bool : kitB "bool" "bool" = some true := by decide +kernel
theorem kb_bool_list : kitB "bool" "list" = some false := by decide +kernel
theorem kb_bool_tuple : kitB "bool" "tuple" = some false := by decide +kernel
theorem kb_list_int : kitB "list" "int" = some false := by decide +kernel
theorem kb_list_str : kitB "list" "str" = some false := by decide +kernel
theorem kb_list_bool : kitB "list" "bool" = some false := by decide +kernel
theorem kb_list_list : kitB "list" "list" = some true := by decide +kernel
theorem kb_list_tuple : kitB "list" "tuple" = some false := by decide +kernel
theorem kb_tuple_int : kitB "tuple" "int" = some false := by decide +kernel
theorem kb_tuple_str : kitB "tuple" "str" = some false := by decide +kernel
theorem kb_tuple_bool : kitB "tuple" "bool" = some false := by decide +kernel
theorem kb_tuple_list : kitB "tuple" "list" = some false := by decide +kernel
theorem kb_tuple_tuple : kitB "tuple" "tuple" = some true := by decide +kernel
theorem kb_NoneType_int : kitB "NoneType" "int" = some false := by decide +kernel
theorem kb_NoneType_str : kitB "NoneType" "str" = some false := by decide +kernel
theorem kb_NoneType_bool : kitB "NoneType" "bool" = some false := by decide +kernel
theorem kb_NoneType_list : kitB "NoneType" "list" = some false := by decide +kernel
theorem kb_NoneType_tuple : kitB "NoneType" "tuple" = some false := by decide +kernel
section
variable {X : Cx} {K : PySem.W.Frag} {σ : L2.St} {H : Hp} {Q : VK} {D : Ends}
/-! + of ints and of lists; subscripts of lists and tuples -/
def rAddL : R2 := fun x y H Q => rI0 (fun i j => .int (i + j)) x y H Q ∨ rCat x y H Q
theorem op_addL : OpR X (binaryOp .Add) rAddL := op_add.or op_cat
theorem addi {i j : Int} : rAddL (.int i) (.int j) H Q = Q (.int (i + j)) H := by
  apply propext
  constructor
  · intro h
    rcases h with h | ⟨l, b, xs, zs, h, _⟩
    · rw [i0] at h; exact h
    · cases h
  · intro h
    exact Or.inl (by rw [i0]; exact h)
theorem addl {a b : Addr} {xs ys : List V} (ha : H a = some (.lst xs)) (hb : H b = some (.lst ys)) (hz : xs.length + ys.length ≤ sizeLine) (q : ∀ p, H p = none → Q (.ref p) (upd H p (.lst (xs ++ ys)))) : rAddL (.ref a) (.ref b) H Q :=
  Or.inr ⟨a, b, xs, ys, rfl, rfl, ha, hb, hz, q⟩
theorem repl {a : Addr} {xs : List V} {k : Int} (ha : H a = some (.lst xs)) (h1 : -(2 ^ 63) ≤ k ∧ k < 2 ^ 63) (hz : xs.length * k.toNat ≤ sizeLine) (q : ∀ p, H p = none → Q (.ref p) (upd H p (.lst (List.replicate k.toNat xs).flatten))) : rRep (.ref a) (.int k) H Q :=
  ⟨a, k, xs, rfl, rfl, ha, h1.1, h1.2, hz, q⟩
def rIxA (K : PySem.W.Frag) : R2 := fun x y H Q => rIxL K x y H Q ∨ rIxT K x y H Q
theorem ixA (h : X.K = K) : IxR X (rIxA K) := h ▸ ix_list.or ix_tup
theorem ixal {p : Addr} {xs : List V} {i : Int} {v : V} (h : H p = some (.lst xs)) (hi : atI xs i = some v) (q : Q v H) : rIxA K (.ref p) (.int i) H Q := Or.inl (ixl h hi q)
theorem ixaq {p : Addr} {xs : List V} {i : Int} {v : V} (h : SqL K H p xs) (hi : atI xs i = some v) (q : Q v H) : rIxA K (.ref p) (.int i) H Q := Or.inl (ixq h hi q)
theorem ixat {p : Addr} {xs : List V} {i : Int} {v : V} (h : H p = some (.tup xs)) (hi : atI xs i = some v) (q : Q v H) : rIxA K (.ref p) (.int i) H Q := Or.inr ⟨p, xs, i, v, rfl, rfl, SqT.of h, hi, q⟩
/-! texts -/
theorem ds {i j : Str} : decide (V.str i = V.str j) = decide (i = j) := by
  by_cases h : i = j
  · subst h; simp
  · rw [decide_eq_false h, decide_eq_false]; intro q; cases q; exact h rfl
theorem eqs {i j : Str} : rEq (.str i) (.str j) H Q = Q (.bl (decide (i = j))) H := by
  unfold rEq; rw [ds]; exact propext ⟨fun q => q.2, fun q => ⟨rfl, q⟩⟩
theorem nes {i j : Str} : rNe (.str i) (.str j) H Q = Q (.bl (!decide (i = j))) H := by
  unfold rNe; rw [ds]; exact propext ⟨fun q => q.2, fun q => ⟨rfl, q⟩⟩
/-! is None, is True -/
def rIsN : R2 := fun x y H Q => y = .non ∧ Q (.bl (decide (x = .non))) H
def rNotN : R2 := fun x y H Q => y = .non ∧ Q (.bl (!decide (x = .non))) H
theorem o_isN : OpR X (compareOp .Is) rIsN := op_isN
theorem o_notN : OpR X (compareOp .IsNot) rNotN := op_notN
theorem isn {x : V} : rIsN x .non H Q = Q (.bl (decide (x = .non))) H := propext ⟨fun h => h.2, fun h => ⟨rfl, h⟩⟩
theorem notn {x : V} : rNotN x .non H Q = Q (.bl (!decide (x = .non))) H := propext ⟨fun h => h.2, fun h => ⟨rfl, h⟩⟩
theorem n_i {i : Int} : (V.int i = V.non) = False := eq_false (fun z => by cases z)
theorem n_s {i : Str} : (V.str i = V.non) = False := eq_false (fun z => by cases z)
theorem n_b {i : Bool} : (V.bl i = V.non) = False := eq_false (fun z => by cases z)
theorem n_r {i : Addr} : (V.ref i = V.non) = False := eq_false (fun z => by cases z)
/-- is, the right side a truth value -/
def rIsT : R2 := fun x y H Q => ∃ b : Bool, y = .bl b ∧ Q (.bl (decide (x = .bl b))) H
theorem op_isT : OpR X (compareOp .Is) rIsT := by
  intro pins s σ H x y v u Q I rx ry h
  obtain ⟨b, rfl, q⟩ := h
  cases (show u = Value.bool b from ry)
  have fin : ∀ c : Bool, c = decide (x = .bl b) → EP X pins σ Q (.bool c) s := fun c e => ⟨.bl c, H, I, rfl, by rw [e]; exact q⟩
  have no : x ≠ .bl b → EP X pins σ Q (.bool false) s := fun h => fin _ (decide_eq_false h).symm
  cases x with
  | non => cases (show v = Value.none from rx); exact wpAny_is_other rfl (fun z => by cases z) (no (fun z => by cases z))
  | bl a =>
    cases (show v = Value.bool a from rx)
    by_cases e : a = b
    · subst e
      exact wpAny_is_self rfl (fin _ (by simp))
    · exact wpAny_is_other rfl (fun z => e (Value.bool.inj z)) (no (fun z => by cases z; exact e rfl))
  | int i => obtain ⟨t, e⟩ := (show ∃ t, v = Value.int i t from rx); cases e; exact wpAny_is_other rfl (fun z => by cases z) (no (fun z => by cases z))
  | str i => obtain ⟨t, e⟩ := (show ∃ t, v = Value.str i t from rx); cases e; exact wpAny_is_other rfl (fun z => by cases z) (no (fun z => by cases z))
  | byt i => obtain ⟨t, e⟩ := (show ∃ t, v = Value.bytes i t from rx); cases e; exact wpAny_is_other rfl (fun z => by cases z) (no (fun z => by cases z))
  | flt i => obtain ⟨t, e⟩ := (show ∃ t, v = Value.float i t from rx); cases e; exact wpAny_is_other rfl (fun z => by cases z) (no (fun z => by cases z))
  | ref a => cases (show v = Value.ref a from rx); exact wpAny_is_other rfl (fun z => by cases z) (no (fun z => by cases z))
  | ty n => cases (show v = Value.type n from rx); exact wpAny_is_other rfl (fun z => by cases z) (no (fun z => by cases z))
theorem ist {x : V} {b : Bool} : rIsT x (.bl b) H Q = Q (.bl (decide (x = .bl b))) H := propext ⟨fun ⟨_, e, h⟩ => by cases e; exact h, fun h => ⟨b, rfl, h⟩⟩
theorem t_i {i : Int} {b : Bool} : (V.int i = V.bl b) = False := eq_false (fun z => by cases z)
theorem t_s {i : Str} {b : Bool} : (V.str i = V.bl b) = False := eq_false (fun z => by cases z)
theorem t_n {b : Bool} : (V.non = V.bl b) = False := eq_false (fun z => by cases z)
theorem t_r {i : Addr} {b : Bool} : (V.ref i = V.bl b) = False := eq_false (fun z => by cases z)
theorem t_b {a b : Bool} : (V.bl a = V.bl b) = (a = b) := propext ⟨fun z => by cases z; rfl, fun z => by rw [z]⟩
theorem n_n : (V.non = V.non) = True := eq_true rfl
/-! truth -/
def tTru (K : PySem.W.Frag) (te : TE) : TT := fun σ H Q => te σ H fun x H' => ∃ k, TruV K x H' k ∧ Q k H'
def rTru (K : PySem.W.Frag) (x : V) (H : Hp) (R : Bool → Hp → Prop) : Prop := ∃ k, TruV K x H k ∧ R k H
theorem pt_tru {a : Expr} {ta : TE} (h : X.K = K) (ha : PE X a ta) (he : ∀ whole, isTrue a X.env whole = (do let v ← whole; standAt a.pos; holding [v] (truthy v)) := by intro _; rfl) : PT X a (tTru K ta) := h ▸ pt_truth ha he
theorem tru {te : TE} {R : Bool → Hp → Prop} : tTru K te σ H R = te σ H fun x H' => rTru K x H' R := rfl
theorem tru_b {b : Bool} {R : Bool → Hp → Prop} : rTru K (.bl b) H R = R b H := propext ⟨fun ⟨k, e, r⟩ => by cases (show k = b from e); exact r, fun r => ⟨b, rfl, r⟩⟩
theorem tru_l {p : Addr} {xs : List V} {R : Bool → Hp → Prop} (h : H p = some (.lst xs)) (r : R (!xs.isEmpty) H) : rTru K (.ref p) H R := ⟨_, Or.inl ⟨xs, SqL.of h, rfl⟩, r⟩
/-! isinstance -/
def rIsiW (K : PySem.W.Frag) : List V → Hp → VK → Prop := rIsi K
theorem call_isiK {K : PySem.W.Frag} (h : X.K = K) : CallR X (.builtin "isinstance") (rIsiW K) := h ▸ call_isi
theorem isi_i {i : Int} {T : String} {b : Bool} (h : kitB "int" T = some b) (q : Q (.bl b) H) : rIsiW K [.int i, .ty T] H Q := ⟨_, _, .type "int", .type T, b, rfl, .ty T, .base (.int i), kit_ty h, q⟩
theorem isi_s {i : Str} {T : String} {b : Bool} (h : kitB "str" T = some b) (q : Q (.bl b) H) : rIsiW K [.str i, .ty T] H Q := ⟨_, _, .type "str", .type T, b, rfl, .ty T, .base (.str i), kit_ty h, q⟩
theorem isi_b {i : Bool} {T : String} {b : Bool} (h : kitB "bool" T = some b) (q : Q (.bl b) H) : rIsiW K [.bl i, .ty T] H Q := ⟨_, _, .type "bool", .type T, b, rfl, .ty T, .base (.bl i), kit_ty h, q⟩
theorem isi_n {T : String} {b : Bool} (h : kitB "NoneType" T = some b) (q : Q (.bl b) H) : rIsiW K [.non, .ty T] H Q := ⟨_, _, .type "NoneType", .type T, b, rfl, .ty T, .base .non, kit_ty h, q⟩
theorem isi_l {a : Addr} {xs : List V} {T : String} {b : Bool} (e : H a = some (.lst xs)) (h : kitB "list" T = some b) (q : Q (.bl b) H) : rIsiW K [.ref a, .ty T] H Q := ⟨_, _, .type "list", .type T, b, rfl, .ty T, .base (.lst e), kit_ty h, q⟩
theorem isi_t {a : Addr} {xs : List V} {T : String} {b : Bool} (e : H a = some (.tup xs)) (h : kitB "tuple" T = some b) (q : Q (.bl b) H) : rIsiW K [.ref a, .ty T] H Q := ⟨_, _, .type "tuple", .type T, b, rfl, .ty T, .base (.tup e), kit_ty h, q⟩
/-! slices of lists -/
theorem sl {r : V → Option Int → Option Int → Hp → VK → Prop} {te : TE} {tl th : TO} : tSl r te tl th σ H Q = te σ H fun x H1 => tl σ H1 fun l H2 => th σ H2 fun u H3 => r x l u H3 Q := rfl
theorem nopart {R : Option Int → Hp → Prop} : tNoPart σ H R = R none H := rfl
def rPart (x : V) (H : Hp) (R : Option Int → Hp → Prop) : Prop := ∃ i, x = .int i ∧ R (some i) H
theorem part {t : TE} {R : Option Int → Hp → Prop} : tPart t σ H R = t σ H fun x H1 => rPart x H1 R := rfl
theorem rpart {i : Int} {R : Option Int → Hp → Prop} : rPart (.int i) H R = R (some i) H := propext ⟨fun ⟨_, e, h⟩ => by cases e; exact h, fun h => ⟨i, rfl, h⟩⟩
theorem sl_listK {K : PySem.W.Frag} (h : X.K = K) : SlR X (rSlL K) := h ▸ sl_list
theorem slq {a : Addr} {xs : List V} {lo hi : Option Int} (h : SqL K H a xs) (q : ∀ p, H p = none → Q (.ref p) (upd H p (.lst (cutV xs lo hi)))) : rSlL K (.ref a) lo hi H Q := ⟨a, xs, rfl, h, q⟩
theorem sll {a : Addr} {xs : List V} {lo hi : Option Int} (h : H a = some (.lst xs)) (q : ∀ p, H p = none → Q (.ref p) (upd H p (.lst (cutV xs lo hi)))) : rSlL K (.ref a) lo hi H Q := ⟨a, xs, rfl, SqL.of h, q⟩
/-! methods of lists -/
def rMt (K : PySem.W.Frag) (T : String) (r : V → List V → Hp → VK → Prop) (t : TA) (σ : L2.St) (x : V) (H : Hp) (Q : VK) : Prop := tyV K T x H ∧ t σ H fun xs H2 => r x xs H2 Q
theorem bm {T : String} {r : V → List V → Hp → VK → Prop} {to : TE} {t : TA} : tBM K T r to t σ H Q = to σ H fun x H1 => rMt K T r t σ x H1 Q := rfl
theorem bm0 {T : String} {r : V → List V → Hp → VK → Prop} {to : TE} : tBM0 K T r to σ H Q = to σ H fun x H1 => rMt K T r tNil σ x H1 Q := rfl
theorem mtl {a : Addr} {xs : List V} {r : V → List V → Hp → VK → Prop} {t : TA} (h : H a = some (.lst xs)) (q : t σ H fun ys H2 => r (.ref a) ys H2 Q) : rMt K "list" r t σ (.ref a) H Q := ⟨Or.inl ⟨rfl, xs, SqL.of h⟩, q⟩
theorem apd {l : Addr} {xs : List V} {y : V} (h : H l = some (.lst xs)) (hz : xs.length < sizeLine) (q : Q .non (upd H l (.lst (xs ++ [y])))) : rAppend (.ref l) [y] H Q := ⟨l, xs, y, rfl, rfl, h, hz, q⟩
theorem popd {l : Addr} {xs : List V} {y : V} (h : H l = some (.lst xs)) (hy : xs[xs.length - 1]? = some y) (q : Q y (upd H l (.lst xs.dropLast))) : rPop (.ref l) [] H Q := ⟨l, xs, y, rfl, rfl, h, hy, q⟩
section
open PySem.W
variable {o e : Expr} {es : List Expr} {to : TE} {t : TA} {name : Str} {apos cpos : Pos} {T id : String} {r : V → List V → Hp → VK → Prop}
theorem pe_bm0K {X : Cx} {K : PySem.W.Frag} (h : X.K = K) (pa : PlainAttrs T) (slot : Slot T name id) (hty : typeOf (.builtin id) = pure (.type "method_descriptor")) (hm : MtR X id r) (ho : PE X o to)
    (hbase : attributeBase o name X.env (eval o X.env) = eval o X.env := by rfl) (hline : (apos.endLine == cpos.line) = true := by rfl) : PE X (.Call (.Attribute o name apos) [] [] cpos) (tBM0 K T r to) := h ▸ pe_bm0 pa slot hty hm ho hbase hline
theorem pe_bmK {X : Cx} {K : PySem.W.Frag} (h : X.K = K) (pa : PlainAttrs T) (slot : Slot T name id) (hty : typeOf (.builtin id) = pure (.type "method_descriptor")) (hm : MtR X id r) (ho : PE X o to) (ha : PA X (e :: es) t)
    (hbase : attributeBase o name X.env (eval o X.env) = eval o X.env := by rfl)
    (hfew : ((backTo cpos (starEach (e :: es) X.env)).all (fun x => !x.1) && (backToKw cpos (keywordEach [] X.env)).all (fun x => x.1.isSome) && decide ((e :: es).length + ([] : List Keyword).length + (if ([] : List Keyword).isEmpty then 0 else 1) < 30)) = true := by rfl)
    (hline : (apos.endLine == cpos.line) = true := by rfl) (hs : starEach (e :: es) X.env = (false, eval e X.env) :: starEach es X.env := by rfl) (hplain : (backTo cpos (starEach es X.env)).any (·.1) = false := by rfl) :
    PE X (.Call (.Attribute o name apos) (e :: es) [] cpos) (tBM K T r to t) := h ▸ pe_bm pa slot hty hm ho ha hbase hfew hline hs hplain
end
/-! x op= e -/
theorem aug {i : Nat} {te : TE} {ti : TIp} : tAug i te ti D σ H = tVar i σ H fun x H0 => te σ H0 fun y H1 => ti x y H1 fun z H2 => D.nx (σ.set i (some z)) H2 := rfl
theorem ipi {f : Int → Int → Int} {i j : Int} : ipI f (.int i) (.int j) H Q = Q (.int (f i j)) H := propext ⟨fun ⟨_, _, e1, e2, h⟩ => by cases e1; cases e2; exact h, fun h => ⟨i, j, rfl, rfl, h⟩⟩
/-! while -/
theorem wh {c : TT} {b : TS} (W : Nat → L2.St → Hp → Prop) (m0 : Nat) (h0 : W m0 σ H)
    (hs : ∀ m σ H, W m σ H → c σ H fun k H1 => if k = true then ∃ N : L2.St → Hp → Prop, (∀ σ' H', N σ' H' → ∃ m', m' < m ∧ W m' σ' H') ∧ b { D with nx := N, ct := N, bk := D.nx } σ H1 else D.nx σ H1) : tWhile c b D σ H := ⟨W, ⟨m0, h0⟩, hs⟩
end
section
variable {K : PySem.W.Frag} {σ : L2.St} {H : Hp} {Q : VK} {tt : TT} {te : TE} {vs : List Nat}
/-- a comprehension whose test and element only look -/
theorem lcP {a Dl : Addr} {xs : List V} {j : Nat} (bf : V → Bool) (vf : V → V) (h : H a = some (.lst xs)) (hD : H Dl = none) (hz : xs.length ≤ 100000) (hw : ∀ x, wipe ((wipe σ vs).set j (some x)) vs = wipe σ vs)
    (ht : ∀ x, x ∈ xs → ∀ (l : List V) (R : Bool → Hp → Prop), R (bf x) (upd H Dl (.lst l)) → tt ((wipe σ vs).set j (some x)) (upd H Dl (.lst l)) R)
    (he : ∀ x, x ∈ xs → bf x = true → ∀ (l : List V) (R : VK), R (vf x) (upd H Dl (.lst l)) → te ((wipe σ vs).set j (some x)) (upd H Dl (.lst l)) R)
    (q : Q (.ref Dl) (upd H Dl (.lst ((xs.filter bf).map vf)))) : LC (Itl K a) (gName j) tt te vs σ H Dl Q := by
  have hne : a ≠ Dl := ne_of_none h hD
  refine lc_list (xs := xs) (fun i H' => H' = upd H Dl (.lst (((xs.take i).filter bf).map vf))) rfl (fun i H' hi e => by rw [e]; exact SqL.of (u_ne hne h)) (fun i x H' hx e => ?_) (fun H' e => ?_)
  · subst e
    have et : xs.take (i + 1) = xs.take i ++ [x] := by rw [List.take_succ, hx]; rfl
    refine ⟨hw x, ht x (List.mem_of_getElem? hx) _ _ ?_⟩
    cases e : bf x with
    | false =>
      show _ = _
      rw [et, List.filter_append]
      simp [e]
    | true =>
      refine he x (List.mem_of_getElem? hx) e _ _ ⟨_, upd_same, ?_, ?_⟩
      · have h1 := List.length_filter_le bf (xs.take i)
        rw [List.length_map]
        have h2 : (xs.take i).length ≤ xs.length := by rw [List.length_take]; omega
        exact Nat.lt_of_le_of_lt (Nat.le_trans h1 (Nat.le_trans h2 hz)) (by decide)
      · rw [upd_upd, et, List.filter_append, List.map_append]
        simp [e]
  · subst e
    rw [List.take_length]
    exact q
end
theorem sz_lt {n : Nat} (h : n < 100000) : n < sizeLine := Nat.lt_of_lt_of_le h (by decide)
theorem sz_le {n : Nat} (h : n ≤ 100000) : n ≤ sizeLine := Nat.le_trans h (by decide)
/-- what H told stands -/
def Ex (H H' : Hp) : Prop := ∀ b o, H b = some o → H' b = some o
theorem Ex.refl {H : Hp} : Ex H H := fun _ _ h => h
theorem Ex.trans {H H1 H2 : Hp} (a : Ex H H1) (b : Ex H1 H2) : Ex H H2 := fun x o h => b x o (a x o h)
theorem Ex.new {H H1 : Hp} {p : Addr} {o : HO} (a : Ex H H1) (n : H1 p = none) : Ex H (upd H1 p o) := fun b u h => u_ne (ne_of_none (a b u h) n) (a b u h)
theorem Ex.mut {H H1 : Hp} {p : Addr} {o : HO} (a : Ex H H1) (n : H p = none) : Ex H (upd H1 p o) := fun b u h => u_ne (ne_of_none h n) (a b u h)
theorem Ex.free {H H1 : Hp} {p : Addr} (a : Ex H H1) (n : H1 p = none) : H p = none := by
  cases e : H p with
  | none => rfl
  | some o => rw [a p o e] at n; cases n
theorem Ex.ext {p : Addr} {H H' : Hp} (a : Ex H H') : Ext p H H' := fun b o _ h => a b o h
theorem PoolAt.ex {H H' : Hp} {p : Addr} (h : PoolAt H p) (a : Ex H H') : PoolAt H' p := by
  obtain ⟨l, ns, i, x, c, e, h1, h2, h3⟩ := h
  exact ⟨l, ns, i, x, c, e, a _ _ h1, a _ _ h2, h3⟩
theorem Ext.new' {p l : Addr} {o : HO} {H H1 : Hp} (a : Ext p H H1) (n : H1 l = none) : Ext p H (upd H1 l o) := fun b u hb h => u_ne (ne_of_none (a b u hb h) n) (a b u hb h)
theorem Ext.mut {p l : Addr} {o : HO} {H H1 : Hp} (a : Ext p H H1) (n : H l = none) : Ext p H (upd H1 l o) := fun b u hb h => u_ne (ne_of_none h n) (a b u hb h)
end Wp
/-! Wp2: what the laws' common helpers promise; count of a list; odds and ends. -/
namespace Wp
open PySem L2 PyProof.Rows
section
variable {X : Cx}
/-- how often a flat thing stands in a list of flat things: some number up to the length -/
def rCntB (K : PySem.W.Frag) : V → List V → Hp → VK → Prop := fun x xs H Q => ∃ (a : Addr) (ys : List V) (y : V), x = V.ref a ∧ xs = [y] ∧ SqL K H a ys ∧ flatV y = true ∧ ys.all flatV = true ∧ ∀ n : Nat, n ≤ ys.length → Q (.int (n : Int)) H
theorem mt_countS : MtR X "list.count" (rCntB X.K) := by
  intro pins s σ H x xs v us Q I rx rxs h
  obtain ⟨a, ys, y, rfl, rfl, hs, fy, fys, q⟩ := h
  cases rx
  cases rxs with
  | cons ry rt =>
    rename_i uy ut
    cases rt
    obtain ⟨its, rv, ⟨⟨cls, dd, data, sl⟩, n, ho, hc, hdn, hd⟩, hlen⟩ := I.list hs
    simp only at hc hd
    subst hc hd
    refine call_meets PySem.F.slot_list_count ⟨_, ho, rfl⟩ PySem.F.entry_list_count (PySem.F.args_list_count_2 _ _)
      (SeqAt.list_countAt a its.toArray n dd sl uy (eqU y)) ⟨ho, fun u' hu' => mem_eqAt ry fy rv fys u' (by simpa using hu'), ?_⟩
    have hc := List.countP_le_length (p := eqU y) (l := its.toArray.toList)
    have e2 : its.toArray.toList.length = ys.length := by have := rv.length; simp; omega
    exact ⟨.int _, H, I.tok _, ⟨_, rfl⟩, q _ (by omega)⟩
theorem mt_countK {K : PySem.W.Frag} (h : X.K = K) : MtR X "list.count" (rCntB K) := h ▸ mt_countS
end
theorem cntb {K : PySem.W.Frag} {H : Hp} {Q : VK} {a : Addr} {ys : List V} {y : V} (h : H a = some (.lst ys)) (fy : flatV y = true) (fys : ys.all flatV = true) (q : ∀ n : Nat, n ≤ ys.length → Q (.int (n : Int)) H) : rCntB K (.ref a) [y] H Q := ⟨a, ys, y, rfl, rfl, SqL.of h, fy, fys, q⟩
theorem all_flat_str (cs : List Str) : (cs.map V.str).all flatV = true := by
  rw [List.all_eq_true]
  intro x hx
  obtain ⟨c, _, rfl⟩ := List.mem_map.mp hx
  rfl
theorem cutV_map {α : Type} (f : α → V) (xs : List α) (lo hi : Option Int) : ∃ ys : List α, cutV (xs.map f) lo hi = ys.map f ∧ (∀ y, y ∈ ys → y ∈ xs) ∧ ys.length ≤ xs.length := by
  refine ⟨(xs.drop (HT.sIx (xs.map f).length 0 lo)).take (HT.sIx (xs.map f).length (xs.map f).length hi - HT.sIx (xs.map f).length 0 lo), ?_, fun y h => List.mem_of_mem_drop (List.mem_of_mem_take h), ?_⟩
  · unfold cutV
    rw [List.map_take, List.map_drop]
  · rw [List.length_take, List.length_drop]
    omega
theorem rep_map {α : Type} (f : α → V) (xs : List α) (n : Nat) : (List.replicate n (xs.map f)).flatten = ((List.replicate n xs).flatten).map f := by
  rw [List.map_flatten, List.map_replicate]
theorem rep_len {α : Type} (xs : List α) (n : Nat) : (List.replicate n xs).flatten.length = n * xs.length := by
  rw [List.length_flatten, List.map_replicate, List.sum_replicate_nat]
theorem rep_mem {α : Type} {xs : List α} {n : Nat} {y : α} (h : y ∈ (List.replicate n xs).flatten) : y ∈ xs := by
  obtain ⟨l, hl, hy⟩ := List.mem_flatten.mp h
  rw [List.eq_of_mem_replicate hl] at hy
  exact hy
/-- the pool at p, its list at l -/
def PoolL (H : Hp) (p l : Addr) : Prop := ∃ ns i x c e, PoolC H p l ns i x c e
section
variable {H H' H1 : Hp} {p l b : Addr} {o : HO}
theorem PoolL.ne (h : PoolL H p l) : l ≠ p := by
  obtain ⟨ns, i, x, c, e, h⟩ := h
  exact h.ne
theorem PoolL.upd (h : PoolL H p l) (n1 : b ≠ p) (n2 : b ≠ l) : PoolL (upd H b o) p l := by
  obtain ⟨ns, i, x, c, e, h1, h2, h3⟩ := h
  exact ⟨ns, i, x, c, e, u_ne n1.symm h1, u_ne n2.symm h2, h3⟩
theorem PoolL.nep (h : PoolL H p l) (n : H b = none) : b ≠ p := by
  obtain ⟨ns, i, x, c, e, h1, h2, h3⟩ := h
  exact (ne_of_none h1 n).symm
theorem PoolL.nel (h : PoolL H p l) (n : H b = none) : b ≠ l := by
  obtain ⟨ns, i, x, c, e, h1, h2, h3⟩ := h
  exact (ne_of_none h2 n).symm
theorem PoolL.new (h : PoolL H p l) (n : H b = none) : PoolL (L2.upd H b o) p l := h.upd (h.nep n) (h.nel n)
theorem PoolL.ex (h : PoolL H p l) (a : Ex H H') : PoolL H' p l := by
  obtain ⟨ns, i, x, c, e, h1, h2, h3⟩ := h
  exact ⟨ns, i, x, c, e, a _ _ h1, a _ _ h2, h3⟩
theorem But.trans (a : But p H H1) (b : But p H1 H') : But p H H' := fun c n => (b c n).trans (a c n)
theorem But.get (a : But p H H1) (n : b ≠ p) (h : H b = some o) : H1 b = some o := (a b n).trans h
end
def spPoolL (K : PySem.W.Frag) : Sp := fun vs H Q _ => ∃ (a : Addr) (ns : List Int), vs = [.ref a] ∧ SqL K H a (ns.map V.int) ∧ ∀ p l H', H p = none → H l = none → Ex H H' → PoolL H' p l → Q (.ref p) H'
def spDrawL : Sp := fun vs H Q _ => ∃ (p : Addr) (m : Int), vs = [.ref p, .int m] ∧ ∃ l, PoolL H p l ∧ 0 < m ∧ m.natAbs < 2 ^ 200 ∧ ∀ r H', 0 ≤ r → r < m → PoolL H' p l → But p H H' → Q (.int r) H'
def spPick : Sp := fun vs H Q _ => ∃ (p a : Addr), vs = [.ref p, .ref a] ∧ ∃ (l : Addr) (xs : List V), PoolL H p l ∧ H a = some (.lst xs) ∧ a ≠ p ∧ 0 < xs.length ∧ xs.length < 2 ^ 60 ∧ ∀ (i : Nat) (x : V) (H' : Hp), xs[i]? = some x → PoolL H' p l → But p H H' → Q x H'
def spRare : Sp := fun vs H Q _ => ∃ (p : Addr) (m : Int), vs = [.ref p, .int m] ∧ ∃ l, PoolL H p l ∧ 0 < m ∧ m < 2 ^ 60 ∧ ∀ b H', PoolL H' p l → But p H H' → Q (.bl b) H'
def spFew : Sp := fun vs H Q _ => ∃ (p : Addr) (u m : Int), vs = [.ref p, .int u, .int m] ∧ ∃ l, PoolL H p l ∧ 0 ≤ u ∧ u ≤ m ∧ m < 2 ^ 60 ∧ ∀ r H', 0 ≤ r → r ≤ m → PoolL H' p l → But p H H' → Q (.int r) H'
/-- what is known of a heap on the way: the pool, what stood, a list of what stands where -/
structure SS (p l : Addr) (H0 H : Hp) (L : List (Addr × HO)) : Prop where
  pool : PoolL H p l
  ext : Ext p H0 H
  has : ∀ e, e ∈ L → e.1 ≠ p ∧ H e.1 = some e.2
section
variable {p l b a : Addr} {H0 H H' : Hp} {L : List (Addr × HO)} {o : HO}
theorem SS.first (h : PoolL H p l) : SS p l H H [] := ⟨h, Ext.refl, fun e he => by cases he⟩
theorem SS.add (S : SS p l H0 H L) (n : a ≠ p) (h : H a = some o) : SS p l H0 H ((a, o) :: L) := ⟨S.pool, S.ext, fun e he => by
  rcases List.mem_cons.mp he with rfl | he
  · exact ⟨n, h⟩
  · exact S.has e he⟩
theorem SS.new (S : SS p l H0 H L) (n : H b = none) (o : HO) : SS p l H0 (upd H b o) ((b, o) :: L) := ⟨S.pool.new n, S.ext.new' n, fun e he => by
  rcases List.mem_cons.mp he with rfl | he
  · exact ⟨S.pool.nep n, upd_same⟩
  · exact ⟨(S.has e he).1, u_ne (ne_of_none (S.has e he).2 n) (S.has e he).2⟩⟩
theorem SS.draw (S : SS p l H0 H L) (h : PoolL H' p l) (bt : But p H H') : SS p l H0 H' L := ⟨h, S.ext.trans bt.ext, fun e he => ⟨(S.has e he).1, bt.get (S.has e he).1 (S.has e he).2⟩⟩
theorem SS.step (S : SS p l H0 H L) (h : PoolL H' p l) (x : Ext p H H') : SS p l H0 H' L := ⟨h, S.ext.trans x, fun e he => ⟨(S.has e he).1, x _ _ (S.has e he).1 (S.has e he).2⟩⟩
theorem SS.at (S : SS p l H0 H L) {i : Nat} (h : L[i]? = some (a, o)) : H a = some o := (S.has _ (List.mem_of_getElem? h)).2
theorem SS.ne (S : SS p l H0 H L) {i : Nat} (h : L[i]? = some (a, o)) : a ≠ p := (S.has _ (List.mem_of_getElem? h)).1
theorem SS.less (S : SS p l H0 H L) {L' : List (Addr × HO)} (h : ∀ e, e ∈ L' → e ∈ L) : SS p l H0 H L' := ⟨S.pool, S.ext, fun e he => S.has e (h e he)⟩
end
/-- what is known of a heap on the way, without a pool -/
structure KK (H0 H : Hp) (L : List (Addr × HO)) : Prop where
  ext : Ex H0 H
  has : ∀ e, e ∈ L → H e.1 = some e.2
section
variable {b a : Addr} {H0 H H' : Hp} {L : List (Addr × HO)} {o : HO}
theorem KK.first : KK H H [] := ⟨Ex.refl, fun e he => by cases he⟩
theorem KK.add (S : KK H0 H L) (h : H a = some o) : KK H0 H ((a, o) :: L) := ⟨S.ext, fun e he => by
  rcases List.mem_cons.mp he with rfl | he
  · exact h
  · exact S.has e he⟩
theorem KK.new (S : KK H0 H L) (n : H b = none) (o : HO) : KK H0 (upd H b o) ((b, o) :: L) := ⟨S.ext.new n, fun e he => by
  rcases List.mem_cons.mp he with rfl | he
  · exact upd_same
  · exact u_ne (ne_of_none (S.has e he) n) (S.has e he)⟩
theorem KK.step (S : KK H0 H L) (x : Ex H H') : KK H0 H' L := ⟨S.ext.trans x, fun e he => x _ _ (S.has e he)⟩
theorem KK.at (S : KK H0 H L) {i : Nat} (h : L[i]? = some (a, o)) : H a = some o := S.has _ (List.mem_of_getElem? h)
theorem KK.less (S : KK H0 H L) {L' : List (Addr × HO)} (h : ∀ e, e ∈ L' → e ∈ L) : KK H0 H L' := ⟨S.ext, fun e he => S.has e (h e he)⟩
end
/-! errors made, their fields stored and read -/
def rMk (C : Addr) (sp : Sp) (vs : List V) (H1 : Hp) (Q : XK) : Prop := vs.length ≤ 1000 ∧ ∀ a, H1 a = none → sp (.ref a :: vs) (upd H1 a (exo a C none))
  (fun v H2 => v = .non ∧ ∃ (d : Addr) (fs : List (Str × V)), H2 a = some (exo a C (some d)) ∧ H2 d = some (exd d fs) ∧ H1 d = none ∧ Q (.ref C) (some d) (upd (del H2 a) d (.xd fs))) (fun _ _ _ => False)
section
variable {K : PySem.W.Frag} {σ : L2.St} {H : Hp} {Q : VK} {D : Ends}
theorem mko {C : Addr} {sp : Sp} {ta : TA} {R : XK} : tMkO C sp [] ta σ H R = ta σ H fun vs H1 => rMk C sp vs H1 R := by
  unfold tMkO rMk
  simp only [List.append_nil]
def rOst (K : PySem.W.Frag) (f : Str) (x y : V) (H2 : Hp) (R : Hp → Prop) : Prop := ∃ a C : Addr, x = .ref a ∧ OexC K C ∧ PySem.W.findIn K (.ref C) f = some none ∧
  ((H2 a = some (exo a C none) ∧ ∀ dx, H2 dx = none → dx ≠ a → R (upd (upd H2 dx (exd dx [(f, y)])) a (exo a C (some dx)))) ∨
    ∃ (dx : Addr) (fs : List (Str × V)), H2 a = some (exo a C (some dx)) ∧ H2 dx = some (exd dx fs) ∧ fs.length ≤ 900 ∧ R (upd H2 dx (exd dx ((f, y) :: fs))))
theorem ost {f : Str} {to te : TE} : tOst K f to te D σ H = te σ H fun y H1 => to σ H1 fun x H2 => rOst K f x y H2 (D.nx σ) := rfl
def rXf (a : Addr) (cls : Value) (d : Option Addr) (C : Addr) (f : Str) (x : V) (H1 : Hp) (Q : VK) : Prop := x = .ref a ∧ cls = .ref C ∧ ∃ (dd : Addr) (fs : List (Str × V)) (v : V), d = some dd ∧ H1 dd = some (.xd fs) ∧ fs.lookup f = some v ∧ Q v H1
theorem xf {a C : Addr} {cls : Value} {d : Option Addr} {f : Str} {te : TE} : tXf a cls d C f te σ H Q = te σ H fun x H1 => rXf a cls d C f x H1 Q := rfl
theorem callS {sp : Sp} {E : L2.St → XK} {t : TA} : tCallS sp E t σ H Q = t σ H fun vs H1 => sp vs H1 Q (E σ) := rfl
end
theorem ps_ostK {X : Cx} {K : PySem.W.Frag} {o e : Expr} {to te : TE} {f : Str} {p' pos : Pos} (h : X.K = K) (ho : PE X o to) (he : PE X e te) (hs : swapsWith e (some (.Attribute o f p')) pos.line X.env = pure false := by rfl) : PS X (.Assign [.Attribute o f p'] e pos) (tOst K f to te) := h ▸ ps_ost ho he hs
theorem Ext.free {p b : Addr} {H H' : Hp} (a : Ext p H H') (n : H' b = none) (h : b ≠ p) : H b = none := by
  cases e : H b with
  | none => rfl
  | some o => rw [a b o h e] at n; cases n
end Wp
/-! Wp4: own instances (made, their fields stored and read, methods), dicts with tuples as keys, sum, zip in a comprehension. -/
namespace Wp
open PySem L2
section
variable {K : PySem.W.Frag} {σ : L2.St} {H : Hp} {Q : VK} {D : Ends}
def rFld (K : PySem.W.Frag) (f : Str) (x : V) (H1 : Hp) (Q : VK) : Prop := ∃ a C dx fs v, x = .ref a ∧ H1 a = some (.ins C dx fs) ∧ Cls K C ∧ NoAttr K C f ∧ fs.lookup f = some v ∧ Q v H1
theorem fld {f : Str} {ta : TE} : tFld K ta f σ H Q = ta σ H fun x H1 => rFld K f x H1 Q := rfl
theorem rfld {f : Str} {a C dx : Addr} {fs : List (Str × V)} {v : V} (h : H a = some (.ins C dx fs)) (c : Cls K C) (n : NoAttr K C f) (l : fs.lookup f = some v) (q : Q v H) : rFld K f (.ref a) H Q := ⟨a, C, dx, fs, v, rfl, h, c, n, l, q⟩
def rSfld (K : PySem.W.Frag) (f : Str) (x y : V) (H2 : Hp) (R : Hp → Prop) : Prop := ∃ a C dx fs, x = .ref a ∧ H2 a = some (.ins C dx fs) ∧ Cls K C ∧ NoAttr K C f ∧ fs.length < 1000 ∧ R (upd H2 a (.ins C dx (putF f y fs)))
theorem sfld {f : Str} {ta tv : TE} : sFld K ta tv f D σ H = tv σ H fun y H1 => ta σ H1 fun x H2 => rSfld K f x y H2 (D.nx σ) := rfl
theorem rsfld {f : Str} {a C dx : Addr} {fs : List (Str × V)} {y : V} {R : Hp → Prop} (h : H a = some (.ins C dx fs)) (c : Cls K C) (n : NoAttr K C f) (z : fs.length < 1000) (q : R (upd H a (.ins C dx (putF f y fs)))) : rSfld K f (.ref a) y H R := ⟨a, C, dx, fs, rfl, h, c, n, z, q⟩
def rMake (C : Addr) (sp : Sp) (E : XK) (vs : List V) (H1 : Hp) (Q : VK) : Prop := ∀ x dx, H1 x = none → H1 dx = none → dx ≠ x → sp (.ref x :: vs) (upd (upd H1 dx (.own x)) x (.ins C dx [])) (fun v H2 => v = .non ∧ Q (.ref x) H2) E
theorem make {C : Addr} {sp : Sp} {E : XK} {t : TA} : tMake C sp [] E t σ H Q = t σ H fun vs H1 => rMake C sp E vs H1 Q := by
  unfold tMake rMake
  simp only [List.append_nil]
def rMeth (m : Str) (sp : Sp) (E : XK) (t : TA) (σ : L2.St) (x : V) (H1 : Hp) (Q : VK) : Prop := ∃ (a C dx : Addr) (fs : List (Str × V)), x = .ref a ∧ H1 a = some (.ins C dx fs) ∧ fs.lookup m = none ∧ t σ H1 fun vs H2 => sp (x :: vs) H2 Q E
def rMethC (C : Addr) (m : Str) (sp : Sp) (E : XK) (t : TA) (σ : L2.St) (x : V) (H1 : Hp) (Q : VK) : Prop := ∃ (a dx : Addr) (fs : List (Str × V)), x = .ref a ∧ H1 a = some (.ins C dx fs) ∧ fs.lookup m = none ∧ t σ H1 fun vs H2 => sp (x :: vs) H2 Q E
theorem meth {C : Addr} {m : Str} {sp : Sp} {E : XK} {ta : TE} {t : TA} : tMeth C m sp [] E ta t σ H Q = ta σ H fun x H1 => rMethC C m sp E t σ x H1 Q := by
  unfold tMeth rMethC
  simp only [List.append_nil]
theorem rmeth {C a dx : Addr} {m : Str} {sp : Sp} {E : XK} {t : TA} {fs : List (Str × V)} (h : H a = some (.ins C dx fs)) (n : fs.lookup m = none) (q : t σ H fun vs H2 => sp (.ref a :: vs) H2 Q E) : rMethC C m sp E t σ (.ref a) H Q := ⟨a, dx, fs, rfl, h, n, q⟩
/-! dicts -/
def rDGet (x y : V) (H2 : Hp) (Q : VK) : Prop := ∃ a v, x = .ref a ∧ DGet H2 a y (some v) ∧ Q v H2
theorem dget {td ty : TE} : tDGet td ty σ H Q = td σ H fun x H1 => ty σ H1 fun y H2 => rDGet x y H2 Q := rfl
def rDNot (y x : V) (H2 : Hp) (Q : VK) : Prop := ∃ a o, x = .ref a ∧ DGet H2 a y o ∧ Q (.bl (!o.isSome)) H2
theorem dnot {td ty : TE} : tDNotIn ty td σ H Q = ty σ H fun y H1 => td σ H1 fun x H2 => rDNot y x H2 Q := rfl
def rDIn (y x : V) (H2 : Hp) (Q : VK) : Prop := ∃ a o, x = .ref a ∧ DGet H2 a y o ∧ Q (.bl o.isSome) H2
theorem din {td ty : TE} : tDIn ty td σ H Q = ty σ H fun y H1 => td σ H1 fun x H2 => rDIn y x H2 Q := rfl
def rDPut (x y v : V) (H3 : Hp) (R : Hp → Prop) : Prop := ∃ a H4, x = .ref a ∧ DPut H3 a y v H4 ∧ R H4
theorem dput {td ty tv : TE} : sDPut td ty tv D σ H = tv σ H fun v H1 => td σ H1 fun x H2 => ty σ H2 fun y H3 => rDPut x y v H3 (D.nx σ) := rfl
theorem dnewT : tDNewT σ H Q = ∀ p, H p = none → Q (.ref p) (upd H p (.dT [])) := rfl
theorem rdgetT {a b : Addr} {kvs : List (List Key × V)} {k : List Key} {v : V} (h : H a = some (.dT kvs)) (hb : H b = some (.tup (k.map kV))) (e : valV kvs k = some v) (q : Q v H) : rDGet (.ref a) (.ref b) H Q := ⟨a, v, rfl, e ▸ DGet.t h hb, q⟩
theorem rdnotT {a b : Addr} {kvs : List (List Key × V)} {k : List Key} (h : H a = some (.dT kvs)) (hb : H b = some (.tup (k.map kV))) (q : Q (.bl (!(valV kvs k).isSome)) H) : rDNot (.ref b) (.ref a) H Q := ⟨a, _, rfl, DGet.t h hb, q⟩
theorem rdputT {a b : Addr} {kvs : List (List Key × V)} {k : List Key} {v : V} {R : Hp → Prop} (h : H a = some (.dT kvs)) (hb : H b = some (.tup (k.map kV))) (hl : kvs.length < sizeLine) (q : R (upd H a (.dT (putK kvs k v)))) : rDPut (.ref a) (.ref b) v H R := ⟨a, _, rfl, DPut.t h hb hl, q⟩
/-! sum -/
theorem rsum {a : Addr} {ns : List Int} (h : H a = some (.lst (ns.map V.int))) (q : Q (.int ns.sum) H) : rSum K [V.ref a] H Q := ⟨a, ns, rfl, SqL.of h, q⟩
/-! targets that are tuples -/
def rTup (K : PySem.W.Frag) (n : Nat) (t : TGs) (σ : L2.St) (v : V) (H : Hp) (R : L2.St → Hp → Prop) : Prop := ∃ a xs, v = .ref a ∧ SqT K H a xs ∧ xs.length = n ∧ t xs σ H R
/-! zip -/
theorem izip {ta : TA} {R : It → Hp → Prop} : iZip K ta σ H R = ta σ H fun vs H1 => ∃ a b xs ys, vs = [.ref a, .ref b] ∧ SqL K H1 a xs ∧ SqL K H1 b ys ∧ R (Itz K a b) H1 := rfl
theorem lcZ {a b Dl : Addr} {xs ys : List V} {g : TG} {tt : TT} {te : TE} {vs : List Nat} (hl : xs.length = ys.length) (Pv : Nat → Hp → Prop) (h0 : Pv 0 (upd H Dl (.lst []))) (hq : ∀ i H, Pv i H → SqL K H a xs ∧ SqL K H b ys)
    (hs : ∀ (i : Nat) (x y : V) (T : Addr) (H : Hp), xs[i]? = some x → ys[i]? = some y → Pv i H → H T = none → g (.ref T) (wipe σ vs) (upd H T (.tup [x, y])) fun σ2 H2 => wipe σ2 vs = wipe σ vs ∧ tt σ2 H2 fun c H3 =>
      if c = true then te σ2 H3 fun z H4 => ∃ acc, H4 Dl = some (.lst acc) ∧ acc.length < sizeLine ∧ Pv (i + 1) (upd H4 Dl (.lst (acc ++ [z]))) else Pv (i + 1) H3)
    (hd : ∀ H, Pv xs.length H → Q (.ref Dl) H) : LC (Itz K a b) g tt te vs σ H Dl Q := by
  refine ⟨fun i m H => m = xs.length - i ∧ i ≤ xs.length ∧ Pv i H, ⟨xs.length, rfl, Nat.zero_le _, h0⟩, ?_⟩
  rintro i m H ⟨rfl, hi, p⟩
  obtain ⟨qx, qy⟩ := hq i H p
  by_cases hlt : i < xs.length
  · have hx : xs[i]? = some xs[i] := List.getElem?_eq_getElem hlt
    have hlt2 : i < ys.length := by omega
    have hy : ys[i]? = some ys[i] := List.getElem?_eq_getElem hlt2
    refine .inr ⟨⟨xs, ys, _, _, qx, qy, hx, hy⟩, Pv (i + 1), fun H' p' => ⟨xs.length - (i + 1), by omega, rfl, hlt, p'⟩, fun v H' y => ?_⟩
    obtain ⟨T, x', y', rfl, hT, rfl, f1, f2⟩ := y
    exact hs i x' y' T H (f1 xs qx) (f2 ys qy) p hT
  · have e : i = xs.length := by omega
    subst e
    exact .inl ⟨⟨xs, ys, qx, qy, Or.inl (Nat.le_refl _)⟩, hd H p⟩
end
section
variable {X : Cx} {K : PySem.W.Frag}
theorem pe_fldK {e : Expr} {f : Str} {pos : Pos} {ta : TE} (h : X.K = K) (he : PE X e ta) (hb : attributeBase e f X.env (eval e X.env) = eval e X.env := by rfl) : PE X (.Attribute e f pos) (tFld K ta f) := h ▸ pe_fld he hb
theorem ps_fldK {o value : Expr} {f : Str} {pos pos' : Pos} {ta tv : TE} (h : X.K = K) (ha : PE X o ta) (hv : PE X value tv) (hs : swapsWith value (some (.Attribute o f pos')) pos.line X.env = pure false := by rfl) : PS X (.Assign [.Attribute o f pos'] value pos) (sFld K ta tv f) := h ▸ ps_fld ha hv hs
theorem cr_sumK (h : X.K = K) (hc : X.calm = true) : CallR X (.builtin "sum") (rSum K) := h ▸ cr_sum hc
theorem pg_tupK {es : List Expr} {k : Nat} {pos : Pos} {t : TGs} {n : Nat} (h : X.K = K) (hc : X.calm = true) (hg : PGs X es t) (hn : (assignEach es X.env).length = n := by rfl) (hst : (assignEach es X.env).findIdx? (·.1) = none := by rfl) : PG X (.Tuple es k pos) (gTup K n t) := h ▸ pg_tup hc hg hn hst
theorem pi_zipK {e e2 : Expr} {ta : TA} {p pos tpos : Pos} {elts : List Expr} {kk : Nat} (h : X.K = K) (hg : Gl X "zip") (hm : X.mg "zip" = none) (ha : PA X [e, e2] ta)
    (hs : starEach [e, e2] X.env = (false, eval e X.env) :: starEach [e2] X.env := by rfl) (hpl : (backTo pos (starEach [e2] X.env)).any (·.1) = false := by rfl) :
    PI X (.Tuple elts kk tpos) (.Call (.Name "zip" p) [e, e2] [] pos) (iZip K ta) := h ▸ pi_zip hg hm ha hs hpl
end
/-- a class with its __init__, as others make instances of it -/
structure DefC (P : Program) (w : World) (K : PySem.W.Frag) (mg : Str → Option Value) (base : Heap) (k : Nat) (x : Str) (C : Addr) (ps : List Str) (sp : Sp) : Prop where
  ex : ∃ f fd, Mk K C f ∧ FnOk P w K mg base CX0 k f fd ps sp ∧ mg x = some (.ref C) ∧ Binds K fd ps []
theorem DefC.call {X : Cx} {k : Nat} {x : Str} {C : Addr} {ps : List Str} {sp : Sp} {e : Expr} {es : List Expr} {t : TA} {p pos : Pos} (G : DefC X.prog X.w X.K X.mg X.base k x C ps sp) (hr : Room (k + 1) X.A) (hg : Gl X x)
    (ha : PA X (e :: es) t) (hdb : (x == ("__debug__" : Str)) = false := by decide) (he : starEach (e :: es) X.env = (false, eval e X.env) :: starEach es X.env := by rfl) (hpl : (backTo pos (starEach es X.env)).any (·.1) = false := by rfl) :
    PE X (.Call (.Name x p) (e :: es) [] pos) (tMake C sp [] (fun _ _ _ => False) t) := by
  refine ⟨fun pins s σ H Q I h => ?_⟩
  obtain ⟨f, fd, M, F, hm, hb⟩ := G.ex
  exact (pe_make M F hr hg hm hb .nil (fun _ _ _ _ _ _ _ h => h.elim) ha hdb he hpl).run pins s σ H Q I h
/-- a method, as others call it -/
structure DefM (P : Program) (w : World) (K : PySem.W.Frag) (mg : Str → Option Value) (base : Heap) (k : Nat) (C : Addr) (m : Str) (ps : List Str) (sp : Sp) : Prop where
  ex : ∃ f fd, Cls K C ∧ Meth K C m f ∧ FnOk P w K mg base CX0 k f fd ps sp ∧ Binds K fd ps []
theorem DefM.call0 {X : Cx} {k : Nat} {C : Addr} {m : Str} {ps : List Str} {sp : Sp} {o : Expr} {ta : TE} {apos pos : Pos} {pl : Sem Bool} (G : DefM X.prog X.w X.K X.mg X.base k C m ps sp) (hr : Room k X.A) (ho : PE X o ta)
    (ht : eval (.Call (.Attribute o m apos) [] [] pos) X.env = (do
      let ov ← eval o X.env
      standAt apos.atName
      let (f, first) ← holding [ov] (getMethod ov m pl)
      callWith pos f first (backTo pos (starEach [] X.env)) (backToKw pos (keywordEach [] X.env))) := by rfl) :
    PE X (.Call (.Attribute o m apos) [] [] pos) (tMeth C m sp [] (fun _ _ _ => False) ta tNil) := by
  refine ⟨fun pins s σ H Q I h => ?_⟩
  obtain ⟨f, fd, c, hm, F, hb⟩ := G.ex
  exact (pe_meth0 ho c hm F hr hb .nil (fun _ _ _ _ _ _ _ h => h.elim) ht).run pins s σ H Q I h
section
variable {K : PySem.W.Frag} {σ : L2.St} {H : Hp} {Q : VK} {te : TE} {vs : List Nat}
/-- a comprehension over a list of known things, its element only looks -/
theorem lcM {α : Type} {a Dl : Addr} {j : Nat} (zs : List α) (u f : α → V) (h : H a = some (.lst (zs.map u))) (hD : H Dl = none) (hz : zs.length ≤ 100000) (hw : ∀ x, wipe ((wipe σ vs).set j (some x)) vs = wipe σ vs)
    (he : ∀ z, z ∈ zs → ∀ (l : List V) (R : VK), R (f z) (upd H Dl (.lst l)) → te ((wipe σ vs).set j (some (u z))) (upd H Dl (.lst l)) R)
    (q : Q (.ref Dl) (upd H Dl (.lst (zs.map f)))) : LC (Itl K a) (gName j) tYes te vs σ H Dl Q := by
  have hne : a ≠ Dl := ne_of_none h hD
  refine lc_list (xs := zs.map u) (fun i H' => H' = upd H Dl (.lst ((zs.take i).map f))) rfl (fun i H' hi e => by rw [e]; exact SqL.of (u_ne hne h)) (fun i x H' hx e => ?_) (fun H' e => ?_)
  · subst e
    rw [List.getElem?_map] at hx
    cases e : zs[i]? with
    | none => rw [e] at hx; cases hx
    | some z =>
      rw [e] at hx
      cases hx
      have et : zs.take (i + 1) = zs.take i ++ [z] := by rw [List.take_succ, e]; rfl
      refine ⟨hw _, ?_⟩
      show te _ _ _
      refine he z (List.mem_of_getElem? e) _ _ ⟨_, upd_same, ?_, ?_⟩
      · rw [List.length_map, List.length_take]
        exact Nat.lt_of_le_of_lt (Nat.le_trans (Nat.min_le_right _ _) hz) (by decide)
      · rw [upd_upd, et, List.map_append]
        rfl
  · subst e
    rw [List.length_map, List.take_length]
    exact q
end
end Wp
/-! Wp5: own operators (+ and ==) of two instances of one class, a static method, a property, isinstance of an own class. -/
namespace Wp
open PySem L2 PyProof.Rows ClX
section
variable {X : Cx} {CX : CXT} {n : Nat} {C f : Addr} {fd : FuncData} {ps : List Str} {sp : Sp} {E : XK}
theorem back_of {pins : List (Addr × Obj)} {σ : L2.St} {Q : VK} {v : Value} {s : Shared} (h : EP X pins σ Q v s) : PySem.W.CmpBack (EP X pins σ Q) v s := by
  obtain ⟨z, H', I', rz, q⟩ := h
  have h0 : EP X pins σ Q v s := ⟨z, H', I', rz, q⟩
  cases z with
  | non => cases (show v = Value.none from rz); exact h0
  | bl a => cases (show v = Value.bool a from rz); exact h0
  | int i => obtain ⟨t, e⟩ := (show ∃ t, v = Value.int i t from rz); cases e; exact h0
  | str i => obtain ⟨t, e⟩ := (show ∃ t, v = Value.str i t from rz); cases e; exact h0
  | byt i => obtain ⟨t, e⟩ := (show ∃ t, v = Value.bytes i t from rz); cases e; exact h0
  | flt i => obtain ⟨t, e⟩ := (show ∃ t, v = Value.float i t from rz); cases e; exact h0
  | ref a => cases (show v = Value.ref a from rz); exact h0
  | ty m => cases (show v = Value.type m from rz); exact h0
/-- an own operator's def, at two instances of the class at C -/
def rOwn (C : Addr) (sp : Sp) (E : XK) : R2 := fun x y H Q => ∃ a dx fs b dy gs, x = .ref a ∧ y = .ref b ∧ H a = some (.ins C dx fs) ∧ H b = some (.ins C dy gs) ∧ sp [.ref a, .ref b] H Q E
theorem op_own {op : Operator} (F : FnOk X.prog X.w X.K X.mg X.base CX n f fd ps sp) (hc : PySem.W.selfFirst X.K C = true) (hs : PySem.W.findIn X.K (.ref C) (PySem.dunder op.info.2) = some (some (.ref f))) (hf : PySem.W.isFn X.K (.ref f) = true)
    (hb : Binds X.K fd ps []) (hx : Passes CX X E) (hr : Room n X.A) : OpR X (binaryOp op) (rOwn C sp E) := by
  intro pins s σ H x y v u Q I rx ry hq
  obtain ⟨a, dx, fs, b, dy, gs, rfl, rfl, ha, hb', hsp⟩ := hq
  cases rx
  cases ry
  obtain ⟨mA, J, _⟩ := ins_get I.hok ha
  obtain ⟨mB, J', _⟩ := ins_get I.hok hb'
  obtain ⟨od, J, _⟩ := J.look
  obtain ⟨od', J', _⟩ := J'.look
  obtain ⟨m, hF⟩ := I.fr
  refine PySem.W.binop_K hF I.ok.mod.kin J J'.type hc hs hf ?_
  have r2 : Vals [V.ref a, V.ref b] [Value.ref a, Value.ref b] := .cons rfl (.cons rfl .nil)
  exact wpAny_mono (run_fn F hr hb .nil hx I r2 (by rw [List.append_nil]; exact hsp)) (fun v s' q => back_of q) fun _ _ x => x
theorem op_ownEq (F : FnOk X.prog X.w X.K X.mg X.base CX n f fd ps sp) (hs : PySem.W.findIn X.K (.ref C) "__eq__" = some (some (.ref f))) (hf : PySem.W.isFn X.K (.ref f) = true)
    (hb : Binds X.K fd ps []) (hx : Passes CX X E) (hr : Room n X.A) : OpR X (compareOp .Eq) (rOwn C sp E) := by
  intro pins s σ H x y v u Q I rx ry hq
  obtain ⟨a, dx, fs, b, dy, gs, rfl, rfl, ha, hb', hsp⟩ := hq
  cases rx
  cases ry
  obtain ⟨mA, J, _⟩ := ins_get I.hok ha
  obtain ⟨mB, J', _⟩ := ins_get I.hok hb'
  obtain ⟨od, J, _⟩ := J.look
  obtain ⟨od', J', _⟩ := J'.look
  obtain ⟨m, hF⟩ := I.fr
  show wpAny (model X.prog X.w) X.A (richCompare .Eq (.ref a) (.ref b)) (EP X pins σ Q) X.xe s
  refine PySem.W.cmp_K (op := .Eq) (tb := .ref C) hr.units0 hF I.ok.mod.kin J J'.type (by simp [PySem.W.notFirst]) hs hf ?_
  have r2 : Vals [V.ref a, V.ref b] [Value.ref a, Value.ref b] := .cons rfl (.cons rfl .nil)
  exact wpAny_mono (run_fn F hr hb .nil hx I r2 (by rw [List.append_nil]; exact hsp)) (fun v s' q => back_of q) fun _ _ x => x
/-- C.m is a static method: its record at p, its def at f -/
structure SMet (K : PySem.W.Frag) (C : Addr) (mc : Value) (m : Str) (p f : Addr) : Prop where
  at_ : PySem.W.findCls K (.ref C) mc m = some (.get (.builtin "staticmethod.__get__") (.ref p) .none (.ref C))
  rc : ∃ rest, PySem.W.recIn K p "staticmethod" = some (.ref f :: rest)
  kp : PySem.W.keepIn K (.ref f) = true
def tStat (C : Addr) (sp : Sp) (E : XK) (ta : TE) : TE := fun σ H Q => ta σ H fun x H1 => x = .ref C ∧ sp [] H1 Q E
theorem pe_stat0 {o : Expr} {ta : TE} {m : Str} {apos pos : Pos} {mc : Value} {p : Addr} {pl : Sem Bool} (he : PE X o ta) (r : CRead X.K C mc) (c : SMet X.K C mc m p f) (F : FnOk X.prog X.w X.K X.mg X.base CX n f fd ps sp) (hr : Room n X.A) (hb : Binds X.K fd ps []) (hx : Passes CX X E)
    (ht : eval (.Call (.Attribute o m apos) [] [] pos) X.env = (do
      let ov ← eval o X.env
      standAt apos.atName
      let (f, first) ← holding [ov] (getMethod ov m pl)
      callWith pos f first (backTo pos (starEach [] X.env)) (backToKw pos (keywordEach [] X.env))) := by rfl) :
    PE X (.Call (.Attribute o m apos) [] [] pos) (tStat C sp E ta) := by
  refine ⟨fun pins s σ H Q I h => ?_⟩
  refine PySem.W.methodCall_KW (pl := pl) (thn (he.run pins s σ H _ I h) fun u s1 ⟨x, H1, I1, rx, ex, q⟩ => ?_) ht
  subst ex
  obtain rfl : u = Value.ref C := rx
  obtain ⟨rest, hp⟩ := c.rc
  refine PySem.W.method_cls I1.kIn r.ga ?_
  refine PySem.W.cls_bind I1.kIn r.rd c.at_ ?_
  refine wpAny_call (PySem.W.sm_get (s := { s1 with toks := s1.toks + 1 }) I1.kIn hp (PySem.W.handed_on rfl ?_))
  have I2 := I1.tok (s1.toks + 1)
  exact PySem.W.callWith_K0 (first := []) I2.kIn c.kp (run_fn (us := []) F hr hb .nil hx I2 .nil q)
/-- own == at an instance and anything whose type is known -/
def rOwnX (K : PySem.W.Frag) (C : Addr) (sp : Sp) (E : XK) : R2 := fun x y H Q => ∃ a dx fs t, x = .ref a ∧ H a = some (.ins C dx fs) ∧ TyX K H y t ∧ PySem.W.notFirst K C t = true ∧ sp [.ref a, y] H Q E
theorem op_ownEqX {K : PySem.W.Frag} (hK : X.K = K) (F : FnOk X.prog X.w X.K X.mg X.base CX n f fd ps sp) (hs : PySem.W.findIn X.K (.ref C) "__eq__" = some (some (.ref f))) (hf : PySem.W.isFn X.K (.ref f) = true)
    (hb : Binds X.K fd ps []) (hx : Passes CX X E) (hr : Room n X.A) : OpR X (compareOp .Eq) (rOwnX K C sp E) := by
  subst hK
  intro pins s σ H x y v u Q I rx ry hq
  obtain ⟨a, dx, fs, t, rfl, ha, ty, hn, hsp⟩ := hq
  cases rx
  obtain ⟨mA, J, _⟩ := ins_get I.hok ha
  obtain ⟨od, J, _⟩ := J.look
  obtain ⟨m, hF⟩ := I.fr
  obtain ⟨P, Z, p, _⟩ := kit_of I ry ty
  show wpAny (model X.prog X.w) X.A (richCompare .Eq (.ref a) u) (EP X pins σ Q) X.xe s
  refine PySem.W.cmp_K (op := .Eq) (tb := t) hr.units0 hF I.ok.mod.kin J (Z.ty _ _ I.kIn p) hn hs hf ?_
  have r2 : Vals [V.ref a, y] [Value.ref a, u] := .cons rfl (.cons ry .nil)
  exact wpAny_mono (run_fn F hr hb .nil hx I r2 (by rw [List.append_nil]; exact hsp)) (fun v s' q => back_of q) fun _ _ x => x
end
/-- an own operator, as others use it -/
structure DefO (P : Program) (w : World) (K : PySem.W.Frag) (mg : Str → Option Value) (base : Heap) (k : Nat) (C : Addr) (m : Str) (ps : List Str) (sp : Sp) : Prop where
  ex : ∃ f fd, FnOk P w K mg base CX0 k f fd ps sp ∧ PySem.W.selfFirst K C = true ∧ PySem.W.findIn K (.ref C) m = some (some (.ref f)) ∧ PySem.W.isFn K (.ref f) = true ∧ Binds K fd ps []
section
variable {X : Cx} {k : Nat} {C : Addr} {m : Str} {ps : List Str} {sp : Sp}
theorem DefO.bin (op : Operator) (G : DefO X.prog X.w X.K X.mg X.base k C m ps sp) (hr : Room k X.A) (hm : PySem.dunder op.info.2 = m := by rfl) : OpR X (binaryOp op) (rOwn C sp (fun _ _ _ => False)) := by
  subst hm
  obtain ⟨f, fd, F, hc, hs, hf, hb⟩ := G.ex
  exact op_own F hc hs hf hb (fun _ _ _ _ _ _ _ h => h.elim) hr
theorem DefO.eq {K : PySem.W.Frag} (hK : X.K = K) (G : DefO X.prog X.w X.K X.mg X.base k C "__eq__" ps sp) (hr : Room k X.A) : OpR X (compareOp .Eq) (rOwnX K C sp (fun _ _ _ => False)) := by
  obtain ⟨f, fd, F, hc, hs, hf, hb⟩ := G.ex
  exact op_ownEqX hK F hs hf hb (fun _ _ _ _ _ _ _ h => h.elim) hr
end
/-- a static method, as others call it -/
structure DefS (P : Program) (w : World) (K : PySem.W.Frag) (mg : Str → Option Value) (base : Heap) (k : Nat) (C : Addr) (m : Str) (sp : Sp) : Prop where
  ex : ∃ mc p f fd, CRead K C mc ∧ SMet K C mc m p f ∧ FnOk P w K mg base CX0 k f fd [] sp ∧ Binds K fd [] []
theorem DefS.call0 {X : Cx} {k : Nat} {C : Addr} {m : Str} {sp : Sp} {o : Expr} {ta : TE} {apos pos : Pos} {pl : Sem Bool} (G : DefS X.prog X.w X.K X.mg X.base k C m sp) (hr : Room k X.A) (ho : PE X o ta)
    (ht : eval (.Call (.Attribute o m apos) [] [] pos) X.env = (do
      let ov ← eval o X.env
      standAt apos.atName
      let (f, first) ← holding [ov] (getMethod ov m pl)
      callWith pos f first (backTo pos (starEach [] X.env)) (backToKw pos (keywordEach [] X.env))) := by rfl) :
    PE X (.Call (.Attribute o m apos) [] [] pos) (tStat C sp (fun _ _ _ => False) ta) := by
  obtain ⟨mc, p, f, fd, r, c, F, hb⟩ := G.ex
  exact pe_stat0 ho r c F hr hb (fun _ _ _ _ _ _ _ h => h.elim) ht
/-- a property, as others read it -/
structure DefP (P : Program) (w : World) (K : PySem.W.Frag) (mg : Str → Option Value) (base : Heap) (k : Nat) (C : Addr) (m : Str) (ps : List Str) (sp : Sp) : Prop where
  ex : ∃ p f fd, Cls K C ∧ PropOf K C m p f ∧ FnOk P w K mg base CX0 k f fd ps sp ∧ Binds K fd ps []
theorem DefP.get {X : Cx} {k : Nat} {C : Addr} {m : Str} {ps : List Str} {sp : Sp} {o : Expr} {ta : TE} {pos : Pos} (G : DefP X.prog X.w X.K X.mg X.base k C m ps sp) (hr : Room (k + 1) X.A) (ho : PE X o ta)
    (hab : attributeBase o m X.env (eval o X.env) = eval o X.env := by rfl) : PE X (.Attribute o m pos) (tProp C sp [] (fun _ _ _ => False) ta) := by
  obtain ⟨p, f, fd, c, hp, F, hb⟩ := G.ex
  exact pe_prop ho c hp F hr hb .nil (fun _ _ _ _ _ _ _ h => h.elim) hab
section
variable {σ : L2.St} {H : Hp} {Q : VK}
def rStat (C : Addr) (sp : Sp) (E : XK) (x : V) (H : Hp) (Q : VK) : Prop := x = .ref C ∧ sp [] H Q E
theorem stat {C : Addr} {sp : Sp} {E : XK} {ta : TE} : tStat C sp E ta σ H Q = ta σ H fun x H1 => rStat C sp E x H1 Q := rfl
theorem rstat {C : Addr} {sp : Sp} {E : XK} : rStat C sp E (.ref C) H Q = sp [] H Q E := propext ⟨fun q => q.2, fun q => ⟨rfl, q⟩⟩
def rProp (C : Addr) (sp : Sp) (E : XK) (x : V) (H1 : Hp) (Q : VK) : Prop := ∃ a dx fs, x = .ref a ∧ H1 a = some (.ins C dx fs) ∧ sp [.ref a] H1 Q E
theorem prop {C : Addr} {sp : Sp} {E : XK} {ta : TE} : tProp C sp [] E ta σ H Q = ta σ H fun x H1 => rProp C sp E x H1 Q := rfl
end
theorem op_eqDK {X : Cx} {K : PySem.W.Frag} (h : X.K = K) (hu : X.A.units + 64 < cLine) : OpR X (compareOp .Eq) (rEqD K) := h ▸ op_eqD hu
end Wp
set_option maxHeartbeats 4000000
local macro_rules | `(tactic| walk_at "wp") => `(tactic| simp only [↓Wp.fld, ↓Wp.sfld, ↓Wp.make, ↓Wp.meth, ↓Wp.dget, ↓Wp.dnot, ↓Wp.din, ↓Wp.dput, ↓Wp.dnewT, ↓Wp.izip, ↓Wp.seq, ↓Wp.next, ↓Wp.asg, ↓Wp.gn, ↓Wp.gsub, ↓Wp.ret, ↓Wp.drop, ↓Wp.ifs, ↓Wp.brk, ↓Wp.cont, ↓Wp.op, ↓Wp.un, ↓Wp.cb, ↓Wp.call, ↓Wp.nil, ↓Wp.cons, ↓Wp.c, ↓Wp.ifx, ↓Wp.lst, ↓Wp.tup, ↓Wp.test, ↓Wp.tb, ↓Wp.tnot, ↓Wp.tand, ↓Wp.tor, ↓Wp.tandv, ↓Wp.torv, ↓Wp.tnotv, ↓Wp.chain, ↓Wp.bx, ↓Wp.i0, ↓Wp.i1, ↓Wp.u1, ↓Wp.eqi, ↓Wp.nei, ↓Wp.cabs, ↓Wp.cmax, ↓Wp.cmin, ↓Wp.cinti, ↓Wp.cintb, ↓Wp.isv_ii, ↓Wp.isv_ib, ↓Wp.for_, ↓Wp.lc_, ↓Wp.ilist, ↓Wp.itup, ↓Wp.irng1, ↓Wp.irng2, ↓Wp.rr1, ↓Wp.rr2, ↓Wp.tyes, ↓Wp.RunC, ↓Wp.RunL, ↓Wp.v0, ↓Wp.v1, ↓Wp.v2, ↓Wp.v3, ↓Wp.v4, ↓Wp.v5, ↓Wp.v6, ↓Wp.v7, ↓Wp.v8, ↓Wp.v9, ↓Wp.v10, ↓Wp.v11, ↓Wp.v12, ↓Wp.v13, ↓Wp.v14, ↓Wp.v15, ↓Wp.v16, ↓Wp.v17, ↓Wp.v18, ↓Wp.v19, ↓Wp.v20, ↓Wp.v21, ↓Wp.v22, ↓Wp.v23, ↓Wp.s0, ↓Wp.s1, ↓Wp.s2, ↓Wp.s3, ↓Wp.s4, ↓Wp.s5, ↓Wp.s6, ↓Wp.s7, ↓Wp.s8, ↓Wp.s9, ↓Wp.s10, ↓Wp.s11, ↓Wp.s12, ↓Wp.s13, ↓Wp.s14, ↓Wp.s15, ↓Wp.s16, ↓Wp.s17, ↓Wp.s18, ↓Wp.s19, ↓Wp.s20, ↓Wp.s21, ↓Wp.s22, ↓Wp.s23, ↓Wp.addi, ↓Wp.eqs, ↓Wp.nes, ↓Wp.isn, ↓Wp.notn, ↓Wp.ist, ↓Wp.tru, ↓Wp.tru_b, ↓Wp.sl, ↓Wp.nopart, ↓Wp.part, ↓Wp.rpart, ↓Wp.bm, ↓Wp.bm0, ↓Wp.aug, ↓Wp.ipi, ↓Wp.mko, ↓Wp.ost, ↓Wp.xf, ↓Wp.callS, Wp.n_i, Wp.n_s, Wp.n_b, Wp.n_r, Wp.n_n, Wp.t_i, Wp.t_s, Wp.t_n, Wp.t_r, Wp.t_b, List.append_nil, Int.zero_add, List.map_cons, List.map_nil, L2.wipe, List.foldl_cons, List.foldl_nil, List.cons_append, List.nil_append, L2.upd_upd, eq_self, decide_eq_true_eq, Bool.not_eq_true', decide_eq_false_iff_not, if_true, if_false, ite_true, ite_false, Bool.false_eq_true, Bool.true_eq_false, Bool.not_true, Bool.not_false, decide_true, decide_false, ↓reduceIte, Int.reduceToNat, Int.reducePow, Int.reduceMul, Int.reduceAdd, Int.reduceSub, Int.reduceNeg, Int.reduceDiv, Int.reduceMod, Int.reduceLT, Int.reduceLE, Int.reduceEq])
local macro_rules | `(tactic| walk_at "hp") => `(tactic| first | assumption | exact Wp.SS.at (i := 0) (by assumption) (by exact rfl) | exact Wp.SS.at (i := 1) (by assumption) (by exact rfl) | exact Wp.SS.at (i := 2) (by assumption) (by exact rfl) | exact Wp.SS.at (i := 3) (by assumption) (by exact rfl) | exact Wp.SS.at (i := 4) (by assumption) (by exact rfl) | exact Wp.SS.at (i := 5) (by assumption) (by exact rfl) | exact Wp.SS.at (i := 6) (by assumption) (by exact rfl) | exact Wp.SS.at (i := 7) (by assumption) (by exact rfl) | exact Wp.SS.at (i := 8) (by assumption) (by exact rfl) | exact Wp.SS.at (i := 9) (by assumption) (by exact rfl) | exact Wp.KK.at (i := 0) (by assumption) (by exact rfl) | exact Wp.KK.at (i := 1) (by assumption) (by exact rfl) | exact Wp.KK.at (i := 2) (by assumption) (by exact rfl) | exact Wp.KK.at (i := 3) (by assumption) (by exact rfl) | exact Wp.KK.at (i := 4) (by assumption) (by exact rfl) | exact Wp.KK.at (i := 5) (by assumption) (by exact rfl) | exact Wp.KK.at (i := 6) (by assumption) (by exact rfl) | exact Wp.KK.at (i := 7) (by assumption) (by exact rfl) | exact Wp.KK.at (i := 8) (by assumption) (by exact rfl) | exact Wp.KK.at (i := 9) (by assumption) (by exact rfl) | exact Wp.KK.at (i := 10) (by assumption) (by exact rfl) | exact Wp.KK.at (i := 11) (by assumption) (by exact rfl) | exact Wp.KK.at (i := 12) (by assumption) (by exact rfl) | exact Wp.KK.at (i := 13) (by assumption) (by exact rfl) | exact Wp.KK.at (i := 14) (by assumption) (by exact rfl) | exact Wp.KK.at (i := 15) (by assumption) (by exact rfl) | exact Wp.KK.at (i := 16) (by assumption) (by exact rfl) | exact Wp.KK.at (i := 17) (by assumption) (by exact rfl) | exact L2.upd_same | (refine Wp.u_ne ?_ ?_ <;> walk_at "hp") | exact L2.ne_of_none (by assumption) (by assumption) | exact (L2.ne_of_none (by assumption) (by assumption)).symm)
local macro_rules | `(tactic| walk_at "sz") => `(tactic| first | assumption | (simp only [List.length_cons, List.length_nil, List.length_map, List.length_append]; decide) | exact Wp.sz_lt (by simp only [List.length_cons, List.length_nil, List.length_map, List.length_append]; omega))
local macro_rules | `(tactic| walk_at "rd") => `(tactic| first | ((with_reducible refine' Wp.rsum ?h1 ?h3); (case h1 => walk_at "hp")) | ((with_reducible refine' Wp.ixal ?h1 ?h2 ?h3); (case h1 => walk_at "hp"); (case h2 => exact rfl)) | ((with_reducible refine' Wp.ixat ?h1 ?h2 ?h3); (case h1 => walk_at "hp"); (case h2 => exact rfl)) | ((with_reducible refine' Wp.ixl ?h1 ?h2 ?h3); (case h1 => walk_at "hp"); (case h2 => exact rfl)) | ((with_reducible refine' Wp.setl (j := 0) ?h1 ?h2 ?h3); (case h1 => walk_at "hp"); (case h2 => exact rfl)) | ((with_reducible refine' Wp.setl (j := 1) ?h1 ?h2 ?h3); (case h1 => walk_at "hp"); (case h2 => exact rfl)) | ((with_reducible refine' Wp.setl (j := 2) ?h1 ?h2 ?h3); (case h1 => walk_at "hp"); (case h2 => exact rfl)) | ((with_reducible refine' Wp.setl (j := 3) ?h1 ?h2 ?h3); (case h1 => walk_at "hp"); (case h2 => exact rfl)) | ((with_reducible refine' Wp.setl (j := 4) ?h1 ?h2 ?h3); (case h1 => walk_at "hp"); (case h2 => exact rfl)) | ((with_reducible refine' Wp.setl (j := 5) ?h1 ?h2 ?h3); (case h1 => walk_at "hp"); (case h2 => exact rfl)) | ((with_reducible refine' Wp.lenl ?h1 ?h3); (case h1 => walk_at "hp")) | ((with_reducible refine' Wp.lent ?h1 ?h3); (case h1 => walk_at "hp")) | ((with_reducible refine' Wp.ril ?h1 ?h3); (case h1 => walk_at "hp")) | ((with_reducible refine' Wp.rit ?h1 ?h3); (case h1 => walk_at "hp")) | ((with_reducible refine' Wp.tru_l ?h1 ?h3); (case h1 => walk_at "hp")) | ((with_reducible refine' Wp.mtl ?h1 ?h3); (case h1 => walk_at "hp")) | ((with_reducible refine' Wp.sll ?h1 ?h3); (case h1 => walk_at "hp")) | ((with_reducible refine' Wp.apd ?h1 ?h2 ?h3); (case h1 => walk_at "hp"); (case h2 => walk_at "sz")) | (with_reducible refine' Wp.isi_i (T := "int") Wp.kb_int_int ?h3) | (with_reducible refine' Wp.isi_i (T := "str") Wp.kb_int_str ?h3) | (with_reducible refine' Wp.isi_i (T := "bool") Wp.kb_int_bool ?h3) | (with_reducible refine' Wp.isi_i (T := "list") Wp.kb_int_list ?h3) | (with_reducible refine' Wp.isi_i (T := "tuple") Wp.kb_int_tuple ?h3) | (with_reducible refine' Wp.isi_s (T := "int") Wp.kb_str_int ?h3) | (with_reducible refine' Wp.isi_s (T := "str") Wp.kb_str_str ?h3) | (with_reducible refine' Wp.isi_s (T := "bool") Wp.kb_str_bool ?h3) | (with_reducible refine' Wp.isi_s (T := "list") Wp.kb_str_list ?h3) | (with_reducible refine' Wp.isi_s (T := "tuple") Wp.kb_str_tuple ?h3) | (with_reducible refine' Wp.isi_b (T := "int") Wp.kb_bool_int ?h3) | (with_reducible refine' Wp.isi_b (T := "str") Wp.kb_bool_str ?h3) | (with_reducible refine' Wp.isi_b (T := "bool") Wp.kb_bool_bool ?h3) | (with_reducible refine' Wp.isi_b (T := "list") Wp.kb_bool_list ?h3) | (with_reducible refine' Wp.isi_b (T := "tuple") Wp.kb_bool_tuple ?h3) | (with_reducible refine' Wp.isi_n (T := "int") Wp.kb_NoneType_int ?h3) | (with_reducible refine' Wp.isi_n (T := "str") Wp.kb_NoneType_str ?h3) | (with_reducible refine' Wp.isi_n (T := "bool") Wp.kb_NoneType_bool ?h3) | (with_reducible refine' Wp.isi_n (T := "list") Wp.kb_NoneType_list ?h3) | (with_reducible refine' Wp.isi_n (T := "tuple") Wp.kb_NoneType_tuple ?h3) | ((with_reducible refine' Wp.isi_l (T := "int") ?h1 Wp.kb_list_int ?h3); (case h1 => walk_at "hp")) | ((with_reducible refine' Wp.isi_l (T := "str") ?h1 Wp.kb_list_str ?h3); (case h1 => walk_at "hp")) | ((with_reducible refine' Wp.isi_l (T := "bool") ?h1 Wp.kb_list_bool ?h3); (case h1 => walk_at "hp")) | ((with_reducible refine' Wp.isi_l (T := "list") ?h1 Wp.kb_list_list ?h3); (case h1 => walk_at "hp")) | ((with_reducible refine' Wp.isi_l (T := "tuple") ?h1 Wp.kb_list_tuple ?h3); (case h1 => walk_at "hp")) | ((with_reducible refine' Wp.isi_t (T := "int") ?h1 Wp.kb_tuple_int ?h3); (case h1 => walk_at "hp")) | ((with_reducible refine' Wp.isi_t (T := "str") ?h1 Wp.kb_tuple_str ?h3); (case h1 => walk_at "hp")) | ((with_reducible refine' Wp.isi_t (T := "bool") ?h1 Wp.kb_tuple_bool ?h3); (case h1 => walk_at "hp")) | ((with_reducible refine' Wp.isi_t (T := "list") ?h1 Wp.kb_tuple_list ?h3); (case h1 => walk_at "hp")) | ((with_reducible refine' Wp.isi_t (T := "tuple") ?h1 Wp.kb_tuple_tuple ?h3); (case h1 => walk_at "hp")))
local macro_rules | `(tactic| walk_at "sc") => `(tactic| first | assumption | decide | exact ⟨by decide, by decide, by decide⟩ | exact Or.inr ⟨by decide, by decide⟩ | exact Or.inl ⟨by decide, by decide⟩ | (simp only [List.length_cons, List.length_nil]; decide) | exact L2.SqL.of (by walk_at "hp") | exact Wp.cmm (by decide) (by decide) (by decide) (by decide) | exact Wp.dvs (by decide) (by decide))
local macro_rules | `(tactic| walk_at "go") => `(tactic| repeat (first | walk_at "wp" | walk_at "rd" | (refine And.intro (by walk_at "sc") ?_) | (refine Exists.intro _ (And.intro (by walk_at "hp") (And.intro (by walk_at "sc") ?_)))))
local macro_rules | `(tactic| walk_at "gi") => `(tactic| repeat (first | walk_at "wp" | walk_at "rd" | (refine And.intro (by walk_at "sc") ?_) | (refine Exists.intro _ (And.intro (by walk_at "hp") (And.intro (by walk_at "sc") ?_))) | (refine Wp.ite_t (by first | assumption | omega | decide +kernel) ?_) | (refine Wp.ite_f (by first | assumption | omega | decide +kernel) ?_)))
namespace K19
open PySem L2 Wp
def top (i : Nat) : Stmt := PySem.Challenge.pw_galleywork_k19_glue_sums.main.body.getD i (.Pass ⟨0, 0, 0, 0⟩)
abbrev s_law_pool : Stmt := top 3
abbrev s_law_draw : Stmt := top 4
abbrev s_law_pick : Stmt := top 5
abbrev s_law_same : Stmt := top 6
abbrev s_law_any_number : Stmt := top 7
abbrev s_law_plus : Stmt := top 8
abbrev s_law_tells : Stmt := top 9
abbrev s_law_like : Stmt := top 10
abbrev s_law_sum : Stmt := top 11
abbrev s_law_pairs : Stmt := top 12
abbrev s_law_alone : Stmt := top 13
abbrev s_law : Stmt := top 14
theorem sc_law_pool : FnScope ["script"] ["script"] (defScope s_law_pool) := ⟨rfl, rfl, rfl, by decide +kernel, rfl, by decide +kernel, by decide +kernel⟩
theorem sc_law_draw : FnScope ["pool", "many", "cell", "got", "one"] ["pool", "many"] (defScope s_law_draw) := ⟨rfl, rfl, rfl, by decide +kernel, rfl, by decide +kernel, by decide +kernel⟩
theorem sc_law_pick : FnScope ["pool", "row"] ["pool", "row"] (defScope s_law_pick) := ⟨rfl, rfl, rfl, by decide +kernel, rfl, by decide +kernel, by decide +kernel⟩
theorem sc_law_same : FnScope ["got", "due", "k"] ["got", "due"] (defScope s_law_same) := ⟨rfl, rfl, rfl, by decide +kernel, rfl, by decide +kernel, by decide +kernel⟩
theorem sc_law_any_number : FnScope ["pool", "ahead", "way"] ["pool", "ahead"] (defScope s_law_any_number) := ⟨rfl, rfl, rfl, by decide +kernel, rfl, by decide +kernel, by decide +kernel⟩
theorem sc_law_plus : FnScope ["one", "two"] ["one", "two"] (defScope s_law_plus) := ⟨rfl, rfl, rfl, by decide +kernel, rfl, by decide +kernel, by decide +kernel⟩
theorem sc_law_tells : FnScope ["glue", "row"] ["glue", "row"] (defScope s_law_tells) := ⟨rfl, rfl, rfl, by decide +kernel, rfl, by decide +kernel, by decide +kernel⟩
theorem sc_law_like : FnScope ["glue", "row", "near", "turned", "thing"] ["glue", "row"] (defScope s_law_like) := ⟨rfl, rfl, rfl, by decide +kernel, rfl, by decide +kernel, by decide +kernel⟩
theorem sc_law_sum : FnScope ["glues", "way", "found", "k", "many", "n"] ["glues", "way"] (defScope s_law_sum) := ⟨rfl, rfl, rfl, by decide +kernel, rfl, by decide +kernel, by decide +kernel⟩
theorem sc_law_pairs : FnScope ["glues", "rows", "k", "n", "both", "due", "m", "three"] ["glues", "rows"] (defScope s_law_pairs) := ⟨rfl, rfl, rfl, by decide +kernel, rfl, by decide +kernel, by decide +kernel⟩
theorem sc_law_alone : FnScope ["glues", "rows", "zero", "k"] ["glues", "rows"] (defScope s_law_alone) := ⟨rfl, rfl, rfl, by decide +kernel, rfl, by decide +kernel, by decide +kernel⟩
theorem sc_law : FnScope ["script", "pool", "rows", "row", "k", "turns", "glues", "one", "due", "sums", "way", "long", "turn"] ["script"] (defScope s_law) := ⟨rfl, rfl, rfl, by decide +kernel, rfl, by decide +kernel, by decide +kernel⟩
structure Txt (mg : Str → Option Value) : Prop where
  n_abs : mg "abs" = none
  n_bool : mg "bool" = none
  n_int : mg "int" = none
  n_isinstance : mg "isinstance" = none
  n_len : mg "len" = none
  n_list : mg "list" = none
  n_min : mg "min" = none
  n_range : mg "range" = none
  n_str : mg "str" = none
  n_tuple : mg "tuple" = none
abbrev s_ginit : Stmt := inClass (top 1) 0
theorem sc_ginit : FnScope ["self", "natural", "stretch", "shrink"] ["self", "natural", "stretch", "shrink"] (defScope s_ginit) := ⟨rfl, rfl, rfl, by decide +kernel, rfl, by decide +kernel, by decide +kernel⟩
abbrev s_gzero : Stmt := inClass (top 1) 1
theorem sc_gzero : FnScope [] [] (defScope s_gzero) := ⟨rfl, rfl, rfl, by decide +kernel, rfl, by decide +kernel, by decide +kernel⟩
abbrev s_gadd : Stmt := inClass (top 1) 2
theorem sc_gadd : FnScope ["self", "other"] ["self", "other"] (defScope s_gadd) := ⟨rfl, rfl, rfl, by decide +kernel, rfl, by decide +kernel, by decide +kernel⟩
abbrev s_geq : Stmt := inClass (top 1) 3
theorem sc_geq : FnScope ["self", "other"] ["self", "other"] (defScope s_geq) := ⟨rfl, rfl, rfl, by decide +kernel, rfl, by decide +kernel, by decide +kernel⟩
abbrev s_gleast : Stmt := inClass (top 1) 4
theorem sc_gleast : FnScope ["self"] ["self"] (defScope s_gleast) := ⟨rfl, rfl, rfl, by decide +kernel, rfl, by decide +kernel, by decide +kernel⟩
abbrev s_plain : Stmt := inClass (top 1) 5
theorem sc_plain : FnScope ["self"] ["self"] (defScope s_plain) := ⟨rfl, rfl, rfl, by decide +kernel, rfl, by decide +kernel, by decide +kernel⟩
structure Oth (K : PySem.W.Frag) (C : Addr) (T : String) : Prop where
  k : PySem.W.kitOne K (.type T) (.ref C) = some false
  n : PySem.W.subIn K (.type T) (.ref C) = some false
structure GlT (K : PySem.W.Frag) (mg : Str → Option Value) (C : Addr) : Prop where
  cl : Cls K C
  nN : NoAttr K C "natural"
  nS : NoAttr K C "stretch"
  nK : NoAttr K C "shrink"
  mgC : mg "Glue" = some (.ref C)
  ha : PySem.W.findIn K (.ref C) "__class__" = some (some (.builtin "object.__class__"))
  hn : PySem.W.specialIn K (.builtin "object.__class__") "__get__" = some (some (.builtin "getset_descriptor.__get__"))
  htk : PySem.W.takesIn K (.builtin "object.__class__") = some true
  hm : PySem.W.mroIn K C (.type "object") = some true
  me : PySem.W.kitOne K (.ref C) (.ref C) = some true
  o1 : Oth K C "int"
  o2 : Oth K C "str"
  o3 : Oth K C "bool"
  o4 : Oth K C "NoneType"
  o5 : Oth K C "list"
  o6 : Oth K C "tuple"
  o7 : Oth K C "dict"
abbrev Row := Int × Int × Int
def gf (r : Row) : List (Str × V) := putF "shrink" (.int r.2.2) (putF "stretch" (.int r.2.1) (putF "natural" (.int r.1) []))
theorem n1 : ¬ (("natural" : Str) = "shrink") := by decide +kernel
theorem n2 : ¬ (("natural" : Str) = "stretch") := by decide +kernel
theorem n3 : ¬ (("stretch" : Str) = "shrink") := by decide +kernel
theorem n4 : ¬ (("plain" : Str) = "shrink") := by decide +kernel
theorem n5 : ¬ (("plain" : Str) = "stretch") := by decide +kernel
theorem n6 : ¬ (("plain" : Str) = "natural") := by decide +kernel
theorem gfN (r : Row) : (gf r).lookup ("natural" : Str) = some (.int r.1) := by unfold gf; rw [lookup_putF, if_neg n1, lookup_putF, if_neg n2, lookup_putF, if_pos rfl]
theorem gfS (r : Row) : (gf r).lookup ("stretch" : Str) = some (.int r.2.1) := by unfold gf; rw [lookup_putF, if_neg n3, lookup_putF, if_pos rfl]
theorem gfK (r : Row) : (gf r).lookup ("shrink" : Str) = some (.int r.2.2) := by unfold gf; rw [lookup_putF, if_pos rfl]
theorem gfP (r : Row) : (gf r).lookup ("plain" : Str) = none := by unfold gf; rw [lookup_putF, if_neg n4, lookup_putF, if_neg n5, lookup_putF, if_neg n6]; rfl
theorem putF_len (f : Str) (v : V) : ∀ fs : List (Str × V), (putF f v fs).length ≤ fs.length + 1
  | [] => Nat.le_refl _
  | (g, x) :: r => by
    unfold putF
    split
    · exact Nat.le_succ _
    · exact Nat.succ_le_succ (putF_len f v r)
section
variable {K : PySem.W.Frag} {mg : Str → Option Value} {C a dx : Addr} {H : Hp} {Q : VK} {r : Row}
theorem rN (T : GlT K mg C) (h : H a = some (.ins C dx (gf r))) (q : Q (.int r.1) H) : rFld K "natural" (.ref a) H Q := rfld h T.cl T.nN (gfN r) q
theorem rS (T : GlT K mg C) (h : H a = some (.ins C dx (gf r))) (q : Q (.int r.2.1) H) : rFld K "stretch" (.ref a) H Q := rfld h T.cl T.nS (gfS r) q
theorem rK (T : GlT K mg C) (h : H a = some (.ins C dx (gf r))) (q : Q (.int r.2.2) H) : rFld K "shrink" (.ref a) H Q := rfld h T.cl T.nK (gfK r) q
end
def rowV (r : Row) : List V := [.int r.1, .int r.2.1, .int r.2.2]

def GA (C : Addr) (H : Hp) (a : Addr) (r : Row) : Prop := ∃ dx, H a = some (.ins C dx (gf r))
theorem GA.ex {C : Addr} {H H' : Hp} {a : Addr} {r : Row} (h : GA C H a r) (e : Ex H H') : GA C H' a r := let ⟨dx, q⟩ := h; ⟨dx, e _ _ q⟩
def plusR (r q : Row) : Row := (r.1 + q.1, r.2.1 + q.2.1, r.2.2 + q.2.2)
theorem GA.ty {K : PySem.W.Frag} {mg : Str → Option Value} {C : Addr} {H : Hp} {a : Addr} {r : Row} (T : GlT K mg C) (h : GA C H a r) : TyX K H (.ref a) (.ref C) := let ⟨dx, q⟩ := h; .base (.ins q T.cl T.ha T.hn T.htk T.hm)
def spGinit (C : Addr) : Sp := fun vs H Q _ => ∃ (p : Addr) (a b c : Int), vs = [.ref p, .int a, .int b, .int c] ∧ ∃ dx, H p = some (.ins C dx []) ∧ Q .non (upd H p (.ins C dx (gf (a, b, c))))
def spPlain (C : Addr) : Sp := fun vs H Q _ => ∃ (p : Addr), vs = [.ref p] ∧ ∃ r, GA C H p r ∧ ∀ t, H t = none → Q (.ref t) (upd H t (.tup (rowV r)))
def spLeast (C : Addr) : Sp := fun vs H Q _ => ∃ (p : Addr), vs = [.ref p] ∧ ∃ r, GA C H p r ∧ Q (.int (r.1 - r.2.2)) H
def spZero (C : Addr) : Sp := fun vs H Q _ => ∃ (_u : Unit), vs = [] ∧ ∀ a H', Ex H H' → H a = none → GA C H' a (0, 0, 0) → Q (.ref a) H'
def spAdd (C : Addr) : Sp := fun vs H Q _ => ∃ (a b : Addr), vs = [.ref a, .ref b] ∧ ∃ r q, GA C H a r ∧ GA C H b q ∧ ∀ c H', Ex H H' → H c = none → GA C H' c (plusR r q) → Q (.ref c) H'
def spEq (K : PySem.W.Frag) (C : Addr) : Sp := fun vs H Q _ => ∃ (a : Addr) (y : V), vs = [.ref a, y] ∧ ∃ r, GA C H a r ∧ ((∃ b q, y = .ref b ∧ GA C H b q ∧ Q (.bl (decide (r = q))) H) ∨ (∃ T, TyX K H y (.type T) ∧ Oth K C T ∧ Q (.bl false) H))
theorem rowdec (r q : Row) : decide (r = q) = (decide (r.1 = q.1) && (decide (r.2.1 = q.2.1) && decide (r.2.2 = q.2.2))) := by
  obtain ⟨a, b, c⟩ := r
  obtain ⟨d, e, f⟩ := q
  by_cases h1 : a = d <;> by_cases h2 : b = e <;> by_cases h3 : c = f <;> simp [h1, h2, h3]
local macro_rules | `(tactic| walk_at "wp") => `(tactic| simp only [↓Wp.fld, ↓Wp.sfld, ↓Wp.make, ↓Wp.meth, ↓Wp.dget, ↓Wp.dnot, ↓Wp.din, ↓Wp.dput, ↓Wp.dnewT, ↓Wp.izip, ↓Wp.stat, ↓Wp.rstat, ↓Wp.prop, ↓Wp.seq, ↓Wp.next, ↓Wp.asg, ↓Wp.gn, ↓Wp.gsub, ↓Wp.ret, ↓Wp.drop, ↓Wp.ifs, ↓Wp.brk, ↓Wp.cont, ↓Wp.op, ↓Wp.un, ↓Wp.cb, ↓Wp.call, ↓Wp.nil, ↓Wp.cons, ↓Wp.c, ↓Wp.ifx, ↓Wp.lst, ↓Wp.tup, ↓Wp.test, ↓Wp.tb, ↓Wp.tnot, ↓Wp.tand, ↓Wp.tor, ↓Wp.tandv, ↓Wp.torv, ↓Wp.tnotv, ↓Wp.chain, ↓Wp.bx, ↓Wp.i0, ↓Wp.i1, ↓Wp.u1, ↓Wp.eqi, ↓Wp.nei, ↓Wp.cabs, ↓Wp.cmax, ↓Wp.cmin, ↓Wp.cinti, ↓Wp.cintb, ↓Wp.isv_ii, ↓Wp.isv_ib, ↓Wp.for_, ↓Wp.lc_, ↓Wp.ilist, ↓Wp.itup, ↓Wp.irng1, ↓Wp.irng2, ↓Wp.rr1, ↓Wp.rr2, ↓Wp.tyes, ↓Wp.RunC, ↓Wp.RunL, ↓Wp.v0, ↓Wp.v1, ↓Wp.v2, ↓Wp.v3, ↓Wp.v4, ↓Wp.v5, ↓Wp.v6, ↓Wp.v7, ↓Wp.v8, ↓Wp.v9, ↓Wp.v10, ↓Wp.v11, ↓Wp.v12, ↓Wp.v13, ↓Wp.v14, ↓Wp.v15, ↓Wp.v16, ↓Wp.v17, ↓Wp.v18, ↓Wp.v19, ↓Wp.v20, ↓Wp.v21, ↓Wp.v22, ↓Wp.v23, ↓Wp.s0, ↓Wp.s1, ↓Wp.s2, ↓Wp.s3, ↓Wp.s4, ↓Wp.s5, ↓Wp.s6, ↓Wp.s7, ↓Wp.s8, ↓Wp.s9, ↓Wp.s10, ↓Wp.s11, ↓Wp.s12, ↓Wp.s13, ↓Wp.s14, ↓Wp.s15, ↓Wp.s16, ↓Wp.s17, ↓Wp.s18, ↓Wp.s19, ↓Wp.s20, ↓Wp.s21, ↓Wp.s22, ↓Wp.s23, ↓Wp.addi, ↓Wp.eqs, ↓Wp.nes, ↓Wp.isn, ↓Wp.notn, ↓Wp.ist, ↓Wp.tru, ↓Wp.tru_b, ↓Wp.sl, ↓Wp.nopart, ↓Wp.part, ↓Wp.rpart, ↓Wp.bm, ↓Wp.bm0, ↓Wp.aug, ↓Wp.ipi, ↓Wp.mko, ↓Wp.ost, ↓Wp.xf, ↓Wp.callS, Wp.n_i, Wp.n_s, Wp.n_b, Wp.n_r, Wp.n_n, Wp.t_i, Wp.t_s, Wp.t_n, Wp.t_r, Wp.t_b, List.append_nil, Int.zero_add, List.map_cons, List.map_nil, L2.wipe, List.foldl_cons, List.foldl_nil, List.cons_append, List.nil_append, L2.upd_upd, eq_self, decide_eq_true_eq, Bool.not_eq_true', decide_eq_false_iff_not, if_true, if_false, ite_true, ite_false, Bool.false_eq_true, Bool.true_eq_false, Bool.not_true, Bool.not_false, decide_true, decide_false, ↓reduceIte, Int.reduceToNat, Int.reducePow, Int.reduceMul, Int.reduceAdd, Int.reduceSub, Int.reduceNeg, Int.reduceDiv, Int.reduceMod, Int.reduceLT, Int.reduceLE, Int.reduceEq])
local macro_rules | `(tactic| walk_at "hp") => `(tactic| first | assumption | exact Wp.SS.at (i := 0) (by assumption) (by exact rfl) | exact Wp.SS.at (i := 1) (by assumption) (by exact rfl) | exact Wp.SS.at (i := 2) (by assumption) (by exact rfl) | exact Wp.SS.at (i := 3) (by assumption) (by exact rfl) | exact Wp.SS.at (i := 4) (by assumption) (by exact rfl) | exact Wp.SS.at (i := 5) (by assumption) (by exact rfl) | exact Wp.SS.at (i := 6) (by assumption) (by exact rfl) | exact Wp.SS.at (i := 7) (by assumption) (by exact rfl) | exact Wp.SS.at (i := 8) (by assumption) (by exact rfl) | exact Wp.SS.at (i := 9) (by assumption) (by exact rfl) | exact Wp.KK.at (i := 0) (by assumption) (by exact rfl) | exact Wp.KK.at (i := 1) (by assumption) (by exact rfl) | exact Wp.KK.at (i := 2) (by assumption) (by exact rfl) | exact Wp.KK.at (i := 3) (by assumption) (by exact rfl) | exact Wp.KK.at (i := 4) (by assumption) (by exact rfl) | exact Wp.KK.at (i := 5) (by assumption) (by exact rfl) | exact Wp.KK.at (i := 6) (by assumption) (by exact rfl) | exact Wp.KK.at (i := 7) (by assumption) (by exact rfl) | exact Wp.KK.at (i := 8) (by assumption) (by exact rfl) | exact Wp.KK.at (i := 9) (by assumption) (by exact rfl) | exact Wp.KK.at (i := 10) (by assumption) (by exact rfl) | exact Wp.KK.at (i := 11) (by assumption) (by exact rfl) | exact Wp.KK.at (i := 12) (by assumption) (by exact rfl) | exact Wp.KK.at (i := 13) (by assumption) (by exact rfl) | exact Wp.KK.at (i := 14) (by assumption) (by exact rfl) | exact Wp.KK.at (i := 15) (by assumption) (by exact rfl) | exact Wp.KK.at (i := 16) (by assumption) (by exact rfl) | exact Wp.KK.at (i := 17) (by assumption) (by exact rfl) | exact L2.upd_same | (refine Wp.u_ne ?_ ?_ <;> walk_at "hp") | exact L2.ne_of_none (by assumption) (by assumption) | exact (L2.ne_of_none (by assumption) (by assumption)).symm)
local macro_rules | `(tactic| walk_at "sz") => `(tactic| first | assumption | (simp only [List.length_cons, List.length_nil, List.length_map, List.length_append]; decide) | exact Wp.sz_lt (by simp only [List.length_cons, List.length_nil, List.length_map, List.length_append]; omega))
local macro_rules | `(tactic| walk_at "rd") => `(tactic| first | ((with_reducible refine' Wp.rsum ?h1 ?h3); (case h1 => walk_at "hp")) | ((with_reducible refine' rN (by assumption) ?h1 ?h3); (case h1 => walk_at "hp")) | ((with_reducible refine' rS (by assumption) ?h1 ?h3); (case h1 => walk_at "hp")) | ((with_reducible refine' rK (by assumption) ?h1 ?h3); (case h1 => walk_at "hp")) | ((with_reducible refine' Wp.ixal ?h1 ?h2 ?h3); (case h1 => walk_at "hp"); (case h2 => exact rfl)) | ((with_reducible refine' Wp.ixat ?h1 ?h2 ?h3); (case h1 => walk_at "hp"); (case h2 => exact rfl)) | ((with_reducible refine' Wp.ixl ?h1 ?h2 ?h3); (case h1 => walk_at "hp"); (case h2 => exact rfl)) | ((with_reducible refine' Wp.setl (j := 0) ?h1 ?h2 ?h3); (case h1 => walk_at "hp"); (case h2 => exact rfl)) | ((with_reducible refine' Wp.setl (j := 1) ?h1 ?h2 ?h3); (case h1 => walk_at "hp"); (case h2 => exact rfl)) | ((with_reducible refine' Wp.setl (j := 2) ?h1 ?h2 ?h3); (case h1 => walk_at "hp"); (case h2 => exact rfl)) | ((with_reducible refine' Wp.setl (j := 3) ?h1 ?h2 ?h3); (case h1 => walk_at "hp"); (case h2 => exact rfl)) | ((with_reducible refine' Wp.setl (j := 4) ?h1 ?h2 ?h3); (case h1 => walk_at "hp"); (case h2 => exact rfl)) | ((with_reducible refine' Wp.setl (j := 5) ?h1 ?h2 ?h3); (case h1 => walk_at "hp"); (case h2 => exact rfl)) | ((with_reducible refine' Wp.lenl ?h1 ?h3); (case h1 => walk_at "hp")) | ((with_reducible refine' Wp.lent ?h1 ?h3); (case h1 => walk_at "hp")) | ((with_reducible refine' Wp.ril ?h1 ?h3); (case h1 => walk_at "hp")) | ((with_reducible refine' Wp.rit ?h1 ?h3); (case h1 => walk_at "hp")) | ((with_reducible refine' Wp.tru_l ?h1 ?h3); (case h1 => walk_at "hp")) | ((with_reducible refine' Wp.mtl ?h1 ?h3); (case h1 => walk_at "hp")) | ((with_reducible refine' Wp.sll ?h1 ?h3); (case h1 => walk_at "hp")) | ((with_reducible refine' Wp.apd ?h1 ?h2 ?h3); (case h1 => walk_at "hp"); (case h2 => walk_at "sz")) | (with_reducible refine' Wp.isi_i (T := "int") Wp.kb_int_int ?h3) | (with_reducible refine' Wp.isi_i (T := "str") Wp.kb_int_str ?h3) | (with_reducible refine' Wp.isi_i (T := "bool") Wp.kb_int_bool ?h3) | (with_reducible refine' Wp.isi_i (T := "list") Wp.kb_int_list ?h3) | (with_reducible refine' Wp.isi_i (T := "tuple") Wp.kb_int_tuple ?h3) | (with_reducible refine' Wp.isi_s (T := "int") Wp.kb_str_int ?h3) | (with_reducible refine' Wp.isi_s (T := "str") Wp.kb_str_str ?h3) | (with_reducible refine' Wp.isi_s (T := "bool") Wp.kb_str_bool ?h3) | (with_reducible refine' Wp.isi_s (T := "list") Wp.kb_str_list ?h3) | (with_reducible refine' Wp.isi_s (T := "tuple") Wp.kb_str_tuple ?h3) | (with_reducible refine' Wp.isi_b (T := "int") Wp.kb_bool_int ?h3) | (with_reducible refine' Wp.isi_b (T := "str") Wp.kb_bool_str ?h3) | (with_reducible refine' Wp.isi_b (T := "bool") Wp.kb_bool_bool ?h3) | (with_reducible refine' Wp.isi_b (T := "list") Wp.kb_bool_list ?h3) | (with_reducible refine' Wp.isi_b (T := "tuple") Wp.kb_bool_tuple ?h3) | (with_reducible refine' Wp.isi_n (T := "int") Wp.kb_NoneType_int ?h3) | (with_reducible refine' Wp.isi_n (T := "str") Wp.kb_NoneType_str ?h3) | (with_reducible refine' Wp.isi_n (T := "bool") Wp.kb_NoneType_bool ?h3) | (with_reducible refine' Wp.isi_n (T := "list") Wp.kb_NoneType_list ?h3) | (with_reducible refine' Wp.isi_n (T := "tuple") Wp.kb_NoneType_tuple ?h3) | ((with_reducible refine' Wp.isi_l (T := "int") ?h1 Wp.kb_list_int ?h3); (case h1 => walk_at "hp")) | ((with_reducible refine' Wp.isi_l (T := "str") ?h1 Wp.kb_list_str ?h3); (case h1 => walk_at "hp")) | ((with_reducible refine' Wp.isi_l (T := "bool") ?h1 Wp.kb_list_bool ?h3); (case h1 => walk_at "hp")) | ((with_reducible refine' Wp.isi_l (T := "list") ?h1 Wp.kb_list_list ?h3); (case h1 => walk_at "hp")) | ((with_reducible refine' Wp.isi_l (T := "tuple") ?h1 Wp.kb_list_tuple ?h3); (case h1 => walk_at "hp")) | ((with_reducible refine' Wp.isi_t (T := "int") ?h1 Wp.kb_tuple_int ?h3); (case h1 => walk_at "hp")) | ((with_reducible refine' Wp.isi_t (T := "str") ?h1 Wp.kb_tuple_str ?h3); (case h1 => walk_at "hp")) | ((with_reducible refine' Wp.isi_t (T := "bool") ?h1 Wp.kb_tuple_bool ?h3); (case h1 => walk_at "hp")) | ((with_reducible refine' Wp.isi_t (T := "list") ?h1 Wp.kb_tuple_list ?h3); (case h1 => walk_at "hp")) | ((with_reducible refine' Wp.isi_t (T := "tuple") ?h1 Wp.kb_tuple_tuple ?h3); (case h1 => walk_at "hp")))
local macro_rules | `(tactic| walk_at "sc") => `(tactic| first | assumption | decide | exact ⟨by decide, by decide, by decide⟩ | exact Or.inr ⟨by decide, by decide⟩ | exact Or.inl ⟨by decide, by decide⟩ | (simp only [List.length_cons, List.length_nil]; decide) | exact L2.SqL.of (by walk_at "hp") | exact Wp.cmm (by decide) (by decide) (by decide) (by decide) | exact Wp.dvs (by decide) (by decide))
local macro_rules | `(tactic| walk_at "go") => `(tactic| repeat (first | walk_at "wp" | walk_at "rd" | (refine And.intro (by walk_at "sc") ?_) | (refine Exists.intro _ (And.intro (by walk_at "hp") (And.intro (by walk_at "sc") ?_)))))
local macro_rules | `(tactic| walk_at "gi") => `(tactic| repeat (first | walk_at "wp" | walk_at "rd" | (refine And.intro (by walk_at "sc") ?_) | (refine Exists.intro _ (And.intro (by walk_at "hp") (And.intro (by walk_at "sc") ?_))) | (refine Wp.ite_t (by first | assumption | omega | decide +kernel) ?_) | (refine Wp.ite_f (by first | assumption | omega | decide +kernel) ?_)))
section
variable {P : Program} {w : World} {K : PySem.W.Frag} {mg : Str → Option Value} {base : Heap}
theorem ok_ginit {f : Addr} {fd : FuncData} (F : Fun K "__init__" "Glue.__init__" s_ginit f fd) {C : Addr} (GT : GlT K mg C) : FnOk P w K mg base CX0 1 f fd ["self", "natural", "stretch", "shrink"] (spGinit C) := by
  refine F.ok sc_ginit (fun vs H Q E h => ?_) (fun cdv A outer s H vs Q E hr h => ?_)
  · obtain ⟨p1, a1, b1, c1, rfl, _⟩ := h
    rfl
  · obtain ⟨p1, a1, b1, c1, rfl, h⟩ := h
    refine ⟨_, (pss_cons (ps_fldK (K := K) rfl (pv 0) (pv 1))
  (pss_cons (ps_fldK (K := K) rfl (pv 0) (pv 2))
  (pss_one (ps_fldK (K := K) rfl (pv 0) (pv 3))))), ?_⟩
    rw [show start ["self", "natural", "stretch", "shrink"] [.ref p1, .int a1, .int b1, .int c1] = [some (.ref p1), some (.int a1), some (.int b1), some (.int c1)] from rfl]
    obtain ⟨dx, hp, k⟩ := h
    walk_at "go"
    refine rsfld hp GT.cl GT.nN (by decide) ?_
    walk_at "go"
    refine rsfld upd_same GT.cl GT.nS (Nat.lt_of_le_of_lt (putF_len _ _ _) (by decide)) ?_
    walk_at "go"
    refine rsfld upd_same GT.cl GT.nK (Nat.lt_of_le_of_lt (putF_len _ _ _) (Nat.lt_of_le_of_lt (Nat.succ_le_succ (putF_len _ _ _)) (by decide))) ?_
    walk_at "go"
    exact k
theorem ok_plain {f : Addr} {fd : FuncData} (F : Fun K "plain" "Glue.plain" s_plain f fd) {C : Addr} (GT : GlT K mg C) : FnOk P w K mg base CX0 1 f fd ["self"] (spPlain C) := by
  refine F.ok sc_plain (fun vs H Q E h => ?_) (fun cdv A outer s H vs Q E hr h => ?_)
  · obtain ⟨p1, rfl, _⟩ := h
    rfl
  · obtain ⟨p1, rfl, h⟩ := h
    refine ⟨_, (pss_one (ps_ret (pe_tup (pa_cons (pe_fldK (K := K) rfl (pv 0)) (pa_cons (pe_fldK (K := K) rfl (pv 0)) (pa_cons (pe_fldK (K := K) rfl (pv 0)) pa_nil)))))), ?_⟩
    rw [show start ["self"] [.ref p1] = [some (.ref p1)] from rfl]
    obtain ⟨r, ⟨dx, hp⟩, k⟩ := h
    walk_at "go"
    exact k
theorem ok_gleast {f : Addr} {fd : FuncData} (F : Fun K "least" "Glue.least" s_gleast f fd) {C : Addr} (GT : GlT K mg C) : FnOk P w K mg base CX0 1 f fd ["self"] (spLeast C) := by
  refine F.ok sc_gleast (fun vs H Q E h => ?_) (fun cdv A outer s H vs Q E hr h => ?_)
  · obtain ⟨p1, rfl, _⟩ := h
    rfl
  · obtain ⟨p1, rfl, h⟩ := h
    refine ⟨_, (pss_one (ps_ret (pe_op op_sub (pe_fldK (K := K) rfl (pv 0)) (pe_fldK (K := K) rfl (pv 0))))), ?_⟩
    rw [show start ["self"] [.ref p1] = [some (.ref p1)] from rfl]
    obtain ⟨r, ⟨dx, hp⟩, k⟩ := h
    walk_at "go"
    exact k
theorem ok_gzero {f : Addr} {fd : FuncData} (F : Fun K "zero" "Glue.zero" s_gzero f fd) {C : Addr} (GT : GlT K mg C) (GC_Glue : DefC P w K mg base 1 "Glue" C ["self", "natural", "stretch", "shrink"] (spGinit C)) : FnOk P w K mg base CX0 3 f fd [] (spZero C) := by
  refine F.ok sc_gzero (fun vs H Q E h => ?_) (fun cdv A outer s H vs Q E hr h => ?_)
  · obtain ⟨u0, rfl, _⟩ := h
    rfl
  · obtain ⟨u0, rfl, h⟩ := h
    refine ⟨_, (pss_one (ps_ret (GC_Glue.call (hr.mono (by omega)) (by rfl) (pa_cons pe_int (pa_cons pe_int (pa_cons pe_int pa_nil)))))), ?_⟩
    rw [show start [] [] = [] from rfl]
    walk_at "go"
    intro x dx hx hdx nxd
    refine ⟨_, _, _, _, rfl, dx, upd_same, rfl, ?_⟩
    rw [upd_upd]
    exact h _ _ ((Ex.refl.new hdx).new (by rw [upd_ne nxd.symm]; exact hx)) hx ⟨dx, upd_same⟩
theorem ok_gadd {f : Addr} {fd : FuncData} (F : Fun K "__add__" "Glue.__add__" s_gadd f fd) {C : Addr} (GT : GlT K mg C) (GC_Glue : DefC P w K mg base 1 "Glue" C ["self", "natural", "stretch", "shrink"] (spGinit C)) : FnOk P w K mg base CX0 3 f fd ["self", "other"] (spAdd C) := by
  refine F.ok sc_gadd (fun vs H Q E h => ?_) (fun cdv A outer s H vs Q E hr h => ?_)
  · obtain ⟨a1, b1, rfl, _⟩ := h
    rfl
  · obtain ⟨a1, b1, rfl, h⟩ := h
    refine ⟨_, (pss_one (ps_ret (GC_Glue.call (hr.mono (by omega)) (by rfl) (pa_cons (pe_op op_addL (pe_fldK (K := K) rfl (pv 0)) (pe_fldK (K := K) rfl (pv 1))) (pa_cons (pe_op op_addL (pe_fldK (K := K) rfl (pv 0)) (pe_fldK (K := K) rfl (pv 1))) (pa_cons (pe_op op_addL (pe_fldK (K := K) rfl (pv 0)) (pe_fldK (K := K) rfl (pv 1))) pa_nil)))))), ?_⟩
    rw [show start ["self", "other"] [.ref a1, .ref b1] = [some (.ref a1), some (.ref b1)] from rfl]
    obtain ⟨r, q, ⟨d1, h1⟩, ⟨d2, h2⟩, k⟩ := h
    walk_at "go"
    intro x dx hx hdx nxd
    refine ⟨_, _, _, _, rfl, dx, upd_same, rfl, ?_⟩
    rw [upd_upd]
    exact k _ _ ((Ex.refl.new hdx).new (by rw [upd_ne nxd.symm]; exact hx)) hx ⟨dx, upd_same⟩
theorem ok_geq {f : Addr} {fd : FuncData} (F : Fun K "__eq__" "Glue.__eq__" s_geq f fd) (T : Txt mg) {C : Addr} (GT : GlT K mg C) : FnOk P w K mg base CX0 1 f fd ["self", "other"] (spEq K C) := by
  refine F.ok sc_geq (fun vs H Q E h => ?_) (fun cdv A outer s H vs Q E hr h => ?_)
  · obtain ⟨a1, y, rfl, _⟩ := h
    rfl
  · obtain ⟨a1, y, rfl, h⟩ := h
    refine ⟨_, (pss_one (ps_ret (pe_and (pe_callB (call_isiK (K := K) rfl) (by rfl) T.n_isinstance (by decide +kernel) (pa_cons (pv 1) (pa_cons (pe_glob (v := .ref C) (by rfl) GT.mgC rfl) pa_nil))) (pe_and (pe_cmpR op_eq (pe_fldK (K := K) rfl (pv 0)) (pe_fldK (K := K) rfl (pv 1)) (nomark _)) (pe_and (pe_cmpR op_eq (pe_fldK (K := K) rfl (pv 0)) (pe_fldK (K := K) rfl (pv 1)) (nomark _)) (pe_one (pe_cmpR op_eq (pe_fldK (K := K) rfl (pv 0)) (pe_fldK (K := K) rfl (pv 1)) (nomark _)))))))), ?_⟩
    rw [show start ["self", "other"] [.ref a1, y] = [some (.ref a1), some (y)] from rfl]
    obtain ⟨r, ⟨d1, h1⟩, h⟩ := h
    rcases h with ⟨b, q, rfl, hb, k⟩ | ⟨T0, ty, ot, k⟩
    · walk_at "go"
      refine ⟨_, _, _, _, _, rfl, .own C, hb.ty GT, GT.me, ?_⟩
      obtain ⟨d2, h2⟩ := hb
      rw [rowdec] at k
      walk_at "go"
      refine ite2 (fun e1 => ?_) (fun e1 => ?_)
      · walk_at "go"
        refine ite2 (fun e2 => ?_) (fun e2 => ?_)
        · walk_at "go"
          rw [decide_eq_true e1, decide_eq_true e2, Bool.true_and, Bool.true_and] at k
          exact k
        · rw [decide_eq_true e1, decide_eq_false e2, Bool.false_and, Bool.true_and] at k
          exact k
      · rw [decide_eq_false e1, Bool.false_and] at k
        exact k
    · walk_at "go"
      refine ⟨_, _, _, _, _, rfl, .own C, ty, ot.k, ?_⟩
      walk_at "go"
      exact k
end
end K19
local macro_rules | `(tactic| walk_at "wp") => `(tactic| simp only [↓Wp.fld, ↓Wp.sfld, ↓Wp.make, ↓Wp.meth, ↓Wp.dget, ↓Wp.dnot, ↓Wp.din, ↓Wp.dput, ↓Wp.dnewT, ↓Wp.izip, ↓Wp.stat, ↓Wp.rstat, ↓Wp.prop, ↓Wp.seq, ↓Wp.next, ↓Wp.asg, ↓Wp.gn, ↓Wp.gsub, ↓Wp.ret, ↓Wp.drop, ↓Wp.ifs, ↓Wp.brk, ↓Wp.cont, ↓Wp.op, ↓Wp.un, ↓Wp.cb, ↓Wp.call, ↓Wp.nil, ↓Wp.cons, ↓Wp.c, ↓Wp.ifx, ↓Wp.lst, ↓Wp.tup, ↓Wp.test, ↓Wp.tb, ↓Wp.tnot, ↓Wp.tand, ↓Wp.tor, ↓Wp.tandv, ↓Wp.torv, ↓Wp.tnotv, ↓Wp.chain, ↓Wp.bx, ↓Wp.i0, ↓Wp.i1, ↓Wp.u1, ↓Wp.eqi, ↓Wp.nei, ↓Wp.cabs, ↓Wp.cmax, ↓Wp.cmin, ↓Wp.cinti, ↓Wp.cintb, ↓Wp.isv_ii, ↓Wp.isv_ib, ↓Wp.for_, ↓Wp.lc_, ↓Wp.ilist, ↓Wp.itup, ↓Wp.irng1, ↓Wp.irng2, ↓Wp.rr1, ↓Wp.rr2, ↓Wp.tyes, ↓Wp.RunC, ↓Wp.RunL, ↓Wp.v0, ↓Wp.v1, ↓Wp.v2, ↓Wp.v3, ↓Wp.v4, ↓Wp.v5, ↓Wp.v6, ↓Wp.v7, ↓Wp.v8, ↓Wp.v9, ↓Wp.v10, ↓Wp.v11, ↓Wp.v12, ↓Wp.v13, ↓Wp.v14, ↓Wp.v15, ↓Wp.v16, ↓Wp.v17, ↓Wp.v18, ↓Wp.v19, ↓Wp.v20, ↓Wp.v21, ↓Wp.v22, ↓Wp.v23, ↓Wp.s0, ↓Wp.s1, ↓Wp.s2, ↓Wp.s3, ↓Wp.s4, ↓Wp.s5, ↓Wp.s6, ↓Wp.s7, ↓Wp.s8, ↓Wp.s9, ↓Wp.s10, ↓Wp.s11, ↓Wp.s12, ↓Wp.s13, ↓Wp.s14, ↓Wp.s15, ↓Wp.s16, ↓Wp.s17, ↓Wp.s18, ↓Wp.s19, ↓Wp.s20, ↓Wp.s21, ↓Wp.s22, ↓Wp.s23, ↓Wp.addi, ↓Wp.eqs, ↓Wp.nes, ↓Wp.isn, ↓Wp.notn, ↓Wp.ist, ↓Wp.tru, ↓Wp.tru_b, ↓Wp.sl, ↓Wp.nopart, ↓Wp.part, ↓Wp.rpart, ↓Wp.bm, ↓Wp.bm0, ↓Wp.aug, ↓Wp.ipi, ↓Wp.mko, ↓Wp.ost, ↓Wp.xf, ↓Wp.callS, Wp.n_i, Wp.n_s, Wp.n_b, Wp.n_r, Wp.n_n, Wp.t_i, Wp.t_s, Wp.t_n, Wp.t_r, Wp.t_b, List.append_nil, Int.zero_add, List.map_cons, List.map_nil, L2.wipe, List.foldl_cons, List.foldl_nil, List.cons_append, List.nil_append, L2.upd_upd, eq_self, decide_eq_true_eq, Bool.not_eq_true', decide_eq_false_iff_not, if_true, if_false, ite_true, ite_false, Bool.false_eq_true, Bool.true_eq_false, Bool.not_true, Bool.not_false, decide_true, decide_false, ↓reduceIte, Int.reduceToNat, Int.reducePow, Int.reduceMul, Int.reduceAdd, Int.reduceSub, Int.reduceNeg, Int.reduceDiv, Int.reduceMod, Int.reduceLT, Int.reduceLE, Int.reduceEq])
local macro_rules | `(tactic| walk_at "rd") => `(tactic| first | ((with_reducible refine' Wp.rsum ?h1 ?h3); (case h1 => walk_at "hp")) | ((with_reducible refine' rN (by assumption) ?h1 ?h3); (case h1 => walk_at "hp")) | ((with_reducible refine' rS (by assumption) ?h1 ?h3); (case h1 => walk_at "hp")) | ((with_reducible refine' rK (by assumption) ?h1 ?h3); (case h1 => walk_at "hp")) | ((with_reducible refine' Wp.ixal ?h1 ?h2 ?h3); (case h1 => walk_at "hp"); (case h2 => exact rfl)) | ((with_reducible refine' Wp.ixat ?h1 ?h2 ?h3); (case h1 => walk_at "hp"); (case h2 => exact rfl)) | ((with_reducible refine' Wp.ixl ?h1 ?h2 ?h3); (case h1 => walk_at "hp"); (case h2 => exact rfl)) | ((with_reducible refine' Wp.setl (j := 0) ?h1 ?h2 ?h3); (case h1 => walk_at "hp"); (case h2 => exact rfl)) | ((with_reducible refine' Wp.setl (j := 1) ?h1 ?h2 ?h3); (case h1 => walk_at "hp"); (case h2 => exact rfl)) | ((with_reducible refine' Wp.setl (j := 2) ?h1 ?h2 ?h3); (case h1 => walk_at "hp"); (case h2 => exact rfl)) | ((with_reducible refine' Wp.setl (j := 3) ?h1 ?h2 ?h3); (case h1 => walk_at "hp"); (case h2 => exact rfl)) | ((with_reducible refine' Wp.setl (j := 4) ?h1 ?h2 ?h3); (case h1 => walk_at "hp"); (case h2 => exact rfl)) | ((with_reducible refine' Wp.setl (j := 5) ?h1 ?h2 ?h3); (case h1 => walk_at "hp"); (case h2 => exact rfl)) | ((with_reducible refine' Wp.lenl ?h1 ?h3); (case h1 => walk_at "hp")) | ((with_reducible refine' Wp.lent ?h1 ?h3); (case h1 => walk_at "hp")) | ((with_reducible refine' Wp.ril ?h1 ?h3); (case h1 => walk_at "hp")) | ((with_reducible refine' Wp.rit ?h1 ?h3); (case h1 => walk_at "hp")) | ((with_reducible refine' Wp.tru_l ?h1 ?h3); (case h1 => walk_at "hp")) | ((with_reducible refine' Wp.mtl ?h1 ?h3); (case h1 => walk_at "hp")) | ((with_reducible refine' Wp.sll ?h1 ?h3); (case h1 => walk_at "hp")) | ((with_reducible refine' Wp.apd ?h1 ?h2 ?h3); (case h1 => walk_at "hp"); (case h2 => walk_at "sz")) | (with_reducible refine' Wp.isi_i (T := "int") Wp.kb_int_int ?h3) | (with_reducible refine' Wp.isi_i (T := "str") Wp.kb_int_str ?h3) | (with_reducible refine' Wp.isi_i (T := "bool") Wp.kb_int_bool ?h3) | (with_reducible refine' Wp.isi_i (T := "list") Wp.kb_int_list ?h3) | (with_reducible refine' Wp.isi_i (T := "tuple") Wp.kb_int_tuple ?h3) | (with_reducible refine' Wp.isi_s (T := "int") Wp.kb_str_int ?h3) | (with_reducible refine' Wp.isi_s (T := "str") Wp.kb_str_str ?h3) | (with_reducible refine' Wp.isi_s (T := "bool") Wp.kb_str_bool ?h3) | (with_reducible refine' Wp.isi_s (T := "list") Wp.kb_str_list ?h3) | (with_reducible refine' Wp.isi_s (T := "tuple") Wp.kb_str_tuple ?h3) | (with_reducible refine' Wp.isi_b (T := "int") Wp.kb_bool_int ?h3) | (with_reducible refine' Wp.isi_b (T := "str") Wp.kb_bool_str ?h3) | (with_reducible refine' Wp.isi_b (T := "bool") Wp.kb_bool_bool ?h3) | (with_reducible refine' Wp.isi_b (T := "list") Wp.kb_bool_list ?h3) | (with_reducible refine' Wp.isi_b (T := "tuple") Wp.kb_bool_tuple ?h3) | (with_reducible refine' Wp.isi_n (T := "int") Wp.kb_NoneType_int ?h3) | (with_reducible refine' Wp.isi_n (T := "str") Wp.kb_NoneType_str ?h3) | (with_reducible refine' Wp.isi_n (T := "bool") Wp.kb_NoneType_bool ?h3) | (with_reducible refine' Wp.isi_n (T := "list") Wp.kb_NoneType_list ?h3) | (with_reducible refine' Wp.isi_n (T := "tuple") Wp.kb_NoneType_tuple ?h3) | ((with_reducible refine' Wp.isi_l (T := "int") ?h1 Wp.kb_list_int ?h3); (case h1 => walk_at "hp")) | ((with_reducible refine' Wp.isi_l (T := "str") ?h1 Wp.kb_list_str ?h3); (case h1 => walk_at "hp")) | ((with_reducible refine' Wp.isi_l (T := "bool") ?h1 Wp.kb_list_bool ?h3); (case h1 => walk_at "hp")) | ((with_reducible refine' Wp.isi_l (T := "list") ?h1 Wp.kb_list_list ?h3); (case h1 => walk_at "hp")) | ((with_reducible refine' Wp.isi_l (T := "tuple") ?h1 Wp.kb_list_tuple ?h3); (case h1 => walk_at "hp")) | ((with_reducible refine' Wp.isi_t (T := "int") ?h1 Wp.kb_tuple_int ?h3); (case h1 => walk_at "hp")) | ((with_reducible refine' Wp.isi_t (T := "str") ?h1 Wp.kb_tuple_str ?h3); (case h1 => walk_at "hp")) | ((with_reducible refine' Wp.isi_t (T := "bool") ?h1 Wp.kb_tuple_bool ?h3); (case h1 => walk_at "hp")) | ((with_reducible refine' Wp.isi_t (T := "list") ?h1 Wp.kb_tuple_list ?h3); (case h1 => walk_at "hp")) | ((with_reducible refine' Wp.isi_t (T := "tuple") ?h1 Wp.kb_tuple_tuple ?h3); (case h1 => walk_at "hp")))
namespace K19
open PySem L2 Wp
/-! data as the laws compare it -/
inductive Dat where
  | int (i : Int) | str (s : Str) | non | bl (b : Bool) | lst (xs : List Dat) | tup (xs : List Dat)
/-- v stands for d in H; n bounds the depth -/
def Rep (H : Hp) : Nat → V → Dat → Prop
  | _, v, .int i => v = .int i
  | _, v, .str s => v = .str s
  | _, v, .non => v = .non
  | _, v, .bl b => v = .bl b
  | 0, _, .lst _ => False
  | 0, _, .tup _ => False
  | n + 1, v, .lst ds => ∃ a vs, v = .ref a ∧ H a = some (.lst vs) ∧ vs.length = ds.length ∧ vs.length < 2 ^ 60 ∧ ∀ (i : Nat) (x : V) (d : Dat), vs[i]? = some x → ds[i]? = some d → Rep H n x d
  | n + 1, v, .tup ds => ∃ a vs, v = .ref a ∧ H a = some (.tup vs) ∧ vs.length = ds.length ∧ vs.length < 2 ^ 60 ∧ ∀ (i : Nat) (x : V) (d : Dat), vs[i]? = some x → ds[i]? = some d → Rep H n x d
theorem Rep.ex {H H' : Hp} (e : Ex H H') : ∀ (n : Nat) (v : V) (d : Dat), Rep H n v d → Rep H' n v d := by
  intro n
  induction n with
  | zero =>
    intro v d h
    cases d <;> simp only [Rep] at h ⊢ <;> exact h
  | succ n ih =>
    intro v d h
    cases d with
    | lst ds =>
      simp only [Rep] at h ⊢
      obtain ⟨a, vs, h1, h2, h3, h5, h4⟩ := h
      exact ⟨a, vs, h1, e _ _ h2, h3, h5, fun i x d hx hd => ih x d (h4 i x d hx hd)⟩
    | tup ds =>
      simp only [Rep] at h ⊢
      obtain ⟨a, vs, h1, h2, h3, h5, h4⟩ := h
      exact ⟨a, vs, h1, e _ _ h2, h3, h5, fun i x d hx hd => ih x d (h4 i x d hx hd)⟩
    | int i => simp only [Rep] at h ⊢; exact h
    | str s => simp only [Rep] at h ⊢; exact h
    | non => simp only [Rep] at h ⊢; exact h
    | bl b => simp only [Rep] at h ⊢; exact h
def spSame (n : Nat) : Sp := fun vs H Q _ => ∃ (x y : V) , vs = [x, y] ∧ ∃ d : Dat, Rep H n x d ∧ Rep H n y d ∧ Q (.bl true) H
def PvSame (H : Hp) (x y : V) : Nat → L2.St → Hp → Prop := fun _ σ' H' => H' = H ∧ ∃ v, σ' = [some x, some y, v]
theorem rep_ints {H : Hp} {a : Addr} {ns : List Int} (h : H a = some (.lst (ns.map V.int))) (hl : ns.length < 2 ^ 60) : Rep H 1 (.ref a) (.lst (ns.map Dat.int)) := by
  simp only [Rep]
  refine ⟨a, _, rfl, h, by rw [List.length_map, List.length_map], by rw [List.length_map]; exact hl, fun i x d h1 h2 => ?_⟩
  rw [List.getElem?_map] at h1 h2
  cases e : ns[i]? with
  | none => rw [e] at h1; cases h1
  | some n =>
    rw [e] at h1 h2
    cases h1
    cases h2
    simp only [Rep]
theorem rep_row {H : Hp} {a : Addr} {r : Row} (h : H a = some (.tup (rowV r))) : Rep H 1 (.ref a) (.tup [.int r.1, .int r.2.1, .int r.2.2]) := by
  simp only [Rep]
  refine ⟨a, _, rfl, h, rfl, (by show 3 < _; decide), fun i x d h1 h2 => ?_⟩
  match i, h1, h2 with
  | 0, h1, h2 => cases h1; cases h2; simp only [Rep]
  | 1, h1, h2 => cases h1; cases h2; simp only [Rep]
  | 2, h1, h2 => cases h1; cases h2; simp only [Rep]
  | (n + 3), h1, h2 => simp [rowV] at h1

def Sm (i : Int) : Prop := -9999 ≤ i ∧ i ≤ 9999
def spAny : Sp := fun vs H Q _ => ∃ (p : Addr) (a : Int), vs = [.ref p, .int a] ∧ ∃ l, PoolL H p l ∧ Sm a ∧ ∀ r H', Sm r → PoolL H' p l → But p H H' → Q (.int r) H'
def spPlus : Sp := fun vs H Q _ => ∃ (a b : Addr), vs = [.ref a, .ref b] ∧ ∃ r q, H a = some (.tup (rowV r)) ∧ H b = some (.tup (rowV q)) ∧ ∀ t H', Ex H H' → H t = none → H' t = some (.tup (rowV (plusR r q))) → Q (.ref t) H'
def spTells (C : Addr) : Sp := fun vs H Q _ => ∃ (a b : Addr), vs = [.ref a, .ref b] ∧ ∃ r, GA C H a r ∧ H b = some (.tup (rowV r)) ∧ ∀ H', Ex H H' → Q (.bl true) H'
theorem at0 {r : Row} : atI (rowV r) 0 = some (V.int r.1) := by rfl
theorem at1 {r : Row} : atI (rowV r) 1 = some (V.int r.2.1) := by rfl
theorem at2 {r : Row} : atI (rowV r) 2 = some (V.int r.2.2) := by rfl
section
variable {P : Program} {w : World} {K : PySem.W.Frag} {mg : Str → Option Value} {base : Heap}
theorem ok_law_pool {f : Addr} {fd : FuncData} (F : Fun K "_law_pool" "_law_pool" s_law_pool f fd) (T : Txt mg) : FnOk P w K mg base CX0 1 f fd ["script"] (spPoolL K) := by
  refine F.ok sc_law_pool (fun vs H Q E h => ?_) (fun cdv A outer s H vs Q E hr h => ?_)
  · obtain ⟨a1, ns, rfl, _⟩ := h
    rfl
  · obtain ⟨a1, ns, rfl, h⟩ := h
    refine ⟨_, (pss_one (ps_ret (pe_lst (pa_cons (pe_callTy (c_listK (K := K) rfl) (by rfl) T.n_list (by decide +kernel) (pa_cons (pv 0) pa_nil)) (pa_cons pe_int (pa_cons pe_int (pa_cons pe_int (pa_cons pe_int pa_nil)))))))), ?_⟩
    rw [show start ["script"] [.ref a1] = [some (.ref a1)] from rfl]
    obtain ⟨hs, k⟩ := h
    walk_at "go"
    refine Wp.lists hs fun l hl => ?_
    walk_at "go"
    intro p hp
    have hne : l ≠ p := fun z => by subst z; rw [upd_same] at hp; cases hp
    have hp0 : H p = none := by rw [upd_ne hne.symm] at hp; exact hp
    exact k p l _ hp0 hl (fun b o e => u_ne (ne_of_none e hp0) (u_ne (ne_of_none e hl) e)) ⟨ns, _, _, _, _, upd_same, u_ne hne upd_same, by decide⟩
theorem ok_law_draw {f : Addr} {fd : FuncData} (F : Fun K "_law_draw" "_law_draw" s_law_draw f fd) (T : Txt mg) : FnOk P w K mg base CX0 1 f fd ["pool", "many"] (spDrawL) := by
  refine F.ok sc_law_draw (fun vs H Q E h => ?_) (fun cdv A outer s H vs Q E hr h => ?_)
  · obtain ⟨p1, m1, rfl, _⟩ := h
    rfl
  · obtain ⟨p1, m1, rfl, h⟩ := h
    refine ⟨_, (pss_cons (ps_asg (pe_op op_addL (pe_ix (ixA (K := K) rfl) (pv 0) pe_int (fun _ _ => rfl)) pe_int) (pg_sub (pv 0) pe_int set_list))
  (pss_cons (ps_if (PW.pt (pw_and (pt_cmpR op_eq (pe_ix (ixA (K := K) rfl) (pv 0) pe_int (fun _ _ => rfl)) pe_int (nomark _)) (pw_and1 (pt_cmpR op_lt (pe_ix (ixA (K := K) rfl) (pv 0) pe_int (fun _ _ => rfl)) (pe_callB (c_lenK (K := K) rfl) (by rfl) T.n_len (by decide +kernel) (pa_cons (pe_ix (ixA (K := K) rfl) (pv 0) pe_int (fun _ _ => rfl)) pa_nil)) (nomark _)))))
  (pss_cons (ps_set (i := 2) sc_law_draw.nd rfl (by first | exact Or.inl rfl | exact Or.inr rfl) (pe_ix (ixA (K := K) rfl) (pe_ix (ixA (K := K) rfl) (pv 0) pe_int (fun _ _ => rfl)) (pe_ix (ixA (K := K) rfl) (pv 0) pe_int (fun _ _ => rfl)) (fun _ _ => rfl)))
  (pss_cons (ps_asg (pe_op op_addL (pe_ix (ixA (K := K) rfl) (pv 0) pe_int (fun _ _ => rfl)) pe_int) (pg_sub (pv 0) pe_int set_list))
  (pss_one (ps_if (pt_cmpR op_ge (pe_callB c_abs (by rfl) T.n_abs (by decide +kernel) (pa_cons (pv 2) pa_nil)) (pe_op op_pow pe_int pe_int) (nomark _))
  (pss_one (ps_asg (pe_callB c_abs (by rfl) T.n_abs (by decide +kernel) (pa_cons (pv 2) pa_nil)) (pg_sub (pv 0) pe_int set_list)))
  (pss_one (ps_asg (pe_op op_mod (pe_callTy c_int (by rfl) T.n_int (by decide +kernel) (pa_cons (pe_op op_addL (pe_op op_addL (pe_op op_mul (pe_ix (ixA (K := K) rfl) (pv 0) pe_int (fun _ _ => rfl)) pe_int) (pe_op op_mul (pv 2) pe_int)) pe_int) pa_nil)) pe_int) (pg_sub (pv 0) pe_int set_list)))))))
  pss_nil)
  (pss_cons (ps_if (pt_cmpR op_gt (pe_ix (ixA (K := K) rfl) (pv 0) pe_int (fun _ _ => rfl)) pe_int (nomark _))
  (pss_cons (ps_set (i := 3) sc_law_draw.nd rfl (by first | exact Or.inl rfl | exact Or.inr rfl) (pe_op op_mod (pe_callTy c_int (by rfl) T.n_int (by decide +kernel) (pa_cons (pe_ix (ixA (K := K) rfl) (pv 0) pe_int (fun _ _ => rfl)) pa_nil)) (pv 1)))
  (pss_cons (ps_asg (pe_op op_fdivW (pe_ix (ixA (K := K) rfl) (pv 0) pe_int (fun _ _ => rfl)) (pv 1)) (pg_sub (pv 0) pe_int set_list))
  (pss_one (ps_ret (pv 3)))))
  pss_nil)
  (pss_cons (ps_set (i := 4) sc_law_draw.nd rfl (by first | exact Or.inl rfl | exact Or.inr rfl) (pe_op op_mod (pe_callTy c_int (by rfl) T.n_int (by decide +kernel) (pa_cons (pe_op op_addL (pe_ix (ixA (K := K) rfl) (pv 0) pe_int (fun _ _ => rfl)) (pe_op op_mul (pe_ix (ixA (K := K) rfl) (pv 0) pe_int (fun _ _ => rfl)) pe_int)) pa_nil)) pe_int))
  (pss_cons (ps_set (i := 4) sc_law_draw.nd rfl (by first | exact Or.inl rfl | exact Or.inr rfl) (pe_op op_mod (pe_callTy c_int (by rfl) T.n_int (by decide +kernel) (pa_cons (pe_op op_addL (pe_op op_addL (pe_op op_mulW (pv 4) (pv 4)) (pe_op op_mul (pe_ix (ixA (K := K) rfl) (pv 0) pe_int (fun _ _ => rfl)) pe_int)) pe_int) pa_nil)) pe_int))
  (pss_cons (ps_set (i := 4) sc_law_draw.nd rfl (by first | exact Or.inl rfl | exact Or.inr rfl) (pe_op op_mod (pe_callTy c_int (by rfl) T.n_int (by decide +kernel) (pa_cons (pe_op op_addL (pe_op op_addL (pe_op op_mulW (pv 4) (pv 4)) (pe_ix (ixA (K := K) rfl) (pv 0) pe_int (fun _ _ => rfl))) pe_int) pa_nil)) pe_int))
  (pss_one (ps_ret (pe_op op_mod (pe_callTy c_int (by rfl) T.n_int (by decide +kernel) (pa_cons (pe_op op_fdivW (pv 4) pe_int) pa_nil)) (pv 1)))))))))), ?_⟩
    rw [show start ["pool", "many", "cell", "got", "one"] [.ref p1, .int m1] = [some (.ref p1), some (.int m1), none, none, none] from rfl]
    obtain ⟨l, ⟨ns, i, x, c, e, hC⟩, m0, mm, k⟩ := h
    have hne := hC.ne
    obtain ⟨h1, h2, i0⟩ := hC
    walk_at "go"
    refine ite2 (fun hx => ?_) (fun hx => ?_)
    · walk_at "go"
      refine ite2 (fun hi => ?_) (fun hi => ?_)
      · obtain ⟨n, hn⟩ := atI_map i0 hi
        walk_at "go"
        refine Wp.ixal (by walk_at "hp") hn ?_
        walk_at "go"
        refine ite2 (fun hb => ?_) (fun hb => ?_)
        · walk_at "go"
          refine ite2 (fun hp => ?_) (fun hp => ?_)
          · walk_at "go"
            refine ⟨wide_div m0 mm (by decide) (by decide), ?_⟩
            walk_at "go"
            exact k _ _ (Int.emod_nonneg _ (by omega)) (Int.emod_lt_of_pos _ m0) ⟨ns, _, _, _, _, upd_same, u_ne hne h2, (by omega)⟩ But.refl.upd
          · walk_at "go"
            exact k _ _ (Int.emod_nonneg _ (by omega)) (Int.emod_lt_of_pos _ m0) ⟨ns, _, _, _, _, upd_same, u_ne hne h2, (by omega)⟩ But.refl.upd
        · walk_at "go"
          refine ite2 (fun hp => ?_) (fun hp => ?_)
          · walk_at "go"
            refine ⟨wide_div m0 mm (by decide) (by decide), ?_⟩
            walk_at "go"
            exact k _ _ (Int.emod_nonneg _ (by omega)) (Int.emod_lt_of_pos _ m0) ⟨ns, _, _, _, _, upd_same, u_ne hne h2, (by omega)⟩ But.refl.upd
          · walk_at "go"
            exact k _ _ (Int.emod_nonneg _ (by omega)) (Int.emod_lt_of_pos _ m0) ⟨ns, _, _, _, _, upd_same, u_ne hne h2, (by omega)⟩ But.refl.upd
      · walk_at "go"
        refine ite2 (fun hp => ?_) (fun hp => ?_)
        · walk_at "go"
          refine ⟨wide_div m0 mm (by decide) (by decide), ?_⟩
          walk_at "go"
          exact k _ _ (Int.emod_nonneg _ (by omega)) (Int.emod_lt_of_pos _ m0) ⟨ns, _, _, _, _, upd_same, u_ne hne h2, i0⟩ But.refl.upd
        · walk_at "go"
          exact k _ _ (Int.emod_nonneg _ (by omega)) (Int.emod_lt_of_pos _ m0) ⟨ns, _, _, _, _, upd_same, u_ne hne h2, i0⟩ But.refl.upd
    · walk_at "go"
      refine ite2 (fun hp => ?_) (fun hp => ?_)
      · walk_at "go"
        refine ⟨wide_div m0 mm (by decide) (by decide), ?_⟩
        walk_at "go"
        exact k _ _ (Int.emod_nonneg _ (by omega)) (Int.emod_lt_of_pos _ m0) ⟨ns, _, _, _, _, upd_same, u_ne hne h2, i0⟩ But.refl.upd
      · walk_at "go"
        exact k _ _ (Int.emod_nonneg _ (by omega)) (Int.emod_lt_of_pos _ m0) ⟨ns, _, _, _, _, upd_same, u_ne hne h2, i0⟩ But.refl.upd
theorem ok_law_pick {f : Addr} {fd : FuncData} (F : Fun K "_law_pick" "_law_pick" s_law_pick f fd) (T : Txt mg) (G_law_draw : Def P w K mg base 1 "_law_draw" ["pool", "many"] (spDrawL)) : FnOk P w K mg base CX0 2 f fd ["pool", "row"] (spPick) := by
  refine F.ok sc_law_pick (fun vs H Q E h => ?_) (fun cdv A outer s H vs Q E hr h => ?_)
  · obtain ⟨p1, a1, rfl, _⟩ := h
    rfl
  · obtain ⟨p1, a1, rfl, h⟩ := h
    refine ⟨_, (pss_one (ps_ret (pe_ix (ixA (K := K) rfl) (pv 1) (G_law_draw.call (hr.mono (by omega)) (by rfl) (pa_cons (pv 0) (pa_cons (pe_callB (c_lenK (K := K) rfl) (by rfl) T.n_len (by decide +kernel) (pa_cons (pv 1) pa_nil)) pa_nil))) (fun _ _ => rfl)))), ?_⟩
    rw [show start ["pool", "row"] [.ref p1, .ref a1] = [some (.ref p1), some (.ref a1)] from rfl]
    obtain ⟨l, xs, hp, ha, hne, h0, h9, k⟩ := h
    walk_at "go"
    refine ⟨_, _, rfl, l, hp, by omega, by omega, fun r H' r0 r9 hp' bt => ?_⟩
    walk_at "go"
    obtain ⟨n, rfl⟩ : ∃ n : Nat, r = (n : Int) := ⟨r.toNat, by omega⟩
    have hn : n < xs.length := by omega
    refine Wp.ixal ((bt a1 hne).trans ha) (atI_nat (List.getElem?_eq_getElem hn)) ?_
    exact k n _ _ (List.getElem?_eq_getElem hn) hp' bt
theorem ok_law_same0 {f : Addr} {fd : FuncData} (F : Fun K "_law_same" "_law_same" s_law_same f fd) (T : Txt mg) (G_law_same : Def P w K mg base 0 "_law_same" ["got", "due"] (fun _ _ _ _ => False)) : FnOk P w K mg base CX0 1 f fd ["got", "due"] (spSame 0) := by
  refine F.ok sc_law_same (fun vs H Q E h => ?_) (fun cdv A outer s H vs Q E hr h => ?_)
  · obtain ⟨x, y, rfl, _⟩ := h
    rfl
  · obtain ⟨x, y, rfl, h⟩ := h
    refine ⟨_, (pss_cons (ps_if (pt_cmpR o_isN (pv 1) pe_non (nomark _))
  (pss_one (ps_ret (pe_cmpR o_isN (pv 0) pe_non (nomark _))))
  pss_nil)
  (pss_cons (ps_if (pt_cmpR op_isT (pv 1) pe_bl (nomark _))
  (pss_one (ps_ret (pe_cmpR op_isT (pv 0) pe_bl (nomark _))))
  pss_nil)
  (pss_cons (ps_if (pt_cmpR op_isT (pv 1) pe_bl (nomark _))
  (pss_one (ps_ret (pe_cmpR op_isT (pv 0) pe_bl (nomark _))))
  pss_nil)
  (pss_cons (ps_if (pt_val (pe_callB (call_isiK (K := K) rfl) (by rfl) T.n_isinstance (by decide +kernel) (pa_cons (pv 1) (pa_cons (pe_bltn (v := .ty "int") (by rfl) T.n_int (by decide +kernel) rfl) pa_nil))))
  (pss_one (ps_ret (pe_and (pe_callB (call_isiK (K := K) rfl) (by rfl) T.n_isinstance (by decide +kernel) (pa_cons (pv 0) (pa_cons (pe_bltn (v := .ty "int") (by rfl) T.n_int (by decide +kernel) rfl) pa_nil))) (pe_and (pe_not (pe_callB (call_isiK (K := K) rfl) (by rfl) T.n_isinstance (by decide +kernel) (pa_cons (pv 0) (pa_cons (pe_bltn (v := .ty "bool") (by rfl) T.n_bool (by decide +kernel) rfl) pa_nil)))) (pe_one (pe_cmpR op_eq (pv 0) (pv 1) (nomark _)))))))
  pss_nil)
  (pss_cons (ps_if (pt_val (pe_callB (call_isiK (K := K) rfl) (by rfl) T.n_isinstance (by decide +kernel) (pa_cons (pv 1) (pa_cons (pe_bltn (v := .ty "str") (by rfl) T.n_str (by decide +kernel) rfl) pa_nil))))
  (pss_one (ps_ret (pe_and (pe_callB (call_isiK (K := K) rfl) (by rfl) T.n_isinstance (by decide +kernel) (pa_cons (pv 0) (pa_cons (pe_bltn (v := .ty "str") (by rfl) T.n_str (by decide +kernel) rfl) pa_nil))) (pe_one (pe_cmpR op_eq (pv 0) (pv 1) (nomark _))))))
  pss_nil)
  (pss_cons (ps_if (pt_val (pe_callB (call_isiK (K := K) rfl) (by rfl) T.n_isinstance (by decide +kernel) (pa_cons (pv 1) (pa_cons (pe_bltn (v := .ty "tuple") (by rfl) T.n_tuple (by decide +kernel) rfl) pa_nil))))
  (pss_one (ps_if (PW.pt (pw_or (pt_not (pt_val (pe_callB (call_isiK (K := K) rfl) (by rfl) T.n_isinstance (by decide +kernel) (pa_cons (pv 0) (pa_cons (pe_bltn (v := .ty "tuple") (by rfl) T.n_tuple (by decide +kernel) rfl) pa_nil))))) (pw_or1 (pt_cmpR op_ne (pe_callB (c_lenK (K := K) rfl) (by rfl) T.n_len (by decide +kernel) (pa_cons (pv 0) pa_nil)) (pe_callB (c_lenK (K := K) rfl) (by rfl) T.n_len (by decide +kernel) (pa_cons (pv 1) pa_nil)) (nomark _)))))
  (pss_one (ps_ret pe_bl))
  pss_nil))
  (pss_one (ps_if (PW.pt (pw_or (pt_not (pt_val (pe_callB (call_isiK (K := K) rfl) (by rfl) T.n_isinstance (by decide +kernel) (pa_cons (pv 0) (pa_cons (pe_bltn (v := .ty "list") (by rfl) T.n_list (by decide +kernel) rfl) pa_nil))))) (pw_or1 (pt_cmpR op_ne (pe_callB (c_lenK (K := K) rfl) (by rfl) T.n_len (by decide +kernel) (pa_cons (pv 0) pa_nil)) (pe_callB (c_lenK (K := K) rfl) (by rfl) T.n_len (by decide +kernel) (pa_cons (pv 1) pa_nil)) (nomark _)))))
  (pss_one (ps_ret pe_bl))
  pss_nil)))
  (pss_cons (ps_for PassesOwn.never rfl (pi_range1 (by rfl) T.n_range (pa_cons (pe_callB (c_lenK (K := K) rfl) (by rfl) T.n_len (by decide +kernel) (pa_cons (pv 1) pa_nil)) pa_nil)) (pg_name (i := 2) sc_law_same.nd rfl (by first | exact Or.inl rfl | exact Or.inr rfl))
  (pss_one (ps_if (pt_not (pt_val (G_law_same.call (hr.mono (by omega)) (by rfl) (pa_cons (pe_ix (ixA (K := K) rfl) (pv 0) (pv 2) (fun _ _ => rfl)) (pa_cons (pe_ix (ixA (K := K) rfl) (pv 1) (pv 2) (fun _ _ => rfl)) pa_nil)))))
  (pss_one (ps_ret pe_bl))
  pss_nil)))
  (pss_one (ps_ret pe_bl))))))))), ?_⟩
    rw [show start ["got", "due", "k"] [x, y] = [some (x), some (y), none] from rfl]
    obtain ⟨d, hx, hy, q⟩ := h
    cases d with
    | non => simp only [Rep] at hx hy; subst hx hy; walk_at "go"; exact q
    | bl b =>
      simp only [Rep] at hx hy; subst hx hy
      cases b
      · walk_at "go"; exact q
      · walk_at "go"; exact q
    | int i => simp only [Rep] at hx hy; subst hx hy; walk_at "go"; exact q
    | str i => simp only [Rep] at hx hy; subst hx hy; walk_at "go"; exact q
    | lst ds =>
      simp only [Rep] at hx
    | tup ds =>
      simp only [Rep] at hx
theorem ok_law_sameS {n : Nat} {f : Addr} {fd : FuncData} (F : Fun K "_law_same" "_law_same" s_law_same f fd) (T : Txt mg) (G_law_same : Def P w K mg base (n + 1) "_law_same" ["got", "due"] (spSame n)) : FnOk P w K mg base CX0 (n + 2) f fd ["got", "due"] (spSame (n + 1)) := by
  refine F.ok sc_law_same (fun vs H Q E h => ?_) (fun cdv A outer s H vs Q E hr h => ?_)
  · obtain ⟨x, y, rfl, _⟩ := h
    rfl
  · obtain ⟨x, y, rfl, h⟩ := h
    refine ⟨_, (pss_cons (ps_if (pt_cmpR o_isN (pv 1) pe_non (nomark _))
  (pss_one (ps_ret (pe_cmpR o_isN (pv 0) pe_non (nomark _))))
  pss_nil)
  (pss_cons (ps_if (pt_cmpR op_isT (pv 1) pe_bl (nomark _))
  (pss_one (ps_ret (pe_cmpR op_isT (pv 0) pe_bl (nomark _))))
  pss_nil)
  (pss_cons (ps_if (pt_cmpR op_isT (pv 1) pe_bl (nomark _))
  (pss_one (ps_ret (pe_cmpR op_isT (pv 0) pe_bl (nomark _))))
  pss_nil)
  (pss_cons (ps_if (pt_val (pe_callB (call_isiK (K := K) rfl) (by rfl) T.n_isinstance (by decide +kernel) (pa_cons (pv 1) (pa_cons (pe_bltn (v := .ty "int") (by rfl) T.n_int (by decide +kernel) rfl) pa_nil))))
  (pss_one (ps_ret (pe_and (pe_callB (call_isiK (K := K) rfl) (by rfl) T.n_isinstance (by decide +kernel) (pa_cons (pv 0) (pa_cons (pe_bltn (v := .ty "int") (by rfl) T.n_int (by decide +kernel) rfl) pa_nil))) (pe_and (pe_not (pe_callB (call_isiK (K := K) rfl) (by rfl) T.n_isinstance (by decide +kernel) (pa_cons (pv 0) (pa_cons (pe_bltn (v := .ty "bool") (by rfl) T.n_bool (by decide +kernel) rfl) pa_nil)))) (pe_one (pe_cmpR op_eq (pv 0) (pv 1) (nomark _)))))))
  pss_nil)
  (pss_cons (ps_if (pt_val (pe_callB (call_isiK (K := K) rfl) (by rfl) T.n_isinstance (by decide +kernel) (pa_cons (pv 1) (pa_cons (pe_bltn (v := .ty "str") (by rfl) T.n_str (by decide +kernel) rfl) pa_nil))))
  (pss_one (ps_ret (pe_and (pe_callB (call_isiK (K := K) rfl) (by rfl) T.n_isinstance (by decide +kernel) (pa_cons (pv 0) (pa_cons (pe_bltn (v := .ty "str") (by rfl) T.n_str (by decide +kernel) rfl) pa_nil))) (pe_one (pe_cmpR op_eq (pv 0) (pv 1) (nomark _))))))
  pss_nil)
  (pss_cons (ps_if (pt_val (pe_callB (call_isiK (K := K) rfl) (by rfl) T.n_isinstance (by decide +kernel) (pa_cons (pv 1) (pa_cons (pe_bltn (v := .ty "tuple") (by rfl) T.n_tuple (by decide +kernel) rfl) pa_nil))))
  (pss_one (ps_if (PW.pt (pw_or (pt_not (pt_val (pe_callB (call_isiK (K := K) rfl) (by rfl) T.n_isinstance (by decide +kernel) (pa_cons (pv 0) (pa_cons (pe_bltn (v := .ty "tuple") (by rfl) T.n_tuple (by decide +kernel) rfl) pa_nil))))) (pw_or1 (pt_cmpR op_ne (pe_callB (c_lenK (K := K) rfl) (by rfl) T.n_len (by decide +kernel) (pa_cons (pv 0) pa_nil)) (pe_callB (c_lenK (K := K) rfl) (by rfl) T.n_len (by decide +kernel) (pa_cons (pv 1) pa_nil)) (nomark _)))))
  (pss_one (ps_ret pe_bl))
  pss_nil))
  (pss_one (ps_if (PW.pt (pw_or (pt_not (pt_val (pe_callB (call_isiK (K := K) rfl) (by rfl) T.n_isinstance (by decide +kernel) (pa_cons (pv 0) (pa_cons (pe_bltn (v := .ty "list") (by rfl) T.n_list (by decide +kernel) rfl) pa_nil))))) (pw_or1 (pt_cmpR op_ne (pe_callB (c_lenK (K := K) rfl) (by rfl) T.n_len (by decide +kernel) (pa_cons (pv 0) pa_nil)) (pe_callB (c_lenK (K := K) rfl) (by rfl) T.n_len (by decide +kernel) (pa_cons (pv 1) pa_nil)) (nomark _)))))
  (pss_one (ps_ret pe_bl))
  pss_nil)))
  (pss_cons (ps_for PassesOwn.never rfl (pi_range1 (by rfl) T.n_range (pa_cons (pe_callB (c_lenK (K := K) rfl) (by rfl) T.n_len (by decide +kernel) (pa_cons (pv 1) pa_nil)) pa_nil)) (pg_name (i := 2) sc_law_same.nd rfl (by first | exact Or.inl rfl | exact Or.inr rfl))
  (pss_one (ps_if (pt_not (pt_val (G_law_same.call (hr.mono (by omega)) (by rfl) (pa_cons (pe_ix (ixA (K := K) rfl) (pv 0) (pv 2) (fun _ _ => rfl)) (pa_cons (pe_ix (ixA (K := K) rfl) (pv 1) (pv 2) (fun _ _ => rfl)) pa_nil)))))
  (pss_one (ps_ret pe_bl))
  pss_nil)))
  (pss_one (ps_ret pe_bl))))))))), ?_⟩
    rw [show start ["got", "due", "k"] [x, y] = [some (x), some (y), none] from rfl]
    obtain ⟨d, hx, hy, q⟩ := h
    cases d with
    | non => simp only [Rep] at hx hy; subst hx hy; walk_at "go"; exact q
    | bl b =>
      simp only [Rep] at hx hy; subst hx hy
      cases b
      · walk_at "go"; exact q
      · walk_at "go"; exact q
    | int i => simp only [Rep] at hx hy; subst hx hy; walk_at "go"; exact q
    | str i => simp only [Rep] at hx hy; subst hx hy; walk_at "go"; exact q
    | lst ds =>
      simp only [Rep] at hx hy
      obtain ⟨a, xs, rfl, ha, hla, hza, hxa⟩ := hx
      obtain ⟨b, ys, rfl, hb, hlb, hzb, hxb⟩ := hy
      walk_at "go"
      refine ite_f (by omega) ?_
      walk_at "go"
      refine ⟨by omega, ?_⟩
      refine loopR (PvSame H (.ref a) (.ref b)) ⟨rfl, _, rfl⟩ ?_ ?_
      · rintro i σ' H' hi ⟨rfl, v, rfl⟩
        walk_at "go"
        have h1 : i < xs.length := by omega
        have h2 : i < ys.length := by omega
        have h3 : i < ds.length := by omega
        refine ixal (by walk_at "hp") (atI_nat (List.getElem?_eq_getElem h1)) ?_
        walk_at "go"
        refine ixal (by walk_at "hp") (atI_nat (List.getElem?_eq_getElem h2)) ?_
        walk_at "go"
        refine ⟨_, _, rfl, ds[i], hxa i _ _ (List.getElem?_eq_getElem h1) (List.getElem?_eq_getElem h3), hxb i _ _ (List.getElem?_eq_getElem h2) (List.getElem?_eq_getElem h3), ?_⟩
        walk_at "go"
        exact ⟨rfl, _, rfl⟩
      · rintro σ' H' ⟨rfl, v, rfl⟩
        walk_at "go"
        exact q
    | tup ds =>
      simp only [Rep] at hx hy
      obtain ⟨a, xs, rfl, ha, hla, hza, hxa⟩ := hx
      obtain ⟨b, ys, rfl, hb, hlb, hzb, hxb⟩ := hy
      walk_at "go"
      refine ite_f (by omega) ?_
      walk_at "go"
      refine ⟨by omega, ?_⟩
      refine loopR (PvSame H (.ref a) (.ref b)) ⟨rfl, _, rfl⟩ ?_ ?_
      · rintro i σ' H' hi ⟨rfl, v, rfl⟩
        walk_at "go"
        have h1 : i < xs.length := by omega
        have h2 : i < ys.length := by omega
        have h3 : i < ds.length := by omega
        refine ixat (by walk_at "hp") (atI_nat (List.getElem?_eq_getElem h1)) ?_
        walk_at "go"
        refine ixat (by walk_at "hp") (atI_nat (List.getElem?_eq_getElem h2)) ?_
        walk_at "go"
        refine ⟨_, _, rfl, ds[i], hxa i _ _ (List.getElem?_eq_getElem h1) (List.getElem?_eq_getElem h3), hxb i _ _ (List.getElem?_eq_getElem h2) (List.getElem?_eq_getElem h3), ?_⟩
        walk_at "go"
        exact ⟨rfl, _, rfl⟩
      · rintro σ' H' ⟨rfl, v, rfl⟩
        walk_at "go"
        exact q
theorem ok_law_any_number {f : Addr} {fd : FuncData} (F : Fun K "_law_any_number" "_law_any_number" s_law_any_number f fd) (T : Txt mg) (G_law_draw : Def P w K mg base 1 "_law_draw" ["pool", "many"] (spDrawL)) : FnOk P w K mg base CX0 2 f fd ["pool", "ahead"] (spAny) := by
  refine F.ok sc_law_any_number (fun vs H Q E h => ?_) (fun cdv A outer s H vs Q E hr h => ?_)
  · obtain ⟨p, a, rfl, _⟩ := h
    rfl
  · obtain ⟨p, a, rfl, h⟩ := h
    refine ⟨_, (pss_cons (ps_set (i := 2) sc_law_any_number.nd rfl (by first | exact Or.inl rfl | exact Or.inr rfl) (G_law_draw.call (hr.mono (by omega)) (by rfl) (pa_cons (pv 0) (pa_cons pe_int pa_nil))))
  (pss_cons (ps_if (pt_cmpR op_eq (pv 2) pe_int (nomark _))
  (pss_one (ps_ret (pv 1)))
  pss_nil)
  (pss_cons (ps_if (pt_cmpR op_eq (pv 2) pe_int (nomark _))
  (pss_one (ps_ret (pe_callB (c_min2 rfl) (by rfl) T.n_min (by decide +kernel) (pa_cons pe_int (pa_cons (pe_op op_addL (pv 1) pe_int) pa_nil)))))
  pss_nil)
  (pss_cons (ps_if (pt_cmpR op_eq (pv 2) pe_int (nomark _))
  (pss_one (ps_ret (pe_op op_sub (G_law_draw.call (hr.mono (by omega)) (by rfl) (pa_cons (pv 0) (pa_cons pe_int pa_nil))) pe_int)))
  pss_nil)
  (pss_one (ps_ret (pe_op op_sub (G_law_draw.call (hr.mono (by omega)) (by rfl) (pa_cons (pv 0) (pa_cons pe_int pa_nil))) pe_int))))))), ?_⟩
    rw [show start ["pool", "ahead", "way"] [.ref p, .int a] = [some (.ref p), some (.int a), none] from rfl]
    obtain ⟨l, hp, ⟨a0, a9⟩, k⟩ := h
    walk_at "go"
    refine ⟨_, _, rfl, l, hp, by decide, by decide, fun w H2 w0 w9 hp2 bt2 => ?_⟩
    walk_at "go"
    refine ite2 (fun e1 => ?_) (fun e1 => ite2 (fun e2 => ?_) (fun e2 => ite2 (fun e3 => ?_) (fun e3 => ?_)))
    · exact k _ _ ⟨a0, a9⟩ hp2 bt2
    · walk_at "go"
      exact k _ _ (by unfold Sm; split <;> omega) hp2 bt2
    · refine ⟨_, _, rfl, l, hp2, by decide, by decide, fun r H3 r0 r9 hp3 bt3 => ?_⟩
      walk_at "go"
      exact k _ _ ⟨by omega, by omega⟩ hp3 (bt2.trans bt3)
    · refine ⟨_, _, rfl, l, hp2, by decide, by decide, fun r H3 r0 r9 hp3 bt3 => ?_⟩
      walk_at "go"
      exact k _ _ ⟨by omega, by omega⟩ hp3 (bt2.trans bt3)
theorem ok_law_plus {f : Addr} {fd : FuncData} (F : Fun K "_law_plus" "_law_plus" s_law_plus f fd) (T : Txt mg) : FnOk P w K mg base CX0 1 f fd ["one", "two"] (spPlus) := by
  refine F.ok sc_law_plus (fun vs H Q E h => ?_) (fun cdv A outer s H vs Q E hr h => ?_)
  · obtain ⟨a, b, rfl, _⟩ := h
    rfl
  · obtain ⟨a, b, rfl, h⟩ := h
    refine ⟨_, (pss_one (ps_ret (pe_tup (pa_cons (pe_op op_addL (pe_ix (ixA (K := K) rfl) (pv 0) pe_int (fun _ _ => rfl)) (pe_ix (ixA (K := K) rfl) (pv 1) pe_int (fun _ _ => rfl))) (pa_cons (pe_op op_addL (pe_ix (ixA (K := K) rfl) (pv 0) pe_int (fun _ _ => rfl)) (pe_ix (ixA (K := K) rfl) (pv 1) pe_int (fun _ _ => rfl))) (pa_cons (pe_op op_addL (pe_ix (ixA (K := K) rfl) (pv 0) pe_int (fun _ _ => rfl)) (pe_ix (ixA (K := K) rfl) (pv 1) pe_int (fun _ _ => rfl))) pa_nil)))))), ?_⟩
    rw [show start ["one", "two"] [.ref a, .ref b] = [some (.ref a), some (.ref b)] from rfl]
    obtain ⟨r, q, ha, hb, k⟩ := h
    walk_at "go"
    intro t ht
    exact k t _ (Ex.refl.new ht) ht upd_same
theorem ok_law_tells {f : Addr} {fd : FuncData} (F : Fun K "_law_tells" "_law_tells" s_law_tells f fd) (T : Txt mg) {C : Addr} (GT : GlT K mg C) (GM_plain : DefM P w K mg base 1 C "plain" ["self"] (spPlain C)) (GP_least : DefP P w K mg base 1 C "least" ["self"] (spLeast C)) (G_law_same : Def P w K mg base 2 "_law_same" ["got", "due"] (spSame 1)) : FnOk P w K mg base CX0 3 f fd ["glue", "row"] (spTells C) := by
  refine F.ok sc_law_tells (fun vs H Q E h => ?_) (fun cdv A outer s H vs Q E hr h => ?_)
  · obtain ⟨a, b, rfl, _⟩ := h
    rfl
  · obtain ⟨a, b, rfl, h⟩ := h
    refine ⟨_, (pss_cons (ps_if (PW.pt (pw_or (pt_not (pt_val (pe_callB (call_isiK (K := K) rfl) (by rfl) T.n_isinstance (by decide +kernel) (pa_cons (pv 0) (pa_cons (pe_glob (v := .ref C) (by rfl) GT.mgC rfl) pa_nil))))) (pw_or1 (pt_not (pt_val (G_law_same.call (hr.mono (by omega)) (by rfl) (pa_cons (GM_plain.call0 (hr.mono (by omega)) (pv 0)) (pa_cons (pv 1) pa_nil))))))))
  (pss_one (ps_ret pe_bl))
  pss_nil)
  (pss_one (ps_ret (G_law_same.call (hr.mono (by omega)) (by rfl) (pa_cons (pe_lst (pa_cons (pe_fldK (K := K) rfl (pv 0)) (pa_cons (pe_fldK (K := K) rfl (pv 0)) (pa_cons (pe_fldK (K := K) rfl (pv 0)) (pa_cons (GP_least.get (hr.mono (by omega)) (pv 0)) pa_nil))))) (pa_cons (pe_op op_addL (pe_callTy (c_listK (K := K) rfl) (by rfl) T.n_list (by decide +kernel) (pa_cons (pv 1) pa_nil)) (pe_lst (pa_cons (pe_op op_sub (pe_ix (ixA (K := K) rfl) (pv 1) pe_int (fun _ _ => rfl)) (pe_ix (ixA (K := K) rfl) (pv 1) pe_int (fun _ _ => rfl))) pa_nil))) pa_nil)))))), ?_⟩
    rw [show start ["glue", "row"] [.ref a, .ref b] = [some (.ref a), some (.ref b)] from rfl]
    obtain ⟨r, ha, hb, k⟩ := h
    walk_at "go"
    refine ⟨_, _, _, _, _, rfl, .own C, ha.ty GT, GT.me, ?_⟩
    obtain ⟨dx, h1⟩ := id ha
    walk_at "go"
    refine rmeth h1 (gfP _) ?_
    walk_at "go"
    refine ⟨_, rfl, r, ha, fun t ht => ?_⟩
    walk_at "go"
    have e1 : Ex H (upd H t (.tup (rowV r))) := Ex.refl.new ht
    have yt : upd H t (.tup (rowV r)) t = some (.tup (rowV r)) := upd_same
    generalize upd H t (.tup (rowV r)) = H1 at *
    refine ⟨_, _, rfl, _, rep_row yt, rep_row (e1 _ _ hb), ?_⟩
    have h2 := e1 _ _ h1
    have hb2 := e1 _ _ hb
    walk_at "go"
    refine rN GT h2 (rS GT h2 (rK GT h2 ?_))
    refine ⟨_, _, _, rfl, h2, _, rfl, r, ⟨_, h2⟩, ?_⟩
    walk_at "go"
    intro u hu
    have e2 : Ex H1 (upd H1 u (.lst [V.int r.1, V.int r.2.1, V.int r.2.2, V.int (r.1 - r.2.2)])) := Ex.refl.new hu
    have yu : upd H1 u (.lst [V.int r.1, V.int r.2.1, V.int r.2.2, V.int (r.1 - r.2.2)]) u = some (.lst ([r.1, r.2.1, r.2.2, r.1 - r.2.2].map V.int)) := upd_same
    generalize upd H1 u (.lst [V.int r.1, V.int r.2.1, V.int r.2.2, V.int (r.1 - r.2.2)]) = H2 at *
    have hb3 := e2 _ _ hb2
    walk_at "go"
    refine Wp.listt (SqT.of hb3) fun v hv => ?_
    have e3 : Ex H2 (upd H2 v (.lst (rowV r))) := Ex.refl.new hv
    have yv : upd H2 v (.lst (rowV r)) v = some (.lst (rowV r)) := upd_same
    generalize upd H2 v (.lst (rowV r)) = H3 at *
    have hb4 := e3 _ _ hb3
    walk_at "go"
    intro z hz
    have e4 : Ex H3 (upd H3 z (.lst [V.int (r.1 - r.2.2)])) := Ex.refl.new hz
    have yz : upd H3 z (.lst [V.int (r.1 - r.2.2)]) z = some (.lst [V.int (r.1 - r.2.2)]) := upd_same
    generalize upd H3 z (.lst [V.int (r.1 - r.2.2)]) = H4 at *
    have yv4 := e4 _ _ yv
    walk_at "go"
    refine Wp.addl yv4 yz (by show 3 + 1 ≤ sizeLine; decide) fun x hx => ?_
    have e5 : Ex H4 (upd H4 x (.lst (rowV r ++ [V.int (r.1 - r.2.2)]))) := Ex.refl.new hx
    have yx : upd H4 x (.lst (rowV r ++ [V.int (r.1 - r.2.2)])) x = some (.lst ([r.1, r.2.1, r.2.2, r.1 - r.2.2].map V.int)) := upd_same
    generalize upd H4 x (.lst (rowV r ++ [V.int (r.1 - r.2.2)])) = H5 at *
    refine ⟨_, _, rfl, _, rep_ints (((e3.trans e4).trans e5) _ _ yu) (by show 4 < 2 ^ 60; decide), rep_ints yx (by show 4 < 2 ^ 60; decide), ?_⟩
    exact k _ ((((e1.trans e2).trans e3).trans e4).trans e5)
end
end K19
namespace K19
open PySem L2 Wp

structure GlsAt (C : Addr) (H : Hp) (a : Addr) (zs : List (Addr × Row)) : Prop where
  at_ : H a = some (.lst (zs.map fun z => V.ref z.1))
  row : ∀ z, z ∈ zs → GA C H z.1 z.2
structure RowsAt (H : Hp) (a : Addr) (zs : List (Addr × Row)) : Prop where
  at_ : H a = some (.lst (zs.map fun z => V.ref z.1))
  row : ∀ z, z ∈ zs → H z.1 = some (.tup (rowV z.2))
theorem GlsAt.ex {C : Addr} {H H' : Hp} {a : Addr} {zs : List (Addr × Row)} (h : GlsAt C H a zs) (e : Ex H H') : GlsAt C H' a zs := ⟨e _ _ h.at_, fun z hz => (h.row z hz).ex e⟩
theorem RowsAt.ex {H H' : Hp} {a : Addr} {zs : List (Addr × Row)} (h : RowsAt H a zs) (e : Ex H H') : RowsAt H' a zs := ⟨e _ _ h.at_, fun z hz => e _ _ (h.row z hz)⟩
def rowsOf (zs : List (Addr × Row)) : List Row := zs.map (·.2)
theorem rows_len {ys zs : List (Addr × Row)} (h : rowsOf ys = rowsOf zs) : ys.length = zs.length := by
  have := congrArg List.length h
  unfold rowsOf at this
  rw [List.length_map, List.length_map] at this
  exact this
theorem rows_get {ys zs : List (Addr × Row)} (h : rowsOf ys = rowsOf zs) {i : Nat} {y z : Addr × Row} (hy : ys[i]? = some y) (hz : zs[i]? = some z) : y.2 = z.2 := by
  have := congrArg (fun l => l[i]?) h
  unfold rowsOf at this
  simp only [List.getElem?_map, hy, hz, Option.map_some] at this
  exact Option.some.inj this
theorem at_ref {zs : List (Addr × Row)} {i : Nat} {z : Addr × Row} (h : zs[i]? = some z) : (zs.map fun z => V.ref z.1)[i]? = some (V.ref z.1) := by rw [List.getElem?_map, h]; rfl
def rowP (r : Row) : PyData := .tuple [.int r.1, .int r.2.1, .int r.2.2]
theorem dp_row {K : PySem.W.Frag} {H : Hp} {a : Addr} {r : Row} (h : H a = some (.tup (rowV r))) : Dp K H (.ref a) (rowP r) := .tup (SqT.of h) (.cons (.int _) (.cons (.int _) (.cons (.int _) .nil)))
theorem eqv_row (r q : Row) : PyData.eqv (rowP r) (rowP q) = decide (r = q) := by
  rw [rowdec]
  unfold rowP
  simp [PyData.eqv, PyData.eqvAll]
  rfl
theorem rEqRow {K : PySem.W.Frag} {H : Hp} {Q : VK} {a b : Addr} {r q : Row} (ha : H a = some (.tup (rowV r))) (hb : H b = some (.tup (rowV q))) (k : Q (.bl (decide (r = q))) H) : rEqD K (.ref a) (.ref b) H Q := ⟨_, _, dp_row ha, dp_row hb, rfl, rfl, by rw [eqv_row]; exact k⟩
theorem rOwnAdd {C a b : Addr} {H : Hp} {Q : VK} {r q : Row} (ha : GA C H a r) (hb : GA C H b q) (k : ∀ c H', Ex H H' → H c = none → GA C H' c (plusR r q) → Q (.ref c) H') : rOwn C (spAdd C) (fun _ _ _ => False) (.ref a) (.ref b) H Q := by
  obtain ⟨d1, h1⟩ := id ha
  obtain ⟨d2, h2⟩ := id hb
  exact ⟨_, _, _, _, _, _, rfl, rfl, h1, h2, _, _, rfl, r, q, ha, hb, k⟩
theorem rOwnEq {K : PySem.W.Frag} {mg : Str → Option Value} {C a b : Addr} {H : Hp} {Q : VK} {r q : Row} (T : GlT K mg C) (ha : GA C H a r) (hb : GA C H b q) (k : Q (.bl (decide (r = q))) H) : rOwnX K C (spEq K C) (fun _ _ _ => False) (.ref a) (.ref b) H Q := by
  obtain ⟨d1, h1⟩ := id ha
  exact ⟨_, _, _, _, rfl, h1, hb.ty T, by simp [PySem.W.notFirst], _, _, rfl, r, ha, .inl ⟨_, q, rfl, hb, k⟩⟩
theorem rOwnNo {K : PySem.W.Frag} {C a : Addr} {H : Hp} {Q : VK} {r : Row} {y : V} {T : String} (ha : GA C H a r) (ty : TyX K H y (.type T)) (o : Oth K C T) (k : Q (.bl false) H) : rOwnX K C (spEq K C) (fun _ _ _ => False) (.ref a) y H Q := by
  obtain ⟨d1, h1⟩ := id ha
  exact ⟨_, _, _, _, rfl, h1, ty, by simp [PySem.W.notFirst, o.n], _, _, rfl, r, ha, .inr ⟨T, ty, o, k⟩⟩
theorem rep_b {H : Hp} {b : Bool} : Rep H 1 (.bl b) (.bl b) := by simp only [Rep]
theorem same_b {H : Hp} {Q : VK} {b : Bool} (k : Q (.bl true) H) : spSame 1 [.bl b, .bl b] H Q (fun _ _ _ => False) := ⟨_, _, rfl, .bl b, rep_b, rep_b, k⟩
theorem plusR_comm (r q : Row) : plusR r q = plusR q r := by
  unfold plusR
  rw [Int.add_comm r.1, Int.add_comm r.2.1, Int.add_comm r.2.2]
theorem plusR_assoc (r q s : Row) : plusR (plusR r q) s = plusR r (plusR q s) := by
  unfold plusR
  simp only [Int.add_assoc]
theorem plusR_zero (r : Row) : plusR r (0, 0, 0) = r := by
  unfold plusR
  simp only [Int.add_zero]
theorem zero_plusR (r : Row) : plusR (0, 0, 0) r = r := by rw [plusR_comm, plusR_zero]
theorem plusR_same (r q : Row) : (plusR r q = r) = (q = (0, 0, 0)) := by
  obtain ⟨a, b, c⟩ := r
  obtain ⟨d, e, f⟩ := q
  unfold plusR
  simp only [Prod.mk.injEq, eq_iff_iff]
  omega
theorem pick2 {C a b : Addr} {H : Hp} {ys zs : List (Addr × Row)} (hg : GlsAt C H a ys) (hr : RowsAt H b zs) (h : rowsOf ys = rowsOf zs) {i : Nat} (hi : i < zs.length) : ∃ (ya za : Addr) (r : Row), (ys.map fun z => V.ref z.1)[i]? = some (V.ref ya) ∧ (zs.map fun z => V.ref z.1)[i]? = some (V.ref za) ∧ (∀ G, Ex H G → GA C G ya r) ∧ (∀ G, Ex H G → G za = some (.tup (rowV r))) ∧ zs[i]? = some (za, r) := by
  have hl := rows_len h
  have hy : ys[i]? = some (ys[i]'(by omega)) := List.getElem?_eq_getElem (by omega)
  have hz : zs[i]? = some zs[i] := List.getElem?_eq_getElem hi
  have e := rows_get h hy hz
  have m1 := List.mem_of_getElem? hy
  have m2 := List.mem_of_getElem? hz
  refine ⟨_, _, _, at_ref hy, at_ref hz, fun G e2 => (hg.row _ m1).ex e2, fun G e2 => ?_, ?_⟩
  · rw [e]
    exact e2 _ _ (hr.row _ m2)
  · rw [e]
    exact hz
def spPairs (C : Addr) : Sp := fun vs H Q _ => ∃ (a b : Addr), vs = [.ref a, .ref b] ∧ ∃ ys zs, GlsAt C H a ys ∧ RowsAt H b zs ∧ rowsOf ys = rowsOf zs ∧ zs.length ≤ 6 ∧ ∀ H', Ex H H' → Q (.bl true) H'
def PvN (G : Hp) (st : List (Option V)) (n : Nat) : Nat → L2.St → Hp → Prop := fun _ σ' H' => Ex G H' ∧ ∃ l : List (Option V), l.length = n ∧ σ' = st ++ l
section
variable {P : Program} {w : World} {K : PySem.W.Frag} {mg : Str → Option Value} {base : Heap}
theorem ok_law_pairs {f : Addr} {fd : FuncData} (F : Fun K "_law_pairs" "_law_pairs" s_law_pairs f fd) (T : Txt mg) {C : Addr} (GT : GlT K mg C) (GO_add : DefO P w K mg base 3 C "__add__" ["self", "other"] (spAdd C)) (GO_eq : DefO P w K mg base 1 C "__eq__" ["self", "other"] (spEq K C)) (G_law_plus : Def P w K mg base 1 "_law_plus" ["one", "two"] (spPlus)) (G_law_tells : Def P w K mg base 3 "_law_tells" ["glue", "row"] (spTells C)) (G_law_same : Def P w K mg base 2 "_law_same" ["got", "due"] (spSame 1)) : FnOk P w K mg base CX0 5 f fd ["glues", "rows"] (spPairs C) := by
  refine F.ok sc_law_pairs (fun vs H Q E h => ?_) (fun cdv A outer s H vs Q E hr h => ?_)
  · obtain ⟨a, b, rfl, _⟩ := h
    rfl
  · obtain ⟨a, b, rfl, h⟩ := h
    refine ⟨_, (pss_cons (ps_for PassesOwn.never rfl (pi_range1 (by rfl) T.n_range (pa_cons (pe_callB (c_lenK (K := K) rfl) (by rfl) T.n_len (by decide +kernel) (pa_cons (pv 1) pa_nil)) pa_nil)) (pg_name (i := 2) sc_law_pairs.nd rfl (by first | exact Or.inl rfl | exact Or.inr rfl))
  (pss_one (ps_for PassesOwn.never rfl (pi_range1 (by rfl) T.n_range (pa_cons (pe_callB (c_lenK (K := K) rfl) (by rfl) T.n_len (by decide +kernel) (pa_cons (pv 1) pa_nil)) pa_nil)) (pg_name (i := 3) sc_law_pairs.nd rfl (by first | exact Or.inl rfl | exact Or.inr rfl))
  (pss_cons (ps_set (i := 4) sc_law_pairs.nd rfl (by first | exact Or.inl rfl | exact Or.inr rfl) (pe_op (GO_add.bin .Add (hr.mono (by omega))) (pe_ix (ixA (K := K) rfl) (pv 0) (pv 2) (fun _ _ => rfl)) (pe_ix (ixA (K := K) rfl) (pv 0) (pv 3) (fun _ _ => rfl))))
  (pss_cons (ps_set (i := 5) sc_law_pairs.nd rfl (by first | exact Or.inl rfl | exact Or.inr rfl) (G_law_plus.call (hr.mono (by omega)) (by rfl) (pa_cons (pe_ix (ixA (K := K) rfl) (pv 1) (pv 2) (fun _ _ => rfl)) (pa_cons (pe_ix (ixA (K := K) rfl) (pv 1) (pv 3) (fun _ _ => rfl)) pa_nil))))
  (pss_cons (ps_if (PW.pt (pw_or (pt_not (pt_val (G_law_tells.call (hr.mono (by omega)) (by rfl) (pa_cons (pv 4) (pa_cons (pv 5) pa_nil))))) (pw_or1 (pt_not (pt_val (G_law_same.call (hr.mono (by omega)) (by rfl) (pa_cons (pe_cmpR (GO_eq.eq (K := K) rfl (hr.mono (by omega))) (pv 4) (pe_op (GO_add.bin .Add (hr.mono (by omega))) (pe_ix (ixA (K := K) rfl) (pv 0) (pv 3) (fun _ _ => rfl)) (pe_ix (ixA (K := K) rfl) (pv 0) (pv 2) (fun _ _ => rfl))) (nomark _)) (pa_cons pe_bl pa_nil))))))))
  (pss_one (ps_ret pe_bl))
  pss_nil)
  (pss_cons (ps_if (pt_not (pt_val (G_law_same.call (hr.mono (by omega)) (by rfl) (pa_cons (pe_cmpR (GO_eq.eq (K := K) rfl (hr.mono (by omega))) (pe_ix (ixA (K := K) rfl) (pv 0) (pv 2) (fun _ _ => rfl)) (pe_ix (ixA (K := K) rfl) (pv 0) (pv 3) (fun _ _ => rfl)) (nomark _)) (pa_cons (pe_cmpR (op_eqDK (K := K) rfl hr.units) (pe_ix (ixA (K := K) rfl) (pv 1) (pv 2) (fun _ _ => rfl)) (pe_ix (ixA (K := K) rfl) (pv 1) (pv 3) (fun _ _ => rfl)) (nomark _)) pa_nil)))))
  (pss_one (ps_ret pe_bl))
  pss_nil)
  (pss_one (ps_for PassesOwn.never rfl (pi_range1 (by rfl) T.n_range (pa_cons (pe_callB (c_lenK (K := K) rfl) (by rfl) T.n_len (by decide +kernel) (pa_cons (pv 1) pa_nil)) pa_nil)) (pg_name (i := 6) sc_law_pairs.nd rfl (by first | exact Or.inl rfl | exact Or.inr rfl))
  (pss_cons (ps_set (i := 7) sc_law_pairs.nd rfl (by first | exact Or.inl rfl | exact Or.inr rfl) (pe_op (GO_add.bin .Add (hr.mono (by omega))) (pv 4) (pe_ix (ixA (K := K) rfl) (pv 0) (pv 6) (fun _ _ => rfl))))
  (pss_cons (ps_if (pt_not (pt_val (G_law_tells.call (hr.mono (by omega)) (by rfl) (pa_cons (pv 7) (pa_cons (G_law_plus.call (hr.mono (by omega)) (by rfl) (pa_cons (pv 5) (pa_cons (pe_ix (ixA (K := K) rfl) (pv 1) (pv 6) (fun _ _ => rfl)) pa_nil))) pa_nil)))))
  (pss_one (ps_ret pe_bl))
  pss_nil)
  (pss_cons (ps_if (pt_not (pt_val (G_law_same.call (hr.mono (by omega)) (by rfl) (pa_cons (pe_cmpR (GO_eq.eq (K := K) rfl (hr.mono (by omega))) (pv 7) (pe_op (GO_add.bin .Add (hr.mono (by omega))) (pe_ix (ixA (K := K) rfl) (pv 0) (pv 2) (fun _ _ => rfl)) (pe_op (GO_add.bin .Add (hr.mono (by omega))) (pe_ix (ixA (K := K) rfl) (pv 0) (pv 3) (fun _ _ => rfl)) (pe_ix (ixA (K := K) rfl) (pv 0) (pv 6) (fun _ _ => rfl)))) (nomark _)) (pa_cons pe_bl pa_nil)))))
  (pss_one (ps_ret pe_bl))
  pss_nil)
  (pss_one (ps_if (pt_not (pt_val (G_law_same.call (hr.mono (by omega)) (by rfl) (pa_cons (pe_cmpR (GO_eq.eq (K := K) rfl (hr.mono (by omega))) (pv 7) (pv 4) (nomark _)) (pa_cons (pe_cmpR (op_eqDK (K := K) rfl hr.units) (pe_ix (ixA (K := K) rfl) (pv 1) (pv 6) (fun _ _ => rfl)) (pe_tup (pa_cons pe_int (pa_cons pe_int (pa_cons pe_int pa_nil)))) (nomark _)) pa_nil)))))
  (pss_one (ps_ret pe_bl))
  pss_nil))))))))))))))
  (pss_one (ps_ret pe_bl))), ?_⟩
    rw [show start ["glues", "rows", "k", "n", "both", "due", "m", "three"] [.ref a, .ref b] = [some (.ref a), some (.ref b), none, none, none, none, none, none] from rfl]
    obtain ⟨ys, zs, hg, hr, hys, hl, k⟩ := h
    have hyl := rows_len hys
    have hrat := hr.at_
    have GL : ∀ G, Ex H G → G a = some (.lst (ys.map fun z => V.ref z.1)) := fun G e => e _ _ hg.at_
    have RL : ∀ G, Ex H G → G b = some (.lst (zs.map fun z => V.ref z.1)) := fun G e => e _ _ hr.at_
    walk_at "go"
    rw [List.length_map]
    refine ⟨by omega, ?_⟩
    rw [show ((zs.length : Int)).toNat = zs.length by omega]
    refine loopR (PvN H [some (V.ref a), some (V.ref b)] 6) ⟨Ex.refl, [none, none, none, none, none, none], rfl, rfl⟩ ?_ ?_
    · rintro i σ' H1 hi ⟨e1, l, hl1, rfl⟩
      obtain ⟨l1, l2, l3, l4, l5, l6, rfl⟩ : ∃ l1 l2 l3 l4 l5 l6, l = [l1, l2, l3, l4, l5, l6] := by
        match l, hl1 with
        | [l1, l2, l3, l4, l5, l6], _ => exact ⟨l1, l2, l3, l4, l5, l6, rfl⟩
      obtain ⟨yi, zi, ri, hyi, hzi, gi, wi, _⟩ := pick2 hg hr hys hi
      have hrat1 := RL _ e1
      walk_at "go"
      rw [List.length_map]
      refine ⟨by omega, ?_⟩
      rw [show ((zs.length : Int)).toNat = zs.length by omega]
      refine loopR (PvN H1 [some (V.ref a), some (V.ref b), some (V.int i)] 5) ⟨Ex.refl, [l2, l3, l4, l5, l6], rfl, rfl⟩ ?_ ?_
      · rintro j σ' H2 hj ⟨e2, l, hl2, rfl⟩
        obtain ⟨l1, l2, l3, l4, l5, rfl⟩ : ∃ l1 l2 l3 l4 l5, l = [l1, l2, l3, l4, l5] := by
          match l, hl2 with
          | [l1, l2, l3, l4, l5], _ => exact ⟨l1, l2, l3, l4, l5, rfl⟩
        obtain ⟨yj, zj, rj, hyj, hzj, gj, wj, _⟩ := pick2 hg hr hys hj
        have x2 := e1.trans e2
        walk_at "go"
        refine ixal (GL _ x2) (atI_nat hyi) ?_
        walk_at "go"
        refine ixal (GL _ x2) (atI_nat hyj) ?_
        walk_at "go"
        refine rOwnAdd (gi _ x2) (gj _ x2) fun c H3 e3 c0 hc => ?_
        have x3 := x2.trans e3
        walk_at "go"
        refine ixal (RL _ x3) (atI_nat hzi) ?_
        walk_at "go"
        refine ixal (RL _ x3) (atI_nat hzj) ?_
        walk_at "go"
        refine ⟨_, _, rfl, ri, rj, wi _ x3, wj _ x3, fun t H4 e4 t0 ht => ?_⟩
        have x4 := x3.trans e4
        have hc4 := hc.ex e4
        walk_at "go"
        refine ⟨_, _, rfl, plusR ri rj, hc4, ht, fun H5 e5 => ?_⟩
        have x5 := x4.trans e5
        have hc5 := hc4.ex e5
        have ht5 := e5 _ _ ht
        walk_at "go"
        refine ixal (GL _ x5) (atI_nat hyj) ?_
        walk_at "go"
        refine ixal (GL _ x5) (atI_nat hyi) ?_
        walk_at "go"
        refine rOwnAdd (gj _ x5) (gi _ x5) fun d H6 e6 d0 hd => ?_
        have x6 := x5.trans e6
        have hc6 := hc5.ex e6
        walk_at "go"
        refine rOwnEq GT hc6 hd ?_
        rw [decide_eq_true (plusR_comm ri rj)]
        walk_at "go"
        refine same_b ?_
        walk_at "go"
        refine ixal (GL _ x6) (atI_nat hyi) ?_
        walk_at "go"
        refine ixal (GL _ x6) (atI_nat hyj) ?_
        walk_at "go"
        refine rOwnEq GT (gi _ x6) (gj _ x6) ?_
        walk_at "go"
        refine ixal (RL _ x6) (atI_nat hzi) ?_
        walk_at "go"
        refine ixal (RL _ x6) (atI_nat hzj) ?_
        walk_at "go"
        refine rEqRow (wi _ x6) (wj _ x6) ?_
        walk_at "go"
        refine same_b ?_
        have ht6 := e6 _ _ ht5
        have hrat6 := RL _ x6
        have z26 := ((e3.trans e4).trans e5).trans e6
        walk_at "go"
        rw [List.length_map]
        refine ⟨by omega, ?_⟩
        rw [show ((zs.length : Int)).toNat = zs.length by omega]
        refine loopR (PvN H6 [some (V.ref a), some (V.ref b), some (V.int i), some (V.int j), some (V.ref c), some (V.ref t)] 2) ⟨Ex.refl, [l4, l5], rfl, rfl⟩ ?_ ?_
        · rintro m σ' H7 hm ⟨e7, l, hl3, rfl⟩
          obtain ⟨l1, l2, rfl⟩ : ∃ l1 l2, l = [l1, l2] := by
            match l, hl3 with
            | [l1, l2], _ => exact ⟨l1, l2, rfl⟩
          obtain ⟨ym, zm, rm, hym, hzm, gm, wm, _⟩ := pick2 hg hr hys hm
          have x7 := x6.trans e7
          have hc7 := hc6.ex e7
          have ht7 := e7 _ _ ht6
          walk_at "go"
          refine ixal (GL _ x7) (atI_nat hym) ?_
          walk_at "go"
          refine rOwnAdd hc7 (gm _ x7) fun f3 H8 e8 f0 hf => ?_
          have x8 := x7.trans e8
          have ht8 := e8 _ _ ht7
          walk_at "go"
          refine ixal (RL _ x8) (atI_nat hzm) ?_
          walk_at "go"
          refine ⟨_, _, rfl, plusR ri rj, rm, ht8, wm _ x8, fun u H9 e9 u0 hu => ?_⟩
          have x9 := x8.trans e9
          have hf9 := hf.ex e9
          walk_at "go"
          refine ⟨_, _, rfl, plusR (plusR ri rj) rm, hf9, hu, fun Ha ea => ?_⟩
          have xa := x9.trans ea
          have hfa := hf9.ex ea
          walk_at "go"
          refine ixal (GL _ xa) (atI_nat hyi) ?_
          walk_at "go"
          refine ixal (GL _ xa) (atI_nat hyj) ?_
          walk_at "go"
          refine ixal (GL _ xa) (atI_nat hym) ?_
          walk_at "go"
          refine rOwnAdd (gj _ xa) (gm _ xa) fun g1 Hb eb g0 hg1 => ?_
          have xb := xa.trans eb
          walk_at "go"
          refine rOwnAdd (gi _ xb) hg1 fun g2 Hc ec g20 hg2 => ?_
          have xc := xb.trans ec
          have hfc := (hfa.ex eb).ex ec
          walk_at "go"
          refine rOwnEq GT hfc hg2 ?_
          rw [decide_eq_true (plusR_assoc ri rj rm)]
          walk_at "go"
          refine same_b ?_
          have hcc := ((((hc7.ex e8).ex e9).ex ea).ex eb).ex ec
          walk_at "go"
          refine rOwnEq GT hfc hcc ?_
          walk_at "go"
          refine ixal (RL _ xc) (atI_nat hzm) ?_
          have ez : (decide (plusR (plusR ri rj) rm = plusR ri rj)) = decide (rm = (0, 0, 0)) := by simp only [plusR_same]
          rw [ez]
          walk_at "go"
          intro w hw
          walk_at "go"
          refine rEqRow (u_ne (ne_of_none (wm _ xc) hw) (wm _ xc)) (r := rm) (q := (0, 0, 0)) upd_same ?_
          walk_at "go"
          refine same_b ?_
          walk_at "go"
          exact ⟨((((((e7.trans e8).trans e9).trans ea).trans eb).trans ec).new hw), [_, _], rfl, rfl⟩
        · rintro σ' H7 ⟨e7, l, hl3, rfl⟩
          walk_at "go"
          obtain ⟨l1, l2, rfl⟩ : ∃ l1 l2, l = [l1, l2] := by
            match l, hl3 with
            | [l1, l2], _ => exact ⟨l1, l2, rfl⟩
          exact ⟨(e2.trans z26).trans e7, [_, _, _, l1, l2], rfl, rfl⟩
      · rintro σ' H2 ⟨e2, l, hl2, rfl⟩
        walk_at "go"
        exact ⟨e1.trans e2, some (V.int i) :: l, by rw [List.length_cons, hl2], rfl⟩
    · rintro σ' H1 ⟨e1, l, hl1, rfl⟩
      walk_at "go"
      exact k _ e1
end
end K19
namespace K19
open PySem L2 Wp

theorem made {C : Addr} {E : XK} {H : Hp} {Q : VK} {a b c : Int} (k : ∀ x H', Ex H H' → H x = none → GA C H' x (a, b, c) → Q (.ref x) H') : rMake C (spGinit C) E [.int a, .int b, .int c] H Q := by
  intro x dx hx hdx nxd
  refine ⟨_, _, _, _, rfl, dx, upd_same, rfl, ?_⟩
  rw [upd_upd]
  exact k _ _ ((Ex.refl.new hdx).new (by rw [upd_ne nxd.symm]; exact hx)) hx ⟨dx, upd_same⟩
def spLike (C : Addr) : Sp := fun vs H Q _ => ∃ (a b : Addr), vs = [.ref a, .ref b] ∧ ∃ r, GA C H a r ∧ H b = some (.tup (rowV r)) ∧ Sm r.1 ∧ ∀ H', Ex H H' → Q (.bl true) H'
def spAlone (C : Addr) : Sp := fun vs H Q _ => ∃ (a b : Addr), vs = [.ref a, .ref b] ∧ ∃ ys zs, GlsAt C H a ys ∧ RowsAt H b zs ∧ rowsOf ys = rowsOf zs ∧ zs.length ≤ 6 ∧ (∀ z, z ∈ zs → Sm z.2.1) ∧ ∀ H', Ex H H' → Q (.bl true) H'
theorem small_log {n : Int} (h : Sm n) : n.natAbs.log2 < 1920 := by
  unfold Sm at h
  by_cases e : n.natAbs = 0
  · rw [e]; decide
  · have h1 : n.natAbs < 2 ^ 14 := by omega
    have := (Nat.log2_lt e).mpr h1
    omega
def ThOk (K : PySem.W.Frag) (C : Addr) (H : Hp) (x : V) : Prop := ∃ T, TyX K H x (.type T) ∧ Oth K C T
theorem thi {K : PySem.W.Frag} {mg : Str → Option Value} {C : Addr} (T : GlT K mg C) {H : Hp} (i : Int) : ThOk K C H (.int i) := ⟨_, .base (.int i), T.o1⟩
section
variable {P : Program} {w : World} {K : PySem.W.Frag} {mg : Str → Option Value} {base : Heap}
theorem ok_law_like {f : Addr} {fd : FuncData} (F : Fun K "_law_like" "_law_like" s_law_like f fd) (T : Txt mg) {C : Addr} (GT : GlT K mg C) (GO_add : DefO P w K mg base 3 C "__add__" ["self", "other"] (spAdd C)) (GO_eq : DefO P w K mg base 1 C "__eq__" ["self", "other"] (spEq K C)) (GC_Glue : DefC P w K mg base 1 "Glue" C ["self", "natural", "stretch", "shrink"] (spGinit C)) (G_law_same : Def P w K mg base 2 "_law_same" ["got", "due"] (spSame 1)) : FnOk P w K mg base CX0 4 f fd ["glue", "row"] (spLike C) := by
  refine F.ok sc_law_like (fun vs H Q E h => ?_) (fun cdv A outer s H vs Q E hr h => ?_)
  · obtain ⟨a, b, rfl, _⟩ := h
    rfl
  · obtain ⟨a, b, rfl, h⟩ := h
    refine ⟨_, (pss_cons (ps_if (pt_not (pt_val (G_law_same.call (hr.mono (by omega)) (by rfl) (pa_cons (pe_cmpR (GO_eq.eq (K := K) rfl (hr.mono (by omega))) (pv 0) (GC_Glue.call (hr.mono (by omega)) (by rfl) (pa_cons (pe_ix (ixA (K := K) rfl) (pv 1) pe_int (fun _ _ => rfl)) (pa_cons (pe_ix (ixA (K := K) rfl) (pv 1) pe_int (fun _ _ => rfl)) (pa_cons (pe_ix (ixA (K := K) rfl) (pv 1) pe_int (fun _ _ => rfl)) pa_nil)))) (nomark _)) (pa_cons pe_bl pa_nil)))))
  (pss_one (ps_ret pe_bl))
  pss_nil)
  (pss_cons (ps_for PassesOwn.never rfl (pi_listK (K := K) rfl (pe_lst (pa_cons (pe_tup (pa_cons (pe_op op_addL (pe_ix (ixA (K := K) rfl) (pv 1) pe_int (fun _ _ => rfl)) pe_int) (pa_cons (pe_ix (ixA (K := K) rfl) (pv 1) pe_int (fun _ _ => rfl)) (pa_cons (pe_ix (ixA (K := K) rfl) (pv 1) pe_int (fun _ _ => rfl)) pa_nil)))) (pa_cons (pe_tup (pa_cons (pe_ix (ixA (K := K) rfl) (pv 1) pe_int (fun _ _ => rfl)) (pa_cons (pe_op op_sub (pe_ix (ixA (K := K) rfl) (pv 1) pe_int (fun _ _ => rfl)) pe_int) (pa_cons (pe_ix (ixA (K := K) rfl) (pv 1) pe_int (fun _ _ => rfl)) pa_nil)))) (pa_cons (pe_tup (pa_cons (pe_ix (ixA (K := K) rfl) (pv 1) pe_int (fun _ _ => rfl)) (pa_cons (pe_ix (ixA (K := K) rfl) (pv 1) pe_int (fun _ _ => rfl)) (pa_cons (pe_op op_addL (pe_ix (ixA (K := K) rfl) (pv 1) pe_int (fun _ _ => rfl)) pe_int) pa_nil)))) pa_nil))))) (pg_name (i := 2) sc_law_like.nd rfl (by first | exact Or.inl rfl | exact Or.inr rfl))
  (pss_one (ps_if (pt_not (pt_val (G_law_same.call (hr.mono (by omega)) (by rfl) (pa_cons (pe_cmpR (GO_eq.eq (K := K) rfl (hr.mono (by omega))) (pv 0) (GC_Glue.call (hr.mono (by omega)) (by rfl) (pa_cons (pe_ix (ixA (K := K) rfl) (pv 2) pe_int (fun _ _ => rfl)) (pa_cons (pe_ix (ixA (K := K) rfl) (pv 2) pe_int (fun _ _ => rfl)) (pa_cons (pe_ix (ixA (K := K) rfl) (pv 2) pe_int (fun _ _ => rfl)) pa_nil)))) (nomark _)) (pa_cons pe_bl pa_nil)))))
  (pss_one (ps_ret pe_bl))
  pss_nil)))
  (pss_cons (ps_for PassesOwn.never rfl (pi_listK (K := K) rfl (pe_lst (pa_cons (pe_tup (pa_cons (pe_ix (ixA (K := K) rfl) (pv 1) pe_int (fun _ _ => rfl)) (pa_cons (pe_ix (ixA (K := K) rfl) (pv 1) pe_int (fun _ _ => rfl)) (pa_cons (pe_ix (ixA (K := K) rfl) (pv 1) pe_int (fun _ _ => rfl)) pa_nil)))) (pa_cons (pe_tup (pa_cons (pe_ix (ixA (K := K) rfl) (pv 1) pe_int (fun _ _ => rfl)) (pa_cons (pe_ix (ixA (K := K) rfl) (pv 1) pe_int (fun _ _ => rfl)) (pa_cons (pe_ix (ixA (K := K) rfl) (pv 1) pe_int (fun _ _ => rfl)) pa_nil)))) (pa_cons (pe_tup (pa_cons (pe_ix (ixA (K := K) rfl) (pv 1) pe_int (fun _ _ => rfl)) (pa_cons (pe_ix (ixA (K := K) rfl) (pv 1) pe_int (fun _ _ => rfl)) (pa_cons (pe_ix (ixA (K := K) rfl) (pv 1) pe_int (fun _ _ => rfl)) pa_nil)))) pa_nil))))) (pg_name (i := 3) sc_law_like.nd rfl (by first | exact Or.inl rfl | exact Or.inr rfl))
  (pss_one (ps_if (pt_not (pt_val (G_law_same.call (hr.mono (by omega)) (by rfl) (pa_cons (pe_cmpR (GO_eq.eq (K := K) rfl (hr.mono (by omega))) (pv 0) (GC_Glue.call (hr.mono (by omega)) (by rfl) (pa_cons (pe_ix (ixA (K := K) rfl) (pv 3) pe_int (fun _ _ => rfl)) (pa_cons (pe_ix (ixA (K := K) rfl) (pv 3) pe_int (fun _ _ => rfl)) (pa_cons (pe_ix (ixA (K := K) rfl) (pv 3) pe_int (fun _ _ => rfl)) pa_nil)))) (nomark _)) (pa_cons (pe_cmpR (op_eqDK (K := K) rfl hr.units) (pv 3) (pv 1) (nomark _)) pa_nil)))))
  (pss_one (ps_ret pe_bl))
  pss_nil)))
  (pss_cons (ps_for PassesOwn.never rfl (pi_listK (K := K) rfl (pe_lst (pa_cons (pv 1) (pa_cons (pe_callTy (c_listK (K := K) rfl) (by rfl) T.n_list (by decide +kernel) (pa_cons (pv 1) pa_nil)) (pa_cons (pe_ix (ixA (K := K) rfl) (pv 1) pe_int (fun _ _ => rfl)) (pa_cons (pe_op op_sub (pe_ix (ixA (K := K) rfl) (pv 1) pe_int (fun _ _ => rfl)) (pe_ix (ixA (K := K) rfl) (pv 1) pe_int (fun _ _ => rfl))) (pa_cons pe_str (pa_cons (pe_callTy call_str_int (by rfl) T.n_str (by decide +kernel) (pa_cons (pe_ix (ixA (K := K) rfl) (pv 1) pe_int (fun _ _ => rfl)) pa_nil)) (pa_cons pe_non (pa_cons pe_bl (pa_cons pe_dnewT pa_nil))))))))))) (pg_name (i := 4) sc_law_like.nd rfl (by first | exact Or.inl rfl | exact Or.inr rfl))
  (pss_one (ps_if (pt_not (pt_val (G_law_same.call (hr.mono (by omega)) (by rfl) (pa_cons (pe_cmpR (GO_eq.eq (K := K) rfl (hr.mono (by omega))) (pv 0) (pv 4) (nomark _)) (pa_cons pe_bl pa_nil)))))
  (pss_one (ps_ret pe_bl))
  pss_nil)))
  (pss_one (ps_ret pe_bl)))))), ?_⟩
    rw [show start ["glue", "row", "near", "turned", "thing"] [.ref a, .ref b] = [some (.ref a), some (.ref b), none, none, none] from rfl]
    obtain ⟨r, ha, hb, hsm, k⟩ := h
    walk_at "go"
    refine made fun g0 A0 xA g00 hg0 => ?_
    walk_at "go"
    refine rOwnEq GT (ha.ex xA) hg0 ?_
    rw [decide_eq_true (show r = (r.1, r.2.1, r.2.2) from rfl)]
    walk_at "go"
    refine same_b ?_
    have hb_A0 := xA _ _ hb
    walk_at "go"
    intro bt1 bh1
    have x_bt1 : Ex A0 (upd A0 bt1 (.tup [V.int (r.1 + 1), V.int (r.2.1), V.int (r.2.2)])) := Ex.refl.new bh1
    have y_bt1 : upd A0 bt1 (.tup [V.int (r.1 + 1), V.int (r.2.1), V.int (r.2.2)]) bt1 = some (.tup [V.int (r.1 + 1), V.int (r.2.1), V.int (r.2.2)]) := upd_same
    generalize upd A0 bt1 (.tup [V.int (r.1 + 1), V.int (r.2.1), V.int (r.2.2)]) = B1 at *
    have hb_B1 := x_bt1 _ _ hb_A0
    walk_at "go"
    intro bt2 bh2
    have x_bt2 : Ex B1 (upd B1 bt2 (.tup [V.int (r.1), V.int (r.2.1 - 1), V.int (r.2.2)])) := Ex.refl.new bh2
    have y_bt2 : upd B1 bt2 (.tup [V.int (r.1), V.int (r.2.1 - 1), V.int (r.2.2)]) bt2 = some (.tup [V.int (r.1), V.int (r.2.1 - 1), V.int (r.2.2)]) := upd_same
    generalize upd B1 bt2 (.tup [V.int (r.1), V.int (r.2.1 - 1), V.int (r.2.2)]) = B2 at *
    have hb_B2 := x_bt2 _ _ hb_B1
    walk_at "go"
    intro bt3 bh3
    have x_bt3 : Ex B2 (upd B2 bt3 (.tup [V.int (r.1), V.int (r.2.1), V.int (r.2.2 + 1)])) := Ex.refl.new bh3
    have y_bt3 : upd B2 bt3 (.tup [V.int (r.1), V.int (r.2.1), V.int (r.2.2 + 1)]) bt3 = some (.tup [V.int (r.1), V.int (r.2.1), V.int (r.2.2 + 1)]) := upd_same
    generalize upd B2 bt3 (.tup [V.int (r.1), V.int (r.2.1), V.int (r.2.2 + 1)]) = B3 at *
    have hb_B3 := x_bt3 _ _ hb_B2
    walk_at "go"
    intro bl blh
    have x_bl : Ex B3 (upd B3 bl (.lst [.ref bt1, .ref bt2, .ref bt3])) := Ex.refl.new blh
    have y_bl : upd B3 bl (.lst [.ref bt1, .ref bt2, .ref bt3]) bl = some (.lst [.ref bt1, .ref bt2, .ref bt3]) := upd_same
    generalize upd B3 bl (.lst [.ref bt1, .ref bt2, .ref bt3]) = BL at *
    have hb_BL := x_bl _ _ hb_B3
    walk_at "go"
    have bz1 := x_bl _ _ (x_bt3 _ _ (x_bt2 _ _ y_bt1))
    have bz2 := x_bl _ _ (x_bt3 _ _ y_bt2)
    have bz3 := x_bl _ _ y_bt3
    have bx : Ex A0 BL := x_bt1.trans (x_bt2.trans (x_bt3.trans x_bl))

    refine loopL [.ref bt1, .ref bt2, .ref bt3] (PvN BL [some (V.ref a), some (V.ref b)] 3) ⟨Ex.refl, [none, none, none], rfl, rfl⟩ (fun i σ' H' hi p => SqL.of (p.1 _ _ y_bl)) ?_ ?_
    · rintro i x σ' H' hx ⟨e0, l, hl, rfl⟩
      obtain ⟨l1, l2, l3, rfl⟩ : ∃ l1 l2 l3, l = [l1, l2, l3] := by
        match l, hl with
        | [l1, l2, l3], _ => exact ⟨l1, l2, l3, rfl⟩
      obtain ⟨t, q, rfl, ht, hq⟩ : ∃ t q, x = V.ref t ∧ BL t = some (.tup (rowV q)) ∧ r ≠ q := by
        have := List.mem_of_getElem? hx
        simp only [List.mem_cons, List.not_mem_nil, or_false] at this
        rcases this with rfl | rfl | rfl
        · exact ⟨_, (r.1 + 1, r.2.1, r.2.2), rfl, bz1, (fun z => by have := congrArg (fun w => w.1) z; simp only at this; omega)⟩
        · exact ⟨_, (r.1, r.2.1 - 1, r.2.2), rfl, bz2, (fun z => by have := congrArg (fun w => w.2.1) z; simp only at this; omega)⟩
        · exact ⟨_, (r.1, r.2.1, r.2.2 + 1), rfl, bz3, (fun z => by have := congrArg (fun w => w.2.2) z; simp only at this; omega)⟩
      have ht' := e0 _ _ ht
      have hbb := e0 _ _ hb_BL
      have hga := ha.ex ((xA.trans bx).trans e0)
      walk_at "go"
      refine made fun g H2 e2 g0 hg => ?_
      walk_at "go"
      refine rOwnEq GT (hga.ex e2) hg ?_
      rw [decide_eq_false hq]
      walk_at "go"
      refine same_b ?_
      walk_at "go"
      exact ⟨e0.trans e2, [_, _, _], rfl, rfl⟩
    · rintro σ' H' ⟨e0, l, hl, rfl⟩
      have hb_E1 := e0 _ _ hb_BL
      have ex_E1 := (xA.trans bx).trans e0
      obtain ⟨l1, l2, l3, rfl⟩ : ∃ l1 l2 l3, l = [l1, l2, l3] := by
        match l, hl with
        | [l1, l2, l3], _ => exact ⟨l1, l2, l3, rfl⟩
      clear hl
      walk_at "go"
      intro dt1 dh1
      have x_dt1 : Ex H' (upd H' dt1 (.tup [V.int (r.2.1), V.int (r.1), V.int (r.2.2)])) := Ex.refl.new dh1
      have y_dt1 : upd H' dt1 (.tup [V.int (r.2.1), V.int (r.1), V.int (r.2.2)]) dt1 = some (.tup [V.int (r.2.1), V.int (r.1), V.int (r.2.2)]) := upd_same
      generalize upd H' dt1 (.tup [V.int (r.2.1), V.int (r.1), V.int (r.2.2)]) = D1 at *
      have hb_D1 := x_dt1 _ _ hb_E1
      walk_at "go"
      intro dt2 dh2
      have x_dt2 : Ex D1 (upd D1 dt2 (.tup [V.int (r.1), V.int (r.2.2), V.int (r.2.1)])) := Ex.refl.new dh2
      have y_dt2 : upd D1 dt2 (.tup [V.int (r.1), V.int (r.2.2), V.int (r.2.1)]) dt2 = some (.tup [V.int (r.1), V.int (r.2.2), V.int (r.2.1)]) := upd_same
      generalize upd D1 dt2 (.tup [V.int (r.1), V.int (r.2.2), V.int (r.2.1)]) = D2 at *
      have hb_D2 := x_dt2 _ _ hb_D1
      walk_at "go"
      intro dt3 dh3
      have x_dt3 : Ex D2 (upd D2 dt3 (.tup [V.int (r.2.2), V.int (r.2.1), V.int (r.1)])) := Ex.refl.new dh3
      have y_dt3 : upd D2 dt3 (.tup [V.int (r.2.2), V.int (r.2.1), V.int (r.1)]) dt3 = some (.tup [V.int (r.2.2), V.int (r.2.1), V.int (r.1)]) := upd_same
      generalize upd D2 dt3 (.tup [V.int (r.2.2), V.int (r.2.1), V.int (r.1)]) = D3 at *
      have hb_D3 := x_dt3 _ _ hb_D2
      walk_at "go"
      intro dl dlh
      have x_dl : Ex D3 (upd D3 dl (.lst [.ref dt1, .ref dt2, .ref dt3])) := Ex.refl.new dlh
      have y_dl : upd D3 dl (.lst [.ref dt1, .ref dt2, .ref dt3]) dl = some (.lst [.ref dt1, .ref dt2, .ref dt3]) := upd_same
      generalize upd D3 dl (.lst [.ref dt1, .ref dt2, .ref dt3]) = DL at *
      have hb_DL := x_dl _ _ hb_D3
      walk_at "go"
      have dz1 := x_dl _ _ (x_dt3 _ _ (x_dt2 _ _ y_dt1))
      have dz2 := x_dl _ _ (x_dt3 _ _ y_dt2)
      have dz3 := x_dl _ _ y_dt3
      have dx : Ex H' DL := x_dt1.trans (x_dt2.trans (x_dt3.trans x_dl))

      refine loopL [.ref dt1, .ref dt2, .ref dt3] (PvN DL [some (V.ref a), some (V.ref b)] 3) ⟨Ex.refl, [l1, l2, l3], rfl, rfl⟩ (fun i σ' H' hi p => SqL.of (p.1 _ _ y_dl)) ?_ ?_
      · rintro i x σ' H' hx ⟨e0, l, hl, rfl⟩
        obtain ⟨l1, l2, l3, rfl⟩ : ∃ l1 l2 l3, l = [l1, l2, l3] := by
          match l, hl with
          | [l1, l2, l3], _ => exact ⟨l1, l2, l3, rfl⟩
        obtain ⟨t, q, rfl, ht, hq⟩ : ∃ t q, x = V.ref t ∧ DL t = some (.tup (rowV q)) ∧ True := by
          have := List.mem_of_getElem? hx
          simp only [List.mem_cons, List.not_mem_nil, or_false] at this
          rcases this with rfl | rfl | rfl
          · exact ⟨_, (r.2.1, r.1, r.2.2), rfl, dz1, trivial⟩
          · exact ⟨_, (r.1, r.2.2, r.2.1), rfl, dz2, trivial⟩
          · exact ⟨_, (r.2.2, r.2.1, r.1), rfl, dz3, trivial⟩
        have ht' := e0 _ _ ht
        have hbb := e0 _ _ hb_DL
        have hga := ha.ex ((ex_E1.trans dx).trans e0)
        walk_at "go"
        refine made fun g H2 e2 g0 hg => ?_
        walk_at "go"
        refine rOwnEq GT (hga.ex e2) hg ?_
        walk_at "go"
        refine rEqRow (e2 _ _ ht') (e2 _ _ hbb) ?_
        rw [show decide (q = r) = decide (r = q) by simp only [eq_comm]]
        walk_at "go"
        refine same_b ?_
        walk_at "go"
        exact ⟨e0.trans e2, [_, _, _], rfl, rfl⟩
      · rintro σ' H' ⟨e0, l, hl, rfl⟩
        have hb_E2 := e0 _ _ hb_DL
        have ex_E2 := (ex_E1.trans dx).trans e0
        obtain ⟨l1, l2, l3, rfl⟩ : ∃ l1 l2 l3, l = [l1, l2, l3] := by
          match l, hl with
          | [l1, l2, l3], _ => exact ⟨l1, l2, l3, rfl⟩
        clear hl
        walk_at "go"
        refine Wp.listt (SqT.of hb_E2) fun v hv => ?_
        have x_v : Ex H' (upd H' v (.lst (rowV r))) := Ex.refl.new hv
        have y_v : upd H' v (.lst (rowV r)) v = some (.lst (rowV r)) := upd_same
        generalize upd H' v (.lst (rowV r)) = V1 at *
        have hb_V1 := x_v _ _ hb_E2
        walk_at "go"
        refine ⟨_, rfl, small_log hsm, ?_⟩
        walk_at "go"
        intro dd hdd
        have x_d : Ex V1 (upd V1 dd (.dT [])) := Ex.refl.new hdd
        have y_d : upd V1 dd (.dT []) dd = some (.dT []) := upd_same
        generalize upd V1 dd (.dT []) = V2 at *
        walk_at "go"
        intro w hw
        have x_w : Ex V2 (upd V2 w (.lst [.ref b, .ref v, .int r.1, .int (r.1 - r.2.2), .str "", .str (toString r.1), .non, .bl true, .ref dd])) := Ex.refl.new hw
        have y_w : upd V2 w (.lst [.ref b, .ref v, .int r.1, .int (r.1 - r.2.2), .str "", .str (toString r.1), .non, .bl true, .ref dd]) w = some (.lst [.ref b, .ref v, .int r.1, .int (r.1 - r.2.2), .str "", .str (toString r.1), .non, .bl true, .ref dd]) := upd_same
        generalize upd V2 w (.lst [.ref b, .ref v, .int r.1, .int (r.1 - r.2.2), .str "", .str (toString r.1), .non, .bl true, .ref dd]) = V3 at *
        have yb := x_w _ _ (x_d _ _ hb_V1)
        have yv := x_w _ _ (x_d _ _ y_v)
        have yd := x_w _ _ y_d
        have exV := ex_E2.trans (x_v.trans (x_d.trans x_w))
        walk_at "go"
        refine loopL [.ref b, .ref v, .int r.1, .int (r.1 - r.2.2), .str "", .str (toString r.1), .non, .bl true, .ref dd] (PvN V3 [some (V.ref a), some (V.ref b)] 3) ⟨Ex.refl, [l1, l2, l3], rfl, rfl⟩ (fun i σ' H' hi p => SqL.of (p.1 _ _ y_w)) ?_ ?_
        · rintro i x σ' H4 hx ⟨e4, l, hl, rfl⟩
          obtain ⟨l1, l2, l3, rfl⟩ : ∃ l1 l2 l3, l = [l1, l2, l3] := by
            match l, hl with
            | [l1, l2, l3], _ => exact ⟨l1, l2, l3, rfl⟩
          obtain ⟨T0, ty, ot⟩ : ThOk K C H4 x := by
            have := List.mem_of_getElem? hx
            simp only [List.mem_cons, List.not_mem_nil, or_false] at this
            rcases this with rfl | rfl | rfl | rfl | rfl | rfl | rfl | rfl | rfl
            · exact ⟨_, .base (.tup (e4 _ _ yb)), GT.o6⟩
            · exact ⟨_, .base (.lst (e4 _ _ yv)), GT.o5⟩
            · exact thi GT _
            · exact thi GT _
            · exact ⟨_, .base (.str _), GT.o2⟩
            · exact ⟨_, .base (.str _), GT.o2⟩
            · exact ⟨_, .base .non, GT.o4⟩
            · exact ⟨_, .base (.bl _), GT.o3⟩
            · exact ⟨_, .base (.dT (e4 _ _ yd)), GT.o7⟩
          walk_at "go"
          refine rOwnNo (ha.ex (exV.trans e4)) ty ot ?_
          walk_at "go"
          refine same_b ?_
          walk_at "go"
          first | exact ⟨e4, [_, _, _], rfl, rfl⟩ | exact ⟨[_, _, _], rfl, rfl⟩
        · rintro σ' H4 ⟨e4, l, hl, rfl⟩
          walk_at "go"
          exact k _ (exV.trans e4)
end
end K19
namespace K19
open PySem L2 Wp
section
variable {P : Program} {w : World} {K : PySem.W.Frag} {mg : Str → Option Value} {base : Heap}
theorem ok_law_alone {f : Addr} {fd : FuncData} (F : Fun K "_law_alone" "_law_alone" s_law_alone f fd) (T : Txt mg) {C : Addr} (GT : GlT K mg C) (GO_add : DefO P w K mg base 3 C "__add__" ["self", "other"] (spAdd C)) (GO_eq : DefO P w K mg base 1 C "__eq__" ["self", "other"] (spEq K C)) (GS_zero : DefS P w K mg base 3 C "zero" (spZero C)) (G_law_tells : Def P w K mg base 3 "_law_tells" ["glue", "row"] (spTells C)) (G_law_like : Def P w K mg base 4 "_law_like" ["glue", "row"] (spLike C)) (G_law_same : Def P w K mg base 2 "_law_same" ["got", "due"] (spSame 1)) : FnOk P w K mg base CX0 5 f fd ["glues", "rows"] (spAlone C) := by
  refine F.ok sc_law_alone (fun vs H Q E h => ?_) (fun cdv A outer s H vs Q E hr h => ?_)
  · obtain ⟨a, b, rfl, _⟩ := h
    rfl
  · obtain ⟨a, b, rfl, h⟩ := h
    refine ⟨_, (pss_cons (ps_set (i := 2) sc_law_alone.nd rfl (by first | exact Or.inl rfl | exact Or.inr rfl) (GS_zero.call0 (hr.mono (by omega)) (pe_glob (v := .ref C) (by rfl) GT.mgC rfl)))
  (pss_cons (ps_for PassesOwn.never rfl (pi_range1 (by rfl) T.n_range (pa_cons (pe_callB (c_lenK (K := K) rfl) (by rfl) T.n_len (by decide +kernel) (pa_cons (pv 1) pa_nil)) pa_nil)) (pg_name (i := 3) sc_law_alone.nd rfl (by first | exact Or.inl rfl | exact Or.inr rfl))
  (pss_cons (ps_if (PW.pt (pw_or (pt_not (pt_val (G_law_tells.call (hr.mono (by omega)) (by rfl) (pa_cons (pe_ix (ixA (K := K) rfl) (pv 0) (pv 3) (fun _ _ => rfl)) (pa_cons (pe_ix (ixA (K := K) rfl) (pv 1) (pv 3) (fun _ _ => rfl)) pa_nil))))) (pw_or1 (pt_not (pt_val (G_law_like.call (hr.mono (by omega)) (by rfl) (pa_cons (pe_ix (ixA (K := K) rfl) (pv 0) (pv 3) (fun _ _ => rfl)) (pa_cons (pe_ix (ixA (K := K) rfl) (pv 1) (pv 3) (fun _ _ => rfl)) pa_nil))))))))
  (pss_one (ps_ret pe_bl))
  pss_nil)
  (pss_cons (ps_if (PW.pt (pw_or (pt_not (pt_val (G_law_tells.call (hr.mono (by omega)) (by rfl) (pa_cons (pe_op (GO_add.bin .Add (hr.mono (by omega))) (pe_ix (ixA (K := K) rfl) (pv 0) (pv 3) (fun _ _ => rfl)) (pv 2)) (pa_cons (pe_ix (ixA (K := K) rfl) (pv 1) (pv 3) (fun _ _ => rfl)) pa_nil))))) (pw_or1 (pt_not (pt_val (G_law_tells.call (hr.mono (by omega)) (by rfl) (pa_cons (pe_op (GO_add.bin .Add (hr.mono (by omega))) (pv 2) (pe_ix (ixA (K := K) rfl) (pv 0) (pv 3) (fun _ _ => rfl))) (pa_cons (pe_ix (ixA (K := K) rfl) (pv 1) (pv 3) (fun _ _ => rfl)) pa_nil))))))))
  (pss_one (ps_ret pe_bl))
  pss_nil)
  (pss_one (ps_if (PW.pt (pw_or (pt_not (pt_val (G_law_same.call (hr.mono (by omega)) (by rfl) (pa_cons (pe_cmpR (GO_eq.eq (K := K) rfl (hr.mono (by omega))) (pe_op (GO_add.bin .Add (hr.mono (by omega))) (pe_ix (ixA (K := K) rfl) (pv 0) (pv 3) (fun _ _ => rfl)) (pv 2)) (pe_ix (ixA (K := K) rfl) (pv 0) (pv 3) (fun _ _ => rfl)) (nomark _)) (pa_cons pe_bl pa_nil))))) (pw_or1 (pt_not (pt_val (G_law_same.call (hr.mono (by omega)) (by rfl) (pa_cons (pe_cmpR (GO_eq.eq (K := K) rfl (hr.mono (by omega))) (pe_op (GO_add.bin .Add (hr.mono (by omega))) (pv 2) (pe_ix (ixA (K := K) rfl) (pv 0) (pv 3) (fun _ _ => rfl))) (pe_ix (ixA (K := K) rfl) (pv 0) (pv 3) (fun _ _ => rfl)) (nomark _)) (pa_cons pe_bl pa_nil))))))))
  (pss_one (ps_ret pe_bl))
  pss_nil)))))
  (pss_one (ps_ret (G_law_tells.call (hr.mono (by omega)) (by rfl) (pa_cons (pv 2) (pa_cons (pe_tup (pa_cons pe_int (pa_cons pe_int (pa_cons pe_int pa_nil)))) pa_nil))))))), ?_⟩
    rw [show start ["glues", "rows", "zero", "k"] [.ref a, .ref b] = [some (.ref a), some (.ref b), none, none] from rfl]
    obtain ⟨ys, zs, hg, hr, hys, hl, hsm, k⟩ := h
    have hyl := rows_len hys
    have GL : ∀ G, Ex H G → G a = some (.lst (ys.map fun z => V.ref z.1)) := fun G e => e _ _ hg.at_
    have RL : ∀ G, Ex H G → G b = some (.lst (zs.map fun z => V.ref z.1)) := fun G e => e _ _ hr.at_
    walk_at "go"
    refine ⟨(), rfl, fun z0 H1 e1 z00 hz => ?_⟩
    have hrat1 := RL _ e1
    walk_at "go"
    rw [List.length_map]
    refine ⟨by omega, ?_⟩
    rw [show ((zs.length : Int)).toNat = zs.length by omega]
    refine loopR (PvN H1 [some (V.ref a), some (V.ref b), some (V.ref z0)] 1) ⟨Ex.refl, [none], rfl, rfl⟩ ?_ ?_
    · rintro i σ' H2 hi ⟨e2, l, hl1, rfl⟩
      obtain ⟨l1, rfl⟩ : ∃ l1, l = [l1] := by
        match l, hl1 with
        | [l1], _ => exact ⟨l1, rfl⟩
      obtain ⟨yi, zi, ri, hyi, hzi, gi, wi, hzs⟩ := pick2 hg hr hys hi
      have hsi := hsm _ (List.mem_of_getElem? hzs)
      have x2 := e1.trans e2
      walk_at "go"
      refine ixal (GL _ x2) (atI_nat hyi) ?_
      walk_at "go"
      refine ixal (RL _ x2) (atI_nat hzi) ?_
      walk_at "go"
      refine ⟨_, _, rfl, ri, gi _ x2, wi _ x2, fun H3 e3 => ?_⟩
      have x3 := x2.trans e3
      walk_at "go"
      refine ixal (GL _ x3) (atI_nat hyi) ?_
      walk_at "go"
      refine ixal (RL _ x3) (atI_nat hzi) ?_
      walk_at "go"
      refine ⟨_, _, rfl, ri, gi _ x3, wi _ x3, hsi, fun H4 e4 => ?_⟩
      have x4 := x3.trans e4
      have hz4 := ((hz.ex e2).ex e3).ex e4
      walk_at "go"
      refine ixal (GL _ x4) (atI_nat hyi) ?_
      walk_at "go"
      refine rOwnAdd (gi _ x4) hz4 fun c H5 e5 c0 hc => ?_
      have x5 := x4.trans e5
      rw [plusR_zero] at hc
      walk_at "go"
      refine ixal (RL _ x5) (atI_nat hzi) ?_
      walk_at "go"
      refine ⟨_, _, rfl, ri, hc, wi _ x5, fun H6 e6 => ?_⟩
      have x6 := x5.trans e6
      have hz6 := (hz4.ex e5).ex e6
      walk_at "go"
      refine ixal (GL _ x6) (atI_nat hyi) ?_
      walk_at "go"
      refine rOwnAdd hz6 (gi _ x6) fun d H7 e7 d0 hd => ?_
      have x7 := x6.trans e7
      rw [zero_plusR] at hd
      walk_at "go"
      refine ixal (RL _ x7) (atI_nat hzi) ?_
      walk_at "go"
      refine ⟨_, _, rfl, ri, hd, wi _ x7, fun H8 e8 => ?_⟩
      have x8 := x7.trans e8
      have hz8 := (hz6.ex e7).ex e8
      walk_at "go"
      refine ixal (GL _ x8) (atI_nat hyi) ?_
      walk_at "go"
      refine rOwnAdd (gi _ x8) hz8 fun f3 H9 e9 f0 hf => ?_
      have x9 := x8.trans e9
      rw [plusR_zero] at hf
      walk_at "go"
      refine ixal (GL _ x9) (atI_nat hyi) ?_
      walk_at "go"
      refine rOwnEq GT hf (gi _ x9) ?_
      rw [decide_eq_true (rfl : ri = ri)]
      walk_at "go"
      refine same_b ?_
      have hz9 := hz8.ex e9
      walk_at "go"
      refine ixal (GL _ x9) (atI_nat hyi) ?_
      walk_at "go"
      refine rOwnAdd hz9 (gi _ x9) fun g3 Ha ea g0 hga => ?_
      have xa := x9.trans ea
      rw [zero_plusR] at hga
      walk_at "go"
      refine ixal (GL _ xa) (atI_nat hyi) ?_
      walk_at "go"
      refine rOwnEq GT hga (gi _ xa) ?_
      rw [decide_eq_true (rfl : ri = ri)]
      walk_at "go"
      refine same_b ?_
      have eall := (((((((e2.trans e3).trans e4).trans e5).trans e6).trans e7).trans e8).trans e9).trans ea
      walk_at "go"
      first | exact ⟨eall, [_], rfl, rfl⟩ | exact ⟨[_], rfl, rfl⟩
    · rintro σ' H2 ⟨e2, l, hl1, rfl⟩
      have hz2 := hz.ex e2
      have x2 := e1.trans e2
      walk_at "go"
      intro t ht
      walk_at "go"
      refine ⟨_, _, rfl, (0, 0, 0), hz2.ex (Ex.refl.new ht), upd_same, fun H3 e3 => ?_⟩
      exact k _ (x2.trans ((Ex.refl.new ht).trans e3))
end
end K19
namespace K19
open PySem L2 Wp

theorem lcC {σ : L2.St} {H : Hp} {Q : VK} {Dl : Addr} {g : TG} {tt : TT} {te : TE} {vs : List Nat} {lo c : Int} {n : Nat} (Pv : Nat → Hp → Prop) (h0 : Pv 0 (upd H Dl (.lst [])))
    (hs : ∀ (i : Nat) H, i < n → Pv i H → g (.int (lo + (i : Nat) * c)) (wipe σ vs) H fun σ2 H2 => wipe σ2 vs = wipe σ vs ∧ tt σ2 H2 fun b H3 =>
      if b = true then te σ2 H3 fun z H4 => ∃ acc, H4 Dl = some (.lst acc) ∧ acc.length < sizeLine ∧ Pv (i + 1) (upd H4 Dl (.lst (acc ++ [z]))) else Pv (i + 1) H3)
    (hd : ∀ H, Pv n H → Q (.ref Dl) H) : LC (Itc lo c n) g tt te vs σ H Dl Q := by
  refine ⟨fun i m H => m = n - i ∧ i ≤ n ∧ Pv i H, ⟨n, rfl, Nat.zero_le _, h0⟩, ?_⟩
  rintro i m H ⟨rfl, hi, p⟩
  by_cases hlt : i < n
  · refine .inr ⟨hlt, Pv (i + 1), fun H' p' => ⟨n - (i + 1), by omega, rfl, hlt, p'⟩, fun x H' y => ?_⟩
    obtain ⟨rfl, rfl⟩ := y
    exact hs i _ hlt p
  · have e : i = n := by omega
    subst e
    exact .inl ⟨Nat.le_refl _, hd H p⟩
theorem cut_drop (xs : List V) (k : Nat) (h : k ≤ xs.length) : cutV xs (some (k : Int)) none = xs.drop k := by
  unfold cutV
  rw [HT.sIx_nat, HT.sIx_none, Nat.min_eq_left h, List.take_of_length_le (by rw [List.length_drop]; omega)]
theorem cut_take (xs : List V) (h : 2 ≤ xs.length) : cutV xs none (some (-2)) = xs.take (xs.length - 2) := by
  unfold cutV
  rw [HT.sIx_none, List.drop_zero]
  have e : HT.sIx xs.length xs.length (some (-2)) = xs.length - 2 := by
    show (if (-2 : Int) < 0 then (-2 + (xs.length : Int)).toNat else min (-2 : Int).toNat xs.length) = xs.length - 2
    rw [if_pos (by decide)]
    omega
  rw [e, Nat.sub_zero]
theorem last2 {fs : List (Addr × Row)} (h : 1 < fs.length) : ∃ front y z, fs = front ++ [y, z] := by
  have h1 := List.take_append_drop (fs.length - 2) fs
  have h2 : (fs.drop (fs.length - 2)).length = 2 := by rw [List.length_drop]; omega
  match e : fs.drop (fs.length - 2), h2 with
  | [y, z], _ => exact ⟨_, y, z, by rw [← e]; exact h1.symm⟩
theorem atI_neg {xs : List V} {k : Nat} {v : V} (h : k ≤ xs.length) (h0 : 0 < k) (hv : xs[xs.length - k]? = some v) : atI xs (-(k : Int)) = some v := by
  unfold atI ixN
  rw [if_neg (by omega), if_pos (by omega), Option.bind_some, show (-(k : Int) + (xs.length : Int)).toNat = xs.length - k by omega]
  exact hv
def tot : List (Addr × Row) → Row
  | [] => (0, 0, 0)
  | z :: r => plusR z.2 (tot r)
theorem tot_app (a b : List (Addr × Row)) : tot (a ++ b) = plusR (tot a) (tot b) := by
  induction a with
  | nil => rw [List.nil_append]; show _ = plusR (0, 0, 0) _; rw [zero_plusR]
  | cons z r ih => rw [List.cons_append]; show plusR z.2 _ = plusR (plusR z.2 _) _; rw [ih, plusR_assoc]
theorem tot_one (z : Addr × Row) : tot [z] = z.2 := plusR_zero _
def refs (zs : List (Addr × Row)) : List V := zs.map fun z => V.ref z.1
def spSum (C : Addr) : Sp := fun vs H Q _ => ∃ (a : Addr) (w : Int), vs = [.ref a, .int w] ∧ ∃ ys, GlsAt C H a ys ∧ 0 < ys.length ∧ ys.length ≤ 6 ∧ 0 ≤ w ∧ w < 3 ∧ ∀ c H', Ex H H' → GA C H' c (tot ys) → Q (.ref c) H'
def PvS (C : Addr) (H : Hp) (a : Addr) (w : Int) (T : Row) (n : Nat) : Nat → L2.St → Hp → Prop := fun i σ' H' => Ex H H' ∧ ∃ f fs l1 l2 l3, σ' = [some (V.ref a), some (V.int w), some (V.ref f), l1, l2, l3] ∧ GlsAt C H' f fs ∧ tot fs = T ∧ 0 < fs.length ∧ fs.length ≤ 6 ∧ (fs.length = 1 ∨ fs.length + i ≤ n)
def PvC (C : Addr) (H2 : Hp) (D : Addr) (fs : List (Addr × Row)) : Nat → Hp → Prop := fun i H' => Ex H2 H' ∧ ∃ ms : List (Addr × Row), H' D = some (.lst (refs ms)) ∧ (∀ z, z ∈ ms → GA C H' z.1 z.2) ∧ tot ms = tot (fs.take (2 * i)) ∧ ms.length = i
theorem GA.mut {C : Addr} {H : Hp} {a D : Addr} {r : Row} {xs ys : List V} (h : GA C H a r) (hD : H D = some (.lst xs)) : GA C (upd H D (.lst ys)) a r := by
  obtain ⟨dx, h⟩ := h
  exact ⟨dx, u_ne (fun q => by rw [q, hD] at h; cases h) h⟩
theorem glsNew {C : Addr} {H : Hp} {x : Addr} {zs : List (Addr × Row)} (hx : H x = none) (h : ∀ z, z ∈ zs → GA C H z.1 z.2) : GlsAt C (upd H x (.lst (refs zs))) x zs := ⟨upd_same, fun z hz => (h z hz).ex (Ex.refl.new hx)⟩
section
variable {P : Program} {w : World} {K : PySem.W.Frag} {mg : Str → Option Value} {base : Heap}
theorem ok_law_sum {f : Addr} {fd : FuncData} (F : Fun K "_law_sum" "_law_sum" s_law_sum f fd) (T : Txt mg) {C : Addr} (GT : GlT K mg C) (GO_add : DefO P w K mg base 3 C "__add__" ["self", "other"] (spAdd C)) (GO_eq : DefO P w K mg base 1 C "__eq__" ["self", "other"] (spEq K C)) : FnOk P w K mg base CX0 4 f fd ["glues", "way"] (spSum C) := by
  refine F.ok sc_law_sum (fun vs H Q E h => ?_) (fun cdv A outer s H vs Q E hr h => ?_)
  · obtain ⟨a, w, rfl, _⟩ := h
    rfl
  · obtain ⟨a, w, rfl, h⟩ := h
    refine ⟨_, (pss_cons (ps_set (i := 2) sc_law_sum.nd rfl (by first | exact Or.inl rfl | exact Or.inr rfl) (pe_callTy (c_listK (K := K) rfl) (by rfl) T.n_list (by decide +kernel) (pa_cons (pv 0) pa_nil)))
  (pss_cons (ps_for PassesOwn.never rfl (pi_range1 (by rfl) T.n_range (pa_cons (pe_callB (c_lenK (K := K) rfl) (by rfl) T.n_len (by decide +kernel) (pa_cons (pv 0) pa_nil)) pa_nil)) (pg_name (i := 3) sc_law_sum.nd rfl (by first | exact Or.inl rfl | exact Or.inr rfl))
  (pss_cons (ps_set (i := 4) sc_law_sum.nd rfl (by first | exact Or.inl rfl | exact Or.inr rfl) (pe_callB (c_lenK (K := K) rfl) (by rfl) T.n_len (by decide +kernel) (pa_cons (pv 2) pa_nil)))
  (pss_cons (ps_if (PW.pt (pw_and (pt_cmpR op_gt (pv 4) pe_int (nomark _)) (pw_and1 (pt_cmpR op_eq (pv 1) pe_int (nomark _)))))
  (pss_one (ps_set (i := 2) sc_law_sum.nd rfl (by first | exact Or.inl rfl | exact Or.inr rfl) (pe_op op_addL (pe_lst (pa_cons (pe_op (GO_add.bin .Add (hr.mono (by omega))) (pe_ix (ixA (K := K) rfl) (pv 2) pe_int (fun _ _ => rfl)) (pe_ix (ixA (K := K) rfl) (pv 2) pe_int (fun _ _ => rfl))) pa_nil)) (pe_slice (sl_listK (K := K) rfl) (pv 2) (po_some pe_int) po_none))))
  pss_nil)
  (pss_cons (ps_if (PW.pt (pw_and (pt_cmpR op_gt (pv 4) pe_int (nomark _)) (pw_and1 (pt_cmpR op_eq (pv 1) pe_int (nomark _)))))
  (pss_one (ps_set (i := 2) sc_law_sum.nd rfl (by first | exact Or.inl rfl | exact Or.inr rfl) (pe_op op_addL (pe_slice (sl_listK (K := K) rfl) (pv 2) po_none (po_some (pe_un un_neg pe_int))) (pe_lst (pa_cons (pe_op (GO_add.bin .Add (hr.mono (by omega))) (pe_ix (ixA (K := K) rfl) (pv 2) (pe_un un_neg pe_int) (fun _ _ => rfl)) (pe_ix (ixA (K := K) rfl) (pv 2) (pe_un un_neg pe_int) (fun _ _ => rfl))) pa_nil)))))
  pss_nil)
  (pss_one (ps_if (PW.pt (pw_and (pt_cmpR op_gt (pv 4) pe_int (nomark _)) (pw_and1 (pt_cmpR op_eq (pv 1) pe_int (nomark _)))))
  (pss_one (ps_set (i := 2) sc_law_sum.nd rfl (by first | exact Or.inl rfl | exact Or.inr rfl) (pe_op op_addL (pe_lc (own := [("n", 5)]) (g := gName 5) (tt := tYes) (by rfl) sc_law_sum.nd (pi_range3 (by rfl) T.n_range (pa_cons pe_int (pa_cons (pe_op op_sub (pv 4) pe_int) (pa_cons pe_int pa_nil)))) (blkOk_by (own := [("n", 5)]) (N := ["glues", "way", "found", "k", "many", "n"]) (sc := defScope s_law_sum) (by decide +kernel)) (fun _ _ _ _ _ => pg_name (i := 5) sc_law_sum.nd rfl (by first | exact Or.inl rfl | exact Or.inr rfl)) (fun _ _ _ _ _ => pts_nil) (fun _ _ _ _ _ => (pe_op (GO_add.bin .Add (hr.mono (by omega))) (pe_ix (ixA (K := K) rfl) (pv 2) (pv 5) (fun _ _ => rfl)) (pe_ix (ixA (K := K) rfl) (pv 2) (pe_op op_addL (pv 5) pe_int) (fun _ _ => rfl))))) (pe_slice (sl_listK (K := K) rfl) (pv 2) (po_some (pe_op op_sub (pv 4) (pe_op op_mod (pv 4) pe_int))) po_none))))
  pss_nil))))))
  (pss_one (ps_ret (pe_ix (ixA (K := K) rfl) (pv 2) pe_int (fun _ _ => rfl)))))), ?_⟩
    rw [show start ["glues", "way", "found", "k", "many", "n"] [.ref a, .int w] = [some (.ref a), some (.int w), none, none, none, none] from rfl]
    obtain ⟨ys, hg, hl0, hl6, w0, w3, k⟩ := h
    walk_at "go"
    refine Wp.lists (SqL.of hg.at_) fun f hf => ?_
    have e0 : Ex H (upd H f (.lst (refs ys))) := Ex.refl.new hf
    have g0 : GlsAt C (upd H f (.lst (refs ys))) f ys := glsNew hf fun z hz => hg.row z hz
    have ga0 := (hg.ex e0).at_
    show _
    change upd H f (.lst (refs ys)) a = _ at ga0
    have hfold : (ys.map fun z => V.ref z.1) = refs ys := rfl
    rw [hfold]
    generalize upd H f (.lst (refs ys)) = H1 at *
    walk_at "go"
    rw [List.length_map]
    refine ⟨by omega, ?_⟩
    rw [show ((ys.length : Int)).toNat = ys.length by omega]
    refine loopR (PvS C H a w (tot ys) ys.length) ⟨e0, f, ys, none, none, none, rfl, g0, rfl, hl0, hl6, Or.inr (by omega)⟩ ?_ ?_
    · rintro i σ' H2 hi ⟨e2, f2, fs, l1, l2, l3, rfl, hf2, htot, hp0, hp6, hlen⟩
      have hfat := hf2.at_
      walk_at "go"
      rw [List.length_map]
      by_cases hm : 1 < fs.length
      · have hl2 : fs.length + i ≤ ys.length := by omega
        have hm' : 1 < (fs.length : Int) := by omega
        obtain hw | hw | hw : w = 0 ∨ w = 1 ∨ w = 2 := by omega
        · refine ite_t hm' (ite_t hw ?_)
          match fs, hm, hf2, htot, hp6, hl2, hfat with
          | z0 :: z1 :: rest, _, hf2, htot, hp6, hl2, hfat =>
            have r0 := hf2.row z0 (by simp)
            have r1 := hf2.row z1 (by simp)
            walk_at "go"
            refine ixal hfat (show atI _ ((0 : Nat) : Int) = some (V.ref z0.1) from atI_nat rfl) ?_
            walk_at "go"
            refine ixal hfat (show atI _ ((1 : Nat) : Int) = some (V.ref z1.1) from atI_nat rfl) ?_
            walk_at "go"
            refine rOwnAdd r0 r1 fun c H3 e3 c0 hc => ?_
            walk_at "go"
            intro u hu
            have e4 : Ex H3 (upd H3 u (.lst [V.ref c])) := Ex.refl.new hu
            have yu : upd H3 u (.lst [V.ref c]) u = some (.lst [V.ref c]) := upd_same
            generalize upd H3 u (.lst [V.ref c]) = H4 at *
            have hfat4 := (e3.trans e4) _ _ hfat
            have ecut : cutV (List.map (fun z : Addr × Row => V.ref z.1) (z0 :: z1 :: rest)) (some 2) none = refs rest := cut_drop _ 2 (by simp)
            refine sll hfat4 fun v hv => ?_
            rw [ecut]
            have e5 : Ex H4 (upd H4 v (.lst (refs rest))) := Ex.refl.new hv
            have yv : upd H4 v (.lst (refs rest)) v = some (.lst (refs rest)) := upd_same
            generalize upd H4 v (.lst (refs rest)) = H5 at *
            have hlr : (refs rest).length ≤ 4 := by unfold refs; rw [List.length_map]; simp at hp6; omega
            refine Wp.addl (e5 _ _ yu) yv (sz_le (by simp only [List.length_cons, List.length_nil]; omega)) fun x hx => ?_
            have e35 := (e3.trans e4).trans e5
            have gnew : GlsAt C (upd H5 x (.lst (refs ((c, plusR z0.2 z1.2) :: rest)))) x ((c, plusR z0.2 z1.2) :: rest) := glsNew hx fun z hz => by
              rcases List.mem_cons.mp hz with rfl | hz
              · exact (hc.ex e4).ex e5
              · exact (hf2.row z (by simp [hz])).ex e35
            have hmm : 1 < (((z0 :: z1 :: rest).length : Nat) : Int) := by rw [List.length_cons, List.length_cons]; omega
            refine ite_t hmm (ite_f (by omega) (ite_t hmm (ite_f (by omega) ?_)))
            refine ⟨(e2.trans e35).new hx, x, (c, plusR z0.2 z1.2) :: rest, _, _, _, rfl, gnew, ?_, by simp, by simp at hp6 ⊢; omega, Or.inr (by simp at hl2 ⊢; omega)⟩
            rw [← htot]
            show plusR (plusR z0.2 z1.2) (tot rest) = plusR z0.2 (plusR z1.2 (tot rest))
            rw [plusR_assoc]
        · refine ite_t hm' (ite_f (by omega) ?_)
          walk_at "go"
          refine ite_t hm' (ite_t hw ?_)
          obtain ⟨front, y, z, rfl⟩ := last2 hm
          have r0 := hf2.row y (by simp)
          have r1 := hf2.row z (by simp)
          have ecut : cutV (List.map (fun z : Addr × Row => V.ref z.1) (front ++ [y, z])) none (some (-2)) = refs front := by
            rw [cut_take _ (by simp)]
            simp [refs]
          refine sll hfat fun v hv => ?_
          rw [ecut]
          have e3 : Ex H2 (upd H2 v (.lst (refs front))) := Ex.refl.new hv
          have yv : upd H2 v (.lst (refs front)) v = some (.lst (refs front)) := upd_same
          generalize upd H2 v (.lst (refs front)) = H3 at *
          have hfat3 := e3 _ _ hfat
          refine ixal hfat3 (show atI _ (-((2 : Nat) : Int)) = some (V.ref y.1) from atI_neg (by simp) (by decide) (by simp)) ?_
          refine ixal hfat3 (show atI _ (-((1 : Nat) : Int)) = some (V.ref z.1) from atI_neg (by simp) (by decide) (by simp)) ?_
          refine rOwnAdd (r0.ex e3) (r1.ex e3) fun c H4 e4 c0 hc => ?_
          refine ⟨by show 1 ≤ sizeLine; decide, fun u hu => ?_⟩
          have e5 : Ex H4 (upd H4 u (.lst [V.ref c])) := Ex.refl.new hu
          have yu : upd H4 u (.lst [V.ref c]) u = some (.lst [V.ref c]) := upd_same
          generalize upd H4 u (.lst [V.ref c]) = H5 at *
          have hlr : (refs front).length ≤ 4 := by unfold refs; rw [List.length_map]; simp at hp6; omega
          refine Wp.addl (e5 _ _ (e4 _ _ yv)) yu (sz_le (by simp only [List.length_cons, List.length_nil]; omega)) fun x hx => ?_
          have e35 := (e3.trans e4).trans e5
          have eapp : refs front ++ [V.ref c] = refs (front ++ [(c, plusR y.2 z.2)]) := by unfold refs; rw [List.map_append]; rfl
          rw [eapp]
          have gnew : GlsAt C (upd H5 x (.lst (refs (front ++ [(c, plusR y.2 z.2)])))) x (front ++ [(c, plusR y.2 z.2)]) := glsNew hx fun w hz => by
            rcases List.mem_append.mp hz with hz | hz
            · exact (hf2.row w (by simp [hz])).ex e35
            · rw [List.mem_singleton.mp hz]
              exact hc.ex e5
          refine ite_t hm' (ite_f (by omega) ?_)
          refine ⟨(e2.trans e35).new hx, x, front ++ [(c, plusR y.2 z.2)], _, _, _, rfl, gnew, ?_, by simp, by simp at hp6 ⊢; omega, Or.inr (by simp at hl2 ⊢; omega)⟩
          rw [← htot, tot_app, tot_app, tot_one]
          show plusR (tot front) _ = plusR (tot front) (plusR y.2 (plusR z.2 (0, 0, 0)))
          rw [plusR_zero]
        · refine ite_t hm' (ite_f (by omega) ?_)
          walk_at "go"
          refine ite_t hm' (ite_f (by omega) (ite_t hm' (ite_t hw ?_)))
          unfold iRng3
          walk_at "go"
          have hrg : RgC 0 ((fs.length : Int) - 1) 2 (fs.length / 2) := by
            have hc : fs.length = 2 ∨ fs.length = 3 ∨ fs.length = 4 ∨ fs.length = 5 ∨ fs.length = 6 := by omega
            rcases hc with h | h | h | h | h
            all_goals
              rw [h]
              exact ⟨by decide, by decide, by decide +kernel, by decide +kernel⟩
          refine ⟨_, _, _, fs.length / 2, rfl, hrg, fun D hD => ?_⟩
          refine lcC (PvC C H2 D fs) ⟨Ex.refl.new hD, [], upd_same, (fun z hz => by cases hz), rfl, rfl⟩ ?_ ?_
          · rintro j H3 hj ⟨e3, ms, hD3, hms, htm, hlm⟩
            have h0 : fs[2 * j]? = some (fs[2 * j]'(by omega)) := List.getElem?_eq_getElem (by omega)
            have h1 : fs[2 * j + 1]? = some (fs[2 * j + 1]'(by omega)) := List.getElem?_eq_getElem (by omega)
            have r0 := hf2.row _ (List.mem_of_getElem? h0)
            have r1 := hf2.row _ (List.mem_of_getElem? h1)
            generalize fs[2 * j]'(by omega) = za at *
            generalize fs[2 * j + 1]'(by omega) = zb at *
            have q0 : (fs.map fun z => V.ref z.1)[2 * j]? = some (V.ref za.1) := at_ref h0
            have q1 : (fs.map fun z => V.ref z.1)[2 * j + 1]? = some (V.ref zb.1) := at_ref h1
            have hfat3 := e3 _ _ hfat
            have ei : ((j : Int) * 2) = ((2 * j : Nat) : Int) := by omega
            have ei1 : ((2 * j : Nat) : Int) + 1 = ((2 * j + 1 : Nat) : Int) := by omega
            walk_at "go"
            rw [ei, ei1]
            refine ixal hfat3 (atI_nat q0) ?_
            refine ixal hfat3 (atI_nat q1) ?_
            refine rOwnAdd (r0.ex e3) (r1.ex e3) fun c H4 e4 c0 hc => ?_
            have hD4 := e4 _ _ hD3
            refine ⟨_, hD4, ?_, (e3.trans e4).mut hD, ms ++ [(c, plusR za.2 zb.2)], ?_, ?_, ?_, by rw [List.length_append, hlm]; rfl⟩
            · unfold refs
              rw [List.length_map]
              exact sz_lt (by omega)
            · rw [upd_same]
              unfold refs
              rw [List.map_append]
              rfl
            · intro z hz
              rcases List.mem_append.mp hz with hz | hz
              · exact ((hms z hz).ex e4).mut hD4
              · rw [List.mem_singleton.mp hz]
                exact hc.mut hD4
            · rw [tot_app, htm, tot_one, show 2 * (j + 1) = 2 * j + 1 + 1 by omega, List.take_succ, List.take_succ, h0, h1, tot_app, tot_app, plusR_assoc]
              show plusR _ _ = plusR _ (plusR (tot [za]) (tot [zb]))
              rw [tot_one, tot_one]
          · rintro H3 ⟨e3, ms, hD3, hms, htm, hlm⟩
            have hfat3 := e3 _ _ hfat
            walk_at "go"
            have ei : ((fs.length : Int) - (fs.length : Int) % 2) = ((2 * (fs.length / 2) : Nat) : Int) := by omega
            rw [ei]
            intro v hv
            rw [cut_drop _ _ (by rw [List.length_map]; omega), ← List.map_drop]
            have e4 : Ex H3 (upd H3 v (.lst (refs (fs.drop (2 * (fs.length / 2)))))) := Ex.refl.new hv
            have yv : upd H3 v (.lst (refs (fs.drop (2 * (fs.length / 2))))) v = some (.lst (refs (fs.drop (2 * (fs.length / 2))))) := upd_same
            change rAddL _ _ (upd H3 v (.lst (refs (fs.drop (2 * (fs.length / 2)))))) _
            generalize upd H3 v (.lst (refs (fs.drop (2 * (fs.length / 2))))) = H4 at *
            refine Wp.addl (e4 _ _ hD3) yv (sz_le (by unfold refs; rw [List.length_map, List.length_map, List.length_drop]; omega)) fun x hx => ?_
            have e34 := e3.trans e4
            have eapp : refs ms ++ refs (fs.drop (2 * (fs.length / 2))) = refs (ms ++ fs.drop (2 * (fs.length / 2))) := by unfold refs; rw [List.map_append]
            rw [eapp]
            have gnew : GlsAt C (upd H4 x (.lst (refs (ms ++ fs.drop (2 * (fs.length / 2)))))) x (ms ++ fs.drop (2 * (fs.length / 2))) := glsNew hx fun w hz => by
              rcases List.mem_append.mp hz with hz | hz
              · exact (hms w hz).ex e4
              · exact (hf2.row w (List.mem_of_mem_drop hz)).ex e34
            refine ⟨(e2.trans e34).new hx, x, _, _, _, _, rfl, gnew, ?_, ?_, ?_, Or.inr ?_⟩
            · rw [tot_app, htm, ← htot]
              conv => rhs; rw [← List.take_append_drop (2 * (fs.length / 2)) fs]
              rw [tot_app]
            all_goals
              rw [List.length_append, List.length_drop, hlm]
              omega
      · refine ite_f (by omega) (ite_f (by omega) (ite_f (by omega) ?_))
        exact ⟨e2, f2, fs, _, _, _, rfl, hf2, htot, hp0, hp6, Or.inl (by omega)⟩
    · rintro σ' H2 ⟨e2, f2, fs, l1, l2, l3, rfl, hf2, htot, hp0, hp6, hlen⟩
      match fs, hp0, hlen, hf2, htot with
      | [z], _, _, hf2, htot =>
        have hfat := hf2.at_
        have r0 := hf2.row z (by simp)
        rw [tot_one] at htot
        rw [htot] at r0
        walk_at "go"
        exact k _ _ e2 r0
      | z0 :: z1 :: rest, _, hlen, _, _ => simp at hlen; omega
end
end K19
namespace K19
open PySem L2 Wp

def spLaw (K : PySem.W.Frag) : Sp := fun vs H Q _ => ∃ (a : Addr) (ns : List Int), vs = [.ref a] ∧ SqL K H a (ns.map V.int) ∧ ns.length ≤ 63 ∧ ∀ H', Q (.bl true) H'
def SmR (r : Row) : Prop := Sm r.1 ∧ Sm r.2.1 ∧ Sm r.2.2
/-- slots: script pool rows row k turns glues due one sums way long turn -/
def PvR (H : Hp) (a p l c : Addr) : Nat → L2.St → Hp → Prop := fun i σ' H' => PoolL H' p l ∧ Ext p H H' ∧ ∃ t r zs L, L.length = 9 ∧ σ' = [some (V.ref a), some (V.ref p), some (V.ref c), some (V.ref t)] ++ L ∧ H' t = some (.tup (rowV r)) ∧ SmR r ∧ RowsAt H' c zs ∧ zs.length = i ∧ (∀ z, z ∈ zs → SmR z.2)
theorem RowsAt.ext {H H' : Hp} {a p l : Addr} {zs : List (Addr × Row)} (h : RowsAt H a zs) (hp : PoolL H p l) (n : a ≠ p) (e : Ext p H H') : RowsAt H' a zs := by
  refine ⟨e _ _ n h.at_, fun z hz => e _ _ (fun q => ?_) (h.row z hz)⟩
  have h1 := h.row z hz
  obtain ⟨ns, i, x, c, d, h2, _⟩ := hp
  rw [q, h2] at h1
  cases h1
theorem tup_ne {H : Hp} {t p l : Addr} {r : Row} (hp : PoolL H p l) (h : H t = some (.tup (rowV r))) : t ≠ p := by
  intro q
  obtain ⟨ns, i, x, c, d, h2, _⟩ := hp
  rw [q, h2] at h
  cases h
theorem RowsAt.push {H : Hp} {c t : Addr} {zs : List (Addr × Row)} {r : Row} (h : RowsAt H c zs) (ht : H t = some (.tup (rowV r))) :
    RowsAt (upd H c (.lst ((zs.map fun z => V.ref z.1) ++ [.ref t]))) c (zs ++ [(t, r)]) := by
  refine ⟨by rw [List.map_append]; exact upd_same, fun z hz => ?_⟩
  rcases List.mem_append.mp hz with hz | hz
  · have h1 := h.row z hz
    have n1 : z.1 ≠ c := fun q => by rw [q, h.at_] at h1; cases h1
    exact u_ne n1 h1
  · rw [List.mem_singleton.mp hz]
    have n1 : t ≠ c := fun q => by rw [q, h.at_] at ht; cases ht
    exact u_ne n1 ht
def totR : List Row → Row
  | [] => (0, 0, 0)
  | z :: r => plusR z (totR r)
theorem tot_rows (zs : List (Addr × Row)) : tot zs = totR (rowsOf zs) := by
  induction zs with
  | nil => rfl
  | cons z r ih =>
    show plusR z.2 (tot r) = plusR z.2 (totR (rowsOf r))
    rw [ih]
theorem tot_eq {ys zs : List (Addr × Row)} (h : rowsOf ys = rowsOf zs) : tot ys = tot zs := by rw [tot_rows, tot_rows, h]
theorem tot_take {zs : List (Addr × Row)} {i : Nat} {z : Addr × Row} (h : zs[i]? = some z) : plusR (tot (zs.take i)) z.2 = tot (zs.take (i + 1)) := by
  rw [List.take_succ, h, tot_app]
  show _ = plusR _ (tot [z])
  rw [tot_one]
theorem at_zs {zs : List (Addr × Row)} {i : Nat} {x : V} (h : (zs.map fun z => V.ref z.1)[i]? = some x) : ∃ z, zs[i]? = some z ∧ x = V.ref z.1 := by
  rw [List.getElem?_map] at h
  cases e : zs[i]? with
  | none => rw [e] at h; cases h
  | some z => rw [e] at h; cases h; exact ⟨z, rfl, rfl⟩
theorem rows_snoc {ys zs : List (Addr × Row)} {i : Nat} {z : Addr × Row} {y : Addr} (h : rowsOf ys = rowsOf (zs.take i)) (hz : zs[i]? = some z) : rowsOf (ys ++ [(y, z.2)]) = rowsOf (zs.take (i + 1)) := by
  have et : zs.take (i + 1) = zs.take i ++ [z] := by rw [List.take_succ, hz]; rfl
  rw [et]
  unfold rowsOf at *
  rw [List.map_append, List.map_append, h]
  rfl
def PvT (HB : Hp) (p l D : Addr) : Nat → Hp → Prop := fun i H' => PoolL H' p l ∧ Ext p HB H' ∧ ∃ ds : List Int, H' D = some (.lst (ds.map V.int)) ∧ ds.length = i ∧ ∀ d, d ∈ ds → 0 ≤ d ∧ d < 7
def PvGl (C : Addr) (G : Hp) (D : Addr) (zs : List (Addr × Row)) : Nat → Hp → Prop := fun i H' => Ex G H' ∧ ∃ ys, H' D = some (.lst (refs ys)) ∧ (∀ y, y ∈ ys → GA C H' y.1 y.2) ∧ rowsOf ys = rowsOf (zs.take i) ∧ ys.length = i
def PvSu (C : Addr) (G : Hp) (D : Addr) (T : Row) : Nat → Hp → Prop := fun i H' => Ex G H' ∧ ∃ ss, H' D = some (.lst (refs ss)) ∧ (∀ y, y ∈ ss → GA C H' y.1 T) ∧ ss.length = i
def PvDue (G : Hp) (s0 s1 : List (Option V)) (zs : List (Addr × Row)) : Nat → L2.St → Hp → Prop := fun i σ' H' => Ex G H' ∧ ∃ o t, σ' = s0 ++ [o, some (V.ref t)] ++ s1 ∧ H' t = some (.tup (rowV (tot (zs.take i))))
def PvOne (G : Hp) (s0 s1 : List (Option V)) : Nat → L2.St → Hp → Prop := fun _ σ' H' => Ex G H' ∧ ∃ o, σ' = s0 ++ [o] ++ s1
def PvLong (C : Addr) (G : Hp) (s0 s1 : List (Option V)) : Nat → L2.St → Hp → Prop := fun i σ' H' => Ex G H' ∧ ∃ t g r x, σ' = s0 ++ [some (V.ref t)] ++ s1 ++ [some (V.ref g), x] ∧ H' t = some (.tup (rowV r)) ∧ GA C H' g r
section
variable {P : Program} {w : World} {K : PySem.W.Frag} {mg : Str → Option Value} {base : Heap}
theorem ok_law {f : Addr} {fd : FuncData} (F : Fun K "law" "law" s_law f fd) (T : Txt mg) {C : Addr} (GT : GlT K mg C) (GO_add : DefO P w K mg base 3 C "__add__" ["self", "other"] (spAdd C)) (GO_eq : DefO P w K mg base 1 C "__eq__" ["self", "other"] (spEq K C)) (GC_Glue : DefC P w K mg base 1 "Glue" C ["self", "natural", "stretch", "shrink"] (spGinit C)) (G_law_pool : Def P w K mg base 1 "_law_pool" ["script"] (spPoolL K)) (G_law_draw : Def P w K mg base 1 "_law_draw" ["pool", "many"] (spDrawL)) (G_law_any_number : Def P w K mg base 2 "_law_any_number" ["pool", "ahead"] (spAny)) (G_law_plus : Def P w K mg base 1 "_law_plus" ["one", "two"] (spPlus)) (G_law_tells : Def P w K mg base 3 "_law_tells" ["glue", "row"] (spTells C)) (G_law_alone : Def P w K mg base 5 "_law_alone" ["glues", "rows"] (spAlone C)) (G_law_pairs : Def P w K mg base 5 "_law_pairs" ["glues", "rows"] (spPairs C)) (G_law_sum : Def P w K mg base 4 "_law_sum" ["glues", "way"] (spSum C)) (G_law_same : Def P w K mg base 2 "_law_same" ["got", "due"] (spSame 1)) : FnOk P w K mg base CX0 7 f fd ["script"] (spLaw K) := by
  refine F.ok sc_law (fun vs H Q E h => ?_) (fun cdv A outer s H vs Q E hr h => ?_)
  · obtain ⟨a1, ns, rfl, _⟩ := h
    rfl
  · obtain ⟨a1, ns, rfl, h⟩ := h
    refine ⟨_, (pss_cons (ps_set (i := 1) sc_law.nd rfl (by first | exact Or.inl rfl | exact Or.inr rfl) (G_law_pool.call (hr.mono (by omega)) (by rfl) (pa_cons (pv 0) pa_nil)))
  (pss_cons (ps_set (i := 2) sc_law.nd rfl (by first | exact Or.inl rfl | exact Or.inr rfl) (pe_lst pa_nil))
  (pss_cons (ps_set (i := 3) sc_law.nd rfl (by first | exact Or.inl rfl | exact Or.inr rfl) (pe_tup (pa_cons pe_int (pa_cons pe_int (pa_cons pe_int pa_nil)))))
  (pss_cons (ps_for PassesOwn.never rfl (pi_range1 (by rfl) T.n_range (pa_cons (pe_op op_addL pe_int (G_law_draw.call (hr.mono (by omega)) (by rfl) (pa_cons (pv 1) (pa_cons pe_int pa_nil)))) pa_nil)) (pg_name (i := 4) sc_law.nd rfl (by first | exact Or.inl rfl | exact Or.inr rfl))
  (pss_cons (ps_set (i := 3) sc_law.nd rfl (by first | exact Or.inl rfl | exact Or.inr rfl) (pe_tup (pa_cons (G_law_any_number.call (hr.mono (by omega)) (by rfl) (pa_cons (pv 1) (pa_cons (pe_ix (ixA (K := K) rfl) (pv 3) pe_int (fun _ _ => rfl)) pa_nil))) (pa_cons (G_law_any_number.call (hr.mono (by omega)) (by rfl) (pa_cons (pv 1) (pa_cons (pe_ix (ixA (K := K) rfl) (pv 3) pe_int (fun _ _ => rfl)) pa_nil))) (pa_cons (G_law_any_number.call (hr.mono (by omega)) (by rfl) (pa_cons (pv 1) (pa_cons (pe_ix (ixA (K := K) rfl) (pv 3) pe_int (fun _ _ => rfl)) pa_nil))) pa_nil)))))
  (pss_one (ps_expr (pe_bmK (K := K) rfl PySem.F.plainAttrs_list PySem.F.slot_list_append PySem.F.type_list_append mt_append (pv 2) (pa_cons (pv 3) pa_nil))))))
  (pss_cons (ps_setLc (i := 5) (own := [("k", 4)]) (g := gName 4) (tt := tYes) (by rfl) sc_law.nd rfl rfl (sw_true rfl rfl rfl (by decide +kernel)) (pi_range1 (by rfl) T.n_range (pa_cons (G_law_draw.call (hr.mono (by omega)) (by rfl) (pa_cons (pv 1) (pa_cons pe_int pa_nil))) pa_nil)) (blkOk_by (own := [("k", 4)]) (N := ["script", "pool", "rows", "row", "k", "turns", "glues", "one", "due", "sums", "way", "long", "turn"]) (sc := defScope s_law) (by decide +kernel)) (fun _ _ _ _ _ => pg_name (i := 4) sc_law.nd rfl (by first | exact Or.inl rfl | exact Or.inr rfl)) (fun _ _ _ _ _ => pts_nil) (fun _ _ _ _ _ => (G_law_draw.call (hr.mono (by omega)) (by rfl) (pa_cons (pv 1) (pa_cons pe_int pa_nil)))))
  (pss_cons (ps_set (i := 6) sc_law.nd rfl (by first | exact Or.inl rfl | exact Or.inr rfl) (pe_lc (own := [("one", 7)]) (g := gName 7) (tt := tYes) (by rfl) sc_law.nd (pi_listK (K := K) rfl (pv 2)) (blkOk_by (own := [("one", 7)]) (N := ["script", "pool", "rows", "row", "k", "turns", "glues", "one", "due", "sums", "way", "long", "turn"]) (sc := defScope s_law) (by decide +kernel)) (fun _ _ _ _ _ => pg_name (i := 7) sc_law.nd rfl (by first | exact Or.inl rfl | exact Or.inr rfl)) (fun _ _ _ _ _ => pts_nil) (fun _ _ _ _ _ => (GC_Glue.call (hr.mono (by omega)) (by rfl) (pa_cons (pe_ix (ixA (K := K) rfl) (pv 7) pe_int (fun _ _ => rfl)) (pa_cons (pe_ix (ixA (K := K) rfl) (pv 7) pe_int (fun _ _ => rfl)) (pa_cons (pe_ix (ixA (K := K) rfl) (pv 7) pe_int (fun _ _ => rfl)) pa_nil)))))))
  (pss_cons (ps_if (PW.pt (pw_or (pt_not (pt_val (G_law_alone.call (hr.mono (by omega)) (by rfl) (pa_cons (pv 6) (pa_cons (pv 2) pa_nil))))) (pw_or1 (pt_not (pt_val (G_law_pairs.call (hr.mono (by omega)) (by rfl) (pa_cons (pv 6) (pa_cons (pv 2) pa_nil))))))))
  (pss_one (ps_ret pe_bl))
  pss_nil)
  (pss_cons (ps_set (i := 8) sc_law.nd rfl (by first | exact Or.inl rfl | exact Or.inr rfl) (pe_tup (pa_cons pe_int (pa_cons pe_int (pa_cons pe_int pa_nil)))))
  (pss_cons (ps_for PassesOwn.never rfl (pi_listK (K := K) rfl (pv 2)) (pg_name (i := 7) sc_law.nd rfl (by first | exact Or.inl rfl | exact Or.inr rfl))
  (pss_one (ps_set (i := 8) sc_law.nd rfl (by first | exact Or.inl rfl | exact Or.inr rfl) (G_law_plus.call (hr.mono (by omega)) (by rfl) (pa_cons (pv 8) (pa_cons (pv 7) pa_nil))))))
  (pss_cons (ps_setLc (i := 9) (own := [("way", 10)]) (g := gName 10) (tt := tYes) (by rfl) sc_law.nd rfl rfl (sw_true rfl rfl rfl (by decide +kernel)) (pi_range1 (by rfl) T.n_range (pa_cons pe_int pa_nil)) (blkOk_by (own := [("way", 10)]) (N := ["script", "pool", "rows", "row", "k", "turns", "glues", "one", "due", "sums", "way", "long", "turn"]) (sc := defScope s_law) (by decide +kernel)) (fun _ _ _ _ _ => pg_name (i := 10) sc_law.nd rfl (by first | exact Or.inl rfl | exact Or.inr rfl)) (fun _ _ _ _ _ => pts_nil) (fun _ _ _ _ _ => (G_law_sum.call (hr.mono (by omega)) (by rfl) (pa_cons (pv 6) (pa_cons (pv 10) pa_nil)))))
  (pss_cons (ps_for PassesOwn.never rfl (pi_listK (K := K) rfl (pv 9)) (pg_name (i := 7) sc_law.nd rfl (by first | exact Or.inl rfl | exact Or.inr rfl))
  (pss_one (ps_if (PW.pt (pw_or (pt_not (pt_val (G_law_tells.call (hr.mono (by omega)) (by rfl) (pa_cons (pv 7) (pa_cons (pv 8) pa_nil))))) (pw_or1 (pt_not (pt_val (G_law_same.call (hr.mono (by omega)) (by rfl) (pa_cons (pe_cmpR (GO_eq.eq (K := K) rfl (hr.mono (by omega))) (pv 7) (pe_ix (ixA (K := K) rfl) (pv 9) pe_int (fun _ _ => rfl)) (nomark _)) (pa_cons pe_bl pa_nil))))))))
  (pss_one (ps_ret pe_bl))
  pss_nil)))
  (pss_cons (ps_set (i := 11) sc_law.nd rfl (by first | exact Or.inl rfl | exact Or.inr rfl) (pe_ix (ixA (K := K) rfl) (pv 6) pe_int (fun _ _ => rfl)))
  (pss_cons (ps_set (i := 8) sc_law.nd rfl (by first | exact Or.inl rfl | exact Or.inr rfl) (pe_ix (ixA (K := K) rfl) (pv 2) pe_int (fun _ _ => rfl)))
  (pss_cons (ps_for PassesOwn.never rfl (pi_listK (K := K) rfl (pv 5)) (pg_name (i := 12) sc_law.nd rfl (by first | exact Or.inl rfl | exact Or.inr rfl))
  (pss_cons (ps_if (pt_cmpR op_lt (pv 12) (pe_callB (c_lenK (K := K) rfl) (by rfl) T.n_len (by decide +kernel) (pa_cons (pv 2) pa_nil)) (nomark _))
  (pss_cons (ps_set (i := 11) sc_law.nd rfl (by first | exact Or.inl rfl | exact Or.inr rfl) (pe_op (GO_add.bin .Add (hr.mono (by omega))) (pv 11) (pe_ix (ixA (K := K) rfl) (pv 6) (pv 12) (fun _ _ => rfl))))
  (pss_one (ps_set (i := 8) sc_law.nd rfl (by first | exact Or.inl rfl | exact Or.inr rfl) (G_law_plus.call (hr.mono (by omega)) (by rfl) (pa_cons (pv 8) (pa_cons (pe_ix (ixA (K := K) rfl) (pv 2) (pv 12) (fun _ _ => rfl)) pa_nil))))))
  (pss_cons (ps_set (i := 11) sc_law.nd rfl (by first | exact Or.inl rfl | exact Or.inr rfl) (pe_op (GO_add.bin .Add (hr.mono (by omega))) (pv 11) (pv 11)))
  (pss_one (ps_set (i := 8) sc_law.nd rfl (by first | exact Or.inl rfl | exact Or.inr rfl) (G_law_plus.call (hr.mono (by omega)) (by rfl) (pa_cons (pv 8) (pa_cons (pv 8) pa_nil)))))))
  (pss_one (ps_if (PW.pt (pw_or (pt_not (pt_val (G_law_tells.call (hr.mono (by omega)) (by rfl) (pa_cons (pv 11) (pa_cons (pv 8) pa_nil))))) (pw_or1 (pt_not (pt_val (G_law_same.call (hr.mono (by omega)) (by rfl) (pa_cons (pe_cmpR (GO_eq.eq (K := K) rfl (hr.mono (by omega))) (pv 11) (pe_ix (ixA (K := K) rfl) (pv 6) pe_int (fun _ _ => rfl)) (nomark _)) (pa_cons (pe_cmpR (op_eqDK (K := K) rfl hr.units) (pv 8) (pe_ix (ixA (K := K) rfl) (pv 2) pe_int (fun _ _ => rfl)) (nomark _)) pa_nil))))))))
  (pss_one (ps_ret pe_bl))
  pss_nil))))
  (pss_one (ps_ret (G_law_alone.call (hr.mono (by omega)) (by rfl) (pa_cons (pv 6) (pa_cons (pv 2) pa_nil))))))))))))))))))), ?_⟩
    rw [show start ["script", "pool", "rows", "row", "k", "turns", "glues", "one", "due", "sums", "way", "long", "turn"] [.ref a1] = [some (.ref a1), none, none, none, none, none, none, none, none, none, none, none, none] from rfl]
    obtain ⟨hS, hl, k⟩ := h
    walk_at "go"
    refine ⟨_, _, rfl, hS, fun p l H1 p0 l0 e1 hp1 => ?_⟩
    walk_at "go"
    intro c hc
    have ncp := hp1.nep hc
    have ncl := hp1.nel hc
    have hp2 := hp1.new (o := .lst []) hc
    have yc : upd H1 c (.lst []) c = some (.lst []) := upd_same
    have x2 : Ext p H1 (upd H1 c (.lst [])) := Ext.refl.new' hc
    generalize upd H1 c (.lst []) = H2 at *
    walk_at "go"
    intro t ht
    have nct : c ≠ t := ne_of_none yc ht
    have hp3 := hp2.new (o := .tup (rowV (0, 0, 0))) ht
    have yt : upd H2 t (.tup (rowV (0, 0, 0))) t = some (.tup (rowV (0, 0, 0))) := upd_same
    have yc3 : upd H2 t (.tup (rowV (0, 0, 0))) c = some (.lst []) := u_ne nct yc
    change _ at yt
    have x3 : Ext p H1 (upd H2 t (.tup (rowV (0, 0, 0)))) := x2.new' ht
    change spDrawL _ (upd H2 t (.tup (rowV (0, 0, 0)))) _ _
    generalize upd H2 t (.tup (rowV (0, 0, 0))) = H3 at *
    refine ⟨_, _, rfl, l, hp3, by decide, by decide, fun n H4 n0 n9 hp4 bt4 => ?_⟩
    walk_at "go"
    refine ⟨by omega, ?_⟩
    refine loopR (PvR H1 a1 p l c) ⟨hp4, x3.trans bt4.ext, t, (0, 0, 0), [], [none, none, none, none, none, none, none, none, none], rfl, rfl, bt4.get (tup_ne hp3 yt) yt, ⟨⟨by decide, by decide⟩, ⟨by decide, by decide⟩, ⟨by decide, by decide⟩⟩, ⟨bt4.get ncp yc3, (fun z hz => by cases hz)⟩, rfl, (fun z hz => by cases hz)⟩ ?_ ?_
    · rintro i σ' H5 hi ⟨hp5, x5, t, r, zs, l, hl9, rfl, ht5, hsr, hr5, hzl, hzs⟩
      obtain ⟨l1, l2, l3, l4, l5, l6, l7, l8, l9, rfl⟩ : ∃ l1 l2 l3 l4 l5 l6 l7 l8 l9, l = [l1, l2, l3, l4, l5, l6, l7, l8, l9] := by
        match l, hl9 with
        | [l1, l2, l3, l4, l5, l6, l7, l8, l9], _ => exact ⟨l1, l2, l3, l4, l5, l6, l7, l8, l9, rfl⟩
      walk_at "go"
      refine ⟨_, _, rfl, l, hp5, hsr.1, fun r1 H6 s1 hp6 bt6 => ?_⟩
      have ht6 := bt6.get (tup_ne hp5 ht5) ht5
      walk_at "go"
      refine ⟨_, _, rfl, l, hp6, hsr.2.1, fun r2 H7 s2 hp7 bt7 => ?_⟩
      have ht7 := bt7.get (tup_ne hp6 ht6) ht6
      walk_at "go"
      refine ⟨_, _, rfl, l, hp7, hsr.2.2, fun r3 H8 s3 hp8 bt8 => ?_⟩
      have hr8 := ((hr5.ext hp5 ncp bt6.ext).ext hp6 ncp bt7.ext).ext hp7 ncp bt8.ext
      have x8 := ((x5.trans bt6.ext).trans bt7.ext).trans bt8.ext
      walk_at "go"
      intro u hu
      have hp9 := hp8.new (o := .tup (rowV (r1, r2, r3))) hu
      have yu : upd H8 u (.tup (rowV (r1, r2, r3))) u = some (.tup (rowV (r1, r2, r3))) := upd_same
      have hr9 : RowsAt (upd H8 u (.tup (rowV (r1, r2, r3)))) c zs := hr8.ex (Ex.refl.new hu)
      have x9 : Ext p H1 (upd H8 u (.tup (rowV (r1, r2, r3)))) := x8.new' hu
      change rMt _ _ _ _ _ _ (upd H8 u (.tup (rowV (r1, r2, r3)))) _
      generalize upd H8 u (.tup (rowV (r1, r2, r3))) = H9 at *
      have hat9 := hr9.at_
      refine mtl hat9 ?_
      walk_at "go"
      have nuc : u ≠ c := fun q => by rw [q, hat9] at yu; cases yu
      refine ⟨hp9.upd ncp ncl, x9.mut hc, u, (r1, r2, r3), zs ++ [(u, (r1, r2, r3))], [some (V.int i), l2, l3, l4, l5, l6, l7, l8, l9], rfl, rfl, u_ne nuc yu, ⟨s1, s2, s3⟩, hr9.push yu, by rw [List.length_append, hzl]; rfl, fun z hz => ?_⟩
      rcases List.mem_append.mp hz with hz | hz
      · exact hzs z hz
      · rw [List.mem_singleton.mp hz]
        exact ⟨s1, s2, s3⟩
    · rintro σ' H5 ⟨hp5, x5, t, r, zs, l, hl9, rfl, ht5, hsr, hr5, hzl, hzs⟩
      obtain ⟨l1, l2, l3, l4, l5, l6, l7, l8, l9, rfl⟩ : ∃ l1 l2 l3 l4 l5 l6 l7 l8 l9, l = [l1, l2, l3, l4, l5, l6, l7, l8, l9] := by
        match l, hl9 with
        | [l1, l2, l3, l4, l5, l6, l7, l8, l9], _ => exact ⟨l1, l2, l3, l4, l5, l6, l7, l8, l9, rfl⟩
      walk_at "go"
      refine ⟨_, _, rfl, _, hp5, by decide, by decide, fun m H6 m0 m9 hp6 bt6 => ?_⟩
      have hr6 := hr5.ext hp5 ncp bt6.ext
      walk_at "go"
      refine ⟨by omega, ?_⟩
      intro D hD
      have nDp := hp6.nep hD
      refine lc_range (lo := 0) (n := m.toNat) (PvT H6 p _ D) ⟨hp6.new hD, Ext.refl.new' hD, [], upd_same, rfl, (fun d hd => by cases hd)⟩ ?_ ?_
      · rintro i H7 hi ⟨hp7, x7, ds, hD7, hdl, hds⟩
        walk_at "go"
        refine ⟨_, _, rfl, _, hp7, by decide, by decide, fun d H8 d0 d9 hp8 bt8 => ?_⟩
        have hD8 := bt8.get nDp hD7
        refine ⟨_, hD8, sz_lt (by rw [List.length_map]; omega), hp8.upd nDp (fun q => ?_), (x7.trans bt8.ext).mut hD, ds ++ [d], by rw [upd_same, List.map_append]; rfl, by rw [List.length_append, hdl]; rfl, fun e he => ?_⟩
        · exact hp6.nel hD q
        · rcases List.mem_append.mp he with he | he
          · exact hds e he
          · rw [List.mem_singleton.mp he]
            exact ⟨d0, d9⟩
      · rintro G0 ⟨hp7, x7, ds, hDs, hdl, hds⟩
        have hrG := hr6.ext hp6 ncp x7
        have hcat := hrG.at_
        have hz6 : zs.length ≤ 6 := by omega
        have hz0 : 0 < zs.length := by omega
        walk_at "go"
        intro E1 hE1
        refine lc_list (xs := zs.map fun z => V.ref z.1) (PvGl C G0 E1 zs) ⟨Ex.refl.new hE1, [], upd_same, (fun y hy => by cases hy), rfl, rfl⟩ (fun i H hi p => SqL.of (p.1 _ _ hcat)) ?_ ?_
        · rintro i x H7 hx ⟨e7, ys, hD7, hys7, hrw, hyl⟩
          obtain ⟨z, hz, rfl⟩ := at_zs hx
          have hiz := (List.getElem?_eq_some_iff.mp hz).1
          have hrow := e7 _ _ (hrG.row z (List.mem_of_getElem? hz))
          walk_at "go"
          refine made fun g H8 e8 g0 hg => ?_
          have hD8 := e8 _ _ hD7
          refine ⟨_, hD8, sz_lt (by unfold refs; rw [List.length_map]; omega), (e7.trans e8).mut hE1, ys ++ [(g, z.2)], by rw [upd_same]; unfold refs; rw [List.map_append]; rfl, fun y hy => ?_, rows_snoc hrw hz, by rw [List.length_append, hyl]; rfl⟩
          rcases List.mem_append.mp hy with hy | hy
          · exact ((hys7 y hy).ex e8).mut hD8
          · rw [List.mem_singleton.mp hy]
            exact GA.mut hg hD8
        · rintro H7 ⟨e7, ys, hD7, hys7, hrw, hyl⟩
          rw [List.length_map] at hyl
          rw [List.length_map, List.take_length] at hrw
          have hgA : GlsAt C H7 E1 ys := ⟨hD7, hys7⟩
          have hrA := hrG.ex e7
          have hDA := e7 _ _ hDs
          walk_at "go"
          refine ⟨_, _, rfl, ys, zs, hgA, hrA, hrw, hz6, (fun z hz => (hzs z hz).1), fun H8 e8 => ?_⟩
          walk_at "go"
          refine ⟨_, _, rfl, ys, zs, hgA.ex e8, hrA.ex e8, hrw, hz6, fun H9 e9 => ?_⟩
          have hgB := (hgA.ex e8).ex e9
          have hrB := (hrA.ex e8).ex e9
          have hDB := e9 _ _ (e8 _ _ hDA)
          walk_at "go"
          intro u hu
          have yu : upd H9 u (.tup (rowV (0, 0, 0))) u = some (.tup (rowV (0, 0, 0))) := upd_same
          have eu : Ex H9 (upd H9 u (.tup (rowV (0, 0, 0)))) := Ex.refl.new hu
          change rIL _ _ (upd H9 u (.tup (rowV (0, 0, 0)))) _
          generalize upd H9 u (.tup (rowV (0, 0, 0))) = Ha at *
          have hgC := hgB.ex eu
          have hrC := hrB.ex eu
          have hDC := eu _ _ hDB
          have hcC := hrC.at_
          refine ril hcC ?_
          refine loopL (zs.map fun z => V.ref z.1) (PvDue Ha [some (V.ref a1), some (V.ref p), some (V.ref c), some (V.ref t), l1, some (V.ref D), some (V.ref E1)] [l6, l7, l8, l9] zs) ⟨Ex.refl, _, u, rfl, yu⟩ (fun i σ H hi p => SqL.of (p.1 _ _ hcC)) ?_ ?_
          · rintro i x σ' Hb hx ⟨eb, o, t2, rfl, ht2⟩
            obtain ⟨z, hz, rfl⟩ := at_zs hx
            have hrow := eb _ _ (hrC.row z (List.mem_of_getElem? hz))
            walk_at "go"
            refine ⟨_, _, rfl, tot (zs.take i), z.2, ht2, hrow, fun t3 Hc ec t30 ht3 => ?_⟩
            exact ⟨eb.trans ec, _, t3, rfl, by rw [← tot_take hz]; exact ht3⟩
          · rintro σ' Hb ⟨eb, o, t2, rfl, ht2⟩
            rw [List.length_map, List.take_length] at ht2
            have hgD := hgC.ex eb
            have hrD := hrC.ex eb
            have hDD := eb _ _ hDC
            have hty := tot_eq hrw
            walk_at "go"
            intro S hS1
            refine lc_range (lo := 0) (n := 3) (PvSu C Hb S (tot zs)) ⟨Ex.refl.new hS1, [], upd_same, (fun y hy => by cases hy), rfl⟩ ?_ ?_
            · rintro i Hc hi ⟨ec, ss, hDc, hss, hsl⟩
              walk_at "go"
              refine ⟨_, _, rfl, ys, hgD.ex ec, by omega, by omega, by omega, by omega, fun g Hd ed hg => ?_⟩
              have hDd := ed _ _ hDc
              rw [hty] at hg
              refine ⟨_, hDd, sz_lt (by unfold refs; rw [List.length_map]; omega), (ec.trans ed).mut hS1, ss ++ [(g, tot zs)], by rw [upd_same]; unfold refs; rw [List.map_append]; rfl, fun y hy => ?_, by rw [List.length_append, hsl]; rfl⟩
              rcases List.mem_append.mp hy with hy | hy
              · exact ((hss y hy).ex ed).mut hDd
              · rw [List.mem_singleton.mp hy]
                exact hg.mut hDd
            · rintro Hc ⟨ec, ss, hSc, hss, hsl⟩
              have hgE := hgD.ex ec
              have hrE := hrD.ex ec
              have hDE := ec _ _ hDD
              have htE := ec _ _ ht2
              have hs0 : ss[0]? = some (ss[0]'(by omega)) := List.getElem?_eq_getElem (by omega)
              have hg0 := hss _ (List.mem_of_getElem? hs0)
              generalize ss[0]'(by omega) = y0 at *
              have hr0 : (refs ss)[0]? = some (V.ref y0.1) := at_ref hs0
              walk_at "go"
              refine loopL (refs ss) (PvOne Hc [some (V.ref a1), some (V.ref p), some (V.ref c), some (V.ref t), l1, some (V.ref D), some (V.ref E1)] [some (V.ref t2), some (V.ref S), l7, l8, l9]) ⟨Ex.refl, _, rfl⟩ (fun i σ H hi p => SqL.of (p.1 _ _ hSc)) ?_ ?_
              · rintro i x σ' Hd hx ⟨ed, o2, rfl⟩
                obtain ⟨y, hy, rfl⟩ := at_zs hx
                have gy := (hss y (List.mem_of_getElem? hy)).ex ed
                walk_at "go"
                refine ⟨_, _, rfl, tot zs, gy, ed _ _ htE, fun He ee => ?_⟩
                walk_at "go"
                refine ixal (ee _ _ (ed _ _ hSc)) (show atI _ ((0 : Nat) : Int) = _ from atI_nat hr0) ?_
                walk_at "go"
                refine rOwnEq GT (gy.ex ee) ((hg0.ex ed).ex ee) ?_
                rw [decide_eq_true (rfl : tot zs = tot zs)]
                walk_at "go"
                refine same_b ?_
                walk_at "go"
                first | exact ⟨ed.trans ee, _, rfl⟩ | exact ⟨_, rfl⟩
              · rintro σ' Hd ⟨ed, o2, rfl⟩
                have hgF := hgE.ex ed
                have hrF := hrE.ex ed
                have hDF := ed _ _ hDE
                obtain ⟨y1, z1, r1, hy1, hz1, gg1, ww1, _⟩ := pick2 hgF hrF hrw hz0
                have GL : ∀ G, Ex Hd G → G E1 = some (.lst (ys.map fun z => V.ref z.1)) := fun G e => e _ _ hgF.at_
                have RL : ∀ G, Ex Hd G → G c = some (.lst (zs.map fun z => V.ref z.1)) := fun G e => e _ _ hrF.at_
                walk_at "go"
                refine ixal (GL _ Ex.refl) (show atI _ ((0 : Nat) : Int) = _ from atI_nat hy1) ?_
                walk_at "go"
                refine ixal (RL _ Ex.refl) (show atI _ ((0 : Nat) : Int) = _ from atI_nat hz1) ?_
                walk_at "go"
                refine loopL (ds.map V.int) (PvLong C Hd [some (V.ref a1), some (V.ref p), some (V.ref c), some (V.ref t), l1, some (V.ref D), some (V.ref E1), o2] [some (V.ref S), l7]) ⟨Ex.refl, z1, y1, r1, _, rfl, ww1 _ Ex.refl, gg1 _ Ex.refl⟩ (fun i σ H hi p => SqL.of (p.1 _ _ hDF)) ?_ ?_
                · rintro i x σ' He hx ⟨ee, t4, g4, r4, x4, rfl, ht4, hg4⟩
                  obtain ⟨d, rfl, hd0⟩ : ∃ d, x = V.int d ∧ 0 ≤ d := by
                    obtain ⟨d, hd, rfl⟩ := List.mem_map.mp (List.mem_of_getElem? hx)
                    exact ⟨d, rfl, (hds d hd).1⟩
                  have hcF := RL _ ee
                  walk_at "go"
                  rw [List.length_map]
                  refine ite2 (fun hlt => ?_) (fun hlt => ?_)
                  · obtain ⟨dn, rfl⟩ : ∃ dn : Nat, d = (dn : Int) := ⟨d.toNat, by omega⟩
                    obtain ⟨ym, zm, rm, hym, hzm, gm, wm, _⟩ := pick2 hgF hrF hrw (show dn < zs.length by omega)
                    walk_at "go"
                    refine ixal (GL _ ee) (atI_nat hym) ?_
                    walk_at "go"
                    refine rOwnAdd hg4 (gm _ ee) fun g5 Hf ef g50 hg5 => ?_
                    have xf := ee.trans ef
                    walk_at "go"
                    refine ixal (RL _ xf) (atI_nat hzm) ?_
                    walk_at "go"
                    refine ⟨_, _, rfl, r4, rm, ef _ _ ht4, wm _ xf, fun t5 Hg eg t50 ht5 => ?_⟩
                    have xg := xf.trans eg
                    have hg6 := hg5.ex eg
                    walk_at "go"
                    refine ⟨_, _, rfl, _, hg6, ht5, fun Hh eh => ?_⟩
                    have xh := xg.trans eh
                    walk_at "go"
                    refine ixal (GL _ xh) (show atI _ ((0 : Nat) : Int) = _ from atI_nat hy1) ?_
                    walk_at "go"
                    refine rOwnEq GT (hg6.ex eh) (gg1 _ xh) ?_
                    walk_at "go"
                    refine ixal (RL _ xh) (show atI _ ((0 : Nat) : Int) = _ from atI_nat hz1) ?_
                    walk_at "go"
                    refine rEqRow (eh _ _ ht5) (ww1 _ xh) ?_
                    walk_at "go"
                    refine same_b ?_
                    walk_at "go"
                    first | exact ⟨xh, t5, g5, _, _, rfl, eh _ _ ht5, hg6.ex eh⟩ | exact ⟨t5, g5, _, _, rfl, eh _ _ ht5, hg6.ex eh⟩
                  · walk_at "go"
                    refine rOwnAdd hg4 hg4 fun g5 Hf ef g50 hg5 => ?_
                    have xf := ee.trans ef
                    walk_at "go"
                    refine ⟨_, _, rfl, r4, r4, ef _ _ ht4, ef _ _ ht4, fun t5 Hg eg t50 ht5 => ?_⟩
                    have xg := xf.trans eg
                    have hg6 := hg5.ex eg
                    walk_at "go"
                    refine ⟨_, _, rfl, _, hg6, ht5, fun Hh eh => ?_⟩
                    have xh := xg.trans eh
                    walk_at "go"
                    refine ixal (GL _ xh) (show atI _ ((0 : Nat) : Int) = _ from atI_nat hy1) ?_
                    walk_at "go"
                    refine rOwnEq GT (hg6.ex eh) (gg1 _ xh) ?_
                    walk_at "go"
                    refine ixal (RL _ xh) (show atI _ ((0 : Nat) : Int) = _ from atI_nat hz1) ?_
                    walk_at "go"
                    refine rEqRow (eh _ _ ht5) (ww1 _ xh) ?_
                    walk_at "go"
                    refine same_b ?_
                    walk_at "go"
                    first | exact ⟨xh, t5, g5, _, _, rfl, eh _ _ ht5, hg6.ex eh⟩ | exact ⟨t5, g5, _, _, rfl, eh _ _ ht5, hg6.ex eh⟩
                · rintro σ' He ⟨ee, t4, g4, r4, x4, rfl, ht4, hg4⟩
                  walk_at "go"
                  exact ⟨_, _, rfl, ys, zs, hgF.ex ee, hrF.ex ee, hrw, hz6, (fun z hz => (hzs z hz).1), fun H8 e8 => k _⟩
end
end K19
namespace K19
open PySem L2 Wp
theorem all_mk {l : PySem.W.OpenLaw} {w : World} {K : PySem.W.Frag} {h : Heap} {mg : Str → Option Value} {fa C pZ pE fI fZ fA fQ fE fP f_law_pool f_law_draw f_law_same f_law_any_number f_law_plus f_law_tells f_law_like f_law_sum f_law_pairs f_law_alone f_law : Addr} (X : K.In h) (G : h.Ns mainGlobals mg) (hfa : mg "law" = some (.ref fa))
    {od0 an0 od1 an1 od2 an2 od3 an3 od4 an4 od5 an5 od6 an6 od7 an7 od8 an8 od9 an9 od10 an10 odI anI odZ anZ odA anA odQ anQ odE anE odP anP : Option Addr} {sl0 sl1 sl2 sl3 sl4 sl5 sl6 sl7 sl8 sl9 sl10 slI slZ slA slQ slE slP : Array (Option Value)} {oc0 kV0 dc0 pm0 cd0 ct0 oc1 kV1 dc1 pm1 cd1 ct1 oc2 kV2 dc2 pm2 cd2 ct2 oc3 kV3 dc3 pm3 cd3 ct3 oc4 kV4 dc4 pm4 cd4 ct4 oc5 kV5 dc5 pm5 cd5 ct5 oc6 kV6 dc6 pm6 cd6 ct6 oc7 kV7 dc7 pm7 cd7 ct7 oc8 kV8 dc8 pm8 cd8 ct8 oc9 kV9 dc9 pm9 cd9 ct9 oc10 kV10 dc10 pm10 cd10 ct10 ocI kVI dcI pmI cdI ctI ocZ kVZ dcZ pmZ cdZ ctZ ocA kVA dcA pmA cdA ctA ocQ kVQ dcQ pmQ cdQ ctQ ocE kVE dcE pmE cdE ctE ocP kVP dcP pmP cdP ctP : Value} {restZ restE : List Value}
    (aC : PySem.W.nsIn K mainGlobals "Glue" = some (some (.ref C)))
    (aI : PySem.W.findIn K (.ref C) "__init__" = some (some (.ref fI)))
    (iI : PySem.W.isFn K (.ref fI) = true)
    (lI : K.lookup fI = some ⟨ocI, odI, .func (PySem.W.fnOf "__init__" "Glue.__init__" (defArgs s_ginit) (defBody s_ginit) (defScope s_ginit) .none kVI dcI pmI anI cdI ctI), slI⟩)
    (cI : PySem.W.codeIn K cdI "Glue.__init__" = true)
    (kI : PySem.W.keepIn K (.ref fI) = true)
    (rd : PySem.W.readsIn K C (.type "type") = true)
    (ga : PySem.W.specialIn K (.ref C) "__getattribute__" = some (some (.builtin "type.__getattribute__")))
    (sZ : PySem.W.findCls K (.ref C) (.type "type") "zero" = some (.get (.builtin "staticmethod.__get__") (.ref pZ) .none (.ref C)))
    (rZ : PySem.W.recIn K pZ "staticmethod" = some (.ref fZ :: restZ))
    (lZ : K.lookup fZ = some ⟨ocZ, odZ, .func (PySem.W.fnOf "zero" "Glue.zero" (defArgs s_gzero) (defBody s_gzero) (defScope s_gzero) .none kVZ dcZ pmZ anZ cdZ ctZ), slZ⟩)
    (cZ : PySem.W.codeIn K cdZ "Glue.zero" = true)
    (kZ : PySem.W.keepIn K (.ref fZ) = true)
    (aA : PySem.W.findIn K (.ref C) "__add__" = some (some (.ref fA)))
    (iA : PySem.W.isFn K (.ref fA) = true)
    (lA : K.lookup fA = some ⟨ocA, odA, .func (PySem.W.fnOf "__add__" "Glue.__add__" (defArgs s_gadd) (defBody s_gadd) (defScope s_gadd) .none kVA dcA pmA anA cdA ctA), slA⟩)
    (cA : PySem.W.codeIn K cdA "Glue.__add__" = true)
    (kA : PySem.W.keepIn K (.ref fA) = true)
    (aQ : PySem.W.findIn K (.ref C) "__eq__" = some (some (.ref fQ)))
    (iQ : PySem.W.isFn K (.ref fQ) = true)
    (lQ : K.lookup fQ = some ⟨ocQ, odQ, .func (PySem.W.fnOf "__eq__" "Glue.__eq__" (defArgs s_geq) (defBody s_geq) (defScope s_geq) .none kVQ dcQ pmQ anQ cdQ ctQ), slQ⟩)
    (cQ : PySem.W.codeIn K cdQ "Glue.__eq__" = true)
    (kQ : PySem.W.keepIn K (.ref fQ) = true)
    (aE : PySem.W.findIn K (.ref C) "least" = some (some (.ref pE)))
    (gE : PySem.W.specialIn K (.ref pE) "__get__" = some (some (.builtin "property.__get__")))
    (tE : PySem.W.takesIn K (.ref pE) = some true)
    (rE : PySem.W.recIn K pE "property" = some (.ref fE :: restE))
    (lE : K.lookup fE = some ⟨ocE, odE, .func (PySem.W.fnOf "least" "Glue.least" (defArgs s_gleast) (defBody s_gleast) (defScope s_gleast) .none kVE dcE pmE anE cdE ctE), slE⟩)
    (cE : PySem.W.codeIn K cdE "Glue.least" = true)
    (kE : PySem.W.keepIn K (.ref fE) = true)
    (aP : PySem.W.findIn K (.ref C) "plain" = some (some (.ref fP)))
    (iP : PySem.W.isFn K (.ref fP) = true)
    (lP : K.lookup fP = some ⟨ocP, odP, .func (PySem.W.fnOf "plain" "Glue.plain" (defArgs s_plain) (defBody s_plain) (defScope s_plain) .none kVP dcP pmP anP cdP ctP), slP⟩)
    (cP : PySem.W.codeIn K cdP "Glue.plain" = true)
    (kP : PySem.W.keepIn K (.ref fP) = true)
    (pg : PySem.W.plainGet K C Str.empty = true)
    (hd : PySem.W.hasDictIn K C = true)
    (po : PySem.W.plainOver K C = true)
    (sa : PySem.W.findIn K (.ref C) "__setattr__" = some (some (.builtin "object.__setattr__")))
    (mk : PySem.W.makesIn K C = true)
    (kc : PySem.W.keepIn K (.ref C) = true)
    (sf : PySem.W.selfFirst K C = true)
    (nN : PySem.W.findIn K (.ref C) "natural" = some none)
    (nS : PySem.W.findIn K (.ref C) "stretch" = some none)
    (nK : PySem.W.findIn K (.ref C) "shrink" = some none)
    (ha : PySem.W.findIn K (.ref C) "__class__" = some (some (.builtin "object.__class__")))
    (hn : PySem.W.specialIn K (.builtin "object.__class__") "__get__" = some (some (.builtin "getset_descriptor.__get__")))
    (ht : PySem.W.takesIn K (.builtin "object.__class__") = some true)
    (hm : PySem.W.mroIn K C (.type "object") = some true)
    (me : PySem.W.kitOne K (.ref C) (.ref C) = some true)
    (x0 : PySem.W.kitOne K (.type "int") (.ref C) = some false)
    (y0 : PySem.W.subIn K (.type "int") (.ref C) = some false)
    (x1 : PySem.W.kitOne K (.type "str") (.ref C) = some false)
    (y1 : PySem.W.subIn K (.type "str") (.ref C) = some false)
    (x2 : PySem.W.kitOne K (.type "bool") (.ref C) = some false)
    (y2 : PySem.W.subIn K (.type "bool") (.ref C) = some false)
    (x3 : PySem.W.kitOne K (.type "NoneType") (.ref C) = some false)
    (y3 : PySem.W.subIn K (.type "NoneType") (.ref C) = some false)
    (x4 : PySem.W.kitOne K (.type "list") (.ref C) = some false)
    (y4 : PySem.W.subIn K (.type "list") (.ref C) = some false)
    (x5 : PySem.W.kitOne K (.type "tuple") (.ref C) = some false)
    (y5 : PySem.W.subIn K (.type "tuple") (.ref C) = some false)
    (x6 : PySem.W.kitOne K (.type "dict") (.ref C) = some false)
    (y6 : PySem.W.subIn K (.type "dict") (.ref C) = some false)
    (a0 : PySem.W.nsIn K mainGlobals "_law_pool" = some (some (.ref f_law_pool)))
    (l0 : K.lookup f_law_pool = some ⟨oc0, od0, .func (PySem.W.fnOf "_law_pool" "_law_pool" (defArgs s_law_pool) (defBody s_law_pool) (defScope s_law_pool) .none kV0 dc0 pm0 an0 cd0 ct0), sl0⟩)
    (c0 : PySem.W.codeIn K cd0 "_law_pool" = true)
    (k0 : PySem.W.keepIn K (.ref f_law_pool) = true)
    (a1 : PySem.W.nsIn K mainGlobals "_law_draw" = some (some (.ref f_law_draw)))
    (l1 : K.lookup f_law_draw = some ⟨oc1, od1, .func (PySem.W.fnOf "_law_draw" "_law_draw" (defArgs s_law_draw) (defBody s_law_draw) (defScope s_law_draw) .none kV1 dc1 pm1 an1 cd1 ct1), sl1⟩)
    (c1 : PySem.W.codeIn K cd1 "_law_draw" = true)
    (k1 : PySem.W.keepIn K (.ref f_law_draw) = true)
    (a2 : PySem.W.nsIn K mainGlobals "_law_same" = some (some (.ref f_law_same)))
    (l2 : K.lookup f_law_same = some ⟨oc2, od2, .func (PySem.W.fnOf "_law_same" "_law_same" (defArgs s_law_same) (defBody s_law_same) (defScope s_law_same) .none kV2 dc2 pm2 an2 cd2 ct2), sl2⟩)
    (c2 : PySem.W.codeIn K cd2 "_law_same" = true)
    (k2 : PySem.W.keepIn K (.ref f_law_same) = true)
    (a3 : PySem.W.nsIn K mainGlobals "_law_any_number" = some (some (.ref f_law_any_number)))
    (l3 : K.lookup f_law_any_number = some ⟨oc3, od3, .func (PySem.W.fnOf "_law_any_number" "_law_any_number" (defArgs s_law_any_number) (defBody s_law_any_number) (defScope s_law_any_number) .none kV3 dc3 pm3 an3 cd3 ct3), sl3⟩)
    (c3 : PySem.W.codeIn K cd3 "_law_any_number" = true)
    (k3 : PySem.W.keepIn K (.ref f_law_any_number) = true)
    (a4 : PySem.W.nsIn K mainGlobals "_law_plus" = some (some (.ref f_law_plus)))
    (l4 : K.lookup f_law_plus = some ⟨oc4, od4, .func (PySem.W.fnOf "_law_plus" "_law_plus" (defArgs s_law_plus) (defBody s_law_plus) (defScope s_law_plus) .none kV4 dc4 pm4 an4 cd4 ct4), sl4⟩)
    (c4 : PySem.W.codeIn K cd4 "_law_plus" = true)
    (k4 : PySem.W.keepIn K (.ref f_law_plus) = true)
    (a5 : PySem.W.nsIn K mainGlobals "_law_tells" = some (some (.ref f_law_tells)))
    (l5 : K.lookup f_law_tells = some ⟨oc5, od5, .func (PySem.W.fnOf "_law_tells" "_law_tells" (defArgs s_law_tells) (defBody s_law_tells) (defScope s_law_tells) .none kV5 dc5 pm5 an5 cd5 ct5), sl5⟩)
    (c5 : PySem.W.codeIn K cd5 "_law_tells" = true)
    (k5 : PySem.W.keepIn K (.ref f_law_tells) = true)
    (a6 : PySem.W.nsIn K mainGlobals "_law_like" = some (some (.ref f_law_like)))
    (l6 : K.lookup f_law_like = some ⟨oc6, od6, .func (PySem.W.fnOf "_law_like" "_law_like" (defArgs s_law_like) (defBody s_law_like) (defScope s_law_like) .none kV6 dc6 pm6 an6 cd6 ct6), sl6⟩)
    (c6 : PySem.W.codeIn K cd6 "_law_like" = true)
    (k6 : PySem.W.keepIn K (.ref f_law_like) = true)
    (a7 : PySem.W.nsIn K mainGlobals "_law_sum" = some (some (.ref f_law_sum)))
    (l7 : K.lookup f_law_sum = some ⟨oc7, od7, .func (PySem.W.fnOf "_law_sum" "_law_sum" (defArgs s_law_sum) (defBody s_law_sum) (defScope s_law_sum) .none kV7 dc7 pm7 an7 cd7 ct7), sl7⟩)
    (c7 : PySem.W.codeIn K cd7 "_law_sum" = true)
    (k7 : PySem.W.keepIn K (.ref f_law_sum) = true)
    (a8 : PySem.W.nsIn K mainGlobals "_law_pairs" = some (some (.ref f_law_pairs)))
    (l8 : K.lookup f_law_pairs = some ⟨oc8, od8, .func (PySem.W.fnOf "_law_pairs" "_law_pairs" (defArgs s_law_pairs) (defBody s_law_pairs) (defScope s_law_pairs) .none kV8 dc8 pm8 an8 cd8 ct8), sl8⟩)
    (c8 : PySem.W.codeIn K cd8 "_law_pairs" = true)
    (k8 : PySem.W.keepIn K (.ref f_law_pairs) = true)
    (a9 : PySem.W.nsIn K mainGlobals "_law_alone" = some (some (.ref f_law_alone)))
    (l9 : K.lookup f_law_alone = some ⟨oc9, od9, .func (PySem.W.fnOf "_law_alone" "_law_alone" (defArgs s_law_alone) (defBody s_law_alone) (defScope s_law_alone) .none kV9 dc9 pm9 an9 cd9 ct9), sl9⟩)
    (c9 : PySem.W.codeIn K cd9 "_law_alone" = true)
    (k9 : PySem.W.keepIn K (.ref f_law_alone) = true)
    (a10 : PySem.W.nsIn K mainGlobals "law" = some (some (.ref f_law)))
    (l10 : K.lookup f_law = some ⟨oc10, od10, .func (PySem.W.fnOf "law" "law" (defArgs s_law) (defBody s_law) (defScope s_law) .none kV10 dc10 pm10 an10 cd10 ct10), sl10⟩)
    (c10 : PySem.W.codeIn K cd10 "law" = true)
    (k10 : PySem.W.keepIn K (.ref f_law) = true)
    (z_abs : PySem.W.nsIn K mainGlobals "abs" = some none)
    (z_bool : PySem.W.nsIn K mainGlobals "bool" = some none)
    (z_int : PySem.W.nsIn K mainGlobals "int" = some none)
    (z_isinstance : PySem.W.nsIn K mainGlobals "isinstance" = some none)
    (z_len : PySem.W.nsIn K mainGlobals "len" = some none)
    (z_list : PySem.W.nsIn K mainGlobals "list" = some none)
    (z_min : PySem.W.nsIn K mainGlobals "min" = some none)
    (z_range : PySem.W.nsIn K mainGlobals "range" = some none)
    (z_str : PySem.W.nsIn K mainGlobals "str" = some none)
    (z_tuple : PySem.W.nsIn K mainGlobals "tuple" = some none)
    : ∃ fd : FuncData, (∀ (s : Shared) (v : Value), BindsTo s fd ⟨[v], []⟩ [("script", v)]) ∧ ∀ base : Heap, K.In base → base.Ns mainGlobals mg → FnOk l.prog w K mg base CX0 7 fa fd ["script"] (spLaw K) := by
  have e := hfa.symm.trans (PySem.W.mg_of X G a10)
  cases e
  have T : Txt mg := ⟨PySem.W.mg_none_of X G z_abs, PySem.W.mg_none_of X G z_bool, PySem.W.mg_none_of X G z_int, PySem.W.mg_none_of X G z_isinstance, PySem.W.mg_none_of X G z_len, PySem.W.mg_none_of X G z_list, PySem.W.mg_none_of X G z_min, PySem.W.mg_none_of X G z_range, PySem.W.mg_none_of X G z_str, PySem.W.mg_none_of X G z_tuple⟩
  have GT : GlT K mg C := ⟨⟨pg, hd, po, sa⟩, nN, nS, nK, PySem.W.mg_of X G aC, ha, hn, ht, hm, me, ⟨x0, y0⟩, ⟨x1, y1⟩, ⟨x2, y2⟩, ⟨x3, y3⟩, ⟨x4, y4⟩, ⟨x5, y5⟩, ⟨x6, y6⟩⟩
  have F0 := fun_mk (st := s_law_pool) l0 c0 k0
  have b0 := F0.binds (ps := ["script"]) fun _ _ _ _ _ _ us hl => match us, hl with | [_], _ => rfl
  have F1 := fun_mk (st := s_law_draw) l1 c1 k1
  have b1 := F1.binds (ps := ["pool", "many"]) fun _ _ _ _ _ _ us hl => match us, hl with | [_, _], _ => rfl
  have F2 := fun_mk (st := s_law_same) l2 c2 k2
  have b2 := F2.binds (ps := ["got", "due"]) fun _ _ _ _ _ _ us hl => match us, hl with | [_, _], _ => rfl
  have F3 := fun_mk (st := s_law_any_number) l3 c3 k3
  have b3 := F3.binds (ps := ["pool", "ahead"]) fun _ _ _ _ _ _ us hl => match us, hl with | [_, _], _ => rfl
  have F4 := fun_mk (st := s_law_plus) l4 c4 k4
  have b4 := F4.binds (ps := ["one", "two"]) fun _ _ _ _ _ _ us hl => match us, hl with | [_, _], _ => rfl
  have F5 := fun_mk (st := s_law_tells) l5 c5 k5
  have b5 := F5.binds (ps := ["glue", "row"]) fun _ _ _ _ _ _ us hl => match us, hl with | [_, _], _ => rfl
  have F6 := fun_mk (st := s_law_like) l6 c6 k6
  have b6 := F6.binds (ps := ["glue", "row"]) fun _ _ _ _ _ _ us hl => match us, hl with | [_, _], _ => rfl
  have F7 := fun_mk (st := s_law_sum) l7 c7 k7
  have b7 := F7.binds (ps := ["glues", "way"]) fun _ _ _ _ _ _ us hl => match us, hl with | [_, _], _ => rfl
  have F8 := fun_mk (st := s_law_pairs) l8 c8 k8
  have b8 := F8.binds (ps := ["glues", "rows"]) fun _ _ _ _ _ _ us hl => match us, hl with | [_, _], _ => rfl
  have F9 := fun_mk (st := s_law_alone) l9 c9 k9
  have b9 := F9.binds (ps := ["glues", "rows"]) fun _ _ _ _ _ _ us hl => match us, hl with | [_, _], _ => rfl
  have F10 := fun_mk (st := s_law) l10 c10 k10
  have FI := fun_mk (st := s_ginit) lI cI kI
  have bI := FI.binds (ps := ["self", "natural", "stretch", "shrink"]) fun _ _ _ _ _ _ us hl => match us, hl with | [_, _, _, _], _ => rfl
  have FZ := fun_mk (st := s_gzero) lZ cZ kZ
  have bZ := FZ.binds (ps := []) fun _ _ _ _ _ _ us hl => match us, hl with | [], _ => rfl
  have FA := fun_mk (st := s_gadd) lA cA kA
  have bA := FA.binds (ps := ["self", "other"]) fun _ _ _ _ _ _ us hl => match us, hl with | [_, _], _ => rfl
  have FQ := fun_mk (st := s_geq) lQ cQ kQ
  have bQ := FQ.binds (ps := ["self", "other"]) fun _ _ _ _ _ _ us hl => match us, hl with | [_, _], _ => rfl
  have FE := fun_mk (st := s_gleast) lE cE kE
  have bE := FE.binds (ps := ["self"]) fun _ _ _ _ _ _ us hl => match us, hl with | [_], _ => rfl
  have FP := fun_mk (st := s_plain) lP cP kP
  have bP := FP.binds (ps := ["self"]) fun _ _ _ _ _ _ us hl => match us, hl with | [_], _ => rfl
  refine ⟨PySem.W.fnOf "law" "law" (defArgs s_law) (defBody s_law) (defScope s_law) .none kV10 dc10 pm10 an10 cd10 ct10, fun s v => .of_eq rfl, fun base _ _ => ?_⟩
  have GC_Glue : DefC l.prog w K mg base 1 "Glue" C ["self", "natural", "stretch", "shrink"] (spGinit C) := ⟨_, _, ⟨mk, aI, iI, kc⟩, ok_ginit FI GT, PySem.W.mg_of X G aC, bI⟩
  have GM_plain : DefM l.prog w K mg base 1 C "plain" ["self"] (spPlain C) := ⟨_, _, GT.cl, ⟨aP, iP, kP⟩, ok_plain FP GT, bP⟩
  have GO_add : DefO l.prog w K mg base 3 C "__add__" ["self", "other"] (spAdd C) := ⟨_, _, ok_gadd FA GT GC_Glue, sf, aA, iA, bA⟩
  have GO_eq : DefO l.prog w K mg base 1 C "__eq__" ["self", "other"] (spEq K C) := ⟨_, _, ok_geq FQ T GT, sf, aQ, iQ, bQ⟩
  have GS_zero : DefS l.prog w K mg base 3 C "zero" (spZero C) := ⟨_, _, _, _, ⟨rd, ga⟩, ⟨sZ, ⟨_, rZ⟩, kZ⟩, ok_gzero FZ GT GC_Glue, bZ⟩
  have GP_least : DefP l.prog w K mg base 1 C "least" ["self"] (spLeast C) := ⟨_, _, _, GT.cl, ⟨aE, gE, tE, ⟨_, rE⟩⟩, ok_gleast FE GT, bE⟩
  have G_law_pool : Def l.prog w K mg base 1 "_law_pool" ["script"] (spPoolL K) := ⟨_, _, ok_law_pool F0 T , PySem.W.mg_of X G a0, k0, b0⟩
  have G_law_draw : Def l.prog w K mg base 1 "_law_draw" ["pool", "many"] (spDrawL) := ⟨_, _, ok_law_draw F1 T , PySem.W.mg_of X G a1, k1, b1⟩
  have G_law_plus : Def l.prog w K mg base 1 "_law_plus" ["one", "two"] (spPlus) := ⟨_, _, ok_law_plus F4 T , PySem.W.mg_of X G a4, k4, b4⟩
  have G0 : Def l.prog w K mg base 0 "_law_same" ["got", "due"] (fun _ _ _ _ => False) := ⟨_, _, ⟨fun _ _ _ _ h => h.elim, fun _ _ _ _ _ _ _ _ _ _ _ _ _ h => h.elim⟩, PySem.W.mg_of X G a2, k2, b2⟩
  have G1 : Def l.prog w K mg base 1 "_law_same" ["got", "due"] (spSame 0) := ⟨_, _, ok_law_same0 F2 T G0, PySem.W.mg_of X G a2, k2, b2⟩
  have G_law_same : Def l.prog w K mg base 2 "_law_same" ["got", "due"] (spSame 1) := ⟨_, _, ok_law_sameS (n := 0) F2 T G1, PySem.W.mg_of X G a2, k2, b2⟩
  have G_law_any_number : Def l.prog w K mg base 2 "_law_any_number" ["pool", "ahead"] (spAny) := ⟨_, _, ok_law_any_number F3 T G_law_draw, PySem.W.mg_of X G a3, k3, b3⟩
  have G_law_tells : Def l.prog w K mg base 3 "_law_tells" ["glue", "row"] (spTells C) := ⟨_, _, ok_law_tells F5 T GT GM_plain GP_least G_law_same, PySem.W.mg_of X G a5, k5, b5⟩
  have G_law_like : Def l.prog w K mg base 4 "_law_like" ["glue", "row"] (spLike C) := ⟨_, _, ok_law_like F6 T GT GO_add GO_eq GC_Glue G_law_same, PySem.W.mg_of X G a6, k6, b6⟩
  have G_law_sum : Def l.prog w K mg base 4 "_law_sum" ["glues", "way"] (spSum C) := ⟨_, _, ok_law_sum F7 T GT GO_add GO_eq , PySem.W.mg_of X G a7, k7, b7⟩
  have G_law_pairs : Def l.prog w K mg base 5 "_law_pairs" ["glues", "rows"] (spPairs C) := ⟨_, _, ok_law_pairs F8 T GT GO_add GO_eq G_law_plus G_law_tells G_law_same, PySem.W.mg_of X G a8, k8, b8⟩
  have G_law_alone : Def l.prog w K mg base 5 "_law_alone" ["glues", "rows"] (spAlone C) := ⟨_, _, ok_law_alone F9 T GT GO_add GO_eq GS_zero G_law_tells G_law_like G_law_same, PySem.W.mg_of X G a9, k9, b9⟩
  exact ok_law F10 T GT GO_add GO_eq GC_Glue G_law_pool G_law_draw G_law_any_number G_law_plus G_law_tells G_law_alone G_law_pairs G_law_sum G_law_same
theorem walk {l : PySem.W.OpenLaw} {q : Program} {loose : List Str} {XP : (Str → Option Value) → Heap → Prop} {YP : World → Heap → Prop} {d : DefRec} {K : Params → PySem.W.Frag} (hn : l.most = some 63) (hdf : d.params.defaults = [])
    (hY : ∀ (w : World) (h : Heap), YP w h → (K w.params).In h)
    (F : ∀ (w : World) (mg : Str → Option Value) (fa : Addr) (h : Heap), (K w.params).In h → h.Ns mainGlobals mg → mg d.name = some (.ref fa) →
      ∃ fd : FuncData, (∀ (s : Shared) (u : Value), BindsTo s fd ⟨[u], []⟩ [("script", u)]) ∧ ∀ base : Heap, (K w.params).In base → base.Ns mainGlobals mg → FnOk l.prog w (K w.params) mg base CX0 7 fa fd ["script"] (spLaw (K w.params))) :
    PySem.W.WalkO q loose XP YP l.row.toRowW d [] (fun f vs => PySem.call f vs) :=
  L2.walk_of (n := 63) (k := 7) (x := "script") (CX := fun _ => CX0) (sp := fun w => spLaw (K w.params)) hn (by decide) hdf ⟨rfl, by decide, by decide⟩ hY F (fun _ _ a ns hl _ hS => ⟨a, ns, rfl, hS, hl, fun _ => rfl⟩) fun _ _ _ _ _ z => z
end K19
open PySem PySem.W PyProof.Rows
set_option maxRecDepth 100000 in
set_option maxHeartbeats 0 in
theorem PySem.Challenge.cw_galleywork_k19_glue_sums_holds : PySem.Challenge.rw_galleywork_k19_glue_sums.Holds := by
  w_on; o_law; k_head; (case hw => w_witness2)
  k_fill
  refine K19.walk (l := PySem.Challenge.rw_galleywork_k19_glue_sums) rfl rfl (fun w h Y => PySem.W.kIn_of Y) ?F
  case F =>
    intro w mg fa h KX G hmg
    refine' K19.all_mk KX G hmg ?aC ?aI ?iI ?lI ?cI ?kI ?rd ?ga ?sZ ?rZ ?lZ ?cZ ?kZ ?aA ?iA ?lA ?cA ?kA ?aQ ?iQ ?lQ ?cQ ?kQ ?aE ?gE ?tE ?rE ?lE ?cE ?kE ?aP ?iP ?lP ?cP ?kP ?pg ?hd ?po ?sa ?mk ?kc ?sf ?nN ?nS ?nK ?ha ?hn ?ht ?hm ?me ?x0 ?y0 ?x1 ?y1 ?x2 ?y2 ?x3 ?y3 ?x4 ?y4 ?x5 ?y5 ?x6 ?y6 ?a0 ?l0 ?c0 ?k0 ?a1 ?l1 ?c1 ?k1 ?a2 ?l2 ?c2 ?k2 ?a3 ?l3 ?c3 ?k3 ?a4 ?l4 ?c4 ?k4 ?a5 ?l5 ?c5 ?k5 ?a6 ?l6 ?c6 ?k6 ?a7 ?l7 ?c7 ?k7 ?a8 ?l8 ?c8 ?k8 ?a9 ?l9 ?c9 ?k9 ?a10 ?l10 ?c10 ?k10 ?z_abs ?z_bool ?z_int ?z_isinstance ?z_len ?z_list ?z_min ?z_range ?z_str ?z_tuple
    (case aC => k_is)
    (case aI => k_is)
    (case iI => k_is)
    (case lI => k_is)
    (case cI => k_is)
    (case kI => k_is)
    (case rd => k_is)
    (case ga => k_is)
    (case sZ => k_is)
    (case rZ => k_is)
    (case lZ => k_is)
    (case cZ => k_is)
    (case kZ => k_is)
    (case aA => k_is)
    (case iA => k_is)
    (case lA => k_is)
    (case cA => k_is)
    (case kA => k_is)
    (case aQ => k_is)
    (case iQ => k_is)
    (case lQ => k_is)
    (case cQ => k_is)
    (case kQ => k_is)
    (case aE => k_is)
    (case gE => k_is)
    (case tE => k_is)
    (case rE => k_is)
    (case lE => k_is)
    (case cE => k_is)
    (case kE => k_is)
    (case aP => k_is)
    (case iP => k_is)
    (case lP => k_is)
    (case cP => k_is)
    (case kP => k_is)
    (case pg => k_is)
    (case hd => k_is)
    (case po => k_is)
    (case sa => k_is)
    (case mk => k_is)
    (case kc => k_is)
    (case sf => k_is)
    (case nN => k_is)
    (case nS => k_is)
    (case nK => k_is)
    (case ha => k_is)
    (case hn => k_is)
    (case ht => k_is)
    (case hm => k_is)
    (case me => first | k_is | rfl | decide +kernel)
    (case x0 => first | k_is | rfl | decide +kernel)
    (case y0 => k_is)
    (case x1 => first | k_is | rfl | decide +kernel)
    (case y1 => k_is)
    (case x2 => first | k_is | rfl | decide +kernel)
    (case y2 => k_is)
    (case x3 => first | k_is | rfl | decide +kernel)
    (case y3 => k_is)
    (case x4 => first | k_is | rfl | decide +kernel)
    (case y4 => k_is)
    (case x5 => first | k_is | rfl | decide +kernel)
    (case y5 => k_is)
    (case x6 => first | k_is | rfl | decide +kernel)
    (case y6 => k_is)
    (case a0 => k_is)
    (case l0 => k_is)
    (case c0 => k_is)
    (case k0 => k_is)
    (case a1 => k_is)
    (case l1 => k_is)
    (case c1 => k_is)
    (case k1 => k_is)
    (case a2 => k_is)
    (case l2 => k_is)
    (case c2 => k_is)
    (case k2 => k_is)
    (case a3 => k_is)
    (case l3 => k_is)
    (case c3 => k_is)
    (case k3 => k_is)
    (case a4 => k_is)
    (case l4 => k_is)
    (case c4 => k_is)
    (case k4 => k_is)
    (case a5 => k_is)
    (case l5 => k_is)
    (case c5 => k_is)
    (case k5 => k_is)
    (case a6 => k_is)
    (case l6 => k_is)
    (case c6 => k_is)
    (case k6 => k_is)
    (case a7 => k_is)
    (case l7 => k_is)
    (case c7 => k_is)
    (case k7 => k_is)
    (case a8 => k_is)
    (case l8 => k_is)
    (case c8 => k_is)
    (case k8 => k_is)
    (case a9 => k_is)
    (case l9 => k_is)
    (case c9 => k_is)
    (case k9 => k_is)
    (case a10 => k_is)
    (case l10 => k_is)
    (case c10 => k_is)
    (case k10 => k_is)
    (case z_abs => k_is)
    (case z_bool => k_is)
    (case z_int => k_is)
    (case z_isinstance => k_is)
    (case z_len => k_is)
    (case z_list => k_is)
    (case z_min => k_is)
    (case z_range => k_is)
    (case z_str => k_is)
    (case z_tuple => k_is)
#print axioms PySem.Challenge.cw_galleywork_k19_glue_sums_holds
