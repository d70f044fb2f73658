import PyProof.Rows.All
import Wide.All
import OpenK.AllK
import Wide.FinOn
import HandS.Base
import HandS.Call
import HandS.List
import HandS.Comp
import HandS.Ends
import HandS.Words
import HandS.IsInst
import HandS.Wide
import HandS.Style
import HandS.Exc
import HandS.TryOnly
import HandS.ExcOwn
import HandS.ExcInit
import HandS.ExcField
import HandS.ExcIs
import HandS.WordsList
import HandS.WordsExc
import HandS.SetFor
import HandS.Dict
import HandS.Iter
import HandS.Zip
import HandS.DictSub
import PySem.Challenge.RW_galleywork_k41_evened_gaps

set_option Elab.async false
set_option linter.all false
set_option maxRecDepth 100000
/-! Wp: readings as weakest preconditions, turned into plain formulas by simp. -/
namespace Wp
open PySem L2
section
variable {σ : L2.St} {H : Hp} {Q : VK} {D : Ends}
theorem seq {t u : TS} : tSeq t u D σ H = t { D with nx := u D } σ H := rfl
theorem next : tNext D σ H = D.nx σ H := rfl
theorem asg {te : TE} {g : TG} : tAsg te g D σ H = te σ H fun x H1 => g x σ H1 D.nx := rfl
theorem gn {i : Nat} {v : V} {R : L2.St → Hp → Prop} : gName i v σ H R = R (σ.set i (some v)) H := rfl
theorem gsub {to ti : TE} {t : TSet} {v : V} {R : L2.St → Hp → Prop} : gSub to ti t v σ H R = to σ H fun o H1 => ti σ H1 fun i H2 => t o i v H2 fun H3 => R σ H3 := rfl
theorem ret {te : TE} : tRet te D σ H = te σ H D.rt := rfl
theorem drop {te : TE} : tDrop te D σ H = te σ H fun _ H1 => D.nx σ H1 := rfl
theorem ifs {c : TT} {t u : TS} : tIfS c t u D σ H = c σ H fun b H1 => if b = true then t D σ H1 else u D σ H1 := rfl
theorem brk : tBreak D σ H = D.bk σ H := rfl
theorem cont : tCont D σ H = D.ct σ H := rfl
theorem op {r : R2} {ta tb : TE} : tOp r ta tb σ H Q = ta σ H fun x H1 => tb σ H1 fun y H2 => r x y H2 Q := rfl
theorem un {r : V → Hp → VK → Prop} {ta : TE} : tUn r ta σ H Q = ta σ H fun x H1 => r x H1 Q := rfl
theorem cb {r : List V → Hp → VK → Prop} {t : TA} : tCB r t σ H Q = t σ H fun vs H1 => r vs H1 Q := rfl
theorem call {sp : Sp} {dvs : List V} {E : XK} {t : TA} : tCall sp dvs E t σ H Q = t σ H fun vs H1 => sp (vs ++ dvs) H1 Q E := rfl
theorem nil {R : List V → Hp → Prop} : tNil σ H R = R [] H := rfl
theorem cons {ta : TE} {tr : TA} {R : List V → Hp → Prop} : tCons ta tr σ H R = ta σ H fun x H1 => tr σ H1 fun xs H2 => R (x :: xs) H2 := rfl
theorem c {v : V} : tC v σ H Q = Q v H := rfl
theorem ifx {t : TT} {ta tb : TE} : tIf t ta tb σ H Q = t σ H fun b H1 => if b = true then ta σ H1 Q else tb σ H1 Q := rfl
theorem lst {t : TA} : tLst t σ H Q = t σ H fun xs H1 => xs.length ≤ sizeLine ∧ ∀ p, H1 p = none → Q (.ref p) (upd H1 p (.lst xs)) := rfl
theorem tup {t : TA} : tTup t σ H Q = t σ H fun xs H1 => xs.length ≤ sizeLine ∧ ∀ p, H1 p = none → Q (.ref p) (upd H1 p (.tup xs)) := rfl
theorem test {t : TE} {R : Bool → Hp → Prop} : tTest t σ H R = t σ H fun x H' => ∃ k, x = .bl k ∧ R k H' := rfl
theorem tb {t : TE} {R : Bool → Hp → Prop} : tB t σ H R = t σ H fun x H' => ∃ k, x = .bl k ∧ R k H' := rfl
theorem tnot {t : TT} {R : Bool → Hp → Prop} : tNot t σ H R = t σ H fun b H1 => R (!b) H1 := rfl
theorem tand {t u : TT} {R : Bool → Hp → Prop} : tAnd t u σ H R = t σ H fun b H1 => if b = true then u σ H1 R else R false H1 := rfl
theorem tor {t u : TT} {R : Bool → Hp → Prop} : tOr t u σ H R = t σ H fun b H1 => if b = true then R true H1 else u σ H1 R := rfl
theorem tandv {ta tb : TE} : tAndV ta tb σ H Q = ta σ H fun x H1 => ∃ b, x = .bl b ∧ if b = true then tb σ H1 Q else Q (.bl false) H1 := rfl
theorem torv {ta tb : TE} : tOrV ta tb σ H Q = ta σ H fun x H1 => ∃ b, x = .bl b ∧ if b = true then Q (.bl true) H1 else tb σ H1 Q := rfl
theorem tnotv {ta : TE} : tNotV ta σ H Q = ta σ H fun x H1 => ∃ b, x = .bl b ∧ Q (.bl (!b)) H1 := rfl
theorem chain {r r' : R2} {ta tb tc : TE} : tChain r r' ta tb tc σ H Q = ta σ H fun x H1 => tb σ H1 fun y H2 => r x y H2 fun z H3 => ∃ k, z = .bl k ∧ (if k = true then tc σ H3 fun w' H4 => r' y w' H4 Q else Q (.bl false) H3) := rfl
theorem bx {b : Bool} {R : Bool → Prop} : (∃ k, V.bl b = V.bl k ∧ R k) = R b := propext ⟨fun ⟨k, h, q⟩ => by cases h; exact q, fun q => ⟨b, rfl, q⟩⟩
theorem i0 {g : Int → Int → V} {i j : Int} : rI0 g (.int i) (.int j) H Q = Q (g i j) H := propext ⟨fun ⟨_, _, h1, h2, q⟩ => by cases h1; cases h2; exact q, fun q => ⟨i, j, rfl, rfl, q⟩⟩
theorem i1 {C : Int → Int → Prop} {g : Int → Int → V} {i j : Int} : rI C g (.int i) (.int j) H Q = (C i j ∧ Q (g i j) H) := propext ⟨fun ⟨_, _, h1, h2, c, q⟩ => by cases h1; cases h2; exact ⟨c, q⟩, fun ⟨c, q⟩ => ⟨i, j, rfl, rfl, c, q⟩⟩
theorem u1 {g : Int → V} {i : Int} : rU g (.int i) H Q = Q (g i) H := propext ⟨fun ⟨_, h1, q⟩ => by cases h1; exact q, fun q => ⟨i, rfl, q⟩⟩
theorem di {i j : Int} : decide (V.int i = V.int j) = decide (i = j) := by
  by_cases h : i = j
  · subst h; simp
  · rw [decide_eq_false h, decide_eq_false]; intro q; cases q; exact h rfl
theorem eqi {i j : Int} : rEq (.int i) (.int j) H Q = Q (.bl (decide (i = j))) H := by
  unfold rEq; rw [di]; exact propext ⟨fun q => q.2, fun q => ⟨rfl, q⟩⟩
theorem nei {i j : Int} : rNe (.int i) (.int j) H Q = Q (.bl (!decide (i = j))) H := by
  unfold rNe; rw [di]; exact propext ⟨fun q => q.2, fun q => ⟨rfl, q⟩⟩
/-! calls of built-ins -/
theorem dummy_ : True := trivial
end
/-- isinstance of a scalar and a built-in type -/
def isiF : V → String → Option Bool
  | .int _, T => kitB "int" T
  | .bl _, T => kitB "bool" T
  | .str _, T => kitB "str" T
  | .non, T => kitB "NoneType" T
  | _, _ => none
def rIsiV : List V → Hp → VK → Prop := fun xs H Q => ∃ x T b, xs = [x, .ty T] ∧ isiF x T = some b ∧ Q (.bl b) H
theorem isv {x : V} {T : String} {b : Bool} {H : Hp} {Q : VK} (h : isiF x T = some b) : rIsiV [x, .ty T] H Q = Q (.bl b) H := propext ⟨fun ⟨_, _, _, e, f, q⟩ => by
  cases e
  rw [h] at f
  cases f
  exact q, fun q => ⟨x, T, b, rfl, h, q⟩⟩
theorem isv_ii {i : Int} {H : Hp} {Q : VK} : rIsiV [.int i, .ty "int"] H Q = Q (.bl true) H := isv (by show kitB "int" "int" = some true; decide +kernel)
theorem isv_ib {i : Int} {H : Hp} {Q : VK} : rIsiV [.int i, .ty "bool"] H Q = Q (.bl false) H := isv (by show kitB "int" "bool" = some false; decide +kernel)
section
variable {X : Cx}
theorem call_isiV : CallR X (.builtin "isinstance") rIsiV := by
  intro pins s σ H xs us Q I r h
  obtain ⟨x, T, b, rfl, e, q⟩ := h
  refine call_isi pins s σ H _ us Q I r ?_
  cases x with
  | int i => exact ⟨_, _, .type "int", .type T, b, rfl, .ty T, .base (.int i), kit_ty e, q⟩
  | bl i => exact ⟨_, _, .type "bool", .type T, b, rfl, .ty T, .base (.bl i), kit_ty e, q⟩
  | str i => exact ⟨_, _, .type "str", .type T, b, rfl, .ty T, .base (.str i), kit_ty e, q⟩
  | non => exact ⟨_, _, .type "NoneType", .type T, b, rfl, .ty T, .base .non, kit_ty e, q⟩
  | ref a => cases e
  | ty a => cases e
  | flt a => cases e
  | byt a => cases e
theorem pe_gint {x : Str} {i : Int} {pos : Pos} (h : ∃ t, X.mg x = some (.int i t)) (hg : Gl X x) (hd : (x == ("__debug__" : Str)) = false := by decide) : PE X (.Name x pos) (tC (.int i)) := by
  obtain ⟨t, h⟩ := h
  exact pe_glob hg h ⟨_, rfl⟩ hd
end
/-! calls of built-ins by name -/
def rAbs : List V → Hp → VK → Prop := fun xs H Q => ∃ i, xs = [.int i] ∧ Q (.int (if i < 0 then -i else i)) H
def rMax2 : List V → Hp → VK → Prop := fun xs H Q => ∃ i j, xs = [.int i, .int j] ∧ Q (.int (if j > i then j else i)) H
def rMin2 : List V → Hp → VK → Prop := fun xs H Q => ∃ i j, xs = [.int i, .int j] ∧ Q (.int (if j < i then j else i)) H
def rInt : List V → Hp → VK → Prop := fun xs H Q => (∃ i, xs = [.int i] ∧ Q (.int i) H) ∨ ∃ k, xs = [.bl k] ∧ Q (.int (if k then 1 else 0)) H
def rLen (K : PySem.W.Frag) : List V → Hp → VK → Prop := fun xs H Q => ∃ p ys, xs = [.ref p] ∧ (SqL K H p ys ∨ SqT K H p ys) ∧ Q (.int ys.length) H
def rList (K : PySem.W.Frag) : List V → Hp → VK → Prop := fun xs H Q => ∃ p ys, xs = [.ref p] ∧ (SqL K H p ys ∨ SqT K H p ys) ∧ ∀ l, H l = none → Q (.ref l) (upd H l (.lst ys))
section
variable {X : Cx} {H : Hp} {Q : VK}
theorem c_abs : CallR X (.builtin "abs") rAbs := call_abs
theorem c_max2 (hc : X.calm = true) : CallR X (.builtin "max") rMax2 := call_max2 hc
theorem c_min2 (hc : X.calm = true) : CallR X (.builtin "min") rMin2 := call_min2 hc
theorem c_int : CallR X (.type "int") rInt := call_int1
theorem c_len : CallR X (.builtin "len") (rLen X.K) := call_len_seq
theorem c_list : CallR X (.type "list") (rList X.K) := call_list_of
theorem cabs {i : Int} : rAbs [.int i] H Q = Q (.int (if i < 0 then -i else i)) H := propext ⟨fun ⟨_, h, q⟩ => by cases h; exact q, fun q => ⟨i, rfl, q⟩⟩
theorem cmax {i j : Int} : rMax2 [.int i, .int j] H Q = Q (.int (if j > i then j else i)) H := propext ⟨fun ⟨_, _, h, q⟩ => by cases h; exact q, fun q => ⟨i, j, rfl, q⟩⟩
theorem cmin {i j : Int} : rMin2 [.int i, .int j] H Q = Q (.int (if j < i then j else i)) H := propext ⟨fun ⟨_, _, h, q⟩ => by cases h; exact q, fun q => ⟨i, j, rfl, q⟩⟩
theorem cinti {i : Int} : rInt [.int i] H Q = Q (.int i) H := by
  apply propext
  constructor
  · intro q
    rcases q with ⟨k, h, q⟩ | ⟨k, h, q⟩
    · cases h; exact q
    · cases h
  · intro q
    exact Or.inl ⟨i, rfl, q⟩
theorem cintb {b : Bool} : rInt [.bl b] H Q = Q (.int (if b then 1 else 0)) H := by
  apply propext
  constructor
  · intro q
    rcases q with ⟨k, h, q⟩ | ⟨k, h, q⟩
    · cases h
    · cases h; exact q
  · intro q
    exact Or.inr ⟨b, rfl, q⟩
end
/-- a def of the module with its promise, as others call it -/
structure Def (P : Program) (w : World) (K : PySem.W.Frag) (mg : Str → Option Value) (base : Heap) (k : Nat) (x : Str) (ps : List Str) (sp : Sp) : Prop where
  ex : ∃ f fd, FnOk P w K mg base CX0 k f fd ps sp ∧ mg x = some (.ref f) ∧ PySem.W.keepIn K (.ref f) = true ∧ Binds K fd ps []
theorem Def.call {X : Cx} {k : Nat} {x : Str} {ps : List Str} {sp : Sp} {e : Expr} {es : List Expr} {t : TA} {p pos : Pos} (G : Def X.prog X.w X.K X.mg X.base k x ps sp) (hr : Room k X.A) (hg : Gl X x)
    (ha : PA X (e :: es) t) (hdb : (x == ("__debug__" : Str)) = false := by decide) (he : starEach (e :: es) X.env = (false, eval e X.env) :: starEach es X.env := by rfl) (hpl : (backTo pos (starEach es X.env)).any (·.1) = false := by rfl) :
    PE X (.Call (.Name x p) (e :: es) [] pos) (tCall sp [] (fun _ _ _ => False) t) := by
  refine ⟨fun pins s σ H Q I h => ?_⟩
  obtain ⟨f, fd, F, hm, hk, hb⟩ := G.ex
  exact (pe_call F hr hg hm hk hb .nil (fun _ _ _ _ _ _ _ h => h.elim) ha hdb he hpl).run pins s σ H Q I h
/-! ### the laws' pool -/
def PoolC (H : Hp) (p l : Addr) (ns : List Int) (i x c e : Int) : Prop := H p = some (.lst [.ref l, .int i, .int x, .int c, .int e]) ∧ H l = some (.lst (ns.map V.int)) ∧ 0 ≤ i
def PoolAt (H : Hp) (p : Addr) : Prop := ∃ l ns i x c e, PoolC H p l ns i x c e
theorem PoolC.ne {H : Hp} {p l : Addr} {ns : List Int} {i x c e : Int} (h : PoolC H p l ns i x c e) : l ≠ p := fun z => by
  obtain ⟨h1, h2, _⟩ := h
  subst z
  rw [h1] at h2
  have h3 := HO.lst.inj (Option.some.inj h2)
  cases ns with
  | nil => cases h3
  | cons n ns => rw [List.map_cons] at h3; cases h3
/-- all but p stands as it stood -/
def But (p : Addr) (H H' : Hp) : Prop := ∀ b, b ≠ p → H' b = H b
/-- what H told, and not at p, stands -/
def Ext (p : Addr) (H H' : Hp) : Prop := ∀ b o, b ≠ p → H b = some o → H' b = some o
def spPool (K : PySem.W.Frag) : Sp := fun vs H Q _ => ∃ (a : Addr) (ns : List Int), vs = [.ref a] ∧ SqL K H a (ns.map V.int) ∧ ∀ p H', H p = none → (∀ b o, H b = some o → H' b = some o) → PoolAt H' p → Q (.ref p) H'
def spDraw : Sp := fun vs H Q _ => ∃ (p : Addr) (m : Int), vs = [.ref p, .int m] ∧ PoolAt H p ∧ 0 < m ∧ m.natAbs < 2 ^ 200 ∧ ∀ r H', 0 ≤ r → r < m → PoolAt H' p → But p H H' → Q (.int r) H'
end Wp

namespace Wp
open PySem L2
section
variable {H : Hp} {Q : VK} {l : L2.St} {v : V} {a0 : Option V} {a1 : Option V} {a2 : Option V} {a3 : Option V} {a4 : Option V} {a5 : Option V} {a6 : Option V} {a7 : Option V} {a8 : Option V} {a9 : Option V} {a10 : Option V} {a11 : Option V} {a12 : Option V} {a13 : Option V} {a14 : Option V} {a15 : Option V} {a16 : Option V} {a17 : Option V} {a18 : Option V} {a19 : Option V} {a20 : Option V} {a21 : Option V} {a22 : Option V} {a23 : Option V}
theorem v0 : tVar 0 (some v :: l) H Q = Q v H := propext ⟨fun ⟨_, h, q⟩ => by cases h; exact q, fun q => ⟨v, rfl, q⟩⟩
theorem v1 : tVar 1 (a0 :: some v :: l) H Q = Q v H := propext ⟨fun ⟨_, h, q⟩ => by cases h; exact q, fun q => ⟨v, rfl, q⟩⟩
theorem v2 : tVar 2 (a0 :: a1 :: some v :: l) H Q = Q v H := propext ⟨fun ⟨_, h, q⟩ => by cases h; exact q, fun q => ⟨v, rfl, q⟩⟩
theorem v3 : tVar 3 (a0 :: a1 :: a2 :: some v :: l) H Q = Q v H := propext ⟨fun ⟨_, h, q⟩ => by cases h; exact q, fun q => ⟨v, rfl, q⟩⟩
theorem v4 : tVar 4 (a0 :: a1 :: a2 :: a3 :: some v :: l) H Q = Q v H := propext ⟨fun ⟨_, h, q⟩ => by cases h; exact q, fun q => ⟨v, rfl, q⟩⟩
theorem v5 : tVar 5 (a0 :: a1 :: a2 :: a3 :: a4 :: some v :: l) H Q = Q v H := propext ⟨fun ⟨_, h, q⟩ => by cases h; exact q, fun q => ⟨v, rfl, q⟩⟩
theorem v6 : tVar 6 (a0 :: a1 :: a2 :: a3 :: a4 :: a5 :: some v :: l) H Q = Q v H := propext ⟨fun ⟨_, h, q⟩ => by cases h; exact q, fun q => ⟨v, rfl, q⟩⟩
theorem v7 : tVar 7 (a0 :: a1 :: a2 :: a3 :: a4 :: a5 :: a6 :: some v :: l) H Q = Q v H := propext ⟨fun ⟨_, h, q⟩ => by cases h; exact q, fun q => ⟨v, rfl, q⟩⟩
theorem v8 : tVar 8 (a0 :: a1 :: a2 :: a3 :: a4 :: a5 :: a6 :: a7 :: some v :: l) H Q = Q v H := propext ⟨fun ⟨_, h, q⟩ => by cases h; exact q, fun q => ⟨v, rfl, q⟩⟩
theorem v9 : tVar 9 (a0 :: a1 :: a2 :: a3 :: a4 :: a5 :: a6 :: a7 :: a8 :: some v :: l) H Q = Q v H := propext ⟨fun ⟨_, h, q⟩ => by cases h; exact q, fun q => ⟨v, rfl, q⟩⟩
theorem v10 : tVar 10 (a0 :: a1 :: a2 :: a3 :: a4 :: a5 :: a6 :: a7 :: a8 :: a9 :: some v :: l) H Q = Q v H := propext ⟨fun ⟨_, h, q⟩ => by cases h; exact q, fun q => ⟨v, rfl, q⟩⟩
theorem v11 : tVar 11 (a0 :: a1 :: a2 :: a3 :: a4 :: a5 :: a6 :: a7 :: a8 :: a9 :: a10 :: some v :: l) H Q = Q v H := propext ⟨fun ⟨_, h, q⟩ => by cases h; exact q, fun q => ⟨v, rfl, q⟩⟩
theorem v12 : tVar 12 (a0 :: a1 :: a2 :: a3 :: a4 :: a5 :: a6 :: a7 :: a8 :: a9 :: a10 :: a11 :: some v :: l) H Q = Q v H := propext ⟨fun ⟨_, h, q⟩ => by cases h; exact q, fun q => ⟨v, rfl, q⟩⟩
theorem v13 : tVar 13 (a0 :: a1 :: a2 :: a3 :: a4 :: a5 :: a6 :: a7 :: a8 :: a9 :: a10 :: a11 :: a12 :: some v :: l) H Q = Q v H := propext ⟨fun ⟨_, h, q⟩ => by cases h; exact q, fun q => ⟨v, rfl, q⟩⟩
theorem v14 : tVar 14 (a0 :: a1 :: a2 :: a3 :: a4 :: a5 :: a6 :: a7 :: a8 :: a9 :: a10 :: a11 :: a12 :: a13 :: some v :: l) H Q = Q v H := propext ⟨fun ⟨_, h, q⟩ => by cases h; exact q, fun q => ⟨v, rfl, q⟩⟩
theorem v15 : tVar 15 (a0 :: a1 :: a2 :: a3 :: a4 :: a5 :: a6 :: a7 :: a8 :: a9 :: a10 :: a11 :: a12 :: a13 :: a14 :: some v :: l) H Q = Q v H := propext ⟨fun ⟨_, h, q⟩ => by cases h; exact q, fun q => ⟨v, rfl, q⟩⟩
theorem v16 : tVar 16 (a0 :: a1 :: a2 :: a3 :: a4 :: a5 :: a6 :: a7 :: a8 :: a9 :: a10 :: a11 :: a12 :: a13 :: a14 :: a15 :: some v :: l) H Q = Q v H := propext ⟨fun ⟨_, h, q⟩ => by cases h; exact q, fun q => ⟨v, rfl, q⟩⟩
theorem v17 : tVar 17 (a0 :: a1 :: a2 :: a3 :: a4 :: a5 :: a6 :: a7 :: a8 :: a9 :: a10 :: a11 :: a12 :: a13 :: a14 :: a15 :: a16 :: some v :: l) H Q = Q v H := propext ⟨fun ⟨_, h, q⟩ => by cases h; exact q, fun q => ⟨v, rfl, q⟩⟩
theorem v18 : tVar 18 (a0 :: a1 :: a2 :: a3 :: a4 :: a5 :: a6 :: a7 :: a8 :: a9 :: a10 :: a11 :: a12 :: a13 :: a14 :: a15 :: a16 :: a17 :: some v :: l) H Q = Q v H := propext ⟨fun ⟨_, h, q⟩ => by cases h; exact q, fun q => ⟨v, rfl, q⟩⟩
theorem v19 : tVar 19 (a0 :: a1 :: a2 :: a3 :: a4 :: a5 :: a6 :: a7 :: a8 :: a9 :: a10 :: a11 :: a12 :: a13 :: a14 :: a15 :: a16 :: a17 :: a18 :: some v :: l) H Q = Q v H := propext ⟨fun ⟨_, h, q⟩ => by cases h; exact q, fun q => ⟨v, rfl, q⟩⟩
theorem v20 : tVar 20 (a0 :: a1 :: a2 :: a3 :: a4 :: a5 :: a6 :: a7 :: a8 :: a9 :: a10 :: a11 :: a12 :: a13 :: a14 :: a15 :: a16 :: a17 :: a18 :: a19 :: some v :: l) H Q = Q v H := propext ⟨fun ⟨_, h, q⟩ => by cases h; exact q, fun q => ⟨v, rfl, q⟩⟩
theorem v21 : tVar 21 (a0 :: a1 :: a2 :: a3 :: a4 :: a5 :: a6 :: a7 :: a8 :: a9 :: a10 :: a11 :: a12 :: a13 :: a14 :: a15 :: a16 :: a17 :: a18 :: a19 :: a20 :: some v :: l) H Q = Q v H := propext ⟨fun ⟨_, h, q⟩ => by cases h; exact q, fun q => ⟨v, rfl, q⟩⟩
theorem v22 : tVar 22 (a0 :: a1 :: a2 :: a3 :: a4 :: a5 :: a6 :: a7 :: a8 :: a9 :: a10 :: a11 :: a12 :: a13 :: a14 :: a15 :: a16 :: a17 :: a18 :: a19 :: a20 :: a21 :: some v :: l) H Q = Q v H := propext ⟨fun ⟨_, h, q⟩ => by cases h; exact q, fun q => ⟨v, rfl, q⟩⟩
theorem v23 : tVar 23 (a0 :: a1 :: a2 :: a3 :: a4 :: a5 :: a6 :: a7 :: a8 :: a9 :: a10 :: a11 :: a12 :: a13 :: a14 :: a15 :: a16 :: a17 :: a18 :: a19 :: a20 :: a21 :: a22 :: some v :: l) H Q = Q v H := propext ⟨fun ⟨_, h, q⟩ => by cases h; exact q, fun q => ⟨v, rfl, q⟩⟩
theorem s0 {α : Type} {b : α} {l : List α} {a0 : α} : List.set (a0 :: l) 0 b = b :: l := rfl
theorem s1 {α : Type} {b : α} {l : List α} {a0 : α} {a1 : α} : List.set (a0 :: a1 :: l) 1 b = a0 :: b :: l := rfl
theorem s2 {α : Type} {b : α} {l : List α} {a0 : α} {a1 : α} {a2 : α} : List.set (a0 :: a1 :: a2 :: l) 2 b = a0 :: a1 :: b :: l := rfl
theorem s3 {α : Type} {b : α} {l : List α} {a0 : α} {a1 : α} {a2 : α} {a3 : α} : List.set (a0 :: a1 :: a2 :: a3 :: l) 3 b = a0 :: a1 :: a2 :: b :: l := rfl
theorem s4 {α : Type} {b : α} {l : List α} {a0 : α} {a1 : α} {a2 : α} {a3 : α} {a4 : α} : List.set (a0 :: a1 :: a2 :: a3 :: a4 :: l) 4 b = a0 :: a1 :: a2 :: a3 :: b :: l := rfl
theorem s5 {α : Type} {b : α} {l : List α} {a0 : α} {a1 : α} {a2 : α} {a3 : α} {a4 : α} {a5 : α} : List.set (a0 :: a1 :: a2 :: a3 :: a4 :: a5 :: l) 5 b = a0 :: a1 :: a2 :: a3 :: a4 :: b :: l := rfl
theorem s6 {α : Type} {b : α} {l : List α} {a0 : α} {a1 : α} {a2 : α} {a3 : α} {a4 : α} {a5 : α} {a6 : α} : List.set (a0 :: a1 :: a2 :: a3 :: a4 :: a5 :: a6 :: l) 6 b = a0 :: a1 :: a2 :: a3 :: a4 :: a5 :: b :: l := rfl
theorem s7 {α : Type} {b : α} {l : List α} {a0 : α} {a1 : α} {a2 : α} {a3 : α} {a4 : α} {a5 : α} {a6 : α} {a7 : α} : List.set (a0 :: a1 :: a2 :: a3 :: a4 :: a5 :: a6 :: a7 :: l) 7 b = a0 :: a1 :: a2 :: a3 :: a4 :: a5 :: a6 :: b :: l := rfl
theorem s8 {α : Type} {b : α} {l : List α} {a0 : α} {a1 : α} {a2 : α} {a3 : α} {a4 : α} {a5 : α} {a6 : α} {a7 : α} {a8 : α} : List.set (a0 :: a1 :: a2 :: a3 :: a4 :: a5 :: a6 :: a7 :: a8 :: l) 8 b = a0 :: a1 :: a2 :: a3 :: a4 :: a5 :: a6 :: a7 :: b :: l := rfl
theorem s9 {α : Type} {b : α} {l : List α} {a0 : α} {a1 : α} {a2 : α} {a3 : α} {a4 : α} {a5 : α} {a6 : α} {a7 : α} {a8 : α} {a9 : α} : List.set (a0 :: a1 :: a2 :: a3 :: a4 :: a5 :: a6 :: a7 :: a8 :: a9 :: l) 9 b = a0 :: a1 :: a2 :: a3 :: a4 :: a5 :: a6 :: a7 :: a8 :: b :: l := rfl
theorem s10 {α : Type} {b : α} {l : List α} {a0 : α} {a1 : α} {a2 : α} {a3 : α} {a4 : α} {a5 : α} {a6 : α} {a7 : α} {a8 : α} {a9 : α} {a10 : α} : List.set (a0 :: a1 :: a2 :: a3 :: a4 :: a5 :: a6 :: a7 :: a8 :: a9 :: a10 :: l) 10 b = a0 :: a1 :: a2 :: a3 :: a4 :: a5 :: a6 :: a7 :: a8 :: a9 :: b :: l := rfl
theorem s11 {α : Type} {b : α} {l : List α} {a0 : α} {a1 : α} {a2 : α} {a3 : α} {a4 : α} {a5 : α} {a6 : α} {a7 : α} {a8 : α} {a9 : α} {a10 : α} {a11 : α} : List.set (a0 :: a1 :: a2 :: a3 :: a4 :: a5 :: a6 :: a7 :: a8 :: a9 :: a10 :: a11 :: l) 11 b = a0 :: a1 :: a2 :: a3 :: a4 :: a5 :: a6 :: a7 :: a8 :: a9 :: a10 :: b :: l := rfl
theorem s12 {α : Type} {b : α} {l : List α} {a0 : α} {a1 : α} {a2 : α} {a3 : α} {a4 : α} {a5 : α} {a6 : α} {a7 : α} {a8 : α} {a9 : α} {a10 : α} {a11 : α} {a12 : α} : List.set (a0 :: a1 :: a2 :: a3 :: a4 :: a5 :: a6 :: a7 :: a8 :: a9 :: a10 :: a11 :: a12 :: l) 12 b = a0 :: a1 :: a2 :: a3 :: a4 :: a5 :: a6 :: a7 :: a8 :: a9 :: a10 :: a11 :: b :: l := rfl
theorem s13 {α : Type} {b : α} {l : List α} {a0 : α} {a1 : α} {a2 : α} {a3 : α} {a4 : α} {a5 : α} {a6 : α} {a7 : α} {a8 : α} {a9 : α} {a10 : α} {a11 : α} {a12 : α} {a13 : α} : List.set (a0 :: a1 :: a2 :: a3 :: a4 :: a5 :: a6 :: a7 :: a8 :: a9 :: a10 :: a11 :: a12 :: a13 :: l) 13 b = a0 :: a1 :: a2 :: a3 :: a4 :: a5 :: a6 :: a7 :: a8 :: a9 :: a10 :: a11 :: a12 :: b :: l := rfl
theorem s14 {α : Type} {b : α} {l : List α} {a0 : α} {a1 : α} {a2 : α} {a3 : α} {a4 : α} {a5 : α} {a6 : α} {a7 : α} {a8 : α} {a9 : α} {a10 : α} {a11 : α} {a12 : α} {a13 : α} {a14 : α} : List.set (a0 :: a1 :: a2 :: a3 :: a4 :: a5 :: a6 :: a7 :: a8 :: a9 :: a10 :: a11 :: a12 :: a13 :: a14 :: l) 14 b = a0 :: a1 :: a2 :: a3 :: a4 :: a5 :: a6 :: a7 :: a8 :: a9 :: a10 :: a11 :: a12 :: a13 :: b :: l := rfl
theorem s15 {α : Type} {b : α} {l : List α} {a0 : α} {a1 : α} {a2 : α} {a3 : α} {a4 : α} {a5 : α} {a6 : α} {a7 : α} {a8 : α} {a9 : α} {a10 : α} {a11 : α} {a12 : α} {a13 : α} {a14 : α} {a15 : α} : List.set (a0 :: a1 :: a2 :: a3 :: a4 :: a5 :: a6 :: a7 :: a8 :: a9 :: a10 :: a11 :: a12 :: a13 :: a14 :: a15 :: l) 15 b = a0 :: a1 :: a2 :: a3 :: a4 :: a5 :: a6 :: a7 :: a8 :: a9 :: a10 :: a11 :: a12 :: a13 :: a14 :: b :: l := rfl
theorem s16 {α : Type} {b : α} {l : List α} {a0 : α} {a1 : α} {a2 : α} {a3 : α} {a4 : α} {a5 : α} {a6 : α} {a7 : α} {a8 : α} {a9 : α} {a10 : α} {a11 : α} {a12 : α} {a13 : α} {a14 : α} {a15 : α} {a16 : α} : List.set (a0 :: a1 :: a2 :: a3 :: a4 :: a5 :: a6 :: a7 :: a8 :: a9 :: a10 :: a11 :: a12 :: a13 :: a14 :: a15 :: a16 :: l) 16 b = a0 :: a1 :: a2 :: a3 :: a4 :: a5 :: a6 :: a7 :: a8 :: a9 :: a10 :: a11 :: a12 :: a13 :: a14 :: a15 :: b :: l := rfl
theorem s17 {α : Type} {b : α} {l : List α} {a0 : α} {a1 : α} {a2 : α} {a3 : α} {a4 : α} {a5 : α} {a6 : α} {a7 : α} {a8 : α} {a9 : α} {a10 : α} {a11 : α} {a12 : α} {a13 : α} {a14 : α} {a15 : α} {a16 : α} {a17 : α} : List.set (a0 :: a1 :: a2 :: a3 :: a4 :: a5 :: a6 :: a7 :: a8 :: a9 :: a10 :: a11 :: a12 :: a13 :: a14 :: a15 :: a16 :: a17 :: l) 17 b = a0 :: a1 :: a2 :: a3 :: a4 :: a5 :: a6 :: a7 :: a8 :: a9 :: a10 :: a11 :: a12 :: a13 :: a14 :: a15 :: a16 :: b :: l := rfl
theorem s18 {α : Type} {b : α} {l : List α} {a0 : α} {a1 : α} {a2 : α} {a3 : α} {a4 : α} {a5 : α} {a6 : α} {a7 : α} {a8 : α} {a9 : α} {a10 : α} {a11 : α} {a12 : α} {a13 : α} {a14 : α} {a15 : α} {a16 : α} {a17 : α} {a18 : α} : List.set (a0 :: a1 :: a2 :: a3 :: a4 :: a5 :: a6 :: a7 :: a8 :: a9 :: a10 :: a11 :: a12 :: a13 :: a14 :: a15 :: a16 :: a17 :: a18 :: l) 18 b = a0 :: a1 :: a2 :: a3 :: a4 :: a5 :: a6 :: a7 :: a8 :: a9 :: a10 :: a11 :: a12 :: a13 :: a14 :: a15 :: a16 :: a17 :: b :: l := rfl
theorem s19 {α : Type} {b : α} {l : List α} {a0 : α} {a1 : α} {a2 : α} {a3 : α} {a4 : α} {a5 : α} {a6 : α} {a7 : α} {a8 : α} {a9 : α} {a10 : α} {a11 : α} {a12 : α} {a13 : α} {a14 : α} {a15 : α} {a16 : α} {a17 : α} {a18 : α} {a19 : α} : List.set (a0 :: a1 :: a2 :: a3 :: a4 :: a5 :: a6 :: a7 :: a8 :: a9 :: a10 :: a11 :: a12 :: a13 :: a14 :: a15 :: a16 :: a17 :: a18 :: a19 :: l) 19 b = a0 :: a1 :: a2 :: a3 :: a4 :: a5 :: a6 :: a7 :: a8 :: a9 :: a10 :: a11 :: a12 :: a13 :: a14 :: a15 :: a16 :: a17 :: a18 :: b :: l := rfl
theorem s20 {α : Type} {b : α} {l : List α} {a0 : α} {a1 : α} {a2 : α} {a3 : α} {a4 : α} {a5 : α} {a6 : α} {a7 : α} {a8 : α} {a9 : α} {a10 : α} {a11 : α} {a12 : α} {a13 : α} {a14 : α} {a15 : α} {a16 : α} {a17 : α} {a18 : α} {a19 : α} {a20 : α} : List.set (a0 :: a1 :: a2 :: a3 :: a4 :: a5 :: a6 :: a7 :: a8 :: a9 :: a10 :: a11 :: a12 :: a13 :: a14 :: a15 :: a16 :: a17 :: a18 :: a19 :: a20 :: l) 20 b = a0 :: a1 :: a2 :: a3 :: a4 :: a5 :: a6 :: a7 :: a8 :: a9 :: a10 :: a11 :: a12 :: a13 :: a14 :: a15 :: a16 :: a17 :: a18 :: a19 :: b :: l := rfl
theorem s21 {α : Type} {b : α} {l : List α} {a0 : α} {a1 : α} {a2 : α} {a3 : α} {a4 : α} {a5 : α} {a6 : α} {a7 : α} {a8 : α} {a9 : α} {a10 : α} {a11 : α} {a12 : α} {a13 : α} {a14 : α} {a15 : α} {a16 : α} {a17 : α} {a18 : α} {a19 : α} {a20 : α} {a21 : α} : List.set (a0 :: a1 :: a2 :: a3 :: a4 :: a5 :: a6 :: a7 :: a8 :: a9 :: a10 :: a11 :: a12 :: a13 :: a14 :: a15 :: a16 :: a17 :: a18 :: a19 :: a20 :: a21 :: l) 21 b = a0 :: a1 :: a2 :: a3 :: a4 :: a5 :: a6 :: a7 :: a8 :: a9 :: a10 :: a11 :: a12 :: a13 :: a14 :: a15 :: a16 :: a17 :: a18 :: a19 :: a20 :: b :: l := rfl
theorem s22 {α : Type} {b : α} {l : List α} {a0 : α} {a1 : α} {a2 : α} {a3 : α} {a4 : α} {a5 : α} {a6 : α} {a7 : α} {a8 : α} {a9 : α} {a10 : α} {a11 : α} {a12 : α} {a13 : α} {a14 : α} {a15 : α} {a16 : α} {a17 : α} {a18 : α} {a19 : α} {a20 : α} {a21 : α} {a22 : α} : List.set (a0 :: a1 :: a2 :: a3 :: a4 :: a5 :: a6 :: a7 :: a8 :: a9 :: a10 :: a11 :: a12 :: a13 :: a14 :: a15 :: a16 :: a17 :: a18 :: a19 :: a20 :: a21 :: a22 :: l) 22 b = a0 :: a1 :: a2 :: a3 :: a4 :: a5 :: a6 :: a7 :: a8 :: a9 :: a10 :: a11 :: a12 :: a13 :: a14 :: a15 :: a16 :: a17 :: a18 :: a19 :: a20 :: a21 :: b :: l := rfl
theorem s23 {α : Type} {b : α} {l : List α} {a0 : α} {a1 : α} {a2 : α} {a3 : α} {a4 : α} {a5 : α} {a6 : α} {a7 : α} {a8 : α} {a9 : α} {a10 : α} {a11 : α} {a12 : α} {a13 : α} {a14 : α} {a15 : α} {a16 : α} {a17 : α} {a18 : α} {a19 : α} {a20 : α} {a21 : α} {a22 : α} {a23 : α} : List.set (a0 :: a1 :: a2 :: a3 :: a4 :: a5 :: a6 :: a7 :: a8 :: a9 :: a10 :: a11 :: a12 :: a13 :: a14 :: a15 :: a16 :: a17 :: a18 :: a19 :: a20 :: a21 :: a22 :: a23 :: l) 23 b = a0 :: a1 :: a2 :: a3 :: a4 :: a5 :: a6 :: a7 :: a8 :: a9 :: a10 :: a11 :: a12 :: a13 :: a14 :: a15 :: a16 :: a17 :: a18 :: a19 :: a20 :: a21 :: a22 :: b :: l := rfl
end
end Wp

namespace Wp
open PySem L2
section
variable {K : PySem.W.Frag} {H : Hp} {Q : VK} {p : Addr} {xs : List V} {i : Int} {j : Nat} {v : V}
theorem ixl (h : H p = some (.lst xs)) (hi : atI xs i = some v) (q : Q v H) : rIxL K (.ref p) (.int i) H Q := ⟨p, xs, i, v, rfl, rfl, SqL.of h, hi, q⟩
theorem ixq (h : SqL K H p xs) (hi : atI xs i = some v) (q : Q v H) : rIxL K (.ref p) (.int i) H Q := ⟨p, xs, i, v, rfl, rfl, h, hi, q⟩
theorem setl {R : Hp → Prop} (h : H p = some (.lst xs)) (hj : ixN xs.length i = some j) (q : R (upd H p (.lst (xs.set j v)))) : rSetL (.ref p) (.int i) v H R := ⟨p, xs, i, j, rfl, rfl, h, hj, q⟩
theorem lenl (h : H p = some (.lst xs)) (q : Q (.int (xs.length : Int)) H) : rLen K [V.ref p] H Q := ⟨p, xs, rfl, .inl (SqL.of h), q⟩
theorem lent (h : H p = some (.tup xs)) (q : Q (.int (xs.length : Int)) H) : rLen K [V.ref p] H Q := ⟨p, xs, rfl, .inr (SqT.of h), q⟩
theorem lens (h : SqL K H p xs) (q : Q (.int (xs.length : Int)) H) : rLen K [V.ref p] H Q := ⟨p, xs, rfl, .inl h, q⟩
theorem lists (h : SqL K H p xs) (q : ∀ l, H l = none → Q (.ref l) (upd H l (.lst xs))) : rList K [V.ref p] H Q := ⟨p, xs, rfl, .inl h, q⟩
theorem listt (h : SqT K H p xs) (q : ∀ l, H l = none → Q (.ref l) (upd H l (.lst xs))) : rList K [V.ref p] H Q := ⟨p, xs, rfl, .inr h, q⟩
theorem u_ne {a : Addr} {o u : HO} (n : p ≠ a) (h : H p = some u) : upd H a o p = some u := (upd_ne n).trans h
theorem fresh_ne {a : Addr} {u : HO} (h : H p = some u) (n : H a = none) : p ≠ a := ne_of_none h n
theorem But.refl : But p H H := fun _ _ => rfl
theorem But.upd {H' : Hp} {o : HO} (b : But p H H') : But p H (upd H' p o) := fun c n => (upd_ne n).trans (b c n)
theorem atI_map {ns : List Int} {k : Int} (h0 : 0 ≤ k) (h : k < (ns.map V.int).length) : ∃ n, atI (ns.map V.int) k = some (.int n) := by
  obtain ⟨m, rfl⟩ : ∃ m : Nat, k = (m : Int) := ⟨k.toNat, by omega⟩
  have hm : m < (ns.map V.int).length := by omega
  have hm2 : m < ns.length := by rw [List.length_map] at hm; exact hm
  refine ⟨ns[m], atI_nat ?_⟩
  rw [List.getElem?_map, List.getElem?_eq_getElem hm2]
  rfl
end
end Wp

namespace Wp
open PySem L2
def NB (i : Int) (a : Nat) : Prop := i.natAbs < 2 ^ a
theorem NB.mul {i j : Int} {a b : Nat} (h : NB i a) (h' : NB j b) : NB (i * j) (a + b) := wide_lt h h'
theorem NB.of {i : Int} {a : Nat} (h0 : 0 ≤ i) (h : i < 2 ^ a) : NB i a := by
  unfold NB
  have h2 : ((2 ^ a : Nat) : Int) = (2 : Int) ^ a := by simp
  rw [← h2] at h
  omega
theorem NB.cm {i j : Int} {a b : Nat} (h : NB i a) (h' : NB j b) (h0 : 0 < a ∧ 0 < b ∧ a + b ≤ 1000000) : CMulW i j := wide_mul h h' h0.1 h0.2.1 h0.2.2
theorem NB.mod {a m : Int} (h0 : 0 < m) (h : m < 2 ^ 64) : NB (a % m) 64 := NB.of (Int.emod_nonneg _ (by omega)) (Int.lt_trans (Int.emod_lt_of_pos _ h0) h)
theorem cmm {a b m n : Int} (h0 : 0 < m) (h : m < 2 ^ 64) (h1 : 0 < n) (h2 : n < 2 ^ 64) : CMulW (a % m) (b % n) := (NB.mod h0 h).cm (NB.mod h1 h2) (by decide)
theorem dvs {a m : Int} (h0 : 0 < m) (h : m < 2 ^ 64) : CDivW a m := wide_div h0 (NB.of (Int.le_of_lt h0) h) (by decide) (by decide)
end Wp

namespace Wp
open PySem L2
section
variable {H H' H1 : Hp} {p l : Addr} {o : HO}
theorem PoolAt.new (h : PoolAt H p) (n : H l = none) : PoolAt (upd H l o) p := by
  obtain ⟨k, ns, i, x, c, e, h1, h2, h3⟩ := h
  exact ⟨k, ns, i, x, c, e, u_ne (ne_of_none h1 n) h1, u_ne (ne_of_none h2 n) h2, h3⟩
theorem PoolAt.has (h : PoolAt H p) : ∃ o, H p = some o := by
  obtain ⟨k, ns, i, x, c, e, h1, h2, h3⟩ := h
  exact ⟨_, h1⟩
theorem PoolAt.nefresh (h : PoolAt H p) (n : H l = none) : p ≠ l := by
  obtain ⟨o, h⟩ := h.has
  exact ne_of_none h n
theorem Ext.refl : Ext p H H := fun _ _ _ h => h
theorem Ext.trans (a : Ext p H H') (b : Ext p H' H1) : Ext p H H1 := fun c o n h => b c o n (a c o n h)
theorem But.ext (a : But p H H') : Ext p H H' := fun c o n h => (a c n).trans h
theorem Ext.new (n : H l = none) : Ext p H (upd H l o) := fun c u _ h => u_ne (ne_of_none h n) h
end
end Wp

namespace Wp
open PySem L2
/-! loops -/
def LOOP (J : It) (g : TG) (b : TS) (D : Ends) (st : L2.St) (h : Hp) : Prop := ∃ W : Nat → Nat → L2.St → Hp → Prop, (∃ m, W 0 m st h) ∧ ∀ i m st h, W i m st h → (J.stop i h ∧ D.nx st h) ∨ (J.go i h ∧ ∃ N : L2.St → Hp → Prop, (∀ st' h', N st' h' → ∃ m', m' < m ∧ W (i + 1) m' st' h') ∧ ∀ x h', J.yld i h x h' → g x st h' fun st2 h2 => b { D with nx := N, ct := N, bk := D.nx } st2 h2)
def LC (J : It) (g : TG) (tt : TT) (te : TE) (vs : List Nat) (st : L2.St) (h1 : Hp) (D : Addr) (Q : VK) : Prop := ∃ W : Nat → Nat → Hp → Prop, (∃ m, W 0 m (upd h1 D (.lst []))) ∧ ∀ i m h, W i m h → (J.stop i h ∧ Q (.ref D) h) ∨ (J.go i h ∧ ∃ N : Hp → Prop, (∀ h', N h' → ∃ m', m' < m ∧ W (i + 1) m' h') ∧ ∀ x h', J.yld i h x h' → g x (wipe st vs) h' fun st2 h2 => wipe st2 vs = wipe st vs ∧ tt st2 h2 fun b h3 => if b = true then te st2 h3 fun y h4 => ∃ acc, h4 D = some (.lst acc) ∧ acc.length < sizeLine ∧ N (upd h4 D (.lst (acc ++ [y]))) else N h3)
def rR1 (vs : List V) (H : Hp) (R : It → Hp → Prop) : Prop := ∃ j : Int, vs = [.int j] ∧ -(2 ^ 62) ≤ j ∧ j < 2 ^ 62 ∧ R (Itr 0 j.toNat) H
def rR2 (vs : List V) (H : Hp) (R : It → Hp → Prop) : Prop := ∃ i j : Int, vs = [.int i, .int j] ∧ (-(2 ^ 62) ≤ i ∧ i < 2 ^ 62 ∧ -(2 ^ 62) ≤ j ∧ j < 2 ^ 62) ∧ R (Itr i (j - i).toNat) H
def rIL (K : PySem.W.Frag) (x : V) (H : Hp) (R : It → Hp → Prop) : Prop := ∃ a, x = .ref a ∧ (∃ xs, SqL K H a xs) ∧ R (Itl K a) H
def rIT (K : PySem.W.Frag) (x : V) (H : Hp) (R : It → Hp → Prop) : Prop := ∃ a, x = .ref a ∧ (∃ xs, SqT K H a xs) ∧ R (Itt K a) H
section
variable {σ : L2.St} {H : Hp} {Q : VK} {D : Ends} {K : PySem.W.Frag} {R : It → Hp → Prop} {g : TG} {tb : TS}
theorem for_ {wi : TI} : tFor wi g tb D σ H = wi σ H fun J H1 => LOOP J g tb D σ H1 := rfl
theorem lc_ {wi : TI} {tt : TT} {te : TE} {vs : List Nat} : tLc wi g tt te vs σ H Q = wi σ H fun J H1 => ∀ D, H1 D = none → LC J g tt te vs σ H1 D Q := rfl
theorem ilist {tl : TE} : iList K tl σ H R = tl σ H fun x H1 => rIL K x H1 R := rfl
theorem itup {tl : TE} : iTup K tl σ H R = tl σ H fun x H1 => rIT K x H1 R := rfl
theorem irng1 {ta : TA} : iRng1 ta σ H R = ta σ H fun vs H1 => rR1 vs H1 R := rfl
theorem irng2 {ta : TA} : iRng2 ta σ H R = ta σ H fun vs H1 => rR2 vs H1 R := rfl
theorem rr1 {n : Int} : rR1 [.int n] H R = ((-(2 ^ 62) ≤ n ∧ n < 2 ^ 62) ∧ R (Itr 0 n.toNat) H) := propext ⟨fun ⟨_, e, a, b, c⟩ => by cases e; exact ⟨⟨a, b⟩, c⟩, fun ⟨⟨a, b⟩, c⟩ => ⟨n, rfl, a, b, c⟩⟩
theorem rr2 {i n : Int} : rR2 [.int i, .int n] H R = ((-(2 ^ 62) ≤ i ∧ i < 2 ^ 62 ∧ -(2 ^ 62) ≤ n ∧ n < 2 ^ 62) ∧ R (Itr i (n - i).toNat) H) := propext ⟨fun ⟨_, _, e, a, c⟩ => by cases e; exact ⟨a, c⟩, fun ⟨a, c⟩ => ⟨i, n, rfl, a, c⟩⟩
theorem ril {a : Addr} {xs : List V} (h : H a = some (.lst xs)) (q : R (Itl K a) H) : rIL K (.ref a) H R := ⟨a, rfl, ⟨xs, SqL.of h⟩, q⟩
theorem rilq {a : Addr} {xs : List V} (h : SqL K H a xs) (q : R (Itl K a) H) : rIL K (.ref a) H R := ⟨a, rfl, ⟨xs, h⟩, q⟩
theorem rit {a : Addr} {xs : List V} (h : H a = some (.tup xs)) (q : R (Itt K a) H) : rIT K (.ref a) H R := ⟨a, rfl, ⟨xs, SqT.of h⟩, q⟩
theorem loopR {lo : Int} {n : Nat} (Pv : Nat → L2.St → Hp → Prop) (h0 : Pv 0 σ H)
    (hs : ∀ (i : Nat) σ H, i < n → Pv i σ H → g (.int (lo + i)) σ H fun σ2 H2 => tb { D with nx := Pv (i + 1), ct := Pv (i + 1), bk := D.nx } σ2 H2) (hd : ∀ σ H, Pv n σ H → D.nx σ H) : LOOP (Itr lo n) g tb D σ H := for_range Pv h0 hs hd
theorem loopL {a : Addr} (xs : List V) (Pv : Nat → L2.St → Hp → Prop) (h0 : Pv 0 σ H) (hl : ∀ i σ H, i ≤ xs.length → Pv i σ H → SqL K H a xs)
    (hs : ∀ i x σ H, xs[i]? = some x → Pv i σ H → g x σ H fun σ2 H2 => tb { D with nx := Pv (i + 1), ct := Pv (i + 1), bk := D.nx } σ2 H2) (hd : ∀ σ H, Pv xs.length σ H → D.nx σ H) : LOOP (Itl K a) g tb D σ H := for_list Pv h0 hl hs hd
theorem loopT {a : Addr} (xs : List V) (Pv : Nat → L2.St → Hp → Prop) (h0 : Pv 0 σ H) (hl : ∀ i σ H, i ≤ xs.length → Pv i σ H → SqT K H a xs)
    (hs : ∀ i x σ H, xs[i]? = some x → Pv i σ H → g x σ H fun σ2 H2 => tb { D with nx := Pv (i + 1), ct := Pv (i + 1), bk := D.nx } σ2 H2) (hd : ∀ σ H, Pv xs.length σ H → D.nx σ H) : LOOP (Itt K a) g tb D σ H := for_tup Pv h0 hl hs hd
/-- a loop over a list, turn by turn -/
def RunL (K : PySem.W.Frag) (a : Addr) (full : List V) (g : TG) (tb : TS) (D : Ends) : List V → L2.St → Hp → Prop
  | [], σ, H => SqL K H a full ∧ D.nx σ H
  | x :: r, σ, H => SqL K H a full ∧ g x σ H fun σ2 H2 => tb { D with nx := RunL K a full g tb D r, ct := RunL K a full g tb D r, bk := D.nx } σ2 H2
theorem runL {a : Addr} {xs : List V} (h : H a = some (.lst xs)) (q : RunL K a xs g tb D xs σ H) : LOOP (Itl K a) g tb D σ H := by
  refine loopL xs (fun i σ H => RunL K a xs g tb D (xs.drop i) σ H) q (fun i σ H hi p => ?_) (fun i x σ H hx p => ?_) (fun σ H p => ?_)
  · cases e : xs.drop i with
    | nil => rw [e] at p; exact p.1
    | cons y r => rw [e] at p; exact p.1
  · have hi : i < xs.length := (List.getElem?_eq_some_iff.mp hx).1
    have e : xs.drop i = x :: xs.drop (i + 1) := by
      rw [List.drop_eq_getElem_cons hi]
      rw [List.getElem?_eq_getElem hi] at hx
      rw [Option.some.inj hx]
    rw [e] at p
    exact p.2
  · rw [List.drop_length] at p
    exact p.2
def RunC (K : PySem.W.Frag) (a : Addr) (full : List V) (g : TG) (tt : TT) (te : TE) (vs : List Nat) (σ : L2.St) (D : Addr) (Q : VK) : List V → Hp → Prop
  | [], H => SqL K H a full ∧ Q (.ref D) H
  | x :: r, H => SqL K H a full ∧ g x (wipe σ vs) H fun σ2 H2 => wipe σ2 vs = wipe σ vs ∧ tt σ2 H2 fun b H3 =>
      if b = true then te σ2 H3 fun y H4 => ∃ acc, H4 D = some (.lst acc) ∧ acc.length < sizeLine ∧ RunC K a full g tt te vs σ D Q r (upd H4 D (.lst (acc ++ [y]))) else RunC K a full g tt te vs σ D Q r H3
theorem runC {a D : Addr} {xs : List V} {tt : TT} {te : TE} {vs : List Nat} (q : RunC K a xs g tt te vs σ D Q xs (upd H D (.lst []))) : LC (Itl K a) g tt te vs σ H D Q := by
  refine lc_list (xs := xs) (fun i H => RunC K a xs g tt te vs σ D Q (xs.drop i) H) q (fun i H hi p => ?_) (fun i x H hx p => ?_) (fun H p => ?_)
  · cases e : xs.drop i with
    | nil => rw [e] at p; exact p.1
    | cons y r => rw [e] at p; exact p.1
  · have hi : i < xs.length := (List.getElem?_eq_some_iff.mp hx).1
    have e : xs.drop i = x :: xs.drop (i + 1) := by
      rw [List.drop_eq_getElem_cons hi]
      rw [List.getElem?_eq_getElem hi] at hx
      rw [Option.some.inj hx]
    rw [e] at p
    exact p.2
  · rw [List.drop_length] at p
    exact p.2
theorem tyes {R : Bool → Hp → Prop} : tYes σ H R = R true H := rfl
end
section
variable {X : Cx}
theorem ixL {K : PySem.W.Frag} (h : X.K = K) : IxR X (rIxL K) := h ▸ ix_list
theorem ixT {K : PySem.W.Frag} (h : X.K = K) : IxR X (rIxT K) := h ▸ ix_tup
theorem c_lenK {K : PySem.W.Frag} (h : X.K = K) : CallR X (.builtin "len") (rLen K) := h ▸ c_len
theorem c_listK {K : PySem.W.Frag} (h : X.K = K) : CallR X (.type "list") (rList K) := h ▸ c_list
theorem pi_listK {K : PySem.W.Frag} {tg l : Expr} {tl : TE} (h : X.K = K) (hl : PE X l tl) : PI X tg l (iList K tl) := h ▸ pi_list hl
theorem pi_tupK {K : PySem.W.Frag} {tg l : Expr} {tl : TE} (h : X.K = K) (hl : PE X l tl) : PI X tg l (iTup K tl) := h ▸ pi_tup hl
end
end Wp

namespace Wp
theorem ite_t {c A B : Prop} [Decidable c] (h : c) (q : A) : if c then A else B := by rw [if_pos h]; exact q
theorem ite_f {c A B : Prop} [Decidable c] (h : ¬ c) (q : B) : if c then A else B := by rw [if_neg h]; exact q
end Wp
set_option maxHeartbeats 2000000
/-! Wp1: lists, texts, truth, is True, isinstance of objects, while, slices, methods, one comprehension of pure parts. -/
namespace Wp
open PySem L2 PyProof.Rows
theorem kb_int_int : kitB "int" "int" = some true := by decide +kernel
theorem kb_int_str : kitB "int" "str" = some false := by decide +kernel
theorem kb_int_bool : kitB "int" "bool" = some false := by decide +kernel
theorem kb_int_list : kitB "int" "list" = some false := by decide +kernel
theorem kb_int_tuple : kitB "int" "tuple" = some false := by decide +kernel
theorem kb_str_int : kitB "str" "int" = some false := by decide +kernel
theorem kb_str_str : kitB "str" "str" = some true := by decide +kernel
theorem kb_str_bool : kitB "str" "bool" = some false := by decide +kernel
theorem kb_str_list : kitB "str" "list" = some false := by decide +kernel
theorem kb_str_tuple : kitB "str" "tuple" = some false := by decide +kernel
theorem kb_bool_int : kitB "bool" "int" = some true := by decide +kernel
theorem kb_bool_str : kitB "bool" "str" = some false := by decide +kernel
theorem kb_bool_bool : kitB "bool" "bool" = some true := by decide +kernel
theorem kb_bool_list : kitB "bool" "list" = some false := by decide +kernel
theorem kb_bool_tuple : kitB "bool" "tuple" = some false := by decide +kernel
theorem kb_list_int : kitB "list" "int" = some false := by decide +kernel
theorem kb_list_str : kitB "list" "str" = some false := by decide +kernel
theorem kb_list_bool : kitB "list" "bool" = some false := by decide +kernel
theorem kb_list_list : kitB "list" "list" = some true := by decide +kernel
theorem kb_list_tuple : kitB "list" "tuple" = some false := by decide +kernel
theorem kb_tuple_int : kitB "tuple" "int" = some false := by decide +kernel
theorem kb_tuple_str : kitB "tuple" "str" = some false := by decide +kernel
theorem kb_tuple_bool : kitB "tuple" "bool" = some false := by decide +kernel
theorem kb_tuple_list : kitB "tuple" "list" = some false := by decide +kernel
theorem kb_tuple_tuple : kitB "tuple" "tuple" = some true := by decide +kernel
theorem kb_NoneType_int : kitB "NoneType" "int" = some false := by decide +kernel
theorem kb_NoneType_str : kitB "NoneType" "str" = some false := by decide +kernel
theorem kb_NoneType_bool : kitB "NoneType" "bool" = some false := by decide +kernel
theorem kb_NoneType_list : kitB "NoneType" "list" = some false := by decide +kernel
theorem kb_NoneType_tuple : kitB "NoneType" "tuple" = some false := by decide +kernel
section
variable {X : Cx} {K : PySem.W.Frag} {σ : L2.St} {H : Hp} {Q : VK} {D : Ends}
/-! + of ints and of lists; subscripts of lists and tuples -/
def rAddL : R2 := fun x y H Q => rI0 (fun i j => .int (i + j)) x y H Q ∨ rCat x y H Q
theorem op_addL : OpR X (binaryOp .Add) rAddL := op_add.or op_cat
theorem addi {i j : Int} : rAddL (.int i) (.int j) H Q = Q (.int (i + j)) H := by
  apply propext
  constructor
  · intro h
    rcases h with h | ⟨l, b, xs, zs, h, _⟩
    · rw [i0] at h; exact h
    · cases h
  · intro h
    exact Or.inl (by rw [i0]; exact h)
theorem addl {a b : Addr} {xs ys : List V} (ha : H a = some (.lst xs)) (hb : H b = some (.lst ys)) (hz : xs.length + ys.length ≤ sizeLine) (q : ∀ p, H p = none → Q (.ref p) (upd H p (.lst (xs ++ ys)))) : rAddL (.ref a) (.ref b) H Q :=
  Or.inr ⟨a, b, xs, ys, rfl, rfl, ha, hb, hz, q⟩
theorem repl {a : Addr} {xs : List V} {k : Int} (ha : H a = some (.lst xs)) (h1 : -(2 ^ 63) ≤ k ∧ k < 2 ^ 63) (hz : xs.length * k.toNat ≤ sizeLine) (q : ∀ p, H p = none → Q (.ref p) (upd H p (.lst (List.replicate k.toNat xs).flatten))) : rRep (.ref a) (.int k) H Q :=
  ⟨a, k, xs, rfl, rfl, ha, h1.1, h1.2, hz, q⟩
def rIxA (K : PySem.W.Frag) : R2 := fun x y H Q => rIxL K x y H Q ∨ rIxT K x y H Q
theorem ixA (h : X.K = K) : IxR X (rIxA K) := h ▸ ix_list.or ix_tup
theorem ixal {p : Addr} {xs : List V} {i : Int} {v : V} (h : H p = some (.lst xs)) (hi : atI xs i = some v) (q : Q v H) : rIxA K (.ref p) (.int i) H Q := Or.inl (ixl h hi q)
theorem ixaq {p : Addr} {xs : List V} {i : Int} {v : V} (h : SqL K H p xs) (hi : atI xs i = some v) (q : Q v H) : rIxA K (.ref p) (.int i) H Q := Or.inl (ixq h hi q)
theorem ixat {p : Addr} {xs : List V} {i : Int} {v : V} (h : H p = some (.tup xs)) (hi : atI xs i = some v) (q : Q v H) : rIxA K (.ref p) (.int i) H Q := Or.inr ⟨p, xs, i, v, rfl, rfl, SqT.of h, hi, q⟩
/-! texts -/
theorem ds {i j : Str} : decide (V.str i = V.str j) = decide (i = j) := by
  by_cases h : i = j
  · subst h; simp
  · rw [decide_eq_false h, decide_eq_false]; intro q; cases q; exact h rfl
theorem eqs {i j : Str} : rEq (.str i) (.str j) H Q = Q (.bl (decide (i = j))) H := by
  unfold rEq; rw [ds]; exact propext ⟨fun q => q.2, fun q => ⟨rfl, q⟩⟩
theorem nes {i j : Str} : rNe (.str i) (.str j) H Q = Q (.bl (!decide (i = j))) H := by
  unfold rNe; rw [ds]; exact propext ⟨fun q => q.2, fun q => ⟨rfl, q⟩⟩
/-! is None, is True -/
def rIsN : R2 := fun x y H Q => y = .non ∧ Q (.bl (decide (x = .non))) H
def rNotN : R2 := fun x y H Q => y = .non ∧ Q (.bl (!decide (x = .non))) H
theorem o_isN : OpR X (compareOp .Is) rIsN := op_isN
theorem o_notN : OpR X (compareOp .IsNot) rNotN := op_notN
theorem isn {x : V} : rIsN x .non H Q = Q (.bl (decide (x = .non))) H := propext ⟨fun h => h.2, fun h => ⟨rfl, h⟩⟩
theorem notn {x : V} : rNotN x .non H Q = Q (.bl (!decide (x = .non))) H := propext ⟨fun h => h.2, fun h => ⟨rfl, h⟩⟩
theorem n_i {i : Int} : (V.int i = V.non) = False := eq_false (fun z => by cases z)
theorem n_s {i : Str} : (V.str i = V.non) = False := eq_false (fun z => by cases z)
theorem n_b {i : Bool} : (V.bl i = V.non) = False := eq_false (fun z => by cases z)
theorem n_r {i : Addr} : (V.ref i = V.non) = False := eq_false (fun z => by cases z)
/-- is, the right side a truth value -/
def rIsT : R2 := fun x y H Q => ∃ b : Bool, y = .bl b ∧ Q (.bl (decide (x = .bl b))) H
theorem op_isT : OpR X (compareOp .Is) rIsT := by
  intro pins s σ H x y v u Q I rx ry h
  obtain ⟨b, rfl, q⟩ := h
  cases (show u = Value.bool b from ry)
  have fin : ∀ c : Bool, c = decide (x = .bl b) → EP X pins σ Q (.bool c) s := fun c e => ⟨.bl c, H, I, rfl, by rw [e]; exact q⟩
  have no : x ≠ .bl b → EP X pins σ Q (.bool false) s := fun h => fin _ (decide_eq_false h).symm
  cases x with
  | non => cases (show v = Value.none from rx); exact wpAny_is_other rfl (fun z => by cases z) (no (fun z => by cases z))
  | bl a =>
    cases (show v = Value.bool a from rx)
    by_cases e : a = b
    · subst e
      exact wpAny_is_self rfl (fin _ (by simp))
    · exact wpAny_is_other rfl (fun z => e (Value.bool.inj z)) (no (fun z => by cases z; exact e rfl))
  | int i => obtain ⟨t, e⟩ := (show ∃ t, v = Value.int i t from rx); cases e; exact wpAny_is_other rfl (fun z => by cases z) (no (fun z => by cases z))
  | str i => obtain ⟨t, e⟩ := (show ∃ t, v = Value.str i t from rx); cases e; exact wpAny_is_other rfl (fun z => by cases z) (no (fun z => by cases z))
  | byt i => obtain ⟨t, e⟩ := (show ∃ t, v = Value.bytes i t from rx); cases e; exact wpAny_is_other rfl (fun z => by cases z) (no (fun z => by cases z))
  | flt i => obtain ⟨t, e⟩ := (show ∃ t, v = Value.float i t from rx); cases e; exact wpAny_is_other rfl (fun z => by cases z) (no (fun z => by cases z))
  | ref a => cases (show v = Value.ref a from rx); exact wpAny_is_other rfl (fun z => by cases z) (no (fun z => by cases z))
  | ty n => cases (show v = Value.type n from rx); exact wpAny_is_other rfl (fun z => by cases z) (no (fun z => by cases z))
theorem ist {x : V} {b : Bool} : rIsT x (.bl b) H Q = Q (.bl (decide (x = .bl b))) H := propext ⟨fun ⟨_, e, h⟩ => by cases e; exact h, fun h => ⟨b, rfl, h⟩⟩
theorem t_i {i : Int} {b : Bool} : (V.int i = V.bl b) = False := eq_false (fun z => by cases z)
theorem t_s {i : Str} {b : Bool} : (V.str i = V.bl b) = False := eq_false (fun z => by cases z)
theorem t_n {b : Bool} : (V.non = V.bl b) = False := eq_false (fun z => by cases z)
theorem t_r {i : Addr} {b : Bool} : (V.ref i = V.bl b) = False := eq_false (fun z => by cases z)
theorem t_b {a b : Bool} : (V.bl a = V.bl b) = (a = b) := propext ⟨fun z => by cases z; rfl, fun z => by rw [z]⟩
theorem n_n : (V.non = V.non) = True := eq_true rfl
/-! truth -/
def tTru (K : PySem.W.Frag) (te : TE) : TT := fun σ H Q => te σ H fun x H' => ∃ k, TruV K x H' k ∧ Q k H'
def rTru (K : PySem.W.Frag) (x : V) (H : Hp) (R : Bool → Hp → Prop) : Prop := ∃ k, TruV K x H k ∧ R k H
theorem pt_tru {a : Expr} {ta : TE} (h : X.K = K) (ha : PE X a ta) (he : ∀ whole, isTrue a X.env whole = (do let v ← whole; standAt a.pos; holding [v] (truthy v)) := by intro _; rfl) : PT X a (tTru K ta) := h ▸ pt_truth ha he
theorem tru {te : TE} {R : Bool → Hp → Prop} : tTru K te σ H R = te σ H fun x H' => rTru K x H' R := rfl
theorem tru_b {b : Bool} {R : Bool → Hp → Prop} : rTru K (.bl b) H R = R b H := propext ⟨fun ⟨k, e, r⟩ => by cases (show k = b from e); exact r, fun r => ⟨b, rfl, r⟩⟩
theorem tru_l {p : Addr} {xs : List V} {R : Bool → Hp → Prop} (h : H p = some (.lst xs)) (r : R (!xs.isEmpty) H) : rTru K (.ref p) H R := ⟨_, Or.inl ⟨xs, SqL.of h, rfl⟩, r⟩
/-! isinstance -/
def rIsiW (K : PySem.W.Frag) : List V → Hp → VK → Prop := rIsi K
theorem call_isiK {K : PySem.W.Frag} (h : X.K = K) : CallR X (.builtin "isinstance") (rIsiW K) := h ▸ call_isi
theorem isi_i {i : Int} {T : String} {b : Bool} (h : kitB "int" T = some b) (q : Q (.bl b) H) : rIsiW K [.int i, .ty T] H Q := ⟨_, _, .type "int", .type T, b, rfl, .ty T, .base (.int i), kit_ty h, q⟩
theorem isi_s {i : Str} {T : String} {b : Bool} (h : kitB "str" T = some b) (q : Q (.bl b) H) : rIsiW K [.str i, .ty T] H Q := ⟨_, _, .type "str", .type T, b, rfl, .ty T, .base (.str i), kit_ty h, q⟩
theorem isi_b {i : Bool} {T : String} {b : Bool} (h : kitB "bool" T = some b) (q : Q (.bl b) H) : rIsiW K [.bl i, .ty T] H Q := ⟨_, _, .type "bool", .type T, b, rfl, .ty T, .base (.bl i), kit_ty h, q⟩
theorem isi_n {T : String} {b : Bool} (h : kitB "NoneType" T = some b) (q : Q (.bl b) H) : rIsiW K [.non, .ty T] H Q := ⟨_, _, .type "NoneType", .type T, b, rfl, .ty T, .base .non, kit_ty h, q⟩
theorem isi_l {a : Addr} {xs : List V} {T : String} {b : Bool} (e : H a = some (.lst xs)) (h : kitB "list" T = some b) (q : Q (.bl b) H) : rIsiW K [.ref a, .ty T] H Q := ⟨_, _, .type "list", .type T, b, rfl, .ty T, .base (.lst e), kit_ty h, q⟩
theorem isi_t {a : Addr} {xs : List V} {T : String} {b : Bool} (e : H a = some (.tup xs)) (h : kitB "tuple" T = some b) (q : Q (.bl b) H) : rIsiW K [.ref a, .ty T] H Q := ⟨_, _, .type "tuple", .type T, b, rfl, .ty T, .base (.tup e), kit_ty h, q⟩
/-! slices of lists -/
theorem sl {r : V → Option Int → Option Int → Hp → VK → Prop} {te : TE} {tl th : TO} : tSl r te tl th σ H Q = te σ H fun x H1 => tl σ H1 fun l H2 => th σ H2 fun u H3 => r x l u H3 Q := rfl
theorem nopart {R : Option Int → Hp → Prop} : tNoPart σ H R = R none H := rfl
def rPart (x : V) (H : Hp) (R : Option Int → Hp → Prop) : Prop := ∃ i, x = .int i ∧ R (some i) H
theorem part {t : TE} {R : Option Int → Hp → Prop} : tPart t σ H R = t σ H fun x H1 => rPart x H1 R := rfl
theorem rpart {i : Int} {R : Option Int → Hp → Prop} : rPart (.int i) H R = R (some i) H := propext ⟨fun ⟨_, e, h⟩ => by cases e; exact h, fun h => ⟨i, rfl, h⟩⟩
theorem sl_listK {K : PySem.W.Frag} (h : X.K = K) : SlR X (rSlL K) := h ▸ sl_list
theorem slq {a : Addr} {xs : List V} {lo hi : Option Int} (h : SqL K H a xs) (q : ∀ p, H p = none → Q (.ref p) (upd H p (.lst (cutV xs lo hi)))) : rSlL K (.ref a) lo hi H Q := ⟨a, xs, rfl, h, q⟩
theorem sll {a : Addr} {xs : List V} {lo hi : Option Int} (h : H a = some (.lst xs)) (q : ∀ p, H p = none → Q (.ref p) (upd H p (.lst (cutV xs lo hi)))) : rSlL K (.ref a) lo hi H Q := ⟨a, xs, rfl, SqL.of h, q⟩
/-! methods of lists -/
def rMt (K : PySem.W.Frag) (T : String) (r : V → List V → Hp → VK → Prop) (t : TA) (σ : L2.St) (x : V) (H : Hp) (Q : VK) : Prop := tyV K T x H ∧ t σ H fun xs H2 => r x xs H2 Q
theorem bm {T : String} {r : V → List V → Hp → VK → Prop} {to : TE} {t : TA} : tBM K T r to t σ H Q = to σ H fun x H1 => rMt K T r t σ x H1 Q := rfl
theorem bm0 {T : String} {r : V → List V → Hp → VK → Prop} {to : TE} : tBM0 K T r to σ H Q = to σ H fun x H1 => rMt K T r tNil σ x H1 Q := rfl
theorem mtl {a : Addr} {xs : List V} {r : V → List V → Hp → VK → Prop} {t : TA} (h : H a = some (.lst xs)) (q : t σ H fun ys H2 => r (.ref a) ys H2 Q) : rMt K "list" r t σ (.ref a) H Q := ⟨Or.inl ⟨rfl, xs, SqL.of h⟩, q⟩
theorem apd {l : Addr} {xs : List V} {y : V} (h : H l = some (.lst xs)) (hz : xs.length < sizeLine) (q : Q .non (upd H l (.lst (xs ++ [y])))) : rAppend (.ref l) [y] H Q := ⟨l, xs, y, rfl, rfl, h, hz, q⟩
theorem popd {l : Addr} {xs : List V} {y : V} (h : H l = some (.lst xs)) (hy : xs[xs.length - 1]? = some y) (q : Q y (upd H l (.lst xs.dropLast))) : rPop (.ref l) [] H Q := ⟨l, xs, y, rfl, rfl, h, hy, q⟩
section
open PySem.W
variable {o e : Expr} {es : List Expr} {to : TE} {t : TA} {name : Str} {apos cpos : Pos} {T id : String} {r : V → List V → Hp → VK → Prop}
theorem pe_bm0K {X : Cx} {K : PySem.W.Frag} (h : X.K = K) (pa : PlainAttrs T) (slot : Slot T name id) (hty : typeOf (.builtin id) = pure (.type "method_descriptor")) (hm : MtR X id r) (ho : PE X o to)
    (hbase : attributeBase o name X.env (eval o X.env) = eval o X.env := by rfl) (hline : (apos.endLine == cpos.line) = true := by rfl) : PE X (.Call (.Attribute o name apos) [] [] cpos) (tBM0 K T r to) := h ▸ pe_bm0 pa slot hty hm ho hbase hline
theorem pe_bmK {X : Cx} {K : PySem.W.Frag} (h : X.K = K) (pa : PlainAttrs T) (slot : Slot T name id) (hty : typeOf (.builtin id) = pure (.type "method_descriptor")) (hm : MtR X id r) (ho : PE X o to) (ha : PA X (e :: es) t)
    (hbase : attributeBase o name X.env (eval o X.env) = eval o X.env := by rfl)
    (hfew : ((backTo cpos (starEach (e :: es) X.env)).all (fun x => !x.1) && (backToKw cpos (keywordEach [] X.env)).all (fun x => x.1.isSome) && decide ((e :: es).length + ([] : List Keyword).length + (if ([] : List Keyword).isEmpty then 0 else 1) < 30)) = true := by rfl)
    (hline : (apos.endLine == cpos.line) = true := by rfl) (hs : starEach (e :: es) X.env = (false, eval e X.env) :: starEach es X.env := by rfl) (hplain : (backTo cpos (starEach es X.env)).any (·.1) = false := by rfl) :
    PE X (.Call (.Attribute o name apos) (e :: es) [] cpos) (tBM K T r to t) := h ▸ pe_bm pa slot hty hm ho ha hbase hfew hline hs hplain
end
/-! x op= e -/
theorem aug {i : Nat} {te : TE} {ti : TIp} : tAug i te ti D σ H = tVar i σ H fun x H0 => te σ H0 fun y H1 => ti x y H1 fun z H2 => D.nx (σ.set i (some z)) H2 := rfl
theorem ipi {f : Int → Int → Int} {i j : Int} : ipI f (.int i) (.int j) H Q = Q (.int (f i j)) H := propext ⟨fun ⟨_, _, e1, e2, h⟩ => by cases e1; cases e2; exact h, fun h => ⟨i, j, rfl, rfl, h⟩⟩
/-! while -/
theorem wh {c : TT} {b : TS} (W : Nat → L2.St → Hp → Prop) (m0 : Nat) (h0 : W m0 σ H)
    (hs : ∀ m σ H, W m σ H → c σ H fun k H1 => if k = true then ∃ N : L2.St → Hp → Prop, (∀ σ' H', N σ' H' → ∃ m', m' < m ∧ W m' σ' H') ∧ b { D with nx := N, ct := N, bk := D.nx } σ H1 else D.nx σ H1) : tWhile c b D σ H := ⟨W, ⟨m0, h0⟩, hs⟩
end
section
variable {K : PySem.W.Frag} {σ : L2.St} {H : Hp} {Q : VK} {tt : TT} {te : TE} {vs : List Nat}
/-- a comprehension whose test and element only look -/
theorem lcP {a Dl : Addr} {xs : List V} {j : Nat} (bf : V → Bool) (vf : V → V) (h : H a = some (.lst xs)) (hD : H Dl = none) (hz : xs.length ≤ 100000) (hw : ∀ x, wipe ((wipe σ vs).set j (some x)) vs = wipe σ vs)
    (ht : ∀ x, x ∈ xs → ∀ (l : List V) (R : Bool → Hp → Prop), R (bf x) (upd H Dl (.lst l)) → tt ((wipe σ vs).set j (some x)) (upd H Dl (.lst l)) R)
    (he : ∀ x, x ∈ xs → bf x = true → ∀ (l : List V) (R : VK), R (vf x) (upd H Dl (.lst l)) → te ((wipe σ vs).set j (some x)) (upd H Dl (.lst l)) R)
    (q : Q (.ref Dl) (upd H Dl (.lst ((xs.filter bf).map vf)))) : LC (Itl K a) (gName j) tt te vs σ H Dl Q := by
  have hne : a ≠ Dl := ne_of_none h hD
  refine lc_list (xs := xs) (fun i H' => H' = upd H Dl (.lst (((xs.take i).filter bf).map vf))) rfl (fun i H' hi e => by rw [e]; exact SqL.of (u_ne hne h)) (fun i x H' hx e => ?_) (fun H' e => ?_)
  · subst e
    have et : xs.take (i + 1) = xs.take i ++ [x] := by rw [List.take_succ, hx]; rfl
    refine ⟨hw x, ht x (List.mem_of_getElem? hx) _ _ ?_⟩
    cases e : bf x with
    | false =>
      show _ = _
      rw [et, List.filter_append]
      simp [e]
    | true =>
      refine he x (List.mem_of_getElem? hx) e _ _ ⟨_, upd_same, ?_, ?_⟩
      · have h1 := List.length_filter_le bf (xs.take i)
        rw [List.length_map]
        have h2 : (xs.take i).length ≤ xs.length := by rw [List.length_take]; omega
        exact Nat.lt_of_le_of_lt (Nat.le_trans h1 (Nat.le_trans h2 hz)) (by decide)
      · rw [upd_upd, et, List.filter_append, List.map_append]
        simp [e]
  · subst e
    rw [List.take_length]
    exact q
end
theorem sz_lt {n : Nat} (h : n < 100000) : n < sizeLine := Nat.lt_of_lt_of_le h (by decide)
theorem sz_le {n : Nat} (h : n ≤ 100000) : n ≤ sizeLine := Nat.le_trans h (by decide)
/-- what H told stands -/
def Ex (H H' : Hp) : Prop := ∀ b o, H b = some o → H' b = some o
theorem Ex.refl {H : Hp} : Ex H H := fun _ _ h => h
theorem Ex.trans {H H1 H2 : Hp} (a : Ex H H1) (b : Ex H1 H2) : Ex H H2 := fun x o h => b x o (a x o h)
theorem Ex.new {H H1 : Hp} {p : Addr} {o : HO} (a : Ex H H1) (n : H1 p = none) : Ex H (upd H1 p o) := fun b u h => u_ne (ne_of_none (a b u h) n) (a b u h)
theorem Ex.mut {H H1 : Hp} {p : Addr} {o : HO} (a : Ex H H1) (n : H p = none) : Ex H (upd H1 p o) := fun b u h => u_ne (ne_of_none h n) (a b u h)
theorem Ex.free {H H1 : Hp} {p : Addr} (a : Ex H H1) (n : H1 p = none) : H p = none := by
  cases e : H p with
  | none => rfl
  | some o => rw [a p o e] at n; cases n
theorem Ex.ext {p : Addr} {H H' : Hp} (a : Ex H H') : Ext p H H' := fun b o _ h => a b o h
theorem PoolAt.ex {H H' : Hp} {p : Addr} (h : PoolAt H p) (a : Ex H H') : PoolAt H' p := by
  obtain ⟨l, ns, i, x, c, e, h1, h2, h3⟩ := h
  exact ⟨l, ns, i, x, c, e, a _ _ h1, a _ _ h2, h3⟩
theorem Ext.new' {p l : Addr} {o : HO} {H H1 : Hp} (a : Ext p H H1) (n : H1 l = none) : Ext p H (upd H1 l o) := fun b u hb h => u_ne (ne_of_none (a b u hb h) n) (a b u hb h)
theorem Ext.mut {p l : Addr} {o : HO} {H H1 : Hp} (a : Ext p H H1) (n : H l = none) : Ext p H (upd H1 l o) := fun b u hb h => u_ne (ne_of_none h n) (a b u hb h)
end Wp
/-! Wp2: what the laws' common helpers promise; count of a list; odds and ends. -/
namespace Wp
open PySem L2 PyProof.Rows
section
variable {X : Cx}
/-- how often a flat thing stands in a list of flat things: some number up to the length -/
def rCntB (K : PySem.W.Frag) : V → List V → Hp → VK → Prop := fun x xs H Q => ∃ (a : Addr) (ys : List V) (y : V), x = V.ref a ∧ xs = [y] ∧ SqL K H a ys ∧ flatV y = true ∧ ys.all flatV = true ∧ ∀ n : Nat, n ≤ ys.length → Q (.int (n : Int)) H
theorem mt_countS : MtR X "list.count" (rCntB X.K) := by
  intro pins s σ H x xs v us Q I rx rxs h
  obtain ⟨a, ys, y, rfl, rfl, hs, fy, fys, q⟩ := h
  cases rx
  cases rxs with
  | cons ry rt =>
    rename_i uy ut
    cases rt
    obtain ⟨its, rv, ⟨⟨cls, dd, data, sl⟩, n, ho, hc, hdn, hd⟩, hlen⟩ := I.list hs
    simp only at hc hd
    subst hc hd
    refine call_meets PySem.F.slot_list_count ⟨_, ho, rfl⟩ PySem.F.entry_list_count (PySem.F.args_list_count_2 _ _)
      (SeqAt.list_countAt a its.toArray n dd sl uy (eqU y)) ⟨ho, fun u' hu' => mem_eqAt ry fy rv fys u' (by simpa using hu'), ?_⟩
    have hc := List.countP_le_length (p := eqU y) (l := its.toArray.toList)
    have e2 : its.toArray.toList.length = ys.length := by have := rv.length; simp; omega
    exact ⟨.int _, H, I.tok _, ⟨_, rfl⟩, q _ (by omega)⟩
theorem mt_countK {K : PySem.W.Frag} (h : X.K = K) : MtR X "list.count" (rCntB K) := h ▸ mt_countS
end
theorem cntb {K : PySem.W.Frag} {H : Hp} {Q : VK} {a : Addr} {ys : List V} {y : V} (h : H a = some (.lst ys)) (fy : flatV y = true) (fys : ys.all flatV = true) (q : ∀ n : Nat, n ≤ ys.length → Q (.int (n : Int)) H) : rCntB K (.ref a) [y] H Q := ⟨a, ys, y, rfl, rfl, SqL.of h, fy, fys, q⟩
theorem all_flat_str (cs : List Str) : (cs.map V.str).all flatV = true := by
  rw [List.all_eq_true]
  intro x hx
  obtain ⟨c, _, rfl⟩ := List.mem_map.mp hx
  rfl
theorem cutV_map {α : Type} (f : α → V) (xs : List α) (lo hi : Option Int) : ∃ ys : List α, cutV (xs.map f) lo hi = ys.map f ∧ (∀ y, y ∈ ys → y ∈ xs) ∧ ys.length ≤ xs.length := by
  refine ⟨(xs.drop (HT.sIx (xs.map f).length 0 lo)).take (HT.sIx (xs.map f).length (xs.map f).length hi - HT.sIx (xs.map f).length 0 lo), ?_, fun y h => List.mem_of_mem_drop (List.mem_of_mem_take h), ?_⟩
  · unfold cutV
    rw [List.map_take, List.map_drop]
  · rw [List.length_take, List.length_drop]
    omega
theorem rep_map {α : Type} (f : α → V) (xs : List α) (n : Nat) : (List.replicate n (xs.map f)).flatten = ((List.replicate n xs).flatten).map f := by
  rw [List.map_flatten, List.map_replicate]
theorem rep_len {α : Type} (xs : List α) (n : Nat) : (List.replicate n xs).flatten.length = n * xs.length := by
  rw [List.length_flatten, List.map_replicate, List.sum_replicate_nat]
theorem rep_mem {α : Type} {xs : List α} {n : Nat} {y : α} (h : y ∈ (List.replicate n xs).flatten) : y ∈ xs := by
  obtain ⟨l, hl, hy⟩ := List.mem_flatten.mp h
  rw [List.eq_of_mem_replicate hl] at hy
  exact hy
/-- the pool at p, its list at l -/
def PoolL (H : Hp) (p l : Addr) : Prop := ∃ ns i x c e, PoolC H p l ns i x c e
section
variable {H H' H1 : Hp} {p l b : Addr} {o : HO}
theorem PoolL.ne (h : PoolL H p l) : l ≠ p := by
  obtain ⟨ns, i, x, c, e, h⟩ := h
  exact h.ne
theorem PoolL.upd (h : PoolL H p l) (n1 : b ≠ p) (n2 : b ≠ l) : PoolL (upd H b o) p l := by
  obtain ⟨ns, i, x, c, e, h1, h2, h3⟩ := h
  exact ⟨ns, i, x, c, e, u_ne n1.symm h1, u_ne n2.symm h2, h3⟩
theorem PoolL.nep (h : PoolL H p l) (n : H b = none) : b ≠ p := by
  obtain ⟨ns, i, x, c, e, h1, h2, h3⟩ := h
  exact (ne_of_none h1 n).symm
theorem PoolL.nel (h : PoolL H p l) (n : H b = none) : b ≠ l := by
  obtain ⟨ns, i, x, c, e, h1, h2, h3⟩ := h
  exact (ne_of_none h2 n).symm
theorem PoolL.new (h : PoolL H p l) (n : H b = none) : PoolL (L2.upd H b o) p l := h.upd (h.nep n) (h.nel n)
theorem PoolL.ex (h : PoolL H p l) (a : Ex H H') : PoolL H' p l := by
  obtain ⟨ns, i, x, c, e, h1, h2, h3⟩ := h
  exact ⟨ns, i, x, c, e, a _ _ h1, a _ _ h2, h3⟩
theorem But.trans (a : But p H H1) (b : But p H1 H') : But p H H' := fun c n => (b c n).trans (a c n)
theorem But.get (a : But p H H1) (n : b ≠ p) (h : H b = some o) : H1 b = some o := (a b n).trans h
end
def spPoolL (K : PySem.W.Frag) : Sp := fun vs H Q _ => ∃ (a : Addr) (ns : List Int), vs = [.ref a] ∧ SqL K H a (ns.map V.int) ∧ ∀ p l H', H p = none → H l = none → Ex H H' → PoolL H' p l → Q (.ref p) H'
def spDrawL : Sp := fun vs H Q _ => ∃ (p : Addr) (m : Int), vs = [.ref p, .int m] ∧ ∃ l, PoolL H p l ∧ 0 < m ∧ m.natAbs < 2 ^ 200 ∧ ∀ r H', 0 ≤ r → r < m → PoolL H' p l → But p H H' → Q (.int r) H'
def spPick : Sp := fun vs H Q _ => ∃ (p a : Addr), vs = [.ref p, .ref a] ∧ ∃ (l : Addr) (xs : List V), PoolL H p l ∧ H a = some (.lst xs) ∧ a ≠ p ∧ 0 < xs.length ∧ xs.length < 2 ^ 60 ∧ ∀ (i : Nat) (x : V) (H' : Hp), xs[i]? = some x → PoolL H' p l → But p H H' → Q x H'
def spRare : Sp := fun vs H Q _ => ∃ (p : Addr) (m : Int), vs = [.ref p, .int m] ∧ ∃ l, PoolL H p l ∧ 0 < m ∧ m < 2 ^ 60 ∧ ∀ b H', PoolL H' p l → But p H H' → Q (.bl b) H'
def spFew : Sp := fun vs H Q _ => ∃ (p : Addr) (u m : Int), vs = [.ref p, .int u, .int m] ∧ ∃ l, PoolL H p l ∧ 0 ≤ u ∧ u ≤ m ∧ m < 2 ^ 60 ∧ ∀ r H', 0 ≤ r → r ≤ m → PoolL H' p l → But p H H' → Q (.int r) H'
/-- what is known of a heap on the way: the pool, what stood, a list of what stands where -/
structure SS (p l : Addr) (H0 H : Hp) (L : List (Addr × HO)) : Prop where
  pool : PoolL H p l
  ext : Ext p H0 H
  has : ∀ e, e ∈ L → e.1 ≠ p ∧ H e.1 = some e.2
section
variable {p l b a : Addr} {H0 H H' : Hp} {L : List (Addr × HO)} {o : HO}
theorem SS.first (h : PoolL H p l) : SS p l H H [] := ⟨h, Ext.refl, fun e he => by cases he⟩
theorem SS.add (S : SS p l H0 H L) (n : a ≠ p) (h : H a = some o) : SS p l H0 H ((a, o) :: L) := ⟨S.pool, S.ext, fun e he => by
  rcases List.mem_cons.mp he with rfl | he
  · exact ⟨n, h⟩
  · exact S.has e he⟩
theorem SS.new (S : SS p l H0 H L) (n : H b = none) (o : HO) : SS p l H0 (upd H b o) ((b, o) :: L) := ⟨S.pool.new n, S.ext.new' n, fun e he => by
  rcases List.mem_cons.mp he with rfl | he
  · exact ⟨S.pool.nep n, upd_same⟩
  · exact ⟨(S.has e he).1, u_ne (ne_of_none (S.has e he).2 n) (S.has e he).2⟩⟩
theorem SS.draw (S : SS p l H0 H L) (h : PoolL H' p l) (bt : But p H H') : SS p l H0 H' L := ⟨h, S.ext.trans bt.ext, fun e he => ⟨(S.has e he).1, bt.get (S.has e he).1 (S.has e he).2⟩⟩
theorem SS.step (S : SS p l H0 H L) (h : PoolL H' p l) (x : Ext p H H') : SS p l H0 H' L := ⟨h, S.ext.trans x, fun e he => ⟨(S.has e he).1, x _ _ (S.has e he).1 (S.has e he).2⟩⟩
theorem SS.at (S : SS p l H0 H L) {i : Nat} (h : L[i]? = some (a, o)) : H a = some o := (S.has _ (List.mem_of_getElem? h)).2
theorem SS.ne (S : SS p l H0 H L) {i : Nat} (h : L[i]? = some (a, o)) : a ≠ p := (S.has _ (List.mem_of_getElem? h)).1
theorem SS.less (S : SS p l H0 H L) {L' : List (Addr × HO)} (h : ∀ e, e ∈ L' → e ∈ L) : SS p l H0 H L' := ⟨S.pool, S.ext, fun e he => S.has e (h e he)⟩
end
/-- what is known of a heap on the way, without a pool -/
structure KK (H0 H : Hp) (L : List (Addr × HO)) : Prop where
  ext : Ex H0 H
  has : ∀ e, e ∈ L → H e.1 = some e.2
section
variable {b a : Addr} {H0 H H' : Hp} {L : List (Addr × HO)} {o : HO}
theorem KK.first : KK H H [] := ⟨Ex.refl, fun e he => by cases he⟩
theorem KK.add (S : KK H0 H L) (h : H a = some o) : KK H0 H ((a, o) :: L) := ⟨S.ext, fun e he => by
  rcases List.mem_cons.mp he with rfl | he
  · exact h
  · exact S.has e he⟩
theorem KK.new (S : KK H0 H L) (n : H b = none) (o : HO) : KK H0 (upd H b o) ((b, o) :: L) := ⟨S.ext.new n, fun e he => by
  rcases List.mem_cons.mp he with rfl | he
  · exact upd_same
  · exact u_ne (ne_of_none (S.has e he) n) (S.has e he)⟩
theorem KK.step (S : KK H0 H L) (x : Ex H H') : KK H0 H' L := ⟨S.ext.trans x, fun e he => x _ _ (S.has e he)⟩
theorem KK.at (S : KK H0 H L) {i : Nat} (h : L[i]? = some (a, o)) : H a = some o := S.has _ (List.mem_of_getElem? h)
theorem KK.less (S : KK H0 H L) {L' : List (Addr × HO)} (h : ∀ e, e ∈ L' → e ∈ L) : KK H0 H L' := ⟨S.ext, fun e he => S.has e (h e he)⟩
end
/-! errors made, their fields stored and read -/
def rMk (C : Addr) (sp : Sp) (vs : List V) (H1 : Hp) (Q : XK) : Prop := vs.length ≤ 1000 ∧ ∀ a, H1 a = none → sp (.ref a :: vs) (upd H1 a (exo a C none))
  (fun v H2 => v = .non ∧ ∃ (d : Addr) (fs : List (Str × V)), H2 a = some (exo a C (some d)) ∧ H2 d = some (exd d fs) ∧ H1 d = none ∧ Q (.ref C) (some d) (upd (del H2 a) d (.xd fs))) (fun _ _ _ => False)
section
variable {K : PySem.W.Frag} {σ : L2.St} {H : Hp} {Q : VK} {D : Ends}
theorem mko {C : Addr} {sp : Sp} {ta : TA} {R : XK} : tMkO C sp [] ta σ H R = ta σ H fun vs H1 => rMk C sp vs H1 R := by
  unfold tMkO rMk
  simp only [List.append_nil]
def rOst (K : PySem.W.Frag) (f : Str) (x y : V) (H2 : Hp) (R : Hp → Prop) : Prop := ∃ a C : Addr, x = .ref a ∧ OexC K C ∧ PySem.W.findIn K (.ref C) f = some none ∧
  ((H2 a = some (exo a C none) ∧ ∀ dx, H2 dx = none → dx ≠ a → R (upd (upd H2 dx (exd dx [(f, y)])) a (exo a C (some dx)))) ∨
    ∃ (dx : Addr) (fs : List (Str × V)), H2 a = some (exo a C (some dx)) ∧ H2 dx = some (exd dx fs) ∧ fs.length ≤ 900 ∧ R (upd H2 dx (exd dx ((f, y) :: fs))))
theorem ost {f : Str} {to te : TE} : tOst K f to te D σ H = te σ H fun y H1 => to σ H1 fun x H2 => rOst K f x y H2 (D.nx σ) := rfl
def rXf (a : Addr) (cls : Value) (d : Option Addr) (C : Addr) (f : Str) (x : V) (H1 : Hp) (Q : VK) : Prop := x = .ref a ∧ cls = .ref C ∧ ∃ (dd : Addr) (fs : List (Str × V)) (v : V), d = some dd ∧ H1 dd = some (.xd fs) ∧ fs.lookup f = some v ∧ Q v H1
theorem xf {a C : Addr} {cls : Value} {d : Option Addr} {f : Str} {te : TE} : tXf a cls d C f te σ H Q = te σ H fun x H1 => rXf a cls d C f x H1 Q := rfl
theorem callS {sp : Sp} {E : L2.St → XK} {t : TA} : tCallS sp E t σ H Q = t σ H fun vs H1 => sp vs H1 Q (E σ) := rfl
end
theorem ps_ostK {X : Cx} {K : PySem.W.Frag} {o e : Expr} {to te : TE} {f : Str} {p' pos : Pos} (h : X.K = K) (ho : PE X o to) (he : PE X e te) (hs : swapsWith e (some (.Attribute o f p')) pos.line X.env = pure false := by rfl) : PS X (.Assign [.Attribute o f p'] e pos) (tOst K f to te) := h ▸ ps_ost ho he hs
theorem Ext.free {p b : Addr} {H H' : Hp} (a : Ext p H H') (n : H' b = none) (h : b ≠ p) : H b = none := by
  cases e : H b with
  | none => rfl
  | some o => rw [a b o h e] at n; cases n
end Wp
/-! Wp4: own instances (made, their fields stored and read, methods), dicts with tuples as keys, sum, zip in a comprehension. -/
namespace Wp
open PySem L2
section
variable {K : PySem.W.Frag} {σ : L2.St} {H : Hp} {Q : VK} {D : Ends}
def rFld (K : PySem.W.Frag) (f : Str) (x : V) (H1 : Hp) (Q : VK) : Prop := ∃ a C dx fs v, x = .ref a ∧ H1 a = some (.ins C dx fs) ∧ Cls K C ∧ NoAttr K C f ∧ fs.lookup f = some v ∧ Q v H1
theorem fld {f : Str} {ta : TE} : tFld K ta f σ H Q = ta σ H fun x H1 => rFld K f x H1 Q := rfl
theorem rfld {f : Str} {a C dx : Addr} {fs : List (Str × V)} {v : V} (h : H a = some (.ins C dx fs)) (c : Cls K C) (n : NoAttr K C f) (l : fs.lookup f = some v) (q : Q v H) : rFld K f (.ref a) H Q := ⟨a, C, dx, fs, v, rfl, h, c, n, l, q⟩
def rSfld (K : PySem.W.Frag) (f : Str) (x y : V) (H2 : Hp) (R : Hp → Prop) : Prop := ∃ a C dx fs, x = .ref a ∧ H2 a = some (.ins C dx fs) ∧ Cls K C ∧ NoAttr K C f ∧ fs.length < 1000 ∧ R (upd H2 a (.ins C dx (putF f y fs)))
theorem sfld {f : Str} {ta tv : TE} : sFld K ta tv f D σ H = tv σ H fun y H1 => ta σ H1 fun x H2 => rSfld K f x y H2 (D.nx σ) := rfl
theorem rsfld {f : Str} {a C dx : Addr} {fs : List (Str × V)} {y : V} {R : Hp → Prop} (h : H a = some (.ins C dx fs)) (c : Cls K C) (n : NoAttr K C f) (z : fs.length < 1000) (q : R (upd H a (.ins C dx (putF f y fs)))) : rSfld K f (.ref a) y H R := ⟨a, C, dx, fs, rfl, h, c, n, z, q⟩
def rMake (C : Addr) (sp : Sp) (E : XK) (vs : List V) (H1 : Hp) (Q : VK) : Prop := ∀ x dx, H1 x = none → H1 dx = none → dx ≠ x → sp (.ref x :: vs) (upd (upd H1 dx (.own x)) x (.ins C dx [])) (fun v H2 => v = .non ∧ Q (.ref x) H2) E
theorem make {C : Addr} {sp : Sp} {E : XK} {t : TA} : tMake C sp [] E t σ H Q = t σ H fun vs H1 => rMake C sp E vs H1 Q := by
  unfold tMake rMake
  simp only [List.append_nil]
def rMeth (m : Str) (sp : Sp) (E : XK) (t : TA) (σ : L2.St) (x : V) (H1 : Hp) (Q : VK) : Prop := ∃ (a C dx : Addr) (fs : List (Str × V)), x = .ref a ∧ H1 a = some (.ins C dx fs) ∧ fs.lookup m = none ∧ t σ H1 fun vs H2 => sp (x :: vs) H2 Q E
def rMethC (C : Addr) (m : Str) (sp : Sp) (E : XK) (t : TA) (σ : L2.St) (x : V) (H1 : Hp) (Q : VK) : Prop := ∃ (a dx : Addr) (fs : List (Str × V)), x = .ref a ∧ H1 a = some (.ins C dx fs) ∧ fs.lookup m = none ∧ t σ H1 fun vs H2 => sp (x :: vs) H2 Q E
theorem meth {C : Addr} {m : Str} {sp : Sp} {E : XK} {ta : TE} {t : TA} : tMeth C m sp [] E ta t σ H Q = ta σ H fun x H1 => rMethC C m sp E t σ x H1 Q := by
  unfold tMeth rMethC
  simp only [List.append_nil]
theorem rmeth {C a dx : Addr} {m : Str} {sp : Sp} {E : XK} {t : TA} {fs : List (Str × V)} (h : H a = some (.ins C dx fs)) (n : fs.lookup m = none) (q : t σ H fun vs H2 => sp (.ref a :: vs) H2 Q E) : rMethC C m sp E t σ (.ref a) H Q := ⟨a, dx, fs, rfl, h, n, q⟩
/-! dicts -/
def rDGet (x y : V) (H2 : Hp) (Q : VK) : Prop := ∃ a v, x = .ref a ∧ DGet H2 a y (some v) ∧ Q v H2
theorem dget {td ty : TE} : tDGet td ty σ H Q = td σ H fun x H1 => ty σ H1 fun y H2 => rDGet x y H2 Q := rfl
def rDNot (y x : V) (H2 : Hp) (Q : VK) : Prop := ∃ a o, x = .ref a ∧ DGet H2 a y o ∧ Q (.bl (!o.isSome)) H2
theorem dnot {td ty : TE} : tDNotIn ty td σ H Q = ty σ H fun y H1 => td σ H1 fun x H2 => rDNot y x H2 Q := rfl
def rDIn (y x : V) (H2 : Hp) (Q : VK) : Prop := ∃ a o, x = .ref a ∧ DGet H2 a y o ∧ Q (.bl o.isSome) H2
theorem din {td ty : TE} : tDIn ty td σ H Q = ty σ H fun y H1 => td σ H1 fun x H2 => rDIn y x H2 Q := rfl
def rDPut (x y v : V) (H3 : Hp) (R : Hp → Prop) : Prop := ∃ a H4, x = .ref a ∧ DPut H3 a y v H4 ∧ R H4
theorem dput {td ty tv : TE} : sDPut td ty tv D σ H = tv σ H fun v H1 => td σ H1 fun x H2 => ty σ H2 fun y H3 => rDPut x y v H3 (D.nx σ) := rfl
theorem dnewT : tDNewT σ H Q = ∀ p, H p = none → Q (.ref p) (upd H p (.dT [])) := rfl
theorem rdgetT {a b : Addr} {kvs : List (List Key × V)} {k : List Key} {v : V} (h : H a = some (.dT kvs)) (hb : H b = some (.tup (k.map kV))) (e : valV kvs k = some v) (q : Q v H) : rDGet (.ref a) (.ref b) H Q := ⟨a, v, rfl, e ▸ DGet.t h hb, q⟩
theorem rdnotT {a b : Addr} {kvs : List (List Key × V)} {k : List Key} (h : H a = some (.dT kvs)) (hb : H b = some (.tup (k.map kV))) (q : Q (.bl (!(valV kvs k).isSome)) H) : rDNot (.ref b) (.ref a) H Q := ⟨a, _, rfl, DGet.t h hb, q⟩
theorem rdputT {a b : Addr} {kvs : List (List Key × V)} {k : List Key} {v : V} {R : Hp → Prop} (h : H a = some (.dT kvs)) (hb : H b = some (.tup (k.map kV))) (hl : kvs.length < sizeLine) (q : R (upd H a (.dT (putK kvs k v)))) : rDPut (.ref a) (.ref b) v H R := ⟨a, _, rfl, DPut.t h hb hl, q⟩
/-! sum -/
theorem rsum {a : Addr} {ns : List Int} (h : H a = some (.lst (ns.map V.int))) (q : Q (.int ns.sum) H) : rSum K [V.ref a] H Q := ⟨a, ns, rfl, SqL.of h, q⟩
/-! targets that are tuples -/
def rTup (K : PySem.W.Frag) (n : Nat) (t : TGs) (σ : L2.St) (v : V) (H : Hp) (R : L2.St → Hp → Prop) : Prop := ∃ a xs, v = .ref a ∧ SqT K H a xs ∧ xs.length = n ∧ t xs σ H R
/-! zip -/
theorem izip {ta : TA} {R : It → Hp → Prop} : iZip K ta σ H R = ta σ H fun vs H1 => ∃ a b xs ys, vs = [.ref a, .ref b] ∧ SqL K H1 a xs ∧ SqL K H1 b ys ∧ R (Itz K a b) H1 := rfl
theorem lcZ {a b Dl : Addr} {xs ys : List V} {g : TG} {tt : TT} {te : TE} {vs : List Nat} (hl : xs.length = ys.length) (Pv : Nat → Hp → Prop) (h0 : Pv 0 (upd H Dl (.lst []))) (hq : ∀ i H, Pv i H → SqL K H a xs ∧ SqL K H b ys)
    (hs : ∀ (i : Nat) (x y : V) (T : Addr) (H : Hp), xs[i]? = some x → ys[i]? = some y → Pv i H → H T = none → g (.ref T) (wipe σ vs) (upd H T (.tup [x, y])) fun σ2 H2 => wipe σ2 vs = wipe σ vs ∧ tt σ2 H2 fun c H3 =>
      if c = true then te σ2 H3 fun z H4 => ∃ acc, H4 Dl = some (.lst acc) ∧ acc.length < sizeLine ∧ Pv (i + 1) (upd H4 Dl (.lst (acc ++ [z]))) else Pv (i + 1) H3)
    (hd : ∀ H, Pv xs.length H → Q (.ref Dl) H) : LC (Itz K a b) g tt te vs σ H Dl Q := by
  refine ⟨fun i m H => m = xs.length - i ∧ i ≤ xs.length ∧ Pv i H, ⟨xs.length, rfl, Nat.zero_le _, h0⟩, ?_⟩
  rintro i m H ⟨rfl, hi, p⟩
  obtain ⟨qx, qy⟩ := hq i H p
  by_cases hlt : i < xs.length
  · have hx : xs[i]? = some xs[i] := List.getElem?_eq_getElem hlt
    have hlt2 : i < ys.length := by omega
    have hy : ys[i]? = some ys[i] := List.getElem?_eq_getElem hlt2
    refine .inr ⟨⟨xs, ys, _, _, qx, qy, hx, hy⟩, Pv (i + 1), fun H' p' => ⟨xs.length - (i + 1), by omega, rfl, hlt, p'⟩, fun v H' y => ?_⟩
    obtain ⟨T, x', y', rfl, hT, rfl, f1, f2⟩ := y
    exact hs i x' y' T H (f1 xs qx) (f2 ys qy) p hT
  · have e : i = xs.length := by omega
    subst e
    exact .inl ⟨⟨xs, ys, qx, qy, Or.inl (Nat.le_refl _)⟩, hd H p⟩
end
section
variable {X : Cx} {K : PySem.W.Frag}
theorem pe_fldK {e : Expr} {f : Str} {pos : Pos} {ta : TE} (h : X.K = K) (he : PE X e ta) (hb : attributeBase e f X.env (eval e X.env) = eval e X.env := by rfl) : PE X (.Attribute e f pos) (tFld K ta f) := h ▸ pe_fld he hb
theorem ps_fldK {o value : Expr} {f : Str} {pos pos' : Pos} {ta tv : TE} (h : X.K = K) (ha : PE X o ta) (hv : PE X value tv) (hs : swapsWith value (some (.Attribute o f pos')) pos.line X.env = pure false := by rfl) : PS X (.Assign [.Attribute o f pos'] value pos) (sFld K ta tv f) := h ▸ ps_fld ha hv hs
theorem cr_sumK (h : X.K = K) (hc : X.calm = true) : CallR X (.builtin "sum") (rSum K) := h ▸ cr_sum hc
theorem pg_tupK {es : List Expr} {k : Nat} {pos : Pos} {t : TGs} {n : Nat} (h : X.K = K) (hc : X.calm = true) (hg : PGs X es t) (hn : (assignEach es X.env).length = n := by rfl) (hst : (assignEach es X.env).findIdx? (·.1) = none := by rfl) : PG X (.Tuple es k pos) (gTup K n t) := h ▸ pg_tup hc hg hn hst
theorem pi_zipK {e e2 : Expr} {ta : TA} {p pos tpos : Pos} {elts : List Expr} {kk : Nat} (h : X.K = K) (hg : Gl X "zip") (hm : X.mg "zip" = none) (ha : PA X [e, e2] ta)
    (hs : starEach [e, e2] X.env = (false, eval e X.env) :: starEach [e2] X.env := by rfl) (hpl : (backTo pos (starEach [e2] X.env)).any (·.1) = false := by rfl) :
    PI X (.Tuple elts kk tpos) (.Call (.Name "zip" p) [e, e2] [] pos) (iZip K ta) := h ▸ pi_zip hg hm ha hs hpl
end
/-- a class with its __init__, as others make instances of it -/
structure DefC (P : Program) (w : World) (K : PySem.W.Frag) (mg : Str → Option Value) (base : Heap) (k : Nat) (x : Str) (C : Addr) (ps : List Str) (sp : Sp) : Prop where
  ex : ∃ f fd, Mk K C f ∧ FnOk P w K mg base CX0 k f fd ps sp ∧ mg x = some (.ref C) ∧ Binds K fd ps []
theorem DefC.call {X : Cx} {k : Nat} {x : Str} {C : Addr} {ps : List Str} {sp : Sp} {e : Expr} {es : List Expr} {t : TA} {p pos : Pos} (G : DefC X.prog X.w X.K X.mg X.base k x C ps sp) (hr : Room (k + 1) X.A) (hg : Gl X x)
    (ha : PA X (e :: es) t) (hdb : (x == ("__debug__" : Str)) = false := by decide) (he : starEach (e :: es) X.env = (false, eval e X.env) :: starEach es X.env := by rfl) (hpl : (backTo pos (starEach es X.env)).any (·.1) = false := by rfl) :
    PE X (.Call (.Name x p) (e :: es) [] pos) (tMake C sp [] (fun _ _ _ => False) t) := by
  refine ⟨fun pins s σ H Q I h => ?_⟩
  obtain ⟨f, fd, M, F, hm, hb⟩ := G.ex
  exact (pe_make M F hr hg hm hb .nil (fun _ _ _ _ _ _ _ h => h.elim) ha hdb he hpl).run pins s σ H Q I h
/-- a method, as others call it -/
structure DefM (P : Program) (w : World) (K : PySem.W.Frag) (mg : Str → Option Value) (base : Heap) (k : Nat) (C : Addr) (m : Str) (ps : List Str) (sp : Sp) : Prop where
  ex : ∃ f fd, Cls K C ∧ Meth K C m f ∧ FnOk P w K mg base CX0 k f fd ps sp ∧ Binds K fd ps []
theorem DefM.call0 {X : Cx} {k : Nat} {C : Addr} {m : Str} {ps : List Str} {sp : Sp} {o : Expr} {ta : TE} {apos pos : Pos} {pl : Sem Bool} (G : DefM X.prog X.w X.K X.mg X.base k C m ps sp) (hr : Room k X.A) (ho : PE X o ta)
    (ht : eval (.Call (.Attribute o m apos) [] [] pos) X.env = (do
      let ov ← eval o X.env
      standAt apos.atName
      let (f, first) ← holding [ov] (getMethod ov m pl)
      callWith pos f first (backTo pos (starEach [] X.env)) (backToKw pos (keywordEach [] X.env))) := by rfl) :
    PE X (.Call (.Attribute o m apos) [] [] pos) (tMeth C m sp [] (fun _ _ _ => False) ta tNil) := by
  refine ⟨fun pins s σ H Q I h => ?_⟩
  obtain ⟨f, fd, c, hm, F, hb⟩ := G.ex
  exact (pe_meth0 ho c hm F hr hb .nil (fun _ _ _ _ _ _ _ h => h.elim) ht).run pins s σ H Q I h
section
variable {K : PySem.W.Frag} {σ : L2.St} {H : Hp} {Q : VK} {te : TE} {vs : List Nat}
/-- a comprehension over a list of known things, its element only looks -/
theorem lcM {α : Type} {a Dl : Addr} {j : Nat} (zs : List α) (u f : α → V) (h : H a = some (.lst (zs.map u))) (hD : H Dl = none) (hz : zs.length ≤ 100000) (hw : ∀ x, wipe ((wipe σ vs).set j (some x)) vs = wipe σ vs)
    (he : ∀ z, z ∈ zs → ∀ (l : List V) (R : VK), R (f z) (upd H Dl (.lst l)) → te ((wipe σ vs).set j (some (u z))) (upd H Dl (.lst l)) R)
    (q : Q (.ref Dl) (upd H Dl (.lst (zs.map f)))) : LC (Itl K a) (gName j) tYes te vs σ H Dl Q := by
  have hne : a ≠ Dl := ne_of_none h hD
  refine lc_list (xs := zs.map u) (fun i H' => H' = upd H Dl (.lst ((zs.take i).map f))) rfl (fun i H' hi e => by rw [e]; exact SqL.of (u_ne hne h)) (fun i x H' hx e => ?_) (fun H' e => ?_)
  · subst e
    rw [List.getElem?_map] at hx
    cases e : zs[i]? with
    | none => rw [e] at hx; cases hx
    | some z =>
      rw [e] at hx
      cases hx
      have et : zs.take (i + 1) = zs.take i ++ [z] := by rw [List.take_succ, e]; rfl
      refine ⟨hw _, ?_⟩
      show te _ _ _
      refine he z (List.mem_of_getElem? e) _ _ ⟨_, upd_same, ?_, ?_⟩
      · rw [List.length_map, List.length_take]
        exact Nat.lt_of_le_of_lt (Nat.le_trans (Nat.min_le_right _ _) hz) (by decide)
      · rw [upd_upd, et, List.map_append]
        rfl
  · subst e
    rw [List.length_map, List.take_length]
    exact q
end
end Wp
set_option maxHeartbeats 4000000
local macro_rules | `(tactic| walk_at "wp") => `(tactic| simp only [↓Wp.fld, ↓Wp.sfld, ↓Wp.make, ↓Wp.meth, ↓Wp.dget, ↓Wp.dnot, ↓Wp.din, ↓Wp.dput, ↓Wp.dnewT, ↓Wp.izip, ↓Wp.seq, ↓Wp.next, ↓Wp.asg, ↓Wp.gn, ↓Wp.gsub, ↓Wp.ret, ↓Wp.drop, ↓Wp.ifs, ↓Wp.brk, ↓Wp.cont, ↓Wp.op, ↓Wp.un, ↓Wp.cb, ↓Wp.call, ↓Wp.nil, ↓Wp.cons, ↓Wp.c, ↓Wp.ifx, ↓Wp.lst, ↓Wp.tup, ↓Wp.test, ↓Wp.tb, ↓Wp.tnot, ↓Wp.tand, ↓Wp.tor, ↓Wp.tandv, ↓Wp.torv, ↓Wp.tnotv, ↓Wp.chain, ↓Wp.bx, ↓Wp.i0, ↓Wp.i1, ↓Wp.u1, ↓Wp.eqi, ↓Wp.nei, ↓Wp.cabs, ↓Wp.cmax, ↓Wp.cmin, ↓Wp.cinti, ↓Wp.cintb, ↓Wp.isv_ii, ↓Wp.isv_ib, ↓Wp.for_, ↓Wp.lc_, ↓Wp.ilist, ↓Wp.itup, ↓Wp.irng1, ↓Wp.irng2, ↓Wp.rr1, ↓Wp.rr2, ↓Wp.tyes, ↓Wp.RunC, ↓Wp.RunL, ↓Wp.v0, ↓Wp.v1, ↓Wp.v2, ↓Wp.v3, ↓Wp.v4, ↓Wp.v5, ↓Wp.v6, ↓Wp.v7, ↓Wp.v8, ↓Wp.v9, ↓Wp.v10, ↓Wp.v11, ↓Wp.v12, ↓Wp.v13, ↓Wp.v14, ↓Wp.v15, ↓Wp.v16, ↓Wp.v17, ↓Wp.v18, ↓Wp.v19, ↓Wp.v20, ↓Wp.v21, ↓Wp.v22, ↓Wp.v23, ↓Wp.s0, ↓Wp.s1, ↓Wp.s2, ↓Wp.s3, ↓Wp.s4, ↓Wp.s5, ↓Wp.s6, ↓Wp.s7, ↓Wp.s8, ↓Wp.s9, ↓Wp.s10, ↓Wp.s11, ↓Wp.s12, ↓Wp.s13, ↓Wp.s14, ↓Wp.s15, ↓Wp.s16, ↓Wp.s17, ↓Wp.s18, ↓Wp.s19, ↓Wp.s20, ↓Wp.s21, ↓Wp.s22, ↓Wp.s23, ↓Wp.addi, ↓Wp.eqs, ↓Wp.nes, ↓Wp.isn, ↓Wp.notn, ↓Wp.ist, ↓Wp.tru, ↓Wp.tru_b, ↓Wp.sl, ↓Wp.nopart, ↓Wp.part, ↓Wp.rpart, ↓Wp.bm, ↓Wp.bm0, ↓Wp.aug, ↓Wp.ipi, ↓Wp.mko, ↓Wp.ost, ↓Wp.xf, ↓Wp.callS, Wp.n_i, Wp.n_s, Wp.n_b, Wp.n_r, Wp.n_n, Wp.t_i, Wp.t_s, Wp.t_n, Wp.t_r, Wp.t_b, List.append_nil, Int.zero_add, List.map_cons, List.map_nil, L2.wipe, List.foldl_cons, List.foldl_nil, List.cons_append, List.nil_append, L2.upd_upd, eq_self, decide_eq_true_eq, Bool.not_eq_true', decide_eq_false_iff_not, if_true, if_false, ite_true, ite_false, Bool.false_eq_true, Bool.true_eq_false, Bool.not_true, Bool.not_false, decide_true, decide_false, ↓reduceIte, Int.reduceToNat, Int.reducePow, Int.reduceMul, Int.reduceAdd, Int.reduceSub, Int.reduceNeg, Int.reduceDiv, Int.reduceMod, Int.reduceLT, Int.reduceLE, Int.reduceEq])
local macro_rules | `(tactic| walk_at "hp") => `(tactic| first | assumption | exact Wp.SS.at (i := 0) (by assumption) (by exact rfl) | exact Wp.SS.at (i := 1) (by assumption) (by exact rfl) | exact Wp.SS.at (i := 2) (by assumption) (by exact rfl) | exact Wp.SS.at (i := 3) (by assumption) (by exact rfl) | exact Wp.SS.at (i := 4) (by assumption) (by exact rfl) | exact Wp.SS.at (i := 5) (by assumption) (by exact rfl) | exact Wp.SS.at (i := 6) (by assumption) (by exact rfl) | exact Wp.SS.at (i := 7) (by assumption) (by exact rfl) | exact Wp.SS.at (i := 8) (by assumption) (by exact rfl) | exact Wp.SS.at (i := 9) (by assumption) (by exact rfl) | exact Wp.KK.at (i := 0) (by assumption) (by exact rfl) | exact Wp.KK.at (i := 1) (by assumption) (by exact rfl) | exact Wp.KK.at (i := 2) (by assumption) (by exact rfl) | exact Wp.KK.at (i := 3) (by assumption) (by exact rfl) | exact Wp.KK.at (i := 4) (by assumption) (by exact rfl) | exact Wp.KK.at (i := 5) (by assumption) (by exact rfl) | exact Wp.KK.at (i := 6) (by assumption) (by exact rfl) | exact Wp.KK.at (i := 7) (by assumption) (by exact rfl) | exact Wp.KK.at (i := 8) (by assumption) (by exact rfl) | exact Wp.KK.at (i := 9) (by assumption) (by exact rfl) | exact Wp.KK.at (i := 10) (by assumption) (by exact rfl) | exact Wp.KK.at (i := 11) (by assumption) (by exact rfl) | exact Wp.KK.at (i := 12) (by assumption) (by exact rfl) | exact Wp.KK.at (i := 13) (by assumption) (by exact rfl) | exact Wp.KK.at (i := 14) (by assumption) (by exact rfl) | exact Wp.KK.at (i := 15) (by assumption) (by exact rfl) | exact Wp.KK.at (i := 16) (by assumption) (by exact rfl) | exact Wp.KK.at (i := 17) (by assumption) (by exact rfl) | exact L2.upd_same | (refine Wp.u_ne ?_ ?_ <;> walk_at "hp") | exact L2.ne_of_none (by assumption) (by assumption) | exact (L2.ne_of_none (by assumption) (by assumption)).symm)
local macro_rules | `(tactic| walk_at "sz") => `(tactic| first | assumption | (simp only [List.length_cons, List.length_nil, List.length_map, List.length_append]; decide) | exact Wp.sz_lt (by simp only [List.length_cons, List.length_nil, List.length_map, List.length_append]; omega))
local macro_rules | `(tactic| walk_at "rd") => `(tactic| first | ((with_reducible refine' Wp.rsum ?h1 ?h3); (case h1 => walk_at "hp")) | ((with_reducible refine' Wp.ixal ?h1 ?h2 ?h3); (case h1 => walk_at "hp"); (case h2 => exact rfl)) | ((with_reducible refine' Wp.ixat ?h1 ?h2 ?h3); (case h1 => walk_at "hp"); (case h2 => exact rfl)) | ((with_reducible refine' Wp.ixl ?h1 ?h2 ?h3); (case h1 => walk_at "hp"); (case h2 => exact rfl)) | ((with_reducible refine' Wp.setl (j := 0) ?h1 ?h2 ?h3); (case h1 => walk_at "hp"); (case h2 => exact rfl)) | ((with_reducible refine' Wp.setl (j := 1) ?h1 ?h2 ?h3); (case h1 => walk_at "hp"); (case h2 => exact rfl)) | ((with_reducible refine' Wp.setl (j := 2) ?h1 ?h2 ?h3); (case h1 => walk_at "hp"); (case h2 => exact rfl)) | ((with_reducible refine' Wp.setl (j := 3) ?h1 ?h2 ?h3); (case h1 => walk_at "hp"); (case h2 => exact rfl)) | ((with_reducible refine' Wp.setl (j := 4) ?h1 ?h2 ?h3); (case h1 => walk_at "hp"); (case h2 => exact rfl)) | ((with_reducible refine' Wp.setl (j := 5) ?h1 ?h2 ?h3); (case h1 => walk_at "hp"); (case h2 => exact rfl)) | ((with_reducible refine' Wp.lenl ?h1 ?h3); (case h1 => walk_at "hp")) | ((with_reducible refine' Wp.lent ?h1 ?h3); (case h1 => walk_at "hp")) | ((with_reducible refine' Wp.ril ?h1 ?h3); (case h1 => walk_at "hp")) | ((with_reducible refine' Wp.rit ?h1 ?h3); (case h1 => walk_at "hp")) | ((with_reducible refine' Wp.tru_l ?h1 ?h3); (case h1 => walk_at "hp")) | ((with_reducible refine' Wp.mtl ?h1 ?h3); (case h1 => walk_at "hp")) | ((with_reducible refine' Wp.sll ?h1 ?h3); (case h1 => walk_at "hp")) | ((with_reducible refine' Wp.apd ?h1 ?h2 ?h3); (case h1 => walk_at "hp"); (case h2 => walk_at "sz")) | (with_reducible refine' Wp.isi_i (T := "int") Wp.kb_int_int ?h3) | (with_reducible refine' Wp.isi_i (T := "str") Wp.kb_int_str ?h3) | (with_reducible refine' Wp.isi_i (T := "bool") Wp.kb_int_bool ?h3) | (with_reducible refine' Wp.isi_i (T := "list") Wp.kb_int_list ?h3) | (with_reducible refine' Wp.isi_i (T := "tuple") Wp.kb_int_tuple ?h3) | (with_reducible refine' Wp.isi_s (T := "int") Wp.kb_str_int ?h3) | (with_reducible refine' Wp.isi_s (T := "str") Wp.kb_str_str ?h3) | (with_reducible refine' Wp.isi_s (T := "bool") Wp.kb_str_bool ?h3) | (with_reducible refine' Wp.isi_s (T := "list") Wp.kb_str_list ?h3) | (with_reducible refine' Wp.isi_s (T := "tuple") Wp.kb_str_tuple ?h3) | (with_reducible refine' Wp.isi_b (T := "int") Wp.kb_bool_int ?h3) | (with_reducible refine' Wp.isi_b (T := "str") Wp.kb_bool_str ?h3) | (with_reducible refine' Wp.isi_b (T := "bool") Wp.kb_bool_bool ?h3) | (with_reducible refine' Wp.isi_b (T := "list") Wp.kb_bool_list ?h3) | (with_reducible refine' Wp.isi_b (T := "tuple") Wp.kb_bool_tuple ?h3) | (with_reducible refine' Wp.isi_n (T := "int") Wp.kb_NoneType_int ?h3) | (with_reducible refine' Wp.isi_n (T := "str") Wp.kb_NoneType_str ?h3) | (with_reducible refine' Wp.isi_n (T := "bool") Wp.kb_NoneType_bool ?h3) | (with_reducible refine' Wp.isi_n (T := "list") Wp.kb_NoneType_list ?h3) | (with_reducible refine' Wp.isi_n (T := "tuple") Wp.kb_NoneType_tuple ?h3) | ((with_reducible refine' Wp.isi_l (T := "int") ?h1 Wp.kb_list_int ?h3); (case h1 => walk_at "hp")) | ((with_reducible refine' Wp.isi_l (T := "str") ?h1 Wp.kb_list_str ?h3); (case h1 => walk_at "hp")) | ((with_reducible refine' Wp.isi_l (T := "bool") ?h1 Wp.kb_list_bool ?h3); (case h1 => walk_at "hp")) | ((with_reducible refine' Wp.isi_l (T := "list") ?h1 Wp.kb_list_list ?h3); (case h1 => walk_at "hp")) | ((with_reducible refine' Wp.isi_l (T := "tuple") ?h1 Wp.kb_list_tuple ?h3); (case h1 => walk_at "hp")) | ((with_reducible refine' Wp.isi_t (T := "int") ?h1 Wp.kb_tuple_int ?h3); (case h1 => walk_at "hp")) | ((with_reducible refine' Wp.isi_t (T := "str") ?h1 Wp.kb_tuple_str ?h3); (case h1 => walk_at "hp")) | ((with_reducible refine' Wp.isi_t (T := "bool") ?h1 Wp.kb_tuple_bool ?h3); (case h1 => walk_at "hp")) | ((with_reducible refine' Wp.isi_t (T := "list") ?h1 Wp.kb_tuple_list ?h3); (case h1 => walk_at "hp")) | ((with_reducible refine' Wp.isi_t (T := "tuple") ?h1 Wp.kb_tuple_tuple ?h3); (case h1 => walk_at "hp")))
local macro_rules | `(tactic| walk_at "sc") => `(tactic| first | assumption | decide | exact ⟨by decide, by decide, by decide⟩ | exact Or.inr ⟨by decide, by decide⟩ | exact Or.inl ⟨by decide, by decide⟩ | (simp only [List.length_cons, List.length_nil]; decide) | exact L2.SqL.of (by walk_at "hp") | exact Wp.cmm (by decide) (by decide) (by decide) (by decide) | exact Wp.dvs (by decide) (by decide))
local macro_rules | `(tactic| walk_at "go") => `(tactic| repeat (first | walk_at "wp" | walk_at "rd" | (refine And.intro (by walk_at "sc") ?_) | (refine Exists.intro _ (And.intro (by walk_at "hp") (And.intro (by walk_at "sc") ?_)))))
local macro_rules | `(tactic| walk_at "gi") => `(tactic| repeat (first | walk_at "wp" | walk_at "rd" | (refine And.intro (by walk_at "sc") ?_) | (refine Exists.intro _ (And.intro (by walk_at "hp") (And.intro (by walk_at "sc") ?_))) | (refine Wp.ite_t (by first | assumption | omega | decide +kernel) ?_) | (refine Wp.ite_f (by first | assumption | omega | decide +kernel) ?_)))
namespace K41
open PySem L2 Wp
def top (i : Nat) : Stmt := PySem.Challenge.pw_galleywork_k41_evened_gaps.main.body.getD i (.Pass ⟨0, 0, 0, 0⟩)
abbrev s_wall : Stmt := top 0
abbrev s_even_gaps : Stmt := top 4
abbrev s_shares : Stmt := top 5
abbrev s_law_pool : Stmt := top 7
abbrev s_law_draw : Stmt := top 8
abbrev s_law_pick : Stmt := top 9
abbrev s_law_rare : Stmt := top 10
abbrev s_law_few : Stmt := top 11
abbrev s_law_same : Stmt := top 12
abbrev s_law_int : Stmt := top 13
abbrev s_law_gaps : Stmt := top 14
abbrev s_law_slack : Stmt := top 15
abbrev s_law_glues : Stmt := top 16
abbrev s_law_dealt : Stmt := top 17
abbrev s_law : Stmt := top 18
theorem sc_wall : FnScope ["k"] ["k"] (defScope s_wall) := ⟨rfl, rfl, rfl, by decide +kernel, rfl, by decide +kernel, by decide +kernel⟩
theorem sc_even_gaps : FnScope ["glues", "slack", "stretching", "shares", "glue", "share"] ["glues", "slack", "stretching"] (defScope s_even_gaps) := ⟨rfl, rfl, rfl, by decide +kernel, rfl, by decide +kernel, by decide +kernel⟩
theorem sc_shares : FnScope ["parts", "amount", "total", "shares", "run", "part", "share"] ["parts", "amount"] (defScope s_shares) := ⟨rfl, rfl, rfl, by decide +kernel, rfl, by decide +kernel, by decide +kernel⟩
theorem sc_law_pool : FnScope ["script"] ["script"] (defScope s_law_pool) := ⟨rfl, rfl, rfl, by decide +kernel, rfl, by decide +kernel, by decide +kernel⟩
theorem sc_law_draw : FnScope ["pool", "many", "cell", "got", "one"] ["pool", "many"] (defScope s_law_draw) := ⟨rfl, rfl, rfl, by decide +kernel, rfl, by decide +kernel, by decide +kernel⟩
theorem sc_law_pick : FnScope ["pool", "row"] ["pool", "row"] (defScope s_law_pick) := ⟨rfl, rfl, rfl, by decide +kernel, rfl, by decide +kernel, by decide +kernel⟩
theorem sc_law_rare : FnScope ["pool", "many"] ["pool", "many"] (defScope s_law_rare) := ⟨rfl, rfl, rfl, by decide +kernel, rfl, by decide +kernel, by decide +kernel⟩
theorem sc_law_few : FnScope ["pool", "usual", "most"] ["pool", "usual", "most"] (defScope s_law_few) := ⟨rfl, rfl, rfl, by decide +kernel, rfl, by decide +kernel, by decide +kernel⟩
theorem sc_law_same : FnScope ["got", "due", "k"] ["got", "due"] (defScope s_law_same) := ⟨rfl, rfl, rfl, by decide +kernel, rfl, by decide +kernel, by decide +kernel⟩
theorem sc_law_int : FnScope ["got"] ["got"] (defScope s_law_int) := ⟨rfl, rfl, rfl, by decide +kernel, rfl, by decide +kernel, by decide +kernel⟩
theorem sc_law_gaps : FnScope ["pool", "top", "stiff", "firm", "rows", "k", "natural", "stretch", "shrink"] ["pool"] (defScope s_law_gaps) := ⟨rfl, rfl, rfl, by decide +kernel, rfl, by decide +kernel, by decide +kernel⟩
theorem sc_law_slack : FnScope ["pool", "rows", "give", "row", "way"] ["pool", "rows"] (defScope s_law_slack) := ⟨rfl, rfl, rfl, by decide +kernel, rfl, by decide +kernel, by decide +kernel⟩
theorem sc_law_glues : FnScope ["rows", "alike", "made", "glues", "row"] ["rows", "alike"] (defScope s_law_glues) := ⟨rfl, rfl, rfl, by decide +kernel, rfl, by decide +kernel, by decide +kernel⟩
theorem sc_law_dealt : FnScope ["got", "rows", "slack", "stretching", "stretch", "row", "shrink", "moved", "part", "k", "gain"] ["got", "rows", "slack", "stretching"] (defScope s_law_dealt) := ⟨rfl, rfl, rfl, by decide +kernel, rfl, by decide +kernel, by decide +kernel⟩
theorem sc_law : FnScope ["script", "pool", "rows", "slack", "other", "stretching", "handed", "got", "first", "row", "k"] ["script"] (defScope s_law) := ⟨rfl, rfl, rfl, by decide +kernel, rfl, by decide +kernel, by decide +kernel⟩
structure Txt (mg : Str → Option Value) : Prop where
  n_abs : mg "abs" = none
  n_bool : mg "bool" = none
  n_int : mg "int" = none
  n_isinstance : mg "isinstance" = none
  n_len : mg "len" = none
  n_list : mg "list" = none
  n_range : mg "range" = none
  n_str : mg "str" = none
  n_sum : mg "sum" = none
  n_tuple : mg "tuple" = none
  n_zip : mg "zip" = none
abbrev s_ginit : Stmt := inClass (top 2) 0
theorem sc_ginit : FnScope ["self", "natural", "stretch", "shrink"] ["self", "natural", "stretch", "shrink"] (defScope s_ginit) := ⟨rfl, rfl, rfl, by decide +kernel, rfl, by decide +kernel, by decide +kernel⟩
abbrev s_plain : Stmt := inClass (top 2) 5
theorem sc_plain : FnScope ["self"] ["self"] (defScope s_plain) := ⟨rfl, rfl, rfl, by decide +kernel, rfl, by decide +kernel, by decide +kernel⟩
structure GlT (K : PySem.W.Frag) (mg : Str → Option Value) (C : Addr) : Prop where
  cl : Cls K C
  nN : NoAttr K C "natural"
  nS : NoAttr K C "stretch"
  nK : NoAttr K C "shrink"
  mgC : mg "Glue" = some (.ref C)

abbrev Row := Int × Int × Int
def gf (r : Row) : List (Str × V) := putF "shrink" (.int r.2.2) (putF "stretch" (.int r.2.1) (putF "natural" (.int r.1) []))
theorem n1 : ¬ (("natural" : Str) = "shrink") := by decide +kernel
theorem n2 : ¬ (("natural" : Str) = "stretch") := by decide +kernel
theorem n3 : ¬ (("stretch" : Str) = "shrink") := by decide +kernel
theorem n4 : ¬ (("plain" : Str) = "shrink") := by decide +kernel
theorem n5 : ¬ (("plain" : Str) = "stretch") := by decide +kernel
theorem n6 : ¬ (("plain" : Str) = "natural") := by decide +kernel
theorem gfN (r : Row) : (gf r).lookup ("natural" : Str) = some (.int r.1) := by unfold gf; rw [lookup_putF, if_neg n1, lookup_putF, if_neg n2, lookup_putF, if_pos rfl]
theorem gfS (r : Row) : (gf r).lookup ("stretch" : Str) = some (.int r.2.1) := by unfold gf; rw [lookup_putF, if_neg n3, lookup_putF, if_pos rfl]
theorem gfK (r : Row) : (gf r).lookup ("shrink" : Str) = some (.int r.2.2) := by unfold gf; rw [lookup_putF, if_pos rfl]
theorem gfP (r : Row) : (gf r).lookup ("plain" : Str) = none := by unfold gf; rw [lookup_putF, if_neg n4, lookup_putF, if_neg n5, lookup_putF, if_neg n6]; rfl
theorem putF_len (f : Str) (v : V) : ∀ fs : List (Str × V), (putF f v fs).length ≤ fs.length + 1
  | [] => Nat.le_refl _
  | (g, x) :: r => by
    unfold putF
    split
    · exact Nat.le_succ _
    · exact Nat.succ_le_succ (putF_len f v r)
section
variable {K : PySem.W.Frag} {mg : Str → Option Value} {C a dx : Addr} {H : Hp} {Q : VK} {r : Row}
theorem rN (T : GlT K mg C) (h : H a = some (.ins C dx (gf r))) (q : Q (.int r.1) H) : rFld K "natural" (.ref a) H Q := rfld h T.cl T.nN (gfN r) q
theorem rS (T : GlT K mg C) (h : H a = some (.ins C dx (gf r))) (q : Q (.int r.2.1) H) : rFld K "stretch" (.ref a) H Q := rfld h T.cl T.nS (gfS r) q
theorem rK (T : GlT K mg C) (h : H a = some (.ins C dx (gf r))) (q : Q (.int r.2.2) H) : rFld K "shrink" (.ref a) H Q := rfld h T.cl T.nK (gfK r) q
end
def rowV (r : Row) : List V := [.int r.1, .int r.2.1, .int r.2.2]
structure OkR (r : Row) : Prop where
  a0 : 0 ≤ r.1
  a9 : r.1 ≤ 1000
  b0 : 0 ≤ r.2.1
  b9 : r.2.1 ≤ 1000
  c0 : 0 ≤ r.2.2
  c9 : r.2.2 ≤ r.1
structure RowsAt (H : Hp) (a : Addr) (zs : List (Addr × Row)) : Prop where
  at_ : H a = some (.lst (zs.map fun z => V.ref z.1))
  row : ∀ z, z ∈ zs → H z.1 = some (.tup (rowV z.2))
  len : zs.length ≤ 1200
  ok : ∀ z, z ∈ zs → OkR z.2
structure GlsAt (C : Addr) (H : Hp) (a : Addr) (zs : List (Addr × Row)) : Prop where
  at_ : H a = some (.lst (zs.map fun z => V.ref z.1))
  row : ∀ z, z ∈ zs → ∃ dx, H z.1 = some (.ins C dx (gf z.2))
  len : zs.length ≤ 1200
  ok : ∀ z, z ∈ zs → OkR z.2
theorem RowsAt.ex {H H' : Hp} {a : Addr} {zs : List (Addr × Row)} (h : RowsAt H a zs) (e : Ex H H') : RowsAt H' a zs := ⟨e _ _ h.at_, fun z hz => e _ _ (h.row z hz), h.len, h.ok⟩
theorem GlsAt.ex {C : Addr} {H H' : Hp} {a : Addr} {zs : List (Addr × Row)} (h : GlsAt C H a zs) (e : Ex H H') : GlsAt C H' a zs := ⟨e _ _ h.at_, fun z hz => let ⟨dx, q⟩ := h.row z hz; ⟨dx, e _ _ q⟩, h.len, h.ok⟩
theorem RowsAt.ext {H H' : Hp} {a p l : Addr} {zs : List (Addr × Row)} (h : RowsAt H a zs) (hp : PoolL H p l) (n : a ≠ p) (e : Ext p H H') : RowsAt H' a zs := by
  refine ⟨e _ _ n h.at_, fun z hz => e _ _ (fun q => ?_) (h.row z hz), h.len, h.ok⟩
  have h1 := h.row z hz
  obtain ⟨ns, i, x, c, d, h2, _⟩ := hp
  rw [q, h2] at h1
  cases h1
/-- the first i of them, summed -/
def pre (ns : List Int) (i : Nat) : Int := (ns.take i).sum
theorem pre_succ {ns : List Int} {i : Nat} {n : Int} (h : ns[i]? = some n) : pre ns (i + 1) = pre ns i + n := by
  unfold pre
  rw [List.take_succ, h, List.sum_append]
  simp
theorem pre_len (ns : List Int) : pre ns ns.length = ns.sum := by unfold pre; rw [List.take_length]
theorem pre_zero (ns : List Int) : pre ns 0 = 0 := rfl
theorem pre_bd {ns : List Int} (h : ∀ n, n ∈ ns → 0 ≤ n ∧ n ≤ 1000) : ∀ i, i ≤ ns.length → 0 ≤ pre ns i ∧ pre ns i ≤ 1000 * i := by
  intro i
  induction i with
  | zero => intro _; exact ⟨Int.le_refl _, Int.le_refl _⟩
  | succ i ih =>
    intro hi
    have hx : ns[i]? = some ns[i] := List.getElem?_eq_getElem hi
    have := ih (by omega)
    have h2 := h _ (List.mem_of_getElem? hx)
    rw [pre_succ hx]
    omega
def sh (m : Int) (ns : List Int) (i : Nat) : Int := if 0 < ns.sum then m * pre ns (i + 1) / ns.sum - m * pre ns i / ns.sum else 0
def shL (m : Int) (ns : List Int) : List Int := (List.range ns.length).map (sh m ns)
def outI (rs : List Row) (s : Int) (b : Bool) (i : Nat) : Int := (rs.getD i (0, 0, 0)).1 + (if 0 < s ∧ b = true then sh s (rs.map fun r => r.2.1) i else if s < 0 then - sh (-s) (rs.map fun r => r.2.2) i else 0)
def outF (rs : List Row) (s : Int) (b : Bool) : List Int := (List.range rs.length).map (outI rs s b)
def rowsOf (zs : List (Addr × Row)) : List Row := zs.map (·.2)
def spGinit (C : Addr) : Sp := fun vs H Q _ => ∃ (p : Addr) (a b c : Int), vs = [.ref p, .int a, .int b, .int c] ∧ ∃ dx, H p = some (.ins C dx []) ∧ Q .non (upd H p (.ins C dx (gf (a, b, c))))
def spPlain (C : Addr) : Sp := fun vs H Q _ => ∃ (p : Addr), vs = [.ref p] ∧ ∃ dx r, H p = some (.ins C dx (gf r)) ∧ ∀ t, H t = none → Q (.ref t) (upd H t (.tup (rowV r)))
def spShares : Sp := fun vs H Q _ => ∃ (a : Addr) (m : Int), vs = [.ref a, .int m] ∧ ∃ ns, H a = some (.lst (ns.map V.int)) ∧ ns.length ≤ 1200 ∧ (∀ n, n ∈ ns → 0 ≤ n ∧ n ≤ 1000) ∧ 0 ≤ m ∧ m ≤ 2 ^ 22 ∧ ∀ b H', Ex H H' → H b = none → H' b = some (.lst ((shL m ns).map V.int)) → Q (.ref b) H'
def spEven (C : Addr) : Sp := fun vs H Q _ => ∃ (a : Addr) (s : Int) (b : Bool), vs = [.ref a, .int s, .bl b] ∧ ∃ ys, GlsAt C H a ys ∧ -(2 ^ 22) ≤ s ∧ s ≤ 2 ^ 22 ∧ ∀ o H', Ex H H' → H o = none → H' o = some (.lst ((outF (rowsOf ys) s b).map V.int)) → Q (.ref o) H'
def PvSh (H : Hp) (a : Addr) (m : Int) (ns : List Int) (o : Addr) : Nat → L2.St → Hp → Prop := fun i σ' H' => H' = upd H o (.lst (((List.range i).map (sh m ns)).map V.int)) ∧ ∃ v5 v6, σ' = [some (V.ref a), some (V.int m), some (V.int ns.sum), some (V.ref o), some (V.int (pre ns i)), v5, v6]
local macro_rules | `(tactic| walk_at "rd") => `(tactic| first | ((with_reducible refine' Wp.rsum ?h1 ?h3); (case h1 => walk_at "hp")) | ((with_reducible refine' rN (by assumption) ?h1 ?h3); (case h1 => walk_at "hp")) | ((with_reducible refine' rS (by assumption) ?h1 ?h3); (case h1 => walk_at "hp")) | ((with_reducible refine' rK (by assumption) ?h1 ?h3); (case h1 => walk_at "hp")) | ((with_reducible refine' Wp.ixal ?h1 ?h2 ?h3); (case h1 => walk_at "hp"); (case h2 => exact rfl)) | ((with_reducible refine' Wp.ixat ?h1 ?h2 ?h3); (case h1 => walk_at "hp"); (case h2 => exact rfl)) | ((with_reducible refine' Wp.ixl ?h1 ?h2 ?h3); (case h1 => walk_at "hp"); (case h2 => exact rfl)) | ((with_reducible refine' Wp.setl (j := 0) ?h1 ?h2 ?h3); (case h1 => walk_at "hp"); (case h2 => exact rfl)) | ((with_reducible refine' Wp.setl (j := 1) ?h1 ?h2 ?h3); (case h1 => walk_at "hp"); (case h2 => exact rfl)) | ((with_reducible refine' Wp.setl (j := 2) ?h1 ?h2 ?h3); (case h1 => walk_at "hp"); (case h2 => exact rfl)) | ((with_reducible refine' Wp.setl (j := 3) ?h1 ?h2 ?h3); (case h1 => walk_at "hp"); (case h2 => exact rfl)) | ((with_reducible refine' Wp.setl (j := 4) ?h1 ?h2 ?h3); (case h1 => walk_at "hp"); (case h2 => exact rfl)) | ((with_reducible refine' Wp.setl (j := 5) ?h1 ?h2 ?h3); (case h1 => walk_at "hp"); (case h2 => exact rfl)) | ((with_reducible refine' Wp.lenl ?h1 ?h3); (case h1 => walk_at "hp")) | ((with_reducible refine' Wp.lent ?h1 ?h3); (case h1 => walk_at "hp")) | ((with_reducible refine' Wp.ril ?h1 ?h3); (case h1 => walk_at "hp")) | ((with_reducible refine' Wp.rit ?h1 ?h3); (case h1 => walk_at "hp")) | ((with_reducible refine' Wp.tru_l ?h1 ?h3); (case h1 => walk_at "hp")) | ((with_reducible refine' Wp.mtl ?h1 ?h3); (case h1 => walk_at "hp")) | ((with_reducible refine' Wp.sll ?h1 ?h3); (case h1 => walk_at "hp")) | ((with_reducible refine' Wp.apd ?h1 ?h2 ?h3); (case h1 => walk_at "hp"); (case h2 => walk_at "sz")) | (with_reducible refine' Wp.isi_i (T := "int") Wp.kb_int_int ?h3) | (with_reducible refine' Wp.isi_i (T := "str") Wp.kb_int_str ?h3) | (with_reducible refine' Wp.isi_i (T := "bool") Wp.kb_int_bool ?h3) | (with_reducible refine' Wp.isi_i (T := "list") Wp.kb_int_list ?h3) | (with_reducible refine' Wp.isi_i (T := "tuple") Wp.kb_int_tuple ?h3) | (with_reducible refine' Wp.isi_s (T := "int") Wp.kb_str_int ?h3) | (with_reducible refine' Wp.isi_s (T := "str") Wp.kb_str_str ?h3) | (with_reducible refine' Wp.isi_s (T := "bool") Wp.kb_str_bool ?h3) | (with_reducible refine' Wp.isi_s (T := "list") Wp.kb_str_list ?h3) | (with_reducible refine' Wp.isi_s (T := "tuple") Wp.kb_str_tuple ?h3) | (with_reducible refine' Wp.isi_b (T := "int") Wp.kb_bool_int ?h3) | (with_reducible refine' Wp.isi_b (T := "str") Wp.kb_bool_str ?h3) | (with_reducible refine' Wp.isi_b (T := "bool") Wp.kb_bool_bool ?h3) | (with_reducible refine' Wp.isi_b (T := "list") Wp.kb_bool_list ?h3) | (with_reducible refine' Wp.isi_b (T := "tuple") Wp.kb_bool_tuple ?h3) | (with_reducible refine' Wp.isi_n (T := "int") Wp.kb_NoneType_int ?h3) | (with_reducible refine' Wp.isi_n (T := "str") Wp.kb_NoneType_str ?h3) | (with_reducible refine' Wp.isi_n (T := "bool") Wp.kb_NoneType_bool ?h3) | (with_reducible refine' Wp.isi_n (T := "list") Wp.kb_NoneType_list ?h3) | (with_reducible refine' Wp.isi_n (T := "tuple") Wp.kb_NoneType_tuple ?h3) | ((with_reducible refine' Wp.isi_l (T := "int") ?h1 Wp.kb_list_int ?h3); (case h1 => walk_at "hp")) | ((with_reducible refine' Wp.isi_l (T := "str") ?h1 Wp.kb_list_str ?h3); (case h1 => walk_at "hp")) | ((with_reducible refine' Wp.isi_l (T := "bool") ?h1 Wp.kb_list_bool ?h3); (case h1 => walk_at "hp")) | ((with_reducible refine' Wp.isi_l (T := "list") ?h1 Wp.kb_list_list ?h3); (case h1 => walk_at "hp")) | ((with_reducible refine' Wp.isi_l (T := "tuple") ?h1 Wp.kb_list_tuple ?h3); (case h1 => walk_at "hp")) | ((with_reducible refine' Wp.isi_t (T := "int") ?h1 Wp.kb_tuple_int ?h3); (case h1 => walk_at "hp")) | ((with_reducible refine' Wp.isi_t (T := "str") ?h1 Wp.kb_tuple_str ?h3); (case h1 => walk_at "hp")) | ((with_reducible refine' Wp.isi_t (T := "bool") ?h1 Wp.kb_tuple_bool ?h3); (case h1 => walk_at "hp")) | ((with_reducible refine' Wp.isi_t (T := "list") ?h1 Wp.kb_tuple_list ?h3); (case h1 => walk_at "hp")) | ((with_reducible refine' Wp.isi_t (T := "tuple") ?h1 Wp.kb_tuple_tuple ?h3); (case h1 => walk_at "hp")))
section
variable {P : Program} {w : World} {K : PySem.W.Frag} {mg : Str → Option Value} {base : Heap}
theorem ok_ginit {f : Addr} {fd : FuncData} (F : Fun K "__init__" "Glue.__init__" s_ginit f fd) {C : Addr} (GT : GlT K mg C) : FnOk P w K mg base CX0 1 f fd ["self", "natural", "stretch", "shrink"] (spGinit C) := by
  refine F.ok sc_ginit (fun vs H Q E h => ?_) (fun cdv A outer s H vs Q E hr h => ?_)
  · obtain ⟨p1, a1, b1, c1, rfl, _⟩ := h
    rfl
  · obtain ⟨p1, a1, b1, c1, rfl, h⟩ := h
    refine ⟨_, (pss_cons (ps_fldK (K := K) rfl (pv 0) (pv 1))
  (pss_cons (ps_fldK (K := K) rfl (pv 0) (pv 2))
  (pss_one (ps_fldK (K := K) rfl (pv 0) (pv 3))))), ?_⟩
    rw [show start ["self", "natural", "stretch", "shrink"] [.ref p1, .int a1, .int b1, .int c1] = [some (.ref p1), some (.int a1), some (.int b1), some (.int c1)] from rfl]
    obtain ⟨dx, hp, k⟩ := h
    walk_at "go"
    refine rsfld hp GT.cl GT.nN (by decide) ?_
    walk_at "go"
    refine rsfld upd_same GT.cl GT.nS (Nat.lt_of_le_of_lt (putF_len _ _ _) (by decide)) ?_
    walk_at "go"
    refine rsfld upd_same GT.cl GT.nK (Nat.lt_of_le_of_lt (putF_len _ _ _) (Nat.lt_of_le_of_lt (Nat.succ_le_succ (putF_len _ _ _)) (by decide))) ?_
    walk_at "go"
    exact k
theorem ok_plain {f : Addr} {fd : FuncData} (F : Fun K "plain" "Glue.plain" s_plain f fd) {C : Addr} (GT : GlT K mg C) : FnOk P w K mg base CX0 1 f fd ["self"] (spPlain C) := by
  refine F.ok sc_plain (fun vs H Q E h => ?_) (fun cdv A outer s H vs Q E hr h => ?_)
  · obtain ⟨p1, rfl, _⟩ := h
    rfl
  · obtain ⟨p1, rfl, h⟩ := h
    refine ⟨_, (pss_one (ps_ret (pe_tup (pa_cons (pe_fldK (K := K) rfl (pv 0)) (pa_cons (pe_fldK (K := K) rfl (pv 0)) (pa_cons (pe_fldK (K := K) rfl (pv 0)) pa_nil)))))), ?_⟩
    rw [show start ["self"] [.ref p1] = [some (.ref p1)] from rfl]
    obtain ⟨dx, r, hp, k⟩ := h
    walk_at "go"
    exact k
theorem ok_shares {f : Addr} {fd : FuncData} (F : Fun K "_shares" "_shares" s_shares f fd) (T : Txt mg) : FnOk P w K mg base CX0 1 f fd ["parts", "amount"] (spShares) := by
  refine F.ok sc_shares (fun vs H Q E h => ?_) (fun cdv A outer s H vs Q E hr h => ?_)
  · obtain ⟨a1, m1, rfl, _⟩ := h
    rfl
  · obtain ⟨a1, m1, rfl, h⟩ := h
    refine ⟨_, (pss_cons (ps_set (i := 2) sc_shares.nd rfl (by first | exact Or.inl rfl | exact Or.inr rfl) (pe_callB (cr_sumK (K := K) rfl rfl) (by rfl) T.n_sum (by decide +kernel) (pa_cons (pv 0) pa_nil)))
  (pss_cons (ps_set (i := 3) sc_shares.nd rfl (by first | exact Or.inl rfl | exact Or.inr rfl) (pe_lst pa_nil))
  (pss_cons (ps_set (i := 4) sc_shares.nd rfl (by first | exact Or.inl rfl | exact Or.inr rfl) pe_int)
  (pss_cons (ps_for PassesOwn.never rfl (pi_listK (K := K) rfl (pv 0)) (pg_name (i := 5) sc_shares.nd rfl (by first | exact Or.inl rfl | exact Or.inr rfl))
  (pss_cons (ps_set (i := 6) sc_shares.nd rfl (by first | exact Or.inl rfl | exact Or.inr rfl) pe_int)
  (pss_cons (ps_if (pt_cmpR op_gt (pv 2) pe_int (nomark _))
  (pss_one (ps_set (i := 6) sc_shares.nd rfl (by first | exact Or.inl rfl | exact Or.inr rfl) (pe_op op_sub (pe_op op_fdivW (pe_op op_mulW (pv 1) (pe_op op_addL (pv 4) (pv 5))) (pv 2)) (pe_op op_fdivW (pe_op op_mulW (pv 1) (pv 4)) (pv 2)))))
  pss_nil)
  (pss_cons (ps_expr (pe_bmK (K := K) rfl PySem.F.plainAttrs_list PySem.F.slot_list_append PySem.F.type_list_append mt_append (pv 3) (pa_cons (pv 6) pa_nil)))
  (pss_one (ps_aug (i := 4) sc_shares.nd rfl (by first | exact Or.inl rfl | exact Or.inr rfl) (pv 5) ip_add))))))
  (pss_one (ps_ret (pv 3))))))), ?_⟩
    rw [show start ["parts", "amount", "total", "shares", "run", "part", "share"] [.ref a1, .int m1] = [some (.ref a1), some (.int m1), none, none, none, none, none] from rfl]
    obtain ⟨ns, ha, hl, hb, m0, m9, k⟩ := h
    have hpb := pre_bd hb
    walk_at "go"
    intro o ho
    have hao : a1 ≠ o := ne_of_none ha ho
    walk_at "go"
    refine loopL (ns.map V.int) (PvSh H a1 m1 ns o) ⟨rfl, _, _, rfl⟩ (fun i σ' H' hi p => by rw [p.1]; exact SqL.of (u_ne hao ha)) ?_ ?_
    · rintro i x σ' H' hx ⟨rfl, v5, v6, rfl⟩
      obtain ⟨n, rfl, hn⟩ : ∃ n, x = V.int n ∧ ns[i]? = some n := by
        rw [List.getElem?_map] at hx
        cases e : ns[i]? with
        | none => rw [e] at hx; cases hx
        | some n => rw [e] at hx; cases hx; exact ⟨n, rfl, rfl⟩
      have hi := (List.getElem?_eq_some_iff.mp hn).1
      have b1 := hpb i (by omega)
      have b2 := hpb (i + 1) hi
      have b3 := hpb ns.length (Nat.le_refl _)
      rw [pre_len] at b3
      have e1 := pre_succ hn
      have es : ∀ v, (if 0 < ns.sum then v = m1 * (pre ns i + n) / ns.sum - m1 * pre ns i / ns.sum else v = 0) → ((List.range i).map (sh m1 ns)).map V.int ++ [V.int v] = ((List.range (i + 1)).map (sh m1 ns)).map V.int := by
        intro v hv
        rw [List.range_succ, List.map_append, List.map_append]
        have : v = sh m1 ns i := by
          unfold sh
          rw [e1]
          split at hv <;> rename_i h0
          · rw [if_pos h0]; exact hv
          · rw [if_neg h0]; exact hv
        rw [this]
        rfl
      walk_at "go"
      refine ite2 (fun h0 => ?_) (fun h0 => ?_)
      · walk_at "go"
        have w1 : NB (pre ns i + n) 22 := NB.of (by omega) (by omega)
        have w2 : NB (pre ns i) 22 := NB.of (by omega) (by omega)
        have w3 : NB m1 23 := NB.of m0 (by omega)
        have w4 : NB ns.sum 22 := NB.of (by omega) (by omega)
        refine ⟨w3.cm w1 (by decide), wide_div h0 w4 (by decide) (by decide), w3.cm w2 (by decide), wide_div h0 w4 (by decide) (by decide), ?_⟩
        walk_at "go"
        refine Wp.apd upd_same (sz_lt (by simp; omega)) ?_
        walk_at "go"
        exact ⟨by rw [es _ (by rw [if_pos h0])], _, _, by rw [e1]⟩
      · walk_at "go"
        refine Wp.apd upd_same (sz_lt (by simp; omega)) ?_
        walk_at "go"
        exact ⟨by rw [es _ (by rw [if_neg h0])], _, _, by rw [e1]⟩
    · rintro σ' H' ⟨rfl, v5, v6, rfl⟩
      walk_at "go"
      rw [List.length_map]
      exact k _ _ (Ex.refl.new ho) ho upd_same
end
end K41
namespace K41
open PySem L2 Wp

theorem outF_at {rs : List Row} {s : Int} {b : Bool} {i : Nat} (h : i < rs.length) : (outF rs s b)[i]? = some (outI rs s b i) := by
  unfold outF
  rw [List.getElem?_map, List.getElem?_range h]
  rfl
theorem outF_len {rs : List Row} {s : Int} {b : Bool} : (outF rs s b).length = rs.length := by
  unfold outF
  rw [List.length_map, List.length_range]
theorem shL_at {m : Int} {ns : List Int} {i : Nat} (h : i < ns.length) : (shL m ns)[i]? = some (sh m ns i) := by
  unfold shL
  rw [List.getElem?_map, List.getElem?_range h]
  rfl
theorem rowsOf_at {zs : List (Addr × Row)} {i : Nat} {z : Addr × Row} (h : zs[i]? = some z) : (rowsOf zs).getD i (0, 0, 0) = z.2 := by
  unfold rowsOf
  rw [List.getD_eq_getElem?_getD, List.getElem?_map, h]
  rfl
theorem at_zs {zs : List (Addr × Row)} {i : Nat} {x : V} (h : (zs.map fun z => V.ref z.1)[i]? = some x) : ∃ z, zs[i]? = some z ∧ x = V.ref z.1 := by
  rw [List.getElem?_map] at h
  cases e : zs[i]? with
  | none => rw [e] at h; cases h
  | some z => rw [e] at h; cases h; exact ⟨z, rfl, rfl⟩
def PvE (H2 : Hp) (D : Addr) (f : Nat → Int) : Nat → Hp → Prop := fun i H' => Ex H2 H' ∧ H' D = some (.lst (((List.range i).map f).map V.int))
theorem pvE_step {f : Nat → Int} {i : Nat} {v : Int} (h : v = f i) : ((List.range i).map f).map V.int ++ [V.int v] = ((List.range (i + 1)).map f).map V.int := by
  rw [List.range_succ, List.map_append, List.map_append, h]
  rfl
section
variable {P : Program} {w : World} {K : PySem.W.Frag} {mg : Str → Option Value} {base : Heap}
theorem ok_even_gaps {f : Addr} {fd : FuncData} (F : Fun K "even_gaps" "even_gaps" s_even_gaps f fd) (T : Txt mg) {C : Addr} (GT : GlT K mg C) (G_shares : Def P w K mg base 1 "_shares" ["parts", "amount"] (spShares)) : FnOk P w K mg base CX0 2 f fd ["glues", "slack", "stretching"] (spEven C) := by
  refine F.ok sc_even_gaps (fun vs H Q E h => ?_) (fun cdv A outer s H vs Q E hr h => ?_)
  · obtain ⟨a1, s1, b1, rfl, _⟩ := h
    rfl
  · obtain ⟨a1, s1, b1, rfl, h⟩ := h
    refine ⟨_, (pss_cons (ps_if (PW.pt (pw_and (pt_cmpR op_gt (pv 1) pe_int (nomark _)) (pw_and1 (pt_tru (K := K) rfl (pv 2)))))
  (pss_cons (ps_set (i := 3) sc_even_gaps.nd rfl (by first | exact Or.inl rfl | exact Or.inr rfl) (G_shares.call (hr.mono (by omega)) (by rfl) (pa_cons (pe_lc (own := [("glue", 4)]) (g := gName 4) (tt := tYes) (by rfl) sc_even_gaps.nd (pi_listK (K := K) rfl (pv 0)) (blkOk_by (own := [("glue", 4)]) (N := ["glues", "slack", "stretching", "shares", "glue", "share"]) (sc := defScope s_even_gaps) (by decide +kernel)) (fun _ _ _ _ _ => pg_name (i := 4) sc_even_gaps.nd rfl (by first | exact Or.inl rfl | exact Or.inr rfl)) (fun _ _ _ _ _ => pts_nil) (fun _ _ _ _ _ => (pe_fldK (K := K) rfl (pv 4)))) (pa_cons (pv 1) pa_nil))))
  (pss_one (ps_ret (pe_lc (own := [("glue", 4), ("share", 5)]) (g := gTup K 2 (gCons (gName 4) (gCons (gName 5) gNil))) (tt := tYes) (by rfl) sc_even_gaps.nd (pi_zipK (K := K) rfl (by rfl) T.n_zip (pa_cons (pv 0) (pa_cons (pv 3) pa_nil))) (blkOk_by (own := [("glue", 4), ("share", 5)]) (N := ["glues", "slack", "stretching", "shares", "glue", "share"]) (sc := defScope s_even_gaps) (by decide +kernel)) (fun _ _ _ _ _ => pg_tupK (K := K) rfl (by rfl) (pgs_cons (pg_name (i := 4) sc_even_gaps.nd rfl (by first | exact Or.inl rfl | exact Or.inr rfl)) (pgs_cons (pg_name (i := 5) sc_even_gaps.nd rfl (by first | exact Or.inl rfl | exact Or.inr rfl)) pgs_nil))) (fun _ _ _ _ _ => pts_nil) (fun _ _ _ _ _ => (pe_op op_addL (pe_fldK (K := K) rfl (pv 4)) (pv 5)))))))
  pss_nil)
  (pss_cons (ps_if (pt_cmpR op_lt (pv 1) pe_int (nomark _))
  (pss_cons (ps_set (i := 3) sc_even_gaps.nd rfl (by first | exact Or.inl rfl | exact Or.inr rfl) (G_shares.call (hr.mono (by omega)) (by rfl) (pa_cons (pe_lc (own := [("glue", 4)]) (g := gName 4) (tt := tYes) (by rfl) sc_even_gaps.nd (pi_listK (K := K) rfl (pv 0)) (blkOk_by (own := [("glue", 4)]) (N := ["glues", "slack", "stretching", "shares", "glue", "share"]) (sc := defScope s_even_gaps) (by decide +kernel)) (fun _ _ _ _ _ => pg_name (i := 4) sc_even_gaps.nd rfl (by first | exact Or.inl rfl | exact Or.inr rfl)) (fun _ _ _ _ _ => pts_nil) (fun _ _ _ _ _ => (pe_fldK (K := K) rfl (pv 4)))) (pa_cons (pe_un un_neg (pv 1)) pa_nil))))
  (pss_one (ps_ret (pe_lc (own := [("glue", 4), ("share", 5)]) (g := gTup K 2 (gCons (gName 4) (gCons (gName 5) gNil))) (tt := tYes) (by rfl) sc_even_gaps.nd (pi_zipK (K := K) rfl (by rfl) T.n_zip (pa_cons (pv 0) (pa_cons (pv 3) pa_nil))) (blkOk_by (own := [("glue", 4), ("share", 5)]) (N := ["glues", "slack", "stretching", "shares", "glue", "share"]) (sc := defScope s_even_gaps) (by decide +kernel)) (fun _ _ _ _ _ => pg_tupK (K := K) rfl (by rfl) (pgs_cons (pg_name (i := 4) sc_even_gaps.nd rfl (by first | exact Or.inl rfl | exact Or.inr rfl)) (pgs_cons (pg_name (i := 5) sc_even_gaps.nd rfl (by first | exact Or.inl rfl | exact Or.inr rfl)) pgs_nil))) (fun _ _ _ _ _ => pts_nil) (fun _ _ _ _ _ => (pe_op op_sub (pe_fldK (K := K) rfl (pv 4)) (pv 5)))))))
  pss_nil)
  (pss_one (ps_ret (pe_lc (own := [("glue", 4)]) (g := gName 4) (tt := tYes) (by rfl) sc_even_gaps.nd (pi_listK (K := K) rfl (pv 0)) (blkOk_by (own := [("glue", 4)]) (N := ["glues", "slack", "stretching", "shares", "glue", "share"]) (sc := defScope s_even_gaps) (by decide +kernel)) (fun _ _ _ _ _ => pg_name (i := 4) sc_even_gaps.nd rfl (by first | exact Or.inl rfl | exact Or.inr rfl)) (fun _ _ _ _ _ => pts_nil) (fun _ _ _ _ _ => (pe_fldK (K := K) rfl (pv 4)))))))), ?_⟩
    rw [show start ["glues", "slack", "stretching", "shares", "glue", "share"] [.ref a1, .int s1, .bl b1] = [some (.ref a1), some (.int s1), some (.bl b1), none, none, none] from rfl]
    obtain ⟨ys, hg, s0, s9, k⟩ := h
    have hgat := hg.at_
    walk_at "go"
    refine ite2 (fun h1 => ?_) (fun h1 => ?_)
    · refine ite2 (fun hb => ?_) (fun hb => ?_)
      · walk_at "go"
        intro D hD
        refine lcM ys (fun z => V.ref z.1) (fun z => V.int z.2.2.1) hg.at_ hD (by have := hg.len; omega) (fun x => rfl) (fun z hz l R r => ?_) ?_
        · obtain ⟨dx, hrow⟩ := hg.row z hz
          have hz2 : upd H D (HO.lst l) z.1 = some (.ins C dx (gf z.2)) := u_ne (ne_of_none hrow hD) hrow
          walk_at "go"
          first | exact rN GT hz2 r | exact rS GT hz2 r | exact rK GT hz2 r
        have en : ys.map (fun z => V.int z.2.2.1) = (((rowsOf ys).map fun r => r.2.1)).map V.int := by unfold rowsOf; rw [List.map_map, List.map_map]; rfl
        rw [en]
        walk_at "go"
        refine ⟨_, _, rfl, _, upd_same, (by rw [List.length_map]; unfold rowsOf; rw [List.length_map]; exact hg.len), (fun n hn => ?_), by omega, by omega, fun o H2 e2 ho ho2 => ?_⟩
        · obtain ⟨r, hr, rfl⟩ := List.mem_map.mp hn
          unfold rowsOf at hr
          obtain ⟨z, hz, rfl⟩ := List.mem_map.mp hr
          have := hg.ok z hz
          exact ⟨this.b0, by have h1 := this.b9; have h2 := this.a9; omega⟩
        have e3 : Ex H H2 := (Ex.refl.new hD).trans e2
        have hg2 := hg.ex e3
        walk_at "go"
        refine ⟨_, _, _, _, rfl, SqL.of hg2.at_, SqL.of ho2, fun E hE => ?_⟩
        refine lcZ (by rw [List.length_map, List.length_map]; unfold shL rowsOf; simp) (PvE H2 E (outI (rowsOf ys) s1 b1)) ⟨Ex.refl.new hE, upd_same⟩ (fun i H' p => ⟨SqL.of (p.1 _ _ hg2.at_), SqL.of (p.1 _ _ ho2)⟩) ?_ ?_
        · rintro i x y T H' hx hy ⟨e4, hd⟩ hT
          obtain ⟨z, hz, rfl⟩ := at_zs hx
          have hil : i < ys.length := (List.getElem?_eq_some_iff.mp hz).1
          have hy2 : y = V.int (sh (s1) ((rowsOf ys).map fun r => r.2.1) i) := by
            rw [List.getElem?_map, shL_at (by rw [List.length_map]; unfold rowsOf; rw [List.length_map]; exact hil)] at hy
            exact (Option.some.inj hy).symm
          subst hy2
          obtain ⟨dx, hrow⟩ := hg2.row z (List.mem_of_getElem? hz)
          have hrow2 : upd H' T (HO.tup [V.ref z.1, V.int (sh (s1) ((rowsOf ys).map fun r => r.2.1) i)]) z.1 = some (.ins C dx (gf z.2)) := u_ne (ne_of_none (e4 _ _ hrow) hT) (e4 _ _ hrow)
          have hdT : upd H' T (HO.tup [V.ref z.1, V.int (sh (s1) ((rowsOf ys).map fun r => r.2.1) i)]) E = some (.lst (((List.range i).map (outI (rowsOf ys) s1 b1)).map V.int)) := u_ne (ne_of_none hd hT) hd
          have e5 := e4.new (o := HO.tup [V.ref z.1, V.int (sh (s1) ((rowsOf ys).map fun r => r.2.1) i)]) hT
          refine ⟨T, _, rfl, SqT.of upd_same, rfl, _, _, rfl, ?_⟩
          refine ⟨_, _, rfl, ?_⟩
          refine ⟨rfl, rfl, ?_⟩
          walk_at "go"
          refine rN GT hrow2 ?_
          walk_at "go"
          have hyl := hg.len
          refine ⟨_, hdT, sz_lt (by simp; omega), ?_⟩
          refine ⟨e5.mut hE, ?_⟩
          rw [upd_same, pvE_step]
          unfold outI
          rw [rowsOf_at hz, if_pos ⟨h1, hb⟩]
        · rintro H' ⟨e4, hd⟩
          refine k _ _ (e3.trans e4) (e3.free hE) ?_
          rw [List.length_map] at hd
          unfold outF
          rw [show (rowsOf ys).length = ys.length by unfold rowsOf; rw [List.length_map]]
          exact hd
      · refine ite_f (by omega) ?_
        walk_at "go"
        intro D hD
        refine lcM ys (fun z => V.ref z.1) (fun z => V.int z.2.1) hg.at_ hD (by have := hg.len; omega) (fun x => rfl) (fun z hz l R r => ?_) ?_
        · obtain ⟨dx, hrow⟩ := hg.row z hz
          have hz2 : upd H D (HO.lst l) z.1 = some (.ins C dx (gf z.2)) := u_ne (ne_of_none hrow hD) hrow
          walk_at "go"
          first | exact rN GT hz2 r | exact rS GT hz2 r | exact rK GT hz2 r
        refine k _ _ (Ex.refl.new hD) hD ?_
        rw [upd_same]
        have en : ys.map (fun z => V.int z.2.1) = (outF (rowsOf ys) s1 b1).map V.int := by
          apply List.ext_getElem?
          intro i
          rw [List.getElem?_map, List.getElem?_map]
          by_cases hi : i < ys.length
          · have hz : ys[i]? = some ys[i] := List.getElem?_eq_getElem hi
            rw [hz, outF_at (by unfold rowsOf; rw [List.length_map]; exact hi)]
            unfold outI
            rw [rowsOf_at hz, if_neg (fun q => hb q.2), if_neg (by omega)]
            show some _ = some _
            rw [Int.add_zero]
          · rw [List.getElem?_eq_none (by omega), List.getElem?_eq_none (by rw [outF_len]; unfold rowsOf; rw [List.length_map]; omega)]; rfl
        rw [en]
    · refine ite2 (fun h2 => ?_) (fun h2 => ?_)
      · walk_at "go"
        intro D hD
        refine lcM ys (fun z => V.ref z.1) (fun z => V.int z.2.2.2) hg.at_ hD (by have := hg.len; omega) (fun x => rfl) (fun z hz l R r => ?_) ?_
        · obtain ⟨dx, hrow⟩ := hg.row z hz
          have hz2 : upd H D (HO.lst l) z.1 = some (.ins C dx (gf z.2)) := u_ne (ne_of_none hrow hD) hrow
          walk_at "go"
          first | exact rN GT hz2 r | exact rS GT hz2 r | exact rK GT hz2 r
        have en : ys.map (fun z => V.int z.2.2.2) = (((rowsOf ys).map fun r => r.2.2)).map V.int := by unfold rowsOf; rw [List.map_map, List.map_map]; rfl
        rw [en]
        walk_at "go"
        refine ⟨_, _, rfl, _, upd_same, (by rw [List.length_map]; unfold rowsOf; rw [List.length_map]; exact hg.len), (fun n hn => ?_), by omega, by omega, fun o H2 e2 ho ho2 => ?_⟩
        · obtain ⟨r, hr, rfl⟩ := List.mem_map.mp hn
          unfold rowsOf at hr
          obtain ⟨z, hz, rfl⟩ := List.mem_map.mp hr
          have := hg.ok z hz
          exact ⟨this.c0, by have h1 := this.c9; have h2 := this.a9; omega⟩
        have e3 : Ex H H2 := (Ex.refl.new hD).trans e2
        have hg2 := hg.ex e3
        walk_at "go"
        refine ⟨_, _, _, _, rfl, SqL.of hg2.at_, SqL.of ho2, fun E hE => ?_⟩
        refine lcZ (by rw [List.length_map, List.length_map]; unfold shL rowsOf; simp) (PvE H2 E (outI (rowsOf ys) s1 b1)) ⟨Ex.refl.new hE, upd_same⟩ (fun i H' p => ⟨SqL.of (p.1 _ _ hg2.at_), SqL.of (p.1 _ _ ho2)⟩) ?_ ?_
        · rintro i x y T H' hx hy ⟨e4, hd⟩ hT
          obtain ⟨z, hz, rfl⟩ := at_zs hx
          have hil : i < ys.length := (List.getElem?_eq_some_iff.mp hz).1
          have hy2 : y = V.int (sh (-s1) ((rowsOf ys).map fun r => r.2.2) i) := by
            rw [List.getElem?_map, shL_at (by rw [List.length_map]; unfold rowsOf; rw [List.length_map]; exact hil)] at hy
            exact (Option.some.inj hy).symm
          subst hy2
          obtain ⟨dx, hrow⟩ := hg2.row z (List.mem_of_getElem? hz)
          have hrow2 : upd H' T (HO.tup [V.ref z.1, V.int (sh (-s1) ((rowsOf ys).map fun r => r.2.2) i)]) z.1 = some (.ins C dx (gf z.2)) := u_ne (ne_of_none (e4 _ _ hrow) hT) (e4 _ _ hrow)
          have hdT : upd H' T (HO.tup [V.ref z.1, V.int (sh (-s1) ((rowsOf ys).map fun r => r.2.2) i)]) E = some (.lst (((List.range i).map (outI (rowsOf ys) s1 b1)).map V.int)) := u_ne (ne_of_none hd hT) hd
          have e5 := e4.new (o := HO.tup [V.ref z.1, V.int (sh (-s1) ((rowsOf ys).map fun r => r.2.2) i)]) hT
          refine ⟨T, _, rfl, SqT.of upd_same, rfl, _, _, rfl, ?_⟩
          refine ⟨_, _, rfl, ?_⟩
          refine ⟨rfl, rfl, ?_⟩
          walk_at "go"
          refine rN GT hrow2 ?_
          walk_at "go"
          have hyl := hg.len
          refine ⟨_, hdT, sz_lt (by simp; omega), ?_⟩
          refine ⟨e5.mut hE, ?_⟩
          rw [upd_same, pvE_step]
          unfold outI
          rw [rowsOf_at hz, if_neg (fun q => by omega), if_pos h2]
          omega
        · rintro H' ⟨e4, hd⟩
          refine k _ _ (e3.trans e4) (e3.free hE) ?_
          rw [List.length_map] at hd
          unfold outF
          rw [show (rowsOf ys).length = ys.length by unfold rowsOf; rw [List.length_map]]
          exact hd
      · walk_at "go"
        intro D hD
        refine lcM ys (fun z => V.ref z.1) (fun z => V.int z.2.1) hg.at_ hD (by have := hg.len; omega) (fun x => rfl) (fun z hz l R r => ?_) ?_
        · obtain ⟨dx, hrow⟩ := hg.row z hz
          have hz2 : upd H D (HO.lst l) z.1 = some (.ins C dx (gf z.2)) := u_ne (ne_of_none hrow hD) hrow
          walk_at "go"
          first | exact rN GT hz2 r | exact rS GT hz2 r | exact rK GT hz2 r
        refine k _ _ (Ex.refl.new hD) hD ?_
        rw [upd_same]
        have en : ys.map (fun z => V.int z.2.1) = (outF (rowsOf ys) s1 b1).map V.int := by
          apply List.ext_getElem?
          intro i
          rw [List.getElem?_map, List.getElem?_map]
          by_cases hi : i < ys.length
          · have hz : ys[i]? = some ys[i] := List.getElem?_eq_getElem hi
            rw [hz, outF_at (by unfold rowsOf; rw [List.length_map]; exact hi)]
            unfold outI
            rw [rowsOf_at hz, if_neg (fun q => h1 q.1), if_neg (by omega)]
            show some _ = some _
            rw [Int.add_zero]
          · rw [List.getElem?_eq_none (by omega), List.getElem?_eq_none (by rw [outF_len]; unfold rowsOf; rw [List.length_map]; omega)]; rfl
        rw [en]
end
end K41
namespace K41
open PySem L2 Wp
/-! data as the laws compare it -/
inductive Dat where
  | int (i : Int) | str (s : Str) | non | bl (b : Bool) | lst (xs : List Dat) | tup (xs : List Dat)
/-- v stands for d in H; n bounds the depth -/
def Rep (H : Hp) : Nat → V → Dat → Prop
  | _, v, .int i => v = .int i
  | _, v, .str s => v = .str s
  | _, v, .non => v = .non
  | _, v, .bl b => v = .bl b
  | 0, _, .lst _ => False
  | 0, _, .tup _ => False
  | n + 1, v, .lst ds => ∃ a vs, v = .ref a ∧ H a = some (.lst vs) ∧ vs.length = ds.length ∧ vs.length < 2 ^ 60 ∧ ∀ (i : Nat) (x : V) (d : Dat), vs[i]? = some x → ds[i]? = some d → Rep H n x d
  | n + 1, v, .tup ds => ∃ a vs, v = .ref a ∧ H a = some (.tup vs) ∧ vs.length = ds.length ∧ vs.length < 2 ^ 60 ∧ ∀ (i : Nat) (x : V) (d : Dat), vs[i]? = some x → ds[i]? = some d → Rep H n x d
theorem Rep.ex {H H' : Hp} (e : Ex H H') : ∀ (n : Nat) (v : V) (d : Dat), Rep H n v d → Rep H' n v d := by
  intro n
  induction n with
  | zero =>
    intro v d h
    cases d <;> simp only [Rep] at h ⊢ <;> exact h
  | succ n ih =>
    intro v d h
    cases d with
    | lst ds =>
      simp only [Rep] at h ⊢
      obtain ⟨a, vs, h1, h2, h3, h5, h4⟩ := h
      exact ⟨a, vs, h1, e _ _ h2, h3, h5, fun i x d hx hd => ih x d (h4 i x d hx hd)⟩
    | tup ds =>
      simp only [Rep] at h ⊢
      obtain ⟨a, vs, h1, h2, h3, h5, h4⟩ := h
      exact ⟨a, vs, h1, e _ _ h2, h3, h5, fun i x d hx hd => ih x d (h4 i x d hx hd)⟩
    | int i => simp only [Rep] at h ⊢; exact h
    | str s => simp only [Rep] at h ⊢; exact h
    | non => simp only [Rep] at h ⊢; exact h
    | bl b => simp only [Rep] at h ⊢; exact h
def spSame (n : Nat) : Sp := fun vs H Q _ => ∃ (x y : V) , vs = [x, y] ∧ ∃ d : Dat, Rep H n x d ∧ Rep H n y d ∧ Q (.bl true) H
def PvSame (H : Hp) (x y : V) : Nat → L2.St → Hp → Prop := fun _ σ' H' => H' = H ∧ ∃ v, σ' = [some x, some y, v]

def spInt : Sp := fun vs H Q _ => ∃ (i : Int), vs = [.int i] ∧ Q (.bl true) H
def kS (zs : List (Addr × Row)) : List Int := (rowsOf zs).map fun r => r.2.2
def sS (zs : List (Addr × Row)) : List Int := (rowsOf zs).map fun r => r.2.1
structure SlOk (zs : List (Addr × Row)) (s : Int) : Prop where
  hi : s ≤ 10000
  lo : -s ≤ (kS zs).sum
theorem kS_bd {zs : List (Addr × Row)} (h : ∀ z, z ∈ zs → OkR z.2) : ∀ n, n ∈ kS zs → 0 ≤ n ∧ n ≤ 1000 := by
  intro n hn
  unfold kS rowsOf at hn
  obtain ⟨r, hr, rfl⟩ := List.mem_map.mp hn
  obtain ⟨z, hz, rfl⟩ := List.mem_map.mp hr
  have := h z hz
  exact ⟨this.c0, Int.le_trans this.c9 this.a9⟩
theorem sS_bd {zs : List (Addr × Row)} (h : ∀ z, z ∈ zs → OkR z.2) : ∀ n, n ∈ sS zs → 0 ≤ n ∧ n ≤ 1000 := by
  intro n hn
  unfold sS rowsOf at hn
  obtain ⟨r, hr, rfl⟩ := List.mem_map.mp hn
  obtain ⟨z, hz, rfl⟩ := List.mem_map.mp hr
  have := h z hz
  exact ⟨this.b0, this.b9⟩
theorem kS_len {zs : List (Addr × Row)} : (kS zs).length = zs.length := by unfold kS rowsOf; rw [List.length_map, List.length_map]
theorem sS_len {zs : List (Addr × Row)} : (sS zs).length = zs.length := by unfold sS rowsOf; rw [List.length_map, List.length_map]
theorem kS_sum {zs : List (Addr × Row)} (h : ∀ z, z ∈ zs → OkR z.2) (hl : zs.length ≤ 1200) : 0 ≤ (kS zs).sum ∧ (kS zs).sum ≤ 1200000 := by
  have := pre_bd (kS_bd h) _ (Nat.le_refl _)
  rw [pre_len, kS_len] at this
  omega
theorem sS_sum {zs : List (Addr × Row)} (h : ∀ z, z ∈ zs → OkR z.2) (hl : zs.length ≤ 1200) : 0 ≤ (sS zs).sum ∧ (sS zs).sum ≤ 1200000 := by
  have := pre_bd (sS_bd h) _ (Nat.le_refl _)
  rw [pre_len, sS_len] at this
  omega
theorem kS_map {zs : List (Addr × Row)} : zs.map (fun z => V.int z.2.2.2) = (kS zs).map V.int := by unfold kS rowsOf; rw [List.map_map, List.map_map]; rfl
theorem sS_map {zs : List (Addr × Row)} : zs.map (fun z => V.int z.2.2.1) = (sS zs).map V.int := by unfold sS rowsOf; rw [List.map_map, List.map_map]; rfl
def spGaps : Sp := fun vs H Q _ => ∃ (p : Addr), vs = [.ref p] ∧ ∃ l, PoolL H p l ∧ ∀ a zs H', PoolL H' p l → Ext p H H' → a ≠ p → RowsAt H' a zs → Q (.ref a) H'
def spSlack : Sp := fun vs H Q _ => ∃ (p a : Addr), vs = [.ref p, .ref a] ∧ ∃ l zs, PoolL H p l ∧ a ≠ p ∧ RowsAt H a zs ∧ ∀ s H', PoolL H' p l → Ext p H H' → SlOk zs s → Q (.int s) H'
theorem RowsAt.push {H : Hp} {c t : Addr} {zs : List (Addr × Row)} {r : Row} (h : RowsAt H c zs) (ht : H t = none) (ok : OkR r) (hl : zs.length < 1200) :
    RowsAt (upd (upd H t (.tup (rowV r))) c (.lst ((zs.map fun z => V.ref z.1) ++ [.ref t]))) c (zs ++ [(t, r)]) := by
  have hct : c ≠ t := ne_of_none h.at_ ht
  refine ⟨by rw [List.map_append]; exact upd_same, fun z hz => ?_, by rw [List.length_append]; simp; omega, fun z hz => ?_⟩
  · rcases List.mem_append.mp hz with hz | hz
    · have h1 := h.row z hz
      have n1 : z.1 ≠ c := fun q => by rw [q, h.at_] at h1; cases h1
      exact u_ne n1 (u_ne (ne_of_none h1 ht) h1)
    · rw [List.mem_singleton.mp hz]
      exact u_ne hct.symm upd_same
  · rcases List.mem_append.mp hz with hz | hz
    · exact h.ok z hz
    · rw [List.mem_singleton.mp hz]
      exact ok
theorem RowsAt.rep {H : Hp} {c d : Addr} {zs : List (Addr × Row)} {k : Nat} (h : RowsAt H c zs) (hd : H d = none) (hl : zs.length ≤ 40) (hk : k ≤ 30) :
    RowsAt (upd H d (.lst (List.replicate k (zs.map fun z => V.ref z.1)).flatten)) d ((List.replicate k zs).flatten) := by
  refine ⟨by rw [rep_map]; exact upd_same, fun z hz => ?_, ?_, fun z hz => h.ok z (rep_mem hz)⟩
  · have h1 := h.row z (rep_mem hz)
    exact u_ne (ne_of_none h1 hd) h1
  · rw [rep_len]
    exact Nat.le_trans (Nat.mul_le_mul hk hl) (by decide)
def PvG (H : Hp) (p l c : Addr) (top : Int) (b1 b2 : Bool) : Nat → L2.St → Hp → Prop := fun i σ' H' => PoolL H' p l ∧ Ext p H H' ∧ ∃ zs v5 v6 v7 v8, σ' = [some (V.ref p), some (V.int top), some (V.bl b1), some (V.bl b2), some (V.ref c), v5, v6, v7, v8] ∧ RowsAt H' c zs ∧ zs.length ≤ i
section
variable {P : Program} {w : World} {K : PySem.W.Frag} {mg : Str → Option Value} {base : Heap}
theorem ok_law_pool {f : Addr} {fd : FuncData} (F : Fun K "_law_pool" "_law_pool" s_law_pool f fd) (T : Txt mg) : FnOk P w K mg base CX0 1 f fd ["script"] (spPoolL K) := by
  refine F.ok sc_law_pool (fun vs H Q E h => ?_) (fun cdv A outer s H vs Q E hr h => ?_)
  · obtain ⟨a1, ns, rfl, _⟩ := h
    rfl
  · obtain ⟨a1, ns, rfl, h⟩ := h
    refine ⟨_, (pss_one (ps_ret (pe_lst (pa_cons (pe_callTy (c_listK (K := K) rfl) (by rfl) T.n_list (by decide +kernel) (pa_cons (pv 0) pa_nil)) (pa_cons pe_int (pa_cons pe_int (pa_cons pe_int (pa_cons pe_int pa_nil)))))))), ?_⟩
    rw [show start ["script"] [.ref a1] = [some (.ref a1)] from rfl]
    obtain ⟨hs, k⟩ := h
    walk_at "go"
    refine Wp.lists hs fun l hl => ?_
    walk_at "go"
    intro p hp
    have hne : l ≠ p := fun z => by subst z; rw [upd_same] at hp; cases hp
    have hp0 : H p = none := by rw [upd_ne hne.symm] at hp; exact hp
    exact k p l _ hp0 hl (fun b o e => u_ne (ne_of_none e hp0) (u_ne (ne_of_none e hl) e)) ⟨ns, _, _, _, _, upd_same, u_ne hne upd_same, by decide⟩
theorem ok_law_draw {f : Addr} {fd : FuncData} (F : Fun K "_law_draw" "_law_draw" s_law_draw f fd) (T : Txt mg) : FnOk P w K mg base CX0 1 f fd ["pool", "many"] (spDrawL) := by
  refine F.ok sc_law_draw (fun vs H Q E h => ?_) (fun cdv A outer s H vs Q E hr h => ?_)
  · obtain ⟨p1, m1, rfl, _⟩ := h
    rfl
  · obtain ⟨p1, m1, rfl, h⟩ := h
    refine ⟨_, (pss_cons (ps_asg (pe_op op_addL (pe_ix (ixA (K := K) rfl) (pv 0) pe_int (fun _ _ => rfl)) pe_int) (pg_sub (pv 0) pe_int set_list))
  (pss_cons (ps_if (PW.pt (pw_and (pt_cmpR op_eq (pe_ix (ixA (K := K) rfl) (pv 0) pe_int (fun _ _ => rfl)) pe_int (nomark _)) (pw_and1 (pt_cmpR op_lt (pe_ix (ixA (K := K) rfl) (pv 0) pe_int (fun _ _ => rfl)) (pe_callB (c_lenK (K := K) rfl) (by rfl) T.n_len (by decide +kernel) (pa_cons (pe_ix (ixA (K := K) rfl) (pv 0) pe_int (fun _ _ => rfl)) pa_nil)) (nomark _)))))
  (pss_cons (ps_set (i := 2) sc_law_draw.nd rfl (by first | exact Or.inl rfl | exact Or.inr rfl) (pe_ix (ixA (K := K) rfl) (pe_ix (ixA (K := K) rfl) (pv 0) pe_int (fun _ _ => rfl)) (pe_ix (ixA (K := K) rfl) (pv 0) pe_int (fun _ _ => rfl)) (fun _ _ => rfl)))
  (pss_cons (ps_asg (pe_op op_addL (pe_ix (ixA (K := K) rfl) (pv 0) pe_int (fun _ _ => rfl)) pe_int) (pg_sub (pv 0) pe_int set_list))
  (pss_one (ps_if (pt_cmpR op_ge (pe_callB c_abs (by rfl) T.n_abs (by decide +kernel) (pa_cons (pv 2) pa_nil)) (pe_op op_pow pe_int pe_int) (nomark _))
  (pss_one (ps_asg (pe_callB c_abs (by rfl) T.n_abs (by decide +kernel) (pa_cons (pv 2) pa_nil)) (pg_sub (pv 0) pe_int set_list)))
  (pss_one (ps_asg (pe_op op_mod (pe_callTy c_int (by rfl) T.n_int (by decide +kernel) (pa_cons (pe_op op_addL (pe_op op_addL (pe_op op_mul (pe_ix (ixA (K := K) rfl) (pv 0) pe_int (fun _ _ => rfl)) pe_int) (pe_op op_mul (pv 2) pe_int)) pe_int) pa_nil)) pe_int) (pg_sub (pv 0) pe_int set_list)))))))
  pss_nil)
  (pss_cons (ps_if (pt_cmpR op_gt (pe_ix (ixA (K := K) rfl) (pv 0) pe_int (fun _ _ => rfl)) pe_int (nomark _))
  (pss_cons (ps_set (i := 3) sc_law_draw.nd rfl (by first | exact Or.inl rfl | exact Or.inr rfl) (pe_op op_mod (pe_callTy c_int (by rfl) T.n_int (by decide +kernel) (pa_cons (pe_ix (ixA (K := K) rfl) (pv 0) pe_int (fun _ _ => rfl)) pa_nil)) (pv 1)))
  (pss_cons (ps_asg (pe_op op_fdivW (pe_ix (ixA (K := K) rfl) (pv 0) pe_int (fun _ _ => rfl)) (pv 1)) (pg_sub (pv 0) pe_int set_list))
  (pss_one (ps_ret (pv 3)))))
  pss_nil)
  (pss_cons (ps_set (i := 4) sc_law_draw.nd rfl (by first | exact Or.inl rfl | exact Or.inr rfl) (pe_op op_mod (pe_callTy c_int (by rfl) T.n_int (by decide +kernel) (pa_cons (pe_op op_addL (pe_ix (ixA (K := K) rfl) (pv 0) pe_int (fun _ _ => rfl)) (pe_op op_mul (pe_ix (ixA (K := K) rfl) (pv 0) pe_int (fun _ _ => rfl)) pe_int)) pa_nil)) pe_int))
  (pss_cons (ps_set (i := 4) sc_law_draw.nd rfl (by first | exact Or.inl rfl | exact Or.inr rfl) (pe_op op_mod (pe_callTy c_int (by rfl) T.n_int (by decide +kernel) (pa_cons (pe_op op_addL (pe_op op_addL (pe_op op_mulW (pv 4) (pv 4)) (pe_op op_mul (pe_ix (ixA (K := K) rfl) (pv 0) pe_int (fun _ _ => rfl)) pe_int)) pe_int) pa_nil)) pe_int))
  (pss_cons (ps_set (i := 4) sc_law_draw.nd rfl (by first | exact Or.inl rfl | exact Or.inr rfl) (pe_op op_mod (pe_callTy c_int (by rfl) T.n_int (by decide +kernel) (pa_cons (pe_op op_addL (pe_op op_addL (pe_op op_mulW (pv 4) (pv 4)) (pe_ix (ixA (K := K) rfl) (pv 0) pe_int (fun _ _ => rfl))) pe_int) pa_nil)) pe_int))
  (pss_one (ps_ret (pe_op op_mod (pe_callTy c_int (by rfl) T.n_int (by decide +kernel) (pa_cons (pe_op op_fdivW (pv 4) pe_int) pa_nil)) (pv 1)))))))))), ?_⟩
    rw [show start ["pool", "many", "cell", "got", "one"] [.ref p1, .int m1] = [some (.ref p1), some (.int m1), none, none, none] from rfl]
    obtain ⟨l, ⟨ns, i, x, c, e, hC⟩, m0, mm, k⟩ := h
    have hne := hC.ne
    obtain ⟨h1, h2, i0⟩ := hC
    walk_at "go"
    refine ite2 (fun hx => ?_) (fun hx => ?_)
    · walk_at "go"
      refine ite2 (fun hi => ?_) (fun hi => ?_)
      · obtain ⟨n, hn⟩ := atI_map i0 hi
        walk_at "go"
        refine Wp.ixal (by walk_at "hp") hn ?_
        walk_at "go"
        refine ite2 (fun hb => ?_) (fun hb => ?_)
        · walk_at "go"
          refine ite2 (fun hp => ?_) (fun hp => ?_)
          · walk_at "go"
            refine ⟨wide_div m0 mm (by decide) (by decide), ?_⟩
            walk_at "go"
            exact k _ _ (Int.emod_nonneg _ (by omega)) (Int.emod_lt_of_pos _ m0) ⟨ns, _, _, _, _, upd_same, u_ne hne h2, (by omega)⟩ But.refl.upd
          · walk_at "go"
            exact k _ _ (Int.emod_nonneg _ (by omega)) (Int.emod_lt_of_pos _ m0) ⟨ns, _, _, _, _, upd_same, u_ne hne h2, (by omega)⟩ But.refl.upd
        · walk_at "go"
          refine ite2 (fun hp => ?_) (fun hp => ?_)
          · walk_at "go"
            refine ⟨wide_div m0 mm (by decide) (by decide), ?_⟩
            walk_at "go"
            exact k _ _ (Int.emod_nonneg _ (by omega)) (Int.emod_lt_of_pos _ m0) ⟨ns, _, _, _, _, upd_same, u_ne hne h2, (by omega)⟩ But.refl.upd
          · walk_at "go"
            exact k _ _ (Int.emod_nonneg _ (by omega)) (Int.emod_lt_of_pos _ m0) ⟨ns, _, _, _, _, upd_same, u_ne hne h2, (by omega)⟩ But.refl.upd
      · walk_at "go"
        refine ite2 (fun hp => ?_) (fun hp => ?_)
        · walk_at "go"
          refine ⟨wide_div m0 mm (by decide) (by decide), ?_⟩
          walk_at "go"
          exact k _ _ (Int.emod_nonneg _ (by omega)) (Int.emod_lt_of_pos _ m0) ⟨ns, _, _, _, _, upd_same, u_ne hne h2, i0⟩ But.refl.upd
        · walk_at "go"
          exact k _ _ (Int.emod_nonneg _ (by omega)) (Int.emod_lt_of_pos _ m0) ⟨ns, _, _, _, _, upd_same, u_ne hne h2, i0⟩ But.refl.upd
    · walk_at "go"
      refine ite2 (fun hp => ?_) (fun hp => ?_)
      · walk_at "go"
        refine ⟨wide_div m0 mm (by decide) (by decide), ?_⟩
        walk_at "go"
        exact k _ _ (Int.emod_nonneg _ (by omega)) (Int.emod_lt_of_pos _ m0) ⟨ns, _, _, _, _, upd_same, u_ne hne h2, i0⟩ But.refl.upd
      · walk_at "go"
        exact k _ _ (Int.emod_nonneg _ (by omega)) (Int.emod_lt_of_pos _ m0) ⟨ns, _, _, _, _, upd_same, u_ne hne h2, i0⟩ But.refl.upd
theorem ok_law_pick {f : Addr} {fd : FuncData} (F : Fun K "_law_pick" "_law_pick" s_law_pick f fd) (T : Txt mg) (G_law_draw : Def P w K mg base 1 "_law_draw" ["pool", "many"] (spDrawL)) : FnOk P w K mg base CX0 2 f fd ["pool", "row"] (spPick) := by
  refine F.ok sc_law_pick (fun vs H Q E h => ?_) (fun cdv A outer s H vs Q E hr h => ?_)
  · obtain ⟨p1, a1, rfl, _⟩ := h
    rfl
  · obtain ⟨p1, a1, rfl, h⟩ := h
    refine ⟨_, (pss_one (ps_ret (pe_ix (ixA (K := K) rfl) (pv 1) (G_law_draw.call (hr.mono (by omega)) (by rfl) (pa_cons (pv 0) (pa_cons (pe_callB (c_lenK (K := K) rfl) (by rfl) T.n_len (by decide +kernel) (pa_cons (pv 1) pa_nil)) pa_nil))) (fun _ _ => rfl)))), ?_⟩
    rw [show start ["pool", "row"] [.ref p1, .ref a1] = [some (.ref p1), some (.ref a1)] from rfl]
    obtain ⟨l, xs, hp, ha, hne, h0, h9, k⟩ := h
    walk_at "go"
    refine ⟨_, _, rfl, l, hp, by omega, by omega, fun r H' r0 r9 hp' bt => ?_⟩
    walk_at "go"
    obtain ⟨n, rfl⟩ : ∃ n : Nat, r = (n : Int) := ⟨r.toNat, by omega⟩
    have hn : n < xs.length := by omega
    refine Wp.ixal ((bt a1 hne).trans ha) (atI_nat (List.getElem?_eq_getElem hn)) ?_
    exact k n _ _ (List.getElem?_eq_getElem hn) hp' bt
theorem ok_law_rare {f : Addr} {fd : FuncData} (F : Fun K "_law_rare" "_law_rare" s_law_rare f fd) (T : Txt mg) (G_law_draw : Def P w K mg base 1 "_law_draw" ["pool", "many"] (spDrawL)) : FnOk P w K mg base CX0 2 f fd ["pool", "many"] (spRare) := by
  refine F.ok sc_law_rare (fun vs H Q E h => ?_) (fun cdv A outer s H vs Q E hr h => ?_)
  · obtain ⟨p1, m1, rfl, _⟩ := h
    rfl
  · obtain ⟨p1, m1, rfl, h⟩ := h
    refine ⟨_, (pss_one (ps_ret (pe_cmpR op_eq (G_law_draw.call (hr.mono (by omega)) (by rfl) (pa_cons (pv 0) (pa_cons (pv 1) pa_nil))) (pe_op op_sub (pv 1) pe_int) (nomark _)))), ?_⟩
    rw [show start ["pool", "many"] [.ref p1, .int m1] = [some (.ref p1), some (.int m1)] from rfl]
    obtain ⟨l, hp, h0, h9, k⟩ := h
    walk_at "go"
    refine ⟨_, _, rfl, l, hp, by omega, by omega, fun r H' r0 r9 hp' bt => ?_⟩
    walk_at "go"
    exact k _ _ hp' bt
theorem ok_law_few {f : Addr} {fd : FuncData} (F : Fun K "_law_few" "_law_few" s_law_few f fd) (T : Txt mg) (G_law_draw : Def P w K mg base 1 "_law_draw" ["pool", "many"] (spDrawL)) (G_law_rare : Def P w K mg base 2 "_law_rare" ["pool", "many"] (spRare)) : FnOk P w K mg base CX0 3 f fd ["pool", "usual", "most"] (spFew) := by
  refine F.ok sc_law_few (fun vs H Q E h => ?_) (fun cdv A outer s H vs Q E hr h => ?_)
  · obtain ⟨p1, u1, m1, rfl, _⟩ := h
    rfl
  · obtain ⟨p1, u1, m1, rfl, h⟩ := h
    refine ⟨_, (pss_cons (ps_if (pt_val (G_law_rare.call (hr.mono (by omega)) (by rfl) (pa_cons (pv 0) (pa_cons pe_int pa_nil))))
  (pss_one (ps_ret (G_law_draw.call (hr.mono (by omega)) (by rfl) (pa_cons (pv 0) (pa_cons (pe_op op_addL (pv 2) pe_int) pa_nil)))))
  pss_nil)
  (pss_one (ps_ret (G_law_draw.call (hr.mono (by omega)) (by rfl) (pa_cons (pv 0) (pa_cons (pe_op op_addL (pv 1) pe_int) pa_nil)))))), ?_⟩
    rw [show start ["pool", "usual", "most"] [.ref p1, .int u1, .int m1] = [some (.ref p1), some (.int u1), some (.int m1)] from rfl]
    obtain ⟨l, hp, u0, um, h9, k⟩ := h
    walk_at "go"
    refine ⟨_, _, rfl, l, hp, by decide, by decide, fun b H' hp' bt => ?_⟩
    walk_at "go"
    cases b with
    | true =>
      walk_at "go"
      refine ⟨_, _, rfl, l, hp', by omega, by omega, fun r H2 r0 r9 hp2 bt2 => ?_⟩
      exact k _ _ r0 (by omega) hp2 (bt.trans bt2)
    | false =>
      walk_at "go"
      refine ⟨_, _, rfl, l, hp', by omega, by omega, fun r H2 r0 r9 hp2 bt2 => ?_⟩
      exact k _ _ r0 (by omega) hp2 (bt.trans bt2)
theorem ok_law_int {f : Addr} {fd : FuncData} (F : Fun K "_law_int" "_law_int" s_law_int f fd) (T : Txt mg) : FnOk P w K mg base CX0 1 f fd ["got"] (spInt) := by
  refine F.ok sc_law_int (fun vs H Q E h => ?_) (fun cdv A outer s H vs Q E hr h => ?_)
  · obtain ⟨i1, rfl, _⟩ := h
    rfl
  · obtain ⟨i1, rfl, h⟩ := h
    refine ⟨_, (pss_one (ps_ret (pe_and (pe_callB (call_isiK (K := K) rfl) (by rfl) T.n_isinstance (by decide +kernel) (pa_cons (pv 0) (pa_cons (pe_bltn (v := .ty "int") (by rfl) T.n_int (by decide +kernel) rfl) pa_nil))) (pe_one (pe_not (pe_callB (call_isiK (K := K) rfl) (by rfl) T.n_isinstance (by decide +kernel) (pa_cons (pv 0) (pa_cons (pe_bltn (v := .ty "bool") (by rfl) T.n_bool (by decide +kernel) rfl) pa_nil)))))))), ?_⟩
    rw [show start ["got"] [.int i1] = [some (.int i1)] from rfl]
    walk_at "go"
    exact h
theorem ok_law_same0 {f : Addr} {fd : FuncData} (F : Fun K "_law_same" "_law_same" s_law_same f fd) (T : Txt mg) (G_law_same : Def P w K mg base 0 "_law_same" ["got", "due"] (fun _ _ _ _ => False)) : FnOk P w K mg base CX0 1 f fd ["got", "due"] (spSame 0) := by
  refine F.ok sc_law_same (fun vs H Q E h => ?_) (fun cdv A outer s H vs Q E hr h => ?_)
  · obtain ⟨x, y, rfl, _⟩ := h
    rfl
  · obtain ⟨x, y, rfl, h⟩ := h
    refine ⟨_, (pss_cons (ps_if (pt_cmpR o_isN (pv 1) pe_non (nomark _))
  (pss_one (ps_ret (pe_cmpR o_isN (pv 0) pe_non (nomark _))))
  pss_nil)
  (pss_cons (ps_if (pt_cmpR op_isT (pv 1) pe_bl (nomark _))
  (pss_one (ps_ret (pe_cmpR op_isT (pv 0) pe_bl (nomark _))))
  pss_nil)
  (pss_cons (ps_if (pt_cmpR op_isT (pv 1) pe_bl (nomark _))
  (pss_one (ps_ret (pe_cmpR op_isT (pv 0) pe_bl (nomark _))))
  pss_nil)
  (pss_cons (ps_if (pt_val (pe_callB (call_isiK (K := K) rfl) (by rfl) T.n_isinstance (by decide +kernel) (pa_cons (pv 1) (pa_cons (pe_bltn (v := .ty "int") (by rfl) T.n_int (by decide +kernel) rfl) pa_nil))))
  (pss_one (ps_ret (pe_and (pe_callB (call_isiK (K := K) rfl) (by rfl) T.n_isinstance (by decide +kernel) (pa_cons (pv 0) (pa_cons (pe_bltn (v := .ty "int") (by rfl) T.n_int (by decide +kernel) rfl) pa_nil))) (pe_and (pe_not (pe_callB (call_isiK (K := K) rfl) (by rfl) T.n_isinstance (by decide +kernel) (pa_cons (pv 0) (pa_cons (pe_bltn (v := .ty "bool") (by rfl) T.n_bool (by decide +kernel) rfl) pa_nil)))) (pe_one (pe_cmpR op_eq (pv 0) (pv 1) (nomark _)))))))
  pss_nil)
  (pss_cons (ps_if (pt_val (pe_callB (call_isiK (K := K) rfl) (by rfl) T.n_isinstance (by decide +kernel) (pa_cons (pv 1) (pa_cons (pe_bltn (v := .ty "str") (by rfl) T.n_str (by decide +kernel) rfl) pa_nil))))
  (pss_one (ps_ret (pe_and (pe_callB (call_isiK (K := K) rfl) (by rfl) T.n_isinstance (by decide +kernel) (pa_cons (pv 0) (pa_cons (pe_bltn (v := .ty "str") (by rfl) T.n_str (by decide +kernel) rfl) pa_nil))) (pe_one (pe_cmpR op_eq (pv 0) (pv 1) (nomark _))))))
  pss_nil)
  (pss_cons (ps_if (pt_val (pe_callB (call_isiK (K := K) rfl) (by rfl) T.n_isinstance (by decide +kernel) (pa_cons (pv 1) (pa_cons (pe_bltn (v := .ty "tuple") (by rfl) T.n_tuple (by decide +kernel) rfl) pa_nil))))
  (pss_one (ps_if (PW.pt (pw_or (pt_not (pt_val (pe_callB (call_isiK (K := K) rfl) (by rfl) T.n_isinstance (by decide +kernel) (pa_cons (pv 0) (pa_cons (pe_bltn (v := .ty "tuple") (by rfl) T.n_tuple (by decide +kernel) rfl) pa_nil))))) (pw_or1 (pt_cmpR op_ne (pe_callB (c_lenK (K := K) rfl) (by rfl) T.n_len (by decide +kernel) (pa_cons (pv 0) pa_nil)) (pe_callB (c_lenK (K := K) rfl) (by rfl) T.n_len (by decide +kernel) (pa_cons (pv 1) pa_nil)) (nomark _)))))
  (pss_one (ps_ret pe_bl))
  pss_nil))
  (pss_one (ps_if (PW.pt (pw_or (pt_not (pt_val (pe_callB (call_isiK (K := K) rfl) (by rfl) T.n_isinstance (by decide +kernel) (pa_cons (pv 0) (pa_cons (pe_bltn (v := .ty "list") (by rfl) T.n_list (by decide +kernel) rfl) pa_nil))))) (pw_or1 (pt_cmpR op_ne (pe_callB (c_lenK (K := K) rfl) (by rfl) T.n_len (by decide +kernel) (pa_cons (pv 0) pa_nil)) (pe_callB (c_lenK (K := K) rfl) (by rfl) T.n_len (by decide +kernel) (pa_cons (pv 1) pa_nil)) (nomark _)))))
  (pss_one (ps_ret pe_bl))
  pss_nil)))
  (pss_cons (ps_for PassesOwn.never rfl (pi_range1 (by rfl) T.n_range (pa_cons (pe_callB (c_lenK (K := K) rfl) (by rfl) T.n_len (by decide +kernel) (pa_cons (pv 1) pa_nil)) pa_nil)) (pg_name (i := 2) sc_law_same.nd rfl (by first | exact Or.inl rfl | exact Or.inr rfl))
  (pss_one (ps_if (pt_not (pt_val (G_law_same.call (hr.mono (by omega)) (by rfl) (pa_cons (pe_ix (ixA (K := K) rfl) (pv 0) (pv 2) (fun _ _ => rfl)) (pa_cons (pe_ix (ixA (K := K) rfl) (pv 1) (pv 2) (fun _ _ => rfl)) pa_nil)))))
  (pss_one (ps_ret pe_bl))
  pss_nil)))
  (pss_one (ps_ret pe_bl))))))))), ?_⟩
    rw [show start ["got", "due", "k"] [x, y] = [some (x), some (y), none] from rfl]
    obtain ⟨d, hx, hy, q⟩ := h
    cases d with
    | non => simp only [Rep] at hx hy; subst hx hy; walk_at "go"; exact q
    | bl b =>
      simp only [Rep] at hx hy; subst hx hy
      cases b
      · walk_at "go"; exact q
      · walk_at "go"; exact q
    | int i => simp only [Rep] at hx hy; subst hx hy; walk_at "go"; exact q
    | str i => simp only [Rep] at hx hy; subst hx hy; walk_at "go"; exact q
    | lst ds =>
      simp only [Rep] at hx
    | tup ds =>
      simp only [Rep] at hx
theorem ok_law_sameS {n : Nat} {f : Addr} {fd : FuncData} (F : Fun K "_law_same" "_law_same" s_law_same f fd) (T : Txt mg) (G_law_same : Def P w K mg base (n + 1) "_law_same" ["got", "due"] (spSame n)) : FnOk P w K mg base CX0 (n + 2) f fd ["got", "due"] (spSame (n + 1)) := by
  refine F.ok sc_law_same (fun vs H Q E h => ?_) (fun cdv A outer s H vs Q E hr h => ?_)
  · obtain ⟨x, y, rfl, _⟩ := h
    rfl
  · obtain ⟨x, y, rfl, h⟩ := h
    refine ⟨_, (pss_cons (ps_if (pt_cmpR o_isN (pv 1) pe_non (nomark _))
  (pss_one (ps_ret (pe_cmpR o_isN (pv 0) pe_non (nomark _))))
  pss_nil)
  (pss_cons (ps_if (pt_cmpR op_isT (pv 1) pe_bl (nomark _))
  (pss_one (ps_ret (pe_cmpR op_isT (pv 0) pe_bl (nomark _))))
  pss_nil)
  (pss_cons (ps_if (pt_cmpR op_isT (pv 1) pe_bl (nomark _))
  (pss_one (ps_ret (pe_cmpR op_isT (pv 0) pe_bl (nomark _))))
  pss_nil)
  (pss_cons (ps_if (pt_val (pe_callB (call_isiK (K := K) rfl) (by rfl) T.n_isinstance (by decide +kernel) (pa_cons (pv 1) (pa_cons (pe_bltn (v := .ty "int") (by rfl) T.n_int (by decide +kernel) rfl) pa_nil))))
  (pss_one (ps_ret (pe_and (pe_callB (call_isiK (K := K) rfl) (by rfl) T.n_isinstance (by decide +kernel) (pa_cons (pv 0) (pa_cons (pe_bltn (v := .ty "int") (by rfl) T.n_int (by decide +kernel) rfl) pa_nil))) (pe_and (pe_not (pe_callB (call_isiK (K := K) rfl) (by rfl) T.n_isinstance (by decide +kernel) (pa_cons (pv 0) (pa_cons (pe_bltn (v := .ty "bool") (by rfl) T.n_bool (by decide +kernel) rfl) pa_nil)))) (pe_one (pe_cmpR op_eq (pv 0) (pv 1) (nomark _)))))))
  pss_nil)
  (pss_cons (ps_if (pt_val (pe_callB (call_isiK (K := K) rfl) (by rfl) T.n_isinstance (by decide +kernel) (pa_cons (pv 1) (pa_cons (pe_bltn (v := .ty "str") (by rfl) T.n_str (by decide +kernel) rfl) pa_nil))))
  (pss_one (ps_ret (pe_and (pe_callB (call_isiK (K := K) rfl) (by rfl) T.n_isinstance (by decide +kernel) (pa_cons (pv 0) (pa_cons (pe_bltn (v := .ty "str") (by rfl) T.n_str (by decide +kernel) rfl) pa_nil))) (pe_one (pe_cmpR op_eq (pv 0) (pv 1) (nomark _))))))
  pss_nil)
  (pss_cons (ps_if (pt_val (pe_callB (call_isiK (K := K) rfl) (by rfl) T.n_isinstance (by decide +kernel) (pa_cons (pv 1) (pa_cons (pe_bltn (v := .ty "tuple") (by rfl) T.n_tuple (by decide +kernel) rfl) pa_nil))))
  (pss_one (ps_if (PW.pt (pw_or (pt_not (pt_val (pe_callB (call_isiK (K := K) rfl) (by rfl) T.n_isinstance (by decide +kernel) (pa_cons (pv 0) (pa_cons (pe_bltn (v := .ty "tuple") (by rfl) T.n_tuple (by decide +kernel) rfl) pa_nil))))) (pw_or1 (pt_cmpR op_ne (pe_callB (c_lenK (K := K) rfl) (by rfl) T.n_len (by decide +kernel) (pa_cons (pv 0) pa_nil)) (pe_callB (c_lenK (K := K) rfl) (by rfl) T.n_len (by decide +kernel) (pa_cons (pv 1) pa_nil)) (nomark _)))))
  (pss_one (ps_ret pe_bl))
  pss_nil))
  (pss_one (ps_if (PW.pt (pw_or (pt_not (pt_val (pe_callB (call_isiK (K := K) rfl) (by rfl) T.n_isinstance (by decide +kernel) (pa_cons (pv 0) (pa_cons (pe_bltn (v := .ty "list") (by rfl) T.n_list (by decide +kernel) rfl) pa_nil))))) (pw_or1 (pt_cmpR op_ne (pe_callB (c_lenK (K := K) rfl) (by rfl) T.n_len (by decide +kernel) (pa_cons (pv 0) pa_nil)) (pe_callB (c_lenK (K := K) rfl) (by rfl) T.n_len (by decide +kernel) (pa_cons (pv 1) pa_nil)) (nomark _)))))
  (pss_one (ps_ret pe_bl))
  pss_nil)))
  (pss_cons (ps_for PassesOwn.never rfl (pi_range1 (by rfl) T.n_range (pa_cons (pe_callB (c_lenK (K := K) rfl) (by rfl) T.n_len (by decide +kernel) (pa_cons (pv 1) pa_nil)) pa_nil)) (pg_name (i := 2) sc_law_same.nd rfl (by first | exact Or.inl rfl | exact Or.inr rfl))
  (pss_one (ps_if (pt_not (pt_val (G_law_same.call (hr.mono (by omega)) (by rfl) (pa_cons (pe_ix (ixA (K := K) rfl) (pv 0) (pv 2) (fun _ _ => rfl)) (pa_cons (pe_ix (ixA (K := K) rfl) (pv 1) (pv 2) (fun _ _ => rfl)) pa_nil)))))
  (pss_one (ps_ret pe_bl))
  pss_nil)))
  (pss_one (ps_ret pe_bl))))))))), ?_⟩
    rw [show start ["got", "due", "k"] [x, y] = [some (x), some (y), none] from rfl]
    obtain ⟨d, hx, hy, q⟩ := h
    cases d with
    | non => simp only [Rep] at hx hy; subst hx hy; walk_at "go"; exact q
    | bl b =>
      simp only [Rep] at hx hy; subst hx hy
      cases b
      · walk_at "go"; exact q
      · walk_at "go"; exact q
    | int i => simp only [Rep] at hx hy; subst hx hy; walk_at "go"; exact q
    | str i => simp only [Rep] at hx hy; subst hx hy; walk_at "go"; exact q
    | lst ds =>
      simp only [Rep] at hx hy
      obtain ⟨a, xs, rfl, ha, hla, hza, hxa⟩ := hx
      obtain ⟨b, ys, rfl, hb, hlb, hzb, hxb⟩ := hy
      walk_at "go"
      refine ite_f (by omega) ?_
      walk_at "go"
      refine ⟨by omega, ?_⟩
      refine loopR (PvSame H (.ref a) (.ref b)) ⟨rfl, _, rfl⟩ ?_ ?_
      · rintro i σ' H' hi ⟨rfl, v, rfl⟩
        walk_at "go"
        have h1 : i < xs.length := by omega
        have h2 : i < ys.length := by omega
        have h3 : i < ds.length := by omega
        refine ixal (by walk_at "hp") (atI_nat (List.getElem?_eq_getElem h1)) ?_
        walk_at "go"
        refine ixal (by walk_at "hp") (atI_nat (List.getElem?_eq_getElem h2)) ?_
        walk_at "go"
        refine ⟨_, _, rfl, ds[i], hxa i _ _ (List.getElem?_eq_getElem h1) (List.getElem?_eq_getElem h3), hxb i _ _ (List.getElem?_eq_getElem h2) (List.getElem?_eq_getElem h3), ?_⟩
        walk_at "go"
        exact ⟨rfl, _, rfl⟩
      · rintro σ' H' ⟨rfl, v, rfl⟩
        walk_at "go"
        exact q
    | tup ds =>
      simp only [Rep] at hx hy
      obtain ⟨a, xs, rfl, ha, hla, hza, hxa⟩ := hx
      obtain ⟨b, ys, rfl, hb, hlb, hzb, hxb⟩ := hy
      walk_at "go"
      refine ite_f (by omega) ?_
      walk_at "go"
      refine ⟨by omega, ?_⟩
      refine loopR (PvSame H (.ref a) (.ref b)) ⟨rfl, _, rfl⟩ ?_ ?_
      · rintro i σ' H' hi ⟨rfl, v, rfl⟩
        walk_at "go"
        have h1 : i < xs.length := by omega
        have h2 : i < ys.length := by omega
        have h3 : i < ds.length := by omega
        refine ixat (by walk_at "hp") (atI_nat (List.getElem?_eq_getElem h1)) ?_
        walk_at "go"
        refine ixat (by walk_at "hp") (atI_nat (List.getElem?_eq_getElem h2)) ?_
        walk_at "go"
        refine ⟨_, _, rfl, ds[i], hxa i _ _ (List.getElem?_eq_getElem h1) (List.getElem?_eq_getElem h3), hxb i _ _ (List.getElem?_eq_getElem h2) (List.getElem?_eq_getElem h3), ?_⟩
        walk_at "go"
        exact ⟨rfl, _, rfl⟩
      · rintro σ' H' ⟨rfl, v, rfl⟩
        walk_at "go"
        exact q
end
end K41
namespace K41
open PySem L2 Wp
theorem OkR.of {a b c : Int} (h1 : 0 ≤ a) (h2 : a ≤ 1000) (h3 : 0 ≤ b) (h4 : b ≤ 1000) (h5 : 0 ≤ c) (h6 : c ≤ a) : OkR (a, b, c) := ⟨h1, h2, h3, h4, h5, h6⟩
theorem at0 {r : Row} : atI (rowV r) 0 = some (V.int r.1) := by rfl
theorem at1 {r : Row} : atI (rowV r) 1 = some (V.int r.2.1) := by rfl
theorem at2 {r : Row} : atI (rowV r) 2 = some (V.int r.2.2) := by rfl
section
variable {P : Program} {w : World} {K : PySem.W.Frag} {mg : Str → Option Value} {base : Heap}
theorem ok_law_gaps {f : Addr} {fd : FuncData} (F : Fun K "_law_gaps" "_law_gaps" s_law_gaps f fd) (T : Txt mg) (G_law_pick : Def P w K mg base 2 "_law_pick" ["pool", "row"] (spPick)) (G_law_draw : Def P w K mg base 1 "_law_draw" ["pool", "many"] (spDrawL)) (G_law_few : Def P w K mg base 3 "_law_few" ["pool", "usual", "most"] (spFew)) (G_law_rare : Def P w K mg base 2 "_law_rare" ["pool", "many"] (spRare)) : FnOk P w K mg base CX0 4 f fd ["pool"] (spGaps) := by
  refine F.ok sc_law_gaps (fun vs H Q E h => ?_) (fun cdv A outer s H vs Q E hr h => ?_)
  · obtain ⟨p, rfl, _⟩ := h
    rfl
  · obtain ⟨p, rfl, h⟩ := h
    refine ⟨_, (pss_cons (ps_set (i := 1) sc_law_gaps.nd rfl (by first | exact Or.inl rfl | exact Or.inr rfl) (G_law_pick.call (hr.mono (by omega)) (by rfl) (pa_cons (pv 0) (pa_cons (pe_lst (pa_cons pe_int (pa_cons pe_int (pa_cons pe_int (pa_cons pe_int (pa_cons pe_int pa_nil)))))) pa_nil))))
  (pss_cons (ps_set (i := 2) sc_law_gaps.nd rfl (by first | exact Or.inl rfl | exact Or.inr rfl) (pe_cmpR op_eq (G_law_draw.call (hr.mono (by omega)) (by rfl) (pa_cons (pv 0) (pa_cons pe_int pa_nil))) pe_int (nomark _)))
  (pss_cons (ps_set (i := 3) sc_law_gaps.nd rfl (by first | exact Or.inl rfl | exact Or.inr rfl) (pe_cmpR op_eq (G_law_draw.call (hr.mono (by omega)) (by rfl) (pa_cons (pv 0) (pa_cons pe_int pa_nil))) pe_int (nomark _)))
  (pss_cons (ps_set (i := 4) sc_law_gaps.nd rfl (by first | exact Or.inl rfl | exact Or.inr rfl) (pe_lst pa_nil))
  (pss_cons (ps_for PassesOwn.never rfl (pi_range1 (by rfl) T.n_range (pa_cons (G_law_few.call (hr.mono (by omega)) (by rfl) (pa_cons (pv 0) (pa_cons pe_int (pa_cons pe_int pa_nil)))) pa_nil)) (pg_name (i := 5) sc_law_gaps.nd rfl (by first | exact Or.inl rfl | exact Or.inr rfl))
  (pss_cons (ps_set (i := 6) sc_law_gaps.nd rfl (by first | exact Or.inl rfl | exact Or.inr rfl) (G_law_draw.call (hr.mono (by omega)) (by rfl) (pa_cons (pv 0) (pa_cons (pe_op op_addL (pv 1) pe_int) pa_nil))))
  (pss_cons (ps_set (i := 7) sc_law_gaps.nd rfl (by first | exact Or.inl rfl | exact Or.inr rfl) (G_law_draw.call (hr.mono (by omega)) (by rfl) (pa_cons (pv 0) (pa_cons (pe_op op_addL (pv 1) pe_int) pa_nil))))
  (pss_cons (ps_set (i := 8) sc_law_gaps.nd rfl (by first | exact Or.inl rfl | exact Or.inr rfl) (G_law_draw.call (hr.mono (by omega)) (by rfl) (pa_cons (pv 0) (pa_cons (pe_op op_addL (pv 6) pe_int) pa_nil))))
  (pss_cons (ps_if (pt_tru (K := K) rfl (pv 2))
  (pss_one (ps_set (i := 7) sc_law_gaps.nd rfl (by first | exact Or.inl rfl | exact Or.inr rfl) pe_int))
  pss_nil)
  (pss_cons (ps_if (pt_tru (K := K) rfl (pv 3))
  (pss_one (ps_set (i := 8) sc_law_gaps.nd rfl (by first | exact Or.inl rfl | exact Or.inr rfl) pe_int))
  pss_nil)
  (pss_one (ps_expr (pe_bmK (K := K) rfl PySem.F.plainAttrs_list PySem.F.slot_list_append PySem.F.type_list_append mt_append (pv 4) (pa_cons (pe_tup (pa_cons (pv 6) (pa_cons (pv 7) (pa_cons (pv 8) pa_nil)))) pa_nil))))))))))
  (pss_cons (ps_if (pt_val (G_law_rare.call (hr.mono (by omega)) (by rfl) (pa_cons (pv 0) (pa_cons pe_int pa_nil))))
  (pss_one (ps_set (i := 4) sc_law_gaps.nd rfl (by first | exact Or.inl rfl | exact Or.inr rfl) (pe_op op_rep (pv 4) (pe_op op_addL pe_int (G_law_draw.call (hr.mono (by omega)) (by rfl) (pa_cons (pv 0) (pa_cons pe_int pa_nil)))))))
  pss_nil)
  (pss_one (ps_ret (pv 4))))))))), ?_⟩
    rw [show start ["pool", "top", "stiff", "firm", "rows", "k", "natural", "stretch", "shrink"] [.ref p] = [some (.ref p), none, none, none, none, none, none, none, none] from rfl]
    obtain ⟨l, hp, k⟩ := h
    walk_at "go"
    intro q hq
    have nqp := hp.nep hq
    walk_at "go"
    refine ⟨_, _, rfl, l, _, hp.new hq, upd_same, nqp, by decide, by decide, fun j x H1 hx hp1 bt1 => ?_⟩
    obtain ⟨top, rfl, t0, t9⟩ : ∃ t, x = V.int t ∧ 0 ≤ t ∧ t ≤ 1000 := by
      have := List.mem_of_getElem? hx
      simp only [List.mem_cons, List.not_mem_nil, or_false] at this
      rcases this with rfl | rfl | rfl | rfl | rfl
      all_goals exact ⟨_, rfl, by omega, by omega⟩
    have he1 : Ext p H H1 := (Ext.refl.new' hq).trans bt1.ext
    walk_at "go"
    refine ⟨_, _, rfl, l, hp1, by decide, by decide, fun w1 H2 _ _ hp2 bt2 => ?_⟩
    walk_at "go"
    refine ⟨_, _, rfl, l, hp2, by decide, by decide, fun w2 H3 _ _ hp3 bt3 => ?_⟩
    have he3 := (he1.trans bt2.ext).trans bt3.ext
    walk_at "go"
    intro c hc3
    have ncp := hp3.nep hc3
    have ncl := hp3.nel hc3
    have hc : H c = none := Ext.free he3 hc3 ncp
    walk_at "go"
    refine ⟨_, _, _, rfl, l, hp3.new hc3, by decide, by decide, by decide, fun m H4 m0 m9 hp4 bt4 => ?_⟩
    have he4 := (he3.new' (o := .lst []) hc3).trans bt4.ext
    walk_at "go"
    refine ⟨by omega, ?_⟩
    refine loopR (PvG H p l c top (decide (w1 = 3)) (decide (w2 = 3))) ⟨hp4, he4, [], _, _, _, _, rfl, ⟨bt4.get ncp upd_same, (fun z hz => by cases hz), (by simp), (fun z hz => by cases hz)⟩, by simp⟩ ?_ ?_
    · rintro i σ' H' hi ⟨hp', he', zs, v5, v6, v7, v8, rfl, hr', hlen⟩
      walk_at "go"
      refine ⟨_, _, rfl, l, hp', by omega, by omega, fun n H5 n0 n9 hp5 bt5 => ?_⟩
      have hr6 := hr'.ext hp' ncp bt5.ext
      have he6 := he'.trans bt5.ext
      walk_at "go"
      refine ⟨_, _, rfl, l, hp5, by omega, by omega, fun st H6 st0 st9 hp6 bt6 => ?_⟩
      have hr7 := hr6.ext hp5 ncp bt6.ext
      have he7 := he6.trans bt6.ext
      walk_at "go"
      refine ⟨_, _, rfl, l, hp6, by omega, by omega, fun sk H7 sk0 sk9 hp5 bt7 => ?_⟩
      have hr5 := hr7.ext hp6 ncp bt7.ext
      have he5 := he7.trans bt7.ext
      have hat5 := hr5.at_
      walk_at "go"
      refine ite2 (fun e1 => ite2 (fun e2 => ?_) (fun e2 => ?_)) (fun e1 => ite2 (fun e2 => ?_) (fun e2 => ?_))
      · walk_at "go"
        intro t ht
        have hct : c ≠ t := ne_of_none hr5.at_ ht
        refine Wp.apd (u_ne hct hr5.at_) (sz_lt (by simp; omega)) ?_
        walk_at "go"
        exact ⟨(hp5.new ht).upd ncp (fun q => ncl q), (he5.new' ht).mut hc, zs ++ [(t, (n, 0, 0))], _, _, _, _, rfl, hr5.push (r := (n, 0, 0)) ht (OkR.of (by omega) (by omega) (by omega) (by omega) (by omega) (by omega)) (by omega), by rw [List.length_append]; simp; omega⟩
      · walk_at "go"
        intro t ht
        have hct : c ≠ t := ne_of_none hr5.at_ ht
        refine Wp.apd (u_ne hct hr5.at_) (sz_lt (by simp; omega)) ?_
        walk_at "go"
        exact ⟨(hp5.new ht).upd ncp (fun q => ncl q), (he5.new' ht).mut hc, zs ++ [(t, (n, 0, sk))], _, _, _, _, rfl, hr5.push (r := (n, 0, sk)) ht (OkR.of (by omega) (by omega) (by omega) (by omega) (by omega) (by omega)) (by omega), by rw [List.length_append]; simp; omega⟩
      · walk_at "go"
        intro t ht
        have hct : c ≠ t := ne_of_none hr5.at_ ht
        refine Wp.apd (u_ne hct hr5.at_) (sz_lt (by simp; omega)) ?_
        walk_at "go"
        exact ⟨(hp5.new ht).upd ncp (fun q => ncl q), (he5.new' ht).mut hc, zs ++ [(t, (n, st, 0))], _, _, _, _, rfl, hr5.push (r := (n, st, 0)) ht (OkR.of (by omega) (by omega) (by omega) (by omega) (by omega) (by omega)) (by omega), by rw [List.length_append]; simp; omega⟩
      · walk_at "go"
        intro t ht
        have hct : c ≠ t := ne_of_none hr5.at_ ht
        refine Wp.apd (u_ne hct hr5.at_) (sz_lt (by simp; omega)) ?_
        walk_at "go"
        exact ⟨(hp5.new ht).upd ncp (fun q => ncl q), (he5.new' ht).mut hc, zs ++ [(t, (n, st, sk))], _, _, _, _, rfl, hr5.push (r := (n, st, sk)) ht (OkR.of (by omega) (by omega) (by omega) (by omega) (by omega) (by omega)) (by omega), by rw [List.length_append]; simp; omega⟩
    · rintro σ' H' ⟨hp', he', zs, v5, v6, v7, v8, rfl, hr', hlen⟩
      walk_at "go"
      refine ⟨_, _, rfl, l, hp', by decide, by decide, fun b H5 hp5 bt5 => ?_⟩
      have hr5 := hr'.ext hp' ncp bt5.ext
      have he5 := he'.trans bt5.ext
      walk_at "go"
      refine ite2 (fun e1 => ?_) (fun e1 => ?_)
      · walk_at "go"
        refine ⟨_, _, rfl, l, hp5, by decide, by decide, fun r H6 r0 r9 hp6 bt6 => ?_⟩
        have hr6 := hr5.ext hp5 ncp bt6.ext
        have he6 := he5.trans bt6.ext
        walk_at "go"
        refine Wp.repl hr6.at_ (by omega) (sz_le (by rw [List.length_map]; exact Nat.le_trans (Nat.mul_le_mul (by omega : zs.length ≤ 40) (by omega : (1 + r).toNat ≤ 30)) (by decide))) fun d hd => ?_
        walk_at "go"
        exact k _ _ _ (hp6.new hd) (he6.new' hd) (hp6.nep hd) (hr6.rep hd (by omega) (by omega))
      · walk_at "go"
        exact k _ _ _ hp5 he5 ncp hr5
theorem ok_law_slack {f : Addr} {fd : FuncData} (F : Fun K "_law_slack" "_law_slack" s_law_slack f fd) (T : Txt mg) (G_law_draw : Def P w K mg base 1 "_law_draw" ["pool", "many"] (spDrawL)) : FnOk P w K mg base CX0 2 f fd ["pool", "rows"] (spSlack) := by
  refine F.ok sc_law_slack (fun vs H Q E h => ?_) (fun cdv A outer s H vs Q E hr h => ?_)
  · obtain ⟨p, a1, rfl, _⟩ := h
    rfl
  · obtain ⟨p, a1, rfl, h⟩ := h
    refine ⟨_, (pss_cons (ps_set (i := 2) sc_law_slack.nd rfl (by first | exact Or.inl rfl | exact Or.inr rfl) (pe_callB (cr_sumK (K := K) rfl rfl) (by rfl) T.n_sum (by decide +kernel) (pa_cons (pe_lc (own := [("row", 3)]) (g := gName 3) (tt := tYes) (by rfl) sc_law_slack.nd (pi_listK (K := K) rfl (pv 1)) (blkOk_by (own := [("row", 3)]) (N := ["pool", "rows", "give", "row", "way"]) (sc := defScope s_law_slack) (by decide +kernel)) (fun _ _ _ _ _ => pg_name (i := 3) sc_law_slack.nd rfl (by first | exact Or.inl rfl | exact Or.inr rfl)) (fun _ _ _ _ _ => pts_nil) (fun _ _ _ _ _ => (pe_ix (ixA (K := K) rfl) (pv 3) pe_int (fun _ _ => rfl)))) pa_nil)))
  (pss_cons (ps_set (i := 4) sc_law_slack.nd rfl (by first | exact Or.inl rfl | exact Or.inr rfl) (G_law_draw.call (hr.mono (by omega)) (by rfl) (pa_cons (pv 0) (pa_cons pe_int pa_nil))))
  (pss_cons (ps_if (PW.pt (pw_or (pt_cmpR op_lt (pv 4) pe_int (nomark _)) (pw_or1 (PW.pt (pw_and (pt_cmpR op_lt (pv 4) pe_int (nomark _)) (pw_and1 (pt_cmpR op_eq (pv 2) pe_int (nomark _))))))))
  (pss_one (ps_ret (pe_op op_addL pe_int (G_law_draw.call (hr.mono (by omega)) (by rfl) (pa_cons (pv 0) (pa_cons pe_int pa_nil))))))
  pss_nil)
  (pss_cons (ps_if (pt_cmpR op_eq (pv 4) pe_int (nomark _))
  (pss_one (ps_ret (pe_op op_addL pe_int (G_law_draw.call (hr.mono (by omega)) (by rfl) (pa_cons (pv 0) (pa_cons pe_int pa_nil))))))
  pss_nil)
  (pss_cons (ps_if (pt_cmpR op_eq (pv 4) pe_int (nomark _))
  (pss_one (ps_ret (pe_un un_neg (pv 2))))
  pss_nil)
  (pss_cons (ps_if (pt_cmpR op_eq (pv 4) pe_int (nomark _))
  (pss_one (ps_ret (pe_un un_neg (G_law_draw.call (hr.mono (by omega)) (by rfl) (pa_cons (pv 0) (pa_cons (pe_op op_addL (pv 2) pe_int) pa_nil))))))
  pss_nil)
  (pss_one (ps_ret pe_int)))))))), ?_⟩
    rw [show start ["pool", "rows", "give", "row", "way"] [.ref p, .ref a1] = [some (.ref p), some (.ref a1), none, none, none] from rfl]
    obtain ⟨l, zs, hp, nap, hr1, k⟩ := h
    have hat := hr1.at_
    have ht := kS_sum hr1.ok hr1.len
    walk_at "go"
    intro D hD
    refine lcM zs (fun z => V.ref z.1) (fun z => V.int z.2.2.2) hat hD (by have := hr1.len; omega) (fun x => rfl) (fun z hz l R r => ?_) ?_
    · have hrow := hr1.row z hz
      walk_at "go"
      exact r
    rw [kS_map]
    walk_at "go"
    refine ⟨_, _, rfl, l, hp.new hD, by decide, by decide, fun w H2 w0 w9 hp2 bt2 => ?_⟩
    have he2 : Ext p H H2 := (Ext.refl.new' hD).trans bt2.ext
    have one : ∀ (m : Int), 0 < m → m ≤ 10000 → spDrawL [V.ref p, V.int m] H2 (fun x H' => rAddL (.int 1) x H' Q) (fun _ _ _ => False) := fun m h0 h9 => ⟨_, _, rfl, l, hp2, h0, by omega, fun r H3 r0 r9 hp3 bt3 => Or.inl ⟨1, r, rfl, rfl, k _ _ hp3 (he2.trans bt3.ext) ⟨by omega, by omega⟩⟩⟩
    walk_at "go"
    refine ite2 (fun e1 => one 60 (by decide) (by decide)) (fun e1 => ?_)
    refine ite2 (fun e2 => ite2 (fun e3 => one 60 (by decide) (by decide)) (fun e3 => ?_)) (fun e2 => ?_)
    all_goals
      refine ite2 (fun _ => one 10000 (by decide) (by decide)) (fun _ => ite2 (fun _ => k _ _ hp2 he2 ⟨by omega, by omega⟩) (fun _ => ite2 (fun _ => ?_) (fun _ => k _ _ hp2 he2 ⟨by omega, by omega⟩)))
      exact ⟨_, _, rfl, l, hp2, by omega, by omega, fun r H3 r0 r9 hp3 bt3 => ⟨r, rfl, k _ _ hp3 (he2.trans bt3.ext) ⟨by omega, by omega⟩⟩⟩
end
end K41
namespace K41
open PySem L2 Wp

def keyR (r : Row) : List Key := [.inl r.1, .inl r.2.1, .inl r.2.2]
theorem keyR_inj {r q : Row} (h : keyR r = keyR q) : r = q := by
  obtain ⟨a, b, c⟩ := r
  obtain ⟨d, e, f⟩ := q
  unfold keyR at h
  injection h with h1 h
  injection h with h2 h
  injection h with h3 h
  cases h1
  cases h2
  cases h3
  rfl
theorem rowV_key (r : Row) : rowV r = (keyR r).map kV := rfl
def DOk (C : Addr) (H : Hp) (kvs : List (List Key × V)) : Prop := ∀ r v, valV kvs (keyR r) = some v → ∃ y dx, v = V.ref y ∧ H y = some (.ins C dx (gf r))
def spGlues (C : Addr) : Sp := fun vs H Q _ => ∃ (a : Addr) (al : Bool), vs = [.ref a, .bl al] ∧ ∃ zs, RowsAt H a zs ∧ ∀ g ys H', Ex H H' → H g = none → GlsAt C H' g ys → rowsOf ys = rowsOf zs → Q (.ref g) H'
def PvL (C : Addr) (H : Hp) (a m g : Addr) (al : Bool) (zs : List (Addr × Row)) : Nat → L2.St → Hp → Prop := fun i σ' H' => Ex H H' ∧ ∃ kvs ys v, σ' = [some (V.ref a), some (V.bl al), some (V.ref m), some (V.ref g), v] ∧ H' m = some (.dT kvs) ∧ kvs.length ≤ i ∧ GlsAt C H' g ys ∧ rowsOf ys = rowsOf (zs.take i) ∧ DOk C H' kvs
theorem GlsAt.push {C : Addr} {H : Hp} {g y dx : Addr} {ys : List (Addr × Row)} {r : Row} (h : GlsAt C H g ys) (hy : H y = some (.ins C dx (gf r))) (ok : OkR r) (hl : ys.length < 1200) : GlsAt C (upd H g (.lst ((ys.map fun z => V.ref z.1) ++ [.ref y]))) g (ys ++ [(y, r)]) := by
  refine ⟨by rw [List.map_append]; exact upd_same, fun z hz => ?_, by rw [List.length_append]; simp; omega, fun z hz => ?_⟩
  · rcases List.mem_append.mp hz with hz | hz
    · obtain ⟨d, h1⟩ := h.row z hz
      have n1 : z.1 ≠ g := fun q => by rw [q, h.at_] at h1; cases h1
      exact ⟨d, u_ne n1 h1⟩
    · rw [List.mem_singleton.mp hz]
      have n1 : y ≠ g := fun q => by rw [q, h.at_] at hy; cases hy
      exact ⟨dx, u_ne n1 hy⟩
  · rcases List.mem_append.mp hz with hz | hz
    · exact h.ok z hz
    · rw [List.mem_singleton.mp hz]
      exact ok
theorem DOk.step {C : Addr} {H H' : Hp} {kvs : List (List Key × V)} (h : DOk C H kvs) (e : ∀ y dx r, H y = some (.ins C dx (gf r)) → H' y = some (.ins C dx (gf r))) : DOk C H' kvs := fun r v hv => by
  obtain ⟨y, dx, e1, e2⟩ := h r v hv
  exact ⟨y, dx, e1, e _ _ _ e2⟩
theorem DOk.put {C : Addr} {H : Hp} {kvs : List (List Key × V)} {r : Row} {y dx : Addr} (h : DOk C H kvs) (hy : H y = some (.ins C dx (gf r))) : DOk C H (putK kvs (keyR r) (.ref y)) := fun q v hv => by
  rw [valV_put] at hv
  split at hv
  · rename_i e
    cases hv
    rw [keyR_inj e]
    exact ⟨y, dx, rfl, hy⟩
  · exact h q v hv
theorem rows_snoc {ys zs : List (Addr × Row)} {i : Nat} {z : Addr × Row} {y : Addr} (h : rowsOf ys = rowsOf (zs.take i)) (hz : zs[i]? = some z) : rowsOf (ys ++ [(y, z.2)]) = rowsOf (zs.take (i + 1)) := by
  have et : zs.take (i + 1) = zs.take i ++ [z] := by rw [List.take_succ, hz]; rfl
  rw [et]
  unfold rowsOf at *
  rw [List.map_append, List.map_append, h]
  rfl
theorem rows_len {ys zs : List (Addr × Row)} (h : rowsOf ys = rowsOf zs) : ys.length = zs.length := by
  have := congrArg List.length h
  unfold rowsOf at this
  rw [List.length_map, List.length_map] at this
  exact this
section
variable {P : Program} {w : World} {K : PySem.W.Frag} {mg : Str → Option Value} {base : Heap}
theorem ok_law_glues {f : Addr} {fd : FuncData} (F : Fun K "_law_glues" "_law_glues" s_law_glues f fd) (T : Txt mg) {C : Addr} (GT : GlT K mg C) (GC_Glue : DefC P w K mg base 1 "Glue" C ["self", "natural", "stretch", "shrink"] (spGinit C)) : FnOk P w K mg base CX0 3 f fd ["rows", "alike"] (spGlues C) := by
  refine F.ok sc_law_glues (fun vs H Q E h => ?_) (fun cdv A outer s H vs Q E hr h => ?_)
  · obtain ⟨a1, al, rfl, _⟩ := h
    rfl
  · obtain ⟨a1, al, rfl, h⟩ := h
    refine ⟨_, (pss_cons (ps_set (i := 2) sc_law_glues.nd rfl (by first | exact Or.inl rfl | exact Or.inr rfl) pe_dnewT)
  (pss_cons (ps_set (i := 3) sc_law_glues.nd rfl (by first | exact Or.inl rfl | exact Or.inr rfl) (pe_lst pa_nil))
  (pss_cons (ps_for PassesOwn.never rfl (pi_listK (K := K) rfl (pv 0)) (pg_name (i := 4) sc_law_glues.nd rfl (by first | exact Or.inl rfl | exact Or.inr rfl))
  (pss_cons (ps_if (PW.pt (pw_or (pt_not (pt_tru (K := K) rfl (pv 1))) (pw_or1 (pt_cmp (pc_dnotin (hu_of hr) (pv 4) (pv 2))))))
  (pss_one (ps_dput (hu_of hr) (pv 2) (pv 4) (GC_Glue.call (hr.mono (by omega)) (by rfl) (pa_cons (pe_ix (ixA (K := K) rfl) (pv 4) pe_int (fun _ _ => rfl)) (pa_cons (pe_ix (ixA (K := K) rfl) (pv 4) pe_int (fun _ _ => rfl)) (pa_cons (pe_ix (ixA (K := K) rfl) (pv 4) pe_int (fun _ _ => rfl)) pa_nil)))) rfl))
  pss_nil)
  (pss_one (ps_expr (pe_bmK (K := K) rfl PySem.F.plainAttrs_list PySem.F.slot_list_append PySem.F.type_list_append mt_append (pv 3) (pa_cons (pe_dget (hu_of hr) (pv 2) (pv 4) (fun _ _ => rfl)) pa_nil))))))
  (pss_one (ps_ret (pv 3)))))), ?_⟩
    rw [show start ["rows", "alike", "made", "glues", "row"] [.ref a1, .bl al] = [some (.ref a1), some (.bl al), none, none, none] from rfl]
    obtain ⟨zs, hr, k⟩ := h
    have hat := hr.at_
    walk_at "go"
    intro m hm
    have nam : a1 ≠ m := ne_of_none hat hm
    walk_at "go"
    intro g hg
    have hg0 : H g = none := by
      cases e : H g with
      | none => rfl
      | some o => rw [u_ne (ne_of_none e hm) e] at hg; cases hg
    have nmg : m ≠ g := ne_of_none upd_same hg
    have hm0 := hm
    have hex0 : Ex H (upd (upd H m (.dT [])) g (.lst [])) := (Ex.refl.new hm).new hg
    have hr0 := hr.ex hex0
    have hrat := hr0.at_
    have hm1 : upd (upd H m (.dT [])) g (.lst []) m = some (.dT []) := u_ne nmg upd_same
    have hg1 : upd (upd H m (.dT [])) g (.lst []) g = some (.lst []) := upd_same
    generalize upd (upd H m (.dT [])) g (.lst []) = H0 at *
    walk_at "go"
    refine loopL (zs.map fun z => V.ref z.1) (PvL C H a1 m g al zs) ⟨hex0, [], [], _, rfl, hm1, Nat.le_refl _, ⟨hg1, (fun z hz => by cases hz), (by simp), (fun z hz => by cases hz)⟩, rfl, (fun r v hv => by cases hv)⟩ (fun i σ' H' hi p => SqL.of (p.1 _ _ hat)) ?_ ?_
    · rintro i x σ' H' hx ⟨he', kvs, ys, v, rfl, hm', hkl, hg', hys, hd'⟩
      obtain ⟨z, hz, rfl⟩ := at_zs hx
      have hzm := List.mem_of_getElem? hz
      have hrow' := he' _ _ (hr.row z hzm)
      have hgat := hg'.at_
      have hil := (List.getElem?_eq_some_iff.mp hz).1
      have hlen := hr.len
      have hyl : ys.length = i := by rw [rows_len hys, List.length_take]; omega
      walk_at "go"
      refine ite2 (fun e1 => ?_) (fun e1 => ?_)
      · walk_at "go"
        intro x dx hx hdx nxd
        refine ⟨_, _, _, _, rfl, dx, upd_same, rfl, ?_⟩
        rw [upd_upd]
        have hxm : H' x = none := hx
        have hnew : upd (upd H' dx (.own x)) x (.ins C dx (gf z.2)) x = some (.ins C dx (gf z.2)) := upd_same
        have hex : Ex H' (upd (upd H' dx (.own x)) x (.ins C dx (gf z.2))) := fun b o hb => u_ne (ne_of_none hb hx) (u_ne (ne_of_none hb hdx) hb)
        have hpe : (((z.2).1, (z.2).2.1, (z.2).2.2) : Row) = z.2 := rfl
        rw [hpe]
        generalize upd (upd H' dx (.own x)) x (.ins C dx (gf z.2)) = H1 at *
        have hm1 := hex _ _ hm'
        have hr1 := hex _ _ hrow'
        have hg1 := hg'.ex hex
        have hd1 : DOk C H1 kvs := hd'.step fun _ _ _ q => hex _ _ q
        have nmr : z.1 ≠ m := fun q => by rw [q, hm'] at hrow'; cases hrow'
        have ngm : g ≠ m := fun q => by rw [q, hm'] at hgat; cases hgat
        have nxm : x ≠ m := (ne_of_none hm' hx).symm
        walk_at "go"
        refine rdputT (k := keyR z.2) hm1 hr1 (sz_lt (by omega)) ?_
        have hm2 : upd H1 m (.dT (putK kvs (keyR z.2) (.ref x))) m = some (.dT (putK kvs (keyR z.2) (.ref x))) := upd_same
        have hx2 : upd H1 m (.dT (putK kvs (keyR z.2) (.ref x))) x = some (.ins C dx (gf z.2)) := u_ne nxm hnew
        have hr2 : upd H1 m (.dT (putK kvs (keyR z.2) (.ref x))) z.1 = some (.tup (rowV z.2)) := u_ne nmr hr1
        have hk : ∀ b d r, H1 b = some (.ins C d (gf r)) → upd H1 m (.dT (putK kvs (keyR z.2) (.ref x))) b = some (.ins C d (gf r)) := fun b d r q => u_ne (fun w => by rw [w, hm1] at q; cases q) q
        have hg2 : GlsAt C (upd H1 m (.dT (putK kvs (keyR z.2) (.ref x)))) g ys := ⟨u_ne ngm hg1.at_, fun w hw => let ⟨d, q⟩ := hg1.row w hw; ⟨d, hk _ _ _ q⟩, hg1.len, hg1.ok⟩
        have hd2 : DOk C (upd H1 m (.dT (putK kvs (keyR z.2) (.ref x)))) (putK kvs (keyR z.2) (.ref x)) := (hd1.step hk).put hx2
        have he2 : Ex H (upd H1 m (.dT (putK kvs (keyR z.2) (.ref x)))) := (he'.trans hex).mut hm0
        have hl2 : (putK kvs (keyR z.2) (.ref x)).length ≤ i + 1 := Nat.le_trans (DSub.putK_len _ _ _) (by omega)
        have hv2 : valV (putK kvs (keyR z.2) (.ref x)) (keyR z.2) = some (V.ref x) := by rw [valV_put, if_pos rfl]
        generalize upd H1 m (.dT (putK kvs (keyR z.2) (.ref x))) = H2 at *
        generalize putK kvs (keyR z.2) (.ref x) = kv2 at *
        have hgat2 := hg2.at_
        walk_at "go"
        refine rdgetT (k := keyR z.2) hm2 hr2 hv2 ?_
        walk_at "go"
        refine ⟨he2.mut hg0, kv2, _, _, rfl, u_ne ngm.symm hm2, hl2, hg2.push hx2 (hr.ok z hzm) (by omega), rows_snoc hys hz, hd2.step fun b d r q => u_ne (fun w => by rw [w, hgat2] at q; cases q) q⟩
      · refine rdnotT (k := keyR z.2) hm' hrow' ?_
        walk_at "go"
        refine ite2 (fun e2 => ?_) (fun e2 => ?_)
        · walk_at "go"
          intro x dx hx hdx nxd
          refine ⟨_, _, _, _, rfl, dx, upd_same, rfl, ?_⟩
          rw [upd_upd]
          have hxm : H' x = none := hx
          have hnew : upd (upd H' dx (.own x)) x (.ins C dx (gf z.2)) x = some (.ins C dx (gf z.2)) := upd_same
          have hex : Ex H' (upd (upd H' dx (.own x)) x (.ins C dx (gf z.2))) := fun b o hb => u_ne (ne_of_none hb hx) (u_ne (ne_of_none hb hdx) hb)
          have hpe : (((z.2).1, (z.2).2.1, (z.2).2.2) : Row) = z.2 := rfl
          rw [hpe]
          generalize upd (upd H' dx (.own x)) x (.ins C dx (gf z.2)) = H1 at *
          have hm1 := hex _ _ hm'
          have hr1 := hex _ _ hrow'
          have hg1 := hg'.ex hex
          have hd1 : DOk C H1 kvs := hd'.step fun _ _ _ q => hex _ _ q
          have nmr : z.1 ≠ m := fun q => by rw [q, hm'] at hrow'; cases hrow'
          have ngm : g ≠ m := fun q => by rw [q, hm'] at hgat; cases hgat
          have nxm : x ≠ m := (ne_of_none hm' hx).symm
          walk_at "go"
          refine rdputT (k := keyR z.2) hm1 hr1 (sz_lt (by omega)) ?_
          have hm2 : upd H1 m (.dT (putK kvs (keyR z.2) (.ref x))) m = some (.dT (putK kvs (keyR z.2) (.ref x))) := upd_same
          have hx2 : upd H1 m (.dT (putK kvs (keyR z.2) (.ref x))) x = some (.ins C dx (gf z.2)) := u_ne nxm hnew
          have hr2 : upd H1 m (.dT (putK kvs (keyR z.2) (.ref x))) z.1 = some (.tup (rowV z.2)) := u_ne nmr hr1
          have hk : ∀ b d r, H1 b = some (.ins C d (gf r)) → upd H1 m (.dT (putK kvs (keyR z.2) (.ref x))) b = some (.ins C d (gf r)) := fun b d r q => u_ne (fun w => by rw [w, hm1] at q; cases q) q
          have hg2 : GlsAt C (upd H1 m (.dT (putK kvs (keyR z.2) (.ref x)))) g ys := ⟨u_ne ngm hg1.at_, fun w hw => let ⟨d, q⟩ := hg1.row w hw; ⟨d, hk _ _ _ q⟩, hg1.len, hg1.ok⟩
          have hd2 : DOk C (upd H1 m (.dT (putK kvs (keyR z.2) (.ref x)))) (putK kvs (keyR z.2) (.ref x)) := (hd1.step hk).put hx2
          have he2 : Ex H (upd H1 m (.dT (putK kvs (keyR z.2) (.ref x)))) := (he'.trans hex).mut hm0
          have hl2 : (putK kvs (keyR z.2) (.ref x)).length ≤ i + 1 := Nat.le_trans (DSub.putK_len _ _ _) (by omega)
          have hv2 : valV (putK kvs (keyR z.2) (.ref x)) (keyR z.2) = some (V.ref x) := by rw [valV_put, if_pos rfl]
          generalize upd H1 m (.dT (putK kvs (keyR z.2) (.ref x))) = H2 at *
          generalize putK kvs (keyR z.2) (.ref x) = kv2 at *
          have hgat2 := hg2.at_
          walk_at "go"
          refine rdgetT (k := keyR z.2) hm2 hr2 hv2 ?_
          walk_at "go"
          refine ⟨he2.mut hg0, kv2, _, _, rfl, u_ne ngm.symm hm2, hl2, hg2.push hx2 (hr.ok z hzm) (by omega), rows_snoc hys hz, hd2.step fun b d r q => u_ne (fun w => by rw [w, hgat2] at q; cases q) q⟩
        · have ngm : g ≠ m := fun q => by rw [q, hm'] at hgat; cases hgat
          walk_at "go"
          obtain ⟨v1, hv1⟩ := Option.ne_none_iff_exists'.mp (show valV kvs (keyR z.2) ≠ none by simpa using e2)
          obtain ⟨y, dx, rfl, hyy⟩ := hd' _ _ hv1
          refine rdgetT (k := keyR z.2) hm' hrow' hv1 ?_
          walk_at "go"
          refine ⟨he'.mut hg0, kvs, _, _, rfl, u_ne ngm.symm hm', Nat.le_succ_of_le hkl, hg'.push hyy (hr.ok z hzm) (by omega), rows_snoc hys hz, hd'.step fun b d r q => u_ne (fun w => by rw [w, hgat] at q; cases q) q⟩
    · rintro σ' H' ⟨he', kvs, ys, v, rfl, hm', hkl, hg', hys, hd'⟩
      walk_at "go"
      rw [List.length_map, List.take_length] at hys
      exact k _ _ _ he' hg0 hg' hys
end
end K41
namespace K41
open PySem L2 Wp

theorem fl (a t : Int) (h : 0 < t) : a / t * t ≤ a ∧ a < a / t * t + t := by
  have h1 := Int.ediv_mul_le a (show t ≠ 0 by omega)
  have h2 := Int.lt_ediv_add_one_mul_self a h
  rw [Int.add_mul, Int.one_mul] at h2
  exact ⟨h1, h2⟩
/-- one turn's dealing: m of t shared over run and run + p -/
theorem turn_ok {m t run p : Int} (t0 : 0 < t) : (m * (run + p) / t) * t ≤ m * (run + p) ∧ m * (run + p) < (m * (run + p) / t) * t + t ∧
    -t < (m * (run + p) / t - m * run / t) * t - m * p ∧ (m * (run + p) / t - m * run / t) * t - m * p < t := by
  obtain ⟨h1, h2⟩ := fl (m * (run + p)) t t0
  obtain ⟨h3, h4⟩ := fl (m * run) t t0
  have e1 : (m * (run + p) / t - m * run / t) * t = m * (run + p) / t * t - m * run / t * t := Int.sub_mul _ _ _
  have e2 : m * (run + p) = m * run + m * p := Int.mul_add _ _ _
  rw [e1]
  generalize m * (run + p) / t * t = x at *
  generalize m * run / t * t = y at *
  generalize m * (run + p) = u at *
  generalize m * run = v at *
  generalize m * p = w at *
  omega
theorem share_le {m t run p : Int} (t0 : 0 < t) (hm : m ≤ t) (p0 : 0 ≤ p) : m * (run + p) / t - m * run / t ≤ p := by
  have e2 : m * (run + p) = m * run + m * p := Int.mul_add _ _ _
  have h1 : m * p ≤ t * p := Int.mul_le_mul_of_nonneg_right hm p0
  have h2 : m * (run + p) / t ≤ (m * run + p * t) / t := Int.ediv_le_ediv t0 (by rw [e2, Int.mul_comm p t]; omega)
  rw [Int.add_mul_ediv_right _ _ (by omega)] at h2
  omega
def spDealt : Sp := fun vs H Q _ => ∃ (o a : Addr) (s : Int) (b : Bool), vs = [.ref o, .ref a, .int s, .bl b] ∧ ∃ zs, RowsAt H a zs ∧ SlOk zs s ∧ H o = some (.lst ((outF (rowsOf zs) s b).map V.int)) ∧ ∀ H', Ex H H' → Q (.bl true) H'
def PvD (H2 : Hp) (o a : Addr) (s : Int) (b : Bool) (S R : Int) (mv pt : Nat → Int) : Nat → L2.St → Hp → Prop := fun i σ' H' => H' = H2 ∧ ∃ v5 v9 v10, σ' = [some (V.ref o), some (V.ref a), some (V.int s), some (V.bl b), some (V.int S), v5, some (V.int R), some (V.int (mv i)), some (V.int (pt i)), v9, v10]
theorem qbd {a b t : Int} (a0 : 0 ≤ a) (a9 : a ≤ 2000000) (b0 : 0 ≤ b) (b9 : b ≤ 2000000) (t0 : 0 < t) : 0 ≤ a * b / t ∧ a * b / t ≤ 4000000000000 := by
  have h1 : 0 ≤ a * b := Int.mul_nonneg a0 b0
  have h2 : a * b ≤ 2000000 * 2000000 := Int.mul_le_mul a9 b9 b0 (by decide)
  have h3 := Int.ediv_nonneg h1 (Int.le_of_lt t0)
  have h4 : a * b / t ≤ a * b := Int.ediv_le_self t h1
  omega
theorem NBs {i : Int} {n : Nat} (h1 : -(2 ^ n) < i) (h2 : i < 2 ^ n) : NB i n := by
  unfold NB
  have h3 : ((2 ^ n : Nat) : Int) = (2 : Int) ^ n := by simp
  rw [← h3] at h1 h2
  omega
theorem sS_at {zs : List (Addr × Row)} {i : Nat} {z : Addr × Row} (h : zs[i]? = some z) : (sS zs)[i]? = some z.2.2.1 := by unfold sS rowsOf; rw [List.getElem?_map, List.getElem?_map, h]; rfl
theorem kS_at {zs : List (Addr × Row)} {i : Nat} {z : Addr × Row} (h : zs[i]? = some z) : (kS zs)[i]? = some z.2.2.2 := by unfold kS rowsOf; rw [List.getElem?_map, List.getElem?_map, h]; rfl
theorem outA {zs : List (Addr × Row)} {s : Int} {b : Bool} {i : Nat} {z : Addr × Row} (hz : zs[i]? = some z) (h1 : 0 < s) (hb : b = true) (hS : 0 < (sS zs).sum) : outI (rowsOf zs) s b i = z.2.1 + (s * (pre (sS zs) i + z.2.2.1) / (sS zs).sum - s * pre (sS zs) i / (sS zs).sum) := by
  unfold outI
  rw [rowsOf_at hz, if_pos ⟨h1, hb⟩]
  show _ + sh s (sS zs) i = _
  unfold sh
  rw [if_pos hS, pre_succ (sS_at hz)]
theorem outB {zs : List (Addr × Row)} {s : Int} {b : Bool} {i : Nat} {z : Addr × Row} (hz : zs[i]? = some z) (h1 : s < 0) (hS : 0 < (kS zs).sum) : outI (rowsOf zs) s b i = z.2.1 - (-s * (pre (kS zs) i + z.2.2.2) / (kS zs).sum - -s * pre (kS zs) i / (kS zs).sum) := by
  unfold outI
  rw [rowsOf_at hz, if_neg (fun q => by omega), if_pos h1]
  show _ + - sh (-s) (kS zs) i = _
  unfold sh
  rw [if_pos hS, pre_succ (kS_at hz)]
  omega
theorem outC {zs : List (Addr × Row)} {s : Int} {b : Bool} {i : Nat} {z : Addr × Row} (hz : zs[i]? = some z) (h1 : ¬ s < 0) (h2 : ¬ (0 < s ∧ b = true ∧ 0 < (sS zs).sum)) : outI (rowsOf zs) s b i = z.2.1 := by
  unfold outI
  rw [rowsOf_at hz]
  by_cases h3 : 0 < s ∧ b = true
  · rw [if_pos h3]
    show _ + sh s (sS zs) i = _
    unfold sh
    rw [if_neg (fun q => h2 ⟨h3.1, h3.2, q⟩), Int.add_zero]
  · rw [if_neg h3, if_neg h1, Int.add_zero]
section
variable {P : Program} {w : World} {K : PySem.W.Frag} {mg : Str → Option Value} {base : Heap}
theorem ok_law_dealt {f : Addr} {fd : FuncData} (F : Fun K "_law_dealt" "_law_dealt" s_law_dealt f fd) (T : Txt mg) (G_law_int : Def P w K mg base 1 "_law_int" ["got"] (spInt)) : FnOk P w K mg base CX0 2 f fd ["got", "rows", "slack", "stretching"] (spDealt) := by
  refine F.ok sc_law_dealt (fun vs H Q E h => ?_) (fun cdv A outer s H vs Q E hr h => ?_)
  · obtain ⟨o, a, s1, b1, rfl, _⟩ := h
    rfl
  · obtain ⟨o, a, s1, b1, rfl, h⟩ := h
    refine ⟨_, (pss_cons (ps_if (PW.pt (pw_or (pt_not (pt_val (pe_callB (call_isiK (K := K) rfl) (by rfl) T.n_isinstance (by decide +kernel) (pa_cons (pv 0) (pa_cons (pe_bltn (v := .ty "list") (by rfl) T.n_list (by decide +kernel) rfl) pa_nil))))) (pw_or1 (pt_cmpR op_ne (pe_callB (c_lenK (K := K) rfl) (by rfl) T.n_len (by decide +kernel) (pa_cons (pv 0) pa_nil)) (pe_callB (c_lenK (K := K) rfl) (by rfl) T.n_len (by decide +kernel) (pa_cons (pv 1) pa_nil)) (nomark _)))))
  (pss_one (ps_ret pe_bl))
  pss_nil)
  (pss_cons (ps_set (i := 4) sc_law_dealt.nd rfl (by first | exact Or.inl rfl | exact Or.inr rfl) (pe_callB (cr_sumK (K := K) rfl rfl) (by rfl) T.n_sum (by decide +kernel) (pa_cons (pe_lc (own := [("row", 5)]) (g := gName 5) (tt := tYes) (by rfl) sc_law_dealt.nd (pi_listK (K := K) rfl (pv 1)) (blkOk_by (own := [("row", 5)]) (N := ["got", "rows", "slack", "stretching", "stretch", "row", "shrink", "moved", "part", "k", "gain"]) (sc := defScope s_law_dealt) (by decide +kernel)) (fun _ _ _ _ _ => pg_name (i := 5) sc_law_dealt.nd rfl (by first | exact Or.inl rfl | exact Or.inr rfl)) (fun _ _ _ _ _ => pts_nil) (fun _ _ _ _ _ => (pe_ix (ixA (K := K) rfl) (pv 5) pe_int (fun _ _ => rfl)))) pa_nil)))
  (pss_cons (ps_set (i := 6) sc_law_dealt.nd rfl (by first | exact Or.inl rfl | exact Or.inr rfl) (pe_callB (cr_sumK (K := K) rfl rfl) (by rfl) T.n_sum (by decide +kernel) (pa_cons (pe_lc (own := [("row", 5)]) (g := gName 5) (tt := tYes) (by rfl) sc_law_dealt.nd (pi_listK (K := K) rfl (pv 1)) (blkOk_by (own := [("row", 5)]) (N := ["got", "rows", "slack", "stretching", "stretch", "row", "shrink", "moved", "part", "k", "gain"]) (sc := defScope s_law_dealt) (by decide +kernel)) (fun _ _ _ _ _ => pg_name (i := 5) sc_law_dealt.nd rfl (by first | exact Or.inl rfl | exact Or.inr rfl)) (fun _ _ _ _ _ => pts_nil) (fun _ _ _ _ _ => (pe_ix (ixA (K := K) rfl) (pv 5) pe_int (fun _ _ => rfl)))) pa_nil)))
  (pss_cons (ps_set (i := 7) sc_law_dealt.nd rfl (by first | exact Or.inl rfl | exact Or.inr rfl) pe_int)
  (pss_cons (ps_set (i := 8) sc_law_dealt.nd rfl (by first | exact Or.inl rfl | exact Or.inr rfl) pe_int)
  (pss_cons (ps_for PassesOwn.never rfl (pi_range1 (by rfl) T.n_range (pa_cons (pe_callB (c_lenK (K := K) rfl) (by rfl) T.n_len (by decide +kernel) (pa_cons (pv 1) pa_nil)) pa_nil)) (pg_name (i := 9) sc_law_dealt.nd rfl (by first | exact Or.inl rfl | exact Or.inr rfl))
  (pss_cons (ps_if (pt_not (pt_val (G_law_int.call (hr.mono (by omega)) (by rfl) (pa_cons (pe_ix (ixA (K := K) rfl) (pv 0) (pv 9) (fun _ _ => rfl)) pa_nil))))
  (pss_one (ps_ret pe_bl))
  pss_nil)
  (pss_cons (ps_set (i := 10) sc_law_dealt.nd rfl (by first | exact Or.inl rfl | exact Or.inr rfl) (pe_op op_sub (pe_ix (ixA (K := K) rfl) (pv 0) (pv 9) (fun _ _ => rfl)) (pe_ix (ixA (K := K) rfl) (pe_ix (ixA (K := K) rfl) (pv 1) (pv 9) (fun _ _ => rfl)) pe_int (fun _ _ => rfl))))
  (pss_one (ps_if (PW.pt (pw_and (pt_cmpR op_gt (pv 2) pe_int (nomark _)) (pw_and (pt_tru (K := K) rfl (pv 3)) (pw_and1 (pt_cmpR op_gt (pv 4) pe_int (nomark _))))))
  (pss_cons (ps_set (i := 7) sc_law_dealt.nd rfl (by first | exact Or.inl rfl | exact Or.inr rfl) (pe_op op_addL (pv 7) (pv 10)))
  (pss_cons (ps_set (i := 8) sc_law_dealt.nd rfl (by first | exact Or.inl rfl | exact Or.inr rfl) (pe_op op_addL (pv 8) (pe_ix (ixA (K := K) rfl) (pe_ix (ixA (K := K) rfl) (pv 1) (pv 9) (fun _ _ => rfl)) pe_int (fun _ _ => rfl))))
  (pss_cons (ps_if (pt_not (pt_chain op_le op_lt (pe_op op_mulW (pv 7) (pv 4)) (pe_op op_mulW (pv 2) (pv 8)) (pe_op op_addL (pe_op op_mulW (pv 7) (pv 4)) (pv 4))))
  (pss_one (ps_ret pe_bl))
  pss_nil)
  (pss_one (ps_if (pt_not (pt_chain op_lt op_lt (pe_un un_neg (pv 4)) (pe_op op_sub (pe_op op_mulW (pv 10) (pv 4)) (pe_op op_mulW (pv 2) (pe_ix (ixA (K := K) rfl) (pe_ix (ixA (K := K) rfl) (pv 1) (pv 9) (fun _ _ => rfl)) pe_int (fun _ _ => rfl)))) (pv 4)))
  (pss_one (ps_ret pe_bl))
  pss_nil)))))
  (pss_one (ps_if (pt_cmpR op_lt (pv 2) pe_int (nomark _))
  (pss_cons (ps_set (i := 7) sc_law_dealt.nd rfl (by first | exact Or.inl rfl | exact Or.inr rfl) (pe_op op_sub (pv 7) (pv 10)))
  (pss_cons (ps_set (i := 8) sc_law_dealt.nd rfl (by first | exact Or.inl rfl | exact Or.inr rfl) (pe_op op_addL (pv 8) (pe_ix (ixA (K := K) rfl) (pe_ix (ixA (K := K) rfl) (pv 1) (pv 9) (fun _ _ => rfl)) pe_int (fun _ _ => rfl))))
  (pss_cons (ps_if (pt_not (pt_chain op_le op_lt (pe_op op_mulW (pv 7) (pv 6)) (pe_op op_mulW (pe_un un_neg (pv 2)) (pv 8)) (pe_op op_addL (pe_op op_mulW (pv 7) (pv 6)) (pv 6))))
  (pss_one (ps_ret pe_bl))
  pss_nil)
  (pss_one (ps_if (PW.pt (pw_or (pt_not (pt_chain op_lt op_lt (pe_un un_neg (pv 6)) (pe_op op_addL (pe_op op_mulW (pe_un un_neg (pv 10)) (pv 6)) (pe_op op_mulW (pv 2) (pe_ix (ixA (K := K) rfl) (pe_ix (ixA (K := K) rfl) (pv 1) (pv 9) (fun _ _ => rfl)) pe_int (fun _ _ => rfl)))) (pv 6))) (pw_or1 (pt_cmpR op_lt (pe_ix (ixA (K := K) rfl) (pv 0) (pv 9) (fun _ _ => rfl)) (pe_op op_sub (pe_ix (ixA (K := K) rfl) (pe_ix (ixA (K := K) rfl) (pv 1) (pv 9) (fun _ _ => rfl)) pe_int (fun _ _ => rfl)) (pe_ix (ixA (K := K) rfl) (pe_ix (ixA (K := K) rfl) (pv 1) (pv 9) (fun _ _ => rfl)) pe_int (fun _ _ => rfl))) (nomark _)))))
  (pss_one (ps_ret pe_bl))
  pss_nil)))))
  (pss_one (ps_if (pt_cmpR op_ne (pv 10) pe_int (nomark _))
  (pss_one (ps_ret pe_bl))
  pss_nil)))))))))
  (pss_one (ps_ret pe_bl)))))))), ?_⟩
    rw [show start ["got", "rows", "slack", "stretching", "stretch", "row", "shrink", "moved", "part", "k", "gain"] [.ref o, .ref a, .int s1, .bl b1] = [some (.ref o), some (.ref a), some (.int s1), some (.bl b1), none, none, none, none, none, none, none] from rfl]
    obtain ⟨zs, hr, hs, ho, k⟩ := h
    have hat := hr.at_
    have hlen := hr.len
    have hrl : (rowsOf zs).length = zs.length := by unfold rowsOf; rw [List.length_map]
    have kb := kS_sum hr.ok hr.len
    have sb := sS_sum hr.ok hr.len
    have s9 := hs.hi
    have s0 := hs.lo
    walk_at "go"
    rw [List.length_map, outF_len, hrl]
    refine ite_f (by simp) ?_
    walk_at "go"
    intro D hD
    refine lcM zs (fun z => V.ref z.1) (fun z => V.int z.2.2.1) hat hD (by have := hr.len; omega) (fun x => rfl) (fun z hz l R r => ?_) ?_
    · have hrow := hr.row z hz
      walk_at "go"
      first | exact r | exact ixat (u_ne (ne_of_none hrow hD) hrow) (by first | exact at1 | exact at2) r
    rw [sS_map]
    have e1 : Ex H (upd H D (.lst ((sS zs).map V.int))) := Ex.refl.new hD
    have hD1 : upd H D (.lst ((sS zs).map V.int)) D = some (.lst ((sS zs).map V.int)) := upd_same
    generalize upd H D (.lst ((sS zs).map V.int)) = H1 at *
    have hr1 := hr.ex e1
    have hat1 := hr1.at_
    walk_at "go"
    clear hD
    intro D2 hD
    refine lcM zs (fun z => V.ref z.1) (fun z => V.int z.2.2.2) hat1 hD (by have := hr.len; omega) (fun x => rfl) (fun z hz l R r => ?_) ?_
    · have hrow := hr1.row z hz
      walk_at "go"
      first | exact r | exact ixat (u_ne (ne_of_none hrow hD) hrow) (by first | exact at1 | exact at2) r
    rw [kS_map]
    have e2 : Ex H (upd H1 D2 (.lst ((kS zs).map V.int))) := e1.new hD
    have hD2 : upd H1 D2 (.lst ((kS zs).map V.int)) D2 = some (.lst ((kS zs).map V.int)) := upd_same
    generalize upd H1 D2 (.lst ((kS zs).map V.int)) = H2 at *
    have hr2 := hr.ex e2
    have hat2 := hr2.at_
    have ho2 := e2 _ _ ho
    walk_at "go"
    rw [List.length_map]
    refine ⟨by omega, ?_⟩
    rw [show ((zs.length : Int)).toNat = zs.length by omega]
    by_cases cA : 0 < s1 ∧ b1 = true ∧ 0 < (sS zs).sum
    · refine loopR (PvD H2 o a s1 b1 (sS zs).sum (kS zs).sum (fun i => s1 * pre (sS zs) i / (sS zs).sum) (fun i => pre (sS zs) i)) ⟨rfl, none, none, none, by simp [pre_zero]⟩ ?_ ?_
      · rintro i σ' H' hi ⟨rfl, v5, v9, v10, rfl⟩
        have hil : i < zs.length := by omega
        obtain ⟨z, hz⟩ : ∃ z, zs[i]? = some z := ⟨_, List.getElem?_eq_getElem hil⟩
        have hzm := List.mem_of_getElem? hz
        have hok := hr2.ok z hzm
        have hrow := hr2.row z hzm
        have hgot : ((outF (rowsOf zs) s1 b1).map V.int)[i]? = some (V.int (outI (rowsOf zs) s1 b1 i)) := by rw [List.getElem?_map, outF_at (by rw [hrl]; exact hil)]; rfl
        have hrf : (zs.map fun z => V.ref z.1)[i]? = some (V.ref z.1) := by rw [List.getElem?_map, hz]; rfl
        walk_at "go"
        refine ixal ho2 (atI_nat hgot) ?_
        walk_at "go"
        refine ⟨_, rfl, ?_⟩
        walk_at "go"
        refine ixal ho2 (atI_nat hgot) ?_
        walk_at "go"
        refine ixal hat2 (atI_nat hrf) ?_
        walk_at "go"
        have hS := cA.2.2
        have hp0 := pre_bd (sS_bd hr2.ok) i (by rw [sS_len]; omega)
        have tk := turn_ok (m := s1) (run := pre (sS zs) i) (p := z.2.2.1) hS
        have q1 := qbd (a := s1) (b := pre (sS zs) i) (by omega) (by omega) hp0.1 (by omega) hS
        have q2 := qbd (a := s1) (b := pre (sS zs) i + z.2.2.1) (by omega) (by omega) (by have := hok.b0; omega) (by have := hok.b9; omega) hS
        have hgn : outI (rowsOf zs) s1 b1 i - z.2.1 = s1 * (pre (sS zs) i + z.2.2.1) / (sS zs).sum - s1 * pre (sS zs) i / (sS zs).sum := by rw [outA hz cA.1 cA.2.1 hS]; omega
        have hps : pre (sS zs) (i + 1) = pre (sS zs) i + z.2.2.1 := pre_succ (sS_at hz)
        rw [hgn]
        have hmv : s1 * pre (sS zs) i / (sS zs).sum + (s1 * (pre (sS zs) i + z.2.2.1) / (sS zs).sum - s1 * pre (sS zs) i / (sS zs).sum) = s1 * (pre (sS zs) i + z.2.2.1) / (sS zs).sum := by omega
        rw [hmv]
        refine ite_t cA.1 (ite_t cA.2.1 (ite_t hS ?_))
        refine ixal hat2 (atI_nat hrf) ?_
        walk_at "go"
        have c1 : CMulW (s1 * (pre (sS zs) i + z.2.2.1) / (sS zs).sum) (sS zs).sum := (NBs (n := 44) (by omega) (by omega)).cm (NBs (n := 22) (by omega) (by omega)) (by decide)
        have c2 : CMulW s1 (pre (sS zs) i + z.2.2.1) := (NBs (n := 22) (by omega) (by omega)).cm (NBs (n := 22) (by have := hok.b0; omega) (by have := hok.b9; omega)) (by decide)
        have c3 : CMulW (s1 * (pre (sS zs) i + z.2.2.1) / (sS zs).sum - s1 * pre (sS zs) i / (sS zs).sum) (sS zs).sum := (NBs (n := 44) (by omega) (by omega)).cm (NBs (n := 22) (by omega) (by omega)) (by decide)
        have c4 : CMulW s1 z.2.2.1 := (NBs (n := 22) (by omega) (by omega)).cm (NBs (n := 22) (by have := hok.b0; omega) (by have := hok.b9; omega)) (by decide)
        walk_at "go"
        refine ite_t tk.1 ⟨c1, ite_f (fun q => q tk.2.1) ⟨c3, ?_⟩⟩
        refine ixal hat2 (atI_nat hrf) ?_
        walk_at "go"
        refine ite_t tk.2.2.1 ?_
        walk_at "go"
        refine ite_f (fun q => q tk.2.2.2) ?_
        rw [← hps]
        exact ⟨rfl, _, _, _, rfl⟩
      · rintro σ' H' ⟨rfl, v5, v9, v10, rfl⟩
        walk_at "go"
        exact k _ e2
    by_cases cB : s1 < 0
    · refine loopR (PvD H2 o a s1 b1 (sS zs).sum (kS zs).sum (fun i => -s1 * pre (kS zs) i / (kS zs).sum) (fun i => pre (kS zs) i)) ⟨rfl, none, none, none, by simp [pre_zero]⟩ ?_ ?_
      · rintro i σ' H' hi ⟨rfl, v5, v9, v10, rfl⟩
        have hil : i < zs.length := by omega
        obtain ⟨z, hz⟩ : ∃ z, zs[i]? = some z := ⟨_, List.getElem?_eq_getElem hil⟩
        have hzm := List.mem_of_getElem? hz
        have hok := hr2.ok z hzm
        have hrow := hr2.row z hzm
        have hgot : ((outF (rowsOf zs) s1 b1).map V.int)[i]? = some (V.int (outI (rowsOf zs) s1 b1 i)) := by rw [List.getElem?_map, outF_at (by rw [hrl]; exact hil)]; rfl
        have hrf : (zs.map fun z => V.ref z.1)[i]? = some (V.ref z.1) := by rw [List.getElem?_map, hz]; rfl
        walk_at "go"
        refine ixal ho2 (atI_nat hgot) ?_
        walk_at "go"
        refine ⟨_, rfl, ?_⟩
        walk_at "go"
        refine ixal ho2 (atI_nat hgot) ?_
        walk_at "go"
        refine ixal hat2 (atI_nat hrf) ?_
        walk_at "go"
        have hS : 0 < (kS zs).sum := by omega
        have hp0 := pre_bd (kS_bd hr2.ok) i (by rw [kS_len]; omega)
        have hc9 : z.2.2.2 ≤ 1000 := Int.le_trans hok.c9 hok.a9
        have hc0 := hok.c0
        have tk := turn_ok (m := -s1) (run := pre (kS zs) i) (p := z.2.2.2) hS
        have tl := share_le (m := -s1) (run := pre (kS zs) i) (p := z.2.2.2) hS s0 hc0
        have q1 := qbd (a := -s1) (b := pre (kS zs) i) (by omega) (by omega) hp0.1 (by omega) hS
        have q2 := qbd (a := -s1) (b := pre (kS zs) i + z.2.2.2) (by omega) (by omega) (by omega) (by omega) hS
        have hgn : outI (rowsOf zs) s1 b1 i - z.2.1 = -(-s1 * (pre (kS zs) i + z.2.2.2) / (kS zs).sum - -s1 * pre (kS zs) i / (kS zs).sum) := by rw [outB hz cB hS]; omega
        have hlow : z.2.1 - z.2.2.2 ≤ outI (rowsOf zs) s1 b1 i := by omega
        have hps : pre (kS zs) (i + 1) = pre (kS zs) i + z.2.2.2 := pre_succ (kS_at hz)
        rw [hgn]
        have hmv : -s1 * pre (kS zs) i / (kS zs).sum - -(-s1 * (pre (kS zs) i + z.2.2.2) / (kS zs).sum - -s1 * pre (kS zs) i / (kS zs).sum) = -s1 * (pre (kS zs) i + z.2.2.2) / (kS zs).sum := by omega
        have hpm : s1 * z.2.2.2 = -(-s1 * z.2.2.2) := by rw [Int.neg_mul, Int.neg_neg]
        refine ite_f (by omega) (ite_t cB ?_)
        rw [hmv]
        walk_at "go"
        refine ixal hat2 (atI_nat hrf) ?_
        walk_at "go"
        have c1 : CMulW (-s1 * (pre (kS zs) i + z.2.2.2) / (kS zs).sum) (kS zs).sum := (NBs (n := 44) (by omega) (by omega)).cm (NBs (n := 22) (by omega) (by omega)) (by decide)
        have c2 : CMulW (-s1) (pre (kS zs) i + z.2.2.2) := (NBs (n := 22) (by omega) (by omega)).cm (NBs (n := 22) (by omega) (by omega)) (by decide)
        have c3 : CMulW (- -(-s1 * (pre (kS zs) i + z.2.2.2) / (kS zs).sum - -s1 * pre (kS zs) i / (kS zs).sum)) (kS zs).sum := (NBs (n := 44) (by omega) (by omega)).cm (NBs (n := 22) (by omega) (by omega)) (by decide)
        have c4 : CMulW s1 z.2.2.2 := (NBs (n := 22) (by omega) (by omega)).cm (NBs (n := 22) (by omega) (by omega)) (by decide)
        walk_at "go"
        refine ite_t tk.1 ⟨c1, ite_f (fun q => q tk.2.1) ⟨c3, ?_⟩⟩
        refine ixal hat2 (atI_nat hrf) ?_
        walk_at "go"
        rw [hpm, Int.neg_neg]
        refine ite_t (by omega) (ite_f (by omega) ?_)
        refine ixal ho2 (atI_nat hgot) ?_
        walk_at "go"
        refine ixal hat2 (atI_nat hrf) ?_
        walk_at "go"
        refine ixal hat2 (atI_nat hrf) ?_
        walk_at "go"
        refine ite_f (by omega) ?_
        rw [← hps]
        exact ⟨rfl, _, _, _, rfl⟩
      · rintro σ' H' ⟨rfl, v5, v9, v10, rfl⟩
        walk_at "go"
        exact k _ e2
    · refine loopR (PvD H2 o a s1 b1 (sS zs).sum (kS zs).sum (fun _ => 0) (fun _ => 0)) ⟨rfl, none, none, none, rfl⟩ ?_ ?_
      · rintro i σ' H' hi ⟨rfl, v5, v9, v10, rfl⟩
        have hil : i < zs.length := by omega
        obtain ⟨z, hz⟩ : ∃ z, zs[i]? = some z := ⟨_, List.getElem?_eq_getElem hil⟩
        have hzm := List.mem_of_getElem? hz
        have hok := hr2.ok z hzm
        have hrow := hr2.row z hzm
        have hgot : ((outF (rowsOf zs) s1 b1).map V.int)[i]? = some (V.int (outI (rowsOf zs) s1 b1 i)) := by rw [List.getElem?_map, outF_at (by rw [hrl]; exact hil)]; rfl
        have hrf : (zs.map fun z => V.ref z.1)[i]? = some (V.ref z.1) := by rw [List.getElem?_map, hz]; rfl
        walk_at "go"
        refine ixal ho2 (atI_nat hgot) ?_
        walk_at "go"
        refine ⟨_, rfl, ?_⟩
        walk_at "go"
        refine ixal ho2 (atI_nat hgot) ?_
        walk_at "go"
        refine ixal hat2 (atI_nat hrf) ?_
        walk_at "go"
        have hgn : outI (rowsOf zs) s1 b1 i - z.2.1 = 0 := by rw [outC hz cB cA]; omega
        rw [hgn]
        refine ite2 (fun a1' => ite2 (fun a2' => ite2 (fun a3' => absurd ⟨a1', a2', a3'⟩ cA) (fun _ => ite_f cB ?_)) (fun _ => ite_f cB ?_)) (fun _ => ite_f cB ?_)
        all_goals
          walk_at "go"
          first | exact ⟨rfl, _, _, _, rfl⟩ | exact ite_f (fun q => q rfl) ⟨rfl, _, _, _, rfl⟩
      · rintro σ' H' ⟨rfl, v5, v9, v10, rfl⟩
        walk_at "go"
        exact k _ e2
end
end K41
namespace K41
open PySem L2 Wp

theorem rep_ints {H : Hp} {a : Addr} {ns : List Int} (h : H a = some (.lst (ns.map V.int))) (hl : ns.length < 2 ^ 60) : Rep H 1 (.ref a) (.lst (ns.map Dat.int)) := by
  simp only [Rep]
  refine ⟨a, _, rfl, h, by rw [List.length_map, List.length_map], by rw [List.length_map]; exact hl, fun i x d h1 h2 => ?_⟩
  rw [List.getElem?_map] at h1 h2
  cases e : ns[i]? with
  | none => rw [e] at h1; cases h1
  | some n =>
    rw [e] at h1 h2
    cases h1
    cases h2
    simp only [Rep]
theorem rep_row {H : Hp} {a : Addr} {r : Row} (h : H a = some (.tup (rowV r))) : Rep H 1 (.ref a) (.tup [.int r.1, .int r.2.1, .int r.2.2]) := by
  simp only [Rep]
  refine ⟨a, _, rfl, h, rfl, (by show 3 < _; decide), fun i x d h1 h2 => ?_⟩
  match i, h1, h2 with
  | 0, h1, h2 => cases h1; cases h2; simp only [Rep]
  | 1, h1, h2 => cases h1; cases h2; simp only [Rep]
  | 2, h1, h2 => cases h1; cases h2; simp only [Rep]
  | (n + 3), h1, h2 => simp [rowV] at h1
theorem SlOk.zero {H : Hp} {a : Addr} {zs : List (Addr × Row)} (h : RowsAt H a zs) : SlOk zs 0 := ⟨by decide, by have := kS_sum h.ok h.len; omega⟩
theorem SlOk.bd {H : Hp} {a : Addr} {zs : List (Addr × Row)} {s : Int} (h : RowsAt H a zs) (hs : SlOk zs s) : -(2 ^ 22) ≤ s ∧ s ≤ 2 ^ 22 := by
  have h1 := kS_sum h.ok h.len
  have h2 := hs.hi
  have h3 := hs.lo
  omega
theorem rows_get {ys zs : List (Addr × Row)} (h : rowsOf ys = rowsOf zs) {i : Nat} {y z : Addr × Row} (hy : ys[i]? = some y) (hz : zs[i]? = some z) : y.2 = z.2 := by
  have := congrArg (fun l => l[i]?) h
  unfold rowsOf at this
  simp only [List.getElem?_map, hy, hz, Option.map_some] at this
  exact Option.some.inj this
theorem ixN0 {n : Nat} (h : 0 < n) : ixN n 0 = some 0 := by
  unfold ixN
  rw [if_pos (by decide), if_pos (by omega)]
  rfl
def spLaw (K : PySem.W.Frag) : Sp := fun vs H Q _ => ∃ (a : Addr) (ns : List Int), vs = [.ref a] ∧ SqL K H a (ns.map V.int) ∧ ns.length ≤ 63 ∧ ∀ H', Q (.bl true) H'
def PvW (G : Hp) (st : List (Option V)) : Nat → L2.St → Hp → Prop := fun _ σ' H' => Ex G H' ∧ ∃ v, σ' = st ++ [v, none]
def PvX (G : Hp) (st : List (Option V)) : Nat → L2.St → Hp → Prop := fun _ σ' H' => Ex G H' ∧ ∃ v, σ' = st ++ [v]
section
variable {P : Program} {w : World} {K : PySem.W.Frag} {mg : Str → Option Value} {base : Heap}
theorem ok_law {f : Addr} {fd : FuncData} (F : Fun K "law" "law" s_law f fd) (T : Txt mg) {C : Addr} (GM_plain : DefM P w K mg base 1 C "plain" ["self"] (spPlain C)) (G_law_pool : Def P w K mg base 1 "_law_pool" ["script"] (spPoolL K)) (G_law_gaps : Def P w K mg base 4 "_law_gaps" ["pool"] (spGaps)) (G_law_slack : Def P w K mg base 2 "_law_slack" ["pool", "rows"] (spSlack)) (G_law_draw : Def P w K mg base 1 "_law_draw" ["pool", "many"] (spDrawL)) (G_law_glues : Def P w K mg base 3 "_law_glues" ["rows", "alike"] (spGlues C)) (G_even_gaps : Def P w K mg base 2 "even_gaps" ["glues", "slack", "stretching"] (spEven C)) (G_law_dealt : Def P w K mg base 2 "_law_dealt" ["got", "rows", "slack", "stretching"] (spDealt)) (G_law_same : Def P w K mg base 2 "_law_same" ["got", "due"] (spSame 1)) : FnOk P w K mg base CX0 6 f fd ["script"] (spLaw K) := by
  refine F.ok sc_law (fun vs H Q E h => ?_) (fun cdv A outer s H vs Q E hr h => ?_)
  · obtain ⟨a1, ns, rfl, _⟩ := h
    rfl
  · obtain ⟨a1, ns, rfl, h⟩ := h
    refine ⟨_, (pss_cons (ps_set (i := 1) sc_law.nd rfl (by first | exact Or.inl rfl | exact Or.inr rfl) (G_law_pool.call (hr.mono (by omega)) (by rfl) (pa_cons (pv 0) pa_nil)))
  (pss_cons (ps_set (i := 2) sc_law.nd rfl (by first | exact Or.inl rfl | exact Or.inr rfl) (G_law_gaps.call (hr.mono (by omega)) (by rfl) (pa_cons (pv 1) pa_nil)))
  (pss_cons (ps_set (i := 3) sc_law.nd rfl (by first | exact Or.inl rfl | exact Or.inr rfl) (G_law_slack.call (hr.mono (by omega)) (by rfl) (pa_cons (pv 1) (pa_cons (pv 2) pa_nil))))
  (pss_cons (ps_set (i := 4) sc_law.nd rfl (by first | exact Or.inl rfl | exact Or.inr rfl) (G_law_slack.call (hr.mono (by omega)) (by rfl) (pa_cons (pv 1) (pa_cons (pv 2) pa_nil))))
  (pss_cons (ps_set (i := 5) sc_law.nd rfl (by first | exact Or.inl rfl | exact Or.inr rfl) (pe_cmpR op_gt (G_law_draw.call (hr.mono (by omega)) (by rfl) (pa_cons (pv 1) (pa_cons pe_int pa_nil))) pe_int (nomark _)))
  (pss_cons (ps_set (i := 6) sc_law.nd rfl (by first | exact Or.inl rfl | exact Or.inr rfl) (G_law_glues.call (hr.mono (by omega)) (by rfl) (pa_cons (pv 2) (pa_cons (pe_cmpR op_eq (G_law_draw.call (hr.mono (by omega)) (by rfl) (pa_cons (pv 1) (pa_cons pe_int pa_nil))) pe_int (nomark _)) pa_nil))))
  (pss_cons (ps_set (i := 7) sc_law.nd rfl (by first | exact Or.inl rfl | exact Or.inr rfl) (G_even_gaps.call (hr.mono (by omega)) (by rfl) (pa_cons (pv 6) (pa_cons (pv 3) (pa_cons (pv 5) pa_nil)))))
  (pss_cons (ps_if (pt_not (pt_val (G_law_dealt.call (hr.mono (by omega)) (by rfl) (pa_cons (pv 7) (pa_cons (pv 2) (pa_cons (pv 3) (pa_cons (pv 5) pa_nil)))))))
  (pss_one (ps_ret pe_bl))
  pss_nil)
  (pss_cons (ps_set (i := 8) sc_law.nd rfl (by first | exact Or.inl rfl | exact Or.inr rfl) (pe_callTy (c_listK (K := K) rfl) (by rfl) T.n_list (by decide +kernel) (pa_cons (pv 7) pa_nil)))
  (pss_cons (ps_expr (pe_bmK (K := K) rfl PySem.F.plainAttrs_list PySem.F.slot_list_append PySem.F.type_list_append mt_append (pv 7) (pa_cons pe_int pa_nil)))
  (pss_cons (ps_asg (pe_op op_addL (pe_ix (ixA (K := K) rfl) (pv 7) pe_int (fun _ _ => rfl)) pe_int) (pg_sub (pv 7) pe_int set_list))
  (pss_cons (ps_for PassesOwn.never rfl (pi_listK (K := K) rfl (pe_lst (pa_cons (pe_tup (pa_cons (pv 4) (pa_cons pe_bl pa_nil))) (pa_cons (pe_tup (pa_cons (pv 4) (pa_cons pe_bl pa_nil))) (pa_cons (pe_tup (pa_cons (pv 3) (pa_cons (pe_not (pv 5)) pa_nil))) (pa_cons (pe_tup (pa_cons pe_int (pa_cons pe_bl pa_nil))) pa_nil)))))) (pg_name (i := 9) sc_law.nd rfl (by first | exact Or.inl rfl | exact Or.inr rfl))
  (pss_one (ps_if (pt_not (pt_val (G_law_dealt.call (hr.mono (by omega)) (by rfl) (pa_cons (G_even_gaps.call (hr.mono (by omega)) (by rfl) (pa_cons (pv 6) (pa_cons (pe_ix (ixA (K := K) rfl) (pv 9) pe_int (fun _ _ => rfl)) (pa_cons (pe_ix (ixA (K := K) rfl) (pv 9) pe_int (fun _ _ => rfl)) pa_nil)))) (pa_cons (pv 2) (pa_cons (pe_ix (ixA (K := K) rfl) (pv 9) pe_int (fun _ _ => rfl)) (pa_cons (pe_ix (ixA (K := K) rfl) (pv 9) pe_int (fun _ _ => rfl)) pa_nil)))))))
  (pss_one (ps_ret pe_bl))
  pss_nil)))
  (pss_cons (ps_if (pt_cmpR op_ne (pe_callB (c_lenK (K := K) rfl) (by rfl) T.n_len (by decide +kernel) (pa_cons (pv 6) pa_nil)) (pe_callB (c_lenK (K := K) rfl) (by rfl) T.n_len (by decide +kernel) (pa_cons (pv 2) pa_nil)) (nomark _))
  (pss_one (ps_ret pe_bl))
  pss_nil)
  (pss_cons (ps_for PassesOwn.never rfl (pi_range1 (by rfl) T.n_range (pa_cons (pe_callB (c_lenK (K := K) rfl) (by rfl) T.n_len (by decide +kernel) (pa_cons (pv 2) pa_nil)) pa_nil)) (pg_name (i := 10) sc_law.nd rfl (by first | exact Or.inl rfl | exact Or.inr rfl))
  (pss_one (ps_if (pt_not (pt_val (G_law_same.call (hr.mono (by omega)) (by rfl) (pa_cons (GM_plain.call0 (hr.mono (by omega)) (pe_ix (ixA (K := K) rfl) (pv 6) (pv 10) (fun _ _ => rfl))) (pa_cons (pe_ix (ixA (K := K) rfl) (pv 2) (pv 10) (fun _ _ => rfl)) pa_nil)))))
  (pss_one (ps_ret pe_bl))
  pss_nil)))
  (pss_one (ps_ret (G_law_same.call (hr.mono (by omega)) (by rfl) (pa_cons (G_even_gaps.call (hr.mono (by omega)) (by rfl) (pa_cons (pv 6) (pa_cons (pv 3) (pa_cons (pv 5) pa_nil)))) (pa_cons (pv 8) pa_nil))))))))))))))))))), ?_⟩
    rw [show start ["script", "pool", "rows", "slack", "other", "stretching", "handed", "got", "first", "row", "k"] [.ref a1] = [some (.ref a1), none, none, none, none, none, none, none, none, none, none] from rfl]
    obtain ⟨hS, hl, k⟩ := h
    walk_at "go"
    refine ⟨_, _, rfl, hS, fun p l H1 p0 l0 e1 hp1 => ?_⟩
    walk_at "go"
    refine ⟨_, rfl, l, hp1, fun a zs H2 hp2 e2 nap hr2 => ?_⟩
    walk_at "go"
    refine ⟨_, _, rfl, l, zs, hp2, nap, hr2, fun s1 H3 hp3 e3 hs1 => ?_⟩
    have hr3 := hr2.ext hp2 nap e3
    walk_at "go"
    refine ⟨_, _, rfl, l, zs, hp3, nap, hr3, fun s2 H4 hp4 e4 hs2 => ?_⟩
    have hr4 := hr3.ext hp3 nap e4
    walk_at "go"
    refine ⟨_, _, rfl, l, hp4, by decide, by decide, fun w1 H5 _ _ hp5 bt5 => ?_⟩
    have hr5 := hr4.ext hp4 nap bt5.ext
    walk_at "go"
    refine ⟨_, _, rfl, l, hp5, by decide, by decide, fun w2 H6 _ _ hp6 bt6 => ?_⟩
    have hr6 := hr5.ext hp5 nap bt6.ext
    walk_at "go"
    generalize hb1 : decide (0 < w1) = b1
    refine ⟨_, _, rfl, zs, hr6, fun g ys G0 e7 g0 hg hys => ?_⟩
    have hr7 := hr6.ex e7
    have bd1 := hs1.bd hr6
    walk_at "go"
    have even : ∀ (s : Int) (b : Bool) (H : Hp) (R : VK), Ex G0 H → SlOk zs s → (∀ o H', Ex H H' → H o = none → H' o = some (.lst ((outF (rowsOf zs) s b).map V.int)) → R (.ref o) H') → spEven C [.ref g, .int s, .bl b] H R (fun _ _ _ => False) := by
      intro s b H R e hs q
      have bd := hs.bd hr6
      exact ⟨_, _, _, rfl, ys, hg.ex e, bd.1, bd.2, fun o H' e' n h => q o H' e' n (by rw [hys] at h; exact h)⟩
    have deal : ∀ (o : Addr) (s : Int) (b : Bool) (H : Hp) (R : VK), Ex G0 H → SlOk zs s → H o = some (.lst ((outF (rowsOf zs) s b).map V.int)) → (∀ H', Ex H H' → R (.bl true) H') → spDealt [.ref o, .ref a, .int s, .bl b] H R (fun _ _ _ => False) := by
      intro o s b H R e hs ho q
      exact ⟨_, _, _, _, rfl, zs, hr7.ex e, hs, ho, q⟩
    refine even s1 b1 _ _ Ex.refl hs1 fun o H8 e8 o0 ho8 => ?_
    walk_at "go"
    refine deal o s1 b1 _ _ e8 hs1 ho8 fun H9 e9 => ?_
    have ho9 := e9 _ _ ho8
    have ex9 := e8.trans e9
    walk_at "go"
    refine Wp.lists (SqL.of ho9) fun f hf => ?_
    have nof : o ≠ f := ne_of_none ho9 hf
    have ex10 : Ex G0 (upd H9 f (.lst ((outF (rowsOf zs) s1 b1).map V.int))) := ex9.new hf
    have ho10 : upd H9 f (.lst ((outF (rowsOf zs) s1 b1).map V.int)) o = some (.lst ((outF (rowsOf zs) s1 b1).map V.int)) := u_ne nof ho9
    have hf10 : upd H9 f (.lst ((outF (rowsOf zs) s1 b1).map V.int)) f = some (.lst ((outF (rowsOf zs) s1 b1).map V.int)) := upd_same
    generalize upd H9 f (.lst ((outF (rowsOf zs) s1 b1).map V.int)) = H10 at *
    have hlen := hr6.len
    have holen : (outF (rowsOf zs) s1 b1).length ≤ 1200 := by rw [outF_len]; unfold rowsOf; rw [List.length_map]; exact hlen
    walk_at "go"
    have ema : (outF (rowsOf zs) s1 b1).map V.int ++ [V.int 1] = (outF (rowsOf zs) s1 b1 ++ [1]).map V.int := by rw [List.map_append]; rfl
    rw [ema]
    obtain ⟨n0, hn0⟩ : ∃ n0, (outF (rowsOf zs) s1 b1 ++ [1])[0]? = some n0 := ⟨_, List.getElem?_eq_getElem (by rw [List.length_append]; simp)⟩
    have hn1 : ((outF (rowsOf zs) s1 b1 ++ [1]).map V.int)[0]? = some (.int n0) := by rw [List.getElem?_map, hn0]; rfl
    refine Wp.ixal upd_same (show atI _ ((0 : Nat) : Int) = _ from atI_nat hn1) ?_
    walk_at "go"
    refine Wp.setl (j := 0) upd_same (ixN0 (by rw [List.length_map, List.length_append]; simp)) ?_
    rw [upd_upd]
    have ex11 : Ex G0 (upd H10 o (.lst (((outF (rowsOf zs) s1 b1 ++ [1]).map V.int).set 0 (.int (n0 + 5))))) := ex10.mut o0
    have hf11 : upd H10 o (.lst (((outF (rowsOf zs) s1 b1 ++ [1]).map V.int).set 0 (.int (n0 + 5)))) f = some (.lst ((outF (rowsOf zs) s1 b1).map V.int)) := u_ne nof.symm hf10
    generalize upd H10 o (.lst (((outF (rowsOf zs) s1 b1 ++ [1]).map V.int).set 0 (.int (n0 + 5)))) = H11 at *
    walk_at "go"
    intro t1 h1
    have x_t1 : Ex H11 (upd H11 t1 (.tup [.int s2, .bl true])) := Ex.refl.new h1
    have y_t1 : upd H11 t1 (.tup [.int s2, .bl true]) t1 = some (.tup [.int s2, .bl true]) := upd_same
    generalize upd H11 t1 (.tup [.int s2, .bl true]) = A1 at *
    walk_at "go"
    intro t2 h2
    have x_t2 : Ex A1 (upd A1 t2 (.tup [.int s2, .bl false])) := Ex.refl.new h2
    have y_t2 : upd A1 t2 (.tup [.int s2, .bl false]) t2 = some (.tup [.int s2, .bl false]) := upd_same
    generalize upd A1 t2 (.tup [.int s2, .bl false]) = A2 at *
    walk_at "go"
    intro t3 h3
    have x_t3 : Ex A2 (upd A2 t3 (.tup [.int s1, .bl (!b1)])) := Ex.refl.new h3
    have y_t3 : upd A2 t3 (.tup [.int s1, .bl (!b1)]) t3 = some (.tup [.int s1, .bl (!b1)]) := upd_same
    generalize upd A2 t3 (.tup [.int s1, .bl (!b1)]) = A3 at *
    walk_at "go"
    intro t4 h4
    have x_t4 : Ex A3 (upd A3 t4 (.tup [.int 0, .bl true])) := Ex.refl.new h4
    have y_t4 : upd A3 t4 (.tup [.int 0, .bl true]) t4 = some (.tup [.int 0, .bl true]) := upd_same
    generalize upd A3 t4 (.tup [.int 0, .bl true]) = A4 at *
    walk_at "go"
    intro t5 h5
    have x_t5 : Ex A4 (upd A4 t5 (.lst [.ref t1, .ref t2, .ref t3, .ref t4])) := Ex.refl.new h5
    have y_t5 : upd A4 t5 (.lst [.ref t1, .ref t2, .ref t3, .ref t4]) t5 = some (.lst [.ref t1, .ref t2, .ref t3, .ref t4]) := upd_same
    generalize upd A4 t5 (.lst [.ref t1, .ref t2, .ref t3, .ref t4]) = A5 at *
    walk_at "go"
    have z1 := x_t5 _ _ (x_t4 _ _ (x_t3 _ _ (x_t2 _ _ y_t1)))
    have z2 := x_t5 _ _ (x_t4 _ _ (x_t3 _ _ y_t2))
    have z3 := x_t5 _ _ (x_t4 _ _ y_t3)
    have z4 := x_t5 _ _ y_t4
    have exA : Ex H11 A5 := x_t1.trans (x_t2.trans (x_t3.trans (x_t4.trans x_t5)))
    have ex12 := ex11.trans exA
    have hf12 := exA _ _ hf11
    clear x_t1 x_t2 x_t3 x_t4 x_t5 h1 h2 h3 h4 h5
    refine loopL [.ref t1, .ref t2, .ref t3, .ref t4] (PvW A5 [some (V.ref a1), some (V.ref p), some (V.ref a), some (V.int s1), some (V.int s2), some (V.bl b1), some (V.ref g), some (V.ref o), some (V.ref f)]) ⟨Ex.refl, _, rfl⟩ (fun i σ' H' hi p => SqL.of (p.1 _ _ y_t5)) ?_ ?_
    · rintro i x σ' H' hx ⟨e13, v, rfl⟩
      obtain ⟨t, s3, b3, rfl, ht, hs3⟩ : ∃ t s3 b3, x = V.ref t ∧ A5 t = some (.tup [.int s3, .bl b3]) ∧ SlOk zs s3 := by
        have := List.mem_of_getElem? hx
        simp only [List.mem_cons, List.not_mem_nil, or_false] at this
        rcases this with rfl | rfl | rfl | rfl
        · exact ⟨_, _, _, rfl, z1, hs2⟩
        · exact ⟨_, _, _, rfl, z2, hs2⟩
        · exact ⟨_, _, _, rfl, z3, hs1⟩
        · exact ⟨_, _, _, rfl, z4, SlOk.zero hr6⟩
      have ht' := e13 _ _ ht
      walk_at "go"
      refine even s3 b3 _ _ (ex12.trans e13) hs3 fun o2 H14 e14 o20 ho14 => ?_
      have ht2 := e14 _ _ ht'
      walk_at "go"
      refine deal o2 s3 b3 _ _ ((ex12.trans e13).trans e14) hs3 ho14 fun H15 e15 => ?_
      walk_at "go"
      exact ⟨(e13.trans e14).trans e15, _, rfl⟩
    · rintro σ' H' ⟨e13, v, rfl⟩
      have ex13 := ex12.trans e13
      have hg13 := hg.ex ex13
      have hr13 := hr7.ex ex13
      have hgl : ys.length = zs.length := rows_len hys
      have q1 := hg13.at_
      have q2 := hr13.at_
      walk_at "go"
      refine ite_f (by rw [List.length_map, List.length_map, hgl]; simp) ?_
      walk_at "go"
      rw [List.length_map]
      refine ⟨by omega, ?_⟩
      rw [show ((zs.length : Int)).toNat = zs.length by omega]
      refine loopR (PvX H' [some (V.ref a1), some (V.ref p), some (V.ref a), some (V.int s1), some (V.int s2), some (V.bl b1), some (V.ref g), some (V.ref o), some (V.ref f), v]) ⟨Ex.refl, _, rfl⟩ ?_ ?_
      · rintro i σ' H14 hi ⟨e14, v2, rfl⟩
        have hy : ys[i]? = some (ys[i]'(by omega)) := List.getElem?_eq_getElem (by omega)
        have hz : zs[i]? = some zs[i] := List.getElem?_eq_getElem hi
        have hyz := rows_get hys hy hz
        generalize ys[i]'(by omega) = y at *
        generalize zs[i] = z at *
        have hg14 := hg13.ex e14
        have hr14 := hr13.ex e14
        have hgf : (ys.map fun z => V.ref z.1)[i]? = some (V.ref y.1) := by rw [List.getElem?_map, hy]; rfl
        have hrf : (zs.map fun z => V.ref z.1)[i]? = some (V.ref z.1) := by rw [List.getElem?_map, hz]; rfl
        obtain ⟨dx, hyo⟩ := hg14.row y (List.mem_of_getElem? hy)
        have hzo := hr14.row z (List.mem_of_getElem? hz)
        walk_at "go"
        refine ixal hg14.at_ (atI_nat hgf) ?_
        walk_at "go"
        refine rmeth hyo (gfP _) ?_
        walk_at "go"
        refine ⟨_, rfl, dx, y.2, hyo, fun t ht => ?_⟩
        have hx15 : Ex H14 (upd H14 t (.tup (rowV y.2))) := Ex.refl.new ht
        walk_at "go"
        refine ixal (hx15 _ _ hr14.at_) (atI_nat hrf) ?_
        walk_at "go"
        refine ⟨_, _, rfl, .tup [.int y.2.1, .int y.2.2.1, .int y.2.2.2], rep_row upd_same, ?_, ?_⟩
        · have hq := hx15 _ _ hzo
          rw [← hyz] at hq
          exact rep_row hq
        · walk_at "go"
          exact ⟨e14.trans hx15, _, rfl⟩
      · rintro σ' H14 ⟨e14, v2, rfl⟩
        have hf14 := e14 _ _ (e13 _ _ hf12)
        walk_at "go"
        refine even s1 b1 _ _ (ex13.trans e14) hs1 fun o2 H15 e15 o20 ho15 => ?_
        walk_at "go"
        have hf15 := e15 _ _ hf14
        refine ⟨_, _, rfl, _, rep_ints ho15 (by omega), rep_ints hf15 (by omega), ?_⟩
        walk_at "go"
        exact k _
end
end K41
namespace K41
open PySem L2 Wp
theorem all_mk {l : PySem.W.OpenLaw} {w : World} {K : PySem.W.Frag} {h : Heap} {mg : Str → Option Value} {fa C fI fP f_even_gaps f_shares f_law_pool f_law_draw f_law_pick f_law_rare f_law_few f_law_same f_law_int f_law_gaps f_law_slack f_law_glues f_law_dealt f_law : Addr} (X : K.In h) (G : h.Ns mainGlobals mg) (hfa : mg "law" = some (.ref fa))
    {od0 an0 od1 an1 od2 an2 od3 an3 od4 an4 od5 an5 od6 an6 od7 an7 od8 an8 od9 an9 od10 an10 od11 an11 od12 an12 od13 an13 odI anI odP anP : Option Addr} {sl0 sl1 sl2 sl3 sl4 sl5 sl6 sl7 sl8 sl9 sl10 sl11 sl12 sl13 slI slP : Array (Option Value)} {oc0 kV0 dc0 pm0 cd0 ct0 oc1 kV1 dc1 pm1 cd1 ct1 oc2 kV2 dc2 pm2 cd2 ct2 oc3 kV3 dc3 pm3 cd3 ct3 oc4 kV4 dc4 pm4 cd4 ct4 oc5 kV5 dc5 pm5 cd5 ct5 oc6 kV6 dc6 pm6 cd6 ct6 oc7 kV7 dc7 pm7 cd7 ct7 oc8 kV8 dc8 pm8 cd8 ct8 oc9 kV9 dc9 pm9 cd9 ct9 oc10 kV10 dc10 pm10 cd10 ct10 oc11 kV11 dc11 pm11 cd11 ct11 oc12 kV12 dc12 pm12 cd12 ct12 oc13 kV13 dc13 pm13 cd13 ct13 ocI kVI dcI pmI cdI ctI ocP kVP dcP pmP cdP ctP : Value}
    (aC : PySem.W.nsIn K mainGlobals "Glue" = some (some (.ref C)))
    (aI : PySem.W.findIn K (.ref C) "__init__" = some (some (.ref fI)))
    (iI : PySem.W.isFn K (.ref fI) = true)
    (lI : K.lookup fI = some ⟨ocI, odI, .func (PySem.W.fnOf "__init__" "Glue.__init__" (defArgs s_ginit) (defBody s_ginit) (defScope s_ginit) .none kVI dcI pmI anI cdI ctI), slI⟩)
    (cI : PySem.W.codeIn K cdI "Glue.__init__" = true)
    (kI : PySem.W.keepIn K (.ref fI) = true)
    (aP : PySem.W.findIn K (.ref C) "plain" = some (some (.ref fP)))
    (iP : PySem.W.isFn K (.ref fP) = true)
    (lP : K.lookup fP = some ⟨ocP, odP, .func (PySem.W.fnOf "plain" "Glue.plain" (defArgs s_plain) (defBody s_plain) (defScope s_plain) .none kVP dcP pmP anP cdP ctP), slP⟩)
    (cP : PySem.W.codeIn K cdP "Glue.plain" = true)
    (kP : PySem.W.keepIn K (.ref fP) = true)
    (pg : PySem.W.plainGet K C Str.empty = true)
    (hd : PySem.W.hasDictIn K C = true)
    (po : PySem.W.plainOver K C = true)
    (sa : PySem.W.findIn K (.ref C) "__setattr__" = some (some (.builtin "object.__setattr__")))
    (mk : PySem.W.makesIn K C = true)
    (kc : PySem.W.keepIn K (.ref C) = true)
    (nN : PySem.W.findIn K (.ref C) "natural" = some none)
    (nS : PySem.W.findIn K (.ref C) "stretch" = some none)
    (nK : PySem.W.findIn K (.ref C) "shrink" = some none)
    (a0 : PySem.W.nsIn K mainGlobals "even_gaps" = some (some (.ref f_even_gaps)))
    (l0 : K.lookup f_even_gaps = some ⟨oc0, od0, .func (PySem.W.fnOf "even_gaps" "even_gaps" (defArgs s_even_gaps) (defBody s_even_gaps) (defScope s_even_gaps) .none kV0 dc0 pm0 an0 cd0 ct0), sl0⟩)
    (c0 : PySem.W.codeIn K cd0 "even_gaps" = true)
    (k0 : PySem.W.keepIn K (.ref f_even_gaps) = true)
    (a1 : PySem.W.nsIn K mainGlobals "_shares" = some (some (.ref f_shares)))
    (l1 : K.lookup f_shares = some ⟨oc1, od1, .func (PySem.W.fnOf "_shares" "_shares" (defArgs s_shares) (defBody s_shares) (defScope s_shares) .none kV1 dc1 pm1 an1 cd1 ct1), sl1⟩)
    (c1 : PySem.W.codeIn K cd1 "_shares" = true)
    (k1 : PySem.W.keepIn K (.ref f_shares) = true)
    (a2 : PySem.W.nsIn K mainGlobals "_law_pool" = some (some (.ref f_law_pool)))
    (l2 : K.lookup f_law_pool = some ⟨oc2, od2, .func (PySem.W.fnOf "_law_pool" "_law_pool" (defArgs s_law_pool) (defBody s_law_pool) (defScope s_law_pool) .none kV2 dc2 pm2 an2 cd2 ct2), sl2⟩)
    (c2 : PySem.W.codeIn K cd2 "_law_pool" = true)
    (k2 : PySem.W.keepIn K (.ref f_law_pool) = true)
    (a3 : PySem.W.nsIn K mainGlobals "_law_draw" = some (some (.ref f_law_draw)))
    (l3 : K.lookup f_law_draw = some ⟨oc3, od3, .func (PySem.W.fnOf "_law_draw" "_law_draw" (defArgs s_law_draw) (defBody s_law_draw) (defScope s_law_draw) .none kV3 dc3 pm3 an3 cd3 ct3), sl3⟩)
    (c3 : PySem.W.codeIn K cd3 "_law_draw" = true)
    (k3 : PySem.W.keepIn K (.ref f_law_draw) = true)
    (a4 : PySem.W.nsIn K mainGlobals "_law_pick" = some (some (.ref f_law_pick)))
    (l4 : K.lookup f_law_pick = some ⟨oc4, od4, .func (PySem.W.fnOf "_law_pick" "_law_pick" (defArgs s_law_pick) (defBody s_law_pick) (defScope s_law_pick) .none kV4 dc4 pm4 an4 cd4 ct4), sl4⟩)
    (c4 : PySem.W.codeIn K cd4 "_law_pick" = true)
    (k4 : PySem.W.keepIn K (.ref f_law_pick) = true)
    (a5 : PySem.W.nsIn K mainGlobals "_law_rare" = some (some (.ref f_law_rare)))
    (l5 : K.lookup f_law_rare = some ⟨oc5, od5, .func (PySem.W.fnOf "_law_rare" "_law_rare" (defArgs s_law_rare) (defBody s_law_rare) (defScope s_law_rare) .none kV5 dc5 pm5 an5 cd5 ct5), sl5⟩)
    (c5 : PySem.W.codeIn K cd5 "_law_rare" = true)
    (k5 : PySem.W.keepIn K (.ref f_law_rare) = true)
    (a6 : PySem.W.nsIn K mainGlobals "_law_few" = some (some (.ref f_law_few)))
    (l6 : K.lookup f_law_few = some ⟨oc6, od6, .func (PySem.W.fnOf "_law_few" "_law_few" (defArgs s_law_few) (defBody s_law_few) (defScope s_law_few) .none kV6 dc6 pm6 an6 cd6 ct6), sl6⟩)
    (c6 : PySem.W.codeIn K cd6 "_law_few" = true)
    (k6 : PySem.W.keepIn K (.ref f_law_few) = true)
    (a7 : PySem.W.nsIn K mainGlobals "_law_same" = some (some (.ref f_law_same)))
    (l7 : K.lookup f_law_same = some ⟨oc7, od7, .func (PySem.W.fnOf "_law_same" "_law_same" (defArgs s_law_same) (defBody s_law_same) (defScope s_law_same) .none kV7 dc7 pm7 an7 cd7 ct7), sl7⟩)
    (c7 : PySem.W.codeIn K cd7 "_law_same" = true)
    (k7 : PySem.W.keepIn K (.ref f_law_same) = true)
    (a8 : PySem.W.nsIn K mainGlobals "_law_int" = some (some (.ref f_law_int)))
    (l8 : K.lookup f_law_int = some ⟨oc8, od8, .func (PySem.W.fnOf "_law_int" "_law_int" (defArgs s_law_int) (defBody s_law_int) (defScope s_law_int) .none kV8 dc8 pm8 an8 cd8 ct8), sl8⟩)
    (c8 : PySem.W.codeIn K cd8 "_law_int" = true)
    (k8 : PySem.W.keepIn K (.ref f_law_int) = true)
    (a9 : PySem.W.nsIn K mainGlobals "_law_gaps" = some (some (.ref f_law_gaps)))
    (l9 : K.lookup f_law_gaps = some ⟨oc9, od9, .func (PySem.W.fnOf "_law_gaps" "_law_gaps" (defArgs s_law_gaps) (defBody s_law_gaps) (defScope s_law_gaps) .none kV9 dc9 pm9 an9 cd9 ct9), sl9⟩)
    (c9 : PySem.W.codeIn K cd9 "_law_gaps" = true)
    (k9 : PySem.W.keepIn K (.ref f_law_gaps) = true)
    (a10 : PySem.W.nsIn K mainGlobals "_law_slack" = some (some (.ref f_law_slack)))
    (l10 : K.lookup f_law_slack = some ⟨oc10, od10, .func (PySem.W.fnOf "_law_slack" "_law_slack" (defArgs s_law_slack) (defBody s_law_slack) (defScope s_law_slack) .none kV10 dc10 pm10 an10 cd10 ct10), sl10⟩)
    (c10 : PySem.W.codeIn K cd10 "_law_slack" = true)
    (k10 : PySem.W.keepIn K (.ref f_law_slack) = true)
    (a11 : PySem.W.nsIn K mainGlobals "_law_glues" = some (some (.ref f_law_glues)))
    (l11 : K.lookup f_law_glues = some ⟨oc11, od11, .func (PySem.W.fnOf "_law_glues" "_law_glues" (defArgs s_law_glues) (defBody s_law_glues) (defScope s_law_glues) .none kV11 dc11 pm11 an11 cd11 ct11), sl11⟩)
    (c11 : PySem.W.codeIn K cd11 "_law_glues" = true)
    (k11 : PySem.W.keepIn K (.ref f_law_glues) = true)
    (a12 : PySem.W.nsIn K mainGlobals "_law_dealt" = some (some (.ref f_law_dealt)))
    (l12 : K.lookup f_law_dealt = some ⟨oc12, od12, .func (PySem.W.fnOf "_law_dealt" "_law_dealt" (defArgs s_law_dealt) (defBody s_law_dealt) (defScope s_law_dealt) .none kV12 dc12 pm12 an12 cd12 ct12), sl12⟩)
    (c12 : PySem.W.codeIn K cd12 "_law_dealt" = true)
    (k12 : PySem.W.keepIn K (.ref f_law_dealt) = true)
    (a13 : PySem.W.nsIn K mainGlobals "law" = some (some (.ref f_law)))
    (l13 : K.lookup f_law = some ⟨oc13, od13, .func (PySem.W.fnOf "law" "law" (defArgs s_law) (defBody s_law) (defScope s_law) .none kV13 dc13 pm13 an13 cd13 ct13), sl13⟩)
    (c13 : PySem.W.codeIn K cd13 "law" = true)
    (k13 : PySem.W.keepIn K (.ref f_law) = true)
    (z_abs : PySem.W.nsIn K mainGlobals "abs" = some none)
    (z_bool : PySem.W.nsIn K mainGlobals "bool" = some none)
    (z_int : PySem.W.nsIn K mainGlobals "int" = some none)
    (z_isinstance : PySem.W.nsIn K mainGlobals "isinstance" = some none)
    (z_len : PySem.W.nsIn K mainGlobals "len" = some none)
    (z_list : PySem.W.nsIn K mainGlobals "list" = some none)
    (z_range : PySem.W.nsIn K mainGlobals "range" = some none)
    (z_str : PySem.W.nsIn K mainGlobals "str" = some none)
    (z_sum : PySem.W.nsIn K mainGlobals "sum" = some none)
    (z_tuple : PySem.W.nsIn K mainGlobals "tuple" = some none)
    (z_zip : PySem.W.nsIn K mainGlobals "zip" = some none)
    : ∃ fd : FuncData, (∀ (s : Shared) (v : Value), BindsTo s fd ⟨[v], []⟩ [("script", v)]) ∧ ∀ base : Heap, K.In base → base.Ns mainGlobals mg → FnOk l.prog w K mg base CX0 6 fa fd ["script"] (spLaw K) := by
  have e := hfa.symm.trans (PySem.W.mg_of X G a13)
  cases e
  have T : Txt mg := ⟨PySem.W.mg_none_of X G z_abs, PySem.W.mg_none_of X G z_bool, PySem.W.mg_none_of X G z_int, PySem.W.mg_none_of X G z_isinstance, PySem.W.mg_none_of X G z_len, PySem.W.mg_none_of X G z_list, PySem.W.mg_none_of X G z_range, PySem.W.mg_none_of X G z_str, PySem.W.mg_none_of X G z_sum, PySem.W.mg_none_of X G z_tuple, PySem.W.mg_none_of X G z_zip⟩
  have GT : GlT K mg C := ⟨⟨pg, hd, po, sa⟩, nN, nS, nK, PySem.W.mg_of X G aC⟩
  have F0 := fun_mk (st := s_even_gaps) l0 c0 k0
  have b0 := F0.binds (ps := ["glues", "slack", "stretching"]) fun _ _ _ _ _ _ us hl => match us, hl with | [_, _, _], _ => rfl
  have F1 := fun_mk (st := s_shares) l1 c1 k1
  have b1 := F1.binds (ps := ["parts", "amount"]) fun _ _ _ _ _ _ us hl => match us, hl with | [_, _], _ => rfl
  have F2 := fun_mk (st := s_law_pool) l2 c2 k2
  have b2 := F2.binds (ps := ["script"]) fun _ _ _ _ _ _ us hl => match us, hl with | [_], _ => rfl
  have F3 := fun_mk (st := s_law_draw) l3 c3 k3
  have b3 := F3.binds (ps := ["pool", "many"]) fun _ _ _ _ _ _ us hl => match us, hl with | [_, _], _ => rfl
  have F4 := fun_mk (st := s_law_pick) l4 c4 k4
  have b4 := F4.binds (ps := ["pool", "row"]) fun _ _ _ _ _ _ us hl => match us, hl with | [_, _], _ => rfl
  have F5 := fun_mk (st := s_law_rare) l5 c5 k5
  have b5 := F5.binds (ps := ["pool", "many"]) fun _ _ _ _ _ _ us hl => match us, hl with | [_, _], _ => rfl
  have F6 := fun_mk (st := s_law_few) l6 c6 k6
  have b6 := F6.binds (ps := ["pool", "usual", "most"]) fun _ _ _ _ _ _ us hl => match us, hl with | [_, _, _], _ => rfl
  have F7 := fun_mk (st := s_law_same) l7 c7 k7
  have b7 := F7.binds (ps := ["got", "due"]) fun _ _ _ _ _ _ us hl => match us, hl with | [_, _], _ => rfl
  have F8 := fun_mk (st := s_law_int) l8 c8 k8
  have b8 := F8.binds (ps := ["got"]) fun _ _ _ _ _ _ us hl => match us, hl with | [_], _ => rfl
  have F9 := fun_mk (st := s_law_gaps) l9 c9 k9
  have b9 := F9.binds (ps := ["pool"]) fun _ _ _ _ _ _ us hl => match us, hl with | [_], _ => rfl
  have F10 := fun_mk (st := s_law_slack) l10 c10 k10
  have b10 := F10.binds (ps := ["pool", "rows"]) fun _ _ _ _ _ _ us hl => match us, hl with | [_, _], _ => rfl
  have F11 := fun_mk (st := s_law_glues) l11 c11 k11
  have b11 := F11.binds (ps := ["rows", "alike"]) fun _ _ _ _ _ _ us hl => match us, hl with | [_, _], _ => rfl
  have F12 := fun_mk (st := s_law_dealt) l12 c12 k12
  have b12 := F12.binds (ps := ["got", "rows", "slack", "stretching"]) fun _ _ _ _ _ _ us hl => match us, hl with | [_, _, _, _], _ => rfl
  have F13 := fun_mk (st := s_law) l13 c13 k13
  have FI := fun_mk (st := s_ginit) lI cI kI
  have bI := FI.binds (ps := ["self", "natural", "stretch", "shrink"]) fun _ _ _ _ _ _ us hl => match us, hl with | [_, _, _, _], _ => rfl
  have FP := fun_mk (st := s_plain) lP cP kP
  have bP := FP.binds (ps := ["self"]) fun _ _ _ _ _ _ us hl => match us, hl with | [_], _ => rfl
  refine ⟨PySem.W.fnOf "law" "law" (defArgs s_law) (defBody s_law) (defScope s_law) .none kV13 dc13 pm13 an13 cd13 ct13, fun s v => .of_eq rfl, fun base _ _ => ?_⟩
  have GC_Glue : DefC l.prog w K mg base 1 "Glue" C ["self", "natural", "stretch", "shrink"] (spGinit C) := ⟨_, _, ⟨mk, aI, iI, kc⟩, ok_ginit FI GT, PySem.W.mg_of X G aC, bI⟩
  have GM_plain : DefM l.prog w K mg base 1 C "plain" ["self"] (spPlain C) := ⟨_, _, GT.cl, ⟨aP, iP, kP⟩, ok_plain FP GT, bP⟩
  have G_shares : Def l.prog w K mg base 1 "_shares" ["parts", "amount"] (spShares) := ⟨_, _, ok_shares F1 T , PySem.W.mg_of X G a1, k1, b1⟩
  have G_law_pool : Def l.prog w K mg base 1 "_law_pool" ["script"] (spPoolL K) := ⟨_, _, ok_law_pool F2 T , PySem.W.mg_of X G a2, k2, b2⟩
  have G_law_draw : Def l.prog w K mg base 1 "_law_draw" ["pool", "many"] (spDrawL) := ⟨_, _, ok_law_draw F3 T , PySem.W.mg_of X G a3, k3, b3⟩
  have G_law_int : Def l.prog w K mg base 1 "_law_int" ["got"] (spInt) := ⟨_, _, ok_law_int F8 T , PySem.W.mg_of X G a8, k8, b8⟩
  have G_even_gaps : Def l.prog w K mg base 2 "even_gaps" ["glues", "slack", "stretching"] (spEven C) := ⟨_, _, ok_even_gaps F0 T GT G_shares, PySem.W.mg_of X G a0, k0, b0⟩
  have G_law_pick : Def l.prog w K mg base 2 "_law_pick" ["pool", "row"] (spPick) := ⟨_, _, ok_law_pick F4 T G_law_draw, PySem.W.mg_of X G a4, k4, b4⟩
  have G_law_rare : Def l.prog w K mg base 2 "_law_rare" ["pool", "many"] (spRare) := ⟨_, _, ok_law_rare F5 T G_law_draw, PySem.W.mg_of X G a5, k5, b5⟩
  have G0 : Def l.prog w K mg base 0 "_law_same" ["got", "due"] (fun _ _ _ _ => False) := ⟨_, _, ⟨fun _ _ _ _ h => h.elim, fun _ _ _ _ _ _ _ _ _ _ _ _ _ h => h.elim⟩, PySem.W.mg_of X G a7, k7, b7⟩
  have G1 : Def l.prog w K mg base 1 "_law_same" ["got", "due"] (spSame 0) := ⟨_, _, ok_law_same0 F7 T G0, PySem.W.mg_of X G a7, k7, b7⟩
  have G_law_same : Def l.prog w K mg base 2 "_law_same" ["got", "due"] (spSame 1) := ⟨_, _, ok_law_sameS (n := 0) F7 T G1, PySem.W.mg_of X G a7, k7, b7⟩
  have G_law_slack : Def l.prog w K mg base 2 "_law_slack" ["pool", "rows"] (spSlack) := ⟨_, _, ok_law_slack F10 T G_law_draw, PySem.W.mg_of X G a10, k10, b10⟩
  have G_law_dealt : Def l.prog w K mg base 2 "_law_dealt" ["got", "rows", "slack", "stretching"] (spDealt) := ⟨_, _, ok_law_dealt F12 T G_law_int, PySem.W.mg_of X G a12, k12, b12⟩
  have G_law_few : Def l.prog w K mg base 3 "_law_few" ["pool", "usual", "most"] (spFew) := ⟨_, _, ok_law_few F6 T G_law_draw G_law_rare, PySem.W.mg_of X G a6, k6, b6⟩
  have G_law_glues : Def l.prog w K mg base 3 "_law_glues" ["rows", "alike"] (spGlues C) := ⟨_, _, ok_law_glues F11 T GT GC_Glue , PySem.W.mg_of X G a11, k11, b11⟩
  have G_law_gaps : Def l.prog w K mg base 4 "_law_gaps" ["pool"] (spGaps) := ⟨_, _, ok_law_gaps F9 T G_law_pick G_law_draw G_law_few G_law_rare, PySem.W.mg_of X G a9, k9, b9⟩
  exact ok_law F13 T GM_plain G_law_pool G_law_gaps G_law_slack G_law_draw G_law_glues G_even_gaps G_law_dealt G_law_same
theorem walk {l : PySem.W.OpenLaw} {q : Program} {loose : List Str} {XP : (Str → Option Value) → Heap → Prop} {YP : World → Heap → Prop} {d : DefRec} {K : Params → PySem.W.Frag} (hn : l.most = some 63) (hdf : d.params.defaults = [])
    (hY : ∀ (w : World) (h : Heap), YP w h → (K w.params).In h)
    (F : ∀ (w : World) (mg : Str → Option Value) (fa : Addr) (h : Heap), (K w.params).In h → h.Ns mainGlobals mg → mg d.name = some (.ref fa) →
      ∃ fd : FuncData, (∀ (s : Shared) (u : Value), BindsTo s fd ⟨[u], []⟩ [("script", u)]) ∧ ∀ base : Heap, (K w.params).In base → base.Ns mainGlobals mg → FnOk l.prog w (K w.params) mg base CX0 6 fa fd ["script"] (spLaw (K w.params))) :
    PySem.W.WalkO q loose XP YP l.row.toRowW d [] (fun f vs => PySem.call f vs) :=
  L2.walk_of (n := 63) (k := 6) (x := "script") (CX := fun _ => CX0) (sp := fun w => spLaw (K w.params)) hn (by decide) hdf ⟨rfl, by decide, by decide⟩ hY F (fun _ _ a ns hl _ hS => ⟨a, ns, rfl, hS, hl, fun _ => rfl⟩) fun _ _ _ _ _ z => z
end K41
open PySem PySem.W PyProof.Rows
set_option maxRecDepth 100000 in
set_option maxHeartbeats 0 in
theorem PySem.Challenge.cw_galleywork_k41_evened_gaps_holds : PySem.Challenge.rw_galleywork_k41_evened_gaps.Holds := by
  w_on; o_law; k_head; (case hw => w_witness2)
  k_fill
  refine K41.walk (l := PySem.Challenge.rw_galleywork_k41_evened_gaps) rfl rfl (fun w h Y => PySem.W.kIn_of Y) ?F
  case F =>
    intro w mg fa h KX G hmg
    refine' K41.all_mk KX G hmg ?aC ?aI ?iI ?lI ?cI ?kI ?aP ?iP ?lP ?cP ?kP ?pg ?hd ?po ?sa ?mk ?kc ?nN ?nS ?nK ?a0 ?l0 ?c0 ?k0 ?a1 ?l1 ?c1 ?k1 ?a2 ?l2 ?c2 ?k2 ?a3 ?l3 ?c3 ?k3 ?a4 ?l4 ?c4 ?k4 ?a5 ?l5 ?c5 ?k5 ?a6 ?l6 ?c6 ?k6 ?a7 ?l7 ?c7 ?k7 ?a8 ?l8 ?c8 ?k8 ?a9 ?l9 ?c9 ?k9 ?a10 ?l10 ?c10 ?k10 ?a11 ?l11 ?c11 ?k11 ?a12 ?l12 ?c12 ?k12 ?a13 ?l13 ?c13 ?k13 ?z_abs ?z_bool ?z_int ?z_isinstance ?z_len ?z_list ?z_range ?z_str ?z_sum ?z_tuple ?z_zip
    (case aC => k_is)
    (case aI => k_is)
    (case iI => k_is)
    (case lI => k_is)
    (case cI => k_is)
    (case kI => k_is)
    (case aP => k_is)
    (case iP => k_is)
    (case lP => k_is)
    (case cP => k_is)
    (case kP => k_is)
    (case pg => k_is)
    (case hd => k_is)
    (case po => k_is)
    (case sa => k_is)
    (case mk => k_is)
    (case kc => k_is)
    (case nN => k_is)
    (case nS => k_is)
    (case nK => k_is)
    (case a0 => k_is)
    (case l0 => k_is)
    (case c0 => k_is)
    (case k0 => k_is)
    (case a1 => k_is)
    (case l1 => k_is)
    (case c1 => k_is)
    (case k1 => k_is)
    (case a2 => k_is)
    (case l2 => k_is)
    (case c2 => k_is)
    (case k2 => k_is)
    (case a3 => k_is)
    (case l3 => k_is)
    (case c3 => k_is)
    (case k3 => k_is)
    (case a4 => k_is)
    (case l4 => k_is)
    (case c4 => k_is)
    (case k4 => k_is)
    (case a5 => k_is)
    (case l5 => k_is)
    (case c5 => k_is)
    (case k5 => k_is)
    (case a6 => k_is)
    (case l6 => k_is)
    (case c6 => k_is)
    (case k6 => k_is)
    (case a7 => k_is)
    (case l7 => k_is)
    (case c7 => k_is)
    (case k7 => k_is)
    (case a8 => k_is)
    (case l8 => k_is)
    (case c8 => k_is)
    (case k8 => k_is)
    (case a9 => k_is)
    (case l9 => k_is)
    (case c9 => k_is)
    (case k9 => k_is)
    (case a10 => k_is)
    (case l10 => k_is)
    (case c10 => k_is)
    (case k10 => k_is)
    (case a11 => k_is)
    (case l11 => k_is)
    (case c11 => k_is)
    (case k11 => k_is)
    (case a12 => k_is)
    (case l12 => k_is)
    (case c12 => k_is)
    (case k12 => k_is)
    (case a13 => k_is)
    (case l13 => k_is)
    (case c13 => k_is)
    (case k13 => k_is)
    (case z_abs => k_is)
    (case z_bool => k_is)
    (case z_int => k_is)
    (case z_isinstance => k_is)
    (case z_len => k_is)
    (case z_list => k_is)
    (case z_range => k_is)
    (case z_str => k_is)
    (case z_sum => k_is)
    (case z_tuple => k_is)
    (case z_zip => k_is)
#print axioms PySem.Challenge.cw_galleywork_k41_evened_gaps_holds
